import PyProof.Rows.All
import Wide.All
import OpenK.AllK
import Wide.FinOn
import Lean
import PyProof.EqAt
import PyProof.EqKinds
import PyProof.TupleCall
import PyProof.ZipIter
import PyProof.Draws
import PyProof.TupleIter
import PyProof.ListMulRoad
import PyProof.FactsAll.tuple
import PyProof.ReprRoads
import PyProof.Rows.RegFStrParts
import PyProof.Rows.Range3
import KE.KIntText
import PyProof.AutoListH
import PyProof.Rows.MinMaxN
import PyProof.SetScanFacts
import PyProof.SetKind
import PyProof.DictKinds
import PyProof.WalkLemmas
import PyProof.CollectWalk
import PyProof.FactsAll.set
import PyProof.Walks
import PyProof.WalksS
import PyProof.SetRoads
import PyProof.Rows.SetFrom
import PyProof.Rows.SortWalk
import PyProof.EnumMake
import PyProof.EnumFor
import PyProof.DictItemsLoops
import PyProof.DictWalks
import KE.KDictList
import PyProof.Rows.SumAny
import KE.KRevIter
import KE.KDictOf
import PyProof.AttrMissHeap
import PyProof.NsDelKeeps
import PyProof.RulesAs
import KE.KTryMore
import PyProof.ExcArgsOwn
import KE.KUnpack
import PyProof.ExcClass2
import OpenK.KMake
import OpenK.KGet
import PyProof.InstStore
import PyProof.InstStoreFacts
import OpenK.KCls
import OpenK.KMore
import PyProof.FString4
import PyProof.StrLawsRepr
import KE.KEqDict
import KE.KItemsList
import PyProof.FactsAll.NoneType_1
import PySem.Challenge.RW_wardsmith_k37_rings_of_wings
set_option Elab.async false
set_option linter.all false
set_option maxRecDepth 100000
namespace L2
open PySem PySem.Spec PyProof.Rows
abbrev Key:=Sum Int Str
def keyIs:Key→Value→Bool
 | .inl k,v=>Value.isInt k v
 | .inr x,v=>Value.isStrOf x v
def keyH (w:World):Key→Int
 | .inl k=>hashInt k
 | .inr x=>hashStr w x
theorem keyIs_shape:∀ {k:Key} {v:Value},keyIs k v=true→(∃ i t,k=Sum.inl i∧v=Value.int i t)∨(∃ x t,k=Sum.inr x∧v=Value.str x t)
 | .inl i,v,h=>by
  obtain ⟨t,e⟩:=Value.isInt_shape (k:=i) (v:=v) h
  exact .inl ⟨i,t,rfl,e⟩
 | .inr x,v,h=>by
  obtain ⟨t,e⟩:=Value.isStrOf_shape (x:=x) (v:=v) h
  exact .inr ⟨x,t,rfl,e⟩
theorem keyIs_int (i:Int) (t:Tok):keyIs (.inl i) (.int i t)=true:=by simp [keyIs,Value.isInt]
theorem keyIs_str (x:Str) (t:Tok):keyIs (.inr x) (.str x t)=true:=by simp [keyIs,Value.isStrOf]
theorem key_ll (a b:Int):decide ((Sum.inl a:Key)=Sum.inl b)=(a==b):=by
 by_cases e:a=b
 ·subst e;simp
 ·have h:¬ (Sum.inl a:Key)=Sum.inl b:=fun q=>e (Sum.inl.inj q)
  rw [decide_eq_false h]
  exact (beq_eq_false_iff_ne.mpr e).symm
theorem key_rr (a b:Str):decide ((Sum.inr a:Key)=Sum.inr b)=decide (a=b):=by
 by_cases e:a=b
 ·subst e;simp
 ·have h:¬ (Sum.inr a:Key)=Sum.inr b:=fun q=>e (Sum.inr.inj q)
  rw [decide_eq_false h,decide_eq_false e]
theorem key_lr (a:Int) (b:Str):decide ((Sum.inl a:Key)=Sum.inr b)=false:=decide_eq_false (fun q=>nomatch q)
theorem key_rl (a:Str) (b:Int):decide ((Sum.inr a:Key)=Sum.inl b)=false:=decide_eq_false (fun q=>nomatch q)
def mixKind (prog:Program) (w:World):PySem.KeyKind prog w Key where
 is:=keyIs
 hash:=keyH w
 inj:=fun v a b ha hb=>by
  rcases keyIs_shape ha with ⟨i,t,rfl,rfl⟩|⟨x,t,rfl,rfl⟩
  ·rcases keyIs_shape hb with ⟨j,u,rfl,e⟩|⟨y,u,rfl,e⟩
   ·injection e with e1 _;rw [e1]
   ·exact nomatch e
  ·rcases keyIs_shape hb with ⟨j,u,rfl,e⟩|⟨y,u,rfl,e⟩
   ·exact nomatch e
   ·injection e with e1 _;rw [e1]
 byValue:=fun k v h=>by
  rcases keyIs_shape h with ⟨i,t,rfl,rfl⟩|⟨x,t,rfl,rfl⟩<;>rfl
 pyHash:=fun hv h=>by
  rcases keyIs_shape hv with ⟨i,t,rfl,rfl⟩|⟨x,t,rfl,rfl⟩
  ·exact wpAny_pyHash_int h
  ·exact wpAny_pyHash_str h
 eqBool:=fun hu hv h=>by
  rcases keyIs_shape hu with ⟨i,t,rfl,rfl⟩|⟨x,t,rfl,rfl⟩
  ·rcases keyIs_shape hv with ⟨j,u,rfl,rfl⟩|⟨y,u,rfl,rfl⟩
   ·rw [key_ll] at h;exact wpAny_eqBool_int h
   ·rw [key_lr] at h;exact SeqAt.EqAt.int_str i t y u _ _ _ _ h
  ·rcases keyIs_shape hv with ⟨j,u,rfl,rfl⟩|⟨y,u,rfl,rfl⟩
   ·rw [key_rl] at h;exact SeqAt.EqAt.str_int x t j u _ _ _ _ h
   ·rw [key_rr] at h;exact wpAny_eqBool_str h
 «strs» :=fun k x t v h=>by
  rcases keyIs_shape h with ⟨i,u,rfl,e⟩|⟨y,u,rfl,e⟩
  ·exact nomatch e
  ·injection e with e1 _
   subst e1
   cases v<;>rfl
theorem mixKind_int (prog:Program) (w:World) (i:Int) (t:Tok):(mixKind prog w).is (.inl i) (.int i t)=true:=keyIs_int i t
theorem mixKind_str (prog:Program) (w:World) (x:Str) (t:Tok):(mixKind prog w).is (.inr x) (.str x t)=true:=keyIs_str x t
end L2
namespace L2
open PySem PySem.Spec PyProof.Rows
inductive V where
 |non|bl (b:Bool)|int (i:Int)|str (x:Str)|byt (b:Array UInt8)|flt (b:UInt64)|ref (a:Addr)|ty (n:String)
 deriving DecidableEq
def RelV:V→Value→Prop
 | .non,u=>u=Value.none
 | .bl b,u=>u=Value.bool b
 | .int i,u=>∃ t,u=Value.int i t
 | .str x,u=>∃ t,u=Value.str x t
 | .byt b,u=>∃ t,u=Value.bytes b t
 | .flt b,u=>∃ t,u=Value.float b t
 | .ref a,u=>u=Value.ref a
 | .ty n,u=>u=Value.type n
abbrev Vals:List V→List Value→Prop:=Paired RelV
theorem Vals.length {xs:List V} {us:List Value} (r:Vals xs us):xs.length=us.length:=Paired.length r
theorem Vals.get:∀ {xs:List V} {us:List Value} {i:Nat} {x:V},Vals xs us→xs[i]? =some x→∃ u,us[i]? =some u∧RelV x u
 |_,_,_,_, .nil,e=>by simp at e
 |_,_,0,_, .cons r _,e=>by simp at e;subst e;exact ⟨_,rfl,r⟩
 |_,_,i+1,x, .cons _ t,e=>by
  obtain ⟨u,h1,h2⟩:=Vals.get (i:=i) (x:=x) t (by simpa using e)
  exact ⟨u,by simpa using h1,h2⟩
theorem Vals.set {x:V} {u:Value} (r:RelV x u):∀ {xs:List V} {us:List Value} (i:Nat),Vals xs us→Vals (xs.set i x) (us.set i u)
 |_,_,_, .nil=> .nil
 |_,_,0, .cons _ t=> .cons r t
 |_,_,i+1, .cons q t=> .cons q (Vals.set r i t)
theorem Vals.append:∀ {xs ys:List V} {us ws:List Value},Vals xs us→Vals ys ws→Vals (xs++ys) (us++ws)
 |_,_,_,_, .nil,s=>s
 |_,_,_,_, .cons r t,s=> .cons r (Vals.append t s)
theorem Vals.take:∀ {xs:List V} {us:List Value} (n:Nat),Vals xs us→Vals (xs.take n) (us.take n)
 |_,_,0,_=> .nil
 |_,_,_+1, .nil=> .nil
 |_,_,n+1, .cons r t=> .cons r (Vals.take n t)
theorem Vals.drop:∀ {xs:List V} {us:List Value} (n:Nat),Vals xs us→Vals (xs.drop n) (us.drop n)
 |_,_,0,r=>r
 |_,_,_+1, .nil=> .nil
 |_,_,n+1, .cons _ t=>Vals.drop n t
def RelO:Option V→Option Value→Prop
 |some v,some u=>RelV v u
 |none,none=>True
 |_,_=>False
def KV {κ:Type}:List (κ×V)→List (κ×Value)→Prop:=Paired fun (p:κ×V) (q:κ×Value)=>p.1=q.1∧RelV p.2 q.2
def kV:Key→V
 | .inl i=> .int i
 | .inr x=> .str x
inductive HO where
  |lst (xs:List V)
  |tup (xs:List V)
  |dK (kvs:List (Key×V))|dT (kvs:List (List Key×V))
  |set (S:Int→Bool) (n:Nat)
  |ins (C dx:Addr) (fs:List (Str×V))
  |own (x:Addr)
  |xd (fs:List (Str×V))
  |met (f x:Addr)
  |rng (lo hi:Int)
  |frz (o:Obj) (u:HO)
  |tbl (ps:Array Value)
  |ext (φ:Heap→Prop)
abbrev Hp:=Addr→Option HO
def upd (H:Hp) (a:Addr) (o:HO):Hp:=fun b=>if b=a then some o else H b
theorem upd_same {H:Hp} {a:Addr} {o:HO}:upd H a o a=some o:=by unfold upd;rw [if_pos rfl]
theorem upd_ne {H:Hp} {a b:Addr} {o:HO} (h:b≠a):upd H a o b=H b:=by unfold upd;rw [if_neg h]
theorem upd_upd {H:Hp} {a:Addr} {o u:HO}:upd (upd H a o) a u=upd H a u:=by
 funext b;unfold upd;split<;>rfl
theorem ne_of_none {H:Hp} {a b:Addr} {o:HO} (h:H a=some o) (h':H b=none):a≠b:=by
 intro e;subst e;rw [h] at h';cases h'
section
variable (P:Program) (w:World)
def ObjOk (H:Hp) (h:Heap) (a:Addr):HO→Prop
 | .lst xs=>xs.length≤sizeLine∧∃ (its:List Value) (n:Nat),Vals xs its∧h.get? a=some {cls:= .type "list",data:= .seq its.toArray n}
 | .tup xs=>xs.length≤sizeLine∧∃ its:List Value,Vals xs its∧IsTup h a its.toArray
 | .dK kvs=>kvs.length≤sizeLine∧(a==sysModules)=false∧∃ vs,KV kvs vs∧h.DictOf (mixKind P w) a vs
 | .dT kvs=>kvs.length≤sizeLine∧(a==sysModules)=false∧∃ xs:List (List Key×Addr×Value),
   Paired (fun (p:List Key×V) (q:List Key×Addr×Value)=>p.1=q.1∧H q.2.1=some (.tup (p.1.map kV))∧RelV p.2 q.2.2) kvs xs∧
   ∃ o es ep,h.get? a=some o∧o.ExactDict∧o.data= .dict es ep∧es.toList=xs.map (entryOfKey (tupleKind (mixKind P w)))∧(xs.map (·.1)).Nodup
 | .set S n=>h.SetOf (intKind P w) a S n
 | .ins C dx fs=>H dx=some (.own a)∧fs.length≤1000∧dx≠a∧h.get? a=some (PySem.W.instObj C dx)∧
   ∃ mA,h.Ns1 dx mA∧(∀ f,RelO (fs.lookup f) (mA f))∧PySem.Within mA (fs.map (·.1))
 | .own _=>∃ o,h.get? a=some o
 | .xd fs=>∃ mA,h.Ns1 a mA∧∀ f,RelO (fs.lookup f) (mA f)
 | .rng lo hi=>∃ t u v,h.get? a=some {cls:= .type "range",data:= .fields #[.int lo t, .int hi u, .int 1 v]}
 | .frz o u=>h.get? a=some o∧ObjOk H h a u
 | .tbl ps=>h.get? a=some {cls:= .none,data:= .fields ps}
 | .met f x=>h.get? a=some (PySem.W.methodObj (.ref f) (.ref x))
 | .ext φ=>φ h∧(∃ o,h.get? a=some o)∧∀ h1 h2:Heap,φ h1→(∀ o,h1.get? a=some o→h2.get? a=some o)→φ h2
def HOk (H:Hp) (h:Heap):Prop:=∀ a o,H a=some o→ObjOk P w H h a o
end
section
variable {P:Program} {w:World} {H H':Hp} {h h':Heap} {a:Addr} {o:HO}
theorem ObjOk.lt (x:ObjOk P w H h a o):a<h.objs.size:=by
 cases o with
 |lst xs=>obtain ⟨_,_,_,_,e⟩:=x;exact Heap.lt_size e
 |tup xs=>obtain ⟨_,_,_,p⟩:=x;exact p.lt
 |dK kvs=>obtain ⟨_,_,_,_,o,_,_,e,_⟩:=x;exact Heap.lt_size e
 |dT kvs=>obtain ⟨_,_,_,_,o,_,_,e,_⟩:=x;exact Heap.lt_size e
 |set S n=>obtain ⟨o,_,_,_,e,_⟩:=x;exact Heap.lt_size e
 |ins C dx fs=>obtain ⟨_,_,_,e,_⟩:=x;exact Heap.lt_size e
 |own y=>obtain ⟨_,e⟩:=x;exact Heap.lt_size e
 |xd fs=>obtain ⟨_,⟨_,_,_,e,_⟩,_⟩:=x;exact Heap.lt_size e
 |rng lo hi=>obtain ⟨_,_,_,e⟩:=x;exact Heap.lt_size e
 |frz ob u=>obtain ⟨e,_⟩:=x;exact Heap.lt_size e
 |tbl ps=>exact Heap.lt_size (show h.get? a=some _ from x)
 |met f y=>exact Heap.lt_size (show h.get? a=some _ from x)
 |ext φ=>obtain ⟨_,⟨_,e⟩,_⟩:=x;exact Heap.lt_size e
theorem Paired.mapP {α β:Type} {F G:α→β→Prop}:∀ {l₁:List α} {l₂:List β},Paired F l₁ l₂→(∀ a b,F a b→G a b)→Paired G l₁ l₂
 |_,_, .nil,_=> .nil
 |_,_, .cons r t,f=> .cons (f _ _ r) (Paired.mapP t f)
theorem ObjOk.stay (x:ObjOk P w H h a o) (k:∀ b u,(b=a∨H b=some (.own a))→h.get? b=some u→h'.get? b=some u)
  (ho:∀ b,H b=some (.own a)→H' b=some (.own a)) (ht:∀ b xs,H b=some (.tup xs)→H' b=some (.tup xs)):ObjOk P w H' h' a o:=by
 induction o with
 |lst xs=>obtain ⟨z,its,n,r,e⟩:=x;exact ⟨z,its,n,r,k _ _ (.inl rfl) e⟩
 |tup xs=>obtain ⟨z,its,r,ob,e,c⟩:=x;exact ⟨z,its,r,ob,k _ _ (.inl rfl) e,c⟩
 |dK kvs=>obtain ⟨z,y,vs,r,ob,es,ep,e,c⟩:=x;exact ⟨z,y,vs,r,ob,es,ep,k _ _ (.inl rfl) e,c⟩
 |dT kvs=>
  obtain ⟨z,y,xs,r,ob,es,ep,e,c⟩:=x
  exact ⟨z,y,xs,Paired.mapP r fun p q z=>⟨z.1,ht _ _ z.2.1,z.2.2⟩,ob,es,ep,k _ _ (.inl rfl) e,c⟩
 |set S n=>obtain ⟨ob,es,ep,t,e,c⟩:=x;exact ⟨ob,es,ep,t,k _ _ (.inl rfl) e,c⟩
 |ins C dx fs=>
  obtain ⟨d,z,ne,e,mA,⟨od,es,ep,e2,c⟩,r⟩:=x
  exact ⟨ho _ d,z,ne,k _ _ (.inl rfl) e,mA,⟨od,es,ep,k _ _ (.inr d) e2,c⟩,r⟩
 |own y=>obtain ⟨ob,e⟩:=x;exact ⟨ob,k _ _ (.inl rfl) e⟩
 |xd fs=>obtain ⟨mA,⟨od,es,ep,e,c⟩,r⟩:=x;exact ⟨mA,⟨od,es,ep,k _ _ (.inl rfl) e,c⟩,r⟩
 |rng lo hi=>obtain ⟨t,u,v,e⟩:=x;exact ⟨t,u,v,k _ _ (.inl rfl) e⟩
 |frz ob u ih=>obtain ⟨e,q⟩:=x;exact ⟨k _ _ (.inl rfl) e,ih q⟩
 |tbl ps=>
  have e:h.get? a=some {cls:= .none,data:= .fields ps}:=x
  show h'.get? a=some {cls:= .none,data:= .fields ps}
  exact k a _ (.inl rfl) e
 |met f y=>
  have e:h.get? a=some (PySem.W.methodObj (.ref f) (.ref y)):=x
  show h'.get? a=some (PySem.W.methodObj (.ref f) (.ref y))
  exact k a _ (.inl rfl) e
 |ext φ=>obtain ⟨p,⟨o,e⟩,st⟩:=x;exact ⟨st _ _ p fun o q=>k _ _ (.inl rfl) q,⟨o,k _ _ (.inl rfl) e⟩,st⟩
theorem HOk.lt (x:HOk P w H h) (e:H a=some o):a<h.objs.size:=(x a o e).lt
theorem HOk.fresh (x:HOk P w H h) (e:h.objs.size≤a):H a=none:=by
 cases q:H a with
 |none=>rfl
 |some u=>exact absurd (Nat.lt_of_lt_of_le (x.lt q) e) (Nat.lt_irrefl _)
theorem HOk.kept (x:HOk P w H h) (k:∀ b u,h.get? b=some u→h'.get? b=some u):HOk P w H h':=fun a o e=>
 (x a o e).stay (fun b u _ q=>k b u q) (fun _ q=>q) fun _ _ q=>q
theorem HOk.laid (x:HOk P w H h) (k:∀ b u,h.get? b=some u→h'.get? b=some u) (hp:h.objs.size≤a) (new:ObjOk P w (upd H a o) h' a o):HOk P w (upd H a o) h':=fun b u e=>by
 have hn:=x.fresh hp
 by_cases hb:b=a
 ·subst hb;rw [upd_same] at e;cases e;exact new
 ·rw [upd_ne hb] at e
  exact (x b u e).stay (fun c v _ q=>k c v q) (fun c q=>by rw [upd_ne (ne_of_none q hn)];exact q) fun c xs q=>by rw [upd_ne (ne_of_none q hn)];exact q
end
def Rd (H:Hp) (a:Addr) (u:HO):Prop:=H a=some u∨∃ o,H a=some (.frz o u)
theorem Rd.of {H:Hp} {a:Addr} {u:HO} (h:H a=some u):Rd H a u:= .inl h
theorem Rd.ok {P:Program} {w:World} {H:Hp} {h:Heap} {a:Addr} {u:HO} (r:Rd H a u) (x:HOk P w H h):ObjOk P w H h a u:=by
 rcases r with r|⟨o,r⟩
 ·exact x a u r
 ·obtain ⟨_,q⟩:=x a _ r
  exact q
def Mut:Option HO→Prop
 |some (.lst _)=>True
 |some (.dK _)=>True
 |some (.dT _)=>True
 |some (.set _ _)=>True
 |some (.ins _ _ _)=>True
 |some (.ext _)=>True
 |_=>False
section
variable {P:Program} {w:World} {H:Hp} {h h':Heap} {x e:Addr} {o':HO}
theorem HOk.write (ok:HOk P w H h) (mu:Mut (H x)) (he:e=x∨H e=some (.own x)) (k:∀ b u,b≠e→h.get? b=some u→h'.get? b=some u) (heo:∃ u,h'.get? e=some u)
  (new:ObjOk P w (upd H x o') h' x o'):HOk P w (upd H x o') h':=fun b u q=>by
 have nown:∀ c y,H c=some (.own y)→c≠x:=fun c y r z=>by subst z;rw [r] at mu;exact mu
 have ntup:∀ c xs,H c=some (.tup xs)→c≠x:=fun c xs r z=>by subst z;rw [r] at mu;exact mu
 by_cases hb:b=x
 ·subst hb;rw [upd_same] at q;cases q;exact new
 ·rw [upd_ne hb] at q
  by_cases hbe:b=e
  ·have q':H b=some (.own x):=by
    rcases he with z|z
    ·exact absurd (hbe.trans z) hb
    ·rw [hbe];exact z
   rw [q] at q';cases q'
   obtain ⟨v,hv⟩:=heo
   exact ⟨v,by rw [hbe];exact hv⟩
  ·refine (ok b u q).stay (fun c v hc r=>k c v ?_ r) (fun c r=>by rw [upd_ne (nown c b r)];exact r) fun c xs r=>by rw [upd_ne (ntup c xs r)];exact r
   rcases hc with rfl|hc
   ·exact hbe
   ·rintro rfl
    rcases he with z|z
    ·exact nown c b hc z
    ·rw [hc] at z;cases z;exact hb rfl
end
structure Un (fs ex:List Addr) (H H':Hp) (h h':Heap):Prop where
 keep:∀ b o,h.get? b=some o→H b=none→b∉fs→b∉ex→h'.get? b=some o
 slot:∀ b o,h.get? b=some o→H b=none→b∈fs→b∉ex→∃ sl,h'.get? b=some {o with slots:=sl}
 free:∀ b o,h.get? b=some o→H b=none→b∉ex→H' b=none
 there:∀ b o,h.get? b=some o→b∉ex→∃ o',h'.get? b=some o'
 tups:∀ b xs,H b=some (.tup xs)→H' b=some (.tup xs)
 frzs:∀ b o u,H b=some (.frz o u)→H' b=some (.frz o u)
 tbls:∀ b ps,H b=some (.tbl ps)→∃ more,H' b=some (.tbl (ps++more))
section
variable {fs fs' ex ex':List Addr} {H H1 H2:Hp} {h h1 h2 h':Heap} {a x e:Addr} {o:HO}
theorem Un.any (u:Un fs ex H H1 h h1) {b:Addr} {ob:Obj} (q:h.get? b=some ob) (n:H b=none) (hx:b∉ex):∃ sl,h1.get? b=some {ob with slots:=sl}:=by
 by_cases hb:b∈fs
 ·exact u.slot b ob q n hb hx
 ·exact ⟨ob.slots,u.keep b ob q n hb hx⟩
theorem Un.trans (a:Un fs ex H H1 h h1) (b:Un fs ex H1 H2 h1 h2):Un fs ex H H2 h h2 where
 keep:=fun c ob q n hc hx=>b.keep c ob (a.keep c ob q n hc hx) (a.free c ob q n hx) hc hx
 slot:=fun c ob q n hc hx=>by
  obtain ⟨sl,e1⟩:=a.slot c ob q n hc hx
  obtain ⟨sl',e2⟩:=b.slot c _ e1 (a.free c ob q n hx) hc hx
  exact ⟨sl',e2⟩
 free:=fun c ob q n hx=>by
  obtain ⟨o',e1⟩:=a.there c ob q hx
  exact b.free c o' e1 (a.free c ob q n hx) hx
 there:=fun c ob q hx=>by
  obtain ⟨o',e1⟩:=a.there c ob q hx
  exact b.there c o' e1 hx
 tups:=fun c xs q=>b.tups c xs (a.tups c xs q)
 frzs:=fun c ob xs q=>b.frzs c ob xs (a.frzs c ob xs q)
 tbls:=fun c ps q=>by
  obtain ⟨m1,e1⟩:=a.tbls c ps q
  obtain ⟨m2,e2⟩:=b.tbls c _ e1
  exact ⟨m1++m2,by rw [e2,Array.append_assoc]⟩
theorem Un.kept (k:∀ b u,h.get? b=some u→h'.get? b=some u):Un fs ex H H h h':=
 ⟨fun b ob q _ _ _=>k b ob q,fun b ob q _ _ _=>⟨ob.slots,k b ob q⟩,fun _ _ _ n _=>n,fun b ob q _=>⟨ob,k b ob q⟩,fun _ _ q=>q,fun _ _ _ q=>q,fun _ ps q=>⟨#[],by rw [q];simp⟩⟩
theorem Un.refl:Un fs ex H H h h:=Un.kept fun _ _ q=>q
theorem Un.laid (k:∀ b u,h.get? b=some u→h'.get? b=some u) (hp:h.objs.size≤a) (hn:H a=none):Un fs ex H (upd H a o) h h' where
 keep:=fun b u q _ _ _=>k b u q
 slot:=fun b u q _ _ _=>⟨u.slots,k b u q⟩
 free:=fun b u q n _=>by rw [upd_ne (Nat.ne_of_lt (Nat.lt_of_lt_of_le (Heap.lt_size q) hp))];exact n
 there:=fun b u q _=>⟨u,k b u q⟩
 tups:=fun b xs q=>by rw [upd_ne (ne_of_none q hn)];exact q
 frzs:=fun b u xs q=>by rw [upd_ne (ne_of_none q hn)];exact q
 tbls:=fun b ps q=>⟨#[],by rw [upd_ne (ne_of_none q hn),q];simp⟩
theorem Un.write (mu:Mut (H x)) (he:e=x∨H e=some (.own x)) (k:∀ b u,b≠e→h.get? b=some u→h'.get? b=some u) (heo:∃ u,h'.get? e=some u):Un fs ex H (upd H x o) h h':=by
 have hx:∀ b,H b=none→b≠x:=fun b n z=>by subst z;rw [n] at mu;exact mu
 have hb:∀ b,H b=none→b≠e:=fun b n z=>by
  subst z
  rcases he with r|r
  ·exact hx b n r
  ·rw [n] at r;cases r
 have hm:∀ b u,H b=some u→¬ Mut (some u)→b≠x:=fun b u q nm z=>by subst z;rw [q] at mu;exact nm mu
 refine ⟨fun b u q n _ _=>k b u (hb b n) q,fun b u q n _ _=>⟨u.slots,k b u (hb b n) q⟩,fun b u q n _=>by rw [upd_ne (hx b n)];exact n,fun b u q _=> ?_,
  fun b xs q=>by rw [upd_ne (hm b _ q fun z=>z)];exact q,fun b u xs q=>by rw [upd_ne (hm b _ q fun z=>z)];exact q,fun b ps q=>⟨#[],by rw [upd_ne (hm b _ q fun z=>z),q];simp⟩⟩
 by_cases hbe:b=e
 ·subst hbe;exact heo
 ·exact ⟨u,k b u hbe q⟩
theorem Un.mono (u:Un fs ex H H1 h h1) (hs:∀ b∈fs,b∈fs') (hx:∀ b∈ex,b∈ex'):Un fs' ex' H H1 h h1:=
 ⟨fun b ob q n hb he=>u.keep b ob q n (fun z=>hb (hs b z)) fun z=>he (hx b z),fun _ _ q n _ he=>u.any q n fun z=>he (hx _ z),fun b ob q n he=>u.free b ob q n fun z=>he (hx b z),fun b ob q he=>u.there b ob q fun z=>he (hx b z),u.tups,u.frzs,u.tbls⟩
end
def trk (h:Heap) (H:Hp):List Addr:=(List.range h.objs.size).filter fun a=>(H a).isSome
def hidT (h:Heap) (H:Hp):Heap:=PySem.W.hideAll h (trk h H)
theorem hidT_size (h:Heap) (H:Hp):(hidT h H).objs.size=h.objs.size:=PySem.W.hideAll_size _ _
theorem hidT_get {h:Heap} {H:Hp} {b:Addr} {o:Obj} (e:h.get? b=some o) (n:H b=none):(hidT h H).get? b=some o:=
 PySem.W.hideAll_get _ e fun hm=>by
  have q:(H b).isSome=true:=(List.mem_filter.mp hm).2
  rw [n] at q;simp at q
theorem of_hidT {h:Heap} {H:Hp} {b:Addr} {o:Obj} (e:(hidT h H).get? b=some o):h.get? b=some o∧H b=none:=by
 have e':h.get? b=some o:=PySem.W.of_hideAll (trk h H) e
 refine ⟨e',?_⟩
 cases q:H b with
 |none=>rfl
 |some x=>
  have hm:b∈trk h H:=List.mem_filter.mpr ⟨List.mem_range.mpr (Heap.lt_size e'),by simp [q]⟩
  have z:(hidT h H).get? b=none:=PySem.W.hideAll_none (trk h H) hm
  rw [z] at e;cases e
def allNews (g h:Heap) (L:Addr):List (Addr×Obj):=(List.range h.objs.size).filterMap fun a=>if a=L∨(g.get? a).isSome=true then none else (h.get? a).map fun o=>(a,o)
def rest (g h:Heap) (L d:Addr):List (Addr×Obj):=(allNews g h L).filter fun p=>decide (p.1≠d)
end L2
namespace L2
open PySem PySem.Spec PyProof.Rows
structure Mod (K:PySem.W.Frag) (mg:Str→Option Value) (base:Heap):Prop where
 kin:K.In base
 glob:base.Ns mainGlobals mg
 blt:∃ mb,base.Ns builtinsNs mb∧∀ x:Str,x≠"__name__"→mb x=bootBuiltins x
 nolimit:base.NoLimit
structure Cx where
 prog:Program
 w:World
 K:PySem.W.Frag
 mg:Str→Option Value
 base:Heap
 A:Around
 N:List Str
 s₀:Shared
 H₀:Hp
 env:Env
 outer:List Env
 stack:List Env
 ex:List Addr
 fn:Str→Bool
 calm:Bool
 pn:List (Addr×Obj)
 xe:Value→Shared→Prop
def frs (l:List Env):List Addr:=l.filterMap (·.frame)
abbrev Cx.fs (X:Cx):List Addr:=frs X.outer
def Vis (sc:Scope) (x:Str):Prop:=sc.names.lookup x=some .local∨sc.names.lookup x=some .cell∨sc.names.lookup x=some .free
def Loc (sc:Scope) (x:Str):Prop:=sc.names.lookup x=some .local∨sc.names.lookup x=some .cell
def Look (env:Env) (h:Heap) (m:Str→Option Value) (x:Str) (u:Value):Prop:=
 (env.kindOf x=some .local∧m x=some u)∨((env.kindOf x=some .cell∨env.kindOf x=some .free)∧∃ c,env.cells.lookup x=some c∧h.IsCell c (some u))
structure Cx.Ok (X:Cx):Prop where
 mod:Mod X.K X.mg X.base
 kind:X.env.scope.kind= .function
 glob:X.env.globals=mainGlobals
 blt:X.env.builtins=builtinsNs
 above:X.s₀.heap.objs.size≤X.env.locals
 inj:∀ x y c,X.env.cells.lookup x=some c→X.env.cells.lookup y=some c→x=y
 has:∀ x,(X.env.kindOf x=some .cell∨X.env.kindOf x=some .free)→∃ c,X.env.cells.lookup x=some c
 cab:∀ x c,X.fn x=true→X.env.cells.lookup x=some c→X.s₀.heap.objs.size≤c
 hd:X.calm=true→X.A.handled=none
 frames:X.A.frames=some X.stack
 stk:X.stack=X.outer∨(X.stack=X.env::X.outer∧X.env.frame=some X.env.locals)
 exf:∀ b∈X.ex,b≠X.env.locals∧∀ x c,X.env.cells.lookup x=some c→c≠b
 bs:∀ b o,X.base.get? b=some o→X.s₀.heap.get? b=some o∧X.H₀ b=none
 bsz:X.base.objs.size≤X.s₀.heap.objs.size
 noex:∀ b o,X.base.get? b=some o→b∉X.ex
 exfs:∀ b∈X.ex,b∉X.fs
 funs:X.s₀.heap.FunFrames X.base X.outer
 frf:∀ b∈X.fs,X.H₀ b=none
structure Inv (X:Cx) (pins:List (Addr×Obj)) (σ:List (Option V)) (H:Hp) (s:Shared):Prop where
 ok:X.Ok
 os:s.os=X.s₀.os
 bare:AllBare s.gens
 base:Un X.fs X.ex X.H₀ H X.s₀.heap s.heap
 loc:∃ m,s.heap.Ns X.env.locals m∧∀ (i:Nat) (x:Str) (v:V),X.N[i]? =some x→σ[i]? =some (some v)→Vis X.env.scope x→∃ u,RelV v u∧Look X.env s.heap m x u
 cell:∀ x c,X.env.cells.lookup x=some c→∃ v,s.heap.IsCell c v
 free:H X.env.locals=none
 freeC:∀ x c,X.env.cells.lookup x=some c→H c=none
 pin:∀ p∈X.pn++pins,s.heap.get? p.1=some p.2∧H p.1=none∧p.1≠X.env.locals∧p.1∉X.fs∧∀ v,p.2.data≠ .cell v
 hok:HOk X.prog X.w H s.heap
 len:σ.length=X.N.length
section
variable {X:Cx} {pins:List (Addr×Obj)} {σ:List (Option V)} {H H':Hp} {s:Shared} {h':Heap}
theorem Cx.Ok.nofr (ok:X.Ok) {b:Addr} {o:Obj} (e:X.base.get? b=some o):b∉X.fs:=fun hb=>by
 have:=(ok.funs.mem hb).1
 rw [e] at this;cases this
theorem Inv.bs (I:Inv X pins σ H s):∀ b o,X.base.get? b=some o→s.heap.get? b=some o∧H b=none:=fun b o e=>
 ⟨I.base.keep b o (I.ok.bs b o e).1 (I.ok.bs b o e).2 (I.ok.nofr e) (I.ok.noex b o e),I.base.free b o (I.ok.bs b o e).1 (I.ok.bs b o e).2 (I.ok.noex b o e)⟩
theorem Inv.bk (I:Inv X pins σ H s):∀ b o,X.base.get? b=some o→s.heap.get? b=some o:=fun b o e=>(I.bs b o e).1
theorem Inv.mod (I:Inv X pins σ H s):Mod X.K X.mg X.base:=I.ok.mod
theorem Inv.kIn (I:Inv X pins σ H s):X.K.In s.heap:=I.ok.mod.kin.keeps I.bk
theorem Inv.nolimit (I:Inv X pins σ H s):s.heap.NoLimit:=I.ok.mod.nolimit.keeps I.bk
theorem Inv.fr (I:Inv X pins σ H s):∃ m,Fr X.base X.env.locals s.heap m:=
 let ⟨m,hn,_⟩:=I.loc
 ⟨m,hn,I.bk,Nat.le_trans I.ok.bsz I.ok.above⟩
theorem Inv.lt (I:Inv X pins σ H s):X.env.locals<s.heap.objs.size:=let ⟨_,hn,_⟩:=I.loc;hn.lt
theorem Inv.sz (I:Inv X pins σ H s):X.s₀.heap.objs.size≤s.heap.objs.size:=Nat.le_trans I.ok.above (Nat.le_of_lt I.lt)
theorem Inv.nofs (I:Inv X pins σ H s) {a:Addr} (h:s.heap.objs.size≤a):a∉X.fs:=fun hb=>by
 obtain ⟨_,o,ho,_⟩:=I.ok.funs.mem hb
 exact absurd (Nat.lt_of_lt_of_le (Heap.lt_size ho) (Nat.le_trans I.sz h)) (Nat.lt_irrefl _)
theorem Inv.cne (I:Inv X pins σ H s):∀ x c,X.env.cells.lookup x=some c→c≠X.env.locals:=fun x c e z=>by
 obtain ⟨v,o,ho,hd⟩:=I.cell x c e
 obtain ⟨m,⟨o',es,ep,ho',hd',_⟩,_⟩:=I.loc
 rw [z,ho'] at ho;cases ho;rw [hd'] at hd;cases hd
theorem Inv.funs (I:Inv X pins σ H s):s.heap.FunFrames X.base X.outer:=by
 have all:∀ (l:List Env),(∀ b∈frs l,b∈X.fs)→X.s₀.heap.FunFrames X.base l→s.heap.FunFrames X.base l:=by
  intro l
  induction l with
  |nil=>intro _ _;trivial
  |cons env r ih=>
   intro hs hl
   obtain ⟨hk,⟨L,o,hf,hn,ho,hd⟩,hr⟩:=hl
   have hL:L∈X.fs:=hs L (by unfold frs;rw [List.filterMap_cons,hf];exact List.mem_cons_self)
   obtain ⟨sl,e⟩:=I.base.slot L o ho (I.ok.frf L hL) hL fun z=>I.ok.exfs L z hL
   exact ⟨hk,⟨L,_,hf,hn,e,hd⟩,ih (fun b hb=>hs b (by unfold frs;rw [List.filterMap_cons,hf];exact List.mem_cons_of_mem _ hb)) hr⟩
 exact all X.outer (fun _ hb=>hb) I.ok.funs
theorem Inv.stack (I:Inv X pins σ H s):s.heap.FunFrames X.base X.stack:=by
 rcases I.ok.stk with e|⟨e,hf⟩
 ·rw [e];exact I.funs
 ·rw [e]
  obtain ⟨m,hn,_⟩:=I.loc
  refine .cons (by rw [I.ok.kind];decide) hf hn ?_ I.funs
  exact Heap.get?_none_of_le (Nat.le_trans I.ok.bsz I.ok.above)
theorem Inv.stkSub (I:Inv X pins σ H s):∀ b∈frs X.stack,b∈X.env.locals::X.fs:=fun b hb=>by
 rcases I.ok.stk with e|⟨e,hf⟩
 ·rw [e] at hb;exact List.mem_cons_of_mem _ hb
 ·rw [e] at hb
  unfold frs at hb
  rw [List.filterMap_cons,hf] at hb
  exact hb
theorem Inv.stkFree (I:Inv X pins σ H s):∀ b∈frs X.stack,H b=none:=fun b hb=>by
 rcases List.mem_cons.mp (I.stkSub b hb) with e|hb
 ·rw [e];exact I.free
 ·obtain ⟨_,o,ho,_⟩:=I.ok.funs.mem hb
  exact I.base.free b o ho (I.ok.frf b hb) fun z=>I.ok.exfs b z hb
theorem Inv.step {g':Array GenState} {t':Nat} {d':Drawn} {ch:List Addr} (I:Inv X pins σ H s)
  (hch:∀ b∈ch,(b∈X.ex∨X.s₀.heap.objs.size≤b)∧b≠X.env.locals∧(∀ x c,X.env.cells.lookup x=some c→c≠b)∧∀ p∈X.pn++pins,p.1≠b)
  (keep:∀ b o,b≠X.env.locals→b∉X.fs→b∉ch→s.heap.get? b=some o→H b=none→h'.get? b=some o)
  (slot:∀ b o,b≠X.env.locals→b∈X.fs→b∉ch→s.heap.get? b=some o→H b=none→∃ sl,h'.get? b=some {o with slots:=sl}) (free:∀ b o,b∉ch→s.heap.get? b=some o→H b=none→H' b=none)
  (there:∀ b o,b∉ch→s.heap.get? b=some o→∃ o',h'.get? b=some o')
  (tups:∀ b xs,H b=some (.tup xs)→H' b=some (.tup xs)) (frzs:∀ b o u,H b=some (.frz o u)→H' b=some (.frz o u)) (tbls:∀ b ps,H b=some (.tbl ps)→∃ more,H' b=some (.tbl (ps++more)))
  (ns:∀ m,s.heap.Ns X.env.locals m→h'.Ns X.env.locals m) (hok:HOk X.prog X.w H' h') (hg:AllBare g'):
  Inv X pins σ H' {s with heap:=h',gens:=g',drawn:=d',toks:=t'}:=by
 have neL:∀ b o,X.s₀.heap.get? b=some o→b≠X.env.locals:=fun b o e=>Nat.ne_of_lt (Nat.lt_of_lt_of_le (Heap.lt_size e) I.ok.above)
 have neC:∀ b o,X.s₀.heap.get? b=some o→b∉X.ex→b∉ch:=fun b o e hx hb=>by
  rcases (hch b hb).1 with z|z
  ·exact hx z
  ·exact absurd (Nat.lt_of_lt_of_le (Heap.lt_size e) z) (Nat.lt_irrefl _)
 have cellK:∀ x c,X.env.cells.lookup x=some c→∀ v,s.heap.IsCell c v→h'.IsCell c v:=fun x c e v ⟨o,ho,hd⟩=>by
  have nch:c∉ch:=fun z=>(hch c z).2.2.1 x c e rfl
  by_cases hc:c∈X.fs
  ·obtain ⟨sl,q⟩:=slot c o (I.cne x c e) hc nch ho (I.freeC x c e)
   exact ⟨_,q,hd⟩
  ·exact ⟨o,keep c o (I.cne x c e) hc nch ho (I.freeC x c e),hd⟩
 refine ⟨I.ok,I.os,hg,⟨fun b o e n hb hx=> ?_,fun b o e n hb hx=> ?_,fun b o e n hx=> ?_,fun b o e hx=> ?_,fun b xs e=>tups b xs (I.base.tups b xs e),fun b o xs e=>frzs b o xs (I.base.frzs b o xs e),fun b ps e=> ?_⟩,?_,fun x c e=> ?_,?_,fun x c e=> ?_,fun p hp=> ?_,hok,I.len⟩
 ·exact keep b o (neL b o e) hb (neC b o e hx) (I.base.keep b o e n hb hx) (I.base.free b o e n hx)
 ·obtain ⟨sl,e1⟩:=I.base.slot b o e n hb hx
  obtain ⟨sl',e2⟩:=slot b _ (neL b o e) hb (neC b o e hx) e1 (I.base.free b o e n hx)
  exact ⟨sl',e2⟩
 ·obtain ⟨o',e1⟩:=I.base.there b o e hx
  exact free b o' (neC b o e hx) e1 (I.base.free b o e n hx)
 ·obtain ⟨o',e1⟩:=I.base.there b o e hx
  exact there b o' (neC b o e hx) e1
 ·obtain ⟨m1,e1⟩:=I.base.tbls b ps e
  obtain ⟨m2,e2⟩:=tbls b _ e1
  exact ⟨m1++m2,by rw [e2,Array.append_assoc]⟩
 ·obtain ⟨m,hn,hl⟩:=I.loc
  refine ⟨m,ns m hn,fun i x v e1 e2 e3=> ?_⟩
  obtain ⟨u,r,l⟩:=hl i x v e1 e2 e3
  refine ⟨u,r,?_⟩
  rcases l with l|⟨k,c,e,z⟩
  ·exact .inl l
  ·exact .inr ⟨k,c,e,cellK x c e _ z⟩
 ·obtain ⟨v,z⟩:=I.cell x c e
  exact ⟨v,cellK x c e v z⟩
 ·obtain ⟨m,⟨o,_,_,ho,_⟩,_⟩:=I.loc
  exact free _ o (fun z=>(hch _ z).2.1 rfl) ho I.free
 ·obtain ⟨v,o,ho,hd⟩:=I.cell x c e
  exact free c o (fun z=>(hch c z).2.2.1 x c e rfl) ho (I.freeC x c e)
 ·obtain ⟨e,n,ne,nf,d⟩:=I.pin p hp
  have nch:p.1∉ch:=fun z=>(hch p.1 z).2.2.2 p hp rfl
  exact ⟨keep p.1 p.2 ne nf nch e n,free p.1 p.2 nch e n,ne,nf,d⟩
theorem Inv.un {t':Nat} (I:Inv X pins σ H s) (u:Un X.fs [] H H' s.heap h') (hok:HOk X.prog X.w H' h'):Inv X pins σ H' {s with heap:=h',toks:=t'}:=by
 obtain ⟨m,⟨o,es,ep,ho,r⟩,_⟩:=id I.loc
 obtain ⟨sl,hL⟩:=u.any ho I.free (by simp)
 exact I.step (g':=s.gens) (d':=s.drawn) (ch:= []) (fun _ z=>nomatch z) (fun b o _ hb _ e n=>u.keep b o e n hb (by simp)) (fun b o _ hb _ e n=>u.slot b o e n hb (by simp)) (fun b o _ e n=>u.free b o e n (by simp)) (fun b o _ e=>u.there b o e (by simp)) u.tups u.frzs u.tbls (fun m' hm=>by
  obtain ⟨o',es',ep',ho',r'⟩:=hm
  rw [ho] at ho';cases ho'
  exact ⟨_,es',ep',hL,r'⟩) hok I.bare
theorem Inv.call {g':Array GenState} {t':Nat} {d':Drawn} {ch:List Addr} (I:Inv X pins σ H s) (u:Un (frs X.stack) ch H H' s.heap h') (hok:HOk X.prog X.w H' h') (hg:AllBare g')
  (hch:∀ b∈ch,(b∈X.ex∨X.s₀.heap.objs.size≤b)∧b≠X.env.locals∧(∀ x c,X.env.cells.lookup x=some c→c≠b)∧∀ p∈X.pn++pins,p.1≠b):
  Inv X pins σ H' {s with heap:=h',gens:=g',drawn:=d',toks:=t'}:=by
 obtain ⟨m,⟨o,es,ep,ho,r⟩,_⟩:=id I.loc
 obtain ⟨sl,hL⟩:=u.any ho I.free fun z=>(hch _ z).2.1 rfl
 exact I.step (ch:=ch) hch (fun b o hL hb hc e n=>u.keep b o e n (fun z=>(List.mem_cons.mp (I.stkSub b z)).elim hL hb) hc) (fun b o _ _ hc e n=>u.any e n hc) (fun b o hc e n=>u.free b o e n hc) (fun b o hc e=>u.there b o e hc) u.tups u.frzs u.tbls (fun m' hm=>by
  obtain ⟨o',es',ep',ho',r'⟩:=hm
  rw [ho] at ho';cases ho'
  exact ⟨_,es',ep',hL,r'⟩) hok hg
theorem Inv.turned {t':Nat} {it:Addr} (I:Inv X pins σ H s) (k:∀ b o,b≠it→s.heap.get? b=some o→h'.get? b=some o) (hn:H it=none) (hL:it≠X.env.locals)
  (h1:it∈X.ex∨X.s₀.heap.objs.size≤it) (h2:∀ x c,X.env.cells.lookup x=some c→c≠it) (h3:∀ p∈X.pn++pins,p.1≠it):Inv X pins σ H {s with heap:=h',toks:=t'}:=by
 have nit:∀ b u,H b=some u→b≠it:=fun b u e z=>by rw [z,hn] at e;cases e
 refine I.step (g':=s.gens) (d':=s.drawn) (ch:= [it]) (fun b hb=> ?_) (fun b o _ _ hc e _=>k b o (fun z=>hc (by simp [z])) e) (fun b o _ _ hc e _=>⟨o.slots,k b o (fun z=>hc (by simp [z])) e⟩) (fun _ _ _ _ n=>n)
  (fun b o hc e=>⟨o,k b o (fun z=>hc (by simp [z])) e⟩) (fun _ _ e=>e) (fun _ _ _ e=>e) (fun b ps e=>⟨#[],by rw [e];simp⟩) (fun m hm=> ?_) (fun b u e=> ?_) I.bare
 ·have e:b=it:=by simpa using hb
  subst e
  exact ⟨h1,hL,h2,h3⟩
 ·obtain ⟨o,es,ep,ho,r⟩:=hm
  exact ⟨o,es,ep,k _ o (Ne.symm hL) ho,r⟩
 ·refine (I.hok b u e).stay (fun c v hc q=>k c v ?_ q) (fun _ q=>q) fun _ _ q=>q
  rcases hc with z|z
  ·rw [z];exact nit b u e
  ·exact nit c _ z
theorem Inv.tok (I:Inv X pins σ H s) (t:Nat):Inv X pins σ H {s with toks:=t}:=I.un (h':=s.heap) (t':=t) Un.refl I.hok
theorem Inv.kept {t':Nat} (I:Inv X pins σ H s) (k:∀ b u,s.heap.get? b=some u→h'.get? b=some u):Inv X pins σ H {s with heap:=h',toks:=t'}:=I.un (Un.kept k) (I.hok.kept k)
theorem Inv.laid {a:Addr} {o:HO} {t':Nat} (I:Inv X pins σ H s) (k:∀ b u,s.heap.get? b=some u→h'.get? b=some u) (hp:s.heap.objs.size≤a) (new:ObjOk X.prog X.w (upd H a o) h' a o):
  Inv X pins σ (upd H a o) {s with heap:=h',toks:=t'}:=I.un (Un.laid k hp (I.hok.fresh hp)) (I.hok.laid k hp new)
theorem Inv.write {x e:Addr} {o:HO} {t':Nat} (I:Inv X pins σ H s) (mu:Mut (H x)) (he:e=x∨H e=some (.own x)) (k:∀ b u,b≠e→s.heap.get? b=some u→h'.get? b=some u) (heo:∃ u,h'.get? e=some u)
  (new:ObjOk X.prog X.w (upd H x o) h' x o):Inv X pins σ (upd H x o) {s with heap:=h',toks:=t'}:=I.un (Un.write mu he k heo) (I.hok.write mu he k heo new)
theorem Inv.weak {σ':List (Option V)} (I:Inv X pins σ H s) (hl:σ'.length=σ.length) (w:∀ (i:Nat) v,σ'[i]? =some (some v)→σ[i]? =some (some v)):Inv X pins σ' H s:=
 ⟨I.ok,I.os,I.bare,I.base,let ⟨m,hn,hl'⟩:=I.loc;⟨m,hn,fun i x v e1 e2 e3=>hl' i x v e1 (w i v e2) e3⟩,I.cell,I.free,I.freeC,I.pin,I.hok,hl.trans I.len⟩
theorem Inv.pins_of {pins':List (Addr×Obj)} (I:Inv X pins σ H s) (h:∀ p∈pins',s.heap.get? p.1=some p.2∧H p.1=none∧p.1≠X.env.locals∧p.1∉X.fs∧∀ v,p.2.data≠ .cell v):Inv X pins' σ H s:=
 ⟨I.ok,I.os,I.bare,I.base,I.loc,I.cell,I.free,I.freeC,fun p hp=>(List.mem_append.mp hp).elim (fun z=>I.pin p (List.mem_append_left _ z)) (h p),I.hok,I.len⟩
theorem nodup_ix {N:List Str} (hN:N.Nodup) {i j:Nat} {x:Str} (a:N[i]? =some x) (b:N[j]? =some x):i=j:=by
 obtain ⟨h1,e1⟩:=List.getElem?_eq_some_iff.mp a
 obtain ⟨h2,e2⟩:=List.getElem?_eq_some_iff.mp b
 exact (List.getElem_inj hN).mp (e1.trans e2.symm)
theorem store_ok2 {M:Model} {A:Around} {E:Value→Shared→Prop} {i:Nat} {x:Str} {v:V} {u:Value} {Q:Unit→Shared→Prop} (I:Inv X pins σ H s) (hN:X.N.Nodup) (hi:X.N[i]? =some x) (hx:Loc X.env.scope x) (r:RelV v u)
  (h:∀ s',Inv X pins (σ.set i (some v)) H s'→(∃ a,Heap.SameBut a s.heap s'.heap∧(a=X.env.locals∨X.env.cells.lookup x=some a))→Q () s') (hf:X.fn x=true∨X.env.scope.names.lookup x=some .local:=by first|exact .inl rfl|exact .inr rfl|assumption):wpAny M A (storeName X.env x u) Q E s:=by
 obtain ⟨m,hn,hl⟩:=id I.loc
 have hcls:(X.env.scope.kind== .class||(X.env.scope.kind== .module&&X.env.locals != X.env.globals))=false:=by rw [I.ok.kind];rfl
 have hiσ:i<σ.length:=by rw [I.len];exact (List.getElem?_eq_some_iff.mp hi).1
 have cne:=I.cne
 have tracked:∀ {a:Addr} {h':Heap},(∃ o,s.heap.get? a=some o∧H a=none)→Heap.SameBut a s.heap h'→HOk X.prog X.w H h':=fun {a h'} ha hs b ob e=>by
  obtain ⟨_,_,hfree⟩:=ha
  refine (I.hok b ob e).stay (fun c w' hc q=>(hs.2 c ?_).trans q) (fun _ q=>q) fun _ _ q=>q
  rintro rfl
  rcases hc with rfl|hc
  ·rw [hfree] at e;cases e
  ·rw [hfree] at hc;cases hc
 rcases hx with hk|hk
 ·refine wpAny_storeName_local hk hn (fun h' hn' hs=> ?_) hcls
  obtain ⟨oL,_,_,hoL,_⟩:=id hn
  refine h _ ⟨I.ok,I.os,I.bare,⟨fun b o e n hb hx=> ?_,fun b o e n hb hx=> ?_,I.base.free,fun b o e hx=> ?_,I.base.tups,I.base.frzs,I.base.tbls⟩,⟨_,hn',fun j y v' e1 e2 e3=> ?_⟩,fun y c e=> ?_,I.free,I.freeC,fun p hp=> ?_,tracked ⟨oL,hoL,I.free⟩ hs,by simpa using I.len⟩ ⟨_,hs, .inl rfl⟩
  ·exact (hs.2 b (Nat.ne_of_lt (Nat.lt_of_lt_of_le (Heap.lt_size e) I.ok.above))).trans (I.base.keep b o e n hb hx)
  ·obtain ⟨sl,e1⟩:=I.base.slot b o e n hb hx
   exact ⟨sl,(hs.2 b (Nat.ne_of_lt (Nat.lt_of_lt_of_le (Heap.lt_size e) I.ok.above))).trans e1⟩
  ·obtain ⟨o',e1⟩:=I.base.there b o e hx
   exact ⟨o',(hs.2 b (Nat.ne_of_lt (Nat.lt_of_lt_of_le (Heap.lt_size e) I.ok.above))).trans e1⟩
  ·by_cases hj:j=i
   ·subst hj
    rw [hi] at e1;cases e1
    rw [List.getElem?_set_self hiσ] at e2
    cases e2
    exact ⟨u,r, .inl ⟨hk,by simp⟩⟩
   ·rw [List.getElem?_set_ne (Ne.symm hj)] at e2
    obtain ⟨u',r',q⟩:=hl j y v' e1 e2 e3
    refine ⟨u',r',?_⟩
    rcases q with ⟨k,e⟩|⟨k,c,e,z⟩
    ·refine .inl ⟨k,?_⟩
     have:y≠x:=fun e=>hj (nodup_ix hN e1 (e▸hi))
     simp [this,e]
    ·exact .inr ⟨k,c,e,z.sameBut hs (cne y c e)⟩
  ·obtain ⟨w',z⟩:=I.cell y c e
   exact ⟨w',z.sameBut hs (cne y c e)⟩
  ·obtain ⟨e,n,ne,nf,d⟩:=I.pin p hp
   exact ⟨(hs.2 p.1 ne).trans e,n,ne,nf,d⟩
 ·have hfn:X.fn x=true:=by
   rcases hf with z|z
   ·exact z
   ·rw [z] at hk;cases hk
  obtain ⟨c,hc⟩:=I.ok.has x (.inl hk)
  obtain ⟨w',z⟩:=I.cell x c hc
  refine wpAny_storeName_cell I.ok.kind hk hc z (fun h' hc' hs=> ?_)
  obtain ⟨oc,hoc,hocd⟩:=id z
  refine h {s with heap:=h'} ⟨I.ok,I.os,I.bare,⟨fun b o e n hb hx=> ?_,fun b o e n hb hx=> ?_,I.base.free,fun b o e hx=> ?_,I.base.tups,I.base.frzs,I.base.tbls⟩,⟨m,hn.sameBut hs (Ne.symm (cne x c hc)),fun j y v' e1 e2 e3=> ?_⟩,fun y c' e=> ?_,I.free,I.freeC,fun p hp=> ?_,tracked ⟨oc,hoc,I.freeC x c hc⟩ hs,by simpa using I.len⟩ ⟨c,hs, .inr hc⟩
  ·exact (hs.2 b (Nat.ne_of_lt (Nat.lt_of_lt_of_le (Heap.lt_size e) (I.ok.cab x c hfn hc)))).trans (I.base.keep b o e n hb hx)
  ·obtain ⟨sl,e1⟩:=I.base.slot b o e n hb hx
   exact ⟨sl,(hs.2 b (Nat.ne_of_lt (Nat.lt_of_lt_of_le (Heap.lt_size e) (I.ok.cab x c hfn hc)))).trans e1⟩
  ·obtain ⟨o',e1⟩:=I.base.there b o e hx
   exact ⟨o',(hs.2 b (Nat.ne_of_lt (Nat.lt_of_lt_of_le (Heap.lt_size e) (I.ok.cab x c hfn hc)))).trans e1⟩
  ·by_cases hj:j=i
   ·subst hj
    rw [hi] at e1;cases e1
    rw [List.getElem?_set_self hiσ] at e2
    cases e2
    exact ⟨u,r, .inr ⟨.inl hk,c,hc,hc'⟩⟩
   ·rw [List.getElem?_set_ne (Ne.symm hj)] at e2
    obtain ⟨u',r',q⟩:=hl j y v' e1 e2 e3
    refine ⟨u',r',?_⟩
    rcases q with q|⟨k,c',e,z'⟩
    ·exact .inl q
    ·refine .inr ⟨k,c',e,z'.sameBut hs ?_⟩
     rintro rfl
     exact hj (nodup_ix hN e1 (I.ok.inj _ _ _ e hc▸hi))
  ·by_cases hcc:c'=c
   ·subst hcc;exact ⟨_,hc'⟩
   ·obtain ⟨w2,z2⟩:=I.cell y c' e
    exact ⟨w2,z2.sameBut hs hcc⟩
  ·obtain ⟨e,n,ne,nf,d⟩:=I.pin p hp
   refine ⟨(hs.2 p.1 ?_).trans e,n,ne,nf,d⟩
   intro q
   rw [q,hoc] at e
   have q':oc=p.2:=Option.some.inj e
   exact d w' (by rw [←q'];exact hocd)
theorem store_ok {M:Model} {A:Around} {E:Value→Shared→Prop} {i:Nat} {x:Str} {v:V} {u:Value} {Q:Unit→Shared→Prop} (I:Inv X pins σ H s) (hN:X.N.Nodup) (hi:X.N[i]? =some x) (hx:Loc X.env.scope x) (r:RelV v u)
  (h:∀ s',Inv X pins (σ.set i (some v)) H s'→Q () s') (hf:X.fn x=true∨X.env.scope.names.lookup x=some .local:=by first|exact .inl rfl|exact .inr rfl|assumption):wpAny M A (storeName X.env x u) Q E s:=
 store_ok2 I hN hi hx r (fun s' I' _=>h s' I') hf
theorem Inv.call' {s':Shared} {ch:List Addr} (I:Inv X pins σ H s) (ho:s'.os=s.os) (u:Un (frs X.stack) ch H H' s.heap s'.heap) (hok:HOk X.prog X.w H' s'.heap) (hg:AllBare s'.gens)
  (hch:∀ b∈ch,(b∈X.ex∨X.s₀.heap.objs.size≤b)∧b≠X.env.locals∧(∀ x c,X.env.cells.lookup x=some c→c≠b)∧∀ p∈X.pn++pins,p.1≠b):Inv X pins σ H' s':=by
 obtain ⟨h',g',d',t',o'⟩:=s'
 have e:o'=s.os:=ho
 subst e
 exact I.call (g':=g') (t':=t') (d':=d') u hok hg hch
end
abbrev XK:=Value→Option Addr×Bool→Hp→Prop
abbrev St:=List (Option V)
abbrev VK:=V→Hp→Prop
abbrev TE:=St→Hp→VK→Prop
abbrev TT:=St→Hp→(Bool→Hp→Prop)→Prop
abbrev TA:=St→Hp→(List V→Hp→Prop)→Prop
structure Ends where
 nx:St→Hp→Prop
 rt:VK
 bk:St→Hp→Prop:=fun _ _=>False
 ct:St→Hp→Prop:=fun _ _=>False
abbrev TS:=Ends→St→Hp→Prop
def EP (X:Cx) (pins:List (Addr×Obj)) (σ:St) (Q:VK) (u:Value) (s':Shared):Prop:=∃ v H',Inv X pins σ H' s'∧RelV v u∧Q v H'
def TP (X:Cx) (pins:List (Addr×Obj)) (σ:St) (Q:Bool→Hp→Prop) (b:Bool) (s':Shared):Prop:=∃ H',Inv X pins σ H' s'∧Q b H'
def AP (X:Cx) (pins:List (Addr×Obj)) (σ:St) (Q:List V→Hp→Prop) (us:List Value) (s':Shared):Prop:=∃ vs H',Inv X pins σ H' s'∧Vals vs us∧Q vs H'
def SP (X:Cx) (pins:List (Addr×Obj)) (D:Ends) (f:Flow) (s':Shared):Prop:=
 match f with
 | .next=>∃ σ' H',Inv X pins σ' H' s'∧D.nx σ' H'
 | .brk=>∃ σ' H',Inv X pins σ' H' s'∧D.bk σ' H'
 | .cont=>∃ σ' H',Inv X pins σ' H' s'∧D.ct σ' H'
 | .ret u=>∃ v σ' H',Inv X pins σ' H' s'∧RelV v u∧D.rt v H'
def PE (X:Cx) (e:Expr) (t:TE):Prop:=
 ∀ (pins:List (Addr×Obj)) (s:Shared) (σ:St) (H:Hp) (Q:VK),Inv X pins σ H s→t σ H Q→wpAny (model X.prog X.w) X.A (eval e X.env) (EP X pins σ Q) X.xe s
def PT (X:Cx) (e:Expr) (t:TT):Prop:=
 ∀ (pins:List (Addr×Obj)) (s:Shared) (σ:St) (H:Hp) (Q:Bool→Hp→Prop),Inv X pins σ H s→t σ H Q→wpAny (model X.prog X.w) X.A (isTrue e X.env (eval e X.env)) (TP X pins σ Q) X.xe s
def PW (X:Cx) (e:Expr) (t:TT):Prop:=
 ∀ (whole:Sem Value) (pins:List (Addr×Obj)) (s:Shared) (σ:St) (H:Hp) (Q:Bool→Hp→Prop),Inv X pins σ H s→t σ H Q→wpAny (model X.prog X.w) X.A (isTrue e X.env whole) (TP X pins σ Q) X.xe s
theorem PW.pt {X:Cx} {e:Expr} {t:TT} (h:PW X e t):PT X e t:=h _
def PA (X:Cx) (es:List Expr) (t:TA):Prop:=
 ∀ (pos:Pos) (pins:List (Addr×Obj)) (s:Shared) (σ:St) (H:Hp) (Q:List V→Hp→Prop),Inv X pins σ H s→t σ H Q→wpAny (model X.prog X.w) X.A (spliced (backTo pos (starEach es X.env))) (AP X pins σ Q) X.xe s
def PS (X:Cx) (st:Stmt) (t:TS):Prop:=
 ∀ (pins:List (Addr×Obj)) (s:Shared) (σ:St) (H:Hp) (D:Ends),Inv X pins σ H s→t D σ H→wpAny (model X.prog X.w) X.A (exec st X.env) (SP X pins D) X.xe s
def PSs (X:Cx) (st:List Stmt) (t:TS):Prop:=
 ∀ (pins:List (Addr×Obj)) (s:Shared) (σ:St) (H:Hp) (D:Ends),Inv X pins σ H s→t D σ H→wpAny (model X.prog X.w) X.A (execs st X.env) (SP X pins D) X.xe s
theorem thn {α:Type} {t:Sem α} {Q Q':α→Shared→Prop} {M:Model} {A:Around} {E:Value→Shared→Prop} {s:Shared} (h:wpAny M A t Q E s) (hQ:∀ a s,Q a s→Q' a s):wpAny M A t Q' E s:=wpAny_mono h hQ fun _ _ x=>x
end L2
namespace L2
open PySem PySem.Spec PyProof.Rows
section
variable {X:Cx}
def tVar (i:Nat):TE:=fun σ H Q=>∃ v,σ[i]? =some (some v)∧Q v H
def tC (v:V):TE:=fun _ H Q=>Q v H
theorem pe_var {i:Nat} {x:Str} {pos:Pos} (hN:X.N[i]? =some x) (hv:Vis X.env.scope x) (hd:(x==("__debug__":Str))=false:=by decide) (hcd:(x==("__classdict__":Str))=false:=by decide):PE X (.Name x pos) (tVar i):=by
 intro pins s σ H Q I h
 obtain ⟨v,e,h⟩:=h
 obtain ⟨m,hn,hl⟩:=I.loc
 obtain ⟨u,r,l⟩:=hl i x v hN e hv
 have fin:EP X pins σ Q u s:=⟨v,H,I,r,h⟩
 rcases l with ⟨hk,hm⟩|⟨hk,c,hc,hcell⟩
 ·exact wpAny_Name (wpAny_loadName_local I.ok.kind hk hn hm fin) hd
 ·rcases hk with hk|hk
  ·exact wpAny_Name (wpAny_loadName_cell I.ok.kind hk hc hcell fin) hd
  ·exact wpAny_Name (wpAny_loadName_free I.ok.kind hk hc hcell fin hcd) hd
theorem pe_int {i j pos}:PE X (.Constant (.int i) j pos) (tC (.int i)):=fun _ _ _ H _ I h=>wpAny_Constant_int ⟨.int i,H,I.tok _,⟨_,rfl⟩,h⟩
theorem pe_bl {b j pos}:PE X (.Constant (.bool b) j pos) (tC (.bl b)):=fun _ _ _ H _ I h=>Constant_bool ⟨.bl b,H,I,rfl,h⟩
theorem pe_non {j pos}:PE X (.Constant .none j pos) (tC .non):=fun _ _ _ H _ I h=>Constant_none ⟨.non,H,I,rfl,h⟩
theorem pe_str {x j pos}:PE X (.Constant (.str x) j pos) (tC (.str x)):=fun _ _ _ H _ I h=>Calls.Constant_str ⟨.str x,H,I.tok _,⟨_,rfl⟩,h⟩
def Gl (X:Cx) (x:Str):Prop:=X.env.kindOf x=some .globalImplicit
theorem ld_glob {E:Value→Shared→Prop} {pins:List (Addr×Obj)} {s:Shared} {σ:St} {H:Hp} {x:Str} {u:Value} {pos:Pos} {Q:Value→Shared→Prop} (I:Inv X pins σ H s) (hg:Gl X x) (hm:X.mg x=some u) (h:Q u s)
  (hd:(x==("__debug__":Str))=false:=by decide):wpAny (model X.prog X.w) X.A (eval (.Name x pos) X.env) Q E s:=
 Calls.Name_function_global I.ok.kind hg (Calls.loadGlobal_global (by rw [I.ok.glob];exact I.mod.glob.keeps I.bk) hm h) hd
theorem ld_blt {E:Value→Shared→Prop} {pins:List (Addr×Obj)} {s:Shared} {σ:St} {H:Hp} {x:Str} {u:Value} {pos:Pos} {Q:Value→Shared→Prop} (I:Inv X pins σ H s) (hg:Gl X x) (hm:X.mg x=none) (hv:bootBuiltins x=some u) (h:Q u s)
  (hn:x≠"__name__":=by decide) (hd:(x==("__debug__":Str))=false:=by decide):wpAny (model X.prog X.w) X.A (eval (.Name x pos) X.env) Q E s:=by
 obtain ⟨mb,h1,h2⟩:=I.mod.blt
 exact Calls.Name_function_global I.ok.kind hg (Calls.loadGlobal_builtin (by rw [I.ok.glob];exact I.mod.glob.keeps I.bk) hm (by rw [I.ok.blt];exact h1.keeps I.bk) ((h2 x hn).trans hv) h) hd
theorem pe_glob {x:Str} {v:V} {u:Value} {pos:Pos} (hg:Gl X x) (hm:X.mg x=some u) (r:RelV v u) (hd:(x==("__debug__":Str))=false:=by decide):PE X (.Name x pos) (tC v):=
 fun _ _ _ H _ I h=>ld_glob I hg hm ⟨v,H,I,r,h⟩ hd
theorem pe_bltn {x:Str} {v:V} {u:Value} {pos:Pos} (hg:Gl X x) (hm:X.mg x=none) (hv:bootBuiltins x=some u) (r:RelV v u) (hn:x≠"__name__":=by decide) (hd:(x==("__debug__":Str))=false:=by decide):PE X (.Name x pos) (tC v):=
 fun _ _ _ H _ I h=>ld_blt I hg hm hv ⟨v,H,I,r,h⟩ hn hd
variable {a b:Expr} {ta tb:TE} {pos:Pos}
def PC (X:Cx) (op:CmpOp) (a b:Expr) (t:TE):Prop:=
 ∀ (pins:List (Addr×Obj)) (s:Shared) (σ:St) (H:Hp) (Q:VK),Inv X pins σ H s→t σ H Q→
  wpAny (model X.prog X.w) X.A (eval a X.env) (fun v s₁=>wpAny (model X.prog X.w) X.A (eval b X.env) (fun u s₂=>wpAny (model X.prog X.w) X.A (compareOp op v u) (EP X pins σ Q) X.xe s₂) X.xe s₁) X.xe s
theorem nobehind (b:Expr) {op:CmpOp} (h:op≠ .In) (h2:op≠ .NotIn):behindInMarks op b=false:=by
 have e1:(op==CmpOp.In)=false:=by cases op<;>first|rfl|exact absurd rfl h
 have e2:(op==CmpOp.NotIn)=false:=by cases op<;>first|rfl|exact absurd rfl h2
 cases b<;>simp [behindInMarks,e1,e2]
def tIsN (ta:TE):TE:=fun σ H Q=>ta σ H fun x H1=>Q (.bl (decide (x= .non))) H1
def tNotN (ta:TE):TE:=fun σ H Q=>ta σ H fun x H1=>Q (.bl (!decide (x= .non))) H1
theorem RelV.none_iff {x:V} {v:Value} (r:RelV x v):(v==Value.none)=decide (x= .non):=by
 cases x with
 |non=>cases r;rfl
 |bl _=>cases r;rfl
 |int _=>obtain ⟨t,rfl⟩:=r;rfl
 |str _=>obtain ⟨t,rfl⟩:=r;rfl
 |byt _=>obtain ⟨t,rfl⟩:=r;rfl
 |flt _=>obtain ⟨t,rfl⟩:=r;rfl
 |ref _=>cases r;rfl
 |ty _=>cases r;rfl
theorem pc_isN {j pos'} (ha:PE X a ta):PC X .Is a (.Constant .none j pos') (tIsN ta):=by
 intro pins s σ H Q I h
 refine thn (ha pins s σ H _ I h) fun v s1 ⟨x,H1,I1,r1,q1⟩=> ?_
 exact Constant_none (is_none_gen ⟨.bl _,H1,I1,by rw [r1.none_iff];rfl,q1⟩)
theorem pc_notN {j pos'} (ha:PE X a ta):PC X .IsNot a (.Constant .none j pos') (tNotN ta):=by
 intro pins s σ H Q I h
 refine thn (ha pins s σ H _ I h) fun v s1 ⟨x,H1,I1,r1,q1⟩=> ?_
 exact Constant_none (isnot_none_gen ⟨.bl _,H1,I1,by rw [r1.none_iff];rfl,q1⟩)
def tB (t:TE):TT:=fun σ H Q=>t σ H fun x H1=>∃ c,x= .bl c∧Q c H1
theorem pe_cmp {op:CmpOp} {t:TE} (h:PC X op a b t) (h1:behindInMarks op b=false:=by first|exact nobehind _ (by decide) (by decide)|rfl):PE X (.Compare a [op] [b] pos) t:=fun pins s σ H Q I hw=>wpAny_Compare1 (h pins s σ H Q I hw) h1
theorem pt_cmp {op:CmpOp} {t:TE} (h:PC X op a b t) (h1:behindInMarks op b=false:=by first|exact nobehind _ (by decide) (by decide)|rfl):PT X (.Compare a [op] [b] pos) (tB t):=by
 intro pins s σ H Q I hw
 refine wpAny_isTrue_Compare1 (thn (h pins s σ H _ I hw) fun v s1 h1=>thn h1 fun u s2 h2=>thn h2 fun c s3 ⟨x,H1,I1,r1,q1⟩=> ?_) h1
 obtain ⟨d,rfl,q⟩:=q1
 cases r1
 exact wpAny_truthy_bool ⟨H1,I1,q⟩
theorem pt_val {e:Expr} {t:TE} (h:PE X e t) (he:∀ whole,isTrue e X.env whole=(do let v ←whole;standAt e.pos;holding [v] (truthy v)):=by intro _;rfl):PT X e (tB t):=by
 intro pins s σ H Q I hw
 refine isTrue_plain (thn (h pins s σ H _ I hw) fun v s1 ⟨x,H1,I1,r1,q1⟩=> ?_) (he _)
 obtain ⟨d,rfl,q⟩:=q1
 cases r1
 exact wpAny_truthy_bool ⟨H1,I1,q⟩
variable {tA tB':TT} {rest:List Expr}
def tAnd (t u:TT):TT:=fun σ H Q=>t σ H fun c H1=>if c=true then u σ H1 Q else Q false H1
def tOr (t u:TT):TT:=fun σ H Q=>t σ H fun c H1=>if c=true then Q true H1 else u σ H1 Q
def tNot (t:TT):TT:=fun σ H Q=>t σ H fun c H1=>Q (!c) H1
theorem pw_and1 (ha:PT X a tA):PW X (.BoolOp .And [a] pos) tA:=by
 intro wh pins s σ H Q I h
 refine isTrue_and (thn (ha pins s σ H Q I h) fun c s1 e=> ?_)
 cases c with
 |true=>exact isTrue_and_nil e
 |false=>exact e
theorem pw_or1 (ha:PT X a tA):PW X (.BoolOp .Or [a] pos) tA:=by
 intro wh pins s σ H Q I h
 refine isTrue_or (thn (ha pins s σ H Q I h) fun c s1 e=> ?_)
 cases c with
 |false=>exact isTrue_or_nil e
 |true=>exact e
theorem pw_and (ha:PT X a tA) (hb:PW X (.BoolOp .And (b::rest) pos) tB'):PW X (.BoolOp .And (a::b::rest) pos) (tAnd tA tB'):=by
 intro wh pins s σ H Q I h
 refine isTrue_and (thn (ha pins s σ H _ I h) fun c s1 ⟨H1,I1,q1⟩=> ?_)
 cases c with
 |true=>exact hb wh pins s1 σ H1 Q I1 q1
 |false=>exact ⟨H1,I1,q1⟩
theorem pw_or (ha:PT X a tA) (hb:PW X (.BoolOp .Or (b::rest) pos) tB'):PW X (.BoolOp .Or (a::b::rest) pos) (tOr tA tB'):=by
 intro wh pins s σ H Q I h
 refine isTrue_or (thn (ha pins s σ H _ I h) fun c s1 ⟨H1,I1,q1⟩=> ?_)
 cases c with
 |true=>exact ⟨H1,I1,q1⟩
 |false=>exact hb wh pins s1 σ H1 Q I1 q1
theorem pt_not (ha:PT X a tA):PT X (.UnaryOp .Not a pos) (tNot tA):=by
 intro pins s σ H Q I h
 exact isTrue_not (ha pins s σ H (fun c H1=>Q (!c) H1) I h)
end
end L2
namespace L2
open PySem PySem.Spec PyProof.Rows
def SqL (K:PySem.W.Frag) (H:Hp) (a:Addr) (xs:List V):Prop:=
 Rd H a (.lst xs)∨
  ∃ (o:Obj) (its:Array Value) (n:Nat),K.lookup a=some o∧o.cls= .type "list"∧o.dict=none∧o.data= .seq its n∧its.size≤sizeLine∧Vals xs its.toList
def SqT (K:PySem.W.Frag) (H:Hp) (a:Addr) (xs:List V):Prop:=
 Rd H a (.tup xs)∨
  ∃ (o:Obj) (its:Array Value) (n:Nat),K.lookup a=some o∧o.cls= .type "tuple"∧o.data= .seq its n∧its.size≤sizeLine∧Vals xs its.toList
def absV:Value→Option V
 | .none=>some .non
 | .bool b=>some (.bl b)
 | .int i _=>some (.int i)
 | .str x _=>some (.str x)
 | .bytes b _=>some (.byt b)
 | .float b _=>some (.flt b)
 | .ref a=>some (.ref a)
 | .type n=>some (.ty n)
 |_=>none
theorem RelV.abs {x:V} {u:Value} (r:RelV x u):absV u=some x:=by
 cases x with
 |non=>cases r;rfl
 |bl _=>cases r;rfl
 |int _=>obtain ⟨t,rfl⟩:=r;rfl
 |str _=>obtain ⟨t,rfl⟩:=r;rfl
 |byt _=>obtain ⟨t,rfl⟩:=r;rfl
 |flt _=>obtain ⟨t,rfl⟩:=r;rfl
 |ref _=>cases r;rfl
 |ty _=>cases r;rfl
theorem RelV.inj {x y:V} {u:Value} (r:RelV x u) (q:RelV y u):x=y:=Option.some.inj (r.abs.symm.trans q.abs)
theorem Vals.inj:∀ {xs ys:List V} {us:List Value},Vals xs us→Vals ys us→xs=ys
 |_,_,_, .nil, .nil=>rfl
 |_,_,_, .cons r t, .cons r' t'=>by rw [r.inj r',Vals.inj t t']
section
variable {X:Cx} {pins:List (Addr×Obj)} {σ:St} {H:Hp} {s:Shared} {a:Addr} {xs ys:List V}
theorem SqL.of {K:PySem.W.Frag} (h:H a=some (.lst xs)):SqL K H a xs:= .inl (.inl h)
theorem SqT.of {K:PySem.W.Frag} (h:H a=some (.tup xs)):SqT K H a xs:= .inl (.inl h)
theorem Inv.list (I:Inv X pins σ H s) (h:SqL X.K H a xs):∃ its:List Value,Vals xs its∧PlainL s.heap a its.toArray∧xs.length≤sizeLine:=by
 rcases h with h|⟨o,its,n,hk,hc,hd,hs,hz,r⟩
 ·obtain ⟨z,its,n,r,e⟩:=h.ok I.hok
  exact ⟨its,r,⟨_,n,e,rfl,rfl,rfl⟩,z⟩
 ·refine ⟨its.toList,r,⟨o,n,I.kIn a o hk,hc,hd,by simpa using hs⟩,?_⟩
  have e:=r.length
  simp only [Array.length_toList] at e
  omega
theorem Inv.tuple (I:Inv X pins σ H s) (h:SqT X.K H a xs):∃ its:List Value,Vals xs its∧IsTup s.heap a its.toArray∧xs.length≤sizeLine:=by
 rcases h with h|⟨o,its,n,hk,hc,hs,hz,r⟩
 ·obtain ⟨z,its,r,p⟩:=h.ok I.hok
  exact ⟨its,r,p,z⟩
 ·refine ⟨its.toList,r,⟨o,I.kIn a o hk,hc,n,by simpa using hs⟩,?_⟩
  have e:=r.length
  simp only [Array.length_toList] at e
  omega
theorem Inv.list_inj (I:Inv X pins σ H s) (h:SqL X.K H a xs) (h':SqL X.K H a ys):xs=ys:=by
 obtain ⟨its,r,⟨o,n,e,_,_,d⟩,_⟩:=I.list h
 obtain ⟨its',r',⟨o',n',e',_,_,d'⟩,_⟩:=I.list h'
 rw [e] at e';cases e'
 rw [d] at d'
 injection d' with d1 _
 have:its=its':=by simpa using congrArg Array.toList d1
 subst this
 exact r.inj r'
theorem Inv.tuple_inj (I:Inv X pins σ H s) (h:SqT X.K H a xs) (h':SqT X.K H a ys):xs=ys:=by
 obtain ⟨its,r,⟨o,e,_,n,d⟩,_⟩:=I.tuple h
 obtain ⟨its',r',⟨o',e',_,n',d'⟩,_⟩:=I.tuple h'
 rw [e] at e';cases e'
 rw [d] at d'
 injection d' with d1 _
 have:its=its':=by simpa using congrArg Array.toList d1
 subst this
 exact r.inj r'
end
abbrev Cx.wish (X:Cx) (E:Value→Shared→Prop):Cx:= {X with xe:=E}
abbrev Cx.nox (X:Cx):Cx:=X.wish fun _ _=>False
theorem Cx.Ok.wish {X:Cx} (ok:X.Ok) (E:Value→Shared→Prop):(X.wish E).Ok:=
 ⟨ok.mod,ok.kind,ok.glob,ok.blt,ok.above,ok.inj,ok.has,ok.cab,ok.hd,ok.frames,ok.stk,ok.exf,ok.bs,ok.bsz,ok.noex,ok.exfs,ok.funs,ok.frf⟩
theorem Cx.Ok.unwish {X:Cx} {E:Value→Shared→Prop} (ok:(X.wish E).Ok):X.Ok:=
 ⟨ok.mod,ok.kind,ok.glob,ok.blt,ok.above,ok.inj,ok.has,ok.cab,ok.hd,ok.frames,ok.stk,ok.exf,ok.bs,ok.bsz,ok.noex,ok.exfs,ok.funs,ok.frf⟩
section
variable {X:Cx} {pins:List (Addr×Obj)} {σ:St} {H:Hp} {s:Shared} {E:Value→Shared→Prop}
theorem Inv.wish (I:Inv X pins σ H s) (E:Value→Shared→Prop):Inv (X.wish E) pins σ H s:=⟨I.ok.wish E,I.os,I.bare,I.base,I.loc,I.cell,I.free,I.freeC,I.pin,I.hok,I.len⟩
theorem Inv.unwish (I:Inv (X.wish E) pins σ H s):Inv X pins σ H s:=⟨I.ok.unwish,I.os,I.bare,I.base,I.loc,I.cell,I.free,I.freeC,I.pin,I.hok,I.len⟩
theorem SP.unwish {D:Ends} {f:Flow} {s':Shared} (h:SP (X.wish E) pins D f s'):SP X pins D f s':=by
 cases f with
 |next=>obtain ⟨σ',H',I,q⟩:=h;exact ⟨σ',H',I.unwish,q⟩
 |brk=>obtain ⟨σ',H',I,q⟩:=h;exact ⟨σ',H',I.unwish,q⟩
 |cont=>obtain ⟨σ',H',I,q⟩:=h;exact ⟨σ',H',I.unwish,q⟩
 |ret u=>obtain ⟨v,σ',H',I,r,q⟩:=h;exact ⟨v,σ',H',I.unwish,r,q⟩
theorem PE.nox {e:Expr} {t:TE} (h:PE X.nox e t):PE X e t:=fun pins s σ H Q I hw=>
 wpAny_mono (h pins s σ H Q (I.wish _) hw) (fun _ _ ⟨v,H',I',r,q⟩=>⟨v,H',I'.unwish,r,q⟩) fun _ _ z=>False.elim z
theorem PT.nox {e:Expr} {t:TT} (h:PT X.nox e t):PT X e t:=fun pins s σ H Q I hw=>
 wpAny_mono (h pins s σ H Q (I.wish _) hw) (fun _ _ ⟨H',I',q⟩=>⟨H',I'.unwish,q⟩) fun _ _ z=>False.elim z
theorem PSs.nox {st:List Stmt} {t:TS} (h:PSs X.nox st t):PSs X st t:=fun pins s σ H D I hw=>
 wpAny_mono (h pins s σ H D (I.wish _) hw) (fun _ _ q=>q.unwish) fun _ _ z=>False.elim z
end
section
variable {X:Cx} {st:Stmt} {rest:List Stmt} {t u:TS} {e:Expr} {te:TE} {pos:Pos}
def tNext:TS:=fun D σ H=>D.nx σ H
def tSeq (t u:TS):TS:=fun D σ H=>t {D with nx:=u D} σ H
theorem pss_nil:PSs X [] tNext:=fun _ _ σ H _ I h=>wpAny_execs_nil ⟨σ,H,I,h⟩
theorem pss_cons (h1:PS X st t) (h2:PSs X rest u):PSs X (st::rest) (tSeq t u):=by
 intro pins s σ H D I h
 refine wpAny_execs_cons (thn (h1 pins s σ H {D with nx:=u D} I h) fun f s1 q=> ?_)
 cases f with
 |next=>
  obtain ⟨σ',H',I',q⟩:=q
  exact h2 pins s1 σ' H' D I' q
 |ret v=>exact q
 |brk=>exact q
 |cont=>exact q
theorem pss_one (h1:PS X st t):PSs X [st] t:=by
 intro pins s σ H D I h
 refine wpAny_execs_cons (thn (h1 pins s σ H D I h) fun f s1 q=> ?_)
 cases f with
 |next=>exact wpAny_execs_nil q
 |ret v=>exact q
 |brk=>exact q
 |cont=>exact q
theorem Inv.quiet {pins:List (Addr×Obj)} {σ:St} {H:Hp} {s:Shared} (I:Inv X pins σ H s):interactive X.env=false:=by simp [interactive,I.ok.kind]
def tDrop (te:TE):TS:=fun D σ H=>te σ H fun _ H1=>D.nx σ H1
theorem ps_expr (he:PE X e te) (hs:swapsWith e none pos.line X.env=pure false:=by rfl):PS X (.Expr e pos) (tDrop te):=by
 intro pins s σ H D I h
 exact wpAny_Expr_any (thn (he pins s σ H _ I h) fun v s1 ⟨x,H1,I1,r1,q1⟩=>⟨σ,H1,I1,q1⟩) I.quiet hs
def tRet (te:TE):TS:=fun D σ H=>te σ H D.rt
theorem ps_ret (he:PE X e te):PS X (.Return (some e) pos) (tRet te):=by
 intro pins s σ H D I h
 exact wpAny_Return_some (thn (he pins s σ H _ I h) fun v s1 ⟨x,H1,I1,r1,q1⟩=>⟨x,σ,H1,I1,r1,q1⟩)
def tIfS (c:TT) (t u:TS):TS:=fun D σ H=>c σ H fun b H1=>if b=true then t D σ H1 else u D σ H1
theorem ps_if {c:Expr} {a b:List Stmt} {tc:TT} (hc:PT X c tc) (ha:PSs X a t) (hb:PSs X b u):PS X (.If c a b pos) (tIfS tc t u):=by
 intro pins s σ H D I h
 refine wpAny_If (thn (hc pins s σ H _ I h) fun d s1 ⟨H1,I1,q1⟩=> ?_)
 cases d with
 |true=>exact ha pins s1 σ H1 D I1 q1
 |false=>exact hb pins s1 σ H1 D I1 q1
end
abbrev TG:=V→St→Hp→(St→Hp→Prop)→Prop
abbrev TGs:=List V→St→Hp→(St→Hp→Prop)→Prop
def PG (X:Cx) (target:Expr) (t:TG):Prop:=
 ∀ (pins:List (Addr×Obj)) (s:Shared) (σ:St) (H:Hp) (v:V) (u:Value) (Q:St→Hp→Prop),Inv X pins σ H s→RelV v u→t v σ H Q→
  wpAny (model X.prog X.w) X.A (assign target X.env u) (fun _ s'=>∃ σ' H',Inv X pins σ' H' s'∧Q σ' H') X.xe s
def PGs (X:Cx) (ts:List Expr) (t:TGs):Prop:=
 ∀ (pins:List (Addr×Obj)) (s:Shared) (σ:St) (H:Hp) (vs:List V) (us:List Value) (Q:St→Hp→Prop),Inv X pins σ H s→Vals vs us→t vs σ H Q→
  wpAny (model X.prog X.w) X.A (assignInOrder ((assignEach ts X.env).map (·.2)) us) (fun _ s'=>∃ σ' H',Inv X pins σ' H' s'∧Q σ' H') X.xe s
abbrev TSet:=V→V→V→Hp→(Hp→Prop)→Prop
def PSet (X:Cx) (t:TSet):Prop:=
 ∀ (pins:List (Addr×Obj)) (s:Shared) (σ:St) (H:Hp) (o i v:V) (ov iv u:Value) (Q:Hp→Prop),Inv X pins σ H s→RelV o ov→RelV i iv→RelV v u→t o i v H Q→
  wpAny (model X.prog X.w) X.A (setItem ov iv u) (fun _ s'=>∃ H',Inv X pins σ H' s'∧Q H') X.xe s
section
variable {X:Cx} {pos:Pos}
def gName (i:Nat):TG:=fun v σ H Q=>Q (σ.set i (some v)) H
theorem pg_name {i:Nat} {x:Str} (hN:X.N.Nodup) (hi:X.N[i]? =some x) (hx:Loc X.env.scope x) (hf:X.fn x=true∨X.env.scope.names.lookup x=some .local:=by first|exact .inl rfl|exact .inr rfl|assumption):PG X (.Name x pos) (gName i):=by
 intro pins s σ H v u Q I r h
 exact wpAny_assign_Name (store_ok I hN hi hx r (fun s' I'=>⟨_,H,I',h⟩) hf)
def gNil:TGs:=fun vs σ H Q=>vs= []∧Q σ H
def gCons (t:TG) (u:TGs):TGs:=fun vs σ H Q=>∃ v r,vs=v::r∧t v σ H fun σ' H'=>u r σ' H' Q
theorem pgs_nil:PGs X [] gNil:=by
 intro pins s σ H vs us Q I r h
 obtain ⟨e,h⟩:=h
 subst e
 cases r
 exact assignInOrder_nil ⟨σ,H,I,h⟩
theorem pgs_cons {e:Expr} {es:List Expr} {t:TG} {u:TGs} (h1:PG X e t) (h2:PGs X es u)
  (hs:(assignEach (e::es) X.env).map (·.2)=assign e X.env::(assignEach es X.env).map (·.2):=by rfl):PGs X (e::es) (gCons t u):=by
 intro pins s σ H vs us Q I r h
 obtain ⟨v,vr,e1,h⟩:=h
 subst e1
 cases r with
 |cons r rr=>
  rw [hs]
  refine assignInOrder_cons (thn (h1 pins s σ H _ _ _ I r h) fun _ s1 ⟨σ1,H1,I1,q1⟩=> ?_)
  exact h2 pins s1 σ1 H1 _ _ Q I1 rr q1
def gTup (K:PySem.W.Frag) (n:Nat) (t:TGs):TG:=fun v σ H Q=>∃ a xs,v= .ref a∧SqT K H a xs∧xs.length=n∧t xs σ H Q
theorem pg_tup {es:List Expr} {k:Nat} {t:TGs} {n:Nat} (hc:X.calm=true) (h:PGs X es t)
  (hn:(assignEach es X.env).length=n:=by rfl) (hst:(assignEach es X.env).findIdx? (·.1)=none:=by rfl):PG X (.Tuple es k pos) (gTup X.K n t):=by
 intro pins s σ H v u Q I r hw
 obtain ⟨a,xs,e1,hq,hl,hw⟩:=hw
 subst e1
 cases r
 obtain ⟨its,rv,ht,hz⟩:=I.tuple hq
 refine assign_Tuple_tuple (I.ok.hd hc) ht (by simp [hn,←hl,rv.length]) hst fun h' hx=> ?_
 have I1:Inv X pins σ H {s with heap:=h'}:=I.kept (t':=s.toks) fun b o e=>hx b o (Nat.ne_of_lt (Heap.lt_size e)) e
 exact h pins _ σ H xs _ Q I1 (by simpa using rv) hw
def gSub (to ti:TE) (t:TSet):TG:=fun v σ H Q=>to σ H fun o H1=>ti σ H1 fun i H2=>t o i v H2 fun H3=>Q σ H3
theorem pg_sub {o i:Expr} {to ti:TE} {t:TSet} (ho:PE X o to) (hi:PE X i ti) (hs:PSet X t)
  (ha:∀ v,assign (.Subscript o i pos) X.env v=(do
   let ov ←holding [v] (eval o X.env)
   let iv ←holding [v,ov] (eval i X.env)
   standAt pos
   holding [v,ov,iv] (setItem ov iv v)
   release [v,ov,iv] []):=by intro _;rfl):PG X (.Subscript o i pos) (gSub to ti t):=by
 intro pins s σ H v u Q I r h
 rw [ha]
 refine wpAny_bind (wpAny_holding (thn (ho pins s σ H _ I h) fun ov s1 ⟨x,H1,I1,r1,q1⟩=> ?_))
 refine wpAny_bind (wpAny_holding (thn (hi pins s1 σ H1 _ I1 q1) fun iv s2 ⟨y,H2,I2,r2,q2⟩=> ?_))
 refine wpAny_bind (wpAny_standAt (wpAny_bind (wpAny_holding (thn (hs pins s2 σ H2 x y v ov iv u _ I2 r1 r2 r q2) fun _ s3 ⟨H3,I3,q3⟩=> ?_))))
 exact wpAny_release ⟨σ,H3,I3,q3⟩
def tAsg (te:TE) (g:TG):TS:=fun D σ H=>te σ H fun x H1=>g x σ H1 D.nx
theorem ps_asg {tg e:Expr} {te:TE} {g:TG} (he:PE X e te) (hg:PG X tg g) (hs:swapsWithSole [tg] e pos.line X.env=pure false:=by rfl) (hw:swappedStores [tg] e X.env=pure none:=by rfl)
  (h1:(assignEach [tg] X.env).map (·.2)= [assign tg X.env]:=by rfl):PS X (.Assign [tg] e pos) (tAsg te g):=by
 intro pins s σ H D I h
 refine wpAny_Assign_stores (thn (he pins s σ H _ I h) fun v s1 ⟨x,H1,I1,r1,q1⟩=> ?_) hs hw
 rw [h1]
 exact thn (hg pins s1 σ H1 x v _ I1 r1 q1) fun _ s2 q=>q
theorem ps_set {i:Nat} {x:Str} {e:Expr} {te:TE} {pos':Pos} (hN:X.N.Nodup) (hi:X.N[i]? =some x) (hx:Loc X.env.scope x) (he:PE X e te) (hs:swapsWith e (some (.Name x pos')) pos.line X.env=pure false:=by rfl) (hf:X.fn x=true∨X.env.scope.names.lookup x=some .local:=by first|exact .inl rfl|exact .inr rfl|assumption):
  PS X (.Assign [.Name x pos'] e pos) (tAsg te (gName i)):=by
 intro pins s σ H D I h
 refine wpAny_Assign_Name (thn (he pins s σ H _ I h) fun v s1 ⟨y,H1,I1,r1,q1⟩=> ?_) hs
 exact store_ok I1 hN hi hx r1 (fun s2 I2=>⟨_,H1,I2,q1⟩) hf
end
section
variable {X:Cx} {pos:Pos}
def tWhile (c:TT) (tb:TS):TS:=fun D σ H=>∃ W:Nat→St→Hp→Prop,(∃ m,W m σ H)∧∀ m σ H,W m σ H→
 c σ H fun b H1=>if b=true then ∃ N:St→Hp→Prop,(∀ σ' H',N σ' H'→∃ m',m'<m∧W m' σ' H')∧tb {D with nx:=N,ct:=N,bk:=D.nx} σ H1 else D.nx σ H1
theorem ps_while {c:Expr} {body:List Stmt} {tc:TT} {tb:TS} (hp:PassesOwn (model X.prog X.w) X.A X.env X.xe) (hc:PT X c tc) (hb:PSs X body tb):PS X (.While c body [] pos) (tWhile tc tb):=by
 intro pins s σ H D I h
 obtain ⟨W,⟨m0,w0⟩,turn⟩:=h
 refine wpAny_While (codeAny_whileLoop (fun n s'=>∃ σ' H',Inv X pins σ' H' s'∧W n σ' H') ?_ m0 ⟨σ,H,I,w0⟩)
 rintro n s1 ⟨σ1,H1,I1,w1⟩
 refine wpAny_passesOwn hp (thn (hc pins s1 σ1 H1 _ I1 (turn n σ1 H1 w1)) fun b s2 ⟨H2,I2,q2⟩=> ?_)
 cases b with
 |true=>
  obtain ⟨N,hN,q2⟩:=q2
  rw [if_pos rfl]
  refine wpAny_passesOwn hp (thn (hb pins s2 σ1 H2 _ I2 q2) fun f s3 q3=> ?_)
  cases f with
  |next=>
   obtain ⟨σ3,H3,I3,n3⟩:=q3
   obtain ⟨m',hm,w3⟩:=hN σ3 H3 n3
   exact ⟨m',hm,σ3,H3,I3,w3⟩
  |cont=>
   obtain ⟨σ3,H3,I3,n3⟩:=q3
   obtain ⟨m',hm,w3⟩:=hN σ3 H3 n3
   exact ⟨m',hm,σ3,H3,I3,w3⟩
  |brk=>exact q3
  |ret v=>exact q3
 |false=>
  rw [if_neg Bool.false_ne_true]
  exact wpAny_execs_nil ⟨σ1,H2,I2,q2⟩
end
structure It where
 go:Nat→Hp→Prop
 yld:Nat→Hp→V→Hp→Prop
 stop:Nat→Hp→Prop
def FpOk (X:Cx) (pins:List (Addr×Obj)) (H:Hp) (b:Addr):Prop:=
 H b=none∧b≠X.env.locals∧b∉X.fs∧(b∈X.ex∨X.s₀.heap.objs.size≤b)∧(∀ x c,X.env.cells.lookup x=some c→c≠b)∧∀ p∈X.pn++pins,p.1≠b
theorem Inv.fpOk {X:Cx} {pins:List (Addr×Obj)} {σ:St} {H H':Hp} {s:Shared} {b:Addr} (I:Inv X pins σ H s) (hb:s.heap.objs.size≤b) (hn:H' b=none):FpOk X pins H' b:=by
 refine ⟨hn,Nat.ne_of_gt (Nat.lt_of_lt_of_le I.lt hb),I.nofs hb, .inr (Nat.le_trans I.sz hb),fun x c e z=> ?_,fun p hp z=> ?_⟩
 ·obtain ⟨v,q⟩:=I.cell x c e
  exact absurd (Nat.lt_of_lt_of_le q.lt (by rw [z];exact hb)) (Nat.lt_irrefl _)
 ·exact absurd (Nat.lt_of_lt_of_le (Heap.lt_size (I.pin p hp).1) (by rw [z];exact hb)) (Nat.lt_irrefl _)
structure Turn (P:Program) (w:World) (K:PySem.W.Frag) (tg:Expr) (J:It) (fp:List Addr) (it:Addr) (tn:Nat→Heap→Prop):Prop where
 mem:it∈fp
 obj:∀ i h,tn i h→∀ b∈fp,∃ o,h.get? b=some o∧∀ v,o.data≠ .cell v
 keep:∀ i h h',tn i h→(∀ b∈fp,∀ o,h.get? b=some o→h'.get? b=some o)→tn i h'
 item:∀ (X:Cx),X.prog=P→X.w=w→X.K=K→X.calm=true→∀ (i:Nat) (pins:List (Addr×Obj)) (s:Shared) (σ:St) (H:Hp) (E:Value→Shared→Prop),Inv X pins σ H s→(∀ b∈fp,FpOk X pins H b)→tn i s.heap→J.go i H→
  wpAny (model P w) X.A (pyNext (.ref it)) (fun r s1=>∃ u,r=some u∧
   wpAny (model P w) X.A (letOwnedTupleGo tg (.ref it) u) (fun _ s2=>∃ x H',Inv X pins σ H' s2∧RelV x u∧J.yld i H x H'∧tn (i+1) s2.heap∧∀ b∈fp,H' b=none) E s1) E s
 done:∀ (X:Cx),X.prog=P→X.w=w→X.K=K→X.calm=true→∀ (i:Nat) (pins:List (Addr×Obj)) (s:Shared) (σ:St) (H:Hp) (E:Value→Shared→Prop),Inv X pins σ H s→(∀ b∈fp,FpOk X pins H b)→tn i s.heap→J.stop i H→
  wpAny (model P w) X.A (pyNext (.ref it)) (fun r s1=>r=none∧Inv X pins σ H s1) E s
 self:∀ (A:Around) (i:Nat) (s:Shared) (Q:Value→Shared→Prop) (E:Value→Shared→Prop),tn i s.heap→Q (.ref it) s→wpAny (model P w) A (pyIter (.ref it)) Q E s
abbrev TI:=St→Hp→(It→Hp→Prop)→Prop
def PIE (X:Cx) (pins:List (Addr×Obj)) (σ:St) (tg:Expr) (R:It→Hp→Prop) (itv:Value) (s2:Shared):Prop:=
 ∃ (it:Addr) (fp:List Addr) (tn:Nat→Heap→Prop) (J:It) (H':Hp),itv= .ref it∧Inv X pins σ H' s2∧Turn X.prog X.w X.K tg J fp it tn∧tn 0 s2.heap∧(∀ b∈fp,FpOk X pins H' b)∧R J H'
def PI (X:Cx) (tg iter:Expr) (wi:TI):Prop:=
 ∀ (pins:List (Addr×Obj)) (s:Shared) (σ:St) (H:Hp) (R:It→Hp→Prop),Inv X pins σ H s→wi σ H R→
  wpAny (model X.prog X.w) X.A (eval iter X.env) (fun v s1=>wpAny (model X.prog X.w) X.A (pyIter v) (PIE X pins σ tg R) X.xe s1) X.xe s
theorem go_of {M : Model} {A : Around} {E : Value → Shared → Prop} {s : Shared} {tg : Expr} {it : Addr} {u : Value} {o : Obj} {n : String} {vs : Array Value} {Q : Unit → Shared → Prop} (ho : s.heap.get? it = some o) (hc : o.cls = .type n) (hd : o.data = .fields vs)
    (hn : ["enumerate", "zip", "dict_itemiterator", "dict_reverseitemiterator", "odict_iterator", "itertools.zip_longest", "itertools.pairwise"].contains n = false) (hQ : Q () s) : wpAny M A (letOwnedTupleGo tg (.ref it) u) Q E s := by
  unfold letOwnedTupleGo
  cases tg <;> first
    | exact wpAny_pure hQ
    | (cases u <;> first
        | exact wpAny_pure hQ
        | (refine wpAny_bind (wpAny_load ho ?_)
           rw [hc, hd]
           show wpAny M A (if (["enumerate", "zip", "dict_itemiterator", "dict_reverseitemiterator", "odict_iterator", "itertools.zip_longest", "itertools.pairwise"].contains n && vs[0]? == some (rawInt _)) = true then _ else _) Q E s
           rw [if_neg (by intro h; rw [hn, Bool.false_and] at h; cases h)]
           exact wpAny_pure hQ))
def Itl (K:PySem.W.Frag) (a:Addr):It:=
 ⟨fun i H=>∃ xs x,SqL K H a xs∧xs[i]? =some x,fun i H x H'=>H'=H∧∀ xs,SqL K H a xs→xs[i]? =some x,fun i H=>∃ xs,SqL K H a xs∧xs.length≤i⟩
def Itt (K:PySem.W.Frag) (a:Addr):It:=
 ⟨fun i H=>∃ xs x,SqT K H a xs∧xs[i]? =some x,fun i H x H'=>H'=H∧∀ xs,SqT K H a xs→xs[i]? =some x,fun i H=>∃ xs,SqT K H a xs∧xs.length≤i⟩
def Itr (lo:Int) (n:Nat):It:=⟨fun i _=>i<n,fun i H x H'=>H'=H∧x= .int (lo+i),fun i _=>n≤i⟩
theorem turn_list {P:Program} {w:World} {K:PySem.W.Frag} {tg:Expr} (a it:Addr):Turn P w K tg (Itl K a) [it] it (fun i h=>h.IsListIter it a i) where
 mem:=by simp
 obj:=fun i h st b hb=>by
  have e:b=it:=by simpa using hb
  subst e
  obtain ⟨o,e,c,d⟩:=st
  exact ⟨o,e,fun v z=>by rw [d] at z;cases z⟩
 keep:=fun i h h' st k=>st.at fun o e=>k it (by simp) o e
 item:=by
  intro X hP hw hK hc i pins s σ H E I hf st hg
  subst hP hw hK
  obtain ⟨xs,x,hq,hx⟩:=hg
  obtain ⟨its,rv,p,hz⟩:=I.list hq
  obtain ⟨u,hu,ru⟩:=rv.get hx
  obtain ⟨f0,f1,f2,f3,f4,f5⟩:=hf it (by simp)
  refine wpAny_pyNext_list_item st p.isList (x:=u) (by simpa using hu) fun h' st' sb=> ?_
  have I1:Inv X pins σ H {s with heap:=h'}:=I.turned (t':=s.toks) (fun b o hb e=>(sb.2 b hb).trans e) f0 f1 f3 f4 f5
  obtain ⟨o,e,c,d⟩:=id st'
  exact ⟨u,rfl,go_of (s:= {s with heap:=h'}) e c d (by decide) ⟨x,H,I1,ru,⟨rfl,fun ys hy=>by rw [I.list_inj hy hq];exact hx⟩,st',fun b hb=>(hf b hb).1⟩⟩
 done:=by
  intro X hP hw hK hc i pins s σ H E I hf st hg
  subst hP hw hK
  obtain ⟨xs,hq,hx⟩:=hg
  obtain ⟨its,rv,p,hz⟩:=I.list hq
  obtain ⟨f0,f1,f2,f3,f4,f5⟩:=hf it (by simp)
  have hl:=rv.length
  exact wpAny_pyNext_list_end (I.ok.hd hc) st p.isList (by simp;omega) fun h' eb=>⟨rfl,I.turned (t':=s.toks) (fun b o hb e=>eb b o hb e) f0 f1 f3 f4 f5⟩
 self:=fun _ _ _ _ _ st h=>wpAny_pyIter_listiter st h
theorem turn_tuple {P:Program} {w:World} {K:PySem.W.Frag} {tg:Expr} (a it:Addr):Turn P w K tg (Itt K a) [it] it (fun i h=>h.IsTupleIter it a i) where
 mem:=by simp
 obj:=fun i h st b hb=>by
  have e:b=it:=by simpa using hb
  subst e
  obtain ⟨o,e,c,d⟩:=st
  exact ⟨o,e,fun v z=>by rw [d] at z;cases z⟩
 keep:=fun i h h' st k=>st.at fun o e=>k it (by simp) o e
 item:=by
  intro X hP hw hK hc i pins s σ H E I hf st hg
  subst hP hw hK
  obtain ⟨xs,x,hq,hx⟩:=hg
  obtain ⟨its,rv,p,hz⟩:=I.tuple hq
  obtain ⟨u,hu,ru⟩:=rv.get hx
  obtain ⟨f0,f1,f2,f3,f4,f5⟩:=hf it (by simp)
  refine wpAny_pyNext_tuple_item st (show s.heap.IsTuple a its.toArray from p) (x:=u) (by simpa using hu) fun h' st' sb=> ?_
  have I1:Inv X pins σ H {s with heap:=h'}:=I.turned (t':=s.toks) (fun b o hb e=>(sb.2 b hb).trans e) f0 f1 f3 f4 f5
  obtain ⟨o,e,c,d⟩:=id st'
  exact ⟨u,rfl,go_of (s:= {s with heap:=h'}) e c d (by decide) ⟨x,H,I1,ru,⟨rfl,fun ys hy=>by rw [I.tuple_inj hy hq];exact hx⟩,st',fun b hb=>(hf b hb).1⟩⟩
 done:=by
  intro X hP hw hK hc i pins s σ H E I hf st hg
  subst hP hw hK
  obtain ⟨xs,hq,hx⟩:=hg
  obtain ⟨its,rv,p,hz⟩:=I.tuple hq
  obtain ⟨f0,f1,f2,f3,f4,f5⟩:=hf it (by simp)
  have hl:=rv.length
  exact wpAny_pyNext_tuple_end (I.ok.hd hc) st (show s.heap.IsTuple a its.toArray from p) (by simp;omega) fun h' eb=>⟨rfl,I.turned (t':=s.toks) (fun b o hb e=>eb b o hb e) f0 f1 f3 f4 f5⟩
 self:=fun _ _ _ _ _ st h=>wpAny_pyIter_tupleiter st h
theorem turn_range {P:Program} {w:World} {K:PySem.W.Frag} {tg:Expr} (it:Addr) (lo:Int) (n:Nat):Turn P w K tg (Itr lo n) [it] it (fun i h=>IsRangeIter h it (lo+(i:Nat)*1) ((n:Int)-(i:Nat)) 1) where
 mem:=by simp
 obj:=fun i h st b hb=>by
  have e:b=it:=by simpa using hb
  subst e
  exact ⟨_,st,fun v z=>by
   have z':Data.fields _=Data.cell v:=z
   cases z'⟩
 keep:=fun i h h' st k=>k it (by simp) _ st
 item:=by
  intro X hP hw hK hc i pins s σ H E I hf st hg
  subst hP hw hK
  obtain ⟨f0,f1,f2,f3,f4,f5⟩:=hf it (by simp)
  have W:=Walks.range (prog:=X.prog) (w:=X.w) (I.ok.hd hc) it lo 1 n
  refine W.item i s _ _ hg st fun v h' tk hv st' kk=> ?_
  obtain ⟨t,rfl⟩:=hv
  have I1:Inv X pins σ H {s with heap:=h',toks:=tk}:=I.turned (fun b o hb e=>kk b o (by simpa using hb) e) f0 f1 f3 f4 f5
  refine ⟨_,rfl,go_of (s:= {s with heap:=h',toks:=tk}) (n:="range_iterator") st' rfl rfl (by decide) ⟨.int (lo+i),H,I1,⟨t,?_⟩,⟨rfl,rfl⟩,st',fun b hb=>(hf b hb).1⟩⟩
  rw [Int.mul_one]
 done:=by
  intro X hP hw hK hc i pins s σ H E I hf st hg
  subst hP hw hK
  obtain ⟨f0,f1,f2,f3,f4,f5⟩:=hf it (by simp)
  exact wpAny_pyNext_range_end (I.ok.hd hc) st (by have:n≤i:=hg;omega) fun h' eb=>⟨rfl,I.turned (t':=s.toks) (fun b o hb e=>eb b o hb e) f0 f1 f3 f4 f5⟩
 self:=fun _ _ _ _ _ st h=>wpAny_pyIter_rangeiter st h
end L2
namespace L2
open PySem PySem.Spec PyProof.Rows
section
variable {X:Cx} {tg:Expr}
theorem range_it {pins:List (Addr×Obj)} {σ:St} {H:Hp} {s:Shared} {R:It→Hp→Prop} {E:Value→Shared→Prop} {lo hi:Int} {t u v:Tok} {tk:Nat} (I:Inv X pins σ H s) (h1: -(2^62)≤lo) (h2:lo<2^62) (h3: -(2^62)≤hi) (h4:hi<2^62)
  (q:R (Itr lo (hi-lo).toNat) H):wpAny (model X.prog X.w) X.A (pyIter (.ref s.heap.objs.size)) (PIE X pins σ tg R) E {s with heap:=s.heap.push {cls:= .type "range",data:= .fields #[.int lo t, .int hi u, .int 1 v]},toks:=tk}:=by
 refine wpAny_pyIter_range (IsRange.new ..) (small_one h1 h2 h3 h4) ?_
 have I1:Inv X pins σ H {s with heap:=s.heap.push {cls:= .type "range",data:= .fields #[.int lo t, .int hi u, .int 1 v]},toks:=tk}:=I.kept fun b o e=>Heap.get?_push_of_some _ e
 refine ⟨(s.heap.push {cls:= .type "range",data:= .fields #[.int lo t, .int hi u, .int 1 v]}).objs.size,[(s.heap.push {cls:= .type "range",data:= .fields #[.int lo t, .int hi u, .int 1 v]}).objs.size],_,_,H,rfl,
  I1.kept (t':=tk) fun b o e=>Heap.get?_push_of_some _ e,turn_range _ lo (hi-lo).toNat,?_,fun b hb=> ?_,q⟩
 ·have e1:lo+((0:Nat):Int)*1=lo:=by simp
  have e2:(((hi-lo).toNat:Nat):Int)-((0:Nat):Int)=Builtin.Range.rangeSize lo hi 1:=by rw [rangeSize_one];split<;>omega
  show IsRangeIter _ _ (lo+((0:Nat):Int)*1) ((((hi-lo).toNat:Nat):Int)-((0:Nat):Int)) 1
  rw [e1,e2]
  exact Heap.get?_push_size _ rfl
 ·have e:b=(s.heap.push {cls:= .type "range",data:= .fields #[.int lo t, .int hi u, .int 1 v]}).objs.size:=by simpa using hb
  subst e
  exact I1.fpOk (Nat.le_refl _) (I1.hok.fresh (Nat.le_refl _))
def iRng1 (ta:TA):TI:=fun σ H R=>ta σ H fun vs H1=>∃ j:Int,vs= [.int j]∧ -(2^62)≤j∧j<2^62∧R (Itr 0 j.toNat) H1
theorem pi_range1 {a:Expr} {ta:TA} {p pos:Pos} (hg:Gl X "range") (hm:X.mg "range"=none) (ha:PA X [a] ta) (hs:starEach [a] X.env= [(false,eval a X.env)]:=by rfl):PI X tg (.Call (.Name "range" p) [a] [] pos) (iRng1 ta):=by
 intro pins s σ H R I h
 refine Call_ (ld_blt I hg hm boot_range (PyProof.Rows.callWith_type1 (thn (ha pos pins s σ H _ I h) fun us s1 ⟨vs,H1,I1,r1,q1⟩=> ?_) hs rfl))
 obtain ⟨j,e,q1,q2,q⟩:=q1
 subst e
 cases r1 with
 |cons r rr=>
  cases rr
  obtain ⟨t,rfl⟩:=r
  exact call_range_1 (range_it I1 (by omega) (by omega) q1 q2 (by simpa using q))
def tFor (wi:TI) (g:TG) (tb:TS):TS:=fun D σ H=>wi σ H fun J H1=>∃ W:Nat→Nat→St→Hp→Prop,(∃ m,W 0 m σ H1)∧∀ i m σ H,W i m σ H→
 (J.stop i H∧D.nx σ H)∨(J.go i H∧∃ N:St→Hp→Prop,(∀ σ' H',N σ' H'→∃ m',m'<m∧W (i+1) m' σ' H')∧∀ x H',J.yld i H x H'→g x σ H' fun σ2 H2=>tb {D with nx:=N,ct:=N,bk:=D.nx} σ2 H2)
def pinsAt (fp:List Addr) (h:Heap):List (Addr×Obj):=fp.filterMap fun b=>(h.get? b).map fun o=>(b,o)
theorem mem_pinsAt {fp:List Addr} {h:Heap} {b:Addr} {o:Obj} (hb:b∈fp) (e:h.get? b=some o):(b,o)∈pinsAt fp h:=List.mem_filterMap.mpr ⟨b,hb,by rw [e];rfl⟩
theorem of_pinsAt {fp:List Addr} {h:Heap} {p:Addr×Obj} (hp:p∈pinsAt fp h):p.1∈fp∧h.get? p.1=some p.2:=by
 obtain ⟨b,hb,e⟩:=List.mem_filterMap.mp hp
 cases q:h.get? b with
 |none=>rw [q] at e;cases e
 |some o=>
  rw [q] at e
  have e':(b,o)=p:=Option.some.inj e
  subst e'
  exact ⟨hb,q⟩
theorem Inv.pinned {pins:List (Addr×Obj)} {σ:St} {H:Hp} {s:Shared} {fp:List Addr} (I:Inv X pins σ H s) (hf:∀ b∈fp,FpOk X pins H b) (ho:∀ b∈fp,∃ o,s.heap.get? b=some o∧∀ v,o.data≠ .cell v):Inv X (pins++pinsAt fp s.heap) σ H s:=
 I.pins_of fun p hp=>(List.mem_append.mp hp).elim (fun z=>I.pin p (List.mem_append_right _ z)) fun z=>by
  obtain ⟨hb,e⟩:=of_pinsAt z
  obtain ⟨f0,f1,f2,_⟩:=hf p.1 hb
  obtain ⟨o,e',d⟩:=ho p.1 hb
  rw [e] at e';cases e'
  exact ⟨e,f0,f1,f2,d⟩
theorem Inv.unpinned {pins pl:List (Addr×Obj)} {σ:St} {H:Hp} {s:Shared} (I:Inv X (pins++pl) σ H s):Inv X pins σ H s:=I.pins_of fun p hp=>I.pin p (List.mem_append_right _ (List.mem_append_left _ hp))
theorem ps_for {iter:Expr} {body:List Stmt} {wi:TI} {g:TG} {tb:TS} {pos:Pos} (hp:PassesOwn (model X.prog X.w) X.A X.env X.xe) (hc:X.calm=true) (hi:PI X tg iter wi) (hg:PG X tg g) (hb:PSs X body tb)
  (hs:∀ x,foldedSetIterable iter X.env x=pure x:=by intro _;rfl):PS X (.For tg iter body [] pos) (tFor wi g tb):=by
 intro pins s σ H D I h
 refine wpAny_For (thn (hi pins s σ H _ I h) fun v s1 h1=>thn h1 fun itv s2 h2=> ?_) hs
 obtain ⟨it,fp,tn,J,H2,e,I2,T,st2,f2,W,⟨m0,w0⟩,turn⟩:=h2
 subst e
 have stat:∀ {H':Hp},(∀ b∈fp,H' b=none)→∀ b∈fp,FpOk X pins H' b:=fun hn b hb=>⟨hn b hb,(f2 b hb).2⟩
 refine codeAny_forLoop_any (fun n s'=>∃ i σ' H',Inv X pins σ' H' s'∧tn i s'.heap∧(∀ b∈fp,H' b=none)∧W i n σ' H') ?_ m0 ⟨0,σ,H2,I2,st2,fun b hb=>(f2 b hb).1,w0⟩
 rintro n s3 ⟨i,σ3,H3,I3,st3,fr3,w3⟩
 rcases turn i n σ3 H3 w3 with ⟨stop,qn⟩|⟨go,N,hN,step⟩
 ·refine wpAny_passesOwn hp (thn (T.done X rfl rfl rfl hc i pins s3 σ3 H3 X.xe I3 (stat fr3) st3 stop) fun r s4 ⟨hr,I4⟩=> ?_)
  subst hr
  exact wpAny_execs_nil ⟨σ3,H3,I4,qn⟩
 ·refine wpAny_passesOwn hp (thn (T.item X rfl rfl rfl hc i pins s3 σ3 H3 X.xe I3 (stat fr3) st3 go) fun r s4 ⟨u,hr,h4⟩=> ?_)
  subst hr
  refine wpAny_passesOwn hp (thn h4 fun _ s5 ⟨x,H5,I5,r5,y5,st5,fr5⟩=> ?_)
  have I5':=I5.pinned (stat fr5) (T.obj _ _ st5)
  refine wpAny_passesOwn hp (thn (hg _ s5 σ3 H5 x u _ I5' r5 (step x H5 y5)) fun _ s6 ⟨σ6,H6,I6,q6⟩=> ?_)
  refine wpAny_passesOwn hp (thn (hb _ s6 σ6 H6 _ I6 q6) fun f s7 q7=> ?_)
  have again:∀ {σ7:St} {H7:Hp},Inv X (pins++pinsAt fp s5.heap) σ7 H7 s7→N σ7 H7→∃ m,m<n∧∃ i σ' H',Inv X pins σ' H' s7∧tn i s7.heap∧(∀ b∈fp,H' b=none)∧W i m σ' H':=fun {σ7 H7} I7 n7=>by
   obtain ⟨m',hm,w7⟩:=hN σ7 H7 n7
   refine ⟨m',hm,i+1,σ7,H7,I7.unpinned,T.keep _ _ _ st5 fun b hb o e=>(I7.pin (b,o) (List.mem_append_right _ (List.mem_append_right _ (mem_pinsAt hb e)))).1,fun b hb=> ?_,w7⟩
   obtain ⟨o,e,d⟩:=T.obj _ _ st5 b hb
   exact (I7.pin (b,o) (List.mem_append_right _ (List.mem_append_right _ (mem_pinsAt hb e)))).2.1
  cases f with
  |next=>obtain ⟨σ7,H7,I7,n7⟩:=q7;exact again I7 n7
  |cont=>obtain ⟨σ7,H7,I7,n7⟩:=q7;exact again I7 n7
  |brk=>obtain ⟨σ7,H7,I7,q7⟩:=q7;exact ⟨σ7,H7,I7.unpinned,q7⟩
  |ret v=>obtain ⟨x7,σ7,H7,I7,r7,q7⟩:=q7;exact ⟨x7,σ7,H7,I7.unpinned,r7,q7⟩
end
end L2
namespace L2
open PySem PySem.Spec PyProof.Rows
abbrev R2:=V→V→Hp→VK→Prop
def OpR (X:Cx) (f:Value→Value→Sem Value) (r:R2):Prop:=
 ∀ (pins:List (Addr×Obj)) (s:Shared) (σ:St) (H:Hp) (x y:V) (v u:Value) (Q:VK),Inv X pins σ H s→RelV x v→RelV y u→r x y H Q→
  wpAny (model X.prog X.w) X.A (f v u) (EP X pins σ Q) X.xe s
def UnR (X:Cx) (f:Value→Sem Value) (r:V→Hp→VK→Prop):Prop:=
 ∀ (pins:List (Addr×Obj)) (s:Shared) (σ:St) (H:Hp) (x:V) (v:Value) (Q:VK),Inv X pins σ H s→RelV x v→r x H Q→
  wpAny (model X.prog X.w) X.A (f v) (EP X pins σ Q) X.xe s
def CallR (X:Cx) (f:Value) (r:List V→Hp→VK→Prop):Prop:=
 ∀ (pins:List (Addr×Obj)) (s:Shared) (σ:St) (H:Hp) (xs:List V) (us:List Value) (Q:VK),Inv X pins σ H s→Vals xs us→r xs H Q→
  wpAny (model X.prog X.w) X.A (call f us) (EP X pins σ Q) X.xe s
def tOp (r:R2) (ta tb:TE):TE:=fun σ H Q=>ta σ H fun x H1=>tb σ H1 fun y H2=>r x y H2 Q
def tUn (r:V→Hp→VK→Prop) (ta:TE):TE:=fun σ H Q=>ta σ H fun x H1=>r x H1 Q
def rI (C:Int→Int→Prop) (g:Int→Int→V):R2:=fun x y H Q=>∃ i j,x= .int i∧y= .int j∧C i j∧Q (g i j) H
def rI0 (g:Int→Int→V):R2:=fun x y H Q=>∃ i j,x= .int i∧y= .int j∧Q (g i j) H
def rU (g:Int→V):V→Hp→VK→Prop:=fun x H Q=>∃ i,x= .int i∧Q (g i) H
section
variable {X:Cx} {a b c:Expr} {ta tb tc:TE} {pos:Pos}
theorem binT (ha:PE X a ta) (hb:PE X b tb) {pins:List (Addr×Obj)} {s:Shared} {σ:St} {H:Hp} {R:V→V→Hp→Prop} (I:Inv X pins σ H s)
  (h:ta σ H fun x H1=>tb σ H1 fun y H2=>R x y H2) {Q:Value→Shared→Prop} {f:Value→Value→Sem Value}
  (hf:∀ v u s2 x y H2,Inv X pins σ H2 s2→RelV x v→RelV y u→R x y H2→wpAny (model X.prog X.w) X.A (f v u) Q X.xe s2):
  wpAny (model X.prog X.w) X.A (eval a X.env) (fun v s₁=>wpAny (model X.prog X.w) X.A (eval b X.env) (fun u s₂=>wpAny (model X.prog X.w) X.A (f v u) Q X.xe s₂) X.xe s₁) X.xe s:=by
 refine thn (ha pins s σ H _ I h) fun v s1 ⟨x,H1,I1,r1,q1⟩=> ?_
 refine thn (hb pins s1 σ H1 _ I1 q1) fun u s2 ⟨y,H2,I2,r2,q2⟩=> ?_
 exact hf v u s2 x y H2 I2 r1 r2 q2
theorem pe_op {op:Operator} {r:R2} (ho:OpR X (binaryOp op) r) (ha:PE X a ta) (hb:PE X b tb):PE X (.BinOp a op b pos) (tOp r ta tb):=by
 intro pins s σ H Q I h
 exact wpAny_BinOp (binT ha hb I h fun v u s2 x y H2 I2 rx ry q=>ho pins s2 σ H2 x y v u Q I2 rx ry q)
theorem pe_un {op:UnaryOp} {r:V→Hp→VK→Prop} (ho:UnR X (unaryOp op) r) (ha:PE X a ta):PE X (.UnaryOp op a pos) (tUn r ta):=by
 intro pins s σ H Q I h
 exact UnaryOp_ (thn (ha pins s σ H _ I h) fun v s1 ⟨x,H1,I1,r1,q1⟩=>ho pins s1 σ H1 x v Q I1 r1 q1)
theorem opI {f:Value→Value→Sem Value} {C:Int→Int→Prop} {g:Int→Int→Int}
  (rule:∀ (i j:Int) (t u:Tok) (s:Shared) (Q:Value→Shared→Prop) (E:Value→Shared→Prop),C i j→Q (.int (g i j) s.toks) {s with toks:=s.toks+1}→wpAny (model X.prog X.w) X.A (f (.int i t) (.int j u)) Q E s):
  OpR X f (rI C fun i j=> .int (g i j)):=by
 intro pins s σ H x y v u Q I rx ry h
 obtain ⟨i,j,rfl,rfl,hc,q⟩:=h
 obtain ⟨t,rfl⟩:=rx
 obtain ⟨t',rfl⟩:=ry
 exact rule i j t t' s _ _ hc ⟨.int (g i j),H,I.tok _,⟨_,rfl⟩,q⟩
theorem opI0 {f:Value→Value→Sem Value} {g:Int→Int→Int}
  (rule:∀ (i j:Int) (t u:Tok) (s:Shared) (Q:Value→Shared→Prop) (E:Value→Shared→Prop),Q (.int (g i j) s.toks) {s with toks:=s.toks+1}→wpAny (model X.prog X.w) X.A (f (.int i t) (.int j u)) Q E s):
  OpR X f (rI0 fun i j=> .int (g i j)):=by
 intro pins s σ H x y v u Q I rx ry h
 obtain ⟨i,j,rfl,rfl,q⟩:=h
 obtain ⟨t,rfl⟩:=rx
 obtain ⟨t',rfl⟩:=ry
 exact rule i j t t' s _ _ ⟨.int (g i j),H,I.tok _,⟨_,rfl⟩,q⟩
theorem opB0 {f:Value→Value→Sem Value} {g:Int→Int→Bool}
  (rule:∀ (i j:Int) (t u:Tok) (s:Shared) (Q:Value→Shared→Prop) (E:Value→Shared→Prop),Q (.bool (g i j)) s→wpAny (model X.prog X.w) X.A (f (.int i t) (.int j u)) Q E s):
  OpR X f (rI0 fun i j=> .bl (g i j)):=by
 intro pins s σ H x y v u Q I rx ry h
 obtain ⟨i,j,rfl,rfl,q⟩:=h
 obtain ⟨t,rfl⟩:=rx
 obtain ⟨t',rfl⟩:=ry
 exact rule i j t t' s _ _ ⟨.bl (g i j),H,I,rfl,q⟩
def CDiv (i j:Int):Prop:=0<j∧j<1073741824
def CPow (i j:Int):Prop:=0≤j∧j≤1000000∧i.natAbs<2^64
def CMul (i j:Int):Prop:=(-(2^64)<i∧i<2^64)∨(-(2^64)<j∧j<2^64)
theorem CMul.ok {i j:Int} (h:CMul i j):IntMulOk i j:=by
 rcases h with ⟨h1,h2⟩|⟨h1,h2⟩
 ·exact .of_left (intBits_le_64 h1 h2)
 ·exact .of_right (intBits_le_64 h1 h2)
theorem op_add:OpR X (binaryOp .Add) (rI0 fun i j=> .int (i+j)):=opI0 fun _ _ _ _ _ _ _ q=>add_int q
theorem op_sub:OpR X (binaryOp .Sub) (rI0 fun i j=> .int (i-j)):=opI0 fun _ _ _ _ _ _ _ q=>sub_int q
theorem op_mul:OpR X (binaryOp .Mult) (rI CMul fun i j=> .int (i*j)):=opI fun _ _ _ _ _ _ _ hc q=>mul_int q hc.ok
theorem op_fdiv:OpR X (binaryOp .FloorDiv) (rI CDiv fun i j=> .int (i / j)):=opI fun i j _ _ _ _ _ hc q=>by
 have h1:(0:Int)<j:=hc.1
 have h2:j<1073741824:=hc.2
 exact floordiv_int (by omega) (by rw [Int.fdiv_eq_ediv_of_nonneg i (by omega)];exact q) (.inl (PyProof.noPylong_small (by omega)))
theorem op_mod:OpR X (binaryOp .Mod) (rI (fun _ j=>0<j) fun i j=> .int (i%j)):=opI fun i j _ _ _ _ _ hc q=>by
 have h1:(0:Int)<j:=hc
 exact mod_int' (by omega) (by rw [Int.fmod_eq_emod_of_nonneg i (by omega)];exact q)
theorem op_pow:OpR X (binaryOp .Pow) (rI CPow fun i j=> .int (i^j.toNat)):=opI fun _ _ _ _ _ _ _ hc q=>pow_int_small hc.1 hc.2.1 hc.2.2 q
theorem unI {f:Value→Sem Value} {g:Int→Int}
  (rule:∀ (i:Int) (t:Tok) (s:Shared) (Q:Value→Shared→Prop) (E:Value→Shared→Prop),Q (.int (g i) s.toks) {s with toks:=s.toks+1}→wpAny (model X.prog X.w) X.A (f (.int i t)) Q E s):
  UnR X f (rU fun i=> .int (g i)):=by
 intro pins s σ H x v Q I rx h
 obtain ⟨i,rfl,q⟩:=h
 obtain ⟨t,rfl⟩:=rx
 exact rule i t s _ _ ⟨.int (g i),H,I.tok _,⟨_,rfl⟩,q⟩
theorem un_neg:UnR X (unaryOp .USub) (rU fun i=> .int (-i)):=unI fun _ _ _ _ _ q=>neg_int q
end
section
variable {X:Cx} {a b c:Expr} {ta tb tc:TE} {pos:Pos}
theorem fin_bl {pins:List (Addr×Obj)} {σ:St} {H:Hp} {s:Shared} {Q:VK} {k k':Bool} (I:Inv X pins σ H s) (q:Q (.bl k) H) (e:k=k'):EP X pins σ Q (.bool k') s:=by
 subst e
 exact ⟨.bl k,H,I,rfl,q⟩
theorem op_lt:OpR X (compareOp .Lt) (rI0 fun i j=> .bl (decide (i<j))):=opB0 fun _ _ _ _ _ _ _ q=>lt_int q
theorem op_gt:OpR X (compareOp .Gt) (rI0 fun i j=> .bl (decide (j<i))):=opB0 fun _ _ _ _ _ _ _ q=>gt_int q
theorem op_in_str:OpR X (compareOp .In) (fun x y H Q=>∃ i j,x= .str i∧y= .str j∧Q (.bl (!(Builtin.Str.occurrences j i 0 j.length 1).isEmpty)) H):=by
 intro pins s σ H x y v u Q I rx ry h
 obtain ⟨i,j,rfl,rfl,q⟩:=h
 obtain ⟨t,rfl⟩:=rx
 obtain ⟨t',rfl⟩:=ry
 exact in_str (fin_bl I q rfl)
theorem op_notin_str:OpR X (compareOp .NotIn) (fun x y H Q=>∃ i j,x= .str i∧y= .str j∧Q (.bl (!(!(Builtin.Str.occurrences j i 0 j.length 1).isEmpty))) H):=by
 intro pins s σ H x y v u Q I rx ry h
 obtain ⟨i,j,rfl,rfl,q⟩:=h
 obtain ⟨t,rfl⟩:=rx
 obtain ⟨t',rfl⟩:=ry
 exact notIn_str (fin_bl I q rfl)
theorem OpR.or {f:Value→Value→Sem Value} {r r':R2} (h:OpR X f r) (h':OpR X f r'):OpR X f (fun x y H Q=>r x y H Q∨r' x y H Q):=by
 intro pins s σ H x y v u Q I rx ry q
 rcases q with q|q
 ·exact h pins s σ H x y v u Q I rx ry q
 ·exact h' pins s σ H x y v u Q I rx ry q
theorem nomark (b:Expr) {op:CmpOp} (h:op≠ .In:=by decide) (h2:op≠ .NotIn:=by decide):behindInMarks op b=false:=by
 have e1:(op==CmpOp.In)=false:=by cases op<;>first|rfl|exact absurd rfl h
 have e2:(op==CmpOp.NotIn)=false:=by cases op<;>first|rfl|exact absurd rfl h2
 cases b<;>simp [behindInMarks,e1,e2]
theorem pe_cmpR {op:CmpOp} {r:R2} (ho:OpR X (compareOp op) r) (ha:PE X a ta) (hb:PE X b tb) (hm:behindInMarks op b=false):PE X (.Compare a [op] [b] pos) (tOp r ta tb):=by
 intro pins s σ H Q I h
 exact wpAny_Compare1 (binT ha hb I h fun v u s2 x y H2 I2 rx ry q=>ho pins s2 σ H2 x y v u Q I2 rx ry q) hm
def tTest (t:TE):TT:=fun σ H Q=>t σ H fun x H'=>∃ k,x= .bl k∧Q k H'
theorem pt_cmpR {op:CmpOp} {r:R2} (ho:OpR X (compareOp op) r) (ha:PE X a ta) (hb:PE X b tb) (hm:behindInMarks op b=false):PT X (.Compare a [op] [b] pos) (tTest (tOp r ta tb)):=by
 intro pins s σ H Q I h
 refine wpAny_isTrue_Compare1 (thn (ha pins s σ H _ I h) fun v s1 ⟨x,H1,I1,r1,q1⟩=>thn (hb pins s1 σ H1 _ I1 q1) fun u s2 ⟨y,H2,I2,r2,q2⟩=>
  thn (ho pins s2 σ H2 x y v u _ I2 r1 r2 q2) fun c s3 ⟨z,H3,I3,r3,k,e,q3⟩=> ?_) hm
 subst e
 cases r3
 exact wpAny_truthy_bool ⟨H3,I3,q3⟩
theorem line63:(sizeLine:Nat)<2^63:=by rw [sizeLine_eq];decide
theorem op_add_str:OpR X (binaryOp .Add) (fun x y H Q=>∃ i j,x= .str i∧y= .str j∧i.length+j.length≤sizeLine∧Q (.str (i++j)) H):=by
 intro pins s σ H x y v u Q I rx ry h
 obtain ⟨i,j,rfl,rfl,hz,q⟩:=h
 obtain ⟨t,rfl⟩:=rx
 obtain ⟨t',rfl⟩:=ry
 exact add_str (fun t' tk=>⟨.str (i++j),H,I.tok _,⟨_,rfl⟩,q⟩) hz
theorem vals1 {x:V} {us:List Value} (r:Vals [x] us):∃ u,us= [u]∧RelV x u:=by
 cases r with
 |cons r1 r2=>cases r2;exact ⟨_,rfl,r1⟩
theorem call_int1:CallR X (.type "int") (fun xs H Q=>(∃ i,xs= [.int i]∧Q (.int i) H)∨∃ k,xs= [.bl k]∧Q (.int (if k then 1 else 0)) H):=by
 intro pins s σ H xs us Q I r h
 rcases h with ⟨i,rfl,q⟩|⟨k,rfl,q⟩
 ·obtain ⟨u,rfl,t,rfl⟩:=vals1 r
  exact call_int_int ⟨.int i,H,I,⟨_,rfl⟩,q⟩
 ·obtain ⟨u,rfl,r1⟩:=vals1 r
  cases r1
  exact call_int_bool ⟨.int (if k then 1 else 0),H,I.tok _,⟨_,rfl⟩,q⟩
def LenV (K:PySem.W.Frag) (x:V) (H:Hp) (n:Nat):Prop:=
 match x with
 | .str y=>y.length≤sizeLine∧n=y.length
 | .byt y=>y.size≤sizeLine∧n=y.size
 | .ref p=>(∃ xs,SqL K H p xs∧n=xs.length)∨∃ xs,SqT K H p xs∧n=xs.length
 |_=>False
theorem call_len:CallR X (.builtin "len") (fun xs H Q=>∃ x n,xs= [x]∧LenV X.K x H n∧Q (.int n) H):=by
 intro pins s σ H xs us Q I r h
 obtain ⟨x,n,rfl,e,q⟩:=h
 obtain ⟨u,rfl,rx⟩:=vals1 r
 have hl:=line63
 have hs:sizeLine=16777216:=sizeLine_eq
 cases x with
 |str y=>
  obtain ⟨t,rfl⟩:=rx
  obtain ⟨hy,e'⟩:y.length≤sizeLine∧n=y.length:=e
  subst e'
  exact len_str (by omega) ⟨.int _,H,I.tok _,⟨_,rfl⟩,q⟩
 |byt y=>
  obtain ⟨t,rfl⟩:=rx
  obtain ⟨hy,e'⟩:y.size≤sizeLine∧n=y.size:=e
  subst e'
  exact PySem.W.len_bytes (by omega) ⟨.int _,H,I.tok _,⟨_,rfl⟩,q⟩
 |ref p=>
  cases rx
  have e':(∃ xs,SqL X.K H p xs∧n=xs.length)∨∃ xs,SqT X.K H p xs∧n=xs.length:=e
  rcases e' with ⟨xs,hx,e'⟩|⟨xs,hx,e'⟩
  ·subst e'
   obtain ⟨its,r',pl,hz⟩:=I.list hx
   have hlen:=r'.length
   exact Calls.call_len_list pl.isList (by simp only [List.size_toArray];omega) ⟨.int xs.length,H,I.tok _,⟨_,by simp only [List.size_toArray];rw [hlen]⟩,q⟩
  ·subst e'
   obtain ⟨its,r',pl,hz⟩:=I.tuple hx
   have hlen:=r'.length
   exact len_tuple pl (by simp only [List.size_toArray];omega) ⟨.int xs.length,H,I.tok _,⟨_,by simp only [List.size_toArray];rw [hlen]⟩,q⟩
 |_=>exact (show False from e).elim
end
end L2
namespace L2
open PySem PySem.Spec PyProof.Rows
structure ObjM (h:Heap) (x dx C:Addr) (mA:Str→Option Value):Prop where
 obj:h.get? x=some (PySem.W.instObj C dx)
 ns:h.Ns1 dx mA
 ne:dx≠x
theorem lookIn_ns {h:Heap} {dx:Addr} {mA:Str→Option Value} (n:h.Ns1 dx mA):∃ od,h.get? dx=some od∧∀ name,PySem.W.lookIn name od=some (mA name):=by
 obtain ⟨o,es,ep,ho,hd,hk,_,hm⟩:=n
 refine ⟨o,ho,fun name=> ?_⟩
 have e:=hm name
 unfold nsFind findBy at e
 rw [←Array.find?_toList] at e
 unfold PySem.W.lookIn
 rw [hd]
 dsimp only
 split
 ·rename_i y q
  rw [q] at e
  exact congrArg some e
 ·rename_i q
  rw [q] at e
  have a:es.toList.any (·.refKey)=false:=by
   rw [List.any_eq_false]
   intro y hy
   obtain ⟨z,t,hkey⟩:=hk y (Array.mem_toList_iff.mp hy)
   simp [DictEntry.refKey,hkey]
  have a':¬ es.toList.any (·.refKey)=true:=by rw [a];exact Bool.false_ne_true
  rw [if_neg a']
  exact congrArg some e
theorem ObjM.look {h:Heap} {x dx C:Addr} {mA:Str→Option Value} (I:ObjM h x dx C mA):∃ od,PySem.W.InstAt h x (PySem.W.instObj C dx) C (some od)∧∀ name,PySem.W.lookIn name od=some (mA name):=
 let ⟨od,ho,hl⟩:=lookIn_ns I.ns
 ⟨od,⟨I.obj,rfl,rfl,ho⟩,hl⟩
section
variable {prog:Program} {w:World} {A:Around} {E:Value→Shared→Prop} {s:Shared} {K:PySem.W.Frag} {x dx C f:Addr} {mA:Str→Option Value} {name:Str} {v:Value}
theorem get_map {expr:Bool} {Q:Value→Shared→Prop} (X:K.In s.heap) (I:ObjM s.heap x dx C mA) (hg:PySem.W.plainGet K C name=true) (hh:PySem.W.hasDictIn K C=true)
  (ha:PySem.W.findIn K (.ref C) name=some none) (hv:mA name=some v) (hv':PySem.W.handedIn v=true) (h:Q v {s with toks:=s.toks+1}):
  wpAny (model prog w) A (getAttr (.ref x) name expr) Q E s:=by
 obtain ⟨od,J,hl⟩:=I.look
 exact PySem.W.get_value X J (PySem.W.plainGet_of hg).1 (PySem.W.findObj_own hh ha rfl (by rw [hl,hv])) hv' h
theorem set_map {ns:List Str} {Q:Unit→Shared→Prop} (X:K.In s.heap) (I:ObjM s.heap x dx C mA)
  (hs:PySem.W.findIn K (.ref C) "__setattr__"=some (some (.builtin "object.__setattr__"))) (hp:PySem.W.plainOver K C=true) (ht:PySem.W.takerIn K C name=some none) (hh:PySem.W.hasDictIn K C=true)
  (hw:PySem.Within mA ns) (hsz:ns.length≤sizeLine)
  (h:∀ h',ObjM h' x dx C (fun y=>if y=name then some v else mA y)→Heap.SameBut dx s.heap h'→Q () {s with heap:=h',toks:=s.toks+2}):
  wpAny (model prog w) A (setAttr (.ref x) name v) Q E s:=by
 obtain ⟨od,J,hl⟩:=I.look
 refine PySem.W.set_plain X J hs (PySem.W.osa_open (s:= {s with toks:=s.toks+1}) (r:=none) X J hp ht fun b=> ?_)
 obtain ⟨cd,hc,hd'⟩:=PySem.W.any_some hh
 have hx:s.heap.get? x=some ⟨.ref C,some dx, .plain,#[]⟩:=I.obj
 refine wpAny_bind (wpAny_pure (wpAny_bind (wpAny_bind (wpAny_loadPart hx (wpAny_bind (PySem.W.Looks.here (s:= {s with toks:=s.toks+1}) (PySem.W.looks_clsIn X hc) ?_))))))
 rw [hd']
 refine wpAny_pure (a:=some dx) (wpAny_bind (wpAny_pure (wpAny_bind ?_)))
 refine wpAny_nsSet1 (s:= {s with toks:=s.toks+1}) I.ns fun h' hn2 hs2=> ?_
 obtain ⟨oD,esD,epD,hoD,hdD,hcD⟩:=hn2.count (PySem.Within.cons name v hw)
 refine wpAny_bind (wpAny_lookBehind hoD (by rw [hdD];exact pastItsLine_dict (Nat.le_trans hcD (by rw [List.length_cons];omega))) ?_)
 exact wpAny_pure (h _ ⟨(hs2.2 _ (Ne.symm I.ne)).trans I.obj,hn2,I.ne⟩ hs2)
theorem make_map {R:Result→Shared→Prop} {vs:List Value} {kw:List (Str×Value)} (X:K.In s.heap) (hm:PySem.W.makesIn K C=true)
  (hi:PySem.W.findIn K (.ref C) "__init__"=some (some (.ref f))) (hf:PySem.W.typeIn K (.ref f)=some (.type "function"))
  (h:codeAny (model prog w) (A.under (.builtin "type.__call__" ⟨.ref C::vs,kw⟩)) (.call (.ref f) ⟨.ref (s.heap.objs.size+1)::vs,kw⟩) (PySem.W.InitBack (s.heap.objs.size+1) R)
   {s with heap:=(s.heap.push PySem.W.emptyDict).push (PySem.W.instObj C s.heap.objs.size)}):
  codeAny (model prog w) A (.call (.ref C) ⟨vs,kw⟩) R s:=by
 obtain ⟨hh,g,d,t,os⟩:=s
 exact PySem.W.make_core (PySem.W.makes_of X hm) (PySem.W.looks_findIn X hi) (fun self=>PySem.W.bind_fn X self hf) (.inl rfl) h
end
def putF (f:Str) (v:V):List (Str×V)→List (Str×V)
 | []=> [(f,v)]
 |(g,x)::r=>if g=f then (g,v)::r else (g,x)::putF f v r
theorem lookup_putF (f g:Str) (v:V):∀ fs:List (Str×V),(putF f v fs).lookup g=if g=f then some v else fs.lookup g
 | []=>by
  show List.lookup g [(f,v)]=_
  by_cases h:g=f
  ·have hb:(g==f)=true:=beq_iff_eq.mpr h
   simp only [List.lookup,hb,if_pos h]
  ·have hb:(g==f)=false:=beq_eq_false_iff_ne.mpr h
   simp only [List.lookup,hb,if_neg h]
 |(k,x)::r=>by
  have ih:=lookup_putF f g v r
  rw [show putF f v ((k,x)::r)=(if k=f then (k,v)::r else (k,x)::putF f v r) from rfl]
  by_cases hk:k=f
  ·rw [if_pos hk]
   by_cases h:g=k
   ·have hb:(g==k)=true:=beq_iff_eq.mpr h
    simp only [List.lookup,hb,if_pos (h.trans hk)]
   ·have hb:(g==k)=false:=beq_eq_false_iff_ne.mpr h
    simp only [List.lookup,hb,if_neg (fun e:g=f=>h (e.trans hk.symm))]
  ·rw [if_neg hk]
   by_cases h:g=k
   ·have hb:(g==k)=true:=beq_iff_eq.mpr h
    simp only [List.lookup,hb,if_neg (fun e:g=f=>hk (h.symm.trans e))]
   ·have hb:(g==k)=false:=beq_eq_false_iff_ne.mpr h
    simp only [List.lookup,hb]
    exact ih
theorem keys_putF (f:Str) (v:V):∀ fs:List (Str×V),f∈(putF f v fs).map (·.1)∧∀ g,g∈fs.map (·.1)→g∈(putF f v fs).map (·.1)
 | []=>⟨by simp [putF],fun g h=>by simp at h⟩
 |(k,x)::r=>by
  obtain ⟨i1,i2⟩:=keys_putF f v r
  rw [show putF f v ((k,x)::r)=(if k=f then (k,v)::r else (k,x)::putF f v r) from rfl]
  by_cases hk:k=f
  ·rw [if_pos hk]
   subst hk
   exact ⟨by simp,fun g h=>by simpa using h⟩
  ·rw [if_neg hk]
   refine ⟨?_,fun g h=> ?_⟩
   ·rw [List.map_cons]
    exact List.mem_cons_of_mem _ i1
   ·rw [List.map_cons] at h ⊢
    rcases List.mem_cons.mp h with e|e
    ·exact List.mem_cons.mpr (.inl e)
    ·exact List.mem_cons_of_mem _ (i2 g e)
theorem length_putF (f:Str) (v:V):∀ fs:List (Str×V),(putF f v fs).length≤fs.length+1
 | []=>by simp [putF]
 |(k,x)::r=>by
  have ih:=length_putF f v r
  rw [show putF f v ((k,x)::r)=(if k=f then (k,v)::r else (k,x)::putF f v r) from rfl]
  by_cases hk:k=f
  ·rw [if_pos hk,List.length_cons,List.length_cons];omega
  ·rw [if_neg hk,List.length_cons,List.length_cons];omega
theorem RelO.some_of {v:V} {o:Option Value} (r:RelO (some v) o):∃ u,o=some u∧RelV v u:=by
 cases o with
 |none=>exact (show False from r).elim
 |some u=>exact ⟨u,rfl,r⟩
theorem handed_of {v:V} {u:Value} (r:RelV v u):PySem.W.handedIn u=true:=by
 cases v with
 |non=>cases (show u=Value.none from r);rfl
 |bl b=>cases (show u=Value.bool b from r);rfl
 |int i=>obtain ⟨t,e⟩:=(show ∃ t,u=Value.int i t from r);cases e;rfl
 |str x=>obtain ⟨t,e⟩:=(show ∃ t,u=Value.str x t from r);cases e;rfl
 |byt b=>obtain ⟨t,e⟩:=(show ∃ t,u=Value.bytes b t from r);cases e;rfl
 |flt b=>obtain ⟨t,e⟩:=(show ∃ t,u=Value.float b t from r);cases e;rfl
 |ref a=>cases (show u=Value.ref a from r);rfl
 |ty n=>cases (show u=Value.type n from r);rfl
section
variable {P:Program} {w:World} {H H':Hp} {h h':Heap} {a C dx:Addr} {fs fs':List (Str×V)}
theorem ins_get (hok:HOk P w H h) (e:H a=some (.ins C dx fs)):∃ mA,ObjM h a dx C mA∧(∀ f,RelO (fs.lookup f) (mA f))∧PySem.Within mA (fs.map (·.1))∧fs.length≤1000∧H dx=some (.own a):=by
 obtain ⟨d,z,ne,ob,mA,n,r,q⟩:=(show ObjOk P w H h a (.ins C dx fs) from hok a _ e)
 exact ⟨mA,⟨ob,n,ne⟩,r,q,z,d⟩
end
structure Cls (K:PySem.W.Frag) (C:Addr):Prop where
 pg:PySem.W.plainGet K C Str.empty=true
 hd:PySem.W.hasDictIn K C=true
 po:PySem.W.plainOver K C=true
 sa:PySem.W.findIn K (.ref C) "__setattr__"=some (some (.builtin "object.__setattr__"))
theorem Cls.get {K:PySem.W.Frag} {C:Addr} (c:Cls K C) (f:Str):PySem.W.plainGet K C f=true:=c.pg
def NoAttr (K:PySem.W.Frag) (C:Addr) (f:Str):Prop:=PySem.W.findIn K (.ref C) f=some none
theorem NoAttr.taker {K:PySem.W.Frag} {C:Addr} {f:Str} (n:NoAttr K C f):PySem.W.takerIn K C f=some none:=by
 unfold PySem.W.takerIn
 rw [show PySem.W.findIn K (.ref C) f=some none from n]
 rfl
structure Con (K:PySem.W.Frag) (C:Addr) (f:Str) (v:V) (u:Value):Prop where
 at_:PySem.W.findIn K (.ref C) f=some (some u)
 rel:RelV v u
 get:PySem.W.specialIn K u "__get__"=some none
 cp:PySem.W.copiedNames.contains f=false
structure Meth (K:PySem.W.Frag) (C:Addr) (m:Str) (f:Addr):Prop where
 at_:PySem.W.findIn K (.ref C) m=some (some (.ref f))
 fn:PySem.W.isFn K (.ref f)=true
 kp:PySem.W.keepIn K (.ref f)=true
section
variable {X:Cx} {pins:List (Addr×Obj)} {σ:St} {H:Hp} {s:Shared} {a C dx:Addr} {fs:List (Str×V)} {f:Str} {v:V} {A:Around} {E:Value→Shared→Prop}
theorem getattr_ok {b:Bool} {Q:Value→Shared→Prop} (I:Inv X pins σ H s) (e:H a=some (.ins C dx fs)) (c:Cls X.K C) (n:NoAttr X.K C f) (l:fs.lookup f=some v)
  (h:∀ u s',Inv X pins σ H s'→RelV v u→Q u s'):wpAny (model X.prog X.w) A (getAttr (.ref a) f b) Q E s:=by
 obtain ⟨mA,O,r,_,_,_⟩:=ins_get I.hok e
 obtain ⟨u,hu,ru⟩:=RelO.some_of (v:=v) (o:=mA f) (by rw [←l];exact r f)
 exact get_map I.kIn O (c.get f) c.hd n hu (handed_of ru) (h u _ (I.tok _) ru)
theorem setattr_ok {y:V} {u:Value} {Q:Unit→Shared→Prop} (I:Inv X pins σ H s) (e:H a=some (.ins C dx fs)) (c:Cls X.K C) (n:NoAttr X.K C f) (hl:fs.length<1000) (ry:RelV y u)
  (h:∀ s',Inv X pins σ (upd H a (.ins C dx (putF f y fs))) s'→Q () s'):wpAny (model X.prog X.w) A (setAttr (.ref a) f u) Q E s:=by
 obtain ⟨mA,O,r,wi,_,ho⟩:=ins_get I.hok e
 have hz:(fs.map (·.1)).length≤sizeLine:=by rw [List.length_map,sizeLine_eq];omega
 refine set_map I.kIn O c.sa c.po n.taker c.hd wi hz fun h' O' sb=>h _ ?_
 have hd:∃ o,h'.get? dx=some o:=let ⟨o,_,_,e',_⟩:=O'.ns;⟨o,e'⟩
 refine I.write (x:=a) (e:=dx) (by rw [e];exact True.intro) (.inr ho) (fun b q hb z=>(sb.2 b hb).trans z) hd ?_
 refine ⟨by rw [upd_ne O.ne];exact ho,?_,O.ne,O'.obj,_,O'.ns,fun g=> ?_,fun g hg=> ?_⟩
 ·have:=length_putF f y fs;omega
 ·show RelO ((putF f y fs).lookup g) (if g=f then some u else mA g)
  rw [lookup_putF]
  by_cases q:g=f
  ·rw [if_pos q,if_pos q];exact ry
  ·rw [if_neg q,if_neg q];exact r g
 ·by_cases q:g=f
  ·rw [q];exact (keys_putF f y fs).1
  ·refine (keys_putF f y fs).2 g (wi g fun z=>hg ?_)
   show (if g=f then some u else mA g)=none
   rw [if_neg q];exact z
theorem Inv.made (I:Inv X pins σ H s):Inv X pins σ (upd (upd H s.heap.objs.size (.own (s.heap.objs.size+1))) (s.heap.objs.size+1) (.ins C s.heap.objs.size []))
  {s with heap:=(s.heap.push PySem.W.emptyDict).push (PySem.W.instObj C s.heap.objs.size)}:=by
 have e1:(s.heap.push PySem.W.emptyDict).get? s.heap.objs.size=some PySem.W.emptyDict:=Heap.get?_push_size s.heap rfl
 have e2:((s.heap.push PySem.W.emptyDict).push (PySem.W.instObj C s.heap.objs.size)).get? (s.heap.objs.size+1)=some (PySem.W.instObj C s.heap.objs.size):=by
  have:=Heap.get?_push_size (s.heap.push PySem.W.emptyDict) (o:=PySem.W.instObj C s.heap.objs.size) rfl
  rwa [Heap.size_push] at this
 have e3:(s.heap.push PySem.W.emptyDict).Ns s.heap.objs.size (fun _=>none):=⟨PySem.W.emptyDict,#[],_,e1,rfl,(fun e he=>absurd he (by simp)),fun _=>rfl⟩
 have I1:=I.laid (a:=s.heap.objs.size) (o:= .own (s.heap.objs.size+1)) (h':=s.heap.push PySem.W.emptyDict) (t':=s.toks) (fun b u q=>Heap.get?_push_of_some _ q) (Nat.le_refl _) ⟨_,e1⟩
 refine I1.laid (a:=s.heap.objs.size+1) (o:= .ins C s.heap.objs.size []) (t':=s.toks) (fun b u q=>Heap.get?_push_of_some _ q) (Nat.le_of_eq (Heap.size_push _ _)) ?_
 have ne:s.heap.objs.size≠s.heap.objs.size+1:=Nat.ne_of_lt (Nat.lt_succ_self _)
 refine ⟨by rw [upd_ne ne,upd_same],Nat.zero_le _,ne,e2,fun _=>none,(Heap.Ns1.of_empty e3).at fun o q=>Heap.get?_push_of_some _ q,fun _=>True.intro,fun y hy=>absurd rfl hy⟩
theorem attr_of {prog:Program} {w:World} {env:Env} {e:Expr} {f:Str} {pos:Pos} {s:Shared} {Q:Value→Shared→Prop} (hb:attributeBase e f env (eval e env)=eval e env)
  (h:wpAny (model prog w) A (eval e env) (fun o s₁=>wpAny (model prog w) A (getAttr o f true) Q E s₁) E s):wpAny (model prog w) A (eval (.Attribute e f pos) env) Q E s:=
 Attribute_any_ h (by rw [arm_eval_Attribute,hb])
end
def tFld (K:PySem.W.Frag) (ta:TE) (f:Str):TE:=fun σ H Q=>ta σ H fun x H1=>∃ a C dx fs v,x= .ref a∧H1 a=some (.ins C dx fs)∧Cls K C∧NoAttr K C f∧fs.lookup f=some v∧Q v H1
def sFld (K:PySem.W.Frag) (ta tv:TE) (f:Str):TS:=fun D σ H=>tv σ H fun y H1=>ta σ H1 fun x H2=>∃ a C dx fs,x= .ref a∧H2 a=some (.ins C dx fs)∧Cls K C∧NoAttr K C f∧fs.length<1000∧
 D.nx σ (upd H2 a (.ins C dx (putF f y fs)))
section
variable {X:Cx} {o e value:Expr} {f:Str} {pos pos' tpos:Pos} {ta tv:TE}
theorem pe_fld (he:PE X e ta) (hb:attributeBase e f X.env (eval e X.env)=eval e X.env):PE X (.Attribute e f pos) (tFld X.K ta f):=by
 intro pins s σ H Q I h
 refine attr_of hb (thn (he pins s σ H _ I h) fun u s1 ⟨x,H1,I1,rx,a,C,dx,fs,v,ex,ea,c,n,l,q⟩=> ?_)
 subst ex
 obtain rfl:u=Value.ref a:=rx
 exact getattr_ok I1 ea c n l fun u' s2 I2 ru=>⟨v,H1,I2,ru,q⟩
theorem ps_fld (ha:PE X o ta) (hv:PE X value tv) (hs:swapsWith value (some (.Attribute o f pos')) pos.line X.env=pure false):PS X (.Assign [.Attribute o f pos'] value pos) (sFld X.K ta tv f):=by
 intro pins s σ H D I h
 refine plainObj_wpAny_Assign_Attribute (thn (hv pins s σ H _ I h) fun u s1 ⟨y,H1,I1,ry,q⟩=>thn (ha pins s1 σ H1 _ I1 q) fun ov s2 ⟨x,H2,I2,rx,a,C,dx,fs,ex,ea,c,n,l,q2⟩=> ?_) hs
 subst ex
 obtain rfl:ov=Value.ref a:=rx
 exact setattr_ok I2 ea c n l ry fun s3 I3=>⟨σ,_,I3,q2⟩
end
section
variable {X:Cx} {pins:List (Addr×Obj)} {σ:St} {H:Hp} {s:Shared} {A:Around} {E:Value→Shared→Prop} {Q:Value→Shared→Prop} {c:Value} {b:Bool}
inductive TyOf (K:PySem.W.Frag) (H:Hp):V→Value→Prop where
 |non:TyOf K H .non (.type "NoneType")
 |bl (x:Bool):TyOf K H (.bl x) (.type "bool")
 |int (i:Int):TyOf K H (.int i) (.type "int")
 |str (x:Str):TyOf K H (.str x) (.type "str")
 |flt (x:UInt64):TyOf K H (.flt x) (.type "float")
 |lst {a:Addr} {xs:List V} (e:H a=some (.lst xs)):TyOf K H (.ref a) (.type "list")
 |frz {a:Addr} {o:Obj} {xs:List V} (e:H a=some (.frz o (.lst xs))):TyOf K H (.ref a) (.type "list")
 |tup {a:Addr} {xs:List V} (e:H a=some (.tup xs)):TyOf K H (.ref a) (.type "tuple")
 |dK {a:Addr} {kvs:List (Key×V)} (e:H a=some (.dK kvs)):TyOf K H (.ref a) (.type "dict")
 |dT {a:Addr} {kvs:List (List Key×V)} (e:H a=some (.dT kvs)):TyOf K H (.ref a) (.type "dict")
 |ins {a C dx:Addr} {fs:List (Str×V)} (e:H a=some (.ins C dx fs)) (cl:Cls K C) (ha:PySem.W.findIn K (.ref C) "__class__"=some (some (.builtin "object.__class__")))
   (hn:PySem.W.specialIn K (.builtin "object.__class__") "__get__"=some (some (.builtin "getset_descriptor.__get__"))) (htk:PySem.W.takesIn K (.builtin "object.__class__")=some true)
   (hm:PySem.W.mroIn K C (.type "object")=some true):TyOf K H (.ref a) (.ref C)
end
end L2
namespace L2
open PySem PySem.Spec PyProof.Rows
structure Room (k:Nat) (A:Around):Prop where
 hd:A.handled=none
 dp:A.depth+3*k+5<recursionLimit
 un:A.units+16*k+200<cLine
 gd:A.guards=some []
theorem Room.mono {j k:Nat} {A:Around} (r:Room k A) (h:j≤k):Room j A:=⟨r.hd,by have:=r.dp;omega,by have:=r.un;omega,r.gd⟩
theorem Room.deeper {k:Nat} {A:Around} (r:Room (k+1) A) (env:Env):Room k (A.deeper env):=
 ⟨r.hd,by have:=r.dp;show A.depth+1+3*k+5<_;omega,by have:=r.un;show A.units+3+16*k+200<_;omega,r.gd⟩
theorem Room.in1 {k:Nat} {A:Around} (r:Room (k+1) A):Room k A.in1:=
 ⟨r.hd,by have:=r.dp;show A.depth+3*k+5<_;omega,by have:=r.un;show A.units+1+16*k+200<_;omega,r.gd⟩
theorem make_depth {A:Around} {C:Addr} {us:List Value} {kw:List (Str×Value)}:(A.under (.builtin "type.__call__" ⟨.ref C::us,kw⟩)).depth=A.depth+1:=by
 first|rfl|simp [Around.under,Code.weight,Code.isCreation,Code.isGuard,Code.isCaller,Code.frames,Code.isFrame,guardIds]
theorem make_units {A:Around} {C:Addr} {us:List Value} {kw:List (Str×Value)}:(A.under (.builtin "type.__call__" ⟨.ref C::us,kw⟩)).units=A.units+1:=by
 first|rfl|simp [Around.under,Code.cUnits,Code.frames,Code.isFrame]
theorem Room.make {k:Nat} {A:Around} (r:Room (k+1) A) (C:Addr) (us:List Value) (kw:List (Str×Value)):Room k (A.under (.builtin "type.__call__" ⟨.ref C::us,kw⟩)):=
 ⟨r.hd,by have:=r.dp;rw [make_depth];omega,by have:=r.un;rw [make_units];omega,by first|exact r.gd|(simpa [Around.under,Code.guards,pushGuards] using r.gd)⟩
theorem Room.depth {k:Nat} {A:Around} (r:Room k A):A.depth<recursionLimit:=by have:=r.dp;omega
theorem Room.units {k:Nat} {A:Around} (r:Room k A):A.units+64<cLine:=by have:=r.un;omega
def tNil:TA:=fun _ H Q=>Q [] H
def tCons (ta:TE) (tr:TA):TA:=fun σ H Q=>ta σ H fun x H1=>tr σ H1 fun xs H2=>Q (x::xs) H2
section
variable {X:Cx} {e:Expr} {es:List Expr} {te:TE} {t:TA} {pos:Pos}
theorem pa_nil:PA X [] tNil:=fun _ _ _ _ H Q I h=>Calls.spliced_nil ⟨[],H,I, .nil,h⟩
theorem pa_cons (ha:PE X e te) (hr:PA X es t) (hs:starEach (e::es) X.env=(false,eval e X.env)::starEach es X.env:=by rfl):PA X (e::es) (tCons te t):=by
 intro pos pins s σ H Q I h
 rw [hs]
 show wpAny _ _ (spliced ((false,eval e X.env)::backTo pos (starEach es X.env))) _ _ s
 refine Calls.spliced_cons (thn (ha pins s σ H _ I h) fun u s1 ⟨x,H1,I1,r1,q1⟩=> ?_)
 exact thn (hr pos pins s1 σ H1 _ I1 q1) fun us s2 ⟨xs,H2,I2,r2,q2⟩=>⟨x::xs,H2,I2, .cons r1 r2,q2⟩
def tTup (t:TA):TE:=fun σ H Q=>t σ H fun xs H1=>xs.length≤sizeLine∧∀ p,H1 p=none→Q (.ref p) (upd H1 p (.tup xs))
def tLst (t:TA):TE:=fun σ H Q=>t σ H fun xs H1=>xs.length≤sizeLine∧∀ p,H1 p=none→Q (.ref p) (upd H1 p (.lst xs))
theorem pe_tup {x1} (h:PA X es t):PE X (.Tuple es x1 pos) (tTup t):=by
 intro pins s σ H Q I hq
 refine wpAny_Tuple_spliced (thn (h pos pins s σ H _ I hq) fun us s1 ⟨xs,H1,I1,r,z,q⟩=>⟨by rw [←r.length];exact z,?_⟩)
 have hf:H1 s1.heap.objs.size=none:=I1.hok.fresh (Nat.le_refl _)
 refine ⟨.ref s1.heap.objs.size,upd H1 s1.heap.objs.size (.tup xs),I1.laid (t':=s1.toks) (fun b u e=>Heap.get?_push_of_some _ e) (Nat.le_refl _) ?_,rfl,q _ hf⟩
 exact ⟨z,us,r,⟨_,Heap.get?_push_size _ rfl,rfl,_,rfl⟩⟩
theorem pe_lst (h:PA X es t):PE X (.List es pos) (tLst t):=by
 intro pins s σ H Q I hq
 refine wpAny_List_spliced (thn (h pos pins s σ H _ I hq) fun us s1 ⟨xs,H1,I1,r,z,q⟩=>⟨by rw [←r.length];exact z,?_⟩)
 have hf:H1 s1.heap.objs.size=none:=I1.hok.fresh (Nat.le_refl _)
 refine ⟨.ref s1.heap.objs.size,upd H1 s1.heap.objs.size (.lst xs),I1.laid (t':=s1.toks) (fun b u e=>Heap.get?_push_of_some _ e) (Nat.le_refl _) ?_,rfl,q _ hf⟩
 exact ⟨z,us,0,r,Heap.get?_push_size _ rfl⟩
end
abbrev Sp:=List V→Hp→VK→XK→Prop
abbrev CXT:=List Env→Hp→Shared→XK→Value→Shared→Prop
structure Env0 (P:Program) (w:World) (K:PySem.W.Frag) (mg:Str→Option Value) (base:Heap) (A:Around) (outer:List Env) (s:Shared) (H:Hp):Prop where
 frames:A.frames=some outer
 mod:Mod K mg base
 bs:∀ b o,base.get? b=some o→s.heap.get? b=some o∧H b=none
 bsz:base.objs.size≤s.heap.objs.size
 funs:s.heap.FunFrames base outer
 frf:∀ b∈frs outer,H b=none
 hok:HOk P w H s.heap
 bare:AllBare s.gens
def CE (outer:List Env) (P:Program) (w:World) (H:Hp) (s:Shared) (Q:VK) (u:Value) (s':Shared):Prop:=
 ∃ v H',s'.os=s.os∧AllBare s'.gens∧Un (frs outer) [] H H' s.heap s'.heap∧HOk P w H' s'.heap∧RelV v u∧Q v H'
def CR (CX:CXT) (outer:List Env) (P:Program) (w:World) (H:Hp) (s:Shared) (Q:VK) (E:XK) (r:Result) (s':Shared):Prop:=
 match r with
 | .ok (.ret u)=>CE outer P w H s Q u s'
 | .ok _=>False
 | .error e=>CX outer H s E e s'
structure FnOk (P:Program) (w:World) (K:PySem.W.Frag) (mg:Str→Option Value) (base:Heap) (CX:CXT) (k:Nat) (f:Addr) (fd:FuncData) (ps:List Str) (sp:Sp):Prop where
 len:∀ vs H Q E,sp vs H Q E→vs.length=ps.length
 run:∀ (A:Around) (outer:List Env) (s:Shared) (H:Hp) (args:Args) (us:List Value) (vs:List V) (Q:VK) (E:XK),Room k A→Env0 P w K mg base A outer s H→BindsTo s fd args (ps.zip us)→Vals vs us→sp vs H Q E→
  codeAny (model P w) A (.call (.ref f) args) (CR CX outer P w H s Q E) s
theorem FnOk.mono {P:Program} {w:World} {K:PySem.W.Frag} {mg:Str→Option Value} {base:Heap} {CX:CXT} {j k:Nat} {f:Addr} {fd:FuncData} {ps:List Str} {sp:Sp} (F:FnOk P w K mg base CX j f fd ps sp) (h:j≤k):
  FnOk P w K mg base CX k f fd ps sp:=⟨F.len,fun A outer s H args us vs Q E hr=>F.run A outer s H args us vs Q E (hr.mono h)⟩
theorem FnOk.imp {P:Program} {w:World} {K:PySem.W.Frag} {mg:Str→Option Value} {base:Heap} {CX:CXT} {k:Nat} {f:Addr} {fd:FuncData} {ps:List Str} {sp sp':Sp} (F:FnOk P w K mg base CX k f fd ps sp)
  (h:∀ vs H Q E,sp' vs H Q E→sp vs H Q E):FnOk P w K mg base CX k f fd ps sp':=
 ⟨fun vs H Q E q=>F.len vs H Q E (h _ _ _ _ q),fun A outer s H args us vs Q E hr he hb hv hs=>F.run A outer s H args us vs Q E hr he hb hv (h _ _ _ _ hs)⟩
theorem Env0.make {P:Program} {w:World} {K:PySem.W.Frag} {mg:Str→Option Value} {base:Heap} {A:Around} {outer:List Env} {s:Shared} {H:Hp} (e:Env0 P w K mg base A outer s H) (C:Addr) (us:List Value) (kw:List (Str×Value)):
  Env0 P w K mg base (A.under (.builtin "type.__call__" ⟨.ref C::us,kw⟩)) outer s H:=⟨by first|exact e.frames|(simpa [Around.under,Code.envs,Code.isFrame,pushEnvs] using e.frames),e.mod,e.bs,e.bsz,e.funs,e.frf,e.hok,e.bare⟩
theorem Env0.in1 {P:Program} {w:World} {K:PySem.W.Frag} {mg:Str→Option Value} {base:Heap} {A:Around} {outer:List Env} {s:Shared} {H:Hp} (e:Env0 P w K mg base A outer s H):
  Env0 P w K mg base A.in1 outer s H:=⟨e.frames,e.mod,e.bs,e.bsz,e.funs,e.frf,e.hok,e.bare⟩
section
variable {X:Cx} {pins:List (Addr×Obj)} {σ:St} {H:Hp} {s s':Shared}
theorem Inv.env0 (I:Inv X pins σ H s):Env0 X.prog X.w X.K X.mg X.base X.A X.stack s H:=
 ⟨I.ok.frames,I.ok.mod,I.bs,Nat.le_trans I.ok.bsz I.sz,I.stack,I.stkFree,I.hok,I.bare⟩
theorem Inv.after {Q:VK} {u:Value} (I:Inv X pins σ H s) (h:CE X.stack X.prog X.w H s Q u s'):EP X pins σ Q u s':=by
 obtain ⟨v,H',os,bare,un,hok,r,q⟩:=h
 obtain ⟨hh,g,d,t,os'⟩:=s'
 obtain rfl:os'=s.os:=os
 exact ⟨v,H',I.call (h':=hh) (g':=g) (d':=d) (t':=t) (ch:= []) un hok bare (fun b z=>absurd z (by simp)),r,q⟩
end
def tCall (sp:Sp) (dvs:List V) (E:XK) (t:TA):TE:=fun σ H Q=>t σ H fun vs H1=>sp (vs++dvs) H1 Q E
def tMake (C:Addr) (sp:Sp) (dvs:List V) (E:XK) (t:TA):TE:=fun σ H Q=>t σ H fun vs H1=>∀ x dx,H1 x=none→H1 dx=none→dx≠x→
 sp (.ref x::(vs++dvs)) (upd (upd H1 dx (.own x)) x (.ins C dx [])) (fun v H2=>v= .non∧Q (.ref x) H2) E
def Binds (K:PySem.W.Frag) (fd:FuncData) (ps:List Str) (ds:List Value):Prop:=
 ∀ (s:Shared) (us:List Value),K.In s.heap→(us++ds).length=ps.length→BindsTo s fd ⟨us,[]⟩ (ps.zip (us++ds))
theorem Binds.all {K:PySem.W.Frag} {fd:FuncData} {ps:List Str} (h:∀ us:List Value,us.length=ps.length→bindArgs fd ⟨us,[]⟩=pure (ps.zip us)):Binds K fd ps []:=fun s us _ hl=>by
 rw [List.append_nil] at hl ⊢
 exact .of_eq (h us hl)
def Passes (CX:CXT) (X:Cx) (E:XK):Prop:=∀ (pins:List (Addr×Obj)) (σ:St) (H:Hp) (s:Shared) (e:Value) (s':Shared),Inv X pins σ H s→CX X.stack H s E e s'→X.xe e s'
section
variable {X:Cx} {CX:CXT} {k:Nat} {f C:Addr} {fd:FuncData} {ps:List Str} {sp:Sp} {dvs:List V} {ds:List Value} {E:XK} {x m:Str} {p pos apos:Pos} {e o:Expr} {es:List Expr} {ta:TE} {t:TA}
theorem run_fn {pins:List (Addr×Obj)} {σ:St} {H:Hp} {s:Shared} {Q:VK} {us:List Value} {vs:List V} (F:FnOk X.prog X.w X.K X.mg X.base CX k f fd ps sp) (hr:Room k X.A) (hb:Binds X.K fd ps ds) (hd:Vals dvs ds) (hx:Passes CX X E)
  (I:Inv X pins σ H s) (r:Vals vs us) (h:sp (vs++dvs) H Q E):wpAny (model X.prog X.w) X.A (call (.ref f) us) (EP X pins σ Q) X.xe s:=by
 have r2:Vals (vs++dvs) (us++ds):=r.append hd
 have hl:(us++ds).length=ps.length:=by rw [←r2.length];exact F.len _ _ _ _ h
 refine wpAny_call (codeAny_mono (F.run X.A X.stack s H ⟨us,[]⟩ (us++ds) (vs++dvs) Q E hr I.env0 (hb s us I.kIn hl) r2 h) fun r s' hq=> ?_)
 cases r with
 |error e=>exact hx pins σ H s e s' I hq
 |ok fl=>
  cases fl with
  |ret u=>exact I.after hq
  |next=>exact False.elim hq
  |brk=>exact False.elim hq
  |cont=>exact False.elim hq
theorem pe_call (F:FnOk X.prog X.w X.K X.mg X.base CX k f fd ps sp) (hr:Room k X.A) (hg:Gl X x) (hm:X.mg x=some (.ref f)) (hk:PySem.W.keepIn X.K (.ref f)=true) (hb:Binds X.K fd ps ds) (hd:Vals dvs ds) (hx:Passes CX X E)
  (ha:PA X (e::es) t) (hdb:(x==("__debug__":Str))=false:=by decide) (he:starEach (e::es) X.env=(false,eval e X.env)::starEach es X.env:=by rfl) (hpl:(backTo pos (starEach es X.env)).any (·.1)=false:=by rfl):
  PE X (.Call (.Name x p) (e::es) [] pos) (tCall sp dvs E t):=by
 intro pins s σ H Q I h
 refine wpAny_Call_Name_kw (ld_glob I hg hm ?_ hdb)
 refine PySem.W.callWith_K (h₀:=X.base) I.ok.mod.kin hk (thn (ha pos pins s σ H _ I h) fun us s1 ⟨vs,H1,I1,r,q⟩=>⟨I1.kIn,?_⟩) he hpl
 exact run_fn F hr hb hd hx I1 r q
structure Mk (K:PySem.W.Frag) (C f:Addr):Prop where
 makes:PySem.W.makesIn K C=true
 init:PySem.W.findIn K (.ref C) "__init__"=some (some (.ref f))
 fn:PySem.W.isFn K (.ref f)=true
 kp:PySem.W.keepIn K (.ref C)=true
theorem run_make {pins:List (Addr×Obj)} {σ:St} {H:Hp} {s:Shared} {Q:VK} {us:List Value} {vs:List V} (M:Mk X.K C f) (F:FnOk X.prog X.w X.K X.mg X.base CX k f fd ps sp) (hr:Room (k+1) X.A) (hb:Binds X.K fd ps ds) (hd:Vals dvs ds)
  (hx:Passes CX X E) (I:Inv X pins σ H s) (r:Vals vs us)
  (h:∀ x dx,H x=none→H dx=none→dx≠x→sp (.ref x::(vs++dvs)) (upd (upd H dx (.own x)) x (.ins C dx [])) (fun v H2=>v= .non∧Q (.ref x) H2) E):
  wpAny (model X.prog X.w) X.A (call (.ref C) us) (EP X pins σ Q) X.xe s:=by
 have hq:=h (s.heap.objs.size+1) s.heap.objs.size (I.hok.fresh (Nat.le_succ _)) (I.hok.fresh (Nat.le_refl _)) (Nat.ne_of_lt (Nat.lt_succ_self _))
 have I2:=Inv.made (C:=C) I
 have r2:Vals (V.ref (s.heap.objs.size+1)::(vs++dvs)) (Value.ref (s.heap.objs.size+1)::(us++ds)):= .cons rfl (r.append hd)
 have hl:(Value.ref (s.heap.objs.size+1)::us++ds).length=ps.length:=by
  have e:=r2.length
  rw [F.len _ _ _ _ hq] at e
  exact e.symm
 refine wpAny_call (make_map (f:=f) I.kIn M.makes M.init (beq_iff_eq.mp M.fn) (codeAny_mono (F.run _ X.stack _ _ ⟨Value.ref (s.heap.objs.size+1)::us,[]⟩ (Value.ref (s.heap.objs.size+1)::(us++ds)) _ _ E (hr.make C us [])
  (I2.env0.make C us []) (hb _ (Value.ref (s.heap.objs.size+1)::us) I2.kIn hl) r2 hq) fun r s' hq'=> ?_))
 cases r with
 |error e=>exact hx pins σ _ _ e s' I2 hq'
 |ok fl=>
  cases fl with
  |ret u=>
   obtain ⟨v,H',I3,rv,ev,q3⟩:=I2.after hq'
   subst ev
   exact ⟨rv,⟨V.ref (s.heap.objs.size+1),H',I3,rfl,q3⟩⟩
  |next=>exact False.elim hq'
  |brk=>exact False.elim hq'
  |cont=>exact False.elim hq'
theorem pe_make (M:Mk X.K C f) (F:FnOk X.prog X.w X.K X.mg X.base CX k f fd ps sp) (hr:Room (k+1) X.A) (hg:Gl X x) (hm:X.mg x=some (.ref C)) (hb:Binds X.K fd ps ds) (hd:Vals dvs ds) (hx:Passes CX X E)
  (ha:PA X (e::es) t) (hdb:(x==("__debug__":Str))=false:=by decide) (he:starEach (e::es) X.env=(false,eval e X.env)::starEach es X.env:=by rfl) (hpl:(backTo pos (starEach es X.env)).any (·.1)=false:=by rfl):
  PE X (.Call (.Name x p) (e::es) [] pos) (tMake C sp dvs E t):=by
 intro pins s σ H Q I h
 refine wpAny_Call_Name_kw (ld_glob I hg hm ?_ hdb)
 refine PySem.W.callWith_K (h₀:=X.base) I.ok.mod.kin M.kp (thn (ha pos pins s σ H _ I h) fun us s1 ⟨vs,H1,I1,r,q⟩=>⟨I1.kIn,?_⟩) he hpl
 exact run_make M F hr hb hd hx I1 r q
end
section
variable {X:Cx} {CX:CXT} {k:Nat} {f C:Addr} {fd:FuncData} {ps ks:List Str} {sp:Sp} {E:XK} {x m:Str} {p pos apos kpos:Pos} {e o:Expr} {es:List Expr} {kws:List Keyword} {te ta:TE} {t tk:TA} {nm:Option Str}
structure KBinds (K:PySem.W.Frag) (fd:FuncData) (ps ks:List Str) (g:List Value→List Value→List Value) (gV:List V→List V→List V):Prop where
 to:∀ (s:Shared) (us ws:List Value),K.In s.heap→(g us ws).length=ps.length→BindsTo s fd ⟨us,ks.zip ws⟩ (ps.zip (g us ws))
 rel:∀ {vs:List V} {us:List Value} {zs:List V} {ws:List Value},Vals vs us→Vals zs ws→Vals (gV vs zs) (g us ws)
variable {g:List Value→List Value→List Value} {gV:List V→List V→List V}
end
structure FnScope (N P:List Str) (sc:Scope):Prop where
 kind:sc.kind= .function
 co:sc.isCoroutine=false
 gen:sc.isGenerator=false
 nd:N.Nodup
 pre:N.take P.length=P
 par:∀ x∈P,sc.names.lookup x=some .local∨sc.names.lookup x=some .cell
 nofree:∀ y∈sc.names,y.2≠ .free
theorem bindL_out {kindOf:Str→Option NameKind} {x:Str}:∀ {binds:List (Str×Value)} {m:Str→Option Value},(∀ v,(x,v)∉binds)→bindL kindOf binds m x=m x
 | [],_,_=>rfl
 |(n,v)::r,m,h=>by
  unfold bindL
  rw [bindL_out fun w hw=>h w (List.mem_cons_of_mem _ hw)]
  split
  ·have:x≠n:=by rintro rfl;exact h v List.mem_cons_self
   simp [this]
  ·rfl
theorem bindC_out {kindOf:Str→Option NameKind} {x:Str}:∀ {binds:List (Str×Value)} {m:Str→Option Value},(∀ v,(x,v)∉binds)→bindC kindOf binds m x=m x
 | [],_,_=>rfl
 |(n,v)::r,m,h=>by
  unfold bindC
  rw [bindC_out fun w hw=>h w (List.mem_cons_of_mem _ hw)]
  split
  ·rfl
  ·have:x≠n:=by rintro rfl;exact h v List.mem_cons_self
   simp [this]
theorem bindL_get {kindOf:Str→Option NameKind} {x:Str} {v:Value}:∀ {P:List Str} {vs:List Value} {i:Nat} {m:Str→Option Value},P.Nodup→P[i]? =some x→vs[i]? =some v→kindOf x=some .local→
  bindL kindOf (P.zip vs) m x=some v
 | [],_,_,_,_,h,_,_=>by simp at h
 |_::_,[],_,_,_,_,h,_=>by simp at h
 |p::P,w::vs,0,m,nd,h1,h2,hk=>by
  simp at h1 h2;subst h1;subst h2
  show bindL kindOf ((p,w)::P.zip vs) m p=_
  unfold bindL
  rw [bindL_out fun v hv=>(List.nodup_cons.mp nd).1 (List.of_mem_zip hv).1,if_pos hk]
  simp
 |p::P,w::vs,i+1,m,nd,h1,h2,hk=>by
  show bindL kindOf ((p,w)::P.zip vs) m x=_
  unfold bindL
  exact bindL_get (i:=i) (List.nodup_cons.mp nd).2 (by simpa using h1) (by simpa using h2) hk
theorem bindC_get {kindOf:Str→Option NameKind} {x:Str} {v:Value}:∀ {P:List Str} {vs:List Value} {i:Nat} {m:Str→Option Value},P.Nodup→P[i]? =some x→vs[i]? =some v→kindOf x≠some .local→
  bindC kindOf (P.zip vs) m x=some v
 | [],_,_,_,_,h,_,_=>by simp at h
 |_::_,[],_,_,_,_,h,_=>by simp at h
 |p::P,w::vs,0,m,nd,h1,h2,hk=>by
  simp at h1 h2;subst h1;subst h2
  show bindC kindOf ((p,w)::P.zip vs) m p=_
  unfold bindC
  rw [bindC_out fun v hv=>(List.nodup_cons.mp nd).1 (List.of_mem_zip hv).1,if_neg hk]
  simp
 |p::P,w::vs,i+1,m,nd,h1,h2,hk=>by
  show bindC kindOf ((p,w)::P.zip vs) m x=_
  unfold bindC
  exact bindC_get (i:=i) (List.nodup_cons.mp nd).2 (by simpa using h1) (by simpa using h2) hk
def start (N:List Str) (vs:List V):St:=vs.map some++List.replicate (N.length-vs.length) none
def cxOf (CX:CXT) (P:Program) (w:World) (K:PySem.W.Frag) (mg:Str→Option Value) (base:Heap) (N:List Str) (qual:Str) (scope:Scope) (f:Addr) (cd:Value) (A:Around) (outer:List Env) (s:Shared) (H:Hp) (E:XK):Cx where
 prog:=P
 w:=w
 K:=K
 mg:=mg
 base:=base
 A:=A.deeper (envOfC qual scope s.heap.objs.size f cd)
 N:=N
 s₀:=s
 H₀:=H
 env:=envOfC qual scope s.heap.objs.size f cd
 outer:=outer
 stack:=envOfC qual scope s.heap.objs.size f cd::outer
 ex:= []
 calm:=true
 fn:=fun _=>true
 pn:= []
 xe:=fun e s'=>wpAny (model P w) (A.deeper (envOfC qual scope s.heap.objs.size f cd)) (leaving (envOfC qual scope s.heap.objs.size f cd) e) (fun _ s''=>CX outer H s E e s'') (fun e' s''=>CX outer H s E e' s'') s'
theorem cell_has {sc:Scope} {n:Nat} {x:Str} (h:sc.names.lookup x=some .cell):∃ c,(cellsFrom n sc.names []).lookup x=some c:=by
 have q:=PySem.W.cellsFrom_some sc.names n [] (.inl h)
 exact Option.isSome_iff_exists.mp q
theorem inv_start {CX:CXT} {P:Program} {w:World} {K:PySem.W.Frag} {mg:Str→Option Value} {base:Heap} {N ps:List Str} {qual:Str} {scope:Scope} {f:Addr} {cd:Value} {A:Around} {outer:List Env} {s s1:Shared} {H:Hp} {E:XK} {us:List Value} {vs:List V}
  (S:FnScope N ps scope) (hd:A.handled=none) (e0:Env0 P w K mg base A outer s H) (hl:vs.length=ps.length) (r:Vals vs us)
  (x:InCallC s s.heap.objs.size (bindL (envOfC qual scope s.heap.objs.size f cd).kindOf (ps.zip us) fun _=>none) (cellsFrom (s.heap.objs.size+1) scope.names []) (bindC (envOfC qual scope s.heap.objs.size f cd).kindOf (ps.zip us) fun _=>none) s1):
  Inv (cxOf CX P w K mg base N qual scope f cd A outer s H E) [] (start N vs) H s1:=by
 have hpl:ps.length≤N.length:=by have:=congrArg List.length S.pre;rw [List.length_take] at this;omega
 obtain ⟨h1,tk,rfl,hk⟩:=x.done
 have noA:∀ b:Addr,b∉(cxOf CX P w K mg base N qual scope f cd A outer s H E).ex:=fun b z=>absurd (show b∈([]:List Addr) from z) (by simp)
 refine ⟨⟨e0.mod,S.kind,rfl,rfl,Nat.le_refl _,fun y z c h1 h2=> ?_,fun y hy=> ?_,fun y c _ h=> ?_,fun _=>hd,Around.frames_deeper e0.frames, .inr ⟨rfl,rfl⟩,fun b z=>absurd z (noA b),e0.bs,e0.bsz,fun b _ _=>noA b,fun b z=>absurd z (noA b),e0.funs,e0.frf⟩,
  rfl,e0.bare,Un.kept hk,⟨_,x.toInCall.ns,fun i y v h1 h2 h3=> ?_⟩,fun y c h=>⟨_,x.cell y c h⟩,e0.hok.fresh (Nat.le_refl _),fun y c h=> ?_,fun p hp=>absurd (show p∈([]:List (Addr×Obj)) from hp) (by simp),e0.hok.kept hk,?_⟩
 ·exact name_of_addr x.apart (PySem.mem_of_lookup h1) (PySem.mem_of_lookup h2)
 ·have hy:scope.names.lookup y=some .cell∨scope.names.lookup y=some .free:=hy
  rcases hy with hy|hy
  ·exact cell_has hy
  ·exact absurd rfl (S.nofree _ (PySem.mem_of_lookup hy))
 ·exact Nat.le_of_lt (x.above y c (PySem.mem_of_lookup h))
 ·have hi:i<vs.length:=by
   unfold start at h2
   by_cases hi:i<vs.length
   ·exact hi
   ·rw [List.getElem?_append_right (by simpa using hi)] at h2
    rw [List.getElem?_replicate] at h2
    split at h2<;>cases h2
  have ha:vs[i]? =some v:=by
   unfold start at h2
   rw [List.getElem?_append_left (by simpa using hi),List.getElem?_map] at h2
   cases e:vs[i]? with
   |none=>rw [e] at h2;cases h2
   |some a=>rw [e] at h2;cases h2;rfl
  obtain ⟨u,hu,rv⟩:=r.get ha
  have hp:ps[i]? =some y:=by
   rw [←S.pre,List.getElem?_take_of_lt (by omega)];exact h1
  have ndP:ps.Nodup:=by rw [←S.pre];exact S.nd.sublist (List.take_sublist _ _)
  refine ⟨u,rv,?_⟩
  rcases S.par y (List.mem_of_getElem? hp) with k|k
  ·exact .inl ⟨k,bindL_get ndP hp hu k⟩
  ·obtain ⟨c,e⟩:=cell_has (n:=s.heap.objs.size+1) k
   refine .inr ⟨.inl k,c,e,?_⟩
   have q:=x.cell y c e
   rw [bindC_get ndP hp hu (by show scope.names.lookup y≠_;rw [k];decide)] at q
   exact q
 ·exact e0.hok.fresh (Nat.le_of_lt (x.above y c (PySem.mem_of_lookup h)))
 ·unfold start
  show _=N.length
  rw [List.length_append,List.length_map,List.length_replicate]
  omega
theorem fn_of {CX:CXT} {P:Program} {w:World} {K:PySem.W.Frag} {mg:Str→Option Value} {base:Heap} {k:Nat} {f:Addr} {name qual:Str} {params:Arguments} {body:List Stmt} {scope:Scope} {dV kV doc pm cdv ct oc:Value} {an od:Option Addr}
  {osl:Array (Option Value)} {N ps:List Str} {sp:Sp} (lk:K.lookup f=some ⟨oc,od, .func (PySem.W.fnOf name qual params body scope dV kV doc pm an cdv ct),osl⟩) (hcd:PySem.W.codeIn K cdv qual=true) (S:FnScope N ps scope)
  (len:∀ vs H Q E,sp vs H Q E→vs.length=ps.length)
  (hbody:∀ (A:Around) (outer:List Env) (s:Shared) (H:Hp) (vs:List V) (Q:VK) (E:XK),Room k (A.deeper (envOfC qual scope s.heap.objs.size f cdv))→sp vs H Q E→
   ∃ t,PSs (cxOf CX P w K mg base N qual scope f cdv A outer s H E) body t∧t {nx:=fun _ H'=>Q .non H',rt:=Q} (start N vs) H):
  FnOk P w K mg base CX (k+1) f (PySem.W.fnOf name qual params body scope dV kV doc pm an cdv ct) ps sp:=by
 refine ⟨len,fun A outer s H args us vs Q E hr e0 hb r hsp=> ?_⟩
 have hl:=len _ _ _ _ hsp
 have KX:K.In s.heap:=e0.mod.kin.keeps fun b o e=>(e0.bs b o e).1
 have lim:s.heap.NoLimit:=e0.mod.nolimit.keeps fun b o e=>(e0.bs b o e).1
 have hkind:∀ y∈ps.zip us,scope.names.lookup y.1=some .local∨(scope.names.lookup y.1=some .cell∧((cellsFrom (s.heap.objs.size+1) scope.names []).lookup y.1).isSome=true):=fun ⟨n,v⟩ hy=>by
  rcases S.par n (List.of_mem_zip hy).1 with q|q
  ·exact .inl q
  ·exact .inr ⟨q,PySem.W.cellsFrom_some _ _ _ (.inl q)⟩
 refine codeAny_call_function hr.depth (KX _ _ lk) rfl S.co S.gen rfl (PySem.W.codeRec_of KX hcd) (hb _ _ _ _ ?_)
 refine wpAny_newFunctionEnv_cells S.kind hkind fun env he s1 x=> ?_
 subst he
 refine ⟨lim.keeps x.toInCall.keep,codeAny_func ?_⟩
 obtain ⟨t,ht,hq⟩:=hbody A outer s H vs Q E (hr.deeper _) hsp
 have I:Inv (cxOf CX P w K mg base N qual scope f cdv A outer s H E) [] (start N vs) H s1:=inv_start S hr.hd e0 hl r x
 refine wpAny_mono (ht [] s1 (start N vs) H _ I hq) (fun fl s' hs=> ?_) fun e s' hs=>hs
 have fin:∀ {σ':St} {H':Hp} {v:V} {u:Value},Inv (cxOf CX P w K mg base N qual scope f cdv A outer s H E) [] σ' H' s'→RelV v u→Q v H'→CE outer P w H s Q u s':=
  fun {σ' H' v u} J rv q=>⟨v,H',J.os,J.bare,J.base,J.hok,rv,q⟩
 cases fl with
 |ret u=>
  obtain ⟨v,σ',H',J,rv,q⟩:=hs
  exact fin J rv q
 |next=>
  obtain ⟨σ',H',J,q⟩:=hs
  exact fin (v:=V.non) (u:=Value.none) J rfl q
 |brk=>
  obtain ⟨_,_,_,q⟩:=hs
  exact False.elim q
 |cont=>
  obtain ⟨_,_,_,q⟩:=hs
  exact False.elim q
end L2
namespace L2
open PySem PySem.Spec PyProof.Rows
section
variable {X:Cx} {x:Str} {p pos:Pos} {e:Expr} {es:List Expr} {t:TA} {id T:String} {r:List V→Hp→VK→Prop}
def tCB (r:List V→Hp→VK→Prop) (t:TA):TE:=fun σ H Q=>t σ H fun vs H1=>r vs H1 Q
theorem pe_callB (hc:CallR X (.builtin id) r) (hg:Gl X x) (hm:X.mg x=none) (hv:bootBuiltins x=some (.builtin id)) (ha:PA X (e::es) t) (hn:x≠"__name__":=by decide) (hdb:(x==("__debug__":Str))=false:=by decide)
  (he:starEach (e::es) X.env=(false,eval e X.env)::starEach es X.env:=by rfl) (hpl:(backTo pos (starEach es X.env)).any (·.1)=false:=by rfl):PE X (.Call (.Name x p) (e::es) [] pos) (tCB r t):=by
 intro pins s σ H Q I h
 refine wpAny_Call_Name_kw (ld_blt I hg hm hv ?_ hn hdb)
 exact PyProof.Rows.callWith_builtin1 (thn (ha pos pins s σ H _ I h) fun us s1 ⟨vs,H1,I1,r1,q1⟩=>hc pins s1 σ H1 vs us Q I1 r1 q1) he hpl
theorem pe_callTy (hc:CallR X (.type T) r) (hg:Gl X x) (hm:X.mg x=none) (hv:bootBuiltins x=some (.type T)) (ha:PA X (e::es) t) (hn:x≠"__name__":=by decide) (hdb:(x==("__debug__":Str))=false:=by decide)
  (he:starEach (e::es) X.env=(false,eval e X.env)::starEach es X.env:=by rfl) (hpl:(backTo pos (starEach es X.env)).any (·.1)=false:=by rfl):PE X (.Call (.Name x p) (e::es) [] pos) (tCB r t):=by
 intro pins s σ H Q I h
 refine wpAny_Call_Name_kw (ld_blt I hg hm hv ?_ hn hdb)
 exact PyProof.Rows.callWith_type1 (thn (ha pos pins s σ H _ I h) fun us s1 ⟨vs,H1,I1,r1,q1⟩=>hc pins s1 σ H1 vs us Q I1 r1 q1) he hpl
end
end L2
namespace HT
open PySem PyProof.Rows
section
open PySem.SeqAt
open PySem.AutoSeq1 (wpAny_loadPart')
open PySem.MeetsSeq PySem.MeetsSeq2 PySem.MeetsSeq3
end
section
variable {prog:Program} {w:World} {A:Around} {E:Value→Shared→Prop} {s:Shared}
theorem cat_tup {t b:Addr} {vs ws:List Value} {Q:Value→Shared→Prop} (ht:IsTup s.heap t vs.toArray) (hb:IsTup s.heap b ws.toArray) (hv:vs≠ [])
  (h1:ws= []→Q (.ref t) s) (h2:ws≠ []→Q (.ref s.heap.objs.size) {s with heap:=s.heap.push {cls:= .type "tuple",data:= .seq (vs++ws).toArray}})
  (hsz:vs.length+ws.length≤sizeLine):wpAny (model prog w) A (binaryOp .Add (.ref t) (.ref b)) Q E s:=by
 obtain ⟨⟨cls,dd,data,sl⟩,ho,hc,n,hd⟩:=id ht
 obtain ⟨⟨cls2,dd2,data2,sl2⟩,ho2,hc2,n2,hd2⟩:=id hb
 simp only at hc hd hc2 hd2
 subst hc hd hc2 hd2
 have e:vs.toArray++ws.toArray=(vs++ws).toArray:=by simp
 by_cases hw:ws= []
 ·exact concat_meets ⟨_,ho,rfl⟩ ⟨_,ho2,rfl⟩ noFill_tuple_add seq_tuple_add PySem.F.slot_tuple_add PySem.F.entry_tuple_add (PySem.F.args_tuple_add_2 _ _)
   (tuple_addW1 t b vs.toArray ws.toArray n n2 dd dd2 sl sl2 (by simpa using hv) (by simp [hw])) ⟨ho,ho2,h1 hw⟩
 ·refine concat_meets ⟨_,ho,rfl⟩ ⟨_,ho2,rfl⟩ noFill_tuple_add seq_tuple_add PySem.F.slot_tuple_add PySem.F.entry_tuple_add (PySem.F.args_tuple_add_2 _ _)
   (tuple_addW2 t b vs.toArray ws.toArray n n2 dd dd2 sl sl2 (by simpa using hv) (by simpa using hw) (by rw [List.size_toArray,List.size_toArray];exact hsz)) ⟨ho,ho2,?_⟩
  rw [e]
  exact h2 hw
def sIx (n d:Nat):Option Int→Nat
 |none=>d
 |some v=>if v<0 then (v+(n:Int)).toNat else min v.toNat n
theorem sIx_nat (n d k:Nat):sIx n d (some (k:Int))=min k n:=by
 show (if (k:Int)<0 then ((k:Int)+(n:Int)).toNat else min (k:Int).toNat n)=min k n
 rw [if_neg (by omega),Int.toNat_natCast]
end
end HT
namespace L2
open PySem PySem.Spec PyProof.Rows
abbrev TO:=St→Hp→(Option Int→Hp→Prop)→Prop
def PO (X:Cx) (e:Option Expr) (t:TO):Prop:=
 ∀ (pins:List (Addr×Obj)) (s:Shared) (σ:St) (H:Hp) (Q:Option Int→Hp→Prop),Inv X pins σ H s→t σ H Q→
  wpAny (model X.prog X.w) X.A (evalPart e X.env) (fun u s'=>∃ o H',Inv X pins σ H' s'∧IsPart u o∧Q o H') X.xe s
def tNoPart:TO:=fun _ H Q=>Q none H
def tPart (t:TE):TO:=fun σ H Q=>t σ H fun x H1=>∃ i,x= .int i∧Q (some i) H1
section
variable {X:Cx} {e:Expr} {te:TE} {lo hi:Option Expr} {tl th:TO} {pos p2:Pos}
theorem po_none:PO X none tNoPart:=by
 intro pins s σ H Q I h
 rw [evalPart_none]
 exact wpAny_pure ⟨none,H,I, .none,h⟩
theorem po_some (h:PE X e te):PO X (some e) (tPart te):=by
 intro pins s σ H Q I hw
 rw [evalPart_some]
 refine thn (h pins s σ H _ I hw) fun u s1 ⟨x,H1,I1,r1,q1⟩=> ?_
 obtain ⟨i,rfl,q⟩:=q1
 obtain ⟨t,rfl⟩:=r1
 exact ⟨some i,H1,I1, .int i t,q⟩
def SlR (X:Cx) (r:V→Option Int→Option Int→Hp→VK→Prop):Prop:=
 ∀ (pins:List (Addr×Obj)) (s:Shared) (σ:St) (H:Hp) (x:V) (v vl vu:Value) (lo hi:Option Int) (sl:Addr) (Q:VK),Inv X pins σ H s→RelV x v→s.heap.IsSliceOf sl vl vu .none→IsPart vl lo→IsPart vu hi→r x lo hi H Q→
  ∃ T id,typeLookup (.type T) "__getitem__"=pure (some (.builtin id))∧s.TypeIs v T∧wpAny (model X.prog X.w) X.A (getItem v (.ref sl)) (EP X pins σ Q) X.xe s
theorem SlR.or {r r':V→Option Int→Option Int→Hp→VK→Prop} (h:SlR X r) (h':SlR X r'):SlR X (fun x lo hi H Q=>r x lo hi H Q∨r' x lo hi H Q):=by
 intro pins s σ H x v vl vu lo hi sl Q I rx hs pl pu q
 rcases q with q|q
 ·exact h pins s σ H x v vl vu lo hi sl Q I rx hs pl pu q
 ·exact h' pins s σ H x v vl vu lo hi sl Q I rx hs pl pu q
def tSl (r:V→Option Int→Option Int→Hp→VK→Prop) (te:TE) (tl th:TO):TE:=fun σ H Q=>te σ H fun x H1=>tl σ H1 fun l H2=>th σ H2 fun u H3=>r x l u H3 Q
theorem pe_slice {r:V→Option Int→Option Int→Hp→VK→Prop} (hr:SlR X r) (he:PE X e te) (hl:PO X lo tl) (hu:PO X hi th):PE X (.Subscript e (.Slice lo hi none p2) pos) (tSl r te tl th):=by
 intro pins s σ H Q I h
 refine Subscript_ (thn (he pins s σ H _ I h) fun v s1 ⟨x,H1,I1,r1,q1⟩=> ?_)
 refine wpAny_Slice (thn (hl pins s1 σ H1 _ I1 q1) fun vl s2 ⟨l,H2,I2,pl,q2⟩=>thn (hu pins s2 σ H2 _ I2 q2) fun vu s3 ⟨u,H3,I3,pu,q3⟩=> ?_)
 rw [evalPart_none]
 refine wpAny_pure ?_
 have I4:Inv X pins σ H3 {s3 with heap:=s3.heap.push {cls:= .type "slice",data:= .fields #[vl,vu, .none]}}:=I3.kept (t':=s3.toks) fun b ob q=>Heap.get?_push_of_some _ q
 obtain ⟨T,id,hT,ht,hg⟩:=hr pins {s3 with heap:=s3.heap.push {cls:= .type "slice",data:= .fields #[vl,vu, .none]}} σ H3 x v vl vu l u s3.heap.objs.size Q I4 r1 (Heap.IsSliceOf.new ..) pl pu q3
 show wpAny (model X.prog X.w) X.A (subscriptTail e (.Slice lo hi none p2) v (.ref s3.heap.objs.size)) (EP X pins σ Q) X.xe {s3 with heap:=s3.heap.push {cls:= .type "slice",data:= .fields #[vl,vu, .none]}}
 exact tail_any (ops:= [.ref s3.heap.objs.size,v]) ht hT hg (by with_unfolding_all rfl)
def cutV (xs:List V) (lo hi:Option Int):List V:=(xs.drop (HT.sIx xs.length 0 lo)).take (HT.sIx xs.length xs.length hi-HT.sIx xs.length 0 lo)
theorem cutV_length (xs:List V) (lo hi:Option Int):(cutV xs lo hi).length≤xs.length:=by
 unfold cutV
 rw [List.length_take,List.length_drop]
 omega
def rCatT (K:PySem.W.Frag):R2:=fun x y H Q=>∃ a b xs ys,x= .ref a∧y= .ref b∧SqT K H a xs∧SqT K H b ys∧xs≠ []∧xs.length+ys.length≤sizeLine∧
 (ys= []→Q (.ref a) H)∧(ys≠ []→∀ p,H p=none→Q (.ref p) (upd H p (.tup (xs++ys))))
theorem Vals.nil_iff {xs:List V} {us:List Value} (r:Vals xs us):us= []↔xs= []:=by
 cases r with
 |nil=>simp
 |cons _ _=>simp
theorem op_catT:OpR X (binaryOp .Add) (rCatT X.K):=by
 intro pins s σ H x y v u Q I rx ry h
 obtain ⟨a,b,xs,ys,rfl,rfl,ha,hb,hx,hz,q1,q2⟩:=h
 cases rx
 cases ry
 obtain ⟨its,r1,p1,_⟩:=I.tuple ha
 obtain ⟨its2,r2,p2,_⟩:=I.tuple hb
 refine HT.cat_tup p1 p2 (fun z=>hx (r1.nil_iff.mp z)) (fun z=>⟨.ref a,H,I,rfl,q1 (r2.nil_iff.mp z)⟩) (fun z=> ?_) (by rw [←r1.length,←r2.length];exact hz)
 refine ⟨.ref s.heap.objs.size,_,I.laid (t':=s.toks) (o:= .tup (xs++ys)) (fun b ob q=>Heap.get?_push_of_some _ q) (Nat.le_refl _) ?_,rfl,q2 (fun w=>z (r2.nil_iff.mpr w)) _ (I.hok.fresh (Nat.le_refl _))⟩
 exact ⟨by rw [List.length_append];exact hz,_,r1.append r2,IsTup.new _ _⟩
end
end L2
namespace L2
open PySem PySem.Spec PyProof.Rows
def ixN (n:Nat) (i:Int):Option Nat:=if 0≤i then (if i<n then some i.toNat else none) else if -(n:Int)≤i then some (i+n).toNat else none
def atI {α:Type} (xs:List α) (i:Int):Option α:=(ixN xs.length i).bind fun j=>xs[j]?
theorem ixN_seq {n:Nat} {i:Int} {j:Nat} (h:ixN n i=some j):seqIndex? i n=some j∧j<n∧ -(n:Int)≤i∧i<n:=by
 unfold ixN at h
 by_cases h0:0≤i
 ·rw [if_pos h0] at h
  by_cases h1:i<n
  ·rw [if_pos h1] at h
   have e:i.toNat=j:=Option.some.inj h
   exact ⟨by rw [seqIndex_of h0 h1,e],by omega,by omega,h1⟩
  ·rw [if_neg h1] at h;cases h
 ·rw [if_neg h0] at h
  by_cases h1: -(n:Int)≤i
  ·rw [if_pos h1] at h
   have e:(i+n).toNat=j:=Option.some.inj h
   exact ⟨by rw [seqIndex_neg (by omega) h1,e],by omega,h1,by omega⟩
  ·rw [if_neg h1] at h;cases h
theorem atI_get {α:Type} {xs:List α} {i:Int} {v:α} (h:atI xs i=some v):∃ j,seqIndex? i xs.length=some j∧xs[j]? =some v∧j<xs.length∧ -(xs.length:Int)≤i∧i<xs.length:=by
 unfold atI at h
 cases e:ixN xs.length i with
 |none=>rw [e] at h;cases h
 |some j=>
  rw [e] at h
  obtain ⟨h1,h2,h3,h4⟩:=ixN_seq e
  exact ⟨j,h1,h,h2,h3,h4⟩
def PlainIx (b:Expr):Prop:=∀ o i,subscripted b false o i=operate [o,i] (getItem o i)
def IxR (X:Cx) (r:R2):Prop:=
 ∀ (value slice:Expr) (pins:List (Addr×Obj)) (s:Shared) (σ:St) (H:Hp) (x y:V) (v u:Value) (Q:VK),Inv X pins σ H s→RelV x v→RelV y u→r x y H Q→
  subscripted slice false v u=operate [v,u] (getItem v u)→wpAny (model X.prog X.w) X.A (subscriptTail value slice v u) (EP X pins σ Q) X.xe s
def MtR (X:Cx) (id:String) (r:V→List V→Hp→VK→Prop):Prop:=
 ∀ (pins:List (Addr×Obj)) (s:Shared) (σ:St) (H:Hp) (x:V) (xs:List V) (v:Value) (us:List Value) (Q:VK),Inv X pins σ H s→RelV x v→Vals xs us→r x xs H Q→
  wpAny (model X.prog X.w) X.A (call (.builtin id) (v::us)) (EP X pins σ Q) X.xe s
section
variable {X:Cx} {a b:Expr} {ta tb:TE} {pos:Pos}
theorem IxR.or {r r':R2} (h:IxR X r) (h':IxR X r'):IxR X (fun x y H Q=>r x y H Q∨r' x y H Q):=by
 intro value slice pins s σ H x y v u Q I rx ry q hs
 rcases q with q|q
 ·exact h value slice pins s σ H x y v u Q I rx ry q hs
 ·exact h' value slice pins s σ H x y v u Q I rx ry q hs
theorem MtR.or {id:String} {r r':V→List V→Hp→VK→Prop} (h:MtR X id r) (h':MtR X id r'):MtR X id (fun x xs H Q=>r x xs H Q∨r' x xs H Q):=by
 intro pins s σ H x xs v us Q I rx rs q
 rcases q with q|q
 ·exact h pins s σ H x xs v us Q I rx rs q
 ·exact h' pins s σ H x xs v us Q I rx rs q
theorem pe_ix {r:R2} (hr:IxR X r) (ha:PE X a ta) (hb:PE X b tb) (hs:PlainIx b):PE X (.Subscript a b pos) (tOp r ta tb):=by
 intro pins s σ H Q I h
 exact Subscript_ (binT ha hb I h fun v u s2 x y H2 I2 rx ry q=>hr a b pins s2 σ H2 x y v u Q I2 rx ry q (hs _ _))
def rIxL (K:PySem.W.Frag):R2:=fun x y H Q=>∃ p xs i v,x= .ref p∧y= .int i∧SqL K H p xs∧atI xs i=some v∧Q v H
def rIxT (K:PySem.W.Frag):R2:=fun x y H Q=>∃ p xs i v,x= .ref p∧y= .int i∧SqT K H p xs∧atI xs i=some v∧Q v H
def rIxS:R2:=fun x y H Q=>∃ z i c,x= .str z∧y= .int i∧z.length≤sizeLine∧atI z.cps.toList i=some c∧Q (.str ⟨#[c]⟩) H
theorem ix_list:IxR X (rIxL X.K):=by
 intro value slice pins s σ H x y v u Q I rx ry h hs
 obtain ⟨p,xs,i,z,rfl,rfl,hq,he,q⟩:=h
 cases rx
 obtain ⟨t,rfl⟩:=ry
 obtain ⟨its,r,pl,hz⟩:=I.list hq
 obtain ⟨j,h1,h2,h3,h4,h5⟩:=atI_get he
 obtain ⟨w,ew,rw'⟩:=r.get h2
 have hl:=r.length
 have hn:=line63
 have fin:EP X pins σ Q w s:=⟨z,H,I,rw',q⟩
 by_cases h0:0≤i
 ·have hj:i.toNat=j:=by
   rw [seqIndex_of h0 h5] at h1
   exact Option.some.inj h1
  exact item_listR pl.isList h0 (by omega) (by rw [hj];simpa using ew) fin hs
 ·have hj:(i+(its.toArray.size:Int)).toNat=j:=by
   rw [seqIndex_neg (by omega) h4] at h1
   rw [List.size_toArray,←hl]
   exact Option.some.inj h1
  exact subscriptTail_builtinR (x:=w) pl.isList.typeIs slot_list_getitem.lookup
   (wpAny_getItem_list_neg (Q:=fun r s'=>r=w∧EP X pins σ Q r s') pl.isList (by omega) (by rw [List.size_toArray]<;>omega) (by omega) (by rw [hj];simpa using ew) ⟨rfl,fin⟩) hs
theorem ix_tup:IxR X (rIxT X.K):=by
 intro value slice pins s σ H x y v u Q I rx ry h hs
 obtain ⟨p,xs,i,z,rfl,rfl,hq,he,q⟩:=h
 cases rx
 obtain ⟨t,rfl⟩:=ry
 obtain ⟨its,r,pl,hz⟩:=I.tuple hq
 obtain ⟨j,h1,h2,h3,h4,h5⟩:=atI_get he
 obtain ⟨w,ew,rw'⟩:=r.get h2
 have hl:=r.length
 have hn:=line63
 have fin:EP X pins σ Q w s:=⟨z,H,I,rw',q⟩
 exact subscriptTail_builtinR (x:=w) pl.typeIs slot_tuple_getitem.lookup
  (getItem_tuple (j:=j) (Q:=fun r s'=>r=w∧EP X pins σ Q r s') pl (by omega) (by omega) (by rw [List.size_toArray,←hl];exact h1) (by simpa using ew) ⟨rfl,fin⟩) hs
theorem ix_str:IxR X rIxS:=by
 intro value slice pins s σ H x y v u Q I rx ry h hs
 obtain ⟨z,i,c,rfl,rfl,hz,he,q⟩:=h
 obtain ⟨t,rfl⟩:=rx
 obtain ⟨t',rfl⟩:=ry
 obtain ⟨j,h1,h2,h3,h4,h5⟩:=atI_get he
 have hl:z.cps.toList.length=z.length:=by simp [Str.length]
 rw [hl] at h1 h4 h5
 have hn:=line63
 exact tail_any (typeIs_str s z t) slot_str_getitem.lookup (getItem_str (c:=c) (by
  have e1:decide (i< -(2^63:Int))=false:=decide_eq_false (by omega)
  have e2:decide (i≥2^63)=false:=decide_eq_false (by omega)
  rw [e1,e2,Bool.or_false]) (by rw [h1];simpa using h2) ⟨.str ⟨#[c]⟩,H,I.tok _,⟨_,rfl⟩,q⟩) hs
def rIx (K:PySem.W.Frag):R2:=fun x y H Q=>rIxL K x y H Q∨rIxT K x y H Q∨rIxS x y H Q
theorem ix_seq:IxR X (rIx X.K):=ix_list.or (ix_tup.or ix_str)
theorem Inv.lst {pins:List (Addr×Obj)} {σ:St} {H:Hp} {s:Shared} {p:Addr} {xs:List V} (I:Inv X pins σ H s) (h:H p=some (.lst xs)):
  ∃ (its:List Value) (n:Nat),Vals xs its∧s.heap.get? p=some {cls:= .type "list",data:= .seq its.toArray n}∧xs.length≤sizeLine:=by
 obtain ⟨z,its,n,r,e⟩:=I.hok p _ h
 exact ⟨its,n,r,e,z⟩
theorem slice_bounds (lo hi:Option Int) (n:Nat):(sliceBounds lo hi none n).1=((HT.sIx n 0 lo:Nat):Int)∧(sliceBounds lo hi none n).2.1=((HT.sIx n n hi:Nat):Int)∧(sliceBounds lo hi none n).2.2=1:=by
 refine ⟨?_,?_,rfl⟩
 ·cases lo with
  |none=>simp [sliceBounds,HT.sIx]
  |some i=>
   simp only [sliceBounds,HT.sIx,Option.getD_none,show (1:Int)>0 by decide,if_true]
   by_cases h:i<0
   ·simp only [h,if_true]<;>omega
   ·simp only [h,if_false]<;>omega
 ·cases hi with
  |none=>simp [sliceBounds,HT.sIx]
  |some i=>
   simp only [sliceBounds,HT.sIx,Option.getD_none,show (1:Int)>0 by decide,if_true]
   by_cases h:i<0
   ·simp only [h,if_true]<;>omega
   ·simp only [h,if_false]<;>omega
theorem slicePick_cut (its:List Value) (lo hi:Option Int):slicePick its.toArray lo hi none=((its.drop (HT.sIx its.length 0 lo)).take (HT.sIx its.length its.length hi-HT.sIx its.length 0 lo)).toArray:=by
 obtain ⟨h1,h2,h3⟩:=slice_bounds lo hi its.toArray.size
 unfold slicePick
 rw [h1,h2,h3]
 simp only [sliceRange_one,pick_run,List.size_toArray]<;>rfl
def rSlL (K:PySem.W.Frag):V→Option Int→Option Int→Hp→VK→Prop:=fun x lo hi H Q=>∃ a xs,x= .ref a∧SqL K H a xs∧∀ p,H p=none→Q (.ref p) (upd H p (.lst (cutV xs lo hi)))
theorem sl_list:SlR X (rSlL X.K):=by
 intro pins s σ H x v vl vu lo hi sl Q I rx hs pl pu h
 obtain ⟨a,xs,rfl,hx,q⟩:=h
 cases rx
 obtain ⟨its,r,ht,hz⟩:=I.list hx
 have hlen:=r.length
 refine ⟨"list",_,slot_list_getitem.lookup,ht.isList.typeIs,?_⟩
 refine wpAny_getItem_list_slice ht.isList hs pl pu .none (by simp) ?_ (by rw [List.size_toArray]<;>omega)
 rw [slicePick_cut,←hlen]
 refine ⟨.ref s.heap.objs.size,_,I.laid (t':=s.toks) (o:= .lst (cutV xs lo hi)) (fun b ob q=>Heap.get?_push_of_some _ q) (Nat.le_refl _) ?_,rfl,q _ (I.hok.fresh (Nat.le_refl _))⟩
 exact ⟨Nat.le_trans (cutV_length xs lo hi) hz,_,0,(r.drop (HT.sIx xs.length 0 lo)).take (HT.sIx xs.length xs.length hi-HT.sIx xs.length 0 lo),Heap.get?_push_size _ rfl⟩
def flatV:V→Bool
 | .non=>true
 | .bl _=>true
 | .int _=>true
 | .str _=>true
 |_=>false
def eqV:V→V→Bool
 | .non, .non=>true
 | .bl a, .bl b=>a==b
 | .bl a, .int b=>(if a then 1 else 0)==b
 | .int a, .bl b=>a==(if b then 1 else 0)
 | .int a, .int b=>a==b
 | .str a, .str b=>a==b
 |_,_=>false
theorem eqAt_V {A:Around} {s:Shared} {y x:V} {u v:Value} (ry:RelV y u) (rx:RelV x v) (fy:flatV y=true) (fx:flatV x=true):SeqAt.EqAt A s u v (eqV y x):=by
 cases y with
 |non=>
  cases ry
  cases x with
  |non=>cases rx;exact SeqAt.EqAt.same _
  |bl b=>cases rx;exact SeqAt.EqAt.none_bool b
  |int b=>obtain ⟨t,rfl⟩:=rx;exact SeqAt.EqAt.none_int b t
  |str b=>obtain ⟨t,rfl⟩:=rx;exact SeqAt.EqAt.none_str b t
  |_=>exact absurd (show false=true from fx) Bool.false_ne_true
 |bl a=>
  cases ry
  cases x with
  |non=>cases rx;exact SeqAt.EqAt.bool_none a
  |bl b=>cases rx;exact SeqAt.EqAt.bool_bool a b
  |int b=>obtain ⟨t,rfl⟩:=rx;exact SeqAt.EqAt.bool_int a b t
  |str b=>obtain ⟨t,rfl⟩:=rx;exact SeqAt.EqAt.bool_str a b t
  |_=>exact absurd (show false=true from fx) Bool.false_ne_true
 |int a=>
  obtain ⟨t',rfl⟩:=ry
  cases x with
  |non=>cases rx;exact SeqAt.EqAt.int_none a t'
  |bl b=>cases rx;exact SeqAt.EqAt.int_bool a t' b
  |int b=>obtain ⟨t,rfl⟩:=rx;exact SeqAt.EqAt.int_int a t' b t
  |str b=>obtain ⟨t,rfl⟩:=rx;exact SeqAt.EqAt.int_str a t' b t
  |_=>exact absurd (show false=true from fx) Bool.false_ne_true
 |str a=>
  obtain ⟨t',rfl⟩:=ry
  cases x with
  |non=>cases rx;exact SeqAt.EqAt.str_none a t'
  |bl b=>cases rx;exact SeqAt.EqAt.str_bool a t' b
  |int b=>obtain ⟨t,rfl⟩:=rx;exact SeqAt.EqAt.str_int a t' b t
  |str b=>obtain ⟨t,rfl⟩:=rx;exact SeqAt.EqAt.str_str a t' b t
  |_=>exact absurd (show false=true from fx) Bool.false_ne_true
 |_=>exact absurd (show false=true from fy) Bool.false_ne_true
def eqU (x:V) (u:Value):Bool:=match u with
 | .none=>eqV .non x
 | .bool b=>eqV (.bl b) x
 | .int i _=>eqV (.int i) x
 | .str z _=>eqV (.str z) x
 |_=>false
theorem eqU_of {x y:V} {u:Value} (r:RelV y u) (f:flatV y=true):eqU x u=eqV y x:=by
 cases y with
 |non=>cases r;rfl
 |bl b=>cases r;rfl
 |int i=>obtain ⟨t,rfl⟩:=r;rfl
 |str z=>obtain ⟨t,rfl⟩:=r;rfl
 |_=>exact absurd (show false=true from f) Bool.false_ne_true
theorem any_eqU {x:V}:∀ {xs:List V} {us:List Value},Vals xs us→xs.all flatV=true→us.any (eqU x)=xs.any fun y=>eqV y x
 |_,_, .nil,_=>rfl
 |y::xs,u::us, .cons r t,f=>by
  rw [List.all_cons,Bool.and_eq_true] at f
  rw [List.any_cons,List.any_cons,eqU_of r f.1,any_eqU t f.2]
theorem mem_eqAt {A:Around} {s:Shared} {x:V} {v:Value} (rx:RelV x v) (fx:flatV x=true):∀ {xs:List V} {us:List Value},Vals xs us→xs.all flatV=true→∀ u∈us,SeqAt.EqAt A s u v (eqU x u)
 |_,_, .nil,_=>fun u hu=>by cases hu
 |y::xs,u::us, .cons r t,f=>fun u' hu=>by
  rw [List.all_cons,Bool.and_eq_true] at f
  rcases List.mem_cons.mp hu with rfl|hu
  ·rw [eqU_of r f.1];exact eqAt_V r rx f.1 fx
  ·exact mem_eqAt rx fx t f.2 u' hu
def inV (x:V) (xs:List V):Bool:=xs.any fun y=>eqV y x
def rIn (K:PySem.W.Frag) (neg:Bool):R2:=fun x y H Q=>∃ p xs,y= .ref p∧(SqL K H p xs∨SqT K H p xs)∧flatV x=true∧xs.all flatV=true∧Q (.bl (if neg then !inV x xs else inV x xs)) H
theorem op_in_seq:OpR X (compareOp .In) (rIn X.K false):=by
 intro pins s σ H x y v u Q I rx ry h
 obtain ⟨p,xs,rfl,hq,fx,fs,q⟩:=h
 cases ry
 rcases hq with hq|hq
 ·obtain ⟨its,r,pl,hz⟩:=I.list hq
  refine SeqAt.in_listAt (eqU x) pl.isList (fun w hw=>mem_eqAt rx fx r fs w (by simpa using hw)) ⟨.bl _,H,I,rfl,?_⟩
  rw [show its.toArray.any (eqU x)=its.any (eqU x) by simp,any_eqU r fs]
  exact q
 ·obtain ⟨its,r,pl,hz⟩:=I.tuple hq
  refine SeqAt.in_tupleAt (eqU x) pl (fun w hw=>mem_eqAt rx fx r fs w (by simpa using hw)) ⟨.bl _,H,I,rfl,?_⟩
  rw [show its.toArray.any (eqU x)=its.any (eqU x) by simp,any_eqU r fs]
  exact q
theorem op_notIn_seq:OpR X (compareOp .NotIn) (rIn X.K true):=by
 intro pins s σ H x y v u Q I rx ry h
 obtain ⟨p,xs,rfl,hq,fx,fs,q⟩:=h
 cases ry
 rcases hq with hq|hq
 ·obtain ⟨its,r,pl,hz⟩:=I.list hq
  refine SeqAt.notIn_listAt (eqU x) pl.isList (fun w hw=>mem_eqAt rx fx r fs w (by simpa using hw)) ⟨.bl _,H,I,rfl,?_⟩
  rw [show its.toArray.any (eqU x)=its.any (eqU x) by simp,any_eqU r fs]
  exact q
 ·obtain ⟨its,r,pl,hz⟩:=I.tuple hq
  refine SeqAt.notIn_tupleAt (eqU x) pl (fun w hw=>mem_eqAt rx fx r fs w (by simpa using hw)) ⟨.bl _,H,I,rfl,?_⟩
  rw [show its.toArray.any (eqU x)=its.any (eqU x) by simp,any_eqU r fs]
  exact q
theorem CallR.or {f:Value} {r r':List V→Hp→VK→Prop} (h:CallR X f r) (h':CallR X f r'):CallR X f (fun xs H Q=>r xs H Q∨r' xs H Q):=by
 intro pins s σ H xs us Q I rs q
 rcases q with q|q
 ·exact h pins s σ H xs us Q I rs q
 ·exact h' pins s σ H xs us Q I rs q
theorem call_list_of:CallR X (.type "list") (fun xs H Q=>∃ p ys,xs= [.ref p]∧(SqL X.K H p ys∨SqT X.K H p ys)∧∀ l,H l=none→Q (.ref l) (upd H l (.lst ys))):=by
 intro pins s σ H xs us Q I r h
 obtain ⟨p,ys,rfl,hq,q⟩:=h
 obtain ⟨u,rfl,rx⟩:=vals1 r
 cases rx
 have fin:∀ (its:List Value),Vals ys its→ys.length≤sizeLine→∀ (h':Heap) (c':Nat),(∀ b o',s.heap.get? b=some o'→h'.get? b=some o')→
   h'.get? s.heap.objs.size=some {cls:= .type "list",dict:=none,data:= .seq its.toArray c',slots:= #[]}→EP X pins σ Q (.ref s.heap.objs.size) {s with heap:=h'}:=fun its r' hz h' c' kp e=>
  ⟨.ref s.heap.objs.size,_,I.laid (t':=s.toks) kp (Nat.le_refl _) (show ObjOk X.prog X.w _ h' _ (.lst ys) from ⟨hz,its,c',r',e⟩),rfl,q _ (I.hok.fresh (Nat.le_refl _))⟩
 rcases hq with hq|hq
 ·obtain ⟨its,r',pl,hz⟩:=I.list hq
  have hlen:=r'.length
  obtain ⟨o,ho,hc,n,hd⟩:=pl.isList
  exact call_list_seq p (.inl rfl) ho hc hd (fun h' c' kp e=>fin its r' hz h' c' kp e) (by simp only [List.size_toArray]<;>omega)
 ·obtain ⟨its,r',pl,hz⟩:=I.tuple hq
  have hlen:=r'.length
  obtain ⟨o,ho,hc,n,hd⟩:=pl
  exact call_list_seq p (.inr rfl) ho hc hd (fun h' c' kp e=>fin its r' hz h' c' kp e) (by simp only [List.size_toArray]<;>omega)
def tyV (K:PySem.W.Frag) (T:String) (x:V) (H:Hp):Prop:=match x with
 | .str _=>T="str"
 | .int _=>T="int"
 | .ref p=>(T="list"∧∃ xs,SqL K H p xs)∨(T="tuple"∧∃ o,K.lookup p=some o∧o.cls= .type "tuple"∧o.dict=none)∨
   (T="dict"∧((∃ kvs,H p=some (.dK kvs))∨∃ kvs,H p=some (.dT kvs)))∨(T="set"∧∃ S n,H p=some (.set S n))
 |_=>False
theorem tyV_is {pins:List (Addr×Obj)} {σ:St} {H:Hp} {s:Shared} {T:String} {x:V} {v:Value} (I:Inv X pins σ H s) (r:RelV x v) (ty:tyV X.K T x H):
  s.TypeIs v T∧∀ a,v= .ref a→∃ ob,s.heap.get? a=some ob∧ob.dict=none:=by
 cases x with
 |str z=>
  obtain ⟨t,rfl⟩:=r
  cases (show T="str" from ty)
  exact ⟨typeIs_str s z t,fun _ e=>nomatch e⟩
 |int i=>
  obtain ⟨t,rfl⟩:=r
  cases (show T="int" from ty)
  exact ⟨typeIs_int s i t,fun _ e=>nomatch e⟩
 |ref p=>
  cases r
  rcases ty with ⟨rfl,xs,hq⟩|⟨rfl,o,hk,hc,hd⟩|⟨rfl,hk⟩|⟨rfl,S,n,hk⟩
  ·obtain ⟨its,_,pl,_⟩:=I.list hq
   refine ⟨pl.isList.typeIs,fun a e=> ?_⟩
   cases e
   obtain ⟨o,n,e,c,hd,_⟩:=pl
   exact ⟨o,e,hd⟩
  ·refine ⟨⟨o,I.kIn p o hk,hc⟩,fun a e=> ?_⟩
   cases e
   exact ⟨o,I.kIn _ o hk,hd⟩
  ·have z:∃ o,s.heap.get? p=some o∧o.ExactDict:=by
    rcases hk with ⟨kvs,hk⟩|⟨kvs,hk⟩
    ·obtain ⟨_,_,_,_,o,_,_,e,ex,_⟩:=I.hok p _ hk
     exact ⟨o,e,ex⟩
    ·obtain ⟨_,_,_,_,o,_,_,e,ex,_⟩:=I.hok p _ hk
     exact ⟨o,e,ex⟩
   obtain ⟨o,e,ex⟩:=z
   refine ⟨⟨o,e,ex.1⟩,fun a e2=> ?_⟩
   cases e2
   exact ⟨o,e,ex.2.1⟩
  ·obtain ⟨o,_,_,_,e,ex,_⟩:=I.hok p _ hk
   refine ⟨⟨o,e,ex.1⟩,fun a e2=> ?_⟩
   cases e2
   exact ⟨o,e,ex.2.1⟩
 |_=>exact False.elim ty
def tBM (K:PySem.W.Frag) (T:String) (r:V→List V→Hp→VK→Prop) (to:TE) (t:TA):TE:=fun σ H Q=>to σ H fun x H1=>tyV K T x H1∧t σ H1 fun xs H2=>r x xs H2 Q
variable {o e:Expr} {es:List Expr} {to:TE} {t:TA} {name:Str} {apos cpos:Pos} {T id:String} {r:V→List V→Hp→VK→Prop}
theorem pe_bm (pa:PlainAttrs T) (slot:Slot T name id) (hty:typeOf (.builtin id)=pure (.type "method_descriptor")) (hm:MtR X id r) (ho:PE X o to) (ha:PA X (e::es) t)
  (hbase:attributeBase o name X.env (eval o X.env)=eval o X.env:=by rfl)
  (hfew:((backTo cpos (starEach (e::es) X.env)).all (fun x=> !x.1)&&(backToKw cpos (keywordEach [] X.env)).all (fun x=>x.1.isSome)
   &&decide ((e::es).length+([]:List Keyword).length+(if ([]:List Keyword).isEmpty then 0 else 1)<30))=true:=by rfl)
  (hline:(apos.endLine==cpos.line)=true:=by rfl) (hs:starEach (e::es) X.env=(false,eval e X.env)::starEach es X.env:=by rfl) (hplain:(backTo cpos (starEach es X.env)).any (·.1)=false:=by rfl):
  PE X (.Call (.Attribute o name apos) (e::es) [] cpos) (tBM X.K T r to t):=by
 intro pins s σ H Q I h
 refine wpAny_Call_method_late hbase hfew hline rfl (thn (ho pins s σ H _ I h) fun v s1 ⟨x,H1,I1,r1,ty,q1⟩=> ?_)
 obtain ⟨h1,h2⟩:=tyV_is I1 r1 ty
 refine ⟨T,id,pa,slot,hty,h1,h2,?_⟩
 have hA:=ha cpos pins s1 σ H1 _ I1 q1
 rw [hs] at hA ⊢
 refine Calls.callWith_builtin (by show (false||(backTo cpos (starEach es X.env)).any (·.1))=false;rw [hplain]<;>rfl) (Calls.evalArgs_plain ?_)
 exact thn hA fun us s2 ⟨vs,H2,I2,r2,q2⟩=>hm pins s2 σ H2 x vs v us Q I2 r1 r2 q2
/- xs.append(e),list.index on a module's tuple .. are MtR facts of 06m -/
end
end L2
namespace L2
open PySem PySem.Spec PyProof.Rows
def MtM (X:Cx) (id:String) (r:V→List V→Hp→VK→Prop):Prop:=
 ∀ (pins:List (Addr×Obj)) (s:Shared) (σ:St) (H:Hp) (x:V) (xs:List V) (v:Value) (us:List Value) (Q:VK),Inv X pins σ H s→RelV x v→Vals xs us→r x xs H Q→
  wpAny (model X.prog X.w) X.A (call (.builtin id) (v::us)) (EP X pins σ Q) X.xe s
theorem Vals.one:∀ {x:V} {us:List Value},Vals [x] us→∃ u,us= [u]∧RelV x u
 |_,_, .cons r .nil=>⟨_,rfl,r⟩
theorem Vals.two:∀ {x y:V} {us:List Value},Vals [x,y] us→∃ u v,us= [u,v]∧RelV x u∧RelV y v
 |_,_,_, .cons r (.cons q .nil)=>⟨_,_,rfl,r,q⟩
theorem Vals.reverse {xs:List V} {us:List Value} (h:Vals xs us):Vals xs.reverse us.reverse:=by
 induction h with
 |nil=>exact .nil
 |cons r t ih=>rw [List.reverse_cons,List.reverse_cons];exact Vals.append ih (.cons r .nil)
theorem Vals.rep {xs:List V} {us:List Value} (h:Vals xs us):∀ k:Nat,Vals (List.replicate k xs).flatten (List.replicate k us).flatten
 |0=> .nil
 |k+1=>by
  rw [List.replicate_succ,List.replicate_succ,List.flatten_cons,List.flatten_cons]
  exact Vals.append h (Vals.rep h k)
theorem foldl_rep (its:List Value):∀ (k:Nat) (acc:List Value),
  List.foldl (fun x1 x2=>x1++x2) acc.toArray (List.replicate k its.toArray)=(acc++(List.replicate k its).flatten).toArray
 |0,acc=>by simp
 |k+1,acc=>by
  have e:acc.toArray++its.toArray=(acc++its).toArray:=by simp
  have e2:(acc++its)++(List.replicate k its).flatten=acc++(List.replicate (k+1) its).flatten:=by
   rw [List.replicate_succ,List.flatten_cons,List.append_assoc]
  rw [←e2,←foldl_rep its k (acc++its),←e,List.replicate_succ,List.foldl_cons]
section
variable {X:Cx} {pins:List (Addr×Obj)} {σ:St} {H:Hp} {s:Shared} {l b:Addr} {xs ys zs:List V}
theorem Inv.lset {its its':List Value} {n:Nat} {f:Array Value→Array Value} {t':Nat} (I:Inv X pins σ H s) (hH:H l=some (.lst xs))
  (e:s.heap.get? l=some {cls:= .type "list",data:= .seq its.toArray n}) (hf:f its.toArray=its'.toArray) (hv:Vals ys its') (hz:ys.length≤sizeLine):
  Inv X pins σ (upd H l (.lst ys)) {s with heap:=s.heap.update l (Obj.mapSeq f),toks:=t'}:=by
 have q:=PySem.IsL.update e f
 rw [hf] at q
 refine I.write (x:=l) (e:=l) (by rw [hH];exact trivial) (.inl rfl) (fun b' u hb hu=>(Heap.get?_update_other s.heap (Obj.mapSeq f) (Ne.symm hb)).trans hu) ⟨_,q⟩ ?_
 exact ⟨hz,its',_,hv,q⟩
theorem Inv.lnew {its:List Value} {t':Nat} (I:Inv X pins σ H s) (hv:Vals ys its) (hz:ys.length≤sizeLine):
  Inv X pins σ (upd H s.heap.objs.size (.lst ys)) {s with heap:=s.heap.push {cls:= .type "list",data:= .seq its.toArray},toks:=t'}:=
 I.laid (fun _ _ q=>Heap.get?_push_of_some _ q) (Nat.le_refl _) ⟨hz,its,0,hv,Heap.get?_push_size _ rfl⟩
theorem Inv.fresh (I:Inv X pins σ H s):H s.heap.objs.size=none:=I.hok.fresh (Nat.le_refl _)
theorem Inv.lstM (I:Inv X pins σ H s) (hH:H l=some (.lst xs)):xs.length≤sizeLine∧∃ (its:List Value) (n:Nat),Vals xs its∧xs.length=its.length∧s.heap.get? l=some {cls:= .type "list",data:= .seq its.toArray n}:=by
 obtain ⟨z,its,n,r,e⟩:=I.hok l _ hH
 exact ⟨z,its,n,r,r.length,e⟩
theorem notLongL {n:Nat} (h:n≤sizeLine):Builtin.List.listTooLong n=false:=by
 unfold Builtin.List.listTooLong
 exact decide_eq_false (by omega)
end
section
variable {X:Cx}
def rAppend:V→List V→Hp→VK→Prop:=fun x vs H Q=>∃ l xs y,x= .ref l∧vs= [y]∧H l=some (.lst xs)∧xs.length<sizeLine∧Q .non (upd H l (.lst (xs++ [y])))
theorem mt_append:MtM X "list.append" rAppend:=by
 intro pins s σ H x vs v us Q I rx rv h
 obtain ⟨l,xs,y,rfl,rfl,hH,hz,q⟩:=h
 cases rx
 obtain ⟨u,rfl,ru⟩:=rv.one
 obtain ⟨z,its,n,r,hl,e⟩:=I.lstM hH
 refine call_meets F.slot_list_append ⟨_,e,rfl⟩ F.entry_list_append (F.args_list_append_2 _ _) (PySem.list_append l its.toArray n u (by rw [List.size_toArray];omega)) ⟨e,?_⟩
 refine ⟨.non,_,I.lset (its':=its++ [u]) hH e (by simp) (r.append (.cons ru .nil)) ?_,rfl,q⟩
 rw [List.length_append,List.length_singleton]
 omega
def rExtend:V→List V→Hp→VK→Prop:=fun x vs H Q=>∃ l b xs zs,x= .ref l∧vs= [.ref b]∧H l=some (.lst xs)∧H b=some (.lst zs)∧xs.length+zs.length≤sizeLine∧Q .non (upd H l (.lst (xs++zs)))
theorem mt_extend:MtM X "list.extend" rExtend:=by
 intro pins s σ H x vs v us Q I rx rv h
 obtain ⟨l,b,xs,zs,rfl,rfl,hH,hB,hz,q⟩:=h
 cases rx
 obtain ⟨u,rfl,ru⟩:=rv.one
 cases ru
 obtain ⟨z,its,n,r,hl,e⟩:=I.lstM hH
 obtain ⟨z2,its2,n2,r2,hl2,e2⟩:=I.lstM hB
 have hsz:its.toArray.size+its2.toArray.size≤sizeLine:=by rw [List.size_toArray,List.size_toArray];omega
 have hlong:¬ (!its.toArray.isEmpty&&Builtin.List.listTooLong (its.toArray.size+its2.toArray.size))=true:=by
  rw [notLongL hsz,Bool.and_false]
  exact Bool.false_ne_true
 refine call_meets F.slot_list_extend ⟨_,e,rfl⟩ F.entry_list_extend (F.args_list_extend_2 _ _)
  (AutoSeq1.list_extend_list_list_0 l its.toArray n b its2.toArray n2 hlong (by rw [List.size_toArray];omega) (by omega)) ⟨e,e2,?_⟩
 refine ⟨.non,_,I.lset (its':=its++its2) hH e (by simp) (r.append r2) ?_,rfl,q⟩
 rw [List.length_append]
 omega
theorem len_rep {α:Type} (xs:List α) (k:Nat):(List.replicate k xs).flatten.length=k*xs.length:=by
 induction k with
 |zero=>simp
 |succ k ih=>rw [List.replicate_succ,List.flatten_cons,List.length_append,ih,Nat.succ_mul,Nat.add_comm]
end
section
variable {prog:Program} {w:World} {A:Around} {E:Value→Shared→Prop} {s:Shared}
end
section
variable {X:Cx}
end
end L2
namespace Att
open PySem PySem.W PySem.Calls PyProof.Rows
theorem ints_of_wellAll {P:Params} {h:Heap}:∀ (ns:List Int) (vs:List Value),WellAll P h vs (ns.map WData.int)→IntsAre vs ns:=by
 intro ns
 induction ns with
 |nil=>
  intro vs w
  rw [List.map_nil] at w
  cases w
  exact .nil
 |cons n ns ih=>
  intro vs w
  rw [List.map_cons] at w
  cases w with
  |cons a b=>
   cases a
   exact .cons _ _ (ih _ b)
theorem script_of {l:OpenLaw} {n:Nat} (hn:l.most=some n) {P:Params} {h:Heap} {args:List WData} {vals:List Value}
  (hpre:l.row.toRowW.claim.pre args=true) (hwl:WellAll P h vals args):
  ∃ a vs ns,vals= [Value.ref a]∧args= [WData.list (ns.map WData.int)]∧h.get? a=some {cls:= .type "list",data:= .seq vs.toArray}∧IntsAre vs ns∧ns.length≤n:=by
 have hsh:WShape.hasAll [] args [.list .int]=true:=(pre_splitW hpre).1
 have hc:l.pre.holds [] {args:=args}=true:=(pre_splitW hpre).2
 obtain ⟨d,r,rfl,h1,h2⟩:=hasAllW_cons hsh
 obtain rfl:=hasAllW_nil h2
 obtain ⟨xs,rfl,h3⟩:=hasW_list h1
 obtain ⟨ns,rfl⟩:=items_int h3
 have hlen:ns.length≤n:=by
  unfold OpenLaw.pre at hc
  have h4:(WTm.not (.lt (.lit (.int (n:Int))) (.len (.arg 0)))).holds [] {args:= [.list (ns.map .int)]}=true:=by
   have h4:=(holds_andW hc).1
   rw [hn] at h4
   exact h4
  have h5:=condW_of h4 (w_not (w_lt w_lit (w_len_list (w_arg rfl))))
  rw [List.length_map] at h5
  refine Nat.le_of_not_lt fun q=> ?_
  have q':(n:Int)<((ns.length:Nat):Int):=by omega
  first
   |(rw [decide_eq_true q'] at h5;exact absurd h5 (by decide))
   |(simp at h5;omega)
 cases hwl with
 |cons w1 w2=>
  cases w2
  cases w1 with
  |list ho hall=>exact ⟨_,_,ns,rfl,rfl,ho,ints_of_wellAll ns _ hall,hlen⟩
theorem post_true (l:OpenLaw) (args:List WData):l.row.toRowW.claim.post args (.bool true) args=true:=
 postW_of (r:=l.row.toRowW) (X:=(true==true))
  (show WShape.has [] (.bool true) .bool=true by first|rfl|decide|simp [WShape.has,WShape.arms,WShape.armsAll])
  (show (WTm.eq .res (.lit (.bool true))).value [] {args:=args,res:=some (.bool true),after:=args}=some (.bool (true==true)) from w_eq_bool (w_res rfl) w_lit) rfl
theorem attach_call {l:OpenLaw} {n:Nat} {q:Program} {loose:List Str} {XP:(Str→Option Value)→Heap→Prop} {YP:World→Heap→Prop} {d:DefRec}
  (hn:l.most=some n) (hdf:d.params.defaults= [])
  (call:∀ (w:World) (s₀ s₁:Shared) (mg mb:Str→Option Value) (fa:Addr) (o:Obj) (pm cd doc:Value) (a:Addr) (vs:List Value) (ns:List Int),
   Ground q loose [] XP w s₀ mg mb s₁.heap→YP w s₁.heap→
   s₁.heap.get? fa=some o→o.data= .func (docDef d.name d.params d.body d.scope pm cd doc)→s₁.heap.CodeRec cd d.name→mg d.name=some (.ref fa)→
   s₁.heap.get? a=some {cls:= .type "list",data:= .seq vs.toArray}→IntsAre vs ns→ns.length≤n→s₁.gens= #[]→
   codeAny (model l.prog w) callerA (.call (.ref fa) ⟨[.ref a],[]⟩) (fun r s'=>r= .ok (.ret (.bool true))∧OldK s₁.heap s'.heap∧s'.os=s₁.os∧AllBare s'.gens) s₁):
  WalkO q loose XP YP l.row.toRowW d [] (fun f vs=>PySem.call f vs):=by
 intro w s₀ s₁ mg mb G Y fa o pm cd doc dV kV ho hd hcd hD hmg hg args vals as hpre hlay hrd hwl hlo
 obtain rfl:dV= .none:=Dflts.none hD hdf
 obtain rfl:kV= .none:=Dflts.noKw hD
 obtain ⟨a,vs,ns,rfl,rfl,hobj,hints,hlen⟩:=script_of hn hpre hwl
 refine enter_call (codeAny_mono (call w s₀ s₁ mg mb fa o pm cd doc a vs ns G Y ho (fd_plain hd) hcd hmg hobj hints hlen hg) fun r s' hq=> ?_)
 obtain ⟨rfl,h2,h3,h4⟩:=hq
 exact ⟨.inl ⟨.bool true, .bool true,[],rfl,fun _=>rfl, .bool true,post_true l _,fun _=>⟨List.Pairwise.nil,fun _ hm=>(nomatch hm)⟩⟩,h2,h3,h4⟩
section
variable {prog:Program} {w:World} {A:Around} {E:Value→Shared→Prop} {s:Shared} {K:Frag}
end
end Att
namespace L2
open PySem PySem.Spec PyProof.Rows
theorem vals_ints:∀ {vs:List Value} {ns:List Int},IntsAre vs ns→Vals (ns.map V.int) vs
 |_,_, .nil=> .nil
 |_,_, .cons n t h=> .cons ⟨t,rfl⟩ (vals_ints h)
def Only (H:Hp):Prop:=∀ b,H b=none∨∃ o xs,H b=some (.frz o (.lst xs))
theorem law_call {P:Program} {w:World} {K:PySem.W.Frag} {mg mb:Str→Option Value} {CX:CXT} {k:Nat} {fa a:Addr} {fd:FuncData} {x:Str} {sp:Sp} {s₁:Shared} {vs:List Value} {ns:List Int}
  (KX:K.In s₁.heap) (hns:s₁.heap.Ns mainGlobals mg) (hb:s₁.heap.Ns builtinsNs mb) (hbb:∀ x:Str,x≠"__name__"→mb x=bootBuiltins x) (hlim:s₁.heap.NoLimit) (hg:s₁.gens= #[])
  (ha:s₁.heap.get? a=some {cls:= .type "list",data:= .seq vs.toArray}) (hi:IntsAre vs ns) (hl:ns.length≤sizeLine) (hr:Room k callerA)
  (F:∀ base:Heap,K.In base→base.Ns mainGlobals mg→FnOk P w K mg base CX k fa fd [x] sp) (hbind:∀ (s:Shared) (u:Value),BindsTo s fd ⟨[u],[]⟩ [(x,u)])
  (hsp:∀ H:Hp,Only H→SqL K H a (ns.map V.int)→sp [.ref a] H (fun v _=>v= .bl true) fun _ _ _=>False)
  (hCX:∀ H e s',CX [] H s₁ (fun _ _ _=>False) e s'→False):
  codeAny (model P w) callerA (.call (.ref fa) ⟨[.ref a],[]⟩) (fun r s'=>r= .ok (.ret (.bool true))∧OldK s₁.heap s'.heap∧s'.os=s₁.os∧AllBare s'.gens) s₁:=by
 have rv:=vals_ints hi
 have lenV:=hi.length
 have core:∀ H:Hp,Only H→SqL K H a (ns.map V.int)→HOk P w H s₁.heap→(∀ b,H b≠none→b=a)→(H a≠none→K.lookup a=none)→
   codeAny (model P w) callerA (.call (.ref fa) ⟨[.ref a],[]⟩) (fun r s'=>r= .ok (.ret (.bool true))∧OldK s₁.heap s'.heap∧s'.os=s₁.os∧AllBare s'.gens) s₁:=by
  intro H hO hS hok hA hK
  have base_of:∀ {b:Addr} {o:Obj},s₁.heap.get? b=some o→H b=none→(hidT s₁.heap H).get? b=some o:=fun e n=>hidT_get e n
  have noA:∀ {b:Addr} {o:Obj} {es:Array DictEntry} {ep:Nat},s₁.heap.get? b=some o→o.data= .dict es ep→H b=none:=fun {b o es ep} e d=>by
   cases q:H b with
   |none=>rfl
   |some u=>
    have e':b=a:=hA b (by rw [q];simp)
    subst e'
    rw [ha] at e;cases e
    have d':Data.seq vs.toArray _=Data.dict es ep:=d
    cases d'
  have nsK:∀ {b:Addr} {m:Str→Option Value},s₁.heap.Ns b m→(hidT s₁.heap H).Ns b m:=fun {b m} ⟨o,es,ep,e,d,r⟩=>⟨o,es,ep,base_of e (noA e d),d,r⟩
  have hKb:K.In (hidT s₁.heap H):=fun b o e=>base_of (KX b o e) (by
   cases q:H b with
   |none=>rfl
   |some u=>
    have e':b=a:=hA b (by rw [q];simp)
    subst e'
    rw [hK (by rw [q];simp)] at e;cases e)
  have hM:Mod K mg (hidT s₁.heap H):=⟨hKb,nsK hns,⟨mb,nsK hb,hbb⟩,let ⟨mc,h1,h2⟩:=hlim;⟨mc,nsK h1,h2⟩⟩
  have e0:Env0 P w K mg (hidT s₁.heap H) callerA [] s₁ H:=⟨rfl,hM,fun b o e=>of_hidT e,Nat.le_of_eq (hidT_size _ _),trivial,fun b hb=>absurd (show b∈([]:List Addr) from hb) (by simp),hok, .of_eq hg⟩
  refine codeAny_mono ((F _ hKb (nsK hns)).run callerA [] s₁ H ⟨[.ref a],[]⟩ [.ref a] [.ref a] _ _ hr e0 (hbind s₁ (.ref a)) (.cons rfl .nil) (hsp H hO hS)) fun r s' h=> ?_
  cases r with
  |error e=>exact (hCX H e s' h).elim
  |ok fl=>
   cases fl with
   |next=>exact False.elim h
   |brk=>exact False.elim h
   |cont=>exact False.elim h
   |ret u=>
    obtain ⟨v,H',os,bare,un,hok',r',q⟩:=h
    have q':v= .bl true:=q
    subst q'
    obtain rfl:u=Value.bool true:=r'
    refine ⟨rfl,OldK.of_keep fun b o e=> ?_,os,bare⟩
    cases q:H b with
    |none=>exact un.keep b o e q (by intro z;exact absurd (show b∈([]:List Addr) from z) (by simp)) (by simp)
    |some u=>
     rcases hO b with z|⟨ob,xs,z⟩
     ·rw [q] at z;cases z
     ·have z2:=un.frzs b ob _ z
      obtain ⟨e1,_⟩:=hok b _ z
      obtain ⟨e2,_⟩:=hok' b _ z2
      rw [e] at e1;cases e1
      exact e2
 cases hk:K.lookup a with
 |some o=>
  have e:=KX a o hk
  rw [ha] at e
  cases e
  refine core (fun _=>none) (fun _=> .inl rfl) (.inr ⟨_,vs.toArray,_,hk,rfl,rfl,rfl,by rw [List.size_toArray,lenV];exact hl,by simpa using rv⟩) (fun b u z=>by have z':(none:Option HO)=some u:=z;cases z') (fun b z=>absurd rfl z) fun z=>absurd rfl z
 |none=>
  refine core (fun b=>if b=a then some (.frz {cls:= .type "list",data:= .seq vs.toArray} (.lst (ns.map V.int))) else none) (fun b=> ?_) (.inl (.inr ⟨{cls:= .type "list",data:= .seq vs.toArray},if_pos rfl⟩)) (fun b u z=> ?_) (fun b z=> ?_) fun _=>hk
  ·by_cases hb:b=a
   ·exact .inr ⟨_,_,if_pos hb⟩
   ·exact .inl (if_neg hb)
  ·by_cases hb:b=a
   ·have z':=(if_pos hb).symm.trans z
    cases z'
    subst hb
    exact ⟨ha,by rw [List.length_map];exact hl,vs,_,rv,ha⟩
   ·have z':=(if_neg hb).symm.trans z
    cases z'
  ·by_cases hb:b=a
   ·exact hb
   ·exact absurd (if_neg hb) z
end L2
namespace L2
open PySem PySem.Spec PyProof.Rows
theorem walk_of {l:PySem.W.OpenLaw} {n k:Nat} {q:Program} {loose:List Str} {XP:(Str→Option Value)→Heap→Prop} {YP:World→Heap→Prop} {d:DefRec} {K:Params→PySem.W.Frag} {CX:World→CXT} {sp:World→Sp} {x:Str}
  (hn:l.most=some n) (hn2:n≤sizeLine) (hdf:d.params.defaults= []) (hr:Room k callerA)
  (hY:∀ (w:World) (h:Heap),YP w h→(K w.params).In h)
  (F:∀ (w:World) (mg:Str→Option Value) (fa:Addr) (h:Heap),(K w.params).In h→h.Ns mainGlobals mg→mg d.name=some (.ref fa)→
   ∃ fd:FuncData,(∀ (s:Shared) (u:Value),BindsTo s fd ⟨[u],[]⟩ [(x,u)])∧
    ∀ base:Heap,(K w.params).In base→base.Ns mainGlobals mg→FnOk l.prog w (K w.params) mg base (CX w) k fa fd [x] (sp w))
  (hsp:∀ (w:World) (H:Hp) (a:Addr) (ns:List Int),ns.length≤n→Only H→SqL (K w.params) H a (ns.map V.int)→sp w [.ref a] H (fun v _=>v= .bl true) fun _ _ _=>False)
  (hCX:∀ (w:World) (H:Hp) (s:Shared) (e:Value) (s':Shared),CX w [] H s (fun _ _ _=>False) e s'→False):
  PySem.W.WalkO q loose XP YP l.row.toRowW d [] (fun f vs=>PySem.call f vs):=by
 refine Att.attach_call hn hdf fun w s₀ s₁ mg mb fa o pm cd doc a vs ns G Y ho hd hcd hmg hobj hints hlen hg=> ?_
 have KX:=hY w _ Y
 obtain ⟨fd,hb,hF⟩:=F w mg fa _ KX G.T.g hmg
 exact law_call KX G.T.g G.T.b G.T.builtins G.T.nolimit hg hobj hints (Nat.le_trans hlen hn2) hr hF hb (fun H hO hS=>hsp w H a ns hlen hO hS) fun H e s'=>hCX w H s₁ e s'
end L2
/- THE LAST THEOREM (shape; LID, My.* are yours):
   My.Adr: a structure of the addresses that your layer names (classes, functions); My.Txt K t: a structure (Prop) of the equations over K;
   My.txt_mk : {K} {implicit addresses ..} (e1 : nsIn K mainGlobals "law" = some (some (.ref f))) (e2 : K.lookup f = some ⟨oc, od, .func (fnOf "law" "law" params body scope dV kV doc pm an cdv ct), sl⟩) (e3 : codeIn K cdv "law" = true) .. : ∃ t, My.Txt K t
(the tactic k_is has no namespace: write k_is) -/
namespace L2
open PySem PySem.Spec PyProof.Rows
def inClass (s:Stmt) (j:Nat):Stmt:=match s with
 | .ClassDef _ _ _ body _ _ _ _ _ _ _=>body.getD j (.Pass ⟨0,0,0,0⟩)
 |_=> .Pass ⟨0,0,0,0⟩
def defArgs (s:Stmt):Arguments:=match s with
 | .FunctionDef _ a _ _ _ _ _ _ _ _=>a
 |_=> {posonlyargs:= [],args:= [],vararg:=none,kwonlyargs:= [],kw_defaults:= [],kwarg:=none,defaults:= []}
def defBody (s:Stmt):List Stmt:=match s with
 | .FunctionDef _ _ b _ _ _ _ _ _ _=>b
 |_=> []
def defScope (s:Stmt):Scope:=match s with
 | .FunctionDef _ _ _ _ _ _ sc _ _ _=>sc
 |_=> {kind:= .function,names:= [],isGenerator:=false,isCoroutine:=false}
abbrev CX0:CXT:=fun _ _ _ _ _ _=>False
abbrev E0:XK:=fun _ _ _=>False
theorem pass0 {X:Cx}:Passes CX0 X E0:=fun _ _ _ _ _ _ _ h=>h.elim
structure Fun (K:PySem.W.Frag) (x qual:Str) (st:Stmt) (f:Addr) (fd:FuncData):Prop where
 ex:∃ (oc:Value) (od:Option Addr) (kV doc pm:Value) (an:Option Addr) (cdv ct:Value) (osl:Array (Option Value)),
  fd=PySem.W.fnOf x qual (defArgs st) (defBody st) (defScope st) .none kV doc pm an cdv ct∧K.lookup f=some ⟨oc,od, .func fd,osl⟩∧PySem.W.codeIn K cdv qual=true
 kp:PySem.W.keepIn K (.ref f)=true
section
variable {P:Program} {w:World} {K:PySem.W.Frag} {mg:Str→Option Value} {base:Heap}
theorem Fun.ok {x qual:Str} {st:Stmt} {f:Addr} {fd:FuncData} {N ps:List Str} {k:Nat} {sp:Sp} (F:Fun K x qual st f fd) (S:FnScope N ps (defScope st)) (len:∀ vs H Q E,sp vs H Q E→vs.length=ps.length)
  (hbody:∀ (cdv:Value) (A:Around) (outer:List Env) (s:Shared) (H:Hp) (vs:List V) (Q:VK) (E:XK),Room k (A.deeper (envOfC qual (defScope st) s.heap.objs.size f cdv))→sp vs H Q E→
   ∃ t,PSs (cxOf CX0 P w K mg base N qual (defScope st) f cdv A outer s H E).nox (defBody st) t∧t {nx:=fun _ H'=>Q .non H',rt:=Q} (start N vs) H):FnOk P w K mg base CX0 (k+1) f fd ps sp:=by
 obtain ⟨oc,od,kV,doc,pm,an,cdv,ct,osl,rfl,lk,hcd⟩:=F.ex
 refine fn_of lk hcd S len fun A outer s H vs Q E hr hsp=> ?_
 obtain ⟨t,h,q⟩:=hbody cdv A outer s H vs Q E hr hsp
 exact ⟨t,h.nox,q⟩
theorem Fun.binds {x qual:Str} {st:Stmt} {f:Addr} {fd:FuncData} {ps:List Str} (F:Fun K x qual st f fd)
  (h:∀ (kV doc pm:Value) (an:Option Addr) (cdv ct:Value) (us:List Value),us.length=ps.length→bindArgs (PySem.W.fnOf x qual (defArgs st) (defBody st) (defScope st) .none kV doc pm an cdv ct) ⟨us,[]⟩=pure (ps.zip us)):Binds K fd ps []:=by
 obtain ⟨oc,od,kV,doc,pm,an,cdv,ct,osl,rfl,lk,hcd⟩:=F.ex
 exact .all (h kV doc pm an cdv ct)
theorem fun_mk {x qual:Str} {st:Stmt} {f:Addr} {oc:Value} {od an:Option Addr} {osl:Array (Option Value)} {kV doc pm cdv ct:Value} (l:K.lookup f=some ⟨oc,od, .func (PySem.W.fnOf x qual (defArgs st) (defBody st) (defScope st) .none kV doc pm an cdv ct),osl⟩)
  (c:PySem.W.codeIn K cdv qual=true) (k:PySem.W.keepIn K (.ref f)=true):Fun K x qual st f (PySem.W.fnOf x qual (defArgs st) (defBody st) (defScope st) .none kV doc pm an cdv ct):=⟨⟨oc,od,kV,doc,pm,an,cdv,ct,osl,rfl,l,c⟩,k⟩
end
section
variable {X:Cx}
theorem pv (i:Nat) {x:Str} {pos:Pos} (hN:X.N[i]? =some x:=by rfl) (hv:Vis X.env.scope x:=by first|exact Or.inl rfl|exact Or.inr (Or.inl rfl)|exact Or.inr (Or.inr rfl)) (hd:(x==("__debug__":Str))=false:=by decide)
  (hcd:(x==("__classdict__":Str))=false:=by decide):PE X (.Name x pos) (tVar i):=pe_var hN hv hd hcd
end
def Same (H H':Hp):Prop:=∀ b o,H b=some o→H' b=some o
theorem Same.refl (H:Hp):Same H H:=fun _ _ h=>h
theorem Same.trans {H H1 H2:Hp} (a:Same H H1) (b:Same H1 H2):Same H H2:=fun c o h=>b c o (a c o h)
theorem Same.free {H H':Hp} (e:Same H H') {l:Addr} (h:H' l=Option.none):H l=Option.none:=by
 cases q:H l with
 |none=>rfl
 |some o=>
  rw [e l o q] at h
  cases h
theorem Same.seq {K:PySem.W.Frag} {H H':Hp} {a:Addr} {xs:List V} (e:Same H H') (h:SqL K H a xs):SqL K H' a xs:=by
 rcases h with (h|⟨o,h⟩)|h
 ·exact .inl (.inl (e _ _ h))
 ·exact .inl (.inr ⟨o,e _ _ h⟩)
 ·exact .inr h
end L2
set_option maxHeartbeats 4000000
namespace L3
open PySem PySem.Spec PyProof.Rows L2
inductive D where
 |non|bl (b:Bool)|int (i:Int)|str (x:Str)|tup (ds:List D)|lst (ds:List D)|dct (ks:List Key) (ds:List D)|exc (c:Str) (ds:List D)|obj (c:Str) (ks:List Str) (ds:List D)
inductive Res (α:Type) where
 |ok (a:α)|ex (c:Str) (fs:List D)|stuck
def Res.bind {α β:Type} (r:Res α) (k:α→Res β):Res β:=match r with
 | .ok a=>k a
 | .ex c fs=> .ex c fs
 | .stuck=> .stuck
theorem Res.bind_ok {α β:Type} (a:α) (k:α→Res β):(Res.ok a).bind k=k a:=rfl
theorem Res.bind_ex {α β:Type} (c:Str) (fs:List D) (k:α→Res β):(Res.ex c fs).bind k= .ex c fs:=rfl
theorem Res.bind_stuck {α β:Type} (k:α→Res β):(Res.stuck:Res α).bind k= .stuck:=rfl
inductive S where
 |d (x:D)|o (ds:List D)|q (ks:List Key) (ds:List D)|w (dss:List (List D))
def Ow:S→Prop
 | .d _=>False
 |_=>True
def MutO:HO→Prop
 | .lst _=>True
 | .dK _=>True
 | .ins _ _ _=>True
 |_=>False
abbrev DSt:=List (Option S)
abbrev Dx:=Option Addr×Bool
def ExcAt (a:Addr) (C:Value) (dx:Dx):Heap→Prop:=fun h=>∃ o vs,h.get? a=some o∧o.cls=C∧o.dict=dx.1∧o.data= .fields vs∧(dx.2=true→vs[2]? =some .none)
def sclV:D→Option V
 | .non=>some .non
 | .bl b=>some (.bl b)
 | .int i=>some (.int i)
 | .str x=>some (.str x)
 |_=>none
def ExV (H:Hp) (x:D) (v:V):Prop:=sclV x=some v∨∃ ds a o xs,x= .lst ds∧v= .ref a∧H a=some (.frz o (.lst xs))∧ds.map sclV=xs.map some
def ExVs (H:Hp):List D→List V→Prop
 | [],[]=>True
 |x::ds,v::vs=>ExV H x v∧ExVs H ds vs
 |_,_=>False
def ExD (H:Hp) (dx:Option Addr) (ns vs:List D):Prop:=∃ d kvs,dx=some d∧H d=some (.xd kvs)∧ns=kvs.map (fun p=>D.str p.1)∧ExVs H vs (kvs.map (·.2))
def ExF0 (H:Hp) (dx:Dx):List D→Prop
 | []=>True
 | .tup ns::vs=>ExD H dx.1 ns vs
 |_=>False
def ExF (H:Hp) (dx:Dx):List D→Prop
 | .non::fs=>ExF0 H dx fs
 |fs=>dx.2=true∧ExF0 H dx fs
theorem ExVs.to {H H':Hp} (k:∀ b o u,H b=some (.frz o u)→H' b=some (.frz o u)):∀ {ds:List D} {vs:List V},ExVs H ds vs→ExVs H' ds vs
 | [],[],h=>h
 |_::_,_::_,⟨h,t⟩=>⟨by
   rcases h with h|⟨ds,a,o,xs,e1,e2,e3,e4⟩
   ·exact .inl h
   ·exact .inr ⟨ds,a,o,xs,e1,e2,k _ _ _ e3,e4⟩,t.to k⟩
 | [],_::_,h=>h.elim
 |_::_,[],h=>h.elim
theorem ExD.to {H H':Hp} {dx:Option Addr} {ns vs:List D} (k:∀ b o u,H b=some (.frz o u)→H' b=some (.frz o u)) (k2:∀ b kvs,H b=some (.xd kvs)→H' b=some (.xd kvs)) (h:ExD H dx ns vs):ExD H' dx ns vs:=
 let ⟨d,kvs,e1,e2,e3,e4⟩:=h
 ⟨d,kvs,e1,k2 _ _ e2,e3,e4.to k⟩
theorem ExF0.to {H H':Hp} {dx:Dx} (k:∀ b o u,H b=some (.frz o u)→H' b=some (.frz o u)) (k2:∀ b kvs,H b=some (.xd kvs)→H' b=some (.xd kvs)) {fs:List D} (h:ExF0 H dx fs):ExF0 H' dx fs:=by
 cases fs with
 |nil=>trivial
 |cons y vs=>
  cases y with
  |tup ns=>exact ExD.to k k2 h
  |_=>exact h.elim
theorem ExF.to {H H':Hp} {dx:Dx} (k:∀ b o u,H b=some (.frz o u)→H' b=some (.frz o u)) (k2:∀ b kvs,H b=some (.xd kvs)→H' b=some (.xd kvs)) {fs:List D} (h:ExF H dx fs):ExF H' dx fs:=by
 cases fs with
 |nil=>exact h
 |cons y vs=>
  cases y with
  |non=>exact ExF0.to (fs:=vs) k k2 h
  |tup ns=>exact ⟨h.1,ExF0.to (fs:= .tup ns::vs) k k2 h.2⟩
  |_=>exact h.2.elim
abbrev WS:=Addr→Prop
section
variable (K:PySem.W.Frag) (W:WS) (H:Hp)
def LR (a:Addr) (xs:List V):Prop:=(H a=some (.lst xs)∧¬ W a)∨((∃ o,H a=some (.frz o (.lst xs)))∨∃ (o:Obj) (its:Array Value) (n:Nat),K.lookup a=some o∧o.cls= .type "list"∧o.dict=none∧o.data= .seq its n∧its.size≤sizeLine∧Vals xs its.toList)
mutual
def Has:D→V→Prop
 | .non,v=>v= .non
 | .bl b,v=>v= .bl b
 | .int i,v=>v= .int i
 | .str x,v=>v= .str x
 | .tup ds,v=>∃ a xs,v= .ref a∧SqT K H a xs∧HasL ds xs
 | .lst ds,v=>∃ a xs,v= .ref a∧LR K W H a xs∧HasL ds xs
 | .dct ks ds,v=>∃ a kvs,v= .ref a∧(∃ o,H a=some (.frz o (.dK kvs)))∧kvs.map (·.1)=ks∧HasL ds (kvs.map (·.2))
 | .exc c fs,v=>∃ a C dx,v= .ref a∧PySem.W.nsIn K mainGlobals c=some (some C)∧H a=some (.ext (ExcAt a C dx))∧ExF H dx fs
 | .obj c ks ds,v=>∃ a C dx fs,v= .ref a∧PySem.W.nsIn K mainGlobals c=some (some (.ref C))∧H a=some (.ins C dx fs)∧¬ W a∧fs.map (·.1)=ks∧HasL ds (fs.map (·.2))
def HasL:List D→List V→Prop
 | [],xs=>xs= []
 |d::ds,xs=>∃ x r,xs=x::r∧Has d x∧HasL ds r
end
end
theorem LR.sq {K:PySem.W.Frag} {W:WS} {H:Hp} {a:Addr} {xs:List V} (h:LR K W H a xs):SqL K H a xs:=by
 rcases h with ⟨h,_⟩|⟨o,h⟩|h
 ·exact .inl (.inl h)
 ·exact .inl (.inr ⟨o,h⟩)
 ·exact .inr h
def Keep (W:WS) (H H':Hp):Prop:=∀ b o,H b=some o→¬ W b→H' b=some o
def WL (W:WS) (H:Hp):Prop:=∀ b,W b→∃ o,H b=some o∧MutO o
theorem Same.keep {W:WS} {H H':Hp} (h:Same H H'):Keep W H H':=fun b o e _=>h b o e
theorem Keep.trans {W:WS} {H H1 H2:Hp} (a:Keep W H H1) (b:Keep W H1 H2):Keep W H H2:=fun c o e n=>b c o (a c o e n) n
theorem sqT_keep {K:PySem.W.Frag} {W:WS} {H H':Hp} {a:Addr} {xs:List V} (k:Keep W H H') (w:WL W H) (h:SqT K H a xs):SqT K H' a xs:=by
 have nw:∀ o,H a=some o→¬ MutO o→¬ W a:=fun o e n z=>by
  obtain ⟨o',e',m⟩:=w a z
  rw [e] at e'
  cases e'
  exact n m
 rcases h with (h|⟨o,h⟩)|h
 ·exact .inl (.inl (k _ _ h (nw _ h fun z=>z)))
 ·exact .inl (.inr ⟨o,k _ _ h (nw _ h fun z=>z)⟩)
 ·exact .inr h
theorem LR.keep {K:PySem.W.Frag} {W W':WS} {H H':Hp} {a:Addr} {xs:List V} (k:Keep W H H') (w:WL W H) (hw:∀ b,W' b→W b∨H b=none) (h:LR K W H a xs):LR K W' H' a xs:=by
 rcases h with ⟨h,n⟩|⟨o,h⟩|h
 ·refine .inl ⟨k _ _ h n,fun z=> ?_⟩
  rcases hw a z with z|z
  ·exact n z
  ·rw [h] at z;cases z
 ·refine .inr (.inl ⟨o,k _ _ h fun z=> ?_⟩)
  obtain ⟨o',e',m⟩:=w a z
  rw [h] at e';cases e';exact m
 ·exact .inr (.inr h)
section
variable {K:PySem.W.Frag} {W W':WS} {H H':Hp}
mutual
theorem Has.keep (k:Keep W H H') (w:WL W H) (hw:∀ b,W' b→W b∨H b=none):∀ {d:D} {v:V},Has K W H d v→Has K W' H' d v
 | .non,_,h=>by rw [Has] at h ⊢;exact h
 | .bl _,_,h=>by rw [Has] at h ⊢;exact h
 | .int _,_,h=>by rw [Has] at h ⊢;exact h
 | .str _,_,h=>by rw [Has] at h ⊢;exact h
 | .tup ds,_,h=>by
  rw [Has] at h ⊢
  obtain ⟨a,xs,e,q,r⟩:=h
  exact ⟨a,xs,e,sqT_keep k w q,HasL.keep k w hw r⟩
 | .lst ds,_,h=>by
  rw [Has] at h ⊢
  obtain ⟨a,xs,e,q,r⟩:=h
  exact ⟨a,xs,e,q.keep k w hw,HasL.keep k w hw r⟩
 | .dct ks ds,_,h=>by
  rw [Has] at h ⊢
  obtain ⟨a,kvs,e,⟨o,q⟩,m,r⟩:=h
  refine ⟨a,kvs,e,⟨o,k _ _ q fun z=> ?_⟩,m,HasL.keep k w hw r⟩
  obtain ⟨o',e',m'⟩:=w a z
  rw [q] at e';cases e';exact m'
 | .exc _ _,_,h=>by
  rw [Has] at h ⊢
  obtain ⟨a,C,dx,e,n,q,f⟩:=h
  have nw:∀ b o,H b=some o→¬ MutO o→¬ W b:=fun b o q n z=>by
   obtain ⟨o',e',m'⟩:=w b z
   rw [q] at e';cases e';exact n m'
  exact ⟨a,C,dx,e,n,k _ _ q (nw _ _ q fun z=>z),f.to (fun b o u q=>k _ _ q (nw _ _ q fun z=>z)) fun b kvs q=>k _ _ q (nw _ _ q fun z=>z)⟩
 | .obj _ _ ds,_,h=>by
  rw [Has] at h ⊢
  obtain ⟨a,C,dx,fs,e,n,q,nw,m,r⟩:=h
  refine ⟨a,C,dx,fs,e,n,k _ _ q nw,fun z=> ?_,m,HasL.keep k w hw r⟩
  rcases hw a z with z|z
  ·exact nw z
  ·rw [q] at z;cases z
theorem HasL.keep (k:Keep W H H') (w:WL W H) (hw:∀ b,W' b→W b∨H b=none):∀ {ds:List D} {xs:List V},HasL K W H ds xs→HasL K W' H' ds xs
 | [],_,h=>by rw [HasL] at h ⊢;exact h
 |d::ds,_,h=>by
  rw [HasL] at h ⊢
  obtain ⟨x,r,e,q,t⟩:=h
  exact ⟨x,r,e,Has.keep k w hw q,HasL.keep k w hw t⟩
end
theorem Has.same {d:D} {v:V} (h:Has K W H d v) (k:Same H H') (w:WL W H):Has K W H' d v:=Has.keep (Same.keep k) w (fun _ z=> .inl z) h
theorem HasL.same {d:List D} {v:List V} (h:HasL K W H d v) (k:Same H H') (w:WL W H):HasL K W H' d v:=HasL.keep (Same.keep k) w (fun _ z=> .inl z) h
theorem HasL.length:∀ {ds:List D} {xs:List V},HasL K W H ds xs→ds.length=xs.length
 | [],_,h=>by rw [HasL] at h;rw [h];rfl
 |d::ds,_,h=>by
  rw [HasL] at h
  obtain ⟨x,r,e,q,t⟩:=h
  rw [e,List.length_cons,List.length_cons,HasL.length t]
theorem HasL.get:∀ {ds:List D} {xs:List V} {i:Nat} {d:D},HasL K W H ds xs→ds[i]? =some d→∃ x,xs[i]? =some x∧Has K W H d x
 | [],_,_,_,_,e=>by simp at e
 |d::ds,_,0,_,h,e=>by
  rw [HasL] at h
  obtain ⟨x,r,rfl,q,t⟩:=h
  simp at e;subst e
  exact ⟨x,rfl,q⟩
 |d::ds,_,i+1,_,h,e=>by
  rw [HasL] at h
  obtain ⟨x,r,rfl,q,t⟩:=h
  obtain ⟨y,h1,h2⟩:=HasL.get (i:=i) t (by simpa using e)
  exact ⟨y,by simpa using h1,h2⟩
theorem HasL.at' {ds:List D} {xs:List V} {i:Nat} {x:V} (h:HasL K W H ds xs) (e:xs[i]? =some x):∃ d,ds[i]? =some d∧Has K W H d x:=by
 have hl:=h.length
 have hi:i<ds.length:=by rw [hl];exact (List.getElem?_eq_some_iff.mp e).1
 obtain ⟨y,h1,h2⟩:=h.get (List.getElem?_eq_getElem hi)
 rw [e] at h1;cases h1
 exact ⟨_,List.getElem?_eq_getElem hi,h2⟩
theorem HasL.nil:HasL K W H [] []:=by rw [HasL]
theorem HasL.cons {d:D} {ds:List D} {x:V} {xs:List V} (h:Has K W H d x) (t:HasL K W H ds xs):HasL K W H (d::ds) (x::xs):=by rw [HasL];exact ⟨x,xs,rfl,h,t⟩
theorem HasL.append:∀ {ds es:List D} {xs ys:List V},HasL K W H ds xs→HasL K W H es ys→HasL K W H (ds++es) (xs++ys)
 | [],_,_,_,h,t=>by rw [HasL] at h;subst h;exact t
 |d::ds,_,_,_,h,t=>by
  rw [HasL] at h
  obtain ⟨x,r,rfl,q,s⟩:=h
  exact HasL.cons q (HasL.append s t)
theorem HasL.take:∀ {ds:List D} {xs:List V} (n:Nat),HasL K W H ds xs→HasL K W H (ds.take n) (xs.take n)
 | [],_,n,h=>by rw [HasL] at h;subst h;simp [HasL]
 |d::ds,_,0,h=>by simp [HasL]
 |d::ds,_,n+1,h=>by
  rw [HasL] at h
  obtain ⟨x,r,rfl,q,s⟩:=h
  exact HasL.cons q (HasL.take n s)
theorem HasL.drop:∀ {ds:List D} {xs:List V} (n:Nat),HasL K W H ds xs→HasL K W H (ds.drop n) (xs.drop n)
 | [],_,n,h=>by rw [HasL] at h;subst h;simp [HasL]
 |d::ds,_,0,h=>h
 |d::ds,_,n+1,h=>by
  rw [HasL] at h
  obtain ⟨x,r,rfl,q,s⟩:=h
  exact HasL.drop n s
theorem HasL.snoc {ds:List D} {xs:List V} {d:D} {x:V} (h:HasL K W H ds xs) (t:Has K W H d x):HasL K W H (ds++ [d]) (xs++ [x]):=h.append (HasL.cons t HasL.nil)
theorem HasL.set:∀ {ds:List D} {xs:List V} (i:Nat) {d:D} {x:V},HasL K W H ds xs→Has K W H d x→HasL K W H (ds.set i d) (xs.set i x)
 | [],_,n,_,_,h,_=>by rw [HasL] at h;subst h;simp [HasL]
 |e::ds,_,0,_,_,h,t=>by
  rw [HasL] at h
  obtain ⟨y,r,rfl,q,s⟩:=h
  exact HasL.cons t s
 |e::ds,_,i+1,_,_,h,t=>by
  rw [HasL] at h
  obtain ⟨y,r,rfl,q,s⟩:=h
  exact HasL.cons q (HasL.set i s t)
theorem HasL.ints {ns:List Int}:HasL K W H (ns.map D.int) (ns.map V.int):=by
 induction ns with
 |nil=>exact HasL.nil
 |cons n ns ih=>exact HasL.cons (by rw [Has]) ih
end
structure FrOk (W₀:WS) (H₀:Hp) (W:WS) (H:Hp):Prop where
 ext:Same H₀ H
 sub:∀ b,W₀ b→W b
 wl:WL W H
 wl0:WL W₀ H₀
def SlotHas (K:PySem.W.Frag) (W₀:WS) (H₀:Hp) (W:WS) (H:Hp):S→V→Prop
 | .d x,v=>Has K W H x v
 | .o ds,v=>∃ a xs,v= .ref a∧W a∧H₀ a=none∧H a=some (.lst xs)∧HasL K W H ds xs
 | .q ks ds,v=>∃ a kvs,v= .ref a∧W a∧H₀ a=none∧H a=some (.dK kvs)∧kvs.map (·.1)=ks∧HasL K W H ds (kvs.map (·.2))
 | .w dss,v=>∃ (a:Addr) (bs:List Addr),v= .ref a∧W a∧H₀ a=none∧H a=some (.lst (bs.map V.ref))∧bs.Nodup∧a∉bs∧bs.length=dss.length∧∀ (k:Nat) (b:Addr) (ds:List D),bs[k]? =some b→dss[k]? =some ds→W b∧H₀ b=none∧∃ xs,H b=some (.lst xs)∧HasL K W H ds xs
def Owns (H:Hp):S→V→Addr→Prop
 | .d _,_,_=>False
 | .w _,v,b=>v= .ref b∨∃ (a:Addr) (bs:List Addr),v= .ref a∧H a=some (.lst (bs.map V.ref))∧b∈bs
 |_,v,b=>v= .ref b
structure StHas (K:PySem.W.Frag) (W₀:WS) (H₀:Hp) (W:WS) (H:Hp) (σ:L2.St) (δ:DSt):Prop where
 fr:FrOk W₀ H₀ W H
 len:σ.length=δ.length
 at':∀ (i:Nat) (s:S),δ[i]? =some (some s)→∃ v,σ[i]? =some (some v)∧SlotHas K W₀ H₀ W H s v
 ap:∀ (i j:Nat) (s t:S) (u v:V) (b:Addr),i≠j→δ[i]? =some (some s)→δ[j]? =some (some t)→σ[i]? =some (some u)→σ[j]? =some (some v)→Owns H s u b→¬ Owns H t v b
section
variable {K:PySem.W.Frag} {W₀ W:WS} {H₀ H H':Hp} {σ:L2.St} {δ:DSt}
theorem WL.same (w:WL W H) (k:Same H H'):WL W H':=fun b z=>let ⟨xs,e,m⟩:=w b z;⟨xs,k _ _ e,m⟩
theorem FrOk.same (f:FrOk W₀ H₀ W H) (k:Same H H'):FrOk W₀ H₀ W H':=⟨f.ext.trans k,f.sub,f.wl.same k,f.wl0⟩
theorem SlotHas.same {s:S} {v:V} (w:WL W H) (k:Same H H') (h:SlotHas K W₀ H₀ W H s v):SlotHas K W₀ H₀ W H' s v:=by
 cases s with
 |d x=>exact Has.same h k w
 |o ds=>
  obtain ⟨a,xs,e,h1,h2,h3,h4⟩:=h
  exact ⟨a,xs,e,h1,h2,k _ _ h3,h4.same k w⟩
 |q ks ds=>
  obtain ⟨a,xs,e,h1,h2,h3,h4,h5⟩:=h
  exact ⟨a,xs,e,h1,h2,k _ _ h3,h4,h5.same k w⟩
 |w dss=>
  obtain ⟨a,bs,e,h1,h2,h3,h4,h5,h6,h7⟩:=h
  exact ⟨a,bs,e,h1,h2,k _ _ h3,h4,h5,h6,fun j b ds e1 e2=>let ⟨g1,g2,xs,g3,g4⟩:=h7 j b ds e1 e2;⟨g1,g2,xs,k _ _ g3,g4.same k w⟩⟩
theorem refs_inj:∀ {bs cs:List Addr},bs.map V.ref=cs.map V.ref→bs=cs
 | [],[],_=>rfl
 | [],_::_,h=>by cases h
 |_::_,[],h=>by cases h
 |b::bs,c::cs,h=>by
  rw [List.map_cons,List.map_cons] at h
  injection h with h1 h2
  injection h1 with h1
  rw [h1,refs_inj h2]
theorem Owns.back {s:S} {v:V} {b:Addr} (h:SlotHas K W₀ H₀ W H s v) (k:∀ a xs,v= .ref a→H a=some (.lst xs)→H' a=some (.lst xs)) (o:Owns H' s v b):Owns H s v b:=by
 cases s with
 |d x=>exact o
 |o ds=>exact o
 |q ks ds=>exact o
 |w dss=>
  rcases o with o|⟨a,bs,e,hb,m⟩
  ·exact .inl o
  ·obtain ⟨a',bs',e',_,_,h3,_⟩:=h
   rw [e] at e';cases e'
   have:=k a _ e h3
   rw [hb] at this
   injection this with this
   injection this with this
   rw [refs_inj this] at m
   exact .inr ⟨a,bs',e,h3,m⟩
theorem owo (ds:List D):Ow (.o ds):=trivial
theorem owq (ks:List Key) (ds:List D):Ow (.q ks ds):=trivial
theorem SlotHas.mv {W':WS} {s:S} {v:V} (w:WL W H) (kk:Keep W H H') (hw:∀ b,W' b→W b∨H b=none) (hq:∀ b o,Owns H s v b→W b→H₀ b=none→H b=some o→MutO o→W' b∧H' b=some o) (h:SlotHas K W₀ H₀ W H s v):SlotHas K W₀ H₀ W' H' s v:=by
 cases s with
 |d x=>exact Has.keep kk w hw h
 |o ds=>
  obtain ⟨a,xs,e,h1,h2,h3,h4⟩:=h
  obtain ⟨g1,g2⟩:=hq a _ e h1 h2 h3 trivial
  exact ⟨a,xs,e,g1,h2,g2,HasL.keep kk w hw h4⟩
 |q ks ds=>
  obtain ⟨a,xs,e,h1,h2,h3,h4,h5⟩:=h
  obtain ⟨g1,g2⟩:=hq a _ e h1 h2 h3 trivial
  exact ⟨a,xs,e,g1,h2,g2,h4,HasL.keep kk w hw h5⟩
 |w dss=>
  obtain ⟨a,bs,e,h1,h2,h3,h4,h5,h6,h7⟩:=h
  obtain ⟨g1,g2⟩:=hq a _ (.inl e) h1 h2 h3 trivial
  refine ⟨a,bs,e,g1,h2,g2,h4,h5,h6,fun j b ds e1 e2=> ?_⟩
  obtain ⟨f1,f2,xs,f3,f4⟩:=h7 j b ds e1 e2
  obtain ⟨g3,g4⟩:=hq b _ (.inr ⟨a,bs,e,h3,List.mem_of_getElem? e1⟩) f1 f2 f3 trivial
  exact ⟨g3,f2,xs,g4,HasL.keep kk w hw f4⟩
theorem SlotHas.own {s:S} {v:V} (h:SlotHas K W₀ H₀ W H s v) (o:Ow s):∃ a ob,v= .ref a∧W a∧H₀ a=none∧H a=some ob∧MutO ob:=by
 cases s with
 |d x=>exact o.elim
 |o ds=>
  obtain ⟨a,xs,e,h1,h2,h3,h4⟩:=h
  exact ⟨a,_,e,h1,h2,h3,trivial⟩
 |q ks ds=>
  obtain ⟨a,xs,e,h1,h2,h3,h4,h5⟩:=h
  exact ⟨a,_,e,h1,h2,h3,trivial⟩
 |w dss=>
  obtain ⟨a,bs,e,h1,h2,h3,_⟩:=h
  exact ⟨a,_,e,h1,h2,h3,trivial⟩
theorem SlotHas.owns {s:S} {v:V} {b:Addr} (h:SlotHas K W₀ H₀ W H s v) (o:Owns H s v b):W b∧H₀ b=none∧∃ ob,H b=some ob∧MutO ob:=by
 cases s with
 |d x=>exact o.elim
 |o ds=>
  obtain ⟨a,xs,e,h1,h2,h3,h4⟩:=h
  have o':v= .ref b:=o
  rw [e] at o';cases o'
  exact ⟨h1,h2,_,h3,trivial⟩
 |q ks ds=>
  obtain ⟨a,xs,e,h1,h2,h3,h4⟩:=h
  have o':v= .ref b:=o
  rw [e] at o';cases o'
  exact ⟨h1,h2,_,h3,trivial⟩
 |w dss=>
  obtain ⟨a,bs,e,h1,h2,h3,h4,h5,h6,h7⟩:=h
  rcases o with o|⟨a',bs',e',hb,m⟩
  ·rw [e] at o;cases o
   exact ⟨h1,h2,_,h3,trivial⟩
  ·rw [e] at e';cases e'
   rw [h3] at hb
   injection hb with hb
   injection hb with hb
   rw [←refs_inj hb] at m
   obtain ⟨k,hk⟩:=List.mem_iff_getElem?.mp m
   have hl:k<dss.length:=by rw [←h6];exact (List.getElem?_eq_some_iff.mp hk).1
   obtain ⟨f1,f2,xs,f3,f4⟩:=h7 k b _ hk (List.getElem?_eq_getElem hl)
   exact ⟨f1,f2,_,f3,trivial⟩
theorem Ow.owns {s:S} {a:Addr} (o:Ow s):Owns H s (.ref a) a:=by
 cases s with
 |d x=>exact o.elim
 |o ds=>exact rfl
 |q ks ds=>exact rfl
 |w dss=>exact .inl rfl
theorem StHas.same (h:StHas K W₀ H₀ W H σ δ) (k:Same H H'):StHas K W₀ H₀ W H' σ δ:=
 ⟨h.fr.same k,h.len,fun i s e=>let ⟨v,h1,h2⟩:=h.at' i s e;⟨v,h1,h2.same h.fr.wl k⟩,fun i j s t u v b ij e1 e2 e3 e4 o1 o2=>by
  obtain ⟨u',f1,f2⟩:=h.at' i s e1
  obtain ⟨v',f3,f4⟩:=h.at' j t e2
  rw [e3] at f1;cases f1
  rw [e4] at f3;cases f3
  exact h.ap i j s t u v b ij e1 e2 e3 e4 (Owns.back f2 (fun a xs _ z=>k _ _ z) o1) (Owns.back f4 (fun a xs _ z=>k _ _ z) o2)⟩
theorem StHas.set {i:Nat} {x:D} {v:V} (h:StHas K W₀ H₀ W H σ δ) (q:Has K W H x v):StHas K W₀ H₀ W H (σ.set i (some v)) (δ.set i (some (.d x))):=by
 refine ⟨h.fr,by simp [h.len],fun j s e=> ?_,fun j k s1 s2 u u' a hjk e1 e2 e3 e4 os ot=> ?_⟩
 ·by_cases hj:i=j
  ·subst hj
   rw [List.getElem?_set_self'] at e ⊢
   cases q':δ[i]? with
   |none=>rw [q'] at e;cases e
   |some z=>
    rw [q'] at e
    have e':some (S.d x)=some s:=Option.some.inj e
    cases e'
    have hi:i<σ.length:=by rw [h.len];exact (List.getElem?_eq_some_iff.mp q').1
    exact ⟨v,by rw [List.getElem?_eq_getElem hi];rfl,q⟩
  ·rw [List.getElem?_set_ne hj] at e ⊢
   exact h.at' j s e
 ·have hj:i≠j:=by
   rintro rfl
   rw [List.getElem?_set_self'] at e1
   cases q':δ[i]? with
   |none=>rw [q'] at e1;cases e1
   |some z=>rw [q'] at e1;cases e1;exact os
  have hk:i≠k:=by
   rintro rfl
   rw [List.getElem?_set_self'] at e2
   cases q':δ[i]? with
   |none=>rw [q'] at e2;cases e2
   |some z=>rw [q'] at e2;cases e2;exact ot
  rw [List.getElem?_set_ne hj] at e1 e3
  rw [List.getElem?_set_ne hk] at e2 e4
  exact h.ap j k s1 s2 u u' a hjk e1 e2 e3 e4 os ot
theorem StHas.ownS {N:WS} {i:Nat} {sl:S} {a:Addr} (h:StHas K W₀ H₀ W H σ δ) (k:Same H H') (hn:∀ b,N b→H b=none∧∃ ob,H' b=some ob∧MutO ob) (q:SlotHas K W₀ H₀ (fun b=>W b∨N b) H' sl (.ref a)) (nw:∀ b,Owns H' sl (.ref a) b→H b=none):
  StHas K W₀ H₀ (fun b=>W b∨N b) H' (σ.set i (some (.ref a))) (δ.set i (some sl)):=by
 have hw:∀ b,(W b∨N b)→W b∨H b=none:=fun b z=>z.elim .inl fun z=> .inr (hn b z).1
 have kk:Keep W H H':=Same.keep k
 have fr':FrOk W₀ H₀ (fun b=>W b∨N b) H':=⟨h.fr.ext.trans k,fun b z=> .inl (h.fr.sub b z),fun b z=>z.elim (h.fr.wl.same k b) fun z=>(hn b z).2,h.fr.wl0⟩
 have slot:∀ {s:S} {v:V},SlotHas K W₀ H₀ W H s v→SlotHas K W₀ H₀ (fun b=>W b∨N b) H' s v:=fun {s v} z=>z.mv h.fr.wl kk hw fun b o e h1 h2 h3 h4=>⟨.inl h1,k _ _ h3⟩
 have old:∀ (j:Nat) (t:S) (v:V) (b:Addr),δ[j]? =some (some t)→σ[j]? =some (some v)→Owns H' t v b→Owns H t v b∧H b≠none:=fun j t v b e z o=>by
  obtain ⟨v',h1,h2⟩:=h.at' j _ e
  rw [z] at h1;cases h1
  have o':=Owns.back h2 (fun a xs _ z=>k _ _ z) o
  obtain ⟨_,_,ob,h3,_⟩:=h2.owns o'
  exact ⟨o',fun z=>by rw [h3] at z;cases z⟩
 refine ⟨fr',by simp [h.len],fun j s e=> ?_,fun j l s1 s2 u u' b hjl e1 e2 e3 e4 os ot=> ?_⟩
 ·by_cases hj:i=j
  ·subst hj
   rw [List.getElem?_set_self'] at e ⊢
   cases q':δ[i]? with
   |none=>rw [q'] at e;cases e
   |some z=>
    rw [q'] at e
    have e':some sl=some s:=Option.some.inj e
    cases e'
    have hi:i<σ.length:=by rw [h.len];exact (List.getElem?_eq_some_iff.mp q').1
    exact ⟨.ref a,by rw [List.getElem?_eq_getElem hi];rfl,q⟩
  ·rw [List.getElem?_set_ne hj] at e ⊢
   obtain ⟨v,h1,h2⟩:=h.at' j s e
   exact ⟨v,h1,slot h2⟩
 ·have get:∀ m:Nat,m≠i→∀ {α:Type} (l:List α) (z:α),(l.set i z)[m]? =l[m]? :=fun m hm α l z=>List.getElem?_set_ne (Ne.symm hm)
  have self:∀ {α:Type} (l:List (Option α)) (z y:α),(l.set i (some z))[i]? =some (some y)→y=z:=fun l z y e=>by
   rw [List.getElem?_set_self'] at e
   cases q':l[i]? with
   |none=>rw [q'] at e;cases e
   |some x=>rw [q'] at e;cases e;rfl
  by_cases hj:j=i
  ·have hl:l≠i:=fun z=>hjl (hj.trans z.symm)
   rw [get l hl] at e2 e4
   subst hj
   have z1:=self _ _ _ e1
   have z2:=self _ _ _ e3
   subst z1;subst z2
   exact (old l s2 u' b e2 e4 ot).2 (nw b os)
  ·rw [get j hj] at e1 e3
   by_cases hl:l=i
   ·subst hl
    have z1:=self _ _ _ e2
    have z2:=self _ _ _ e4
    subst z1;subst z2
    exact (old j s1 u b e1 e3 os).2 (nw b ot)
   ·rw [get l hl] at e2 e4
    exact h.ap j l s1 s2 u u' b hjl e1 e2 e3 e4 (old j s1 u b e1 e3 os).1 (old l s2 u' b e2 e4 ot).1
theorem StHas.ownG {W':WS} {i:Nat} {sl:S} {ob:HO} {a:Addr} (h:StHas K W₀ H₀ W H σ δ) (k:Same H H') (ha:H a=none) (ha':H' a=some ob) (mo:MutO ob) (q:SlotHas K W₀ H₀ (fun b=>W b∨b=a) H' sl (.ref a)) (nw:∀ b,Owns H' sl (.ref a) b→H b=none:=by intro b z;cases z;assumption):
  StHas K W₀ H₀ (fun b=>W b∨b=a) H' (σ.set i (some (.ref a))) (δ.set i (some sl)):=
 h.ownS (N:=fun b=>b=a) k (fun b z=>by rw [z];exact ⟨ha,ob,ha',mo⟩) q nw
theorem StHas.own {i:Nat} {ds:List D} {a:Addr} {xs:List V} (h:StHas K W₀ H₀ W H σ δ) (ha:H a=none) (q:HasL K W H ds xs):
  StHas K W₀ H₀ (fun b=>W b∨b=a) (upd H a (.lst xs)) (σ.set i (some (.ref a))) (δ.set i (some (.o ds))):=by
 have k:Same H (upd H a (.lst xs)):=fun b o e=>by rw [upd_ne (ne_of_none e ha)];exact e
 exact h.ownG (W':=W) k ha upd_same trivial ⟨a,xs,rfl, .inr rfl,Same.free h.fr.ext ha,upd_same,HasL.keep (Same.keep k) h.fr.wl (fun b z=>z.elim .inl fun z=> .inr (by rw [z];exact ha)) q⟩
theorem StHas.ownQ {i:Nat} {ks:List Key} {ds:List D} {a:Addr} {kvs:List (Key×V)} (h:StHas K W₀ H₀ W H σ δ) (ha:H a=none) (e:kvs.map (·.1)=ks) (q:HasL K W H ds (kvs.map (·.2))):
  StHas K W₀ H₀ (fun b=>W b∨b=a) (upd H a (.dK kvs)) (σ.set i (some (.ref a))) (δ.set i (some (.q ks ds))):=by
 have k:Same H (upd H a (.dK kvs)):=fun b o e=>by rw [upd_ne (ne_of_none e ha)];exact e
 exact h.ownG (W':=W) k ha upd_same trivial ⟨a,kvs,rfl, .inr rfl,Same.free h.fr.ext ha,upd_same,e,HasL.keep (Same.keep k) h.fr.wl (fun b z=>z.elim .inl fun z=> .inr (by rw [z];exact ha)) q⟩
theorem StHas.changeS {i:Nat} {so sl:S} {w:V} {ob:HO} {a:Addr} (h:StHas K W₀ H₀ W H σ δ) (hi:δ[i]? =some (some so)) (hs:σ[i]? =some (some w)) (oc:Owns H so w a) (mo:MutO ob) (q:H₀ a=none→Keep W H (upd H a ob)→SlotHas K W₀ H₀ W (upd H a ob) sl w)
  (nw:∀ b,Owns (upd H a ob) sl w b→∀ (j:Nat) (t:S) (v:V),i≠j→δ[j]? =some (some t)→σ[j]? =some (some v)→¬ Owns H t v b):
  StHas K W₀ H₀ W (upd H a ob) σ (δ.set i (some sl)):=by
 obtain ⟨v,h1,h2⟩:=h.at' i _ hi
 rw [hs] at h1
 cases h1
 obtain ⟨hW,h0,_⟩:=h2.owns oc
 have kk:Keep W H (upd H a ob):=fun b o e n=>by
  rw [upd_ne (fun z=>n (by rw [z];exact hW))];exact e
 have hw:∀ b,W b→W b∨H b=none:=fun b z=> .inl z
 have fr':FrOk W₀ H₀ W (upd H a ob):=⟨fun b o e=>by rw [upd_ne (ne_of_none e h0)];exact h.fr.ext _ _ e,h.fr.sub,fun b z=>by
  by_cases hb:b=a
  ·rw [hb];exact ⟨ob,upd_same,mo⟩
  ·rw [upd_ne hb];exact h.fr.wl b z,h.fr.wl0⟩
 have hl:i<δ.length:=(List.getElem?_eq_some_iff.mp hi).1
 have ne:∀ (j:Nat) (s:S) (v:V) (b:Addr),i≠j→δ[j]? =some (some s)→σ[j]? =some (some v)→Owns H s v b→b≠a:=fun j s v b hj e e' o z=>by
  subst z
  exact h.ap i j _ _ _ _ b hj hi e hs e' oc o
 refine ⟨fr',by simp [h.len],fun j s e=> ?_,fun j l s1 s2 u u' b hjl e1 e2 e3 e4 os ot=> ?_⟩
 ·by_cases hj:i=j
  ·subst hj
   rw [List.getElem?_set_self hl] at e
   cases e
   exact ⟨w,hs,q h0 kk⟩
  ·rw [List.getElem?_set_ne hj] at e
   obtain ⟨v,h1,h2⟩:=h.at' j s e
   exact ⟨v,h1,h2.mv h.fr.wl kk hw fun b o e1 h1' _ h3' _=>⟨h1',by rw [upd_ne (ne j s v b hj e h1 e1)];exact h3'⟩⟩
 ·have own:∀ (m:Nat) (t:S) (x:V),i≠m→(δ.set i (some sl))[m]? =some (some t)→σ[m]? =some (some x)→Owns (upd H a ob) t x b→δ[m]? =some (some t)∧Owns H t x b:=fun m t x hm e e' o=>by
   rw [List.getElem?_set_ne hm] at e
   obtain ⟨v,h1,h2⟩:=h.at' m t e
   rw [e'] at h1;cases h1
   refine ⟨e,Owns.back h2 (fun c xs ec z=> ?_) o⟩
   subst ec
   cases t with
   |d y=>exact o.elim
   |o ds=>rw [upd_ne (ne m _ _ c hm e e' rfl)];exact z
   |q ks ds=>rw [upd_ne (ne m _ _ c hm e e' rfl)];exact z
   |w dss=>rw [upd_ne (ne m _ _ c hm e e' (.inl rfl))];exact z
  by_cases hj:i=j
  ·subst hj
   rw [List.getElem?_set_self hl] at e1;cases e1
   rw [hs] at e3;cases e3
   obtain ⟨g2,o2⟩:=own l s2 u' hjl e2 e4 ot
   exact nw b os l s2 u' hjl g2 e4 o2
  ·obtain ⟨g1,o1⟩:=own j s1 u hj e1 e3 os
   by_cases hm:i=l
   ·subst hm
    rw [List.getElem?_set_self hl] at e2;cases e2
    rw [hs] at e4;cases e4
    exact nw b ot j s1 u hj g1 e3 o1
   ·obtain ⟨g2,o2⟩:=own l s2 u' hm e2 e4 ot
    exact h.ap j l s1 s2 u u' b hjl g1 g2 e3 e4 o1 o2
theorem StHas.changeG {i:Nat} {so sl:S} {ob:HO} {a:Addr} (h:StHas K W₀ H₀ W H σ δ) (oo:Ow so) (hi:δ[i]? =some (some so)) (hs:σ[i]? =some (some (.ref a))) (mo:MutO ob) (hW:W a) (q:H₀ a=none→Keep W H (upd H a ob)→SlotHas K W₀ H₀ W (upd H a ob) sl (.ref a)) (ol:Ow sl) (nw:∀ b,Owns (upd H a ob) sl (.ref a) b→Owns H so (.ref a) b:=by intro b z;exact z):
  StHas K W₀ H₀ W (upd H a ob) σ (δ.set i (some sl)):=
 h.changeS hi hs oo.owns mo q fun b o j t v hj e e'=>h.ap i j _ _ _ _ b hj hi e hs e' (nw b o)
theorem StHas.change {i:Nat} {ds es:List D} {a:Addr} {xs ys:List V} (h:StHas K W₀ H₀ W H σ δ) (hi:δ[i]? =some (some (.o ds))) (hs:σ[i]? =some (some (.ref a))) (ha:H a=some (.lst xs)) (hW:W a) (q:HasL K W H es ys):
  StHas K W₀ H₀ W (upd H a (.lst ys)) σ (δ.set i (some (.o es))):=
 h.changeG (owo ds) hi hs trivial hW (fun h0 kk=>⟨a,ys,rfl,hW,h0,upd_same,HasL.keep kk h.fr.wl (fun b z=> .inl z) q⟩) (owo es)
theorem StHas.changeQ {i:Nat} {ks ks':List Key} {ds es:List D} {a:Addr} {kvs':List (Key×V)} (h:StHas K W₀ H₀ W H σ δ) (hi:δ[i]? =some (some (.q ks ds))) (hs:σ[i]? =some (some (.ref a))) (hW:W a) (e:kvs'.map (·.1)=ks') (q:HasL K W H es (kvs'.map (·.2))):
  StHas K W₀ H₀ W (upd H a (.dK kvs')) σ (δ.set i (some (.q ks' es))):=
 h.changeG (owq ks ds) hi hs trivial hW (fun h0 kk=>⟨a,kvs',rfl,hW,h0,upd_same,e,HasL.keep kk h.fr.wl (fun b z=> .inl z) q⟩) (owq ks' es)
theorem StHas.freezeS {N:WS} {i:Nat} {so:S} {x:D} {w:V} (h:StHas K W₀ H₀ W H σ δ) (hi:δ[i]? =some (some so)) (hs:σ[i]? =some (some w)) (oN:∀ b,N b→Owns H so w b)
  (hd:Has K (fun b=>W b∧¬ N b) H x w):StHas K W₀ H₀ (fun b=>W b∧¬ N b) H σ (δ.set i (some (.d x))):=by
 obtain ⟨v,h1,h2⟩:=h.at' i _ hi
 rw [hs] at h1
 cases h1
 have kk:Keep W H H:=fun _ _ e _=>e
 have hw:∀ b,(W b∧¬ N b)→W b∨H b=none:=fun b z=> .inl z.1
 have hl:i<δ.length:=(List.getElem?_eq_some_iff.mp hi).1
 refine ⟨⟨h.fr.ext,fun b z=>⟨h.fr.sub b z,fun e=> ?_⟩,fun b z=>h.fr.wl b z.1,h.fr.wl0⟩,by simp [h.len],fun j s e=> ?_,fun j l s1 s2 u u' b hjl e1 e2 e3 e4 os ot=> ?_⟩
 ·obtain ⟨ys,z',_⟩:=h.fr.wl0 _ z
  rw [(h2.owns (oN _ e)).2.1] at z';cases z'
 ·by_cases hj:i=j
  ·subst hj
   rw [List.getElem?_set_self hl] at e
   cases e
   exact ⟨_,hs,hd⟩
  ·rw [List.getElem?_set_ne hj] at e
   obtain ⟨v,g1,g2⟩:=h.at' j s e
   refine ⟨v,g1,?_⟩
   by_cases ow:Ow s
   ·exact g2.mv h.fr.wl kk hw fun b o e1 h1' _ h3' _=>⟨⟨h1',fun z=>h.ap i j _ _ _ _ b hj hi e hs g1 (oN b z) e1⟩,h3'⟩
   ·cases s with
    |d x=>exact Has.keep kk h.fr.wl hw g2
    |_=>exact (ow trivial).elim
 ·have hj:i≠j:=by
   rintro rfl
   rw [List.getElem?_set_self hl] at e1;cases e1;exact os
  have hk:i≠l:=by
   rintro rfl
   rw [List.getElem?_set_self hl] at e2;cases e2;exact ot
  rw [List.getElem?_set_ne hj] at e1
  rw [List.getElem?_set_ne hk] at e2
  exact h.ap j l s1 s2 u u' b hjl e1 e2 e3 e4 os ot
theorem StHas.freezeG {i:Nat} {so:S} {x:D} {a:Addr} (h:StHas K W₀ H₀ W H σ δ) (oo:Ow so) (hi:δ[i]? =some (some so)) (hs:σ[i]? =some (some (.ref a)))
  (hd:Has K (fun b=>W b∧b≠a) H x (.ref a)):StHas K W₀ H₀ (fun b=>W b∧b≠a) H σ (δ.set i (some (.d x))):=
 h.freezeS (N:=fun b=>b=a) hi hs (fun b z=>by rw [z];exact oo.owns) hd
theorem StHas.freezeH {i:Nat} {so:S} {x:D} {a:Addr} {ob:HO} (h:StHas K W₀ H₀ W H σ δ) (oo:Ow so) (hi:δ[i]? =some (some so)) (hs:σ[i]? =some (some (.ref a)))
  (hd:Has K (fun b=>W b∧b≠a) (upd H a ob) x (.ref a)):StHas K W₀ H₀ (fun b=>W b∧b≠a) (upd H a ob) σ (δ.set i (some (.d x))):=by
 obtain ⟨v,h1,h2⟩:=h.at' i _ hi
 obtain ⟨b,o1,e',hW,h0,h3,_⟩:=h2.own oo
 rw [hs] at h1
 cases h1
 cases e'
 have kk:Keep W H (upd H a ob):=fun b o e n=>by rw [upd_ne (fun z=>n (by rw [z];exact hW))];exact e
 have hw:∀ b,(W b∧b≠a)→W b∨H b=none:=fun b z=> .inl z.1
 have hl:i<δ.length:=(List.getElem?_eq_some_iff.mp hi).1
 refine ⟨⟨fun b o e=>by rw [upd_ne (ne_of_none e h0)];exact h.fr.ext _ _ e,fun b z=>⟨h.fr.sub b z,fun e=> ?_⟩,fun b z=>by rw [upd_ne z.2];exact h.fr.wl b z.1,h.fr.wl0⟩,by simp [h.len],fun j s e=> ?_,fun j l s1 s2 u u' b hjl e1 e2 e3 e4 os ot=> ?_⟩
 ·subst e
  obtain ⟨ys,z',_⟩:=h.fr.wl0 _ z
  rw [h0] at z';cases z'
 ·by_cases hj:i=j
  ·subst hj
   rw [List.getElem?_set_self hl] at e
   cases e
   exact ⟨.ref a,hs,hd⟩
  ·rw [List.getElem?_set_ne hj] at e
   obtain ⟨v,g1,g2⟩:=h.at' j s e
   refine ⟨v,g1,?_⟩
   by_cases ow:Ow s
   ·exact g2.mv h.fr.wl kk hw fun b o e1 h1' _ h3' _=>(fun hba=>⟨⟨h1',hba⟩,by rw [upd_ne hba];exact h3'⟩) (fun z=>by subst z;exact h.ap i j _ _ _ _ b hj hi e hs g1 oo.owns e1)
   ·cases s with
    |d x=>exact Has.keep kk h.fr.wl hw g2
    |_=>exact (ow trivial).elim
 ·have hj:i≠j:=by
   rintro rfl
   rw [List.getElem?_set_self hl] at e1;cases e1;exact os
  have hk:i≠l:=by
   rintro rfl
   rw [List.getElem?_set_self hl] at e2;cases e2;exact ot
  rw [List.getElem?_set_ne hj] at e1
  rw [List.getElem?_set_ne hk] at e2
  have back:∀ (m:Nat) (t:S) (x:V),i≠m→δ[m]? =some (some t)→σ[m]? =some (some x)→Owns (upd H a ob) t x b→Owns H t x b:=fun m t x hm e e' o=>by
   obtain ⟨v,h1,h2⟩:=h.at' m t e
   rw [e'] at h1;cases h1
   refine Owns.back h2 (fun c xs ec z=> ?_) o
   subst ec
   have hc:Ow t→c≠a:=fun ow z=>by
    subst z
    exact h.ap i m _ _ _ _ c hm hi e hs e' oo.owns ow.owns
   cases t with
   |d y=>exact o.elim
   |_=>rw [upd_ne (hc trivial)];exact z
  exact h.ap j l s1 s2 u u' b hjl e1 e2 e3 e4 (back j s1 u hj e1 e3 os) (back l s2 u' hk e2 e4 ot)
end
abbrev XW:=Str→List D→Hp→Prop
section
variable (K:PySem.W.Frag) (xw:XW)
def RE (W:WS) (H:Hp) (r:Res D) (Q:VK):Prop:=match r with
 | .ok d=>∀ v H',Same H H'→Has K W H' d v→Q v H'
 | .ex c fs=>∀ H',Same H H'→xw c fs H'
 | .stuck=>False
def HasT (W:WS) (H:Hp) (d:D) (v:V):Prop:=Has K W H d v∨∃ ds a xs,d= .lst ds∧v= .ref a∧H a=some (.lst xs)∧HasL K W H ds xs
def RP (W:WS) (H:Hp) (r:Res D) (Q:VK):Prop:=match r with
 | .ok d=>∀ v H',Same H H'→HasT K W H' d v→Q v H'
 | .ex c fs=>∀ H',Same H H'→xw c fs H'
 | .stuck=>False
def RF (W:WS) (H:Hp) (r:Res (List D)) (Q:VK):Prop:=match r with
 | .ok ds=>∀ a xs H1,Same H H1→H1 a=none→HasL K W H1 ds xs→Q (.ref a) (upd H1 a (.lst xs))
 | .ex c fs=>∀ H',Same H H'→xw c fs H'
 | .stuck=>False
def RT (H:Hp) (r:Res Bool) (Q:Bool→Hp→Prop):Prop:=match r with
 | .ok b=>∀ H',Same H H'→Q b H'
 | .ex c fs=>∀ H',Same H H'→xw c fs H'
 | .stuck=>False
def RA (W:WS) (H:Hp) (r:Res (List D)) (Q:List V→Hp→Prop):Prop:=match r with
 | .ok ds=>∀ vs H',Same H H'→HasL K W H' ds vs→Q vs H'
 | .ex c fs=>∀ H',Same H H'→xw c fs H'
 | .stuck=>False
def tDE (f:DSt→Res D):TE:=fun σ H Q=>∃ W₀ H₀ W δ,StHas K W₀ H₀ W H σ δ∧RE K xw W H (f δ) Q
def tDP (f:DSt→Res D):TE:=fun σ H Q=>∃ W₀ H₀ W δ,StHas K W₀ H₀ W H σ δ∧RP K xw W H (f δ) Q
def tDF (f:DSt→Res (List D)):TE:=fun σ H Q=>∃ W₀ H₀ W δ,StHas K W₀ H₀ W H σ δ∧RF K xw W H (f δ) Q
def tDT (f:DSt→Res Bool):TT:=fun σ H Q=>∃ W₀ H₀ W δ,StHas K W₀ H₀ W H σ δ∧RT xw H (f δ) Q
def tDA (f:DSt→Res (List D)):TA:=fun σ H Q=>∃ W₀ H₀ W δ,StHas K W₀ H₀ W H σ δ∧RA K xw W H (f δ) Q
end
def DE (X:Cx) (xw:XW) (e:Expr) (f:DSt→Res D):Prop:=PE X e (tDE X.K xw f)
def DP (X:Cx) (xw:XW) (e:Expr) (f:DSt→Res D):Prop:=PE X e (tDP X.K xw f)
def DF (X:Cx) (xw:XW) (e:Expr) (f:DSt→Res (List D)):Prop:=PE X e (tDF X.K xw f)
def DT (X:Cx) (xw:XW) (e:Expr) (f:DSt→Res Bool):Prop:=PT X e (tDT X.K xw f)
def DW (X:Cx) (xw:XW) (e:Expr) (f:DSt→Res Bool):Prop:=PW X e (tDT X.K xw f)
def DA (X:Cx) (xw:XW) (es:List Expr) (f:DSt→Res (List D)):Prop:=PA X es (tDA X.K xw f)
theorem PE.weak {X:Cx} {e:Expr} {t t':TE} (h:PE X e t) (k:∀ σ H Q,t' σ H Q→t σ H Q):PE X e t':=fun pins s σ H Q I q=>h pins s σ H Q I (k σ H Q q)
theorem PT.weak {X:Cx} {e:Expr} {t t':TT} (h:PT X e t) (k:∀ σ H Q,t' σ H Q→t σ H Q):PT X e t':=fun pins s σ H Q I q=>h pins s σ H Q I (k σ H Q q)
theorem PW.weak {X:Cx} {e:Expr} {t t':TT} (h:PW X e t) (k:∀ σ H Q,t' σ H Q→t σ H Q):PW X e t':=fun wh pins s σ H Q I q=>h wh pins s σ H Q I (k σ H Q q)
theorem PA.weak {X:Cx} {e:List Expr} {t t':TA} (h:PA X e t) (k:∀ σ H Q,t' σ H Q→t σ H Q):PA X e t':=fun ps pins s σ H Q I q=>h ps pins s σ H Q I (k σ H Q q)
section
variable {K:PySem.W.Frag} {xw:XW} {W:WS} {H H':Hp} {Q:VK}
theorem RE.same {r:Res D} (h:RE K xw W H r Q) (k:Same H H'):RE K xw W H' r Q:=by
 cases r with
 |ok d=>exact fun v H2 k2 q=>h v H2 (k.trans k2) q
 |ex c fs=>exact fun H2 k2=>h H2 (k.trans k2)
 |stuck=>exact h
theorem RF.same {r:Res (List D)} (h:RF K xw W H r Q) (k:Same H H'):RF K xw W H' r Q:=by
 cases r with
 |ok d=>exact fun a xs H1 k1 n q=>h a xs H1 (k.trans k1) n q
 |ex c fs=>exact fun H2 k2=>h H2 (k.trans k2)
 |stuck=>exact h
theorem RT.same {r:Res Bool} {Q:Bool→Hp→Prop} (h:RT xw H r Q) (k:Same H H'):RT xw H' r Q:=by
 cases r with
 |ok d=>exact fun H2 k2=>h H2 (k.trans k2)
 |ex c fs=>exact fun H2 k2=>h H2 (k.trans k2)
 |stuck=>exact h
theorem RA.same {r:Res (List D)} {Q:List V→Hp→Prop} (h:RA K xw W H r Q) (k:Same H H'):RA K xw W H' r Q:=by
 cases r with
 |ok d=>exact fun v H2 k2 q=>h v H2 (k.trans k2) q
 |ex c fs=>exact fun H2 k2=>h H2 (k.trans k2)
 |stuck=>exact h
theorem HasT.same {d:D} {v:V} (h:HasT K W H d v) (k:Same H H') (w:WL W H):HasT K W H' d v:=by
 rcases h with h|⟨ds,a,xs,h1,h2,h3,h4⟩
 ·exact .inl (h.same k w)
 ·exact .inr ⟨ds,a,xs,h1,h2,k _ _ h3,h4.same k w⟩
theorem HasT.int {i:Int} {v:V} (h:HasT K W H (.int i) v):v= .int i:=by
 rcases h with h|⟨ds,a,xs,h1,_⟩
 ·rw [Has] at h;exact h
 ·cases h1
theorem HasT.bl {i:Bool} {v:V} (h:HasT K W H (.bl i) v):v= .bl i:=by
 rcases h with h|⟨ds,a,xs,h1,_⟩
 ·rw [Has] at h;exact h
 ·cases h1
theorem HasT.str {i:Str} {v:V} (h:HasT K W H (.str i) v):v= .str i:=by
 rcases h with h|⟨ds,a,xs,h1,_⟩
 ·rw [Has] at h;exact h
 ·cases h1
theorem HasT.non {v:V} (h:HasT K W H .non v):v= .non:=by
 rcases h with h|⟨ds,a,xs,h1,_⟩
 ·rw [Has] at h;exact h
 ·cases h1
theorem HasT.tup {ds:List D} {v:V} (h:HasT K W H (.tup ds) v):∃ a xs,v= .ref a∧SqT K H a xs∧HasL K W H ds xs:=by
 rcases h with h|⟨ds,a,xs,h1,_⟩
 ·rw [Has] at h;exact h
 ·cases h1
theorem HasT.lst {ds:List D} {v:V} (h:HasT K W H (.lst ds) v):∃ a xs,v= .ref a∧SqL K H a xs∧HasL K W H ds xs:=by
 rcases h with h|⟨ds,a,xs,h1,h2,h3,h4⟩
 ·rw [Has] at h
  obtain ⟨a,xs,e,q,r⟩:=h
  exact ⟨a,xs,e,q.sq,r⟩
 ·cases h1
  exact ⟨a,xs,h2, .of h3,h4⟩
end
end L3
namespace L3
open PySem PySem.Spec PyProof.Rows L2
def clOf (scope:Scope) (env:Env):List (Str×Addr):=scope.names.foldl (fun cs y=>if y.2== .free then (match env.cells.lookup y.1 with|some a=>(y.1,a)::cs|none=>cs) else cs) []
theorem clOf_go {env:Env} (names:List (Str×NameKind)):∀ (cs:List (Str×Addr)),(∀ y∈names,y.2= .free→∃ c,env.cells.lookup y.1=some c)→
  (forIn names cs (fun (y:Str×NameKind) (r:List (Str×Addr))=>(do
   if (y.2==NameKind.free)=true then do
    let a ←cellOf env y.1
    pure (ForInStep.yield ((y.1,a)::r))
   else pure (ForInStep.yield r):Sem (ForInStep (List (Str×Addr))))))=(pure (names.foldl (fun cs y=>if y.2== .free then (match env.cells.lookup y.1 with|some a=>(y.1,a)::cs|none=>cs) else cs) cs):Sem _):=by
 induction names with
 |nil=>intro cs _;rfl
 |cons y r ih=>
  intro cs h
  have h':∀ y∈r,y.2= .free→∃ c,env.cells.lookup y.1=some c:=fun z hz=>h z (List.mem_cons_of_mem _ hz)
  rw [List.forIn_cons,List.foldl_cons]
  by_cases hk:y.2= .free
  ·obtain ⟨c,hc⟩:=h y List.mem_cons_self hk
   have hb:(y.2==NameKind.free)=true:=by rw [hk];rfl
   simp only [hb,if_true,cellOf,hc,pure_bind]
   exact ih _ h'
  ·have hb:(y.2==NameKind.free)=false:=by simpa using hk
   simp only [hb,Bool.false_eq_true,if_false,pure_bind]
   exact ih _ h'
theorem clOf_eq {scope:Scope} {env:Env} (h:∀ y∈scope.names,y.2= .free→∃ c,env.cells.lookup y.1=some c):closureFor scope env=pure (clOf scope env):=by
 unfold closureFor clOf
 exact (congrArg (fun z=>z >>= fun r=>pure r) (clOf_go scope.names [] h)).trans (by simp)
theorem clOf_sub {env:Env} (names:List (Str×NameKind)):∀ (cs:List (Str×Addr)),(∀ x c,cs.lookup x=some c→env.cells.lookup x=some c)→
  ∀ x c,(names.foldl (fun cs y=>if y.2== .free then (match env.cells.lookup y.1 with|some a=>(y.1,a)::cs|none=>cs) else cs) cs).lookup x=some c→env.cells.lookup x=some c:=by
 induction names with
 |nil=>intro cs h;exact h
 |cons y r ih=>
  intro cs h
  rw [List.foldl_cons]
  refine ih _ ?_
  split
  ·split
   ·rename_i a ha
    intro x c e
    rw [List.lookup_cons] at e
    by_cases hx:x=y.1
    ·have:(x==y.1)=true:=by rw [hx];simp
     rw [this] at e
     have e':a=c:=Option.some.inj e
     rw [hx,ha,e']
    ·have:(x==y.1)=false:=by simpa using hx
     rw [this] at e
     exact h x c e
   ·exact h
  ·exact h
theorem clOf_has {env:Env} (names:List (Str×NameKind)):∀ (cs:List (Str×Addr)) (x:Str),((∃ c,cs.lookup x=some c)∨((x,NameKind.free)∈names∧∃ c,env.cells.lookup x=some c))→
  ∃ c,(names.foldl (fun cs y=>if y.2== .free then (match env.cells.lookup y.1 with|some a=>(y.1,a)::cs|none=>cs) else cs) cs).lookup x=some c:=by
 induction names with
 |nil=>
  intro cs x h
  rcases h with h|⟨h,_⟩
  ·exact h
  ·simp at h
 |cons y r ih=>
  intro cs x h
  rw [List.foldl_cons]
  refine ih _ x ?_
  rcases h with ⟨c,h⟩|⟨h,c,hc⟩
  ·left
   split
   ·split
    ·rename_i a ha
     rw [List.lookup_cons]
     cases hx:x==y.1 with
     |true=>exact ⟨a,rfl⟩
     |false=>exact ⟨c,h⟩
    ·exact ⟨c,h⟩
   ·exact ⟨c,h⟩
  ·rcases List.mem_cons.mp h with h|h
   ·left
    subst h
    simp only [beq_self_eq_true,if_true,hc]
    exact ⟨c,by rw [List.lookup_cons];simp⟩
   ·exact .inr ⟨h,c,hc⟩
theorem lookup_mapKey {g:Str→NameKind→NameKind}:∀ (l:List (Str×NameKind)) (x:Str),(l.map fun y=>(y.1,g y.1 y.2)).lookup x=(l.lookup x).map (g x)
 | [],_=>rfl
 |y::r,x=>by
  rw [List.map_cons,List.lookup_cons,List.lookup_cons]
  cases hx:x==y.1 with
  |true=>
   have:x=y.1:=by simpa using hx
   rw [this];rfl
  |false=>exact lookup_mapKey r x
theorem relabel_lookup (scope:Scope) (env:Env) (x:Str):(relabel scope env).names.lookup x=(scope.names.lookup x).map fun k=>if (k== .free&&env.scope.kind== .function&&env.kindOf x==some .cell) then .cell else k:=by
 have e:(relabel scope env).names=scope.names.map fun y=>(y.1,(fun n k=>if (k==NameKind.free&&env.scope.kind== .function&&env.kindOf n==some .cell) then NameKind.cell else k) y.1 y.2):=by
  unfold relabel
  refine List.map_congr_left fun y _=> ?_
  obtain ⟨n,k⟩:=y
  dsimp only
  split<;>rfl
 rw [e]
 exact lookup_mapKey (g:=fun n k=>if (k==NameKind.free&&env.scope.kind== .function&&env.kindOf n==some .cell) then NameKind.cell else k) scope.names x
theorem clOf_mem {env:Env} (names:List (Str×NameKind)):∀ (cs:List (Str×Addr)) (x:Str) (c:Addr),(names.foldl (fun cs y=>if y.2== .free then (match env.cells.lookup y.1 with|some a=>(y.1,a)::cs|none=>cs) else cs) cs).lookup x=some c→cs.lookup x=some c∨(x,NameKind.free)∈names:=by
 induction names with
 |nil=>intro cs x c h;exact .inl h
 |cons y r ih=>
  intro cs x c h
  rw [List.foldl_cons] at h
  rcases ih _ x c h with h|h
  ·by_cases hf:y.2= .free
   ·by_cases hx:x=y.1
    ·right;subst hx;rw [←hf];exact List.mem_cons_self
    ·left
     have hb:(y.2==NameKind.free)=true:=by rw [hf];rfl
     have hxb:(x==y.1)=false:=by simpa using hx
     simp only [hb,if_true] at h
     split at h
     ·rw [List.lookup_cons,hxb] at h;exact h
     ·exact h
   ·left
    have hb:(y.2==NameKind.free)=false:=by simpa using hf
    simp only [hb,Bool.false_eq_true,if_false] at h
    exact h
  ·exact .inr (List.mem_cons_of_mem _ h)
theorem cf_or:∀ (names:List (Str×NameKind)) (n:Nat) (acc:List (Str×Addr)) (x:Str) (c:Addr),(cellsFrom n names acc).lookup x=some c→acc.lookup x=some c∨(n≤c∧(x,NameKind.cell)∈names)
 | [],_,_,_,_,h=> .inl h
 |(y,k)::r,n,acc,x,c,h=>by
  unfold cellsFrom at h
  by_cases hk:(k== .cell)=true
  ·rw [if_pos hk] at h
   have hk':k= .cell:=by simpa using hk
   rcases cf_or r (n+1) _ x c h with h|⟨h1,h2⟩
   ·rw [List.lookup_cons] at h
    cases hx:x==y with
    |true=>
     rw [hx] at h
     have e:n=c:=Option.some.inj h
     have ex:x=y:=by simpa using hx
     subst ex;subst hk'
     exact .inr ⟨by omega,List.mem_cons_self⟩
    |false=>rw [hx] at h;exact .inl h
   ·exact .inr ⟨by omega,List.mem_cons_of_mem _ h2⟩
  ·rw [if_neg hk] at h
   rcases cf_or r n acc x c h with h|⟨h1,h2⟩
   ·exact .inl h
   ·exact .inr ⟨h1,List.mem_cons_of_mem _ h2⟩
theorem cf_old:∀ (names:List (Str×NameKind)) (n:Nat) (acc:List (Str×Addr)) (x:Str),(x,NameKind.cell)∉names→(cellsFrom n names acc).lookup x=acc.lookup x
 | [],_,_,_,_=>rfl
 |(y,k)::r,n,acc,x,h=>by
  have hr:(x,NameKind.cell)∉r:=fun z=>h (List.mem_cons_of_mem _ z)
  unfold cellsFrom
  by_cases hk:(k== .cell)=true
  ·rw [if_pos hk,cf_old r (n+1) _ x hr,List.lookup_cons]
   have hk':k= .cell:=by simpa using hk
   have hx:(x==y)=false:=by
    cases hx:x==y with
    |false=>rfl
    |true=>
     have ex:x=y:=by simpa using hx
     subst ex;subst hk'
     exact absurd List.mem_cons_self h
   rw [hx]
  ·rw [if_neg hk];exact cf_old r n acc x hr
theorem cf_inj:∀ (names:List (Str×NameKind)) (n:Nat) (acc:List (Str×Addr)),(∀ x y c,acc.lookup x=some c→acc.lookup y=some c→x=y)→(∀ x c,acc.lookup x=some c→c<n)→
  ∀ x y c,(cellsFrom n names acc).lookup x=some c→(cellsFrom n names acc).lookup y=some c→x=y
 | [],_,_,h,_=>h
 |(z,k)::r,n,acc,h,hb=>by
  unfold cellsFrom
  by_cases hk:(k== .cell)=true
  ·rw [if_pos hk]
   refine cf_inj r (n+1) _ (fun x y c e1 e2=> ?_) fun x c e=> ?_
   ·rw [List.lookup_cons] at e1 e2
    cases hx:x==z with
    |true=>
     rw [hx] at e1
     have ec:n=c:=Option.some.inj e1
     have ex:x=z:=by simpa using hx
     cases hy:y==z with
     |true=>
      have ey:y=z:=by simpa using hy
      rw [ex,ey]
     |false=>
      rw [hy] at e2
      have:=hb y c e2
      rw [←ec] at this
      exact absurd this (Nat.lt_irrefl _)
    |false=>
     rw [hx] at e1
     cases hy:y==z with
     |true=>
      rw [hy] at e2
      have ec:n=c:=Option.some.inj e2
      have:=hb x c e1
      rw [←ec] at this
      exact absurd this (Nat.lt_irrefl _)
     |false=>rw [hy] at e2;exact h x y c e1 e2
   ·rw [List.lookup_cons] at e
    cases hx:x==z with
    |true=>
     rw [hx] at e
     have ec:n=c:=Option.some.inj e
     rw [←ec]
     exact Nat.lt_succ_self _
    |false=>rw [hx] at e;exact Nat.lt_succ_of_lt (hb x c e)
  ·rw [if_neg hk];exact cf_inj r n acc h hb
theorem cf_cell:∀ (names:List (Str×NameKind)) (h:Heap) (acc:List (Str×Addr)),(∀ x c,acc.lookup x=some c→∃ v,h.IsCell c v)→∀ x c,(cellsFrom h.objs.size names acc).lookup x=some c→∃ v,(pushCells h names).IsCell c v
 | [],_,_,hc=>hc
 |(z,k)::r,h,acc,hc=>by
  unfold cellsFrom pushCells
  by_cases hk:(k== .cell)=true
  ·rw [if_pos hk,if_pos hk]
   have:=cf_cell r (h.push {cls:= .type "cell",data:= .cell none}) ((z,h.objs.size)::acc) fun x c e=>by
    rw [List.lookup_cons] at e
    cases hx:x==z with
    |true=>
     rw [hx] at e
     have ec:h.objs.size=c:=Option.some.inj e
     subst ec
     exact ⟨none,_,Heap.get?_push_size _ rfl,rfl⟩
    |false=>
     rw [hx] at e
     obtain ⟨v,q⟩:=hc x c e
     exact ⟨v,q.keeps fun b o e=>Heap.get?_push_of_some _ e⟩
   rw [Heap.size_push] at this
   exact this
  ·rw [if_neg hk,if_neg hk];exact cf_cell r h acc hc
def ccOf (scope:Scope) (env:Env) (C:Addr):List (Str×Addr):=cellsFrom (C+1) scope.names (clOf scope env)
theorem wpAny_newCompEnv {M:Model} {A:Around} {E:Value→Shared→Prop} {s:Shared} {scope:Scope} {globals:Addr} {cl:List (Str×Addr)} {qual:Str} {env:Env} {Q:Env→Shared→Prop}
  (hQ:Q {scope:=scope,locals:=s.heap.objs.size,globals:=globals,cells:=cellsFrom (s.heap.objs.size+1) scope.names cl,qual:=qual,func:=none,code:=env.code,frame:=env.frame,builtins:=env.builtins}
   {s with heap:=pushCells (s.heap.push {cls:= .type "dict",data:= .dict #[]}) scope.names}):
  wpAny M A (newFunctionEnv scope globals cl [] qual none .none (some env)) Q E s:=by
 simp only [newFunctionEnv,Option.isSome_some,if_true]
 refine wpAny_bind (wpAny_alloc ?_)
 refine wpAny_bind (wpAny_layCells _ (fun name kind cells=>by cases hkc:kind==NameKind.cell<;>simp [hkc]) _ _ _ _ ?_)
 rw [show ({s with heap:=s.heap.push {cls:= .type "dict",data:= .dict #[]}}:Shared).heap.objs.size=s.heap.objs.size+1 from Heap.size_push ..]
 refine wpAny_bind ?_
 rw [List.forIn_nil]
 exact wpAny_pure (wpAny_pure hQ)
theorem ns_newDict {h:Heap} {names:List (Str×NameKind)}:(pushCells (h.push {cls:= .type "dict",data:= .dict #[]}) names).Ns h.objs.size fun _=>none:=(Heap.Ns.new h (.type "dict")).keeps (pushCells_keeps _ _)
def compCx (X:Cx) (scope:Scope) (Nc Nx:List Str) (C:Addr) (fp:List Addr) (pins:List (Addr×Obj)) (s:Shared) (H:Hp):Cx:=
 {X with N:=Nc++Nx,s₀:=s,H₀:=H,env:=compEnvC scope (ccOf scope X.env C) C X.env,outer:=X.stack,stack:=X.stack,ex:=fp,fn:=fun x=>scope.names.lookup x==some .cell,pn:=X.pn++pins,xe:=fun _ _=>False}
structure CompOk (X:Cx) (scope:Scope) (Nc Nx:List Str):Prop where
 kind:scope.kind= .function
 one:∀ y∈scope.names,scope.names.lookup y.1=some y.2
 free:∀ y∈scope.names,y.2= .free→X.env.kindOf y.1=some .cell∨X.env.kindOf y.1=some .free
 same:Nx.length=X.N.length
 dis:∀ p∈Nx.zip X.N,(p.1=p.2∧scope.names.lookup p.2≠some .local∧scope.names.lookup p.2≠some .cell)∨scope.names.lookup p.1=none
section
variable {X:Cx} {scope:Scope} {Nc Nx:List Str}
theorem CompOk.loc (c:CompOk X scope Nc Nx):∀ y∈scope.names,y.2= .local→scope.names.lookup y.1=some .local:=fun y hy h=>by rw [c.one y hy,h]
theorem CompOk.old (c:CompOk X scope Nc Nx) {x:Str} {k:NameKind} (h:scope.names.lookup x=some k) (hk:k≠ .cell):(x,NameKind.cell)∉scope.names:=fun z=>by
 have:=c.one _ z
 rw [h] at this
 exact hk (Option.some.inj this)
theorem CompOk.cells (c:CompOk X scope Nc Nx) (ok:X.Ok):∀ y∈scope.names,y.2= .free→∃ a,X.env.cells.lookup y.1=some a:=fun y hy hf=>ok.has y.1 (c.free y hy hf)
theorem compCl_sub {x:Str} {a:Addr} (h:(clOf scope X.env).lookup x=some a):X.env.cells.lookup x=some a:=clOf_sub scope.names [] (fun _ _ e=>by simp at e) x a h
theorem ccOf_or (C:Addr) {x:Str} {a:Addr} (h:(ccOf scope X.env C).lookup x=some a):X.env.cells.lookup x=some a∨(C<a∧(x,NameKind.cell)∈scope.names):=by
 rcases cf_or _ _ _ x a h with h|⟨h1,h2⟩
 ·exact .inl (compCl_sub h)
 ·exact .inr ⟨h1,h2⟩
theorem ccOf_new (c:CompOk X scope Nc Nx) (C:Addr) {x:Str} {a:Addr} (hx:scope.names.lookup x=some .cell) (h:(ccOf scope X.env C).lookup x=some a):C<a:=by
 rcases cf_or _ _ _ x a h with h|⟨h1,_⟩
 ·rcases clOf_mem scope.names [] x a h with h|h
  ·simp at h
  ·have:=c.one _ h
   rw [hx] at this
   cases this
 ·exact h1
theorem ccOf_old (c:CompOk X scope Nc Nx) (C:Addr) {x:Str} {k:NameKind} (hx:scope.names.lookup x=some k) (hk:k≠ .cell):(ccOf scope X.env C).lookup x=(clOf scope X.env).lookup x:=cf_old _ _ _ x (c.old hx hk)
theorem inv_comp {pins:List (Addr×Obj)} {σ:L2.St} {H:Hp} {s:Shared} {fp:List Addr} {tk:Nat} (c:CompOk X scope Nc Nx) (I:Inv X pins σ H s) (hf:∀ b∈fp,FpOk X pins H b∧b<s.heap.objs.size):
  Inv (compCx X scope Nc Nx s.heap.objs.size fp pins s H) [] (List.replicate Nc.length none++σ) H {s with heap:=pushCells (s.heap.push {cls:= .type "dict",data:= .dict #[]}) scope.names,toks:=tk}:=by
 have hn:(pushCells (s.heap.push {cls:= .type "dict",data:= .dict #[]}) scope.names).Ns s.heap.objs.size fun _=>none:=ns_newDict
 have hk:∀ b o,s.heap.get? b=some o→(pushCells (s.heap.push {cls:= .type "dict",data:= .dict #[]}) scope.names).get? b=some o:=fun b o e=>pushCells_keeps _ _ _ _ (Heap.get?_push_of_some _ e)
 have cellLt:∀ x a,X.env.cells.lookup x=some a→a<s.heap.objs.size:=fun x a e=>by
  obtain ⟨v,q⟩:=I.cell x a e
  exact q.lt
 have hokind:(compEnvC scope (ccOf scope X.env s.heap.objs.size) s.heap.objs.size X.env).scope.kind= .function:=c.kind
 have kinds:∀ x,((relabel scope X.env).names.lookup x=some .cell∨(relabel scope X.env).names.lookup x=some .free)→scope.names.lookup x=some .cell∨scope.names.lookup x=some .free:=fun x hx'=>by
  rw [relabel_lookup] at hx'
  cases q:scope.names.lookup x with
  |none=>rw [q] at hx';simp at hx'
  |some k=>
   rw [q] at hx'
   by_cases hkf:k= .free
   ·rw [hkf];exact .inr rfl
   ·have hb:(k==NameKind.free)=false:=by simpa using hkf
    simp only [Option.map_some,hb,Bool.false_and,Bool.false_eq_true,if_false] at hx'
    exact hx'
 refine ⟨⟨I.ok.mod,hokind,I.ok.glob,I.ok.blt,Nat.le_refl _,?_,fun x hx=> ?_,fun x a hx e=> ?_,I.ok.hd,I.ok.frames, .inl rfl,fun b hb=>⟨?_,fun x a e=> ?_⟩,I.bs,Nat.le_trans I.ok.bsz I.sz,fun b o e hb=> ?_,fun b hb=> ?_,I.stack,I.stkFree⟩,
  rfl,I.bare,Un.kept hk,⟨_,hn,fun i x v h1 h2 h3=> ?_⟩,?_,I.hok.fresh (Nat.le_refl _),fun x a e=> ?_,fun p hp=> ?_,I.hok.kept hk,?_⟩
 ·exact cf_inj scope.names _ _ (fun x y a h1 h2=>I.ok.inj x y a (compCl_sub h1) (compCl_sub h2)) fun x a h=>Nat.lt_succ_of_lt (cellLt x a (compCl_sub h))
 ·rcases kinds x hx with hc|hfree
  ·exact Option.isSome_iff_exists.mp (PySem.W.cellsFrom_some scope.names _ _ (.inl hc))
  ·have hm:=PySem.mem_of_lookup hfree
   obtain ⟨a,e⟩:=clOf_has (env:=X.env) scope.names [] x (.inr ⟨hm,c.cells I.ok _ hm rfl⟩)
   exact ⟨a,(ccOf_old c _ hfree (by decide)).trans e⟩
 ·have hx':(scope.names.lookup x==some NameKind.cell)=true:=hx
  exact Nat.le_of_lt (ccOf_new c _ (by simpa using hx') e)
 ·exact Nat.ne_of_lt (hf b hb).2
 ·rcases ccOf_or _ e with e|⟨e,_⟩
  ·exact (hf b hb).1.2.2.2.2.1 x a e
  ·have:=(hf b hb).2
   exact Nat.ne_of_gt (Nat.lt_trans this e)
 ·obtain ⟨_,hb2⟩:=I.bs b o e
  rcases (hf b hb).1.2.2.2.1 with z|z
  ·exact I.ok.noex b o e z
  ·exact absurd (Nat.lt_of_lt_of_le (Heap.lt_size e) (Nat.le_trans I.ok.bsz z)) (Nat.lt_irrefl _)
 ·intro z
  rcases List.mem_cons.mp (I.stkSub b z) with q|q
  ·exact (hf b hb).1.2.1 q
  ·exact (hf b hb).1.2.2.1 q
 ·have hi:Nc.length≤i:=by
   refine Nat.le_of_not_lt fun q=> ?_
   rw [List.getElem?_append_left (by simpa using q),List.getElem?_replicate] at h2
   split at h2<;>cases h2
  have h1':Nx[i-Nc.length]? =some x:=by
   have z:(Nc++Nx)[i]? =some x:=h1
   rw [List.getElem?_append_right hi] at z;exact z
  have h2':σ[i-Nc.length]? =some (some v):=by
   rw [List.getElem?_append_right (by simpa using hi),List.length_replicate] at h2;exact h2
  have h3':(relabel scope X.env).names.lookup x=some .local∨(relabel scope X.env).names.lookup x=some .cell∨(relabel scope X.env).names.lookup x=some .free:=h3
  have hz:i-Nc.length<X.N.length:=by
   rw [←c.same]
   refine Nat.lt_of_not_le fun q=> ?_
   rw [List.getElem?_eq_none q] at h1';cases h1'
  have hd2:=c.dis (x,X.N[i-Nc.length]'hz) (List.mem_of_getElem? (i:=i-Nc.length) (by
   rw [List.getElem?_zip_eq_some]
   exact ⟨h1',List.getElem?_eq_getElem hz⟩))
  have hd3:X.N[i-Nc.length]? =some x∧scope.names.lookup x≠some .local∧scope.names.lookup x≠some .cell:=by
   rcases hd2 with ⟨q1,q2⟩|q
   ·have q1':x=X.N[i-Nc.length]'hz:=q1
    have q2':scope.names.lookup (X.N[i-Nc.length]'hz)≠some .local∧scope.names.lookup (X.N[i-Nc.length]'hz)≠some .cell:=q2
    rw [←q1'] at q2'
    exact ⟨by rw [List.getElem?_eq_getElem hz,←q1'],q2'⟩
   ·exfalso
    have q':scope.names.lookup x=none:=q
    rw [relabel_lookup,q'] at h3'
    simp at h3'
  obtain ⟨h1',hnl,hnc⟩:=hd3
  have hfree:scope.names.lookup x=some .free:=by
   rcases h3' with z|z
   ·rw [relabel_lookup] at z
    cases q:scope.names.lookup x with
    |none=>rw [q] at z;simp at z
    |some k=>
     rw [q] at z
     by_cases hkf:k= .free
     ·rw [hkf]
     ·have hb:(k==NameKind.free)=false:=by simpa using hkf
      simp only [Option.map_some,hb,Bool.false_and,Bool.false_eq_true,if_false] at z
      rw [q] at hnl;exact absurd z hnl
   ·rcases kinds x z with z|z
    ·exact absurd z hnc
    ·exact z
  have hm:=PySem.mem_of_lookup hfree
  have hkx:=c.free _ hm rfl
  obtain ⟨mX,hnX,hl⟩:=I.loc
  obtain ⟨u,r,l⟩:=hl _ x v h1' h2' (hkx.elim (fun z=> .inr (.inl z)) fun z=> .inr (.inr z))
  refine ⟨u,r,?_⟩
  rcases l with ⟨z,_⟩|⟨_,a,e,z⟩
  ·have z':X.env.kindOf x=some .local:=z
   rcases hkx with q|q<;> · rw [z'] at q;cases q
  ·obtain ⟨a',e'⟩:=clOf_has (env:=X.env) scope.names [] x (.inr ⟨hm,c.cells I.ok _ hm rfl⟩)
   have ea:a'=a:=by
    have:=compCl_sub (X:=X) e'
    rw [e] at this
    exact (Option.some.inj this).symm
   subst ea
   refine .inr ⟨?_,a',(ccOf_old c _ hfree (by decide)).trans e',?_⟩
   ·show (relabel scope X.env).names.lookup x=some .cell∨(relabel scope X.env).names.lookup x=some .free
    rw [relabel_lookup,hfree]
    simp only [Option.map_some]
    split
    ·exact .inl rfl
    ·exact .inr rfl
   ·obtain ⟨o,ho,hd⟩:=z
    exact ⟨o,hk _ _ ho,hd⟩
 ·have q:=cf_cell scope.names (s.heap.push {cls:= .type "dict",data:= .dict #[]}) (clOf scope X.env) fun x a e=>by
   obtain ⟨v,z⟩:=I.cell x a (compCl_sub e)
   exact ⟨v,z.keeps fun b o e=>Heap.get?_push_of_some _ e⟩
  rw [Heap.size_push] at q
  exact q
 ·rcases ccOf_or _ e with e|⟨e,_⟩
  ·exact I.freeC x a e
  ·exact I.hok.fresh (Nat.le_of_lt e)
 ·have hp':p∈X.pn++pins:=by
   have z:p∈(X.pn++pins)++ []:=hp
   rwa [List.append_nil] at z
  obtain ⟨e,n,ne,nf,d⟩:=I.pin p hp'
  refine ⟨hk _ _ e,n,Nat.ne_of_lt (Heap.lt_size e),fun z=> ?_,d⟩
  rcases List.mem_cons.mp (I.stkSub p.1 z) with q|q
  ·exact ne q
  ·exact nf q
 ·show _=(Nc++Nx).length
  rw [List.length_append,List.length_append,List.length_replicate,I.len,c.same]
theorem inv_back {pins:List (Addr×Obj)} {σ σ':L2.St} {H H':Hp} {s s':Shared} {fp:List Addr} {h'':Heap} (I:Inv X pins σ H s) (hf:∀ b∈fp,FpOk X pins H b)
  (J:Inv (compCx X scope Nc Nx s.heap.objs.size fp pins s H) [] σ' H' s') (hs:Heap.SameBut s.heap.objs.size s'.heap h''):Inv X pins σ H' {s' with heap:=h''}:=by
 have u:Un (frs X.stack) fp H H' s.heap s'.heap:=J.base
 have hC:H' s.heap.objs.size=none:=J.free
 have keep:∀ b o,b≠s.heap.objs.size→s'.heap.get? b=some o→h''.get? b=some o:=fun b o hb e=>by rw [hs.2 b hb];exact e
 have lt:∀ b o,s.heap.get? b=some o→b≠s.heap.objs.size:=fun b o e=>Nat.ne_of_lt (Heap.lt_size e)
 refine I.call' (s':= {s' with heap:=h''}) (ch:=fp) J.os ⟨fun b o e n h1 h2=>keep b o (lt b o e) (u.keep b o e n h1 h2),fun b o e n h1 h2=> ?_,u.free,fun b o e h1=> ?_,u.tups,u.frzs,u.tbls⟩ (fun b o e=> ?_) J.bare fun b hb=> ?_
 ·obtain ⟨sl,q⟩:=u.slot b o e n h1 h2
  exact ⟨sl,keep b _ (lt b o e) q⟩
 ·obtain ⟨o',q⟩:=u.there b o e h1
  exact ⟨o',keep b _ (lt b o e) q⟩
 ·refine (J.hok b o e).stay (fun c v hc q=>keep c v (fun z=> ?_) q) (fun _ q=>q) fun _ _ q=>q
  subst z
  rcases hc with z|z
  ·rw [←z,hC] at e;cases e
  ·rw [hC] at z;cases z
 ·exact ⟨(hf b hb).2.2.2.1,(hf b hb).2.1,(hf b hb).2.2.2.2.1,(hf b hb).2.2.2.2.2⟩
end
end L3
namespace L3
open PySem PySem.Spec PyProof.Rows L2
theorem compLoop_go {prog:Program} {w:World} {A:Around} {R:Result→Shared→Prop} {s:Shared} {elt target iter:Expr} {ifs:List Expr} {scope:Scope} {pos:Pos} {it acc:Value} {env:Env} (I:Nat→Shared→Prop)
  (turn:∀ n s,I n s→wpAny (model prog w) A (pyNext it) (fun r s₁=>match r with
   |none=>R (.ok .next) s₁
   |some v=>wpAny (model prog w) A (letOwnedTupleGo target it v) (fun _ s₁'=>wpAny (model prog w) A (assign target env v) (fun _ s₂=>
     wpAny (model prog w) A (forIn ifs true fun c r=>if r=true then do let ok ←isTrue c env (eval c env);pure (ForInStep.yield ok) else pure (ForInStep.yield r)) (fun ok s₃=>
      if ok=true then wpAny (model prog w) A (eval elt env) (fun x s₄=>
       wpAny (model prog w) A (call (.builtin "list.append") [acc,x]) (fun _ s₅=>∃ m,m<n∧I m s₅) (fun _ _=>False) s₄) (fun _ _=>False) s₃
      else ∃ m,m<n∧I m s₃) (fun _ _=>False) s₂) (fun _ _=>False) s₁') (fun _ _=>False) s₁) (fun _ _=>False) s)
  (n:Nat) (h:I n s):
  codeAny (model prog w) A (.compLoop (.ListComp elt [⟨target,iter,ifs,0⟩] scope pos) 0 it acc env) R s:=by
 refine codeAny_loop rfl I (fun n s hI=> ?_) n h
 show wpAny _ A ((compTurn (.ListComp elt [⟨target,iter,ifs,0⟩] scope pos) 0 it acc env).onRaise (fun x=>do noteFrame x env;theTreesLotGoes x)) _ _ s
 refine wpAny_noted ?_
 rw [compTurn_list]
 refine wpAny_bind (wpAny_standAt (wpAny_bind (wpAny_mono (turn n s hI) (fun r s₁ h₁=> ?_) fun _ _ h'=>h'.elim)))
 cases r with
 |none=>exact wpAny_pure h₁
 |some v=>
  refine wpAny_bind (wpAny_mono h₁ (fun _ s₁' h₁'=>wpAny_bind (wpAny_mono h₁' (fun _ s₂ h₂=>wpAny_bind (wpAny_mono h₂ (fun ok s₃ h₃=> ?_) fun _ _ h'=>h'.elim)) fun _ _ h'=>h'.elim)) fun _ _ h'=>h'.elim)
  cases ok with
  |false=>exact wpAny_pure ⟨rfl,h₃⟩
  |true=>
   exact wpAny_bind (wpAny_bind (wpAny_mono h₃ (fun x s₄ h₄=>wpAny_bind (wpAny_mono h₄ (fun _ s₅ h₅=>wpAny_pure (wpAny_pure ⟨rfl,h₅⟩)) fun _ _ h'=>h'.elim)) fun _ _ h'=>h'.elim))
def PTs (X:Cx) (ifs:List Expr) (t:TT):Prop:=
 ∀ (pins:List (Addr×Obj)) (s:Shared) (σ:L2.St) (H:Hp) (Q:Bool→Hp→Prop),Inv X pins σ H s→t σ H Q→
  wpAny (model X.prog X.w) X.A (forIn ifs true fun c r=>if r=true then do let ok ←isTrue c X.env (eval c X.env);pure (ForInStep.yield ok) else pure (ForInStep.yield r)) (TP X pins σ Q) X.xe s
def tYes:TT:=fun _ H Q=>Q true H
theorem pts_nil {X:Cx}:PTs X [] tYes:=fun _ s σ H Q I h=>wpAny_tests_nil ⟨H,I,h⟩
theorem pts_one {X:Cx} {c:Expr} {t:TT} (h:PT X c t):PTs X [c] t:=fun pins s σ H Q I q=>wpAny_tests_one (h pins s σ H Q I q)
def tComp (n:Nat) (wi:TI) (g:TG) (tt:TT) (te:TE):TE:=fun σ H Q=>wi σ H fun J H1=>∀ a,H1 a=none→∃ W:Nat→Nat→List V→L2.St→Hp→Prop,(∃ m,W 0 m [] (List.replicate n none++σ) (upd H1 a (.lst [])))∧
 ∀ i m xs σ' H,W i m xs σ' H→H a=some (.lst xs)∧((J.stop i H∧Q (.ref a) H)∨(J.go i H∧∀ x H',J.yld i H x H'→g x σ' H' fun σ2 H2=>tt σ2 H2 fun b H3=>
  if b=true then te σ2 H3 fun y H4=>H4 a=some (.lst xs)∧xs.length<sizeLine∧∃ m',m'<m∧W (i+1) m' (xs++ [y]) σ2 (upd H4 a (.lst (xs++ [y]))) else ∃ m',m'<m∧W (i+1) m' xs σ2 H3))
section
variable {X:Cx} {scope:Scope} {Nc Nx:List Str} {elt tg iter:Expr} {ifs:List Expr} {pos:Pos} {wi:TI} {g:TG} {tt:TT} {te:TE}
theorem comp_block (c:CompOk X scope Nc Nx) (hcalm:X.calm=true)
  (hY:∀ (C:Addr) (fp:List Addr) (pins:List (Addr×Obj)) (s:Shared) (H:Hp),PG (compCx X scope Nc Nx C fp pins s H) tg g∧PTs (compCx X scope Nc Nx C fp pins s H) ifs tt∧PE (compCx X scope Nc Nx C fp pins s H) elt te)
  {pins:List (Addr×Obj)} {σ:L2.St} {s2:Shared} {it:Addr} {fp:List Addr} {tn:Nat→Heap→Prop} {J:It} {H1:Hp} {Q:V→Hp→Prop} {RR:Value→Addr→Result→Shared→Prop} {E:Value→Shared→Prop}
  (I:Inv X pins σ H1 s2) (T:Turn X.prog X.w X.K tg J fp it tn) (st:tn 0 s2.heap) (hf:∀ b∈fp,FpOk X pins H1 b)
  (h:∀ a,H1 a=none→∃ W:Nat→Nat→List V→L2.St→Hp→Prop,(∃ m,W 0 m [] (List.replicate Nc.length none++σ) (upd H1 a (.lst [])))∧
 ∀ i m xs σ' H,W i m xs σ' H→H a=some (.lst xs)∧((J.stop i H∧Q (.ref a) H)∨(J.go i H∧∀ x H',J.yld i H x H'→g x σ' H' fun σ2 H2=>tt σ2 H2 fun b H3=>
  if b=true then te σ2 H3 fun y H4=>H4 a=some (.lst xs)∧xs.length<sizeLine∧∃ m',m'<m∧W (i+1) m' (xs++ [y]) σ2 (upd H4 a (.lst (xs++ [y]))) else ∃ m',m'<m∧W (i+1) m' xs σ2 H3)))
  (hRR:∀ a H' σ' s' s3,Inv X pins σ (upd H1 a (.lst [])) s3→(∀ b∈fp,FpOk X pins (upd H1 a (.lst [])) b)→Inv (compCx X scope Nc Nx s3.heap.objs.size fp pins s3 (upd H1 a (.lst []))) [] σ' H' s'→Q (.ref a) H'→RR (.ref a) s3.heap.objs.size (.ok .next) s'):
  wpAny (model X.prog X.w) X.A (newList []) (fun acc s₃=>wpAny (model X.prog X.w) X.A (newFunctionEnv scope X.env.globals (clOf scope X.env) [] X.env.qual none .none (some X.env)) (fun cenv s₄=>
   codeAny (model X.prog X.w) X.A (.compStart (.ListComp elt [⟨tg,iter,ifs,0⟩] scope pos) 0 (.ref it) acc {cenv with scope:=relabel scope X.env}) (RR acc cenv.locals) s₄) E s₃) E s2:=by
 have hfree:H1 s2.heap.objs.size=none:=I.hok.fresh (Nat.le_refl _)
 refine wpAny_newObj_type (wpAny_newCompEnv ?_)
 dsimp only
 generalize ea:s2.heap.objs.size=a at hfree
 have I3:Inv X pins σ (upd H1 a (.lst [])) {s2 with heap:=s2.heap.push {cls:= .type "list",dict:=none,data:= .seq ([]:List Value).toArray},toks:=s2.toks}:=by
  subst ea
  exact I.laid (t':=s2.toks) (fun b u e=>Heap.get?_push_of_some _ e) (Nat.le_refl _) ⟨Nat.zero_le _,[],_, .nil,Heap.get?_push_size _ rfl⟩
 generalize eS:({s2 with heap:=s2.heap.push {cls:= .type "list",dict:=none,data:= .seq ([]:List Value).toArray},toks:=s2.toks}:Shared)=s3 at I3
 have e3h:s3.heap=s2.heap.push {cls:= .type "list",dict:=none,data:= .seq ([]:List Value).toArray}:=by rw [←eS]
 have obj0:=T.obj 0 _ st
 have hf3:∀ b∈fp,FpOk X pins (upd H1 a (.lst [])) b:=fun b hb=>by
  obtain ⟨o,e,_⟩:=obj0 b hb
  have:b≠a:=by rw [←ea];exact Nat.ne_of_lt (Heap.lt_size e)
  exact ⟨by rw [upd_ne this];exact (hf b hb).1,(hf b hb).2⟩
 have up:∀ b o,s2.heap.get? b=some o→s3.heap.get? b=some o:=fun b o e=>by rw [e3h];exact Heap.get?_push_of_some _ e
 have hf3':∀ b∈fp,FpOk X pins (upd H1 a (.lst [])) b∧b<s3.heap.objs.size:=fun b hb=>⟨hf3 b hb,by
  obtain ⟨o,e,_⟩:=obj0 b hb
  exact Heap.lt_size (up b o e)⟩
 have eC:(s2.heap.push {cls:= .type "list",dict:=none,data:= .seq ([]:List Value).toArray}).objs.size=s3.heap.objs.size:=by rw [e3h]
 generalize eh:pushCells ((s2.heap.push {cls:= .type "list",dict:=none,data:= .seq ([]:List Value).toArray}).push {cls:= .type "dict",data:= .dict #[]}) scope.names=h₁
 have hk4:∀ b o,s3.heap.get? b=some o→h₁.get? b=some o:=fun b o e=>by
  rw [←eh,←e3h]
  exact pushCells_keeps _ _ _ _ (Heap.get?_push_of_some _ e)
 have I4:=inv_comp (tk:=s2.toks) c I3 hf3'
 have e4:({s3 with heap:=pushCells (s3.heap.push {cls:= .type "dict",data:= .dict #[]}) scope.names,toks:=s2.toks}:Shared)= {s2 with heap:=h₁}:=by rw [←eh,←eS]
 rw [e4] at I4
 obtain ⟨W,⟨m0,w0⟩,turn⟩:=h a hfree
 obtain ⟨hg,htt,hte⟩:=hY s3.heap.objs.size fp pins s3 (upd H1 a (.lst []))
 have loop:codeAny (model X.prog X.w) X.A (.compLoop (.ListComp elt [⟨tg,iter,ifs,0⟩] scope pos) 0 (.ref it) (.ref a) (compEnvC scope (ccOf scope X.env s3.heap.objs.size) s3.heap.objs.size X.env)) (RR (.ref a) s3.heap.objs.size) {s2 with heap:=h₁}:=by
  refine compLoop_go (fun n s'=>∃ i xs σ' H',Inv (compCx X scope Nc Nx s3.heap.objs.size fp pins s3 (upd H1 a (.lst []))) [] σ' H' s'∧tn i s'.heap∧(∀ b∈fp,H' b=none)∧W i n xs σ' H') ?_ m0
   ⟨0,[],_,_,I4,T.keep _ _ _ st fun b _ o e=>hk4 b o (up b o e),fun b hb=>(hf3 b hb).1,w0⟩
  rintro n s5 ⟨i,xs,σ5,H5,I5,st5,fr5,w5⟩
  have stat:∀ {H':Hp},(∀ b∈fp,H' b=none)→∀ b∈fp,FpOk (compCx X scope Nc Nx s3.heap.objs.size fp pins s3 (upd H1 a (.lst []))) [] H' b:=fun {H'} hn b hb=>by
   obtain ⟨_,f1,f2,f3,f4,f5⟩:=hf3 b hb
   refine ⟨hn b hb,Nat.ne_of_lt (hf3' b hb).2,fun z=> ?_, .inl hb,fun x cc e=>(ccOf_or _ e).elim (fun e=>f4 x cc e) fun e=>Nat.ne_of_gt (Nat.lt_trans (hf3' b hb).2 e.1),fun p hp=>f5 p ?_⟩
   ·rcases List.mem_cons.mp (I3.stkSub b z) with q|q
    ·exact f1 q
    ·exact f2 q
   ·have z:p∈(X.pn++pins)++ []:=hp
    rwa [List.append_nil] at z
  obtain ⟨hxs,alt⟩:=turn i n xs σ5 H5 w5
  rcases alt with ⟨stop,qn⟩|⟨go,step⟩
  ·refine wpAny_mono (T.done (compCx X scope Nc Nx s3.heap.objs.size fp pins s3 (upd H1 a (.lst []))) rfl rfl rfl hcalm i [] s5 σ5 H5 (fun _ _=>False) I5 (stat fr5) st5 stop) (fun r s6 ⟨hr,I6⟩=> ?_) fun _ _ z=>z
   subst hr
   exact hRR a H5 σ5 s6 s3 I3 hf3 I6 qn
  ·refine wpAny_mono (T.item (compCx X scope Nc Nx s3.heap.objs.size fp pins s3 (upd H1 a (.lst []))) rfl rfl rfl hcalm i [] s5 σ5 H5 (fun _ _=>False) I5 (stat fr5) st5 go) (fun r s6 ⟨u,hr,h6⟩=> ?_) fun _ _ z=>z
   subst hr
   refine wpAny_mono h6 (fun _ s7 ⟨x,H7,I7,r7,y7,st7,fr7⟩=> ?_) fun _ _ z=>z
   have I7':=I7.pinned (stat fr7) (T.obj _ _ st7)
   have fin:∀ {σ9:L2.St} {H9:Hp} {s9:Shared},Inv (compCx X scope Nc Nx s3.heap.objs.size fp pins s3 (upd H1 a (.lst []))) ([]++pinsAt fp s7.heap) σ9 H9 s9→Inv (compCx X scope Nc Nx s3.heap.objs.size fp pins s3 (upd H1 a (.lst []))) [] σ9 H9 s9∧tn (i+1) s9.heap∧(∀ b∈fp,H9 b=none):=fun {σ9 H9 s9} I9=>by
    refine ⟨I9.unpinned,T.keep _ _ _ st7 fun b hb o e=>(I9.pin (b,o) (List.mem_append_right _ (List.mem_append_right _ (mem_pinsAt hb e)))).1,fun b hb=> ?_⟩
    obtain ⟨o,e,d⟩:=T.obj _ _ st7 b hb
    exact (I9.pin (b,o) (List.mem_append_right _ (List.mem_append_right _ (mem_pinsAt hb e)))).2.1
   refine wpAny_mono (hg _ s7 σ5 H7 x u _ I7' r7 (step x H7 y7)) (fun _ s8 ⟨σ8,H8,I8,q8⟩=> ?_) fun _ _ z=>z
   refine wpAny_mono (htt _ s8 σ8 H8 _ I8 q8) (fun b s9 ⟨H9,I9,q9⟩=> ?_) fun _ _ z=>z
   cases b with
   |false=>
    obtain ⟨m',hm,w9⟩:=q9
    obtain ⟨J1,J2,J3⟩:=fin I9
    exact ⟨m',hm,i+1,xs,σ8,H9,J1,J2,J3,w9⟩
   |true=>
    refine wpAny_mono (hte _ s9 σ8 H9 _ I9 q9) (fun y s10 ⟨v,H10,I10,r10,q10⟩=> ?_) fun _ _ z=>z
    obtain ⟨e10,hl10,m',hm,w10⟩:=q10
    refine wpAny_mono (mt_append (X:=compCx X scope Nc Nx s3.heap.objs.size fp pins s3 (upd H1 a (.lst []))) _ s10 σ8 H10 (.ref a) [v] (.ref a) [y] (fun _ H'=>H'=upd H10 a (.lst (xs++ [v]))) I10 rfl (.cons r10 .nil) ⟨a,xs,v,rfl,rfl,e10,hl10,rfl⟩) (fun _ s11 ⟨_,H11,I11,_,q11⟩=> ?_) fun _ _ z=>z
    subst q11
    obtain ⟨J1,J2,J3⟩:=fin I11
    exact ⟨m',hm,i+1,xs++ [v],σ8,_,J1,J2,J3,w10⟩
 have st4:tn 0 h₁:=T.keep _ _ _ st fun b _ o e=>hk4 b o (up b o e)
 rw [e3h] at loop
 subst ea
 exact codeAny_compStart_list loop (T.self _ 0 _ _ _ st4 loop)
theorem pe_comp (c:CompOk X scope Nc Nx) (hcalm:X.calm=true) (hi:PI X tg iter wi)
  (hY:∀ (C:Addr) (fp:List Addr) (pins:List (Addr×Obj)) (s:Shared) (H:Hp),PG (compCx X scope Nc Nx C fp pins s H) tg g∧PTs (compCx X scope Nc Nx C fp pins s H) ifs tt∧PE (compCx X scope Nc Nx C fp pins s H) elt te)
  (hs:∀ x,foldedSetIterable iter X.env x=pure x:=by intro _;rfl):
  PE X (.ListComp elt [⟨tg,iter,ifs,0⟩] scope pos) (tComp Nc.length wi g tt te):=by
 intro pins s σ H Q I h
 rw [eval_ListComp]
 refine wpAny_comprehension_free (use:=none) rfl hs (clOf_eq (c.cells I.ok)) c.kind c.loc (thn (hi pins s σ H _ I h) fun v s1 h1=>thn h1 fun itv s2 h2=> ?_)
 obtain ⟨it,fp,tn,J,H2,rfl,I2,T,st2,f2,q⟩:=h2
 refine comp_block (Q:=Q) (RR:=fun acc C=>compPost (model X.prog X.w) X.A X.xe none (EP X pins σ Q) acc C) c hcalm hY I2 T st2 f2 q ?_
 intro a H' σ' s' s3 I3 hf3 IY qa
 obtain ⟨m,hn,_⟩:=IY.loc
 exact ⟨m,hn,fun h' hs'=>⟨.ref a,H',inv_back I3 hf3 IY hs',rfl,qa⟩⟩
end
end L3
namespace L3
open PySem PySem.Spec PyProof.Rows L2 SeqAt
mutual
def eqD:D→D→Bool
 | .non, .non=>true
 | .bl a, .bl b=>a==b
 | .int a, .int b=>a==b
 | .str a, .str b=>a==b
 | .bl a, .int b=>(if a then 1 else 0)==b
 | .int a, .bl b=>a==(if b then 1 else 0)
 | .tup a, .tup b=>eqL a b
 | .lst a, .lst b=>eqL a b
 |_,_=>false
def eqL:List D→List D→Bool
 | [],[]=>true
 |a::as,b::bs=>eqD a b&&eqL as bs
 |_,_=>false
end
def shal:Nat→D→Bool
 |_, .non=>true
 |_, .bl _=>true
 |_, .int _=>true
 |_, .str _=>true
 |n+1, .tup ds=>ds.all (shal n)
 |n+1, .lst ds=>ds.all (shal n)
 |_,_=>false
theorem eqL_range:∀ (as bs:List D),as.length=bs.length→eqL as bs=(List.range as.length).all fun j=>eqD (as.getD j .non) (bs.getD j .non)
 | [],[],_=>by simp [eqL]
 |a::as,b::bs,h=>by
  rw [eqL,List.length_cons,List.range_succ_eq_map,List.all_cons,List.all_map,eqL_range as bs (by simpa using h)]
  rfl
 | [],_::_,h=>by simp at h
 |_::_,[],h=>by simp at h
theorem eqL_len:∀ (as bs:List D),as.length≠bs.length→eqL as bs=false
 | [],[],h=>absurd rfl h
 |a::as,b::bs,h=>by rw [eqL,eqL_len as bs (by simpa using h),Bool.and_false]
 | [],_::_,h=>by simp [eqL]
 |_::_,[],h=>by simp [eqL]
section
variable {X:Cx} {pins:List (Addr×Obj)} {σ:L2.St} {W:WS} {H:Hp} {s:Shared}
theorem Has.notup {W:WS} {H:Hp} {K:PySem.W.Frag} (I:Inv X pins σ H s) {a:Addr} {xs ys:List V} (h1:SqL X.K H a xs) (h2:SqT X.K H a ys):False:=by
 obtain ⟨its,_,⟨o,n,e,c,_⟩,_⟩:=I.list h1
 obtain ⟨its',_,⟨o',e',c',_⟩,_⟩:=I.tuple h2
 rw [e] at e';cases e'
 rw [c] at c'
 exact absurd c' (by simp)
theorem HasT.ref {K:PySem.W.Frag} {d:D} {x:V} {n:Nat} (h:HasT K W H d x) (hs:shal n d=true):
  (d= .non∧x= .non)∨(∃ b,d= .bl b∧x= .bl b)∨(∃ b,d= .int b∧x= .int b)∨(∃ b,d= .str b∧x= .str b)∨
  (∃ ds a xs m,n=m+1∧d= .tup ds∧x= .ref a∧SqT K H a xs∧HasL K W H ds xs∧∀ y∈ds,shal m y=true)∨
  (∃ ds a xs m,n=m+1∧d= .lst ds∧x= .ref a∧SqL K H a xs∧HasL K W H ds xs∧∀ y∈ds,shal m y=true):=by
 cases d with
 |non=>exact .inl ⟨rfl,h.non⟩
 |bl b=>exact .inr (.inl ⟨b,rfl,h.bl⟩)
 |int b=>exact .inr (.inr (.inl ⟨b,rfl,h.int⟩))
 |str b=>exact .inr (.inr (.inr (.inl ⟨b,rfl,h.str⟩)))
 |tup ds=>
  obtain ⟨a,xs,e,q,r⟩:=h.tup
  cases n with
  |zero=>simp [shal] at hs
  |succ m=>
   rw [shal,List.all_eq_true] at hs
   exact .inr (.inr (.inr (.inr (.inl ⟨ds,a,xs,m,rfl,rfl,e,q,r,hs⟩))))
 |lst ds=>
  obtain ⟨a,xs,e,q,r⟩:=h.lst
  cases n with
  |zero=>simp [shal] at hs
  |succ m=>
   rw [shal,List.all_eq_true] at hs
   exact .inr (.inr (.inr (.inr (.inr ⟨ds,a,xs,m,rfl,rfl,e,q,r,hs⟩))))
 |dct k ds=>cases n<;>simp [shal] at hs
 |exc k ds=>cases n<;>simp [shal] at hs
 |obj c k ds=>cases n<;>simp [shal] at hs
theorem eqD_same (I:Inv X pins σ H s):∀ (n:Nat) {d e:D} {x:V},HasT X.K W H d x→HasT X.K W H e x→shal n d=true→shal n e=true→eqD d e=true:=by
 intro n
 induction n with
 |zero=>
  intro d e x h1 h2 s1 s2
  rcases h1.ref s1 with ⟨rfl,rfl⟩|⟨b,rfl,rfl⟩|⟨b,rfl,rfl⟩|⟨b,rfl,rfl⟩|⟨_,_,_,m,z,_⟩|⟨_,_,_,m,z,_⟩<;>
  rcases h2.ref s2 with ⟨rfl,e2⟩|⟨c,rfl,e2⟩|⟨c,rfl,e2⟩|⟨c,rfl,e2⟩|⟨_,_,_,m',z',_⟩|⟨_,_,_,m',z',_⟩<;>first|(cases z;done)|(cases z';done)|(cases e2;done)|(cases e2;simp [eqD])
 |succ n ih=>
  have lists:∀ {ds es:List D} {xs:List V},HasL X.K W H ds xs→HasL X.K W H es xs→(∀ y∈ds,shal n y=true)→(∀ y∈es,shal n y=true)→eqL ds es=true:=by
   intro ds
   induction ds with
   |nil=>
    intro es xs h1 h2 _ _
    have e1:=h1.length
    have e2:=h2.length
    cases es with
    |nil=>simp [eqL]
    |cons=>simp at e1 e2;omega
   |cons d ds ih2=>
    intro es xs h1 h2 g1 g2
    rw [HasL] at h1
    obtain ⟨x,r,rfl,q,t⟩:=h1
    cases es with
    |nil=>rw [HasL] at h2;cases h2
    |cons e es=>
     rw [HasL] at h2
     obtain ⟨x',r',ee,q',t'⟩:=h2
     cases ee
     rw [eqL,ih (.inl q) (.inl q') (g1 d List.mem_cons_self) (g2 e List.mem_cons_self),ih2 t t' (fun y hy=>g1 y (List.mem_cons_of_mem _ hy)) fun y hy=>g2 y (List.mem_cons_of_mem _ hy)]
     rfl
  intro d e x h1 h2 s1 s2
  rcases h1.ref s1 with ⟨rfl,rfl⟩|⟨b,rfl,rfl⟩|⟨b,rfl,rfl⟩|⟨b,rfl,rfl⟩|⟨ds,a,xs,m,z,rfl,rfl,q,r,g⟩|⟨ds,a,xs,m,z,rfl,rfl,q,r,g⟩<;>
  rcases h2.ref s2 with ⟨rfl,e2⟩|⟨c,rfl,e2⟩|⟨c,rfl,e2⟩|⟨c,rfl,e2⟩|⟨es,a',ys,m',z',rfl,e2,q',r',g'⟩|⟨es,a',ys,m',z',rfl,e2,q',r',g'⟩<;>first|(cases e2;done)|(cases e2;simp [eqD];done)|skip
  ·cases e2
   cases z;cases z'
   have:=I.tuple_inj q q'
   subst this
   rw [eqD];exact lists r r' g g'
  ·cases e2
   exact (Has.notup (K:=X.K) (W:=W) (H:=H) I q' q).elim
  ·cases e2
   exact (Has.notup (K:=X.K) (W:=W) (H:=H) I q q').elim
  ·cases e2
   cases z;cases z'
   have:=I.list_inj q q'
   subst this
   rw [eqD];exact lists r r' g g'
theorem getD_of {ds:List D} {j:Nat} (h:j<ds.length):ds[j]? =some (ds.getD j .non):=by
 rw [List.getD_eq_getElem?_getD,List.getElem?_eq_getElem h];rfl
theorem vals_at {xs:List V} {its:List Value} (r:Vals xs its) {j:Nat} {x:V} (e:xs[j]? =some x) (h:j<its.toArray.size):RelV x its.toArray[j]:=by
 obtain ⟨u,h1,h2⟩:=r.get e
 have:its.toArray[j]? =some u:=by simpa using h1
 rw [Array.getElem?_eq_getElem h] at this
 cases this
 exact h2
theorem items_eqAt {A:Around} (n:Nat) (ih:∀ {d e:D} {x y:V} {v u:Value},HasT X.K W H d x→HasT X.K W H e y→RelV x v→RelV y u→shal n d=true→shal n e=true→EqAt A s v u (eqD d e))
  {ds es:List D} {xs ys:List V} {its its':List Value} (r:HasL X.K W H ds xs) (r':HasL X.K W H es ys) (v:Vals xs its) (v':Vals ys its') (g:∀ y∈ds,shal n y=true) (g':∀ y∈es,shal n y=true):
  ∀ j (h1:j<its.toArray.size) (h2:j<its'.toArray.size),EqAt A s its.toArray[j] its'.toArray[j] (eqD (ds.getD j .non) (es.getD j .non)):=by
 intro j h1 h2
 have l1:j<ds.length:=by rw [r.length,v.length];simpa using h1
 have l2:j<es.length:=by rw [r'.length,v'.length];simpa using h2
 obtain ⟨x,e1,q1⟩:=r.get (getD_of l1)
 obtain ⟨y,e2,q2⟩:=r'.get (getD_of l2)
 exact ih (.inl q1) (.inl q2) (vals_at v e1 h1) (vals_at v' e2 h2) (g _ (List.mem_of_getElem? (getD_of l1))) (g' _ (List.mem_of_getElem? (getD_of l2)))
theorem HasT.view (I:Inv X pins σ H s) {d:D} {x:V} {v:Value} {n:Nat} (h:HasT X.K W H d x) (rx:RelV x v) (hs:shal n d=true):
  (d= .non∧v= .none)∨(∃ b,d= .bl b∧v= .bool b)∨(∃ b t,d= .int b∧v= .int b t)∨(∃ b t,d= .str b∧v= .str b t)∨
  (∃ ds a xs its m,n=m+1∧d= .tup ds∧x= .ref a∧v= .ref a∧HasL X.K W H ds xs∧Vals xs its∧s.heap.IsTuple a its.toArray∧∀ y∈ds,shal m y=true)∨
  (∃ ds a xs its m,n=m+1∧d= .lst ds∧x= .ref a∧v= .ref a∧HasL X.K W H ds xs∧Vals xs its∧s.heap.IsList a its.toArray∧∀ y∈ds,shal m y=true):=by
 rcases h.ref hs with ⟨rfl,rfl⟩|⟨b,rfl,rfl⟩|⟨b,rfl,rfl⟩|⟨b,rfl,rfl⟩|⟨ds,a,xs,m,z,rfl,rfl,q,r,g⟩|⟨ds,a,xs,m,z,rfl,rfl,q,r,g⟩
 ·exact .inl ⟨rfl,rx⟩
 ·exact .inr (.inl ⟨b,rfl,rx⟩)
 ·obtain ⟨t,e⟩:=rx
  exact .inr (.inr (.inl ⟨b,t,rfl,e⟩))
 ·obtain ⟨t,e⟩:=rx
  exact .inr (.inr (.inr (.inl ⟨b,t,rfl,e⟩)))
 ·obtain ⟨its,rv,p,_⟩:=I.tuple q
  exact .inr (.inr (.inr (.inr (.inl ⟨ds,a,xs,its,m,z,rfl,rfl,rx,r,rv,p,g⟩))))
 ·obtain ⟨its,rv,p,_⟩:=I.list q
  exact .inr (.inr (.inr (.inr (.inr ⟨ds,a,xs,its,m,z,rfl,rfl,rx,r,rv,p.isList,g⟩))))
theorem eqAt_D (I:Inv X pins σ H s):∀ (n:Nat) (A:Around) {d e:D} {x y:V} {v u:Value},A.units+n<cLine→HasT X.K W H d x→HasT X.K W H e y→RelV x v→RelV y u→shal n d=true→shal n e=true→
  EqAt A s v u (eqD d e)∧RcAt A s v u (eqD d e)∧RcNeAt A s v u (!eqD d e):=by
 intro n
 induction n with
 |zero=>
  intro A d e x y v u hu h1 h2 rx ry s1 s2
  rcases h1.view I rx s1 with ⟨rfl,rfl⟩|⟨b,rfl,rfl⟩|⟨b,t,rfl,rfl⟩|⟨b,t,rfl,rfl⟩|⟨_,_,_,_,m,z,_⟩|⟨_,_,_,_,m,z,_⟩<;>
  rcases h2.view I ry s2 with ⟨rfl,rfl⟩|⟨c,rfl,rfl⟩|⟨c,t',rfl,rfl⟩|⟨c,t',rfl,rfl⟩|⟨_,_,_,_,m',z',_⟩|⟨_,_,_,_,m',z',_⟩<;>first|(cases z;done)|(cases z';done)|skip
  ·exact ⟨EqAt.same _,RcAt.none_none,RcNeAt.none_none⟩
  ·exact ⟨EqAt.none_bool _,RcAt.none_bool _,RcNeAt.none_bool _⟩
  ·exact ⟨EqAt.none_int _ _,RcAt.none_int _ _,RcNeAt.none_int _ _⟩
  ·exact ⟨EqAt.none_str _ _,RcAt.none_str _ _,RcNeAt.none_str _ _⟩
  ·exact ⟨EqAt.bool_none _,RcAt.bool_none _,RcNeAt.bool_none _⟩
  ·exact ⟨EqAt.bool_bool _ _,RcAt.bool_bool _ _,RcNeAt.bool_bool _ _⟩
  ·exact ⟨EqAt.bool_int _ _ _,RcAt.bool_int _ _ _,RcNeAt.bool_int _ _ _⟩
  ·exact ⟨EqAt.bool_str _ _ _,RcAt.bool_str _ _ _,RcNeAt.bool_str _ _ _⟩
  ·exact ⟨EqAt.int_none _ _,RcAt.int_none _ _,RcNeAt.int_none _ _⟩
  ·exact ⟨EqAt.int_bool _ _ _,RcAt.int_bool _ _ _,RcNeAt.int_bool _ _ _⟩
  ·exact ⟨EqAt.int_int _ _ _ _,RcAt.int_int _ _ _ _,RcNeAt.int_int _ _ _ _⟩
  ·exact ⟨EqAt.int_str _ _ _ _,RcAt.int_str _ _ _ _,RcNeAt.int_str _ _ _ _⟩
  ·exact ⟨EqAt.str_none _ _,RcAt.str_none _ _,RcNeAt.str_none _ _⟩
  ·exact ⟨EqAt.str_bool _ _ _,RcAt.str_bool _ _ _,RcNeAt.str_bool _ _ _⟩
  ·exact ⟨EqAt.str_int _ _ _ _,RcAt.str_int _ _ _ _,RcNeAt.str_int _ _ _ _⟩
  ·exact ⟨EqAt.str_str _ _ _ _,RcAt.str_str _ _ _ _,RcNeAt.str_str _ _ _ _⟩
 |succ n ih=>
  intro A d e x y v u hu h1 h2 rx ry s1 s2
  have hu0:A.units<cLine:=by omega
  have hu1:A.in1.units+n<cLine:=by show A.units+1+n<cLine;omega
  have same:=fun (ee:x=y)=>eqD_same I (n+1) h1 (ee▸h2) s1 s2
  rcases h1.view I rx s1 with ⟨rfl,rfl⟩|⟨b,rfl,rfl⟩|⟨b,t,rfl,rfl⟩|⟨b,t,rfl,rfl⟩|⟨ds,a,xs,its,m,z,rfl,rfl,rfl,r,rv,p,g⟩|⟨ds,a,xs,its,m,z,rfl,rfl,rfl,r,rv,p,g⟩<;>
  rcases h2.view I ry s2 with ⟨rfl,rfl⟩|⟨c,rfl,rfl⟩|⟨c,t',rfl,rfl⟩|⟨c,t',rfl,rfl⟩|⟨es,a',ys,its',m',z',rfl,rfl,rfl,r',rv',p2,g'⟩|⟨es,a',ys,its',m',z',rfl,rfl,rfl,r',rv',p2,g'⟩
  all_goals first|cases z|skip
  all_goals first|cases z'|skip
  ·exact ⟨EqAt.same _,RcAt.none_none,RcNeAt.none_none⟩
  ·exact ⟨EqAt.none_bool _,RcAt.none_bool _,RcNeAt.none_bool _⟩
  ·exact ⟨EqAt.none_int _ _,RcAt.none_int _ _,RcNeAt.none_int _ _⟩
  ·exact ⟨EqAt.none_str _ _,RcAt.none_str _ _,RcNeAt.none_str _ _⟩
  ·exact ⟨EqAt.none_tuple p2 hu0,RcAt.none_tuple p2 hu0,RcNeAt.none_tuple p2 hu0⟩
  ·exact ⟨EqAt.none_list p2 hu0,RcAt.none_list p2 hu0,RcNeAt.none_list p2 hu0⟩
  ·exact ⟨EqAt.bool_none _,RcAt.bool_none _,RcNeAt.bool_none _⟩
  ·exact ⟨EqAt.bool_bool _ _,RcAt.bool_bool _ _,RcNeAt.bool_bool _ _⟩
  ·exact ⟨EqAt.bool_int _ _ _,RcAt.bool_int _ _ _,RcNeAt.bool_int _ _ _⟩
  ·exact ⟨EqAt.bool_str _ _ _,RcAt.bool_str _ _ _,RcNeAt.bool_str _ _ _⟩
  ·exact ⟨EqAt.bool_tuple _ p2 hu0,RcAt.bool_tuple _ p2 hu0,RcNeAt.bool_tuple _ p2 hu0⟩
  ·exact ⟨EqAt.bool_list _ p2 hu0,RcAt.bool_list _ p2 hu0,RcNeAt.bool_list _ p2 hu0⟩
  ·exact ⟨EqAt.int_none _ _,RcAt.int_none _ _,RcNeAt.int_none _ _⟩
  ·exact ⟨EqAt.int_bool _ _ _,RcAt.int_bool _ _ _,RcNeAt.int_bool _ _ _⟩
  ·exact ⟨EqAt.int_int _ _ _ _,RcAt.int_int _ _ _ _,RcNeAt.int_int _ _ _ _⟩
  ·exact ⟨EqAt.int_str _ _ _ _,RcAt.int_str _ _ _ _,RcNeAt.int_str _ _ _ _⟩
  ·exact ⟨EqAt.int_tuple _ _ p2 hu0,RcAt.int_tuple _ _ p2 hu0,RcNeAt.int_tuple _ _ p2 hu0⟩
  ·exact ⟨EqAt.int_list _ _ p2 hu0,RcAt.int_list _ _ p2 hu0,RcNeAt.int_list _ _ p2 hu0⟩
  ·exact ⟨EqAt.str_none _ _,RcAt.str_none _ _,RcNeAt.str_none _ _⟩
  ·exact ⟨EqAt.str_bool _ _ _,RcAt.str_bool _ _ _,RcNeAt.str_bool _ _ _⟩
  ·exact ⟨EqAt.str_int _ _ _ _,RcAt.str_int _ _ _ _,RcNeAt.str_int _ _ _ _⟩
  ·exact ⟨EqAt.str_str _ _ _ _,RcAt.str_str _ _ _ _,RcNeAt.str_str _ _ _ _⟩
  ·exact ⟨EqAt.str_tuple _ _ p2 hu0,RcAt.str_tuple _ _ p2 hu0,RcNeAt.str_tuple _ _ p2 hu0⟩
  ·exact ⟨EqAt.str_list _ _ p2 hu0,RcAt.str_list _ _ p2 hu0,RcNeAt.str_list _ _ p2 hu0⟩
  ·exact ⟨EqAt.tuple_none p hu0,RcAt.tuple_none p hu0,RcNeAt.tuple_none p hu0⟩
  ·exact ⟨EqAt.tuple_bool _ p hu0,RcAt.tuple_bool _ p hu0,RcNeAt.tuple_bool _ p hu0⟩
  ·exact ⟨EqAt.tuple_int _ _ p hu0,RcAt.tuple_int _ _ p hu0,RcNeAt.tuple_int _ _ p hu0⟩
  ·exact ⟨EqAt.tuple_str _ _ p hu0,RcAt.tuple_str _ _ p hu0,RcNeAt.tuple_str _ _ p hu0⟩
  ·have he:=items_eqAt (A:=A.in1) n (fun h1 h2 rx ry s1 s2=>(ih A.in1 hu1 h1 h2 rx ry s1 s2).1) r r' rv rv' g g'
   have l1:its.toArray.size=ds.length:=by rw [List.size_toArray,←rv.length,r.length]
   have l2:its'.toArray.size=es.length:=by rw [List.size_toArray,←rv'.length,r'.length]
   have ee:((List.range (min its.toArray.size its'.toArray.size)).all (fun j=>eqD (ds.getD j .non) (es.getD j .non))&&its.toArray.size==its'.toArray.size)=eqD (.tup ds) (.tup es):=by
    rw [eqD,l1,l2]
    by_cases hl:ds.length=es.length
    ·rw [eqL_range ds es hl,←hl];simp
    ·rw [eqL_len ds es hl];simp [hl]
   have rc:=RcAt.tuples p p2 hu0 he
   rw [ee] at rc
   refine ⟨?_,rc,?_⟩
   ·by_cases ha:a=a'
    ·subst ha
     rw [same rfl]
     exact EqAt.same _
    ·exact EqAt.of_refs ha rc
   ·have rn:=RcNeAt.tuples p p2 hu0 he
    rw [ee] at rn
    exact rn
  ·exact ⟨EqAt.tuple_list p p2 hu0,RcAt.tuple_list p p2 hu0,RcNeAt.tuple_list p p2 hu0⟩
  ·exact ⟨EqAt.list_none p hu0,RcAt.list_none p hu0,RcNeAt.list_none p hu0⟩
  ·exact ⟨EqAt.list_bool _ p hu0,RcAt.list_bool _ p hu0,RcNeAt.list_bool _ p hu0⟩
  ·exact ⟨EqAt.list_int _ _ p hu0,RcAt.list_int _ _ p hu0,RcNeAt.list_int _ _ p hu0⟩
  ·exact ⟨EqAt.list_str _ _ p hu0,RcAt.list_str _ _ p hu0,RcNeAt.list_str _ _ p hu0⟩
  ·exact ⟨EqAt.list_tuple p p2 hu0,RcAt.list_tuple p p2 hu0,RcNeAt.list_tuple p p2 hu0⟩
  ·have he:=items_eqAt (A:=A.in1) n (fun h1 h2 rx ry s1 s2=>(ih A.in1 hu1 h1 h2 rx ry s1 s2).1) r r' rv rv' g g'
   have l1:its.toArray.size=ds.length:=by rw [List.size_toArray,←rv.length,r.length]
   have l2:its'.toArray.size=es.length:=by rw [List.size_toArray,←rv'.length,r'.length]
   have both:RcAt A s (.ref a) (.ref a') (eqD (.lst ds) (.lst es))∧RcNeAt A s (.ref a) (.ref a') (!eqD (.lst ds) (.lst es)):=by
    by_cases hl:ds.length=es.length
    ·have hsz:its.toArray.size=its'.toArray.size:=by rw [l1,l2,hl]
     have rc:=RcAt.lists p p2 hsz hu0 he
     have rn:=RcNeAt.lists p p2 hsz hu0 he
     rw [l1,←eqL_range ds es hl] at rc rn
     rw [eqD]
     exact ⟨rc,rn⟩
    ·have hsz:(its.toArray.size != its'.toArray.size)=true:=by rw [l1,l2];simpa using hl
     rw [eqD,eqL_len ds es hl]
     exact ⟨RcAt.lists_lengths p p2 hsz hu0,RcNeAt.lists_lengths p p2 hsz hu0⟩
   refine ⟨?_,both⟩
   by_cases ha:a=a'
   ·subst ha
    rw [same rfl]
    exact EqAt.same _
   ·exact EqAt.of_refs ha both.1
end
end L3
namespace L3
open PySem PySem.Spec PyProof.Rows L2 SeqAt
section
variable {K:PySem.W.Frag} {xw:XW} {W:WS} {H:Hp} {Q:VK}
theorem RE.int {i:Int} (h:RE K xw W H (.ok (.int i)) Q):Q (.int i) H:=h _ H (Same.refl H) (by rw [Has])
theorem RE.bl {i:Bool} (h:RE K xw W H (.ok (.bl i)) Q):Q (.bl i) H:=h _ H (Same.refl H) (by rw [Has])
theorem RE.str {i:Str} (h:RE K xw W H (.ok (.str i)) Q):Q (.str i) H:=h _ H (Same.refl H) (by rw [Has])
theorem RE.non (h:RE K xw W H (.ok .non) Q):Q .non H:=h _ H (Same.refl H) (by rw [Has])
theorem same_upd {a:Addr} {o:HO} (h:H a=none):Same H (upd H a o):=fun b u e=>by rw [upd_ne (ne_of_none e h)];exact e
theorem RE.newT {ds:List D} {xs:List V} {p:Addr} (h:RE K xw W H (.ok (.tup ds)) Q) (w:WL W H) (hp:H p=none) (q:HasL K W H ds xs):Q (.ref p) (upd H p (.tup xs)):=
 h _ _ (same_upd hp) (by rw [Has];exact ⟨p,xs,rfl, .of upd_same,q.same (same_upd hp) w⟩)
theorem not_new {a:Addr} (w:WL W H) (h:H a=none):¬ W a:=fun z=>by
 obtain ⟨xs,e,_⟩:=w a z
 rw [h] at e;cases e
end
section
variable {X:Cx} {xw:XW} {a b c e:Expr} {fa fb fc f:DSt→Res D} {pos:Pos}
theorem DE.p (h:DE X xw e f):DP X xw e f:=PE.weak h fun σ H Q ⟨W₀,H₀,W,δ,st,q⟩=>⟨W₀,H₀,W,δ,st,by
 cases hf:f δ with
 |ok d=>rw [hf] at q;exact fun v H' k h=>q v H' k (.inl h)
 |ex c fs=>rw [hf] at q;exact q
 |stuck=>rw [hf] at q;exact q⟩
theorem DF.de {f:DSt→Res (List D)} (h:DF X xw e f):DE X xw e (fun δ=>(f δ).bind fun ds=> .ok (.lst ds)):=PE.weak h fun σ H Q ⟨W₀,H₀,W,δ,st,q⟩=>⟨W₀,H₀,W,δ,st,by
 dsimp only at q
 cases hf:f δ with
 |ok d=>
  rw [hf] at q
  refine fun a xs H1 k n r=>q _ _ (k.trans (same_upd n)) ?_
  have w1:=st.fr.wl.same k
  rw [Has]
  exact ⟨a,xs,rfl, .inl ⟨upd_same,not_new w1 n⟩,r.same (same_upd n) w1⟩
 |ex c fs=>rw [hf] at q;exact q
 |stuck=>rw [hf] at q;exact q⟩
def slotD (i:Nat) (δ:DSt):Res D:=match δ[i]? with
 |some (some (.d x))=> .ok x
 |_=> .stuck
def slotP (i:Nat) (δ:DSt):Res D:=match δ[i]? with
 |some (some (.d x))=> .ok x
 |some (some (.o ds))=> .ok (.lst ds)
 |_=> .stuck
theorem de_var (i:Nat) {x:Str} (hN:X.N[i]? =some x:=by rfl) (hv:Vis X.env.scope x:=by first|exact Or.inl rfl|exact Or.inr (Or.inl rfl)|exact Or.inr (Or.inr rfl)) (hd:(x==("__debug__":Str))=false:=by decide)
  (hcd:(x==("__classdict__":Str))=false:=by decide):DE X xw (.Name x pos) (slotD i):=PE.weak (pe_var hN hv hd hcd) fun σ H Q ⟨W₀,H₀,W,δ,st,q⟩=>by
 unfold slotD at q
 split at q
 ·rename_i d h
  obtain ⟨v,e,r⟩:=st.at' i _ h
  exact ⟨v,e,q v H (Same.refl H) r⟩
 ·exact q.elim
theorem dp_var (i:Nat) {x:Str} (hN:X.N[i]? =some x:=by rfl) (hv:Vis X.env.scope x:=by first|exact Or.inl rfl|exact Or.inr (Or.inl rfl)|exact Or.inr (Or.inr rfl)) (hd:(x==("__debug__":Str))=false:=by decide)
  (hcd:(x==("__classdict__":Str))=false:=by decide):DP X xw (.Name x pos) (slotP i):=PE.weak (pe_var hN hv hd hcd) fun σ H Q ⟨W₀,H₀,W,δ,st,q⟩=>by
 unfold slotP at q
 split at q
 ·rename_i d h
  obtain ⟨v,e,r⟩:=st.at' i _ h
  exact ⟨v,e,q v H (Same.refl H) (.inl r)⟩
 ·rename_i ds h
  obtain ⟨v,e,a,xs,r1,r2,r3,r4,r5⟩:=st.at' i _ h
  exact ⟨v,e,q v H (Same.refl H) (.inr ⟨ds,a,xs,rfl,r1,r4,r5⟩)⟩
 ·exact q.elim
theorem de_int {i:Int} {j}:DE X xw (.Constant (.int i) j pos) (fun _=> .ok (.int i)):=PE.weak pe_int fun σ H Q ⟨_,_,_,_,_,q⟩=>q.int
theorem de_bl {i:Bool} {j}:DE X xw (.Constant (.bool i) j pos) (fun _=> .ok (.bl i)):=PE.weak pe_bl fun σ H Q ⟨_,_,_,_,_,q⟩=>q.bl
theorem de_str {i:Str} {j}:DE X xw (.Constant (.str i) j pos) (fun _=> .ok (.str i)):=PE.weak pe_str fun σ H Q ⟨_,_,_,_,_,q⟩=>q.str
theorem de_non {j}:DE X xw (.Constant .none j pos) (fun _=> .ok .non):=PE.weak pe_non fun σ H Q ⟨_,_,_,_,_,q⟩=>q.non
def Op2 (X:Cx) (xw:XW) (r:R2) (op:D→D→Res D):Prop:=∀ (W:WS) (H:Hp) (d e:D) (v u:V) (Q:VK),WL W H→HasT X.K W H d v→HasT X.K W H e u→RE X.K xw W H (op d e) Q→r v u H Q
theorem two_read {σ:L2.St} {H:Hp} {W₀ W:WS} {H₀:Hp} {δ:DSt} {op:D→D→Res D} {Q:VK} {R:V→V→Hp→Prop} (st:StHas X.K W₀ H₀ W H σ δ)
  (q:RE X.K xw W H ((fa δ).bind fun x=>(fb δ).bind fun y=>op x y) Q)
  (h:∀ H2 d e v u,Same H H2→WL W H2→HasT X.K W H2 d v→HasT X.K W H2 e u→fa δ= .ok d→fb δ= .ok e→RE X.K xw W H2 (op d e) Q→R v u H2):
  tDP X.K xw fa σ H fun x H1=>tDP X.K xw fb σ H1 fun y H2=>R x y H2:=by
 refine ⟨W₀,H₀,W,δ,st,?_⟩
 cases h1:fa δ with
 |stuck=>rw [h1] at q;exact q
 |ex c fs=>rw [h1] at q;exact q
 |ok d=>
  rw [h1] at q
  intro v H1 k1 hv
  refine ⟨W₀,H₀,W,δ,st.same k1,?_⟩
  have q':RE X.K xw W H ((fb δ).bind fun y=>op d y) Q:=q
  cases h2:fb δ with
  |stuck=>rw [h2] at q';exact q'
  |ex c fs=>rw [h2] at q';exact fun H2 k2=>q' H2 (k1.trans k2)
  |ok e=>
   rw [h2] at q'
   intro u H2 k2 hu
   have q2:RE X.K xw W H (op d e) Q:=q'
   exact h H2 d e v u (k1.trans k2) (st.fr.wl.same (k1.trans k2)) (hv.same k2 (st.fr.wl.same k1)) hu h1 h2 (q2.same (k1.trans k2))
theorem de_op2 {o:Operator} {r:R2} {op:D→D→Res D} (ho:OpR X (binaryOp o) r) (hr:Op2 X xw r op) (ha:DP X xw a fa) (hb:DP X xw b fb):
  DE X xw (.BinOp a o b pos) (fun δ=>(fa δ).bind fun x=>(fb δ).bind fun y=>op x y):=
 PE.weak (pe_op ho ha hb) fun σ H Q ⟨W₀,H₀,W,δ,st,q⟩=>two_read st q fun H2 d e v u k w hv hu _ _ q2=>hr W H2 d e v u Q w hv hu q2
theorem op_catT0:OpR X (binaryOp .Add) (fun x y H Q=>∃ a b ys,x= .ref a∧y= .ref b∧SqT X.K H a []∧SqT X.K H b ys∧Q (.ref b) H):=by
 intro pins s σ H x y v u Q I rx ry h
 obtain ⟨a,b,ys,rfl,rfl,ha,hb,q⟩:=h
 cases rx
 cases ry
 obtain ⟨its,r1,p1,_⟩:=I.tuple ha
 obtain ⟨its2,r2,p2,_⟩:=I.tuple hb
 have e0:its= []:=r1.nil_iff.mpr rfl
 subst e0
 obtain ⟨⟨cls,dd,data,sl⟩,ho,hc,n,hd⟩:=id p1
 obtain ⟨⟨cls2,dd2,data2,sl2⟩,ho2,hc2,n2,hd2⟩:=id p2
 simp only at hc hd hc2 hd2
 subst hc hd hc2 hd2
 exact concat_meets ⟨_,ho,rfl⟩ ⟨_,ho2,rfl⟩ noFill_tuple_add seq_tuple_add PySem.F.slot_tuple_add PySem.F.entry_tuple_add (PySem.F.args_tuple_add_2 _ _)
   (tuple_addW0 a b _ its2.toArray n n2 dd dd2 sl sl2 (by simp)) ⟨ho,ho2,⟨.ref b,H,I,rfl,q⟩⟩
noncomputable def addD:D→D→Res D
 | .int i, .int j=> .ok (.int (i+j))
 | .str x, .str y=>@ite (Res D) (x.length+y.length≤sizeLine) (Classical.propDecidable _) (.ok (.str (x++y))) .stuck
 | .tup xs, .tup ys=>@ite (Res D) (xs.length+ys.length≤sizeLine) (Classical.propDecidable _) (.ok (.tup (xs++ys))) .stuck
 |_,_=> .stuck
theorem de_add (ha:DP X xw a fa) (hb:DP X xw b fb):DE X xw (.BinOp a .Add b pos) (fun δ=>(fa δ).bind fun x=>(fb δ).bind fun y=>addD x y):=by
 refine de_op2 ((op_add.or op_add_str).or (op_catT0.or op_catT)) (fun W H d e v u Q w hv hu q=> ?_) ha hb
 unfold addD at q
 split at q
 ·exact .inl (.inl ⟨_,_,hv.int,hu.int,q.int⟩)
 ·split at q
  ·rename_i hz
   exact .inl (.inr ⟨_,_,hv.str,hu.str,hz,q.str⟩)
  ·exact q.elim
 ·rename_i ds es
  split at q
  ·rename_i hz
   obtain ⟨a1,xs,e1,s1,r1⟩:=hv.tup
   obtain ⟨a2,ys,e2,s2,r2⟩:=hu.tup
   by_cases hx:xs= []
   ·subst hx
    have hd:ds= []:=by
     have:=r1.length
     exact List.eq_nil_of_length_eq_zero (by simpa using this)
    subst hd
    refine .inr (.inl ⟨a1,a2,ys,e1,e2,s1,s2,q _ H (Same.refl H) ?_⟩)
    rw [Has];exact ⟨a2,ys,rfl,s2,r2⟩
   ·refine .inr (.inr ⟨a1,a2,xs,ys,e1,e2,s1,s2,hx,by rw [←r1.length,←r2.length];exact hz,fun hy=> ?_,fun _ p hp=>q.newT w hp (r1.append r2)⟩)
    subst hy
    have he:es= []:=by
     have:=r2.length
     exact List.eq_nil_of_length_eq_zero (by simpa using this)
    subst he
    refine q _ H (Same.refl H) ?_
    rw [Has,List.append_nil];exact ⟨a1,xs,rfl,s1,r1⟩
  ·exact q.elim
 ·exact q.elim
def subD:D→D→Res D
 | .int i, .int j=> .ok (.int (i-j))
 |_,_=> .stuck
theorem de_sub (ha:DP X xw a fa) (hb:DP X xw b fb):DE X xw (.BinOp a .Sub b pos) (fun δ=>(fa δ).bind fun x=>(fb δ).bind fun y=>subD x y):=by
 refine de_op2 op_sub (fun W H d e v u Q w hv hu q=> ?_) ha hb
 unfold subD at q
 split at q
 ·exact ⟨_,_,hv.int,hu.int,q.int⟩
 ·exact q.elim
noncomputable def modD:D→D→Res D
 | .int i, .int j=>@ite (Res D) (0<j) (Classical.propDecidable _) (.ok (.int (i%j))) .stuck
 |_,_=> .stuck
theorem de_mod (ha:DP X xw a fa) (hb:DP X xw b fb):DE X xw (.BinOp a .Mod b pos) (fun δ=>(fa δ).bind fun x=>(fb δ).bind fun y=>modD x y):=by
 refine de_op2 op_mod (fun W H d e v u Q w hv hu q=> ?_) ha hb
 unfold modD at q
 split at q
 ·split at q
  ·rename_i hj
   exact ⟨_,_,hv.int,hu.int,hj,q.int⟩
  ·exact q.elim
 ·exact q.elim
noncomputable def fdivD:D→D→Res D
 | .int i, .int j=>@ite (Res D) (0<j∧j<1073741824) (Classical.propDecidable _) (.ok (.int (i / j))) .stuck
 |_,_=> .stuck
theorem de_fdiv (ha:DP X xw a fa) (hb:DP X xw b fb):DE X xw (.BinOp a .FloorDiv b pos) (fun δ=>(fa δ).bind fun x=>(fb δ).bind fun y=>fdivD x y):=by
 refine de_op2 op_fdiv (fun W H d e v u Q w hv hu q=> ?_) ha hb
 unfold fdivD at q
 split at q
 ·split at q
  ·rename_i hj
   exact ⟨_,_,hv.int,hu.int,hj,q.int⟩
  ·exact q.elim
 ·exact q.elim
noncomputable def powD:D→D→Res D
 | .int i, .int j=>@ite (Res D) (0≤j∧j≤1000∧i.natAbs<2^64) (Classical.propDecidable _) (.ok (.int (i^j.toNat))) .stuck
 |_,_=> .stuck
theorem de_pow (ha:DP X xw a fa) (hb:DP X xw b fb):DE X xw (.BinOp a .Pow b pos) (fun δ=>(fa δ).bind fun x=>(fb δ).bind fun y=>powD x y):=by
 refine de_op2 op_pow (fun W H d e v u Q w hv hu q=> ?_) ha hb
 unfold powD at q
 split at q
 ·split at q
  ·rename_i hj
   exact ⟨_,_,hv.int,hu.int,⟨hj.1,by omega,hj.2.2⟩,q.int⟩
  ·exact q.elim
 ·exact q.elim
noncomputable def mulD:D→D→Res D
 | .int i, .int j=>@ite (Res D) ((-(2^64)<i∧i<2^64)∨(-(2^64)<j∧j<2^64)) (Classical.propDecidable _) (.ok (.int (i*j))) .stuck
 |_,_=> .stuck
def negD:D→Res D
 | .int i=> .ok (.int (-i))
 |_=> .stuck
theorem one_read {σ:L2.St} {H:Hp} {W₀ W:WS} {H₀:Hp} {δ:DSt} {op:D→Res D} {Q:VK} {R:V→Hp→Prop} (st:StHas X.K W₀ H₀ W H σ δ)
  (q:RE X.K xw W H ((fa δ).bind op) Q)
  (h:∀ H2 d v,Same H H2→WL W H2→StHas X.K W₀ H₀ W H2 σ δ→HasT X.K W H2 d v→fa δ= .ok d→RE X.K xw W H2 (op d) Q→R v H2):
  tDP X.K xw fa σ H fun x H1=>R x H1:=by
 refine ⟨W₀,H₀,W,δ,st,?_⟩
 cases h1:fa δ with
 |stuck=>rw [h1] at q;exact q
 |ex c fs=>rw [h1] at q;exact q
 |ok d=>
  rw [h1] at q
  intro v H1 k1 hv
  exact h H1 d v k1 (st.fr.wl.same k1) (st.same k1) hv h1 (RE.same (r:=op d) q k1)
theorem de_neg (ha:DP X xw a fa):DE X xw (.UnaryOp .USub a pos) (fun δ=>(fa δ).bind negD):=
 PE.weak (pe_un un_neg ha) fun σ H Q ⟨W₀,H₀,W,δ,st,q⟩=>one_read st q fun H2 d v k w st2 hv _ q2=>by
  unfold negD at q2
  split at q2
  ·exact ⟨_,hv.int,q2.int⟩
  ·exact q2.elim
def eqR (d e:D):Res D:=if (shal 40 d&&shal 40 e)=true then .ok (.bl (eqD d e)) else .stuck
def neR (d e:D):Res D:=if (shal 40 d&&shal 40 e)=true then .ok (.bl (!eqD d e)) else .stuck
def ltR:D→D→Res D
 | .int i, .int j=> .ok (.bl (decide (i<j)))
 |_,_=> .stuck
def leR:D→D→Res D
 | .int i, .int j=> .ok (.bl (decide (i≤j)))
 |_,_=> .stuck
def gtR:D→D→Res D
 | .int i, .int j=> .ok (.bl (decide (j<i)))
 |_,_=> .stuck
def geR:D→D→Res D
 | .int i, .int j=> .ok (.bl (decide (j≤i)))
 |_,_=> .stuck
structure CmpR (X:Cx) (xw:XW) (o:CmpOp) (op:D→D→Res D):Prop where
 ex:∃ r,OpR X (compareOp o) r∧Op2 X xw r op
 bl:∀ d e z,op d e= .ok z→∃ k,z= .bl k
 nm:o≠ .In∧o≠ .NotIn
theorem op_eqD (hu:X.A.units+40<cLine):OpR X (compareOp .Eq) (fun x y H Q=>∃ W d e,HasT X.K W H d x∧HasT X.K W H e y∧shal 40 d=true∧shal 40 e=true∧Q (.bl (eqD d e)) H):=by
 intro pins s σ H x y v u Q I rx ry h
 obtain ⟨W,d,e,h1,h2,s1,s2,q⟩:=h
 exact (eqAt_D I 40 X.A hu h1 h2 rx ry s1 s2).2.1 _ _ _ _ ⟨.bl _,H,I,rfl,q⟩
theorem op_neD (hu:X.A.units+40<cLine):OpR X (compareOp .NotEq) (fun x y H Q=>∃ W d e,HasT X.K W H d x∧HasT X.K W H e y∧shal 40 d=true∧shal 40 e=true∧Q (.bl (!eqD d e)) H):=by
 intro pins s σ H x y v u Q I rx ry h
 obtain ⟨W,d,e,h1,h2,s1,s2,q⟩:=h
 exact (eqAt_D I 40 X.A hu h1 h2 rx ry s1 s2).2.2 _ _ _ _ ⟨.bl _,H,I,rfl,q⟩
theorem c_eq (hu:X.A.units+40<cLine):CmpR X xw .Eq eqR:=⟨⟨_,op_eqD hu,fun W H d e v u Q w hv hu q=>by
  unfold eqR at q
  split at q
  ·rename_i hs
   rw [Bool.and_eq_true] at hs
   exact ⟨W,d,e,hv,hu,hs.1,hs.2,q.bl⟩
  ·exact q.elim⟩,fun d e z h=>by unfold eqR at h;split at h<;>cases h;exact ⟨_,rfl⟩,by decide,by decide⟩
theorem c_ne (hu:X.A.units+40<cLine):CmpR X xw .NotEq neR:=⟨⟨_,op_neD hu,fun W H d e v u Q w hv hu q=>by
  unfold neR at q
  split at q
  ·rename_i hs
   rw [Bool.and_eq_true] at hs
   exact ⟨W,d,e,hv,hu,hs.1,hs.2,q.bl⟩
  ·exact q.elim⟩,fun d e z h=>by unfold neR at h;split at h<;>cases h;exact ⟨_,rfl⟩,by decide,by decide⟩
theorem c_lt:CmpR X xw .Lt ltR:=⟨⟨_,op_lt,fun W H d e v u Q w hv hu q=>by
  unfold ltR at q
  split at q
  ·exact ⟨_,_,hv.int,hu.int,q.bl⟩
  ·exact q.elim⟩,fun d e z h=>by unfold ltR at h;split at h<;>cases h;exact ⟨_,rfl⟩,by decide,by decide⟩
theorem c_gt:CmpR X xw .Gt gtR:=⟨⟨_,op_gt,fun W H d e v u Q w hv hu q=>by
  unfold gtR at q
  split at q
  ·exact ⟨_,_,hv.int,hu.int,q.bl⟩
  ·exact q.elim⟩,fun d e z h=>by unfold gtR at h;split at h<;>cases h;exact ⟨_,rfl⟩,by decide,by decide⟩
def isNR (d:D):Res D:=match d with
 | .non=> .ok (.bl true)
 |_=> .ok (.bl false)
theorem HasT.isN {K:PySem.W.Frag} {W:WS} {H:Hp} {d:D} {v:V} (h:HasT K W H d v) (hd:d≠ .non):v≠ .non:=by
 rintro rfl
 rcases h with h|⟨ds,a,xs,h1,h2,_⟩
 ·cases d with
  |non=>exact hd rfl
  |bl b=>rw [Has] at h;cases h
  |int b=>rw [Has] at h;cases h
  |str b=>rw [Has] at h;cases h
  |tup b=>rw [Has] at h;obtain ⟨_,_,z,_⟩:=h;cases z
  |lst b=>rw [Has] at h;obtain ⟨_,_,z,_⟩:=h;cases z
  |dct k b=>rw [Has] at h;obtain ⟨_,_,z,_⟩:=h;cases z
  |exc k b=>rw [Has] at h;obtain ⟨_,_,_,z,_⟩:=h;cases z
  |obj c k b=>rw [Has] at h;obtain ⟨_,_,_,_,z,_⟩:=h;cases z
 ·cases h2
theorem de_isN {j pos'} (ha:DP X xw a fa):DE X xw (.Compare a [.Is] [.Constant .none j pos'] pos) (fun δ=>(fa δ).bind isNR):=
 PE.weak (pe_cmp (pc_isN ha)) fun σ H Q ⟨W₀,H₀,W,δ,st,q⟩=>one_read st q fun H2 d v k w st2 hv _ q2=>by
  unfold isNR at q2
  split at q2
  ·rw [hv.non];exact q2.bl
  ·rename_i hd
   rw [decide_eq_false (hv.isN hd)];exact q2.bl
theorem de_cmp {o:CmpOp} {op:D→D→Res D} (hc:CmpR X xw o op) (ha:DP X xw a fa) (hb:DP X xw b fb):DE X xw (.Compare a [o] [b] pos) (fun δ=>(fa δ).bind fun x=>(fb δ).bind fun y=>op x y):=by
 obtain ⟨⟨r,ho,hr⟩,_,h1,h2⟩:=hc
 exact PE.weak (pe_cmpR ho ha hb (nomark b h1 h2)) fun σ H Q ⟨W₀,H₀,W,δ,st,q⟩=>two_read st q fun H2 d e v u k w hv hu _ _ q2=>hr W H2 d e v u Q w hv hu q2
def boolR:D→Res Bool
 | .bl k=> .ok k
 |_=> .stuck
theorem DE.t_of (ht:PT X e (tB (tDE X.K xw f))):DT X xw e (fun δ=>(f δ).bind boolR):=PT.weak ht fun σ H Q ⟨W₀,H₀,W,δ,st,q⟩=>by
 dsimp only at q
 refine ⟨W₀,H₀,W,δ,st,?_⟩
 cases h1:f δ with
 |stuck=>rw [h1] at q;exact q
 |ex c fs=>rw [h1] at q;exact q
 |ok d=>
  rw [h1] at q
  intro v H1 k1 hv
  have q':RT xw H (boolR d) Q:=q
  unfold boolR at q'
  split at q'
  ·rw [Has] at hv
   exact ⟨_,hv,q' H1 k1⟩
  ·exact q'.elim
theorem DE.t (h:DE X xw e f) (he:∀ whole,isTrue e X.env whole=(do let v ←whole;standAt e.pos;holding [v] (truthy v)):=by intro _;rfl):DT X xw e (fun δ=>(f δ).bind boolR):=DE.t_of (pt_val h he)
theorem dt_cmp {o:CmpOp} {op:D→D→Res D} (hc:CmpR X xw o op) (ha:DP X xw a fa) (hb:DP X xw b fb):DT X xw (.Compare a [o] [b] pos) (fun δ=>((fa δ).bind fun x=>(fb δ).bind fun y=>op x y).bind boolR):=by
 obtain ⟨⟨r,ho,hr⟩,_,h1,h2⟩:=hc
 refine DE.t_of (f:=fun δ=>(fa δ).bind fun x=>(fb δ).bind fun y=>op x y) (PT.weak (pt_cmpR ho ha hb (nomark b h1 h2)) fun σ H Q q=> ?_)
 obtain ⟨W₀,H₀,W,δ,st,q⟩:=q
 exact two_read st q fun H2 d e v u k w hv hu _ _ q2=>hr W H2 d e v u _ w hv hu q2
theorem dt_isN {j pos'} (ha:DP X xw a fa):DT X xw (.Compare a [.Is] [.Constant .none j pos'] pos) (fun δ=>((fa δ).bind isNR).bind boolR):=
 DE.t_of (f:=fun δ=>(fa δ).bind isNR) (PT.weak (pt_cmp (pc_isN ha)) fun σ H Q q=>by
  obtain ⟨W₀,H₀,W,δ,st,q⟩:=q
  exact one_read st q fun H2 d v k w st2 hv _ q2=>by
   unfold isNR at q2
   split at q2
   ·rw [hv.non];exact q2.bl
   ·rename_i hd
    rw [decide_eq_false (hv.isN hd)];exact q2.bl)
theorem DW.t {g:DSt→Res Bool} (h:DW X xw e g):DT X xw e g:=PW.pt h
def chainR (op op':D→D→Res D) (x y:D) (z:Res D):Res D:=(op x y).bind fun k=>match k with
 | .bl true=>z.bind fun w=>op' y w
 | .bl false=> .ok (.bl false)
 |_=> .stuck
def andB (x:Res Bool) (y:Res Bool):Res Bool:=x.bind fun k=>if k=true then y else .ok false
def orB (x:Res Bool) (y:Res Bool):Res Bool:=x.bind fun k=>if k=true then .ok true else y
variable {ga gb:DSt→Res Bool} {rest:List Expr}
theorem test_read {σ:L2.St} {H:Hp} {W₀ W:WS} {H₀:Hp} {δ:DSt} {k:Bool→Res Bool} {Q:Bool→Hp→Prop} {R:Bool→Hp→Prop} (st:StHas X.K W₀ H₀ W H σ δ) (q:RT xw H ((ga δ).bind k) Q)
  (h:∀ H2 c,Same H H2→StHas X.K W₀ H₀ W H2 σ δ→ga δ= .ok c→RT xw H2 (k c) Q→R c H2):tDT X.K xw ga σ H R:=by
 refine ⟨W₀,H₀,W,δ,st,?_⟩
 cases h1:ga δ with
 |stuck=>rw [h1] at q;exact q
 |ex c fs=>rw [h1] at q;exact q
 |ok c=>
  rw [h1] at q
  exact fun H1 k1=>h H1 c k1 (st.same k1) h1 (RT.same (r:=k c) q k1)
theorem dw_and1 (ha:DT X xw a ga):DW X xw (.BoolOp .And [a] pos) ga:=pw_and1 ha
theorem dw_or1 (ha:DT X xw a ga):DW X xw (.BoolOp .Or [a] pos) ga:=pw_or1 ha
theorem dw_and (ha:DT X xw a ga) (hb:DW X xw (.BoolOp .And (b::rest) pos) gb):DW X xw (.BoolOp .And (a::b::rest) pos) (fun δ=>andB (ga δ) (gb δ)):=
 PW.weak (pw_and ha hb) fun σ H Q ⟨W₀,H₀,W,δ,st,q⟩=>test_read st q fun H2 c k st2 _ q2=>by
  cases c with
  |true=>rw [if_pos rfl] at q2 ⊢;exact ⟨W₀,H₀,W,δ,st2,q2⟩
  |false=>rw [if_neg Bool.false_ne_true] at q2 ⊢;exact q2 H2 (Same.refl _)
theorem dw_or (ha:DT X xw a ga) (hb:DW X xw (.BoolOp .Or (b::rest) pos) gb):DW X xw (.BoolOp .Or (a::b::rest) pos) (fun δ=>orB (ga δ) (gb δ)):=
 PW.weak (pw_or ha hb) fun σ H Q ⟨W₀,H₀,W,δ,st,q⟩=>test_read st q fun H2 c k st2 _ q2=>by
  cases c with
  |true=>rw [if_pos rfl] at q2 ⊢;exact q2 H2 (Same.refl _)
  |false=>rw [if_neg Bool.false_ne_true] at q2 ⊢;exact ⟨W₀,H₀,W,δ,st2,q2⟩
theorem dt_not (ha:DT X xw a ga):DT X xw (.UnaryOp .Not a pos) (fun δ=>(ga δ).bind fun k=> .ok (!k)):=
 PT.weak (pt_not ha) fun σ H Q ⟨W₀,H₀,W,δ,st,q⟩=>test_read st q fun H2 c k st2 _ q2=>q2 H2 (Same.refl _)
def andD (x:Res D) (y:Res D):Res D:=x.bind fun k=>match k with
 | .bl true=>y
 | .bl false=> .ok (.bl false)
 |_=> .stuck
def orD (x:Res D) (y:Res D):Res D:=x.bind fun k=>match k with
 | .bl true=> .ok (.bl true)
 | .bl false=>y
 |_=> .stuck
def notD:D→Res D
 | .bl k=> .ok (.bl (!k))
 |_=> .stuck
theorem one_readE {σ:L2.St} {H:Hp} {W₀ W:WS} {H₀:Hp} {δ:DSt} {op:D→Res D} {Q:VK} {R:V→Hp→Prop} (st:StHas X.K W₀ H₀ W H σ δ)
  (q:RE X.K xw W H ((fa δ).bind op) Q)
  (h:∀ H2 d v,Same H H2→WL W H2→StHas X.K W₀ H₀ W H2 σ δ→Has X.K W H2 d v→fa δ= .ok d→RE X.K xw W H2 (op d) Q→R v H2):
  tDE X.K xw fa σ H fun x H1=>R x H1:=by
 refine ⟨W₀,H₀,W,δ,st,?_⟩
 cases h1:fa δ with
 |stuck=>rw [h1] at q;exact q
 |ex c fs=>rw [h1] at q;exact q
 |ok d=>
  rw [h1] at q
  intro v H1 k1 hv
  exact h H1 d v k1 (st.fr.wl.same k1) (st.same k1) hv h1 (RE.same (r:=op d) q k1)
variable {es:List Expr} {fs:DSt→Res (List D)}
theorem da_nil:DA X xw [] (fun _=> .ok []):=PA.weak pa_nil fun σ H Q ⟨W₀,H₀,W,δ,st,q⟩=>q [] H (Same.refl H) HasL.nil
def consR (x:Res D) (r:Res (List D)):Res (List D):=x.bind fun d=>r.bind fun ds=> .ok (d::ds)
theorem da_cons (ha:DE X xw a fa) (hr:DA X xw es fs) (hs:starEach (a::es) X.env=(false,eval a X.env)::starEach es X.env:=by rfl):DA X xw (a::es) (fun δ=>consR (fa δ) (fs δ)):=
 PA.weak (pa_cons ha hr hs) fun σ H Q ⟨W₀,H₀,W,δ,st,q⟩=>by
  refine ⟨W₀,H₀,W,δ,st,?_⟩
  unfold consR at q
  dsimp only at q
  cases h1:fa δ with
  |stuck=>rw [h1] at q;exact q
  |ex c fs=>rw [h1] at q;exact q
  |ok d=>
   rw [h1] at q
   intro v H1 k1 hv
   refine ⟨W₀,H₀,W,δ,st.same k1,?_⟩
   have q':RA X.K xw W H ((fs δ).bind fun ds=> .ok (d::ds)) Q:=q
   cases h2:fs δ with
   |stuck=>rw [h2] at q';exact q'
   |ex c gs=>rw [h2] at q';exact fun H2 k2=>q' H2 (k1.trans k2)
   |ok ds=>
    rw [h2] at q'
    intro vs H2 k2 hvs
    have q2:RA X.K xw W H (.ok (d::ds)) Q:=q'
    exact q2 (v::vs) H2 (k1.trans k2) (HasL.cons (hv.same k2 (st.fr.wl.same k1)) hvs)
theorem args_read {σ:L2.St} {H:Hp} {W₀ W:WS} {H₀:Hp} {δ:DSt} {op:List D→Res D} {Q:VK} {R:List V→Hp→Prop} (st:StHas X.K W₀ H₀ W H σ δ)
  (q:RE X.K xw W H ((fs δ).bind op) Q)
  (h:∀ H2 ds vs,Same H H2→WL W H2→StHas X.K W₀ H₀ W H2 σ δ→HasL X.K W H2 ds vs→fs δ= .ok ds→RE X.K xw W H2 (op ds) Q→R vs H2):
  tDA X.K xw fs σ H fun x H1=>R x H1:=by
 refine ⟨W₀,H₀,W,δ,st,?_⟩
 cases h1:fs δ with
 |stuck=>rw [h1] at q;exact q
 |ex c gs=>rw [h1] at q;exact q
 |ok d=>
  rw [h1] at q
  intro v H1 k1 hv
  exact h H1 d v k1 (st.fr.wl.same k1) (st.same k1) hv h1 (RE.same (r:=op d) q k1)
noncomputable def tupR (ds:List D):Res D:=@ite (Res D) (ds.length≤1000) (Classical.propDecidable _) (.ok (.tup ds)) .stuck
theorem k1000:(1000:Nat)≤sizeLine:=by rw [sizeLine_eq];decide
theorem de_tup {x1} (h:DA X xw es fs):DE X xw (.Tuple es x1 pos) (fun δ=>(fs δ).bind tupR):=
 PE.weak (pe_tup h) fun σ H Q ⟨W₀,H₀,W,δ,st,q⟩=>args_read st q fun H2 ds vs k w st2 hv _ q2=>by
  unfold tupR at q2
  split at q2
  ·rename_i hz
   exact ⟨by rw [←hv.length];exact Nat.le_trans hz k1000,fun p hp=>q2.newT w hp hv⟩
  ·exact q2.elim
noncomputable def lstR (ds:List D):Res (List D):=@ite (Res (List D)) (ds.length≤1000) (Classical.propDecidable _) (.ok ds) .stuck
theorem df_lst (h:DA X xw es fs):DF X xw (.List es pos) (fun δ=>(fs δ).bind lstR):=
 PE.weak (pe_lst h) fun σ H Q ⟨W₀,H₀,W,δ,st,q⟩=>by
  dsimp only at q
  refine ⟨W₀,H₀,W,δ,st,?_⟩
  cases h1:fs δ with
  |stuck=>rw [h1] at q;exact q
  |ex c gs=>rw [h1] at q;exact q
  |ok ds=>
   rw [h1] at q
   intro vs H1 k1 hv
   have q':RF X.K xw W H (lstR ds) Q:=q
   unfold lstR at q'
   split at q'
   ·rename_i hz
    exact ⟨by rw [←hv.length];exact Nat.le_trans hz k1000,fun p hp=>q' p vs H1 k1 hp hv⟩
   ·exact q'.elim
noncomputable def ixR:D→D→Res D
 | .tup ds, .int i=>match atI ds i with
  |some d=> .ok d
  |none=> .stuck
 | .lst ds, .int i=>match atI ds i with
  |some d=> .ok d
  |none=> .stuck
 | .str z, .int i=>@ite (Res D) (z.length≤sizeLine) (Classical.propDecidable _) (match atI z.cps.toList i with
  |some c=> .ok (.str ⟨#[c]⟩)
  |none=> .stuck) .stuck
 |_,_=> .stuck
theorem atI_has {K:PySem.W.Frag} {W:WS} {H:Hp} {ds:List D} {xs:List V} {i:Int} {d:D} (r:HasL K W H ds xs) (h:atI ds i=some d):∃ x,atI xs i=some x∧Has K W H d x:=by
 unfold atI at h ⊢
 rw [r.length] at h
 cases e:ixN xs.length i with
 |none=>rw [e] at h;cases h
 |some j=>
  rw [e] at h
  obtain ⟨x,h1,h2⟩:=r.get (show ds[j]? =some d from h)
  exact ⟨x,h1,h2⟩
theorem de_ix (ha:DP X xw a fa) (hb:DP X xw b fb) (hs:PlainIx b:=by intro _ _;rfl):DE X xw (.Subscript a b pos) (fun δ=>(fa δ).bind fun x=>(fb δ).bind fun y=>ixR x y):=
 PE.weak (pe_ix ix_seq ha hb hs) fun σ H Q ⟨W₀,H₀,W,δ,st,q⟩=>two_read st q fun H2 d e v u k w hv hu _ _ q2=>by
  unfold ixR at q2
  split at q2
  ·split at q2
   ·rename_i d' hd
    obtain ⟨p,xs,e1,sq,r⟩:=hv.tup
    obtain ⟨x,h1,h2⟩:=atI_has r hd
    exact .inr (.inl ⟨p,xs,_,x,e1,hu.int,sq,h1,q2 x H2 (Same.refl _) h2⟩)
   ·exact q2.elim
  ·split at q2
   ·rename_i d' hd
    obtain ⟨p,xs,e1,sq,r⟩:=hv.lst
    obtain ⟨x,h1,h2⟩:=atI_has r hd
    exact .inl ⟨p,xs,_,x,e1,hu.int,sq,h1,q2 x H2 (Same.refl _) h2⟩
   ·exact q2.elim
  ·split at q2
   ·rename_i hz
    split at q2
    ·rename_i cc hc
     exact .inr (.inr ⟨_,_,cc,hv.str,hu.int,hz,hc,q2.str⟩)
    ·exact q2.elim
   ·exact q2.elim
  ·exact q2.elim
def DO (X:Cx) (xw:XW) (e:Option Expr) (f:DSt→Res (Option Int)):Prop:=PO X e (fun σ H Q=>∃ W₀ H₀ W δ,StHas X.K W₀ H₀ W H σ δ∧match f δ with
 | .ok o=>∀ H',Same H H'→Q o H'
 | .ex c fs=>∀ H',Same H H'→xw c fs H'
 | .stuck=>False)
theorem PO.weak {X:Cx} {e:Option Expr} {t t':TO} (h:PO X e t) (k:∀ σ H Q,t' σ H Q→t σ H Q):PO X e t':=fun pins s σ H Q I q=>h pins s σ H Q I (k σ H Q q)
theorem do_none:DO X xw none (fun _=> .ok none):=PO.weak po_none fun σ H Q ⟨_,_,_,_,_,q⟩=>q H (Same.refl H)
def partR:D→Res (Option Int)
 | .int i=> .ok (some i)
 |_=> .stuck
theorem do_some (h:DE X xw e f):DO X xw (some e) (fun δ=>(f δ).bind partR):=PO.weak (po_some h) fun σ H Q ⟨W₀,H₀,W,δ,st,q⟩=>by
 dsimp only at q
 refine ⟨W₀,H₀,W,δ,st,?_⟩
 cases h1:f δ with
 |stuck=>rw [h1] at q;exact q
 |ex c fs=>rw [h1] at q;exact q
 |ok d=>
  rw [h1] at q
  intro v H1 k1 hv
  cases d with
  |int i=>rw [Has] at hv;exact ⟨i,hv,q H1 k1⟩
  |_=>exact q.elim
def cutD (xs:List D) (lo hi:Option Int):List D:=(xs.drop (HT.sIx xs.length 0 lo)).take (HT.sIx xs.length xs.length hi-HT.sIx xs.length 0 lo)
theorem cut_has {K:PySem.W.Frag} {W:WS} {H:Hp} {ds:List D} {xs:List V} (r:HasL K W H ds xs) (lo hi:Option Int):HasL K W H (cutD ds lo hi) (cutV xs lo hi):=by
 unfold cutD cutV
 rw [r.length]
 exact (r.drop _).take _
variable {lo hi:Option Expr} {fl fh:DSt→Res (Option Int)} {p2:Pos}
def whole (n:Nat) (lo hi:Option Int):Prop:=HT.sIx n 0 lo=0∧HT.sIx n n hi=n
instance {n:Nat} {lo hi:Option Int}:Decidable (whole n lo hi):=inferInstanceAs (Decidable (_∧_))
theorem sl_read {σ:L2.St} {H:Hp} {W₀ W:WS} {H₀:Hp} {δ:DSt} {α:Type} {op:D→Option Int→Option Int→Res α} {R:V→Option Int→Option Int→Hp→Prop} {G:Hp→Res α→Prop} (st:StHas X.K W₀ H₀ W H σ δ)
  (hex:∀ H c gs,G H (.ex c gs)→∀ H',Same H H'→xw c gs H') (hst:∀ H,G H .stuck→False) (hG:∀ H H' r,Same H H'→G H r→G H' r)
  (q:G H ((fa δ).bind fun x=>(fl δ).bind fun l=>(fh δ).bind fun u=>op x l u))
  (h:∀ H2 d v l u,Same H H2→WL W H2→HasT X.K W H2 d v→G H2 (op d l u)→R v l u H2):
  tDP X.K xw fa σ H fun x H1=>(fun σ H Q=>∃ W₀ H₀ W δ,StHas X.K W₀ H₀ W H σ δ∧match fl δ with
 | .ok o=>∀ H',Same H H'→Q o H'
 | .ex c fs=>∀ H',Same H H'→xw c fs H'
 | .stuck=>False:TO) σ H1 fun l H2=>(fun σ H Q=>∃ W₀ H₀ W δ,StHas X.K W₀ H₀ W H σ δ∧match fh δ with
 | .ok o=>∀ H',Same H H'→Q o H'
 | .ex c fs=>∀ H',Same H H'→xw c fs H'
 | .stuck=>False:TO) σ H2 fun u H3=>R x l u H3:=by
 refine ⟨W₀,H₀,W,δ,st,?_⟩
 cases h1:fa δ with
 |stuck=>rw [h1] at q;exact hst _ q
 |ex c fs=>rw [h1] at q;exact hex _ _ _ q
 |ok d=>
  rw [h1] at q
  intro v H1 k1 hv
  refine ⟨W₀,H₀,W,δ,st.same k1,?_⟩
  have q':G H ((fl δ).bind fun l=>(fh δ).bind fun u=>op d l u):=q
  cases h2:fl δ with
  |stuck=>rw [h2] at q';exact hst _ q'
  |ex c fs=>rw [h2] at q';exact fun H2 k2=>hex _ _ _ q' H2 (k1.trans k2)
  |ok l=>
   rw [h2] at q'
   intro H2 k2
   refine ⟨W₀,H₀,W,δ,(st.same k1).same k2,?_⟩
   have q2:G H ((fh δ).bind fun u=>op d l u):=q'
   cases h3:fh δ with
   |stuck=>rw [h3] at q2;exact hst _ q2
   |ex c fs=>rw [h3] at q2;exact fun H3 k3=>hex _ _ _ q2 H3 ((k1.trans k2).trans k3)
   |ok u=>
    rw [h3] at q2
    intro H3 k3
    have w1:=st.fr.wl.same k1
    exact h H3 d v l u ((k1.trans k2).trans k3) (st.fr.wl.same ((k1.trans k2).trans k3)) (hv.same (k2.trans k3) w1) (hG _ _ _ ((k1.trans k2).trans k3) q2)
def slL (d:D) (lo hi:Option Int):Res (List D):=match d with
 | .lst ds=> .ok (cutD ds lo hi)
 |_=> .stuck
theorem df_slL (ha:DP X xw a fa) (hl:DO X xw lo fl) (hh:DO X xw hi fh):DF X xw (.Subscript a (.Slice lo hi none p2) pos) (fun δ=>(fa δ).bind fun x=>(fl δ).bind fun l=>(fh δ).bind fun u=>slL x l u):=
 PE.weak (pe_slice sl_list ha hl hh) fun σ H Q ⟨W₀,H₀,W,δ,st,q⟩=>sl_read (G:=fun H r=>RF X.K xw W H r Q) st (fun _ _ _ q=>q) (fun _ q=>q) (fun _ _ _ k q=>RF.same q k) q fun H2 d v l u k w hv q2=>by
  unfold slL at q2
  split at q2
  ·obtain ⟨a1,xs,e1,sq,r⟩:=hv.lst
   exact ⟨a1,xs,e1,sq,fun p hp=>q2 p _ H2 (Same.refl _) hp (cut_has r l u)⟩
  ·exact q2.elim
end
end L3
namespace L3
open PySem PySem.Spec PyProof.Rows L2 SeqAt
inductive Out where
 |nx (δ:DSt)|rt (d:D)|bk (δ:DSt)|ct (δ:DSt)|ex (c:Str) (fs:List D)|stuck
structure Step (W:WS) (H:Hp) (W':WS) (H':Hp):Prop where
 keep:Keep W H H'
 new:∀ b,W' b→W b∨H b=none
section
variable {W W1 W2:WS} {H H1 H2:Hp}
theorem Step.refl:Step W H W H:=⟨fun _ _ e _=>e,fun _ z=> .inl z⟩
theorem Step.same (k:Same H H1):Step W H W H1:=⟨Same.keep k,fun _ z=> .inl z⟩
theorem Step.trans (a:Step W H W1 H1) (b:Step W1 H1 W2 H2):Step W H W2 H2:=by
 refine ⟨fun c o e n=>b.keep c o (a.keep c o e n) fun z=> ?_,fun c z=> ?_⟩
 ·rcases a.new c z with q|q
  ·exact n q
  ·rw [e] at q;cases q
 ·rcases b.new c z with q|q
  ·exact a.new c q
  ·by_cases hw:W c
   ·exact .inl hw
   ·right
    cases e:H c with
    |none=>rfl
    |some o=>rw [a.keep c o e hw] at q;cases q
end
section
variable (K:PySem.W.Frag) (xw:XW)
def RS (W₀:WS) (H₀:Hp) (W:WS) (H:Hp) (o:Out) (Dn:Ends):Prop:=match o with
 | .nx δ=>∀ W' H' σ,Step W H W' H'→StHas K W₀ H₀ W' H' σ δ→Dn.nx σ H'
 | .bk δ=>∀ W' H' σ,Step W H W' H'→StHas K W₀ H₀ W' H' σ δ→Dn.bk σ H'
 | .ct δ=>∀ W' H' σ,Step W H W' H'→StHas K W₀ H₀ W' H' σ δ→Dn.ct σ H'
 | .rt d=>∀ v H',Same H₀ H'→Has K W₀ H' d v→Dn.rt v H'
 | .ex c fs=>∀ H',Same H₀ H'→xw c fs H'
 | .stuck=>False
def tDS (g:DSt→Out):TS:=fun Dn σ H=>∃ W₀ H₀ W δ,StHas K W₀ H₀ W H σ δ∧RS K xw W₀ H₀ W H (g δ) Dn
end
def DS (X:Cx) (xw:XW) (st:Stmt) (g:DSt→Out):Prop:=PS X st (tDS X.K xw g)
def DSs (X:Cx) (xw:XW) (sts:List Stmt) (g:DSt→Out):Prop:=PSs X sts (tDS X.K xw g)
theorem PS.weak {X:Cx} {st:Stmt} {t t':TS} (h:PS X st t) (k:∀ Dn σ H,t' Dn σ H→t Dn σ H):PS X st t':=fun pins s σ H Dn I q=>h pins s σ H Dn I (k Dn σ H q)
theorem PSs.weak {X:Cx} {st:List Stmt} {t t':TS} (h:PSs X st t) (k:∀ Dn σ H,t' Dn σ H→t Dn σ H):PSs X st t':=fun pins s σ H Dn I q=>h pins s σ H Dn I (k Dn σ H q)
section
variable {K:PySem.W.Frag} {xw:XW} {W₀ W W1:WS} {H₀ H H1:Hp} {o:Out} {Dn:Ends}
theorem RS.step (h:RS K xw W₀ H₀ W H o Dn) (k:Step W H W1 H1):RS K xw W₀ H₀ W1 H1 o Dn:=by
 cases o with
 |nx δ=>exact fun W' H' σ k' st=>h W' H' σ (k.trans k') st
 |bk δ=>exact fun W' H' σ k' st=>h W' H' σ (k.trans k') st
 |ct δ=>exact fun W' H' σ k' st=>h W' H' σ (k.trans k') st
 |rt d=>exact h
 |ex c fs=>exact h
 |stuck=>exact h
end
def ofR {α:Type} (r:Res α) (k:α→Out):Out:=match r with
 | .ok a=>k a
 | .ex c fs=> .ex c fs
 | .stuck=> .stuck
def seqO (o:Out) (g:DSt→Out):Out:=match o with
 | .nx δ=>g δ
 |o=>o
section
variable {X:Cx} {xw:XW} {e:Expr} {f:DSt→Res D} {pos:Pos} {st:Stmt} {sts:List Stmt} {g g1 g2:DSt→Out}
theorem dss_nil:DSs X xw [] .nx:=PSs.weak pss_nil fun Dn σ H ⟨W₀,H₀,W,δ,st,q⟩=>q W H σ Step.refl st
theorem dss_cons (h1:DS X xw st g1) (h2:DSs X xw sts g2):DSs X xw (st::sts) (fun δ=>seqO (g1 δ) g2):=PSs.weak (pss_cons h1 h2) fun Dn σ H ⟨W₀,H₀,W,δ,st,q⟩=>by
 refine ⟨W₀,H₀,W,δ,st,?_⟩
 dsimp only at q
 cases h:g1 δ with
 |nx δ'=>
  rw [h] at q
  exact fun W' H' σ' k st'=>⟨W₀,H₀,W',δ',st',RS.step (o:=g2 δ') q k⟩
 |bk δ'=>rw [h] at q;exact q
 |ct δ'=>rw [h] at q;exact q
 |rt d=>rw [h] at q;exact q
 |ex c fs=>rw [h] at q;exact q
 |stuck=>rw [h] at q;exact q
theorem dss_one (h1:DS X xw st g1):DSs X xw [st] g1:=pss_one h1
theorem val_read {σ:L2.St} {H:Hp} {W₀ W:WS} {H₀:Hp} {δ:DSt} {k:D→Out} {Dn:Ends} {R:V→Hp→Prop} (st:StHas X.K W₀ H₀ W H σ δ) (q:RS X.K xw W₀ H₀ W H (ofR (f δ) k) Dn)
  (h:∀ H2 d v,StHas X.K W₀ H₀ W H2 σ δ→Has X.K W H2 d v→RS X.K xw W₀ H₀ W H2 (k d) Dn→R v H2):tDE X.K xw f σ H R:=by
 refine ⟨W₀,H₀,W,δ,st,?_⟩
 cases h1:f δ with
 |stuck=>rw [h1] at q;exact q
 |ex c fs=>rw [h1] at q;exact fun H' k'=>q H' (st.fr.ext.trans k')
 |ok d=>
  rw [h1] at q
  exact fun v H1 k1 hv=>h H1 d v (st.same k1) hv (RS.step (o:=k d) q (Step.same k1))
theorem ds_expr (he:DE X xw e f) (hs:swapsWith e none pos.line X.env=pure false:=by rfl):DS X xw (.Expr e pos) (fun δ=>ofR (f δ) fun _=> .nx δ):=PS.weak (ps_expr he hs) fun Dn σ H ⟨W₀,H₀,W,δ,st,q⟩=>
 val_read st q fun H2 d v st2 hv q2=>q2 W H2 σ Step.refl st2
theorem ds_ret (he:DE X xw e f):DS X xw (.Return (some e) pos) (fun δ=>ofR (f δ) fun d=> .rt d):=PS.weak (ps_ret he) fun Dn σ H ⟨W₀,H₀,W,δ,st,q⟩=>
 val_read st q fun H2 d v st2 hv q2=>q2 v H2 st2.fr.ext (Has.keep (fun _ _ e _=>e) st2.fr.wl (fun b z=> .inl (st2.fr.sub b z)) hv)
theorem ds_retV (i:Nat) {x:Str} {pos':Pos} (hN:X.N[i]? =some x:=by rfl) (hv:Vis X.env.scope x:=by first|exact Or.inl rfl|exact Or.inr (Or.inl rfl)|exact Or.inr (Or.inr rfl)) (hd:(x==("__debug__":Str))=false:=by decide)
  (hcd:(x==("__classdict__":Str))=false:=by decide):DS X xw (.Return (some (.Name x pos')) pos) (fun δ=>ofR (slotP i δ) fun d=> .rt d):=PS.weak (ps_ret (pe_var hN hv hd hcd)) fun Dn σ H ⟨W₀,H₀,W,δ,st,q⟩=>by
 have up:∀ b,W₀ b→W b∨H b=none:=fun b z=> .inl (st.fr.sub b z)
 unfold slotP at q
 dsimp only at q
 split at q
 ·rename_i d h
  obtain ⟨v,e,r⟩:=st.at' i _ h
  exact ⟨v,e,q v H st.fr.ext (Has.keep (fun _ _ e _=>e) st.fr.wl up r)⟩
 ·rename_i ds h
  obtain ⟨v,e,a,xs,r1,r2,r3,r4,r5⟩:=st.at' i _ h
  refine ⟨v,e,q v H st.fr.ext ?_⟩
  rw [Has]
  refine ⟨a,xs,r1, .inl ⟨r4,fun z=> ?_⟩,HasL.keep (fun _ _ e _=>e) st.fr.wl up r5⟩
  obtain ⟨ys,z',_⟩:=st.fr.wl0 a z
  rw [r3] at z';cases z'
 ·exact q.elim
theorem ds_set (i:Nat) {x:Str} {pos':Pos} (hN:X.N.Nodup) (he:DE X xw e f) (hi:X.N[i]? =some x:=by rfl) (hx:Loc X.env.scope x:=by first|exact Or.inl rfl|exact Or.inr rfl) (hs:swapsWith e (some (.Name x pos')) pos.line X.env=pure false:=by rfl)
  (hf:X.fn x=true∨X.env.scope.names.lookup x=some .local:=by first|exact .inl rfl|exact .inr rfl|assumption):DS X xw (.Assign [.Name x pos'] e pos) (fun δ=>ofR (f δ) fun d=> .nx (δ.set i (some (.d d)))):=
 PS.weak (ps_set hN hi hx he hs hf) fun Dn σ H ⟨W₀,H₀,W,δ,st,q⟩=>val_read st q fun H2 d v st2 hv q2=>q2 W H2 _ Step.refl (st2.set hv)
theorem new_read {σ:L2.St} {H:Hp} {W₀ W:WS} {H₀:Hp} {δ:DSt} {ff:DSt→Res (List D)} {i:Nat} {Dn:Ends} (st:StHas X.K W₀ H₀ W H σ δ) (q:RS X.K xw W₀ H₀ W H (ofR (ff δ) fun ds=> .nx (δ.set i (some (.o ds)))) Dn):
  tDF X.K xw ff σ H fun x H1=>gName i x σ H1 Dn.nx:=by
 refine ⟨W₀,H₀,W,δ,st,?_⟩
 cases h1:ff δ with
 |stuck=>rw [h1] at q;exact q
 |ex c fs=>rw [h1] at q;exact fun H' k'=>q H' (st.fr.ext.trans k')
 |ok ds=>
  rw [h1] at q
  intro a xs H1 k n r
  have st1:=(st.same k).own (i:=i) n r
  refine q _ _ _ ⟨fun b o e nb=> ?_,fun b z=>z.elim .inl fun z=> .inr (by rw [z];exact Same.free k n)⟩ st1
  rw [upd_ne (ne_of_none (k b o e) n)];exact k b o e
theorem ds_own (i:Nat) {x:Str} {pos':Pos} {ff:DSt→Res (List D)} (hN:X.N.Nodup) (he:DF X xw e ff) (hi:X.N[i]? =some x:=by rfl) (hx:Loc X.env.scope x:=by first|exact Or.inl rfl|exact Or.inr rfl) (hs:swapsWith e (some (.Name x pos')) pos.line X.env=pure false:=by rfl)
  (hf:X.fn x=true∨X.env.scope.names.lookup x=some .local:=by first|exact .inl rfl|exact .inr rfl|assumption):DS X xw (.Assign [.Name x pos'] e pos) (fun δ=>ofR (ff δ) fun ds=> .nx (δ.set i (some (.o ds)))):=
 PS.weak (ps_set hN hi hx he hs hf) fun Dn σ H ⟨W₀,H₀,W,δ,st,q⟩=>new_read st q
def ifO (c:Res Bool) (a b:Out):Out:=ofR c fun k=>if k=true then a else b
variable {c:Expr} {ga:DSt→Res Bool} {as bs:List Stmt}
theorem ds_if (hc:DT X xw c ga) (ha:DSs X xw as g1) (hb:DSs X xw bs g2):DS X xw (.If c as bs pos) (fun δ=>ifO (ga δ) (g1 δ) (g2 δ)):=PS.weak (ps_if hc ha hb) fun Dn σ H ⟨W₀,H₀,W,δ,st,q⟩=>by
 refine ⟨W₀,H₀,W,δ,st,?_⟩
 unfold ifO at q
 dsimp only at q
 cases h1:ga δ with
 |stuck=>rw [h1] at q;exact q
 |ex c fs=>rw [h1] at q;exact fun H' k'=>q H' (st.fr.ext.trans k')
 |ok k=>
  rw [h1] at q
  intro H1 k1
  have q':RS X.K xw W₀ H₀ W H (if k=true then g1 δ else g2 δ) Dn:=q
  cases k with
  |true=>rw [if_pos rfl] at q' ⊢;exact ⟨W₀,H₀,W,δ,st.same k1,q'.step (Step.same k1)⟩
  |false=>rw [if_neg Bool.false_ne_true] at q' ⊢;exact ⟨W₀,H₀,W,δ,st.same k1,q'.step (Step.same k1)⟩
def tDG (K:PySem.W.Frag) (t:D→DSt→Res DSt):TG:=fun v σ H Q=>∃ W₀ H₀ W δ d,StHas K W₀ H₀ W H σ δ∧Has K W H d v∧match t d δ with
 | .ok δ'=>∀ σ',StHas K W₀ H₀ W H σ' δ'→Q σ' H
 |_=>False
def DG (X:Cx) (tg:Expr) (t:D→DSt→Res DSt):Prop:=PG X tg (tDG X.K t)
theorem PG.weak {X:Cx} {tg:Expr} {t t':TG} (h:PG X tg t) (k:∀ v σ H Q,t' v σ H Q→t v σ H Q):PG X tg t':=fun pins s σ H v u Q I r q=>h pins s σ H v u Q I r (k v σ H Q q)
def setI (i:Nat) (d:D) (δ:DSt):Res DSt:= .ok (δ.set i (some (.d d)))
theorem dg_name (i:Nat) {x:Str} (hN:X.N.Nodup) (hi:X.N[i]? =some x:=by rfl) (hx:Loc X.env.scope x:=by first|exact Or.inl rfl|exact Or.inr rfl) (hf:X.fn x=true∨X.env.scope.names.lookup x=some .local:=by first|exact .inl rfl|exact .inr rfl|assumption):
  DG X (.Name x pos) (setI i):=PG.weak (pg_name hN hi hx hf) fun v σ H Q ⟨W₀,H₀,W,δ,d,st,hv,q⟩=>q _ (st.set hv)
def tDGs (K:PySem.W.Frag) (t:List D→DSt→Res DSt):TGs:=fun vs σ H Q=>∃ W₀ H₀ W δ ds,StHas K W₀ H₀ W H σ δ∧HasL K W H ds vs∧match t ds δ with
 | .ok δ'=>∀ σ',StHas K W₀ H₀ W H σ' δ'→Q σ' H
 |_=>False
def DGs (X:Cx) (tgs:List Expr) (t:List D→DSt→Res DSt):Prop:=PGs X tgs (tDGs X.K t)
theorem PGs.weak {X:Cx} {tg:List Expr} {t t':TGs} (h:PGs X tg t) (k:∀ v σ H Q,t' v σ H Q→t v σ H Q):PGs X tg t':=fun pins s σ H v u Q I r q=>h pins s σ H v u Q I r (k v σ H Q q)
def unNil (ds:List D) (δ:DSt):Res DSt:=match ds with
 | []=> .ok δ
 |_=> .stuck
def unCons (t:D→DSt→Res DSt) (r:List D→DSt→Res DSt) (ds:List D) (δ:DSt):Res DSt:=match ds with
 |d::ds=>(t d δ).bind fun δ'=>r ds δ'
 | []=> .stuck
variable {tg:Expr} {tgs:List Expr} {t:D→DSt→Res DSt} {ts:List D→DSt→Res DSt}
theorem dgs_nil:DGs X [] unNil:=PGs.weak pgs_nil fun vs σ H Q ⟨W₀,H₀,W,δ,ds,st,hv,q⟩=>by
 unfold unNil at q
 cases ds with
 |nil=>rw [HasL] at hv;exact ⟨hv,q σ st⟩
 |cons=>exact q.elim
theorem dgs_cons (h1:DG X tg t) (h2:DGs X tgs ts) (hs:(assignEach (tg::tgs) X.env).map (·.2)=assign tg X.env::(assignEach tgs X.env).map (·.2):=by rfl):DGs X (tg::tgs) (unCons t ts):=
 PGs.weak (pgs_cons h1 h2 hs) fun vs σ H Q ⟨W₀,H₀,W,δ,ds,st,hv,q⟩=>by
  unfold unCons at q
  cases ds with
  |nil=>exact q.elim
  |cons d ds=>
   rw [HasL] at hv
   obtain ⟨x,r,e,h,hr⟩:=hv
   refine ⟨x,r,e,W₀,H₀,W,δ,d,st,h,?_⟩
   dsimp only at q
   cases h1:t d δ with
   |stuck=>rw [h1] at q;exact q
   |ex c fs=>rw [h1] at q;exact q
   |ok δ'=>
    rw [h1] at q
    exact fun σ' st'=>⟨W₀,H₀,W,δ',ds,st',hr,q⟩
def unTup (n:Nat) (ts:List D→DSt→Res DSt) (d:D) (δ:DSt):Res DSt:=match d with
 | .tup ds=>if ds.length=n then ts ds δ else .stuck
 |_=> .stuck
theorem dg_tup {k:Nat} {n:Nat} (hc:X.calm=true) (h:DGs X tgs ts) (hn:(assignEach tgs X.env).length=n:=by rfl) (hst:(assignEach tgs X.env).findIdx? (·.1)=none:=by rfl):DG X (.Tuple tgs k pos) (unTup n ts):=
 PG.weak (pg_tup hc h hn hst) fun v σ H Q ⟨W₀,H₀,W,δ,d,st,hv,q⟩=>by
  unfold unTup at q
  cases d with
  |tup ds=>
   dsimp only at q
   split at q
   ·rename_i hl
    split at hl
    ·rename_i hl'
     rw [Has] at hv
     obtain ⟨a,xs,e,sq,r⟩:=hv
     refine ⟨a,xs,e,sq,by rw [←r.length];exact hl',W₀,H₀,W,δ,ds,st,r,?_⟩
     rw [hl]
     exact q
    ·cases hl
   ·exact q.elim
  |_=>exact q.elim
theorem ds_asg (he:DE X xw e f) (hg:DG X tg t) (hs:swapsWithSole [tg] e pos.line X.env=pure false:=by rfl) (hw:swappedStores [tg] e X.env=pure none:=by rfl)
  (h1:(assignEach [tg] X.env).map (·.2)= [assign tg X.env]:=by rfl):DS X xw (.Assign [tg] e pos) (fun δ=>ofR (f δ) fun d=>match t d δ with| .ok δ'=> .nx δ'|_=> .stuck):=
 PS.weak (ps_asg he hg hs hw h1) fun Dn σ H ⟨W₀,H₀,W,δ,st,q⟩=>val_read st q fun H2 d v st2 hv q2=>by
  refine ⟨W₀,H₀,W,δ,d,st2,hv,?_⟩
  split at q2
  ·exact fun σ' st'=>q2 W H2 σ' Step.refl st'
  ·exact q2.elim
def ItOk (K:PySem.W.Frag) (W:WS) (H:Hp) (J:It) (ds:List D):Prop:=∀ W' H2,Step W H W' H2→WL W' H2→
 (∀ i d,ds[i]? =some d→J.go i H2∧∀ x H3,J.yld i H2 x H3→Same H2 H3∧Has K W' H3 d x)∧J.stop ds.length H2
def tDI (K:PySem.W.Frag) (xw:XW) (f:DSt→Res (List D)):TI:=fun σ H R=>∃ W₀ H₀ W δ,StHas K W₀ H₀ W H σ δ∧match f δ with
 | .ok ds=>∀ J H',Same H H'→ItOk K W H' J ds→R J H'
 | .ex c fs=>∀ H',Same H H'→xw c fs H'
 | .stuck=>False
def DI (X:Cx) (xw:XW) (tg iter:Expr) (f:DSt→Res (List D)):Prop:=PI X tg iter (tDI X.K xw f)
theorem PI.weak {X:Cx} {tg iter:Expr} {t t':TI} (h:PI X tg iter t) (k:∀ σ H R,t' σ H R→t σ H R):PI X tg iter t':=fun pins s σ H R I q=>h pins s σ H R I (k σ H R q)
theorem SqL.lr {K:PySem.W.Frag} {W W':WS} {H H2:Hp} {a:Addr} {xs:List V} (h:LR K W H a xs) (k:Step W H W' H2) (w:WL W H):LR K W' H2 a xs:=h.keep k.keep w k.new
theorem itl_ok {K:PySem.W.Frag} {W:WS} {H:Hp} {a:Addr} {xs:List V} {ds:List D} (w:WL W H) (h:LR K W H a xs) (r:HasL K W H ds xs):ItOk K W H (Itl K a) ds:=by
 intro W' H2 k w2
 have h2:=(SqL.lr h k w).sq
 refine ⟨fun i d e=> ?_,xs,h2,by rw [r.length];exact Nat.le_refl _⟩
 obtain ⟨x,e1,hx⟩:=r.get e
 refine ⟨⟨xs,x,h2,e1⟩,fun y H3 z=> ?_⟩
 obtain ⟨rfl,z⟩:=z
 have:y=x:=by
  have q:=z xs h2
  rw [e1] at q;exact (Option.some.inj q).symm
 subst this
 exact ⟨Same.refl _,Has.keep k.keep w k.new hx⟩
theorem itt_ok {K:PySem.W.Frag} {W:WS} {H:Hp} {a:Addr} {xs:List V} {ds:List D} (w:WL W H) (h:SqT K H a xs) (r:HasL K W H ds xs):ItOk K W H (Itt K a) ds:=by
 intro W' H2 k w2
 have h2:=sqT_keep k.keep w h
 refine ⟨fun i d e=> ?_,xs,h2,by rw [r.length];exact Nat.le_refl _⟩
 obtain ⟨x,e1,hx⟩:=r.get e
 refine ⟨⟨xs,x,h2,e1⟩,fun y H3 z=> ?_⟩
 obtain ⟨rfl,z⟩:=z
 have:y=x:=by
  have q:=z xs h2
  rw [e1] at q;exact (Option.some.inj q).symm
 subst this
 exact ⟨Same.refl _,Has.keep k.keep w k.new hx⟩
def rngD (lo:Int) (n:Nat):List D:=(List.range n).map fun (i:Nat)=>D.int (lo+i)
theorem itr_ok {K:PySem.W.Frag} {W:WS} {H:Hp} (lo:Int) (n:Nat):ItOk K W H (Itr lo n) (rngD lo n):=by
 intro W' H2 k w2
 unfold rngD
 refine ⟨fun i d e=> ?_,by simp [Itr]⟩
 rw [List.getElem?_map] at e
 have hi:i<n:=by
  refine Nat.lt_of_not_le fun z=> ?_
  rw [List.getElem?_eq_none (by simpa using z)] at e;cases e
 rw [List.getElem?_range hi] at e
 have e':D.int (lo+(i:Nat))=d:=Option.some.inj e
 subst e'
 refine ⟨hi,fun x H3 z=> ?_⟩
 obtain ⟨rfl,rfl⟩:=z
 exact ⟨Same.refl _,by rw [Has]⟩
noncomputable def rng1R (ds:List D):Res (List D):=match ds with
 | [.int j]=>@ite (Res (List D)) (-(2^62)≤j∧j<2^62) (Classical.propDecidable _) (.ok (rngD 0 j.toNat)) .stuck
 |_=> .stuck
theorem HasL.one {K:PySem.W.Frag} {W:WS} {H:Hp} {i:Int} {vs:List V} (h:HasL K W H [.int i] vs):vs= [.int i]:=by
 rw [HasL] at h
 obtain ⟨x,r,rfl,h1,h2⟩:=h
 rw [HasL] at h2
 rw [Has] at h1
 rw [h1,h2]
theorem HasL.two {K:PySem.W.Frag} {W:WS} {H:Hp} {i j:Int} {vs:List V} (h:HasL K W H [.int i, .int j] vs):vs= [.int i, .int j]:=by
 rw [HasL] at h
 obtain ⟨x,r,rfl,h1,h2⟩:=h
 rw [Has] at h1
 rw [h1,h2.one]
variable {a b:Expr} {fs:DSt→Res (List D)} {p:Pos}
theorem di_range1 (hm:X.mg "range"=none) (ha:DA X xw [a] fs) (hg:Gl X "range":=by rfl) (hs:starEach [a] X.env= [(false,eval a X.env)]:=by rfl):DI X xw tg (.Call (.Name "range" p) [a] [] pos) (fun δ=>(fs δ).bind rng1R):=
 PI.weak (pi_range1 hg hm ha hs) fun σ H R ⟨W₀,H₀,W,δ,st,q⟩=>by
  refine ⟨W₀,H₀,W,δ,st,?_⟩
  dsimp only at q
  cases h1:fs δ with
  |stuck=>rw [h1] at q;exact q
  |ex c fs=>rw [h1] at q;exact q
  |ok ds=>
   rw [h1] at q
   intro vs H1 k1 hv
   dsimp only [Res.bind] at q
   unfold rng1R at q
   split at q
   ·rename_i ds' hq
    split at hq
    ·rename_i j
     split at hq
     ·rename_i hj
      have e':rngD 0 j.toNat=ds':=by cases hq;rfl
      subst e'
      exact ⟨j,hv.one,hj.1,hj.2,q _ H1 k1 (itr_ok 0 _)⟩
     ·cases hq
    ·cases hq
   ·rename_i hq
    split at hq
    ·split at hq<;>cases hq
    ·cases hq
   ·exact q.elim
def forD (t:D→DSt→Res DSt) (body:DSt→Out):List D→DSt→Out
 | [],δ=> .nx δ
 |d::ds,δ=>match t d δ with
  | .ok δ'=>match body δ' with
   | .nx δ2=>forD t body ds δ2
   | .ct δ2=>forD t body ds δ2
   | .bk δ2=> .nx δ2
   | .rt d=> .rt d
   | .ex c fs=> .ex c fs
   | .stuck=> .stuck
  |_=> .stuck
theorem ds_for {iter:Expr} {fi:DSt→Res (List D)} (hp:PassesOwn (model X.prog X.w) X.A X.env X.xe) (hc:X.calm=true) (hi:DI X xw tg iter fi) (hg:DG X tg t) (hb:DSs X xw sts g)
  (hs:∀ x,foldedSetIterable iter X.env x=pure x:=by intro _;rfl):DS X xw (.For tg iter sts [] pos) (fun δ=>ofR (fi δ) fun ds=>forD t g ds δ):=
 PS.weak (ps_for hp hc hi hg hb hs) fun Dn σ H ⟨W₀,H₀,W,δ,st,q⟩=>by
  refine ⟨W₀,H₀,W,δ,st,?_⟩
  dsimp only at q
  cases h1:fi δ with
  |stuck=>rw [h1] at q;exact q
  |ex c fs=>rw [h1] at q;exact fun H' k'=>q H' (st.fr.ext.trans k')
  |ok ds=>
   rw [h1] at q
   intro J H1 k1 it
   have q1:RS X.K xw W₀ H₀ W H1 (forD t g ds δ) Dn:=RS.step (o:=forD t g ds δ) q (Step.same k1)
   refine ⟨fun i m σ' H'=>∃ W' δ',m=ds.length-i∧i≤ds.length∧StHas X.K W₀ H₀ W' H' σ' δ'∧Step W H1 W' H'∧RS X.K xw W₀ H₀ W' H' (forD t g (ds.drop i) δ') Dn,
    ⟨_,W,δ,rfl,Nat.zero_le _,st.same k1,Step.refl,q1⟩,?_⟩
   rintro i m σ' H' ⟨W',δ',rfl,hi,st',k',q'⟩
   obtain ⟨items,stop⟩:=it W' H' k' st'.fr.wl
   by_cases hl:i<ds.length
   ·right
    have e:ds[i]? =some ds[i]:=List.getElem?_eq_getElem hl
    obtain ⟨go,yld⟩:=items i _ e
    have ed:ds.drop i=ds[i]::ds.drop (i+1):=List.drop_eq_getElem_cons hl
    rw [ed] at q'
    unfold forD at q'
    refine ⟨go,fun σ2 H2=>∃ W2 δ2,StHas X.K W₀ H₀ W2 H2 σ2 δ2∧Step W H1 W2 H2∧RS X.K xw W₀ H₀ W2 H2 (forD t g (ds.drop (i+1)) δ2) Dn,fun σ2 H2 ⟨W2,δ2,a1,a2,a3⟩=>⟨ds.length-(i+1),by omega,W2,δ2,rfl,hl,a1,a2,a3⟩,fun x H3 z=> ?_⟩
    obtain ⟨k3,hx⟩:=yld x H3 z
    refine ⟨W₀,H₀,W',δ',ds[i],st'.same k3,hx,?_⟩
    cases h2:t ds[i] δ' with
    |stuck=>rw [h2] at q';exact q'
    |ex c fs=>rw [h2] at q';exact q'
    |ok δ2=>
     rw [h2] at q'
     intro σ2 st2
     refine ⟨W₀,H₀,W',δ2,st2,?_⟩
     dsimp only at q'
     have kk:Step W' H' W' H3:=Step.same k3
     cases h3:g δ2 with
     |nx δ3=>rw [h3] at q';exact fun W3 H4 σ3 k4 st3=>⟨W3,δ3,st3,(k'.trans kk).trans k4,RS.step (o:=forD t g (ds.drop (i+1)) δ3) q' (kk.trans k4)⟩
     |ct δ3=>rw [h3] at q';exact fun W3 H4 σ3 k4 st3=>⟨W3,δ3,st3,(k'.trans kk).trans k4,RS.step (o:=forD t g (ds.drop (i+1)) δ3) q' (kk.trans k4)⟩
     |bk δ3=>rw [h3] at q';exact fun W3 H4 σ3 k4 st3=>q' W3 H4 σ3 (kk.trans k4) st3
     |rt d=>rw [h3] at q';exact q'
     |ex c fs=>rw [h3] at q';exact q'
     |stuck=>rw [h3] at q';exact q'
   ·left
    have ei:i=ds.length:=by omega
    subst ei
    rw [List.drop_length] at q'
    exact ⟨stop,q' W' H' σ' Step.refl st'⟩
def whileD (c:DSt→Res Bool) (body:DSt→Out):Nat→DSt→Out
 |0,_=> .stuck
 |n+1,δ=>match c δ with
  | .ok true=>match body δ with
   | .nx δ2=>whileD c body n δ2
   | .ct δ2=>whileD c body n δ2
   | .bk δ2=> .nx δ2
   | .rt d=> .rt d
   | .ex c fs=> .ex c fs
   | .stuck=> .stuck
  | .ok false=> .nx δ
  | .ex c fs=> .ex c fs
  | .stuck=> .stuck
theorem ds_while (n:Nat) (hp:PassesOwn (model X.prog X.w) X.A X.env X.xe) (hc:DT X xw c ga) (hb:DSs X xw sts g):DS X xw (.While c sts [] pos) (fun δ=>whileD ga g n δ):=
 PS.weak (ps_while hp hc hb) fun Dn σ H ⟨W₀,H₀,W,δ,st,q⟩=>by
  refine ⟨fun m σ' H'=>∃ W' δ',StHas X.K W₀ H₀ W' H' σ' δ'∧RS X.K xw W₀ H₀ W' H' (whileD ga g m δ') Dn,⟨n,W,δ,st,q⟩,?_⟩
  rintro m σ' H' ⟨W',δ',st',q'⟩
  cases m with
  |zero=>exact q'.elim
  |succ m=>
   unfold whileD at q'
   refine ⟨W₀,H₀,W',δ',st',?_⟩
   cases h1:ga δ' with
   |stuck=>rw [h1] at q';exact q'
   |ex c fs=>rw [h1] at q';exact fun H2 k2=>q' H2 (st'.fr.ext.trans k2)
   |ok k=>
    rw [h1] at q'
    intro H2 k2
    cases k with
    |false=>rw [if_neg Bool.false_ne_true];exact q' W' H2 σ' (Step.same k2) (st'.same k2)
    |true=>
     rw [if_pos rfl]
     refine ⟨fun σ3 H3=>∃ W3 δ3,StHas X.K W₀ H₀ W3 H3 σ3 δ3∧RS X.K xw W₀ H₀ W3 H3 (whileD ga g m δ3) Dn,fun σ3 H3 z=>⟨m,Nat.lt_succ_self m,z⟩,W₀,H₀,W',δ',st'.same k2,?_⟩
     dsimp only at q'
     have kk:Step W' H' W' H2:=Step.same k2
     cases h3:g δ' with
     |nx δ3=>rw [h3] at q';exact fun W3 H4 σ3 k4 st3=>⟨W3,δ3,st3,RS.step (o:=whileD ga g m δ3) q' (kk.trans k4)⟩
     |ct δ3=>rw [h3] at q';exact fun W3 H4 σ3 k4 st3=>⟨W3,δ3,st3,RS.step (o:=whileD ga g m δ3) q' (kk.trans k4)⟩
     |bk δ3=>rw [h3] at q';exact fun W3 H4 σ3 k4 st3=>q' W3 H4 σ3 (kk.trans k4) st3
     |rt d=>rw [h3] at q';exact q'
     |ex c fs=>rw [h3] at q';exact q'
     |stuck=>rw [h3] at q';exact q'
end
end L3
namespace L3
open PySem PySem.Spec PyProof.Rows L2 SeqAt
def noex {α:Type}:Res α→Res α
 | .ok a=> .ok a
 |_=> .stuck
def compD (t:D→DSt→Res DSt) (c:DSt→Res Bool) (fe:DSt→Res D):List D→DSt→Res (List D)
 | [],_=> .ok []
 |d::ds,δ=>match t d δ with
  | .ok δ'=>(noex (c δ')).bind fun k=>if k=true then (noex (fe δ')).bind fun x=>(compD t c fe ds δ').bind fun r=> .ok (x::r) else compD t c fe ds δ'
  |_=> .stuck
abbrev xwF:XW:=fun _ _ _=>False
section
variable {K:PySem.W.Frag} {W₀ W:WS} {H₀ H:Hp} {σ:L2.St} {δ:DSt} {a:Addr}
theorem StHas.acc {xs ys:List V} (h:StHas K W₀ (upd H₀ a (.lst xs)) W H σ δ) (ha:H a=some (.lst xs)) (hW:W a):StHas K W₀ (upd H₀ a (.lst ys)) W (upd H a (.lst ys)) σ δ:=by
 have kk:Keep W H (upd H a (.lst ys)):=fun b o e n=>by
  rw [upd_ne (fun z=>n (by rw [z];exact hW))];exact e
 have hw:∀ b,W b→W b∨H b=none:=fun b z=> .inl z
 have fr':FrOk W₀ (upd H₀ a (.lst ys)) W (upd H a (.lst ys)):=by
  refine ⟨fun b o e=> ?_,h.fr.sub,fun b z=> ?_,fun b z=> ?_⟩
  ·by_cases hb:b=a
   ·subst hb;rw [upd_same] at e ⊢;exact e
   ·rw [upd_ne hb] at e ⊢
    exact h.fr.ext b o (by rw [upd_ne hb];exact e)
  ·by_cases hb:b=a
   ·rw [hb];exact ⟨_,upd_same,trivial⟩
   ·rw [upd_ne hb];exact h.fr.wl b z
  ·by_cases hb:b=a
   ·rw [hb];exact ⟨_,upd_same,trivial⟩
   ·have:=h.fr.wl0 b z
    rw [upd_ne hb] at this ⊢;exact this
 have na:∀ (j:Nat) (s:S) (v:V) (b:Addr),δ[j]? =some (some s)→σ[j]? =some (some v)→Owns H s v b→b≠a:=fun j s v b e e' o z=>by
  obtain ⟨v',h1,h2⟩:=h.at' j s e
  rw [e'] at h1;cases h1
  obtain ⟨_,g,_⟩:=h2.owns o
  rw [z,upd_same] at g;cases g
 have bk:∀ (j:Nat) (s:S) (v:V) (b:Addr),δ[j]? =some (some s)→σ[j]? =some (some v)→Owns (upd H a (.lst ys)) s v b→Owns H s v b:=fun j s v b e e' o=>by
  obtain ⟨v',h1,h2⟩:=h.at' j s e
  rw [e'] at h1;cases h1
  refine Owns.back h2 (fun c xs ec z=> ?_) o
  subst ec
  cases s with
  |d y=>exact o.elim
  |o ds=>rw [upd_ne (na j _ _ c e e' rfl)];exact z
  |q ks ds=>rw [upd_ne (na j _ _ c e e' rfl)];exact z
  |w dss=>rw [upd_ne (na j _ _ c e e' (.inl rfl))];exact z
 refine ⟨fr',h.len,fun j s e=> ?_,fun i j s t u v b ij e1 e2 e3 e4 o1 o2=>h.ap i j s t u v b ij e1 e2 e3 e4 (bk i s u b e1 e3 o1) (bk j t v b e2 e4 o2)⟩
 obtain ⟨v,h1,h2⟩:=h.at' j s e
 refine ⟨v,h1,?_⟩
 cases s with
 |d x=>exact Has.keep kk h.fr.wl hw h2
 |o ds'=>
  obtain ⟨b,zs,e',g1,g2,g3,g4⟩:=h2
  have hb:b≠a:=fun z=>by
   rw [z,upd_same] at g2;cases g2
  rw [upd_ne hb] at g2
  exact ⟨b,zs,e',g1,by rw [upd_ne hb];exact g2,by rw [upd_ne hb];exact g3,HasL.keep kk h.fr.wl hw g4⟩
 |q ks' ds'=>
  obtain ⟨b,zs,e',g1,g2,g3,g4,g5⟩:=h2
  have hb:b≠a:=fun z=>by
   rw [z,upd_same] at g2;cases g2
  rw [upd_ne hb] at g2
  exact ⟨b,zs,e',g1,by rw [upd_ne hb];exact g2,by rw [upd_ne hb];exact g3,g4,HasL.keep kk h.fr.wl hw g5⟩
 |w dss=>
  obtain ⟨b,bs,e',g1,g2,g3,g4,g5,g6,g7⟩:=h2
  have hb:b≠a:=fun z=>by
   rw [z,upd_same] at g2;cases g2
  rw [upd_ne hb] at g2
  refine ⟨b,bs,e',g1,by rw [upd_ne hb];exact g2,by rw [upd_ne hb];exact g3,g4,g5,g6,fun i c ds e1 e2=> ?_⟩
  obtain ⟨f1,f2,xs',f3,f4⟩:=g7 i c ds e1 e2
  have hc:c≠a:=fun z=>by
   rw [z,upd_same] at f2;cases f2
  rw [upd_ne hc] at f2
  exact ⟨f1,by rw [upd_ne hc];exact f2,xs',by rw [upd_ne hc];exact f3,HasL.keep kk h.fr.wl hw f4⟩
theorem StHas.block (n:Nat) (h:StHas K W₀ H₀ W H σ δ) (ha:H a=none):StHas K W₀ (upd H₀ a (.lst [])) (fun b=>W b∨b=a) (upd H a (.lst [])) (List.replicate n none++σ) (List.replicate n none++δ):=by
 have hw:∀ b,(W b∨b=a)→W b∨H b=none:=fun b z=>z.elim .inl fun z=> .inr (by rw [z];exact ha)
 have k:Same H (upd H a (.lst [])):=same_upd ha
 have kk:Keep W H (upd H a (.lst [])):=Same.keep k
 have ha0:H₀ a=none:=Same.free h.fr.ext ha
 have fr':FrOk W₀ (upd H₀ a (.lst [])) (fun b=>W b∨b=a) (upd H a (.lst [])):=by
  refine ⟨fun b o e=> ?_,fun b z=> .inl (h.fr.sub b z),fun b z=>z.elim (h.fr.wl.same k b) fun z=>by rw [z];exact ⟨_,upd_same,trivial⟩,h.fr.wl0.same (same_upd ha0)⟩
  by_cases hb:b=a
  ·subst hb;rw [upd_same] at e ⊢;exact e
  ·rw [upd_ne hb] at e ⊢
   exact h.fr.ext b o e
 have idx:∀ {α:Type} (l:List (Option α)) (j:Nat) (x:α),(List.replicate n none++l)[j]? =some (some x)→n≤j∧l[j-n]? =some (some x):=fun l j x e=>by
  by_cases hj:j<n
  ·rw [List.getElem?_append_left (by simpa using hj),List.getElem?_replicate] at e
   split at e<;>cases e
  ·refine ⟨Nat.le_of_not_lt hj,?_⟩
   rw [List.getElem?_append_right (by simpa using hj),List.length_replicate] at e;exact e
 have back:∀ {α:Type} (l:List (Option α)) (j:Nat) (x:Option α),n≤j→l[j-n]? =some x→(List.replicate n none++l)[j]? =some x:=fun l j x hj e=>by
  rw [List.getElem?_append_right (by simpa using hj),List.length_replicate];exact e
 refine ⟨fr',by simp [h.len],fun j s e=> ?_,fun i j s1 s2 u u' b hij e1 e2 e3 e4 os ot=> ?_⟩
 ·obtain ⟨hj,e⟩:=idx _ _ _ e
  obtain ⟨v,h1,h2⟩:=h.at' _ s e
  refine ⟨v,back _ _ _ hj h1,?_⟩
  cases s with
  |d x=>exact Has.keep kk h.fr.wl hw h2
  |o ds'=>
   obtain ⟨b,ys,e',g1,g2,g3,g4⟩:=h2
   have hb:b≠a:=ne_of_none g3 ha
   exact ⟨b,ys,e', .inl g1,by rw [upd_ne hb];exact g2,k _ _ g3,HasL.keep kk h.fr.wl hw g4⟩
  |q ks' ds'=>
   obtain ⟨b,ys,e',g1,g2,g3,g4,g5⟩:=h2
   have hb:b≠a:=ne_of_none g3 ha
   exact ⟨b,ys,e', .inl g1,by rw [upd_ne hb];exact g2,k _ _ g3,g4,HasL.keep kk h.fr.wl hw g5⟩
  |w dss=>
   obtain ⟨b,bs,e',g1,g2,g3,g4,g5,g6,g7⟩:=h2
   have hb:b≠a:=ne_of_none g3 ha
   refine ⟨b,bs,e', .inl g1,by rw [upd_ne hb];exact g2,k _ _ g3,g4,g5,g6,fun i c ds e1 e2=> ?_⟩
   obtain ⟨f1,f2,xs',f3,f4⟩:=g7 i c ds e1 e2
   have hc:c≠a:=ne_of_none f3 ha
   exact ⟨.inl f1,by rw [upd_ne hc];exact f2,xs',k _ _ f3,HasL.keep kk h.fr.wl hw f4⟩
 ·obtain ⟨hi,e1⟩:=idx _ _ _ e1
  obtain ⟨hj,e2⟩:=idx _ _ _ e2
  obtain ⟨_,e3⟩:=idx _ _ _ e3
  obtain ⟨_,e4⟩:=idx _ _ _ e4
  have bk:∀ (j:Nat) (s:S) (v:V),δ[j]? =some (some s)→σ[j]? =some (some v)→Owns _ s v b→Owns H s v b:=fun j s v e e' o=>by
   obtain ⟨v',h1,h2⟩:=h.at' j s e
   rw [e'] at h1;cases h1
   exact Owns.back h2 (fun c xs _ z=>k _ _ z) o
  exact h.ap (i-n) (j-n) s1 s2 u u' b (by omega) e1 e2 e3 e4 (bk _ _ _ e1 e3 os) (bk _ _ _ e2 e4 ot)
end
section
variable {X:Cx} {xw:XW} {scope:Scope} {elt tg iter e:Expr} {ifs:List Expr} {pos:Pos} {fi:DSt→Res (List D)} {t:D→DSt→Res DSt} {gc:DSt→Res Bool} {fe f:DSt→Res D}
noncomputable def compR (n:Nat) (t:D→DSt→Res DSt) (gc:DSt→Res Bool) (fe:DSt→Res D) (δ:DSt) (ds:List D):Res (List D):=@ite (Res (List D)) (ds.length≤100000) (Classical.propDecidable _) (noex (compD t gc fe ds (List.replicate n none++δ))) .stuck
def DTs (X:Cx) (ifs:List Expr) (g:DSt→Res Bool):Prop:=PTs X ifs (tDT X.K xwF g)
theorem dts_nil:DTs X [] (fun _=> .ok true):=fun pins s σ H Q I ⟨_,_,_,_,_,q⟩=>pts_nil pins s σ H Q I (q H (Same.refl H))
theorem dts_one {c:Expr} (h:DT X xwF c gc):DTs X [c] gc:=pts_one h
theorem comp_read {Nc:Nat} {σ:L2.St} {H:Hp} {Q:VK} (q:tDF X.K xw (fun δ=>(fi δ).bind fun ds=>compR Nc t gc fe δ ds) σ H Q):
  tComp Nc (tDI X.K xw fi) (tDG X.K t) (tDT X.K xwF gc) (tDE X.K xwF fe) σ H Q:=by
 obtain ⟨W₀,H₀,W,δ,st,q⟩:=q
 refine ⟨W₀,H₀,W,δ,st,?_⟩
 dsimp only at q
 cases h1:fi δ with
 |stuck=>rw [h1] at q;exact q
 |ex c fs=>rw [h1] at q;exact q
 |ok ds=>
  rw [h1] at q
  intro J H1 k1 it a ha
  have q1:RF X.K xw W H (compR Nc t gc fe δ ds) Q:=q
  unfold compR at q1
  split at q1
  case isFalse=>exact q1.elim
  rename_i hlen
  have st1:=st.same k1
  cases hc:compD t gc fe ds (List.replicate Nc none++δ) with
  |stuck=>rw [hc] at q1;exact q1.elim
  |ex c fs=>rw [hc] at q1;exact q1.elim
  |ok all=>
  rw [hc] at q1
  have q2:∀ a xs H1,Same H H1→H1 a=none→HasL X.K W H1 all xs→Q (.ref a) (upd H1 a (.lst xs)):=q1
  refine ⟨fun i m xs σ' H'=>∃ δ' acc rest,m=ds.length-i∧i≤ds.length∧StHas X.K W₀ (upd H₀ a (.lst xs)) (fun b=>W b∨b=a) H' σ' δ'∧H' a=some (.lst xs)∧(∀ b o,H1 b=some o→H' b=some o)∧
    HasL X.K (fun b=>W b∨b=a) H' acc xs∧compD t gc fe (ds.drop i) δ'= .ok rest∧acc++rest=all∧xs.length≤i,
   ⟨_,List.replicate Nc none++δ,[],all,rfl,Nat.zero_le _,st1.block Nc ha,upd_same,fun b o e=>by rw [upd_ne (ne_of_none e ha)];exact e,HasL.nil,hc,rfl,Nat.zero_le _⟩,?_⟩
  rintro i m xs σ' H' ⟨δ',acc,rest,rfl,hi,st',hxs,ks,hacc,hrest,hall,hxl⟩
  refine ⟨hxs,?_⟩
  have k':Step W H1 (fun b=>W b∨b=a) H':=⟨fun b o e _=>ks b o e,fun b z=>z.elim .inl fun z=> .inr (by rw [z];exact ha)⟩
  obtain ⟨items,stop⟩:=it _ H' k' st'.fr.wl
  by_cases hl:i<ds.length
  ·right
   have e:ds[i]? =some ds[i]:=List.getElem?_eq_getElem hl
   obtain ⟨go,yld⟩:=items i _ e
   have ed:ds.drop i=ds[i]::ds.drop (i+1):=List.drop_eq_getElem_cons hl
   rw [ed] at hrest
   unfold compD at hrest
   refine ⟨go,fun x H3 z=> ?_⟩
   obtain ⟨k3,hx⟩:=yld x H3 z
   refine ⟨W₀,_,_,δ',ds[i],st'.same k3,hx,?_⟩
   cases h2:t ds[i] δ' with
   |stuck=>rw [h2] at hrest;cases hrest
   |ex c fs=>rw [h2] at hrest;cases hrest
   |ok δ2=>
    rw [h2] at hrest
    dsimp only at hrest
    intro σ2 st2
    refine ⟨W₀,_,_,δ2,st2,?_⟩
    cases h3:gc δ2 with
    |stuck=>rw [h3] at hrest;cases hrest
    |ex c fs=>rw [h3] at hrest;cases hrest
    |ok k=>
     rw [h3] at hrest
     intro H4 k4
     cases k with
     |false=>
      rw [if_neg Bool.false_ne_true]
      have hr':compD t gc fe (ds.drop (i+1)) δ2= .ok rest:=hrest
      exact ⟨ds.length-(i+1),by omega,δ2,acc,rest,rfl,hl,st2.same k4,k4 _ _ (k3 _ _ hxs),fun b o e=>k4 _ _ (k3 _ _ (ks b o e)),(hacc.same k3 st'.fr.wl).same k4 (st'.fr.wl.same k3),hr',hall,by omega⟩
     |true=>
      rw [if_pos rfl]
      have hr':(noex (fe δ2)).bind (fun x=>(compD t gc fe (ds.drop (i+1)) δ2).bind fun r=> .ok (x::r))= .ok rest:=hrest
      refine ⟨W₀,_,_,δ2,st2.same k4,?_⟩
      cases h5:fe δ2 with
      |stuck=>rw [h5] at hr';cases hr'
      |ex c fs=>rw [h5] at hr';cases hr'
      |ok y=>
       rw [h5] at hr'
       intro v H5 k5 hv
       have hr2:(compD t gc fe (ds.drop (i+1)) δ2).bind (fun r=> .ok (y::r))= .ok rest:=hr'
       cases h6:compD t gc fe (ds.drop (i+1)) δ2 with
       |stuck=>rw [h6] at hr2;cases hr2
       |ex c fs=>rw [h6] at hr2;cases hr2
       |ok r=>
        rw [h6] at hr2
        have er:y::r=rest:=by cases hr2;rfl
        have h5a:H5 a=some (.lst xs):=k5 _ _ (k4 _ _ (k3 _ _ hxs))
        have w3:=st'.fr.wl.same k3
        have w4:=w3.same k4
        have w5:=w4.same k5
        have acc5:=((hacc.same k3 st'.fr.wl).same k4 w3).same k5 w4
        have kk:Keep (fun b=>W b∨b=a) H5 (upd H5 a (.lst (xs++ [v]))):=fun b o e n=>by
         rw [upd_ne (fun z=>n (.inr z))];exact e
        have sz:sizeLine=16777216:=sizeLine_eq
        refine ⟨h5a,by omega,ds.length-(i+1),by omega,δ2,acc++ [y],r,rfl,hl,((st2.same k4).same k5).acc h5a (.inr rfl),upd_same,fun b o e=> ?_,HasL.keep kk w5 (fun b z=> .inl z) (acc5.snoc hv),h6,?_,?_⟩
        ·rw [upd_ne (ne_of_none e ha)];exact k5 _ _ (k4 _ _ (k3 _ _ (ks b o e)))
        ·rw [List.append_assoc];show acc++(y::r)=all;rw [er];exact hall
        ·rw [List.length_append,List.length_singleton];omega
  ·left
   have ei:i=ds.length:=by omega
   subst ei
   rw [List.drop_length] at hrest
   unfold compD at hrest
   have er:rest= []:=by cases hrest;rfl
   subst er
   rw [List.append_nil] at hall
   subst hall
   refine ⟨stop,?_⟩
   have hm:(fun b=>if b=a then none else H' b:Hp) a=none:=if_pos rfl
   have eu:upd (fun b=>if b=a then none else H' b:Hp) a (.lst xs)=H':=by
    funext b
    by_cases hb:b=a
    ·rw [hb,upd_same,hxs]
    ·rw [upd_ne hb,if_neg hb]
   have r:=q2 a xs (fun b=>if b=a then none else H' b) (fun b o e=>by
    have e1:=k1 b o e
    show (if b=a then none else H' b)=some o
    rw [if_neg (ne_of_none e1 ha)];exact ks b o e1) hm (HasL.keep (W:=fun b=>W b∨b=a) (W':=W) (fun b o e n=>by show (if b=a then none else H' b)=some o;rw [if_neg (fun z=>n (.inr z))];exact e) st'.fr.wl (fun b z=> .inl (.inl z)) hacc)
   rw [eu] at r
   exact r
theorem df_comp (Nc Nx:List Str) (c:CompOk X scope Nc Nx) (hcalm:X.calm=true) (hi:DI X xw tg iter fi)
  (hY:∀ (C:Addr) (fp:List Addr) (pins:List (Addr×Obj)) (s:Shared) (H:Hp),DG (compCx X scope Nc Nx C fp pins s H) tg t∧DTs (compCx X scope Nc Nx C fp pins s H) ifs gc∧DE (compCx X scope Nc Nx C fp pins s H) xwF elt fe)
  (hs:∀ x,foldedSetIterable iter X.env x=pure x:=by intro _;rfl):
  DF X xw (.ListComp elt [⟨tg,iter,ifs,0⟩] scope pos) (fun δ=>(fi δ).bind fun ds=>compR Nc.length t gc fe δ ds):=
 PE.weak (pe_comp (g:=tDG X.K t) (tt:=tDT X.K xwF gc) (te:=tDE X.K xwF fe) c hcalm hi hY hs) fun σ H Q q=>comp_read q
noncomputable def appO (i:Nat) (δ:DSt) (r:Res D):Out:=match δ[i]? with
 |some (some (.o ds))=>@ite Out (ds.length≤100000) (Classical.propDecidable _) (ofR r fun d=> .nx (δ.set i (some (.o (ds++ [d]))))) .stuck
 |_=> .stuck
theorem ds_append (i:Nat) {x:Str} {p1 p2 p3:Pos} (he:DE X xw e f) (hN:X.N[i]? =some x:=by rfl) (hv:Vis X.env.scope x:=by first|exact Or.inl rfl|exact Or.inr (Or.inl rfl)|exact Or.inr (Or.inr rfl)) (hd:(x==("__debug__":Str))=false:=by decide)
  (hcd:(x==("__classdict__":Str))=false:=by decide)
  (hsE:starEach [e] X.env=(false,eval e X.env)::starEach [] X.env:=by rfl)
  (hbase:attributeBase (.Name x p1) "append" X.env (eval (.Name x p1) X.env)=eval (.Name x p1) X.env:=by rfl)
  (hfew:((backTo p3 (starEach [e] X.env)).all (fun x=> !x.1)&&(backToKw p3 (keywordEach [] X.env)).all (fun x=>x.1.isSome)
   &&decide (([e]:List Expr).length+([]:List Keyword).length+(if ([]:List Keyword).isEmpty then 0 else 1)<30))=true:=by rfl)
  (hline:(p2.endLine==p3.line)=true:=by rfl) (hplain:(backTo p3 (starEach [] X.env)).any (·.1)=false:=by rfl)
  (hsw:swapsWith (.Call (.Attribute (.Name x p1) "append" p2) [e] [] p3) none pos.line X.env=pure false:=by rfl):
  DS X xw (.Expr (.Call (.Attribute (.Name x p1) "append" p2) [e] [] p3) pos) (fun δ=>appO i δ (f δ)):=
 PS.weak (ps_expr (pe_bm PySem.F.plainAttrs_list PySem.F.slot_list_append PySem.F.type_list_append mt_append (pe_var hN hv hd hcd) (pa_cons he pa_nil hsE) hbase hfew hline hsE hplain) hsw) fun Dn σ H ⟨W₀,H₀,W,δ,st,q⟩=>by
  unfold appO at q
  dsimp only at q
  split at q
  ·rename_i ds h
   split at q
   ·rename_i hlen
    obtain ⟨v,e1,a,xs,rfl,r2,r3,r4,r5⟩:=st.at' i _ h
    refine ⟨_,e1, .inl ⟨rfl,xs, .of r4⟩,?_⟩
    refine val_read st q fun H2 d u st2 hu q2=> ?_
    obtain ⟨v',e1',a',ys,e',r2',r3',r4',r5'⟩:=st2.at' i _ h
    rw [e1] at e1'
    cases e1'
    cases e'
    have sz:sizeLine=16777216:=sizeLine_eq
    refine ⟨a,ys,u,rfl,rfl,r4',?_,?_⟩
    ·rw [←r5'.length];omega
    ·refine q2 W _ σ ⟨fun b o e n=> ?_,fun _ z=> .inl z⟩ (st2.change h e1 r4' r2' (r5'.snoc hu))
     rw [upd_ne (fun z=>n (by rw [z];exact r2'))];exact e
   ·exact q.elim
  ·exact q.elim
def spD (K:PySem.W.Frag) (n:Nat) (m:List D→Res D):Sp:=fun vs H Q _=>vs.length=n∧∃ W ds,WL W H∧HasL K W H ds vs∧match m ds with
 | .ok d=>∀ v H',Same H H'→Has K W H' d v→Q v H'
 |_=>False
structure Fn (P:Program) (w:World) (K:PySem.W.Frag) (mg:Str→Option Value) (base:Heap) (k:Nat) (x:Str) (n:Nat) (m:List D→Res D):Prop where
 ex:∃ f fd ps,FnOk P w K mg base CX0 k f fd ps (spD K n m)∧mg x=some (.ref f)∧PySem.W.keepIn K (.ref f)=true∧Binds K fd ps []
theorem Fn.mono {P:Program} {w:World} {K:PySem.W.Frag} {mg:Str→Option Value} {base:Heap} {j k n:Nat} {x:Str} {m:List D→Res D} (F:Fn P w K mg base j x n m) (h:j≤k):Fn P w K mg base k x n m:=by
 obtain ⟨f,fd,ps,a,b⟩:=F.ex
 exact ⟨f,fd,ps,a.mono h,b⟩
def startD (n:Nat) (ds:List D):DSt:=ds.map (fun d=>some (.d d))++List.replicate (n-ds.length) none
def runD (n:Nat) (g:DSt→Out) (ds:List D):Res D:=match g (startD n ds) with
 | .rt d=> .ok d
 | .nx _=> .ok .non
 |_=> .stuck
theorem start_has {K:PySem.W.Frag} {W:WS} {H:Hp} {N:List Str} {ds:List D} {vs:List V} (w:WL W H) (r:HasL K W H ds vs):StHas K W H W H (L2.start N vs) (startD N.length ds):=by
 have hl:=r.length
 have idx:∀ {α:Type} (l:List α) (j:Nat) (x:α) (m:Nat),(l.map some++List.replicate m none)[j]? =some (some x)→l[j]? =some x:=fun l j x m e=>by
  by_cases hj:j<l.length
  ·rw [List.getElem?_append_left (by simpa using hj),List.getElem?_map] at e
   cases q:l[j]? with
   |none=>rw [q] at e;cases e
   |some z=>rw [q] at e;cases e;rfl
  ·rw [List.getElem?_append_right (by simpa using hj),List.getElem?_replicate] at e
   split at e<;>cases e
 have eS:startD N.length ds=(ds.map S.d).map some++List.replicate (N.length-ds.length) none:=by
  unfold startD;rw [List.map_map];rfl
 refine ⟨⟨Same.refl _,fun _ z=>z,w,w⟩,?_,fun i s e=> ?_,fun i j s1 s2 u u' a _ e1 _ _ _ os _=> ?_⟩
 ·unfold L2.start startD;simp [hl]
 ·rw [eS] at e
  have e':=idx _ _ _ _ e
  rw [List.getElem?_map] at e'
  cases q:ds[i]? with
  |none=>rw [q] at e';cases e'
  |some d=>
   rw [q] at e'
   cases e'
   obtain ⟨x,h1,h2⟩:=r.get q
   refine ⟨x,?_,h2⟩
   unfold L2.start
   have hi:i<vs.length:=(List.getElem?_eq_some_iff.mp h1).1
   rw [List.getElem?_append_left (by simpa using hi),List.getElem?_map,h1];rfl
 ·rw [eS] at e1
  have e':=idx _ _ _ _ e1
  rw [List.getElem?_map] at e'
  cases q:ds[i]? with
  |none=>rw [q] at e';cases e'
  |some d=>rw [q] at e';cases e';exact os
theorem fn_body {P:Program} {w:World} {K:PySem.W.Frag} {mg:Str→Option Value} {base:Heap} {k:Nat} {x qual:Str} {st:Stmt} {fa:Addr} {fd:FuncData} {N ps:List Str} {g:DSt→Out} (F:Fun K x qual st fa fd) (S:FnScope N ps (defScope st))
  (hm:mg x=some (.ref fa)) (hb:Binds K fd ps [])
  (body:∀ (cdv:Value) (A:Around) (outer:List Env) (s:Shared) (H:Hp) (E:XK),Room k (A.deeper (envOfC qual (defScope st) s.heap.objs.size fa cdv))→
   DSs (cxOf CX0 P w K mg base N qual (defScope st) fa cdv A outer s H E).nox xwF (defBody st) g):Fn P w K mg base (k+1) x ps.length (runD N.length g):=by
 refine ⟨fa,fd,ps,F.ok S (fun vs H Q E h=>h.1) (fun cdv A outer s H vs Q E hr h=> ?_),hm,F.kp,hb⟩
 obtain ⟨hl,W,ds,hw,hd,q⟩:=h
 refine ⟨_,body cdv A outer s H E hr,W,H,W,startD N.length ds,start_has hw hd,?_⟩
 unfold runD at q
 cases h:g (startD N.length ds) with
 |rt d=>rw [h] at q;exact fun v H' k hv=>q v H' k hv
 |nx δ=>rw [h] at q;exact fun W' H' σ' k st'=>q .non H' st'.fr.ext (by rw [Has])
 |bk δ=>rw [h] at q;exact q.elim
 |ct δ=>rw [h] at q;exact q.elim
 |ex c fs=>rw [h] at q;exact q.elim
 |stuck=>rw [h] at q;exact q.elim
def callR (n:Nat) (m:List D→Res D) (ds:List D):Res D:=if ds.length=n then noex (m ds) else .stuck
theorem de_call {a:Expr} {es:List Expr} {k n:Nat} {x:Str} {m:List D→Res D} {fs:DSt→Res (List D)} {p:Pos} (F:Fn X.prog X.w X.K X.mg X.base k x n m) (hr:Room k X.A) (ha:DA X xw (a::es) fs) (hg:Gl X x:=by rfl)
  (hdb:(x==("__debug__":Str))=false:=by decide) (he:starEach (a::es) X.env=(false,eval a X.env)::starEach es X.env:=by rfl) (hpl:(backTo pos (starEach es X.env)).any (·.1)=false:=by rfl):
  DE X xw (.Call (.Name x p) (a::es) [] pos) (fun δ=>(fs δ).bind fun ds=>callR n m ds):=by
 obtain ⟨fa,fd,ps,G,hm,hk,hb⟩:=F.ex
 refine PE.weak (pe_call G hr hg hm hk hb .nil pass0 ha hdb he hpl) fun σ H Q ⟨W₀,H₀,W,δ,st,q⟩=> ?_
 refine args_read st q fun H2 ds vs k w st2 hv _ q2=> ?_
 unfold callR at q2
 split at q2
 ·rename_i hn
  rw [List.append_nil]
  refine ⟨by rw [←hv.length];exact hn,W,ds,w,hv,?_⟩
  cases h:m ds with
  |ok d=>rw [h] at q2;exact q2
  |ex c fs=>rw [h] at q2;exact q2
  |stuck=>rw [h] at q2;exact q2
 ·exact q2.elim
theorem de_callB1 {a:Expr} {fa:DSt→Res D} {x:Str} {id:String} {r:List V→Hp→VK→Prop} {op:D→Res D} {p:Pos} (hc:CallR X (.builtin id) r) (hop:∀ W H d v Q,WL W H→HasT X.K W H d v→RE X.K xw W H (op d) Q→r [v] H Q)
  (hm:X.mg x=none) (hv:bootBuiltins x=some (.builtin id)) (ha:DP X xw a fa) (hg:Gl X x) (hn:x≠"__name__") (hdb:(x==("__debug__":Str))=false)
  (he:starEach [a] X.env=(false,eval a X.env)::starEach [] X.env) (hpl:(backTo pos (starEach [] X.env)).any (·.1)=false):DE X xw (.Call (.Name x p) [a] [] pos) (fun δ=>(fa δ).bind op):=
 PE.weak (pe_callB hc hg hm hv (pa_cons ha pa_nil he) hn hdb he hpl) fun σ H Q ⟨W₀,H₀,W,δ,st,q⟩=>one_read st q fun H2 d v k w st2 hv _ q2=>hop W H2 d v Q w hv q2
theorem de_callT1 {a:Expr} {fa:DSt→Res D} {x:Str} {id:String} {r:List V→Hp→VK→Prop} {op:D→Res D} {p:Pos} (hc:CallR X (.type id) r) (hop:∀ W H d v Q,WL W H→HasT X.K W H d v→RE X.K xw W H (op d) Q→r [v] H Q)
  (hm:X.mg x=none) (hv:bootBuiltins x=some (.type id)) (ha:DP X xw a fa) (hg:Gl X x) (hn:x≠"__name__") (hdb:(x==("__debug__":Str))=false)
  (he:starEach [a] X.env=(false,eval a X.env)::starEach [] X.env) (hpl:(backTo pos (starEach [] X.env)).any (·.1)=false):DE X xw (.Call (.Name x p) [a] [] pos) (fun δ=>(fa δ).bind op):=
 PE.weak (pe_callTy hc hg hm hv (pa_cons ha pa_nil he) hn hdb he hpl) fun σ H Q ⟨W₀,H₀,W,δ,st,q⟩=>one_read st q fun H2 d v k w st2 hv _ q2=>hop W H2 d v Q w hv q2
noncomputable def lenR:D→Res D
 | .tup ds=> .ok (.int ds.length)
 | .lst ds=> .ok (.int ds.length)
 | .str z=>@ite (Res D) (z.length≤sizeLine) (Classical.propDecidable _) (.ok (.int z.length)) .stuck
 |_=> .stuck
variable {a b:Expr} {fa fb:DSt→Res D} {p:Pos}
theorem de_len (hm:X.mg "len"=none) (ha:DP X xw a fa) (hg:Gl X "len":=by rfl) (he:starEach [a] X.env=(false,eval a X.env)::starEach [] X.env:=by rfl) (hpl:(backTo pos (starEach [] X.env)).any (·.1)=false:=by rfl):
  DE X xw (.Call (.Name "len" p) [a] [] pos) (fun δ=>(fa δ).bind lenR):=
 de_callB1 call_len (fun W H d v Q w hv q=>by
  unfold lenR at q
  split at q
  ·obtain ⟨p,xs,e,sq,r⟩:=hv.tup
   rw [e]
   exact ⟨_,xs.length,rfl, .inr ⟨xs,sq,rfl⟩,by rw [←r.length];exact q.int⟩
  ·obtain ⟨p,xs,e,sq,r⟩:=hv.lst
   rw [e]
   exact ⟨_,xs.length,rfl, .inl ⟨xs,sq,rfl⟩,by rw [←r.length];exact q.int⟩
  ·split at q
   ·rename_i hz
    rw [hv.str]
    exact ⟨_,_,rfl,⟨hz,rfl⟩,q.int⟩
   ·exact q.elim
  ·exact q.elim) hm PySem.boot_len ha hg (by decide) (by decide) he hpl
def tyD:D→Option String
 | .non=>some "NoneType"
 | .bl _=>some "bool"
 | .int _=>some "int"
 | .str _=>some "str"
 | .tup _=>some "tuple"
 | .lst _=>some "list"
 | .dct _ _=>some "dict"
 | .exc _ _=>none
 | .obj _ _ _=>none
def isiB (T C:String):Bool:=T==C||(T=="bool"&&C=="int")
def isiR (C:String) (d:D):Res D:=match tyD d with
 |some T=> .ok (.bl (isiB T C))
 |none=> .stuck
def isiOk (C:String):Prop:=∀ (K:PySem.W.Frag),∀ T∈ ["NoneType","bool","int","str","tuple","list","dict"],PySem.W.kitOne K (.type T) (.type C)=some (isiB T C)
theorem isi_list:isiOk "list":=by intro K T hT;simp only [List.mem_cons,List.not_mem_nil,or_false] at hT;rcases hT with rfl|rfl|rfl|rfl|rfl|rfl|rfl<;>kernel_rfl
theorem call_isi {C:String} (hC:isiOk C):CallR X (.builtin "isinstance") (fun xs H Q=>∃ W d x T,xs= [x, .ty C]∧HasT X.K W H d x∧tyD d=some T∧Q (.bl (isiB T C)) H):=by
 intro pins s σ H xs us Q I r h
 obtain ⟨W,d,x,T,rfl,hd,ht,q⟩:=h
 obtain ⟨u,u2,rfl,rx,rc⟩:=r.two
 obtain rfl:u2=Value.type C:=rc
 have hk:=hC X.K T (by cases d<;>cases ht<;>simp)
 have fin:∀ tk,EP X pins σ Q (.bool (isiB T C)) {s with toks:=tk}:=fun tk=>⟨.bl _,H,I.tok tk,rfl,q⟩
 cases d with
 |non=>
  cases ht
  have:=hd.non;subst this
  cases (show u=Value.none from rx)
  exact PySem.W.kia_one PySem.W.kitx_none I.kIn True.intro hk (fun z=>nomatch z) fin
 |bl b=>
  cases ht
  have:=hd.bl;subst this
  cases (show u=Value.bool b from rx)
  exact PySem.W.kia_one PySem.W.kitx_bool I.kIn True.intro hk (fun z=>nomatch z) fin
 |int b=>
  cases ht
  have:=hd.int;subst this
  obtain ⟨t,rfl⟩:=(show ∃ t,u=Value.int b t from rx)
  exact PySem.W.kia_one PySem.W.kitx_int I.kIn True.intro hk (fun z=>nomatch z) fin
 |str b=>
  cases ht
  have:=hd.str;subst this
  obtain ⟨t,rfl⟩:=(show ∃ t,u=Value.str b t from rx)
  exact PySem.W.kia_one PySem.W.kitx_str I.kIn True.intro hk (fun z=>nomatch z) fin
 |tup ds=>
  cases ht
  obtain ⟨a,xs,rfl,sq,_⟩:=hd.tup
  cases (show u=Value.ref a from rx)
  obtain ⟨its,_,⟨o,h1,h2,_⟩,_⟩:=I.tuple sq
  exact PySem.W.kia_one PySem.W.kitx_tuple I.kIn ⟨o,h1,h2⟩ hk (fun z=>nomatch z) fin
 |lst ds=>
  cases ht
  obtain ⟨a,xs,rfl,sq,_⟩:=hd.lst
  cases (show u=Value.ref a from rx)
  obtain ⟨its,_,⟨o,n,h1,h2,_⟩,_⟩:=I.list sq
  exact PySem.W.kia_one PySem.W.kitx_list I.kIn ⟨o,h1,h2⟩ hk (fun z=>nomatch z) fin
 |dct ks ds=>
  cases ht
  rcases hd with hd|⟨_,_,_,z,_⟩
  ·rw [Has] at hd
   obtain ⟨a,kvs,rfl,⟨ob,ea⟩,_⟩:=hd
   cases (show u=Value.ref a from rx)
   obtain ⟨_,_,_,vs,_,p⟩:=(show ObjOk X.prog X.w H s.heap a (.frz ob (.dK kvs)) from I.hok a _ ea)
   obtain ⟨o,es,ep,h1,h2,_⟩:=p
   exact PySem.W.kia_one PySem.W.kitx_dict I.kIn ⟨o,h1,h2.1⟩ hk (fun z=>nomatch z) fin
  ·cases z
 |exc c ds=>cases ht
 |obj c k ds=>cases ht
theorem de_isi {C:String} {c:Str} {p2:Pos} (hC:isiOk C) (hbc:bootBuiltins c=some (.type C)) (hm:X.mg "isinstance"=none) (hmc:X.mg c=none) (ha:DP X xw a fa) (hg:Gl X "isinstance":=by rfl) (hgc:Gl X c:=by rfl) (hcn:c≠"__name__":=by decide)
  (hcd:(c==("__debug__":Str))=false:=by decide)
  (he:starEach [a, .Name c p2] X.env=(false,eval a X.env)::starEach [.Name c p2] X.env:=by rfl) (he2:starEach [.Name c p2] X.env=(false,eval (.Name c p2) X.env)::starEach [] X.env:=by rfl)
  (hpl:(backTo pos (starEach [.Name c p2] X.env)).any (·.1)=false:=by rfl):
  DE X xw (.Call (.Name "isinstance" p) [a, .Name c p2] [] pos) (fun δ=>(fa δ).bind (isiR C)):=
 PE.weak (pe_callB (call_isi hC) hg hm (by decide +kernel) (pa_cons ha (pa_cons (pe_bltn (v:= .ty C) hgc hmc hbc rfl hcn hcd) pa_nil he2) he) (by decide) (by decide) he hpl) fun σ H Q ⟨W₀,H₀,W,δ,st,q⟩=>one_read st q fun H2 d v k w st2 hv _ q2=>by
  unfold isiR at q2
  split at q2
  ·rename_i T hT
   exact ⟨W,d,v,T,rfl,hv,hT,q2.bl⟩
  ·exact q2.elim
end
end L3
namespace L3
open PySem PySem.Spec PyProof.Rows L2 SeqAt
def kD (d:D):DSt→Res D:=fun _=> .ok d
def b1 {α β:Type} (op:α→Res β) (f:DSt→Res α):DSt→Res β:=fun δ=>(f δ).bind op
def b2 (op:D→D→Res D) (f g:DSt→Res D):DSt→Res D:=fun δ=>(f δ).bind fun x=>(g δ).bind fun y=>op x y
def b3 {β:Type} (op:D→Option Int→Option Int→Res β) (f:DSt→Res D) (g h:DSt→Res (Option Int)):DSt→Res β:=fun δ=>(f δ).bind fun x=>(g δ).bind fun l=>(h δ).bind fun u=>op x l u
def bCh (op op':D→D→Res D) (fa fb fc:DSt→Res D):DSt→Res D:=fun δ=>(fa δ).bind fun x=>(fb δ).bind fun y=>chainR op op' x y (fc δ)
def tR (f:DSt→Res D):DSt→Res Bool:=fun δ=>(f δ).bind boolR
def tAnd2 (a b:DSt→Res Bool):DSt→Res Bool:=fun δ=>andB (a δ) (b δ)
def tOr2 (a b:DSt→Res Bool):DSt→Res Bool:=fun δ=>orB (a δ) (b δ)
def tNot1 (a:DSt→Res Bool):DSt→Res Bool:=fun δ=>(a δ).bind fun k=> .ok (!k)
def vAnd (a b:DSt→Res D):DSt→Res D:=fun δ=>andD (a δ) (b δ)
def vOr (a b:DSt→Res D):DSt→Res D:=fun δ=>orD (a δ) (b δ)
def vIf (c:DSt→Res Bool) (a b:DSt→Res D):DSt→Res D:=fun δ=>(c δ).bind fun k=>if k=true then a δ else b δ
def aNil:DSt→Res (List D):=fun _=> .ok []
def aCons (f:DSt→Res D) (fs:DSt→Res (List D)):DSt→Res (List D):=fun δ=>consR (f δ) (fs δ)
def oNone:DSt→Res (Option Int):=fun _=> .ok none
def asD (f:DSt→Res (List D)):DSt→Res D:=fun δ=>(f δ).bind fun ds=> .ok (.lst ds)
noncomputable def vComp (n:Nat) (t:D→DSt→Res DSt) (gc:DSt→Res Bool) (fe:DSt→Res D) (fi:DSt→Res (List D)):DSt→Res (List D):=fun δ=>(fi δ).bind fun ds=>compR n t gc fe δ ds
def sSeq (g1 g2:DSt→Out):DSt→Out:=fun δ=>seqO (g1 δ) g2
def sSet (i:Nat) (f:DSt→Res D):DSt→Out:=fun δ=>ofR (f δ) fun d=> .nx (δ.set i (some (.d d)))
def sOwn (i:Nat) (f:DSt→Res (List D)):DSt→Out:=fun δ=>ofR (f δ) fun ds=> .nx (δ.set i (some (.o ds)))
def sIf (c:DSt→Res Bool) (a b:DSt→Out):DSt→Out:=fun δ=>ifO (c δ) (a δ) (b δ)
def sFor (t:D→DSt→Res DSt) (g:DSt→Out) (fi:DSt→Res (List D)):DSt→Out:=fun δ=>ofR (fi δ) fun ds=>forD t g ds δ
def sWhile (n:Nat) (c:DSt→Res Bool) (g:DSt→Out):DSt→Out:=fun δ=>whileD c g n δ
noncomputable def sApp (i:Nat) (f:DSt→Res D):DSt→Out:=fun δ=>appO i δ (f δ)
def sRet (f:DSt→Res D):DSt→Out:=fun δ=>ofR (f δ) fun d=> .rt d
def sRetN:DSt→Out:=fun _=> .rt .non
def sExpr (f:DSt→Res D):DSt→Out:=fun δ=>ofR (f δ) fun _=> .nx δ
def asgO (t:D→DSt→Res DSt) (δ:DSt) (d:D):Out:=match t d δ with
 | .ok δ'=> .nx δ'
 |_=> .stuck
def sAsg (t:D→DSt→Res DSt) (f:DSt→Res D):DSt→Out:=fun δ=>ofR (f δ) (asgO t δ)
section
variable {X:Cx} {xw:XW} {e a b c:Expr} {f fa fb:DSt→Res D} {pos p:Pos} {st:Stmt} {tg:Expr} {t:D→DSt→Res DSt} {fs:DSt→Res (List D)}
theorem ds_asg' (he:DE X xw e f) (hg:DG X tg t) (hs:swapsWithSole [tg] e pos.line X.env=pure false:=by rfl) (hw:swappedStores [tg] e X.env=pure none:=by rfl)
  (h1:(assignEach [tg] X.env).map (·.2)= [assign tg X.env]:=by rfl):DS X xw (.Assign [tg] e pos) (sAsg t f):=
 PS.weak (ds_asg he hg hs hw h1) fun Dn σ H ⟨W₀,H₀,W,δ,st,q⟩=>⟨W₀,H₀,W,δ,st,by
  change RS X.K xw W₀ H₀ W H (ofR (f δ) (asgO t δ)) Dn at q
  dsimp only
  cases hf:f δ with
  |stuck=>rw [hf] at q;exact q
  |ex c fs=>rw [hf] at q;exact q
  |ok d=>
   rw [hf] at q
   have q':RS X.K xw W₀ H₀ W H (asgO t δ d) Dn:=q
   unfold asgO at q'
   show RS X.K xw W₀ H₀ W H (match t d δ with| .ok δ'=> .nx δ'|_=> .stuck) Dn
   cases ht:t d δ with
   |ok δ'=>rw [ht] at q';exact q'
   |ex c fs=>rw [ht] at q';exact q'
   |stuck=>rw [ht] at q';exact q'⟩
theorem one_readF {σ:L2.St} {H:Hp} {W₀ W:WS} {H₀:Hp} {δ:DSt} {op:D→Res (List D)} {Q:VK} {R:V→Hp→Prop} (st:StHas X.K W₀ H₀ W H σ δ)
  (q:RF X.K xw W H ((fa δ).bind op) Q)
  (h:∀ H2 d v,Same H H2→WL W H2→StHas X.K W₀ H₀ W H2 σ δ→HasT X.K W H2 d v→fa δ= .ok d→RF X.K xw W H2 (op d) Q→R v H2):
  tDP X.K xw fa σ H fun x H1=>R x H1:=by
 refine ⟨W₀,H₀,W,δ,st,?_⟩
 cases h1:fa δ with
 |stuck=>rw [h1] at q;exact q
 |ex c fs=>rw [h1] at q;exact q
 |ok d=>
  rw [h1] at q
  intro v H1 k1 hv
  exact h H1 d v k1 (st.fr.wl.same k1) (st.same k1) hv h1 (RF.same (r:=op d) q k1)
def seqR:D→Res (List D)
 | .tup ds=> .ok ds
 | .lst ds=> .ok ds
 |_=> .stuck
theorem df_listof (hm:X.mg "list"=none) (ha:DP X xw a fa) (hg:Gl X "list":=by rfl) (he:starEach [a] X.env=(false,eval a X.env)::starEach [] X.env:=by rfl) (hpl:(backTo pos (starEach [] X.env)).any (·.1)=false:=by rfl):
  DF X xw (.Call (.Name "list" p) [a] [] pos) (b1 seqR fa):=
 PE.weak (pe_callTy call_list_of hg hm (by decide +kernel) (pa_cons ha pa_nil he) (by decide) (by decide) he hpl) fun σ H Q ⟨W₀,H₀,W,δ,st,q⟩=>one_readF st q fun H2 d v k w st2 hv _ q2=>by
  unfold seqR at q2
  split at q2
  ·obtain ⟨p,xs,e,sq,r⟩:=hv.tup
   rw [e]
   exact ⟨p,xs,rfl, .inr sq,fun l hl=>q2 l xs H2 (Same.refl _) hl r⟩
  ·obtain ⟨p,xs,e,sq,r⟩:=hv.lst
   rw [e]
   exact ⟨p,xs,rfl, .inl sq,fun l hl=>q2 l xs H2 (Same.refl _) hl r⟩
  ·exact q2.elim
def tupofR:D→Res D
 | .tup ds=> .ok (.tup ds)
 | .lst ds=> .ok (.tup ds)
 |_=> .stuck
def maxR:List D→Res D
 | [.int i, .int j]=> .ok (.int (max i j))
 |_=> .stuck
def minR:List D→Res D
 | [.int i, .int j]=> .ok (.int (min i j))
 |_=> .stuck
def absR:D→Res D
 | .int i=> .ok (.int (if i<0 then -i else i))
 |_=> .stuck
variable {lo hi:Option Expr} {fl fh:DSt→Res (Option Int)} {p2:Pos}
def slD (d:D) (lo hi:Option Int):Res D:=match d with
 | .tup ds=>if whole ds.length lo hi then .stuck else .ok (.tup (cutD ds lo hi))
 | .lst ds=> .ok (.lst (cutD ds lo hi))
 |_=> .stuck
def iSeq (K:PySem.W.Frag) (tl:TE):TI:=fun σ H R=>tl σ H fun x H1=>∃ a,x= .ref a∧(((∃ xs,SqL K H1 a xs)∧R (Itl K a) H1)∨((∃ xs,SqT K H1 a xs)∧R (Itt K a) H1))
theorem pi_seq {l:Expr} {tl:TE} (hl:PE X l tl):PI X tg l (iSeq X.K tl):=by
 intro pins s σ H R I h
 refine thn (hl pins s σ H _ I h) fun v s1 ⟨x,H1,I1,r1,q1⟩=> ?_
 obtain ⟨a,e,q1⟩:=q1
 subst e
 cases r1
 rcases q1 with ⟨⟨xs,hq⟩,q⟩|⟨⟨xs,hq⟩,q⟩
 ·obtain ⟨its,rv,p,hz⟩:=I1.list hq
  refine wpAny_pyIter_list p.isList ?_
  refine ⟨s1.heap.objs.size,[s1.heap.objs.size],_,_,H1,rfl,I1.kept (t':=s1.toks) fun b o e=>Heap.get?_push_of_some _ e,turn_list a _,⟨_,Heap.get?_push_size _ rfl,rfl,rfl⟩,fun b hb=> ?_,q⟩
  have e:b=s1.heap.objs.size:=by simpa using hb
  subst e
  exact I1.fpOk (Nat.le_refl _) (I1.hok.fresh (Nat.le_refl _))
 ·obtain ⟨its,rv,p,hz⟩:=I1.tuple hq
  refine wpAny_pyIter_tuple (show s1.heap.IsTuple a its.toArray from p) ?_
  refine ⟨s1.heap.objs.size,[s1.heap.objs.size],_,_,H1,rfl,I1.kept (t':=s1.toks) fun b o e=>Heap.get?_push_of_some _ e,turn_tuple a _,⟨_,Heap.get?_push_size _ rfl,rfl,rfl⟩,fun b hb=> ?_,q⟩
  have e:b=s1.heap.objs.size:=by simpa using hb
  subst e
  exact I1.fpOk (Nat.le_refl _) (I1.hok.fresh (Nat.le_refl _))
theorem di_seq (h:DE X xw e f):DI X xw tg e (b1 seqR f):=PI.weak (pi_seq h) fun σ H R ⟨W₀,H₀,W,δ,st,q⟩=>by
 refine ⟨W₀,H₀,W,δ,st,?_⟩
 simp only [b1] at q
 cases h1:f δ with
 |stuck=>rw [h1] at q;exact q
 |ex c fs=>rw [h1] at q;exact q
 |ok d=>
  rw [h1] at q
  intro v H1 k1 hv
  cases d with
  |lst ds=>
   rw [Has] at hv
   obtain ⟨a,xs,e,sq,r⟩:=hv
   exact ⟨a,e, .inl ⟨⟨xs,sq.sq⟩,q _ H1 k1 (itl_ok (st.fr.wl.same k1) sq r)⟩⟩
  |tup ds=>
   rw [Has] at hv
   obtain ⟨a,xs,e,sq,r⟩:=hv
   exact ⟨a,e, .inr ⟨⟨xs,sq⟩,q _ H1 k1 (itt_ok (st.fr.wl.same k1) sq r)⟩⟩
  |_=>exact q.elim
theorem dk_empty {P:Program} {w:World} {H:Hp} (h:Heap) (hb:sysModules<h.objs.size):ObjOk P w H (h.push {cls:= .type "dict",data:= .dict #[]}) h.objs.size (.dK []):=
 ⟨Nat.zero_le _,beq_eq_false_iff_ne.mpr (Ne.symm (Nat.ne_of_lt hb)),[], .nil,Heap.DictOf.new h⟩
end
def notNR (d:D):Res D:=match d with
 | .non=> .ok (.bl false)
 |_=> .ok (.bl true)
section
variable {X:Cx} {xw:XW} {a:Expr} {fa:DSt→Res D} {pos:Pos}
theorem dt_notN' {j pos'} (ha:DP X xw a fa):DT X xw (.Compare a [.IsNot] [.Constant .none j pos'] pos) (tR (b1 notNR fa)):=
 DE.t_of (f:=b1 notNR fa) (PT.weak (pt_cmp (pc_notN ha)) fun σ H Q q=>by
  obtain ⟨W₀,H₀,W,δ,st,q⟩:=q
  exact one_read st q fun H2 d v k w st2 hv _ q2=>by
   unfold notNR at q2
   split at q2
   ·rw [hv.non];exact q2.bl
   ·rename_i hd
    rw [decide_eq_false (hv.isN hd)];exact q2.bl)
end
theorem hu40 {A:Around} {k:Nat} (hr:Room k A):A.units+40<cLine:=by have:=hr.units;omega
theorem fn_bodyO {P:Program} {w:World} {K:PySem.W.Frag} {mg:Str→Option Value} {base:Heap} {k:Nat} {x qual:Str} {st:Stmt} {fa:Addr} {fd:FuncData} {N ps:List Str} {g:DSt→Out} (F:Fun K x qual st fa fd) (S:FnScope N ps (defScope st))
  (body:∀ (cdv:Value) (A:Around) (outer:List Env) (s:Shared) (H:Hp) (E:XK),Room k (A.deeper (envOfC qual (defScope st) s.heap.objs.size fa cdv))→
   DSs (cxOf CX0 P w K mg base N qual (defScope st) fa cdv A outer s H E).nox xwF (defBody st) g):FnOk P w K mg base CX0 (k+1) fa fd ps (spD K ps.length (runD N.length g)):=by
 refine F.ok S (fun vs H Q E h=>h.1) (fun cdv A outer s H vs Q E hr h=> ?_)
 obtain ⟨hl,W,ds,hw,hd,q⟩:=h
 refine ⟨_,body cdv A outer s H E hr,W,H,W,startD N.length ds,start_has hw hd,?_⟩
 unfold runD at q
 cases h:g (startD N.length ds) with
 |rt d=>rw [h] at q;exact fun v H' k hv=>q v H' k hv
 |nx δ=>rw [h] at q;exact fun W' H' σ' k st'=>q .non H' st'.fr.ext (by rw [Has])
 |bk δ=>rw [h] at q;exact q.elim
 |ct δ=>rw [h] at q;exact q.elim
 |ex c fs=>rw [h] at q;exact q.elim
 |stuck=>rw [h] at q;exact q.elim
def spLaw (K:PySem.W.Frag):Sp:=fun vs H Q _=>∃ (a:Addr) (ns:List Int),vs= [.ref a]∧SqL K H a (ns.map V.int)∧ns.length≤63∧∀ H',Q (.bl true) H'
theorem law_of {P:Program} {w:World} {K:PySem.W.Frag} {mg:Str→Option Value} {base:Heap} {k:Nat} {f:Addr} {fd:FuncData} {ps:List Str} {m:List D→Res D} (G:FnOk P w K mg base CX0 k f fd ps (spD K 1 m))
  (h:∀ ns:List Int,ns.length≤63→m [.lst (ns.map D.int)]= .ok (.bl true)):FnOk P w K mg base CX0 k f fd ps (spLaw K):=by
 refine G.imp fun vs H Q E q=> ?_
 obtain ⟨a,ns,rfl,sq,hl,q⟩:=q
 refine ⟨rfl,fun _=>False,[.lst (ns.map D.int)],fun b z=>z.elim,HasL.cons ?_ HasL.nil,?_⟩
 ·rw [Has]
  refine ⟨a,_,rfl,?_,HasL.ints⟩
  rcases sq with (z|z)|z
  ·exact .inl ⟨z,fun z=>z⟩
  ·exact .inr (.inl z)
  ·exact .inr (.inr z)
 ·rw [h ns hl]
  intro v H' k hv
  rw [Has] at hv
  rw [hv]
  exact q H'
end L3
namespace L3
open PySem
section
variable {prog:Program} {w:World} {A:Around} {E:Value→Shared→Prop} {s:Shared}
end
structure ZA (z TI TO i1 i2:Addr) (f1 f2:List Addr):Prop where
 a1:TI≠z
 a2:TO≠z
 a3:TI≠TO
 m1:i1∈f1
 m2:i2∈f2
 z1:z∉f1
 z2:z∉f2
 o1:TO∉f1
 o2:TO∉f2
 t1:TI∉f1
 t2:TI∉f2
 x1:i2∉f1
 x2:i1∉f2
section
variable {prog:Program} {w:World} {A:Around} {E:Value→Shared→Prop} {s:Shared} {z TI TO i1 i2:Addr} {f1 f2:List Addr} {n1 n2 k:Nat} {P1 P2:Nat→Value→Prop} {S1 S2:Nat→Heap→Prop} {a b:Value}
end
end L3
namespace L3
open PySem
def IsSq (tup:Bool) (h:Heap) (l:Addr) (xs:Array Value):Prop:=match tup with
 |true=>h.IsTuple l xs
 |false=>h.IsList l xs
def itO (tup:Bool) (l:Addr):Obj:=match tup with
 |true=> {cls:= .type "tuple_iterator",data:= .fields #[.ref l, .int 0 0]}
 |false=> {cls:= .type "list_iterator",data:= .fields #[.ref l, .int 0 0]}
def SqI (tup:Bool) (h:Heap) (i l:Addr) (k:Nat):Prop:=match tup with
 |true=>h.IsTupleIter i l k
 |false=>h.IsListIter i l k
theorem IsSq.at' {tup:Bool} {h h':Heap} {l:Addr} {xs:Array Value} (q:IsSq tup h l xs) (k:∀ o,h.get? l=some o→h'.get? l=some o):IsSq tup h' l xs:=by
 cases tup with
 |true=>obtain ⟨o,e,r⟩:=q;exact ⟨o,k o e,r⟩
 |false=>exact Heap.IsList.at q k
theorem SqI.at' {tup:Bool} {h h':Heap} {i l:Addr} {k:Nat} (q:SqI tup h i l k) (f:∀ o,h.get? i=some o→h'.get? i=some o):SqI tup h' i l k:=by
 cases tup with
 |true=>obtain ⟨o,e,r⟩:=q;exact ⟨o,f o e,r⟩
 |false=>obtain ⟨o,e,r⟩:=q;exact ⟨o,f o e,r⟩
theorem IsSq.lt {tup:Bool} {h:Heap} {l:Addr} {xs:Array Value} (q:IsSq tup h l xs):l<h.objs.size:=by
 cases tup with
 |true=>obtain ⟨o,e,_⟩:=q;exact Heap.lt_size e
 |false=>obtain ⟨o,e,_⟩:=q;exact Heap.lt_size e
section
variable {prog:Program} {w:World} {A:Around} {E:Value→Shared→Prop} {s:Shared} {z TI TO i1 i2 l1 l2:Addr} {t1 t2:Bool} {xs ys:Array Value} {k:Nat} {a b x y:Value}
theorem ZA.of (h1:TI≠z) (h2:TO≠z) (h3:TI≠TO) (h:∀ c,c=i1∨c=i2∨c=l1∨c=l2→c≠z∧c≠TO∧c≠TI) (e1:i1≠i2) (e2:l1≠i2) (e3:l2≠i1):ZA z TI TO i1 i2 [i1,l1] [i2,l2]:=by
 obtain ⟨a1,a2,a3⟩:=h i1 (by simp)
 obtain ⟨b1,b2,b3⟩:=h i2 (by simp)
 obtain ⟨c1,c2,c3⟩:=h l1 (by simp)
 obtain ⟨d1,d2,d3⟩:=h l2 (by simp)
 have no:∀ {c p q:Addr},p≠c→q≠c→c∉ [p,q]:=fun u v m=>by
  rcases List.mem_cons.mp m with m|m
  ·exact u m.symm
  ·exact v (List.mem_singleton.mp m).symm
 exact ⟨h1,h2,h3,by simp,by simp,no a1 c1,no b1 d1,no a2 c2,no b2 d2,no a3 c3,no b3 d3,no e1 e2,no e1.symm e3⟩
end
end L3
namespace L3
open PySem PySem.Spec PyProof.Rows L2
section
variable {X:Cx} {pins:List (Addr×Obj)} {σ:L2.St} {H:Hp} {s:Shared} {h':Heap}
end
section
variable {X:Cx} {xw:XW} {elts:List Expr} {kt:Nat} {pt p pos:Pos} {a b:Expr} {fs:DSt→Res (List D)}
end
end L3
namespace L3
open PySem PySem.Spec PyProof.Rows L2
section
variable {α β:Type}
theorem ofR_ok (a:α) (k:α→Out):ofR (.ok a) k=k a:=rfl
theorem ofR_ex (c:Str) (fs:List D) (k:α→Out):ofR (.ex c fs) k= .ex c fs:=rfl
theorem ofR_stuck (k:α→Out):ofR .stuck k= .stuck:=rfl
theorem seqO_nx (δ:DSt) (g:DSt→Out):seqO (.nx δ) g=g δ:=rfl
theorem seqO_rt (d:D) (g:DSt→Out):seqO (.rt d) g= .rt d:=rfl
theorem seqO_stuck (g:DSt→Out):seqO .stuck g= .stuck:=rfl
theorem ifO_ok (c:Bool) (a b:Out):ifO (.ok c) a b=if c=true then a else b:=rfl
theorem andB_ok (c:Bool) (y:Res Bool):andB (.ok c) y=if c=true then y else .ok false:=rfl
theorem orB_ok (c:Bool) (y:Res Bool):orB (.ok c) y=if c=true then .ok true else y:=rfl
theorem andD_bl (c:Bool) (y:Res D):andD (.ok (.bl c)) y=if c=true then y else .ok (.bl false):=by cases c<;>rfl
theorem orD_bl (c:Bool) (y:Res D):orD (.ok (.bl c)) y=if c=true then .ok (.bl true) else y:=by cases c<;>rfl
theorem boolR_bl (c:Bool):boolR (.bl c)= .ok c:=rfl
theorem notD_bl (c:Bool):notD (.bl c)= .ok (.bl (!c)):=rfl
theorem eqR_ii (i j:Int):eqR (.int i) (.int j)= .ok (.bl (i==j)):=by simp [eqR,shal,eqD]
theorem neR_ii (i j:Int):neR (.int i) (.int j)= .ok (.bl (!(i==j))):=by simp [neR,shal,eqD]
theorem eqR_bb (i j:Bool):eqR (.bl i) (.bl j)= .ok (.bl (i==j)):=by simp [eqR,shal,eqD]
theorem ltR_ii (i j:Int):ltR (.int i) (.int j)= .ok (.bl (decide (i<j))):=rfl
theorem leR_ii (i j:Int):leR (.int i) (.int j)= .ok (.bl (decide (i≤j))):=rfl
theorem gtR_ii (i j:Int):gtR (.int i) (.int j)= .ok (.bl (decide (j<i))):=rfl
theorem geR_ii (i j:Int):geR (.int i) (.int j)= .ok (.bl (decide (j≤i))):=rfl
theorem addD_ii (i j:Int):addD (.int i) (.int j)= .ok (.int (i+j)):=rfl
theorem addD_tt (xs ys:List D):addD (.tup xs) (.tup ys)=@ite (Res D) (xs.length+ys.length≤sizeLine) (Classical.propDecidable _) (.ok (.tup (xs++ys))) .stuck:=rfl
theorem addD_small (xs ys:List D) (h:xs.length+ys.length≤1000):addD (.tup xs) (.tup ys)= .ok (.tup (xs++ys)):=by
 rw [addD_tt,if_pos (Nat.le_trans h k1000)]
theorem subD_ii (i j:Int):subD (.int i) (.int j)= .ok (.int (i-j)):=rfl
theorem negD_i (i:Int):negD (.int i)= .ok (.int (-i)):=rfl
theorem modD_ii (i j:Int):modD (.int i) (.int j)=@ite (Res D) (0<j) (Classical.propDecidable _) (.ok (.int (i%j))) .stuck:=rfl
theorem fdivD_ii (i j:Int):fdivD (.int i) (.int j)=@ite (Res D) (0<j∧j<1073741824) (Classical.propDecidable _) (.ok (.int (i / j))) .stuck:=rfl
theorem maxR_ii (i j:Int):maxR [.int i, .int j]= .ok (.int (max i j)):=rfl
theorem minR_ii (i j:Int):minR [.int i, .int j]= .ok (.int (min i j)):=rfl
theorem absR_i (i:Int):absR (.int i)= .ok (.int (if i<0 then -i else i)):=rfl
theorem lenR_t (ds:List D):lenR (.tup ds)= .ok (.int ds.length):=rfl
theorem lenR_l (ds:List D):lenR (.lst ds)= .ok (.int ds.length):=rfl
theorem seqR_t (ds:List D):seqR (.tup ds)= .ok ds:=rfl
theorem seqR_l (ds:List D):seqR (.lst ds)= .ok ds:=rfl
theorem tupofR_t (ds:List D):tupofR (.tup ds)= .ok (.tup ds):=rfl
theorem tupofR_l (ds:List D):tupofR (.lst ds)= .ok (.tup ds):=rfl
theorem partR_i (i:Int):partR (.int i)= .ok (some i):=rfl
theorem consR_ok (d:D) (ds:List D):consR (.ok d) (.ok ds)= .ok (d::ds):=rfl
theorem noex_ok (a:α):noex (.ok a)= .ok a:=rfl
theorem slD_l (ds:List D) (lo hi:Option Int):slD (.lst ds) lo hi= .ok (.lst (cutD ds lo hi)):=rfl
theorem slotD_0 (x:D) (l:DSt):slotD 0 (some (.d x)::l)= .ok x:=rfl
theorem slotD_s (n:Nat) (a:Option S) (l:DSt):slotD (n+1) (a::l)=slotD n l:=by simp [slotD]
theorem slotP_0 (x:D) (l:DSt):slotP 0 (some (.d x)::l)= .ok x:=rfl
theorem slotP_0o (x:List D) (l:DSt):slotP 0 (some (.o x)::l)= .ok (.lst x):=rfl
theorem slotP_s (n:Nat) (a:Option S) (l:DSt):slotP (n+1) (a::l)=slotP n l:=by simp [slotP]
theorem callR_eq (n:Nat) (m:List D→Res D) (ds:List D) (d:D) (h:m ds= .ok d) (hn:ds.length=n):callR n m ds= .ok d:=by
 unfold callR;rw [if_pos hn,h];rfl
theorem ixR_l (ds:List D) (i:Int) (d:D) (h:atI ds i=some d):ixR (.lst ds) (.int i)= .ok d:=by show (match atI ds i with|some d=>Res.ok d|none=>Res.stuck)=_;rw [h]
theorem atI_pos {xs:List α} {i:Int} {d:α} (h0:0≤i) (h:xs[i.toNat]? =some d):atI xs i=some d:=by
 have hl:=(List.getElem?_eq_some_iff.mp h).1
 unfold atI ixN
 rw [if_pos h0,if_pos (by omega)]
 exact h
theorem atI_in {xs:List α} {i:Int} (h0:0≤i) (h1:i<xs.length):∃ d,atI xs i=some d∧d∈xs:=by
 have hl:i.toNat<xs.length:=by omega
 exact ⟨xs[i.toNat],atI_pos h0 (List.getElem?_eq_getElem hl),List.getElem_mem hl⟩
end
section
variable {t:D→DSt→Res DSt} {body:DSt→Out}
theorem forD_cons (d:D) (ds:List D) (δ δ':DSt) (h:t d δ= .ok δ'):forD t body (d::ds) δ=(match body δ' with
   | .nx δ2=>forD t body ds δ2
   | .ct δ2=>forD t body ds δ2
   | .bk δ2=> .nx δ2
   | .rt d=> .rt d
   | .ex c fs=> .ex c fs
   | .stuck=> .stuck):=by
 rw [forD,h]
 first|done|rfl|dsimp only
end
section
variable {fe:DSt→Res D} {c:DSt→Res Bool}
theorem compD_cons (t:D→DSt→Res DSt) (d:D) (ds:List D) (δ δ':DSt) (h:t d δ= .ok δ'):compD t c fe (d::ds) δ=((noex (c δ')).bind fun k=>if k=true then (noex (fe δ')).bind fun x=>(compD t c fe ds δ').bind fun r=> .ok (x::r) else compD t c fe ds δ'):=by
 rw [compD]
 rw [h]
end
end L3
namespace L3
open PySem PySem.Spec PyProof.Rows L2
def isT:D→Bool
 | .tup _=>true
 |_=>false
theorem chain_le (i j k:Int):chainR leR leR (.int i) (.int j) (.ok (.int k))= .ok (.bl (decide (i≤j∧j≤k))):=by
 unfold chainR
 rw [leR_ii]
 by_cases h:i≤j
 ·rw [decide_eq_true h]
  show leR (.int j) (.int k)=_
  rw [leR_ii];simp [h]
 ·rw [decide_eq_false h]
  simp [h,Res.bind]
theorem chain_lelt (i j k:Int):chainR leR ltR (.int i) (.int j) (.ok (.int k))= .ok (.bl (decide (i≤j∧j<k))):=by
 unfold chainR
 rw [leR_ii]
 by_cases h:i≤j
 ·rw [decide_eq_true h]
  show ltR (.int j) (.int k)=_
  rw [ltR_ii];simp [h]
 ·rw [decide_eq_false h]
  simp [h,Res.bind]
def finO:Out→Res D
 | .rt d=> .ok d
 | .nx _=> .ok .non
 |_=> .stuck
theorem runD_eq (n:Nat) (g:DSt→Out) (ds:List D):runD n g ds=finO (g (startD n ds)):=by
 unfold runD finO
 cases g (startD n ds)<;>rfl
theorem finO_rt (d:D):finO (.rt d)= .ok d:=rfl
theorem finO_nx (δ:DSt):finO (.nx δ)= .ok .non:=rfl
end L3
namespace L3
open PySem PySem.Spec PyProof.Rows L2 SeqAt
structure XE (X:Cx) (xw:XW) (e:Expr) (f:DSt→Res D):Prop where
 h:DE X xw e f
structure XP (X:Cx) (xw:XW) (e:Expr) (f:DSt→Res D):Prop where
 h:DP X xw e f
structure XF (X:Cx) (xw:XW) (e:Expr) (f:DSt→Res (List D)):Prop where
 h:DF X xw e f
structure XT (X:Cx) (xw:XW) (e:Expr) (f:DSt→Res Bool):Prop where
 h:DT X xw e f
structure XW' (X:Cx) (xw:XW) (e:Expr) (f:DSt→Res Bool):Prop where
 h:DW X xw e f
structure XA (X:Cx) (xw:XW) (e:List Expr) (f:DSt→Res (List D)):Prop where
 h:DA X xw e f
structure XO (X:Cx) (xw:XW) (e:Option Expr) (f:DSt→Res (Option Int)):Prop where
 h:DO X xw e f
structure XG (X:Cx) (e:Expr) (f:D→DSt→Res DSt):Prop where
 h:DG X e f
structure XGs (X:Cx) (e:List Expr) (f:List D→DSt→Res DSt):Prop where
 h:DGs X e f
structure XTs (X:Cx) (e:List Expr) (f:DSt→Res Bool):Prop where
 h:DTs X e f
structure XS (X:Cx) (xw:XW) (e:Stmt) (f:DSt→Out):Prop where
 h:DS X xw e f
structure XSs (X:Cx) (xw:XW) (e:List Stmt) (f:DSt→Out):Prop where
 h:DSs X xw e f
structure XI (X:Cx) (xw:XW) (tg e:Expr) (f:DSt→Res (List D)):Prop where
 h:DI X xw tg e f
section
variable {X:Cx} {xw:XW} {e a b c:Expr} {f fa fb fc:DSt→Res D} {pos p p2:Pos} {st:Stmt} {sts as bs:List Stmt} {tg iter elt:Expr} {t:D→DSt→Res DSt} {fs:DSt→Res (List D)} {es rest:List Expr} {ga gb gc:DSt→Res Bool} {g g1 g2:DSt→Out}
 {lo hi:Option Expr} {fl fh:DSt→Res (Option Int)} {fi:DSt→Res (List D)} {scope:Scope} {ifs:List Expr} {fe:DSt→Res D}
theorem x_var (i:Nat) {x:Str} (hN:X.N[i]? =some x:=by rfl) (hv:Vis X.env.scope x:=by first|exact Or.inl rfl|exact Or.inr (Or.inl rfl)|exact Or.inr (Or.inr rfl)) (hd:(x==("__debug__":Str))=false:=by decide)
  (hcd:(x==("__classdict__":Str))=false:=by decide):XE X xw (.Name x pos) (slotD i):=⟨de_var i hN hv hd hcd⟩
theorem p_var (i:Nat) {x:Str} (hN:X.N[i]? =some x:=by rfl) (hv:Vis X.env.scope x:=by first|exact Or.inl rfl|exact Or.inr (Or.inl rfl)|exact Or.inr (Or.inr rfl)) (hd:(x==("__debug__":Str))=false:=by decide)
  (hcd:(x==("__classdict__":Str))=false:=by decide):XP X xw (.Name x pos) (slotP i):=⟨dp_var i hN hv hd hcd⟩
theorem p_of (h:XE X xw e f):XP X xw e f:=⟨DE.p h.h⟩
theorem w_and1 (ha:XT X xw a ga):XW' X xw (.BoolOp .And [a] pos) ga:=⟨dw_and1 ha.h⟩
theorem w_or1 (ha:XT X xw a ga):XW' X xw (.BoolOp .Or [a] pos) ga:=⟨dw_or1 ha.h⟩
theorem y_w (h:XW' X xw e ga):XT X xw e ga:=⟨DW.t h.h⟩
theorem y_notN {j pos'} (ha:XP X xw a fa):XT X xw (.Compare a [.IsNot] [.Constant .none j pos'] pos) (tR (b1 notNR fa)):=⟨dt_notN' ha.h⟩
theorem f_listof (hm:X.mg "list"=none) (ha:XP X xw a fa) (hg:Gl X "list":=by rfl) (he:starEach [a] X.env=(false,eval a X.env)::starEach [] X.env:=by rfl) (hpl:(backTo pos (starEach [] X.env)).any (·.1)=false:=by rfl):
  XF X xw (.Call (.Name "list" p) [a] [] pos) (b1 seqR fa):=⟨df_listof hm ha.h hg he hpl⟩
theorem i_seq (h:XE X xw e f):XI X xw tg e (b1 seqR f):=⟨di_seq h.h⟩
theorem g_name (i:Nat) {x:Str} (hN:X.N.Nodup) (hi:X.N[i]? =some x:=by rfl) (hx:Loc X.env.scope x:=by first|exact Or.inl rfl|exact Or.inr rfl) (hf:X.fn x=true∨X.env.scope.names.lookup x=some .local:=by first|exact .inl rfl|exact .inr rfl|assumption):
  XG X (.Name x pos) (setI i):=⟨dg_name i hN hi hx hf⟩
theorem g_nil:XGs X [] unNil:=⟨dgs_nil⟩
theorem g_cons {tgs:List Expr} {ts:List D→DSt→Res DSt} (h1:XG X tg t) (h2:XGs X tgs ts) (hs:(assignEach (tg::tgs) X.env).map (·.2)=assign tg X.env::(assignEach tgs X.env).map (·.2):=by rfl):XGs X (tg::tgs) (unCons t ts):=⟨dgs_cons h1.h h2.h hs⟩
theorem g_tup {tgs:List Expr} {ts:List D→DSt→Res DSt} {k:Nat} {n:Nat} (hc:X.calm=true) (h:XGs X tgs ts) (hn:(assignEach tgs X.env).length=n:=by rfl) (hst:(assignEach tgs X.env).findIdx? (·.1)=none:=by rfl):XG X (.Tuple tgs k pos) (unTup n ts):=⟨dg_tup hc h.h hn hst⟩
theorem t_nil:XTs X [] (fun _=> .ok true):=⟨dts_nil⟩
theorem t_one (h:XT X xwF c gc):XTs X [c] gc:=⟨dts_one h.h⟩
theorem s_asg (he:XE X xw e f) (hg:XG X tg t) (hs:swapsWithSole [tg] e pos.line X.env=pure false:=by rfl) (hw:swappedStores [tg] e X.env=pure none:=by rfl)
  (h1:(assignEach [tg] X.env).map (·.2)= [assign tg X.env]:=by rfl):XS X xw (.Assign [tg] e pos) (sAsg t f):=⟨ds_asg' he.h hg.h hs hw h1⟩
theorem ss_nil:XSs X xw [] .nx:=⟨dss_nil⟩
theorem ss_one (h1:XS X xw st g1):XSs X xw [st] g1:=⟨dss_one h1.h⟩
theorem x_int {i:Int} {j}:XE X xw (.Constant (.int i) j pos) (kD (.int i)):=⟨de_int⟩
theorem x_bl {i:Bool} {j}:XE X xw (.Constant (.bool i) j pos) (kD (.bl i)):=⟨de_bl⟩
theorem x_str {i:Str} {j}:XE X xw (.Constant (.str i) j pos) (kD (.str i)):=⟨de_str⟩
theorem x_non {j}:XE X xw (.Constant .none j pos) (kD .non):=⟨de_non⟩
theorem x_add (ha:XP X xw a fa) (hb:XP X xw b fb):XE X xw (.BinOp a .Add b pos) (b2 addD fa fb):=⟨de_add ha.h hb.h⟩
theorem x_sub (ha:XP X xw a fa) (hb:XP X xw b fb):XE X xw (.BinOp a .Sub b pos) (b2 subD fa fb):=⟨de_sub ha.h hb.h⟩
theorem x_mod (ha:XP X xw a fa) (hb:XP X xw b fb):XE X xw (.BinOp a .Mod b pos) (b2 modD fa fb):=⟨de_mod ha.h hb.h⟩
theorem x_fdiv (ha:XP X xw a fa) (hb:XP X xw b fb):XE X xw (.BinOp a .FloorDiv b pos) (b2 fdivD fa fb):=⟨de_fdiv ha.h hb.h⟩
theorem x_pow (ha:XP X xw a fa) (hb:XP X xw b fb):XE X xw (.BinOp a .Pow b pos) (b2 powD fa fb):=⟨de_pow ha.h hb.h⟩
theorem x_neg (ha:XP X xw a fa):XE X xw (.UnaryOp .USub a pos) (b1 negD fa):=⟨de_neg ha.h⟩
theorem x_cmp {o:CmpOp} {op:D→D→Res D} (hc:CmpR X xw o op) (ha:XP X xw a fa) (hb:XP X xw b fb):XE X xw (.Compare a [o] [b] pos) (b2 op fa fb):=⟨de_cmp hc ha.h hb.h⟩
theorem y_cmp {o:CmpOp} {op:D→D→Res D} (hc:CmpR X xw o op) (ha:XP X xw a fa) (hb:XP X xw b fb):XT X xw (.Compare a [o] [b] pos) (tR (b2 op fa fb)):=⟨dt_cmp hc ha.h hb.h⟩
theorem x_isN {j pos'} (ha:XP X xw a fa):XE X xw (.Compare a [.Is] [.Constant .none j pos'] pos) (b1 isNR fa):=⟨de_isN ha.h⟩
theorem y_isN {j pos'} (ha:XP X xw a fa):XT X xw (.Compare a [.Is] [.Constant .none j pos'] pos) (tR (b1 isNR fa)):=⟨dt_isN ha.h⟩
theorem y_val (h:XE X xw e f) (he:∀ whole,isTrue e X.env whole=(do let v ←whole;standAt e.pos;holding [v] (truthy v)):=by intro _;rfl):XT X xw e (tR f):=⟨DE.t h.h he⟩
theorem y_not (ha:XT X xw a ga):XT X xw (.UnaryOp .Not a pos) (tNot1 ga):=⟨dt_not ha.h⟩
theorem w_and (ha:XT X xw a ga) (hb:XW' X xw (.BoolOp .And (b::rest) pos) gb):XW' X xw (.BoolOp .And (a::b::rest) pos) (tAnd2 ga gb):=⟨dw_and ha.h hb.h⟩
theorem w_or (ha:XT X xw a ga) (hb:XW' X xw (.BoolOp .Or (b::rest) pos) gb):XW' X xw (.BoolOp .Or (a::b::rest) pos) (tOr2 ga gb):=⟨dw_or ha.h hb.h⟩
theorem a_nil:XA X xw [] aNil:=⟨da_nil⟩
theorem a_cons (ha:XE X xw a fa) (hr:XA X xw es fs) (hs:starEach (a::es) X.env=(false,eval a X.env)::starEach es X.env:=by rfl):XA X xw (a::es) (aCons fa fs):=⟨da_cons ha.h hr.h hs⟩
theorem x_tup {x1} (h:XA X xw es fs):XE X xw (.Tuple es x1 pos) (b1 tupR fs):=⟨de_tup h.h⟩
theorem f_lst (h:XA X xw es fs):XF X xw (.List es pos) (b1 lstR fs):=⟨df_lst h.h⟩
theorem x_new (h:XF X xw e fs):XE X xw e (asD fs):=⟨DF.de h.h⟩
theorem x_ix (ha:XP X xw a fa) (hb:XP X xw b fb) (hs:PlainIx b:=by intro _ _;rfl):XE X xw (.Subscript a b pos) (b2 ixR fa fb):=⟨de_ix ha.h hb.h hs⟩
theorem o_none:XO X xw none oNone:=⟨do_none⟩
theorem o_some (h:XE X xw e f):XO X xw (some e) (b1 partR f):=⟨do_some h.h⟩
theorem f_slL (ha:XP X xw a fa) (hl:XO X xw lo fl) (hh:XO X xw hi fh):XF X xw (.Subscript a (.Slice lo hi none p2) pos) (b3 slL fa fl fh):=⟨df_slL ha.h hl.h hh.h⟩
theorem x_len (hm:X.mg "len"=none) (ha:XP X xw a fa) (hg:Gl X "len":=by rfl) (he:starEach [a] X.env=(false,eval a X.env)::starEach [] X.env:=by rfl) (hpl:(backTo pos (starEach [] X.env)).any (·.1)=false:=by rfl):
  XE X xw (.Call (.Name "len" p) [a] [] pos) (b1 lenR fa):=⟨de_len hm ha.h hg he hpl⟩
theorem x_isi {C:String} {c:Str} {p2:Pos} (hC:isiOk C) (hbc:bootBuiltins c=some (.type C)) (hm:X.mg "isinstance"=none) (hmc:X.mg c=none) (ha:XP X xw a fa) (hg:Gl X "isinstance":=by rfl) (hgc:Gl X c:=by rfl) (hcn:c≠"__name__":=by decide)
  (hcd:(c==("__debug__":Str))=false:=by decide)
  (he:starEach [a, .Name c p2] X.env=(false,eval a X.env)::starEach [.Name c p2] X.env:=by rfl) (he2:starEach [.Name c p2] X.env=(false,eval (.Name c p2) X.env)::starEach [] X.env:=by rfl)
  (hpl:(backTo pos (starEach [.Name c p2] X.env)).any (·.1)=false:=by rfl):
  XE X xw (.Call (.Name "isinstance" p) [a, .Name c p2] [] pos) (b1 (isiR C) fa):=⟨de_isi hC hbc hm hmc ha.h hg hgc hcn hcd he he2 hpl⟩
theorem x_call {k n:Nat} {x:Str} {m:List D→Res D} (F:Fn X.prog X.w X.K X.mg X.base k x n m) (hr:Room k X.A) (ha:XA X xw (a::es) fs) (hg:Gl X x:=by rfl)
  (hdb:(x==("__debug__":Str))=false:=by decide) (he:starEach (a::es) X.env=(false,eval a X.env)::starEach es X.env:=by rfl) (hpl:(backTo pos (starEach es X.env)).any (·.1)=false:=by rfl):
  XE X xw (.Call (.Name x p) (a::es) [] pos) (b1 (callR n m) fs):=⟨de_call F hr ha.h hg hdb he hpl⟩
theorem f_comp (Nc Nx:List Str) (c:CompOk X scope Nc Nx) (hcalm:X.calm=true) (hi:XI X xw tg iter fi)
  (hY:∀ (C:Addr) (fp:List Addr) (pins:List (Addr×Obj)) (s:Shared) (H:Hp),XG (compCx X scope Nc Nx C fp pins s H) tg t∧XTs (compCx X scope Nc Nx C fp pins s H) ifs gc∧XE (compCx X scope Nc Nx C fp pins s H) xwF elt fe)
  (hs:∀ x,foldedSetIterable iter X.env x=pure x:=by intro _;rfl):
  XF X xw (.ListComp elt [⟨tg,iter,ifs,0⟩] scope pos) (vComp Nc.length t gc fe fi):=⟨df_comp Nc Nx c hcalm hi.h (fun C fp pins s H=>⟨(hY C fp pins s H).1.h,(hY C fp pins s H).2.1.h,(hY C fp pins s H).2.2.h⟩) hs⟩
theorem i_range1 (hm:X.mg "range"=none) (ha:XA X xw [a] fs) (hg:Gl X "range":=by rfl) (hs:starEach [a] X.env= [(false,eval a X.env)]:=by rfl):XI X xw tg (.Call (.Name "range" p) [a] [] pos) (b1 rng1R fs):=⟨di_range1 hm ha.h hg hs⟩
theorem ss_cons (h1:XS X xw st g1) (h2:XSs X xw sts g2):XSs X xw (st::sts) (sSeq g1 g2):=⟨dss_cons h1.h h2.h⟩
theorem s_expr (he:XE X xw e f) (hs:swapsWith e none pos.line X.env=pure false:=by rfl):XS X xw (.Expr e pos) (sExpr f):=⟨ds_expr he.h hs⟩
theorem s_ret (he:XE X xw e f):XS X xw (.Return (some e) pos) (sRet f):=⟨ds_ret he.h⟩
theorem s_retV (i:Nat) {x:Str} {pos':Pos} (hN:X.N[i]? =some x:=by rfl) (hv:Vis X.env.scope x:=by first|exact Or.inl rfl|exact Or.inr (Or.inl rfl)|exact Or.inr (Or.inr rfl)) (hd:(x==("__debug__":Str))=false:=by decide)
  (hcd:(x==("__classdict__":Str))=false:=by decide):XS X xw (.Return (some (.Name x pos')) pos) (sRet (slotP i)):=⟨ds_retV i hN hv hd hcd⟩
theorem s_set (i:Nat) {x:Str} {pos':Pos} (hN:X.N.Nodup) (he:XE X xw e f) (hi:X.N[i]? =some x:=by rfl) (hx:Loc X.env.scope x:=by first|exact Or.inl rfl|exact Or.inr rfl) (hs:swapsWith e (some (.Name x pos')) pos.line X.env=pure false:=by rfl)
  (hf:X.fn x=true∨X.env.scope.names.lookup x=some .local:=by first|exact .inl rfl|exact .inr rfl|assumption):XS X xw (.Assign [.Name x pos'] e pos) (sSet i f):=⟨ds_set i hN he.h hi hx hs hf⟩
theorem s_own (i:Nat) {x:Str} {pos':Pos} {ff:DSt→Res (List D)} (hN:X.N.Nodup) (he:XF X xw e ff) (hi:X.N[i]? =some x:=by rfl) (hx:Loc X.env.scope x:=by first|exact Or.inl rfl|exact Or.inr rfl) (hs:swapsWith e (some (.Name x pos')) pos.line X.env=pure false:=by rfl)
  (hf:X.fn x=true∨X.env.scope.names.lookup x=some .local:=by first|exact .inl rfl|exact .inr rfl|assumption):XS X xw (.Assign [.Name x pos'] e pos) (sOwn i ff):=⟨ds_own i hN he.h hi hx hs hf⟩
theorem s_if (hc:XT X xw c ga) (ha:XSs X xw as g1) (hb:XSs X xw bs g2):XS X xw (.If c as bs pos) (sIf ga g1 g2):=⟨ds_if hc.h ha.h hb.h⟩
theorem s_for (hp:PassesOwn (model X.prog X.w) X.A X.env X.xe) (hc:X.calm=true) (hi:XI X xw tg iter fi) (hg:XG X tg t) (hb:XSs X xw sts g)
  (hs:∀ x,foldedSetIterable iter X.env x=pure x:=by intro _;rfl):XS X xw (.For tg iter sts [] pos) (sFor t g fi):=⟨ds_for hp hc hi.h hg.h hb.h hs⟩
theorem s_while (n:Nat) (hp:PassesOwn (model X.prog X.w) X.A X.env X.xe) (hc:XT X xw c ga) (hb:XSs X xw sts g):XS X xw (.While c sts [] pos) (sWhile n ga g):=⟨ds_while n hp hc.h hb.h⟩
theorem s_append (i:Nat) {x:Str} {p1 p2 p3:Pos} (he:XE X xw e f) (hN:X.N[i]? =some x:=by rfl) (hv:Vis X.env.scope x:=by first|exact Or.inl rfl|exact Or.inr (Or.inl rfl)|exact Or.inr (Or.inr rfl)) (hd:(x==("__debug__":Str))=false:=by decide)
  (hcd:(x==("__classdict__":Str))=false:=by decide)
  (hsE:starEach [e] X.env=(false,eval e X.env)::starEach [] X.env:=by rfl)
  (hbase:attributeBase (.Name x p1) "append" X.env (eval (.Name x p1) X.env)=eval (.Name x p1) X.env:=by rfl)
  (hfew:((backTo p3 (starEach [e] X.env)).all (fun x=> !x.1)&&(backToKw p3 (keywordEach [] X.env)).all (fun x=>x.1.isSome)
   &&decide (([e]:List Expr).length+([]:List Keyword).length+(if ([]:List Keyword).isEmpty then 0 else 1)<30))=true:=by rfl)
  (hline:(p2.endLine==p3.line)=true:=by rfl) (hplain:(backTo p3 (starEach [] X.env)).any (·.1)=false:=by rfl)
  (hsw:swapsWith (.Call (.Attribute (.Name x p1) "append" p2) [e] [] p3) none pos.line X.env=pure false:=by rfl):
  XS X xw (.Expr (.Call (.Attribute (.Name x p1) "append" p2) [e] [] p3) pos) (sApp i f):=⟨ds_append i he.h hN hv hd hcd hsE hbase hfew hline hplain hsw⟩
end
theorem fn_def {P:Program} {w:World} {K:PySem.W.Frag} {mg:Str→Option Value} {base:Heap} {k:Nat} {x qual:Str} {st:Stmt} {fa:Addr} {fd:FuncData} {N ps:List Str} {g:DSt→Out} (F:Fun K x qual st fa fd) (S:FnScope N ps (defScope st))
  (hm:mg x=some (.ref fa)) (hb:Binds K fd ps [])
  (body:∀ (cdv:Value) (A:Around) (outer:List Env) (s:Shared) (H:Hp) (E:XK),Room k (A.deeper (envOfC qual (defScope st) s.heap.objs.size fa cdv))→
   XSs (cxOf CX0 P w K mg base N qual (defScope st) fa cdv A outer s H E).nox xwF (defBody st) g):Fn P w K mg base (k+1) x ps.length (runD N.length g):=
 fn_body F S hm hb fun cdv A outer s H E hr=>(body cdv A outer s H E hr).h
theorem fn_law {P:Program} {w:World} {K:PySem.W.Frag} {mg:Str→Option Value} {base:Heap} {k:Nat} {x qual:Str} {st:Stmt} {fa:Addr} {fd:FuncData} {N ps:List Str} {g:DSt→Out} (F:Fun K x qual st fa fd) (S:FnScope N ps (defScope st))
  (body:∀ (cdv:Value) (A:Around) (outer:List Env) (s:Shared) (H:Hp) (E:XK),Room k (A.deeper (envOfC qual (defScope st) s.heap.objs.size fa cdv))→
   XSs (cxOf CX0 P w K mg base N qual (defScope st) fa cdv A outer s H E).nox xwF (defBody st) g):FnOk P w K mg base CX0 (k+1) fa fd ps (spD K ps.length (runD N.length g)):=
 fn_bodyO F S fun cdv A outer s H E hr=>(body cdv A outer s H E hr).h
end L3
namespace L3
open PySem PySem.Spec PyProof.Rows L2
section
variable {t:D→DSt→Res DSt} {body:DSt→Out}
theorem forD_ix (I:Nat→DSt→Prop) (ds:List D) (δ:DSt) (hb:∀ i d δ,ds[i]? =some d→I i δ→∃ δ',t d δ= .ok δ'∧∃ δ2,(body δ'= .nx δ2∨body δ'= .ct δ2)∧I (i+1) δ2) (h:I 0 δ):∃ δ2,forD t body ds δ= .nx δ2∧I ds.length δ2:=by
 induction ds generalizing I δ with
 |nil=>exact ⟨δ,rfl,h⟩
 |cons d ds ih=>
  obtain ⟨δ',e1,δ2,e2,h2⟩:=hb 0 d δ rfl h
  obtain ⟨δ3,e3,h3⟩:=ih (fun i=>I (i+1)) δ2 (fun i x δ hx hI=>hb (i+1) x δ (by simpa using hx) hI) h2
  refine ⟨δ3,?_,h3⟩
  rw [forD_cons d ds δ δ' e1]
  rcases e2 with e2|e2<;> · rw [e2];exact e3
end
section
variable {fe:DSt→Res D} {c:DSt→Res Bool}
theorem compR_ok {n:Nat} {t:D→DSt→Res DSt} {δ:DSt} {ds r:List D} (h:compD t c fe ds (List.replicate n none++δ)= .ok r) (hl:ds.length≤100000):compR n t c fe δ ds= .ok r:=by
 unfold compR
 rw [if_pos hl,h];rfl
end
theorem rng1_i (j:Int) (h0:0≤j) (h:j<100000):rng1R [.int j]= .ok (rngD 0 j.toNat):=by
 unfold rng1R
 simp only
 rw [if_pos (by omega)]
theorem rngD_get {lo:Int} {n i:Nat} {d:D} (h:(rngD lo n)[i]? =some d):i<n∧d= .int (lo+i):=by
 unfold rngD at h
 rw [List.getElem?_map] at h
 have hi:i<n:=by
  refine Nat.lt_of_not_le fun z=> ?_
  rw [List.getElem?_eq_none (by simpa using z)] at h;cases h
 rw [List.getElem?_range hi] at h
 exact ⟨hi,(Option.some.inj h).symm⟩
theorem rngD_len (lo:Int) (n:Nat):(rngD lo n).length=n:=by simp [rngD]
theorem eqR_nil' (ds:List D) (h:∀ d∈ds,shal 39 d=true):eqR (.lst ds) (.lst [])= .ok (.bl ds.isEmpty):=by
 have hs:shal 40 (.lst ds)=true:=by rw [shal,List.all_eq_true];exact h
 unfold eqR
 rw [hs]
 cases ds<;>simp [shal,eqD,eqL]
theorem appO_eq (i:Nat) (δ:DSt) (ds:List D) (d:D) (h:δ[i]? =some (some (.o ds))) (hl:ds.length≤100000):appO i δ (.ok d)= .nx (δ.set i (some (.o (ds++ [d])))):=by
 unfold appO
 rw [h]
 show (@ite Out (ds.length≤100000) (Classical.propDecidable _) _ _)=_
 rw [if_pos hl];rfl
end L3
namespace L3
open PySem
theorem tm_fill:fillsNumberSlot (.type "tuple") "mul"=pure false:=fillsNumberSlot_seq (id:="tuple.__mul__") (r:=some (.builtin "tuple.__rmul__")) F.slot_tuple_mul.lookup (by decide +kernel) F.slot_tuple_rmul.lookup (by decide +kernel)
theorem tm_rep:seqRepeat? (.type "tuple")=pure (some (.builtin "tuple.__mul__")):=by
 unfold seqRepeat?
 rw [seqSlot_of (T:="tuple") (name:="__mul__") (id:="tuple.__mul__") F.slot_tuple_mul.lookup (by decide +kernel),seqSlot_of (T:="tuple") (name:="__rmul__") (id:="tuple.__rmul__") F.slot_tuple_rmul.lookup (by decide +kernel)];rfl
theorem tm_no (a:Int) (t:Tok) (l:Addr) (items:Array Value) (n:Nat) (dd:Option Addr) (sl:Array (Option Value)):
  Meets (Builtin.«int.__rmul__» ⟨[.int a t, .ref l],[]⟩) (fun _ R s=>s.heap.get? l=some {cls:= .type "tuple",dict:=dd,data:= .seq items n,slots:=sl}∧R (.ok (.ret Value.notImplemented)) s):=
 .of_wp fun prog w A R s h=>by
  obtain ⟨hp,g,d,tk,os⟩:=s
  obtain ⟨hl,h⟩:=h
  wp_walk
  exact ⟨_,rfl,h⟩
theorem tm_one (l:Addr) (items:Array Value) (n:Nat) (dd:Option Addr) (sl:Array (Option Value)) (u:Tok):
  Meets (Builtin.«tuple.__mul__» ⟨[.ref l, .int 1 u],[]⟩) (fun _ R s=>s.heap.get? l=some {cls:= .type "tuple",dict:=dd,data:= .seq items n,slots:=sl}∧R (.ok (.ret (Value.ref l))) s):=
 .of_wp fun prog w A R s h=>by
  obtain ⟨hp,g,d,tk,os⟩:=s
  obtain ⟨hl,h⟩:=h
  wp_walk
  exact ⟨_,rfl,h⟩
theorem tm_many (l:Addr) (items:Array Value) (n:Nat) (dd:Option Addr) (sl:Array (Option Value)) (k:Int) (u:Tok) (h0:(decide (k< -2^63)||decide (k≥2^63))=false) (h1:(items.isEmpty||k==1)=false) (h2:(decide (k≤0)||items.isEmpty)=false) (h3:¬ (items.size*k>(2^63-1) / 8)) (h4:Builtin.Tuple.tupleTooMany (items.size*k)=false) (h5:((List.replicate k.toNat items).foldl (· ++ ·) #[]).size≤sizeLine):
  Meets (Builtin.«tuple.__mul__» ⟨[.ref l, .int k u],[]⟩) (fun _ R s=>s.heap.get? l=some {cls:= .type "tuple",dict:=dd,data:= .seq items n,slots:=sl}∧R (.ok (.ret (Value.ref s.heap.objs.size))) {s with heap:=s.heap.push {cls:= .type "tuple",data:= .seq ((List.replicate k.toNat items).foldl (· ++ ·) #[])}}):=
 .of_wp fun prog w A R s h=>by
  obtain ⟨hp,g,d,tk,os⟩:=s
  obtain ⟨hl,h⟩:=h
  wp_walk
  refine wpAny_ite_false (by rw [h0];rfl) ?_
  wp_walk
  refine wpAny_ite_false (decide_eq_false h3) ?_
  wp_walk
  exact ⟨_,rfl,h⟩
end L3
namespace L3
open PySem PySem.Spec PyProof.Rows L2 SeqAt
section
variable {X:Cx} {xw:XW} {a b:Expr} {fa fb:DSt→Res D} {pos p:Pos}
theorem op_repT:OpR X (binaryOp .Mult) (fun x y H Q=>∃ l k xs,x= .ref l∧y= .int k∧SqT X.K H l xs∧xs≠ []∧1≤k∧k≤1000∧xs.length≤1000∧(k=1→Q (.ref l) H)∧(k≠1→∀ p,H p=none→Q (.ref p) (upd H p (.tup (List.replicate k.toNat xs).flatten)))):=by
 intro pins s σ H x y v u Q I rx ry h
 obtain ⟨l,k,xs,rfl,rfl,sq,hne,h1,h2,hl,q1,q2⟩:=h
 cases rx
 obtain ⟨t,rfl⟩:=ry
 obtain ⟨its,r,⟨⟨cls,dd,data,sl⟩,ho,hc,n,hd⟩,hz⟩:=I.tuple sq
 simp only at hc hd
 subst hc hd
 have hlen:=r.length
 have hi:its≠ []:=fun e=>hne (by rw [e] at hlen;exact List.eq_nil_of_length_eq_zero hlen)
 have he:its.toArray.isEmpty=false:=by cases its with
  |nil=>exact absurd rfl hi
  |cons=>simp
 have hsz:(its.toArray.size:Int)*k≤1000000:=by
  rw [List.size_toArray,←hlen]
  have h3:(xs.length:Int)*k≤1000*1000:=Int.mul_le_mul (by omega) h2 (by omega) (by decide)
  omega
 have hsz':(its.length:Int)*k≤1000000:=by simpa using hsz
 refine wpAny_binaryOp_repeat_ref (T:="tuple") (U:="int") (by decide) ⟨_,ho,rfl⟩ (fun s'=>typeIs_int s' k t) tm_fill F.fills_int_mul F.slot_int_rmul tm_rep F.slot_int_index.lookup
  (call_meets F.slot_int_rmul (typeIs_int s k t) F.entry_int_rmul (F.args_int_rmul_2 _ _) (tm_no k t l its.toArray n dd sl) ⟨ho,rfl,⟨_,ho,rfl⟩,?_⟩)
 by_cases hk:k=1
 ·subst hk
  exact call_meets F.slot_tuple_mul ⟨_,ho,rfl⟩ F.entry_tuple_mul (F.args_tuple_mul_2 _ _) (tm_one l its.toArray n dd sl t) ⟨ho,⟨.ref l,H,I,rfl,q1 rfl⟩⟩
 ·have hfl:(List.replicate k.toNat its.toArray).foldl (fun x1 x2=>x1++x2) #[]=(List.replicate k.toNat its).flatten.toArray:=by
   have:=foldl_rep its k.toNat []
   rw [List.nil_append] at this
   exact this
  have hfz:(List.replicate k.toNat its).flatten.length≤sizeLine:=by
   rw [len_rep,sizeLine_eq]
   have h3:its.length*k.toNat≤1000*1000:=Nat.mul_le_mul (by omega) (by omega)
   rw [Nat.mul_comm];omega
  refine call_meets F.slot_tuple_mul ⟨_,ho,rfl⟩ F.entry_tuple_mul (F.args_tuple_mul_2 _ _) (tm_many l its.toArray n dd sl k t ?_ ?_ ?_ ?_ ?_ ?_) ⟨ho,?_⟩
  ·simp only [Bool.or_eq_false_iff,decide_eq_false_iff_not];omega
  ·rw [he];simpa using hk
  ·rw [he];simp;omega
  ·omega
  ·unfold Builtin.Tuple.tupleTooMany
   have:((sizeLine:Nat):Int)=16777216:=by rw [sizeLine_eq];rfl
   rw [this];simp;omega
  ·rw [hfl,List.size_toArray];exact hfz
  ·rw [hfl]
   refine ⟨.ref s.heap.objs.size,_,I.laid (a:=s.heap.objs.size) (o:= .tup (List.replicate k.toNat xs).flatten) (t':=s.toks) (fun _ _ e=>Heap.get?_push_of_some _ e) (Nat.le_refl _) ⟨?_,_,r.rep k.toNat,IsTup.new _ _⟩,rfl,q2 hk _ I.fresh⟩
   rw [len_rep,sizeLine_eq]
   have h3:xs.length*k.toNat≤1000*1000:=Nat.mul_le_mul (by omega) (by omega)
   rw [Nat.mul_comm];omega
noncomputable def mulE:D→D→Res D
 | .int i, .int j=>mulD (.int i) (.int j)
 | .tup xs, .int k=>@ite (Res D) (xs≠ []∧1≤k∧k≤1000∧xs.length≤1000) (Classical.propDecidable _) (.ok (.tup (List.replicate k.toNat xs).flatten)) .stuck
 |_,_=> .stuck
theorem mulE_ii (i j:Int):mulE (.int i) (.int j)=@ite (Res D) ((-18446744073709551616<i∧i<18446744073709551616)∨(-18446744073709551616<j∧j<18446744073709551616)) (Classical.propDecidable _) (.ok (.int (i*j))) .stuck:=rfl
theorem HasL.rep {K:PySem.W.Frag} {W:WS} {H:Hp} {ds:List D} {xs:List V} (h:HasL K W H ds xs):∀ k:Nat,HasL K W H (List.replicate k ds).flatten (List.replicate k xs).flatten
 |0=>by simp [HasL]
 |k+1=>by
  rw [List.replicate_succ,List.flatten_cons,List.replicate_succ,List.flatten_cons]
  exact h.append (HasL.rep h k)
theorem x_mulE (ha:XP X xw a fa) (hb:XP X xw b fb):XE X xw (.BinOp a .Mult b pos) (b2 mulE fa fb):=⟨by
 refine de_op2 (op_mul.or op_repT) (fun W H d e v u Q w hv hu q=> ?_) ha.h hb.h
 unfold mulE at q
 split at q
 ·unfold mulD at q
  dsimp only at q
  split at q
  ·rename_i hj
   exact .inl ⟨_,_,hv.int,hu.int,hj,q.int⟩
  ·exact q.elim
 ·split at q
  ·rename_i xs k hj
   obtain ⟨l,ys,e,sq,r⟩:=hv.tup
   refine .inr ⟨l,k,ys,e,hu.int,sq,?_,hj.2.1,hj.2.2.1,by rw [←r.length];exact hj.2.2.2,fun hk=> ?_,fun _ p hp=>q.newT w hp (r.rep _)⟩
   ·intro z
    subst z
    exact hj.1 (List.eq_nil_of_length_eq_zero (by simpa using r.length))
   ·subst hk
    refine q _ H (Same.refl _) ?_
    rw [Has]
    exact ⟨l,ys,rfl,sq,by simpa using r⟩
  ·exact q.elim
 ·exact q.elim⟩
end
end L3
namespace L3
open PySem PySem.Spec PyProof.Rows L2 SeqAt
section
variable {K:PySem.W.Frag} {W₀ W:WS} {H₀ H H':Hp} {σ:L2.St} {δ:DSt}
theorem StHas.freeze {i:Nat} {ds:List D} {a:Addr} (h:StHas K W₀ H₀ W H σ δ) (hi:δ[i]? =some (some (.o ds))) (hs:σ[i]? =some (some (.ref a))):
  StHas K W₀ H₀ (fun b=>W b∧b≠a) H σ (δ.set i (some (.d (.lst ds))))∧Has K (fun b=>W b∧b≠a) H (.lst ds) (.ref a):=by
 obtain ⟨v,h1,b,xs,e',hW,h0,h3,h4⟩:=h.at' i _ hi
 rw [hs] at h1
 cases h1
 cases e'
 have hd:Has K (fun b=>W b∧b≠a) H (.lst ds) (.ref a):=by
  rw [Has]
  exact ⟨a,xs,rfl, .inl ⟨h3,fun z=>z.2 rfl⟩,HasL.keep (fun _ _ e _=>e) h.fr.wl (fun b z=> .inl z.1) h4⟩
 exact ⟨h.freezeG (owo ds) hi hs hd,hd⟩
end
section
variable {X:Cx} {xw:XW} {pos p p2:Pos} {tg a b c:Expr} {fa fb:DSt→Res D} {fs:DSt→Res (List D)}
def b2F (op:D→D→Res (List D)) (f g:DSt→Res D):DSt→Res (List D):=fun δ=>(f δ).bind fun x=>(g δ).bind fun y=>op x y
noncomputable def catR:D→D→Res (List D)
 | .lst xs, .lst ys=>@ite (Res (List D)) (xs.length+ys.length≤sizeLine) (Classical.propDecidable _) (.ok (xs++ys)) .stuck
 |_,_=> .stuck
theorem op_catL:OpR X (binaryOp .Add) (fun x y H Q=>∃ l b xs zs,x= .ref l∧y= .ref b∧SqL X.K H l xs∧SqL X.K H b zs∧xs.length+zs.length≤sizeLine∧∀ p,H p=none→Q (.ref p) (upd H p (.lst (xs++zs)))):=by
 intro pins s σ H x y v u Q I rx ry h
 obtain ⟨l,b,xs,zs,rfl,rfl,hH,hB,hz,q⟩:=h
 cases rx
 cases ry
 obtain ⟨its,r,⟨⟨cls,dd,data,sl⟩,n,e,hc,hd,hs⟩,hz1⟩:=I.list hH
 obtain ⟨its2,r2,⟨⟨cls2,dd2,data2,sl2⟩,n2,e2,hc2,hd2,hs2⟩,hz2⟩:=I.list hB
 simp only at hc hd hs hc2 hd2 hs2
 subst hc hd hs hc2 hd2 hs2
 have hl:=r.length
 have hl2:=r2.length
 refine concat_meets ⟨_,e,rfl⟩ ⟨_,e2,rfl⟩ noFill_list_add seq_list_add PySem.F.slot_list_add PySem.F.entry_list_add (PySem.F.args_list_add_2 _ _) (list_addW l b its.toArray its2.toArray n n2 none none sl sl2 (by rw [List.size_toArray,List.size_toArray];omega)) ⟨e,e2,?_⟩
 have ea:its.toArray++its2.toArray=(its++its2).toArray:=by simp
 rw [ea]
 exact ⟨.ref _,_,I.lnew (t':=s.toks) (r.append r2) (by rw [List.length_append];omega),rfl,q _ I.fresh⟩
theorem two_readF {σ:L2.St} {H:Hp} {W₀ W:WS} {H₀:Hp} {δ:DSt} {op:D→D→Res (List D)} {Q:VK} {R:V→V→Hp→Prop} (st:StHas X.K W₀ H₀ W H σ δ)
  (q:RF X.K xw W H ((fa δ).bind fun x=>(fb δ).bind fun y=>op x y) Q)
  (h:∀ H2 d e v u,Same H H2→WL W H2→HasT X.K W H2 d v→HasT X.K W H2 e u→RF X.K xw W H2 (op d e) Q→R v u H2):
  tDP X.K xw fa σ H fun x H1=>tDP X.K xw fb σ H1 fun y H2=>R x y H2:=by
 refine ⟨W₀,H₀,W,δ,st,?_⟩
 cases h1:fa δ with
 |stuck=>rw [h1] at q;exact q
 |ex c fs=>rw [h1] at q;exact q
 |ok d=>
  rw [h1] at q
  intro v H1 k1 hv
  refine ⟨W₀,H₀,W,δ,st.same k1,?_⟩
  have q':RF X.K xw W H ((fb δ).bind fun y=>op d y) Q:=q
  cases h2:fb δ with
  |stuck=>rw [h2] at q';exact q'
  |ex c fs=>rw [h2] at q';exact fun H2 k2=>q' H2 (k1.trans k2)
  |ok e=>
   rw [h2] at q'
   intro u H2 k2 hu
   have q2:RF X.K xw W H (op d e) Q:=q'
   exact h H2 d e v u (k1.trans k2) (st.fr.wl.same (k1.trans k2)) (hv.same k2 (st.fr.wl.same k1)) hu (RF.same q2 (k1.trans k2))
theorem f_cat (ha:XP X xw a fa) (hb:XP X xw b fb):XF X xw (.BinOp a .Add b pos) (b2F catR fa fb):=
 ⟨PE.weak (pe_op op_catL ha.h hb.h) fun σ H Q ⟨W₀,H₀,W,δ,st,q⟩=>two_readF st q fun H2 d e v u k w hv hu q2=>by
  unfold catR at q2
  split at q2
  ·split at q2
   ·rename_i hz
    obtain ⟨a1,xs,e1,s1,r1⟩:=hv.lst
    obtain ⟨a2,ys,e2,s2,r2⟩:=hu.lst
    exact ⟨a1,a2,xs,ys,e1,e2,s1,s2,by rw [←r1.length,←r2.length];exact hz,fun p hp=>q2 p _ H2 (Same.refl _) hp (r1.append r2)⟩
   ·exact q2.elim
  ·exact q2.elim⟩
end
end L3
namespace L3
open PySem PySem.Spec PyProof.Rows L2 SeqAt
def flatD:D→Bool
 | .non=>true
 | .bl _=>true
 | .int _=>true
 | .str _=>true
 |_=>false
section
variable {K:PySem.W.Frag} {W:WS} {H:Hp}
theorem flat_has {d:D} {v:V} (h:Has K W H d v) (f:flatD d=true):flatV v=true:=by
 cases d with
 |non=>rw [Has] at h;subst h;rfl
 |bl b=>rw [Has] at h;subst h;rfl
 |int i=>rw [Has] at h;subst h;rfl
 |str x=>rw [Has] at h;subst h;rfl
 |_=>cases f
theorem eq_has {d e:D} {v u:V} (h:Has K W H d v) (g:Has K W H e u) (f:flatD d=true) (f2:flatD e=true):eqV v u=eqD d e:=by
 cases d with
 |non=>rw [Has] at h;subst h;cases e<;>first|exact absurd (show false=true from f2) Bool.false_ne_true|(rw [Has] at g;subst g;simp [eqV,eqD])
 |bl b=>rw [Has] at h;subst h;cases e<;>first|exact absurd (show false=true from f2) Bool.false_ne_true|(rw [Has] at g;subst g;simp [eqV,eqD])
 |int i=>rw [Has] at h;subst h;cases e<;>first|exact absurd (show false=true from f2) Bool.false_ne_true|(rw [Has] at g;subst g;simp [eqV,eqD])
 |str x=>rw [Has] at h;subst h;cases e<;>first|exact absurd (show false=true from f2) Bool.false_ne_true|(rw [Has] at g;subst g;simp [eqV,eqD])
 |_=>cases f
theorem in_has {d:D} {v:V} (h:Has K W H d v) (f:flatD d=true):∀ {ds:List D} {xs:List V},HasL K W H ds xs→ds.all flatD=true→xs.all flatV=true∧inV v xs=ds.any (fun y=>eqD y d)
 | [],_,r,_=>by rw [HasL] at r;subst r;exact ⟨rfl,rfl⟩
 |e::ds,_,r,fs=>by
  rw [HasL] at r
  obtain ⟨x,q,rfl,hx,hq⟩:=r
  rw [List.all_cons,Bool.and_eq_true] at fs
  obtain ⟨h1,h2⟩:=in_has h f hq fs.2
  refine ⟨by rw [List.all_cons,flat_has hx fs.1,h1];rfl,?_⟩
  show (eqV x v||inV v q)=(eqD e d||ds.any fun y=>eqD y d)
  rw [eq_has hx h fs.1 f,h2]
end
def subS (i j:Str):Bool:= !(Builtin.Str.occurrences j i 0 j.length 1).isEmpty
def inB (d:D) (ds:List D):Bool:=ds.any fun y=>eqD y d
def inR:D→D→Res D
 | .str i, .str j=> .ok (.bl (subS i j))
 |d, .tup ds=>if (flatD d&&ds.all flatD)=true then .ok (.bl (inB d ds)) else .stuck
 |d, .lst ds=>if (flatD d&&ds.all flatD)=true then .ok (.bl (inB d ds)) else .stuck
 |_,_=> .stuck
def ninR:D→D→Res D
 | .str i, .str j=> .ok (.bl (!subS i j))
 |d, .tup ds=>if (flatD d&&ds.all flatD)=true then .ok (.bl (!inB d ds)) else .stuck
 |d, .lst ds=>if (flatD d&&ds.all flatD)=true then .ok (.bl (!inB d ds)) else .stuck
 |_,_=> .stuck
section
variable {X:Cx} {xw:XW} {pos p p2:Pos} {tg a b c e:Expr} {f fa fb:DSt→Res D} {fs:DSt→Res (List D)}
theorem flatT {K:PySem.W.Frag} {W:WS} {H:Hp} {d:D} {v:V} (h:HasT K W H d v) (f:flatD d=true):Has K W H d v:=by
 rcases h with h|⟨ds,_,_,rfl,_⟩
 ·exact h
 ·cases f
theorem op2_in:Op2 X xw (fun x y H Q=>(∃ i j,x= .str i∧y= .str j∧Q (.bl (!(Builtin.Str.occurrences j i 0 j.length 1).isEmpty)) H)∨rIn X.K false x y H Q) inR:=by
 intro W H d e v u Q w hv hu q
 unfold inR at q
 split at q
 ·exact .inl ⟨_,_,hv.str,hu.str,q.bl⟩
 ·split at q
  ·rename_i hf
   rw [Bool.and_eq_true] at hf
   obtain ⟨a1,xs,e1,sq,r⟩:=hu.tup
   obtain ⟨h1,h2⟩:=in_has (flatT hv hf.1) hf.1 r hf.2
   exact .inr ⟨a1,xs,e1, .inr sq,flat_has (flatT hv hf.1) hf.1,h1,by rw [if_neg Bool.false_ne_true,h2];exact q.bl⟩
  ·exact q.elim
 ·split at q
  ·rename_i hf
   rw [Bool.and_eq_true] at hf
   obtain ⟨a1,xs,e1,sq,r⟩:=hu.lst
   obtain ⟨h1,h2⟩:=in_has (flatT hv hf.1) hf.1 r hf.2
   exact .inr ⟨a1,xs,e1, .inl sq,flat_has (flatT hv hf.1) hf.1,h1,by rw [if_neg Bool.false_ne_true,h2];exact q.bl⟩
  ·exact q.elim
 ·exact q.elim
theorem op2_nin:Op2 X xw (fun x y H Q=>(∃ i j,x= .str i∧y= .str j∧Q (.bl (!(!(Builtin.Str.occurrences j i 0 j.length 1).isEmpty))) H)∨rIn X.K true x y H Q) ninR:=by
 intro W H d e v u Q w hv hu q
 unfold ninR at q
 split at q
 ·exact .inl ⟨_,_,hv.str,hu.str,q.bl⟩
 ·split at q
  ·rename_i hf
   rw [Bool.and_eq_true] at hf
   obtain ⟨a1,xs,e1,sq,r⟩:=hu.tup
   obtain ⟨h1,h2⟩:=in_has (flatT hv hf.1) hf.1 r hf.2
   exact .inr ⟨a1,xs,e1, .inr sq,flat_has (flatT hv hf.1) hf.1,h1,by rw [if_pos rfl,h2];exact q.bl⟩
  ·exact q.elim
 ·split at q
  ·rename_i hf
   rw [Bool.and_eq_true] at hf
   obtain ⟨a1,xs,e1,sq,r⟩:=hu.lst
   obtain ⟨h1,h2⟩:=in_has (flatT hv hf.1) hf.1 r hf.2
   exact .inr ⟨a1,xs,e1, .inl sq,flat_has (flatT hv hf.1) hf.1,h1,by rw [if_pos rfl,h2];exact q.bl⟩
  ·exact q.elim
 ·exact q.elim
theorem y_in (ha:XP X xw a fa) (hb:XP X xw b fb) (hm:behindInMarks .In b=false:=by rfl):XT X xw (.Compare a [.In] [b] pos) (tR (b2 inR fa fb)):=
 ⟨DE.t_of (f:=b2 inR fa fb) (PT.weak (pt_cmpR (op_in_str.or op_in_seq) ha.h hb.h hm) fun σ H Q ⟨W₀,H₀,W,δ,st,q⟩=>two_read st q fun H2 d e v u k w hv hu _ _ q2=>op2_in W H2 d e v u _ w hv hu q2)⟩
theorem y_nin (ha:XP X xw a fa) (hb:XP X xw b fb) (hm:behindInMarks .NotIn b=false:=by rfl):XT X xw (.Compare a [.NotIn] [b] pos) (tR (b2 ninR fa fb)):=
 ⟨DE.t_of (f:=b2 ninR fa fb) (PT.weak (pt_cmpR (op_notin_str.or op_notIn_seq) ha.h hb.h hm) fun σ H Q ⟨W₀,H₀,W,δ,st,q⟩=>two_read st q fun H2 d e v u k w hv hu _ _ q2=>op2_nin W H2 d e v u _ w hv hu q2)⟩
def rSlS:V→Option Int→Option Int→Hp→VK→Prop:=fun x lo hi H Q=>∃ z,x= .str z∧z.length≤sizeLine∧Q (.str (PySem.Txt.slice z lo hi)) H
theorem part_of {v:Value} {o:Option Int} (h:IsPart v o):∃ l:Option (Int×Tok),v=partValue l∧l.map (·.1)=o:=by
 cases h with
 |none=>exact ⟨none,rfl,rfl⟩
 |int i t=>exact ⟨some (i,t),rfl,rfl⟩
theorem sl_str:SlR X rSlS:=by
 intro pins s σ H x v vl vu lo hi sl Q I rx hs pl pu h
 obtain ⟨z,rfl,hz,q⟩:=h
 obtain ⟨t,rfl⟩:=rx
 obtain ⟨l,rfl,rfl⟩:=part_of pl
 obtain ⟨u,rfl,rfl⟩:=part_of pu
 refine ⟨"str",_,F.slot_str_getitem.lookup,typeIs_str _ _ _,wpAny_getItem_str_slice (l:=l) (u:=u) (st:=none) hs rfl ?_⟩
 exact post_val_or_str ⟨Nat.le_trans (PySem.Txt.slice_le z _ _) hz,fun t' k=>⟨.str _,H,I.tok _,⟨t',rfl⟩,q⟩⟩
noncomputable def slS (d:D) (lo hi:Option Int):Res D:=match d with
 | .str z=>@ite (Res D) (z.length≤sizeLine) (Classical.propDecidable _) (.ok (.str (PySem.Txt.slice z lo hi))) .stuck
 |_=> .stuck
variable {lo hi:Option Expr} {fl fh:DSt→Res (Option Int)}
theorem x_slS (ha:XP X xw a fa) (hl:XO X xw lo fl) (hh:XO X xw hi fh):XE X xw (.Subscript a (.Slice lo hi none p2) pos) (b3 slS fa fl fh):=
 ⟨PE.weak (pe_slice sl_str ha.h hl.h hh.h) fun σ H Q ⟨W₀,H₀,W,δ,st,q⟩=>sl_read (G:=fun H r=>RE X.K xw W H r Q) st (fun _ _ _ q=>q) (fun _ q=>q) (fun _ _ _ k q=>RE.same q k) q fun H2 d v l u k w hv q2=>by
  unfold slS at q2
  split at q2
  ·split at q2
   ·rename_i hz
    exact ⟨_,hv.str,hz,q2.str⟩
   ·exact q2.elim
  ·exact q2.elim⟩
structure GlobT (K:PySem.W.Frag) (mg:Str→Option Value) (x:Str) (xs:List Str):Prop where
 h:∃ (ad:Addr) (o:Obj) (its:Array Value) (n:Nat),mg x=some (.ref ad)∧K.lookup ad=some o∧o.cls= .type "tuple"∧o.data= .seq its n∧its.size≤sizeLine∧Vals (xs.map V.str) its.toList
theorem rel_key {P:Program} {w:World} {k:Key} {u:Value} (r:RelV (kV k) u):(mixKind P w).is k u=true:=by
 cases k with
 |inl i=>obtain ⟨t,rfl⟩:=r;exact mixKind_int P w i t
 |inr x=>obtain ⟨t,rfl⟩:=r;exact mixKind_str P w x t
def keyD:D→Option Key
 | .str x=>some (.inr x)
 | .int i=>some (.inl i)
 |_=>none
end
end L3
namespace L3
open PySem PySem.Spec PyProof.Rows L2 SeqAt
open Builtin Builtin.Str
section
variable {X:Cx} {xw:XW} {pos p p2 apos cpos:Pos} {tg a b c e o:Expr} {es:List Expr} {f fa fb:DSt→Res D} {fs:DSt→Res (List D)}
def strsOf:List D→Option (List Str)
 | []=>some []
 | .str x::ds=>(strsOf ds).map (x:: ·)
 |_=>none
theorem strsOf_has {K:PySem.W.Frag} {W:WS} {H:Hp}:∀ {ds:List D} {xs:List Str} {vs:List V},strsOf ds=some xs→HasL K W H ds vs→vs=xs.map V.str
 | [],xs,vs,h,r=>by cases h;rw [HasL] at r;exact r
 |d::ds,xs,vs,h,r=>by
  cases d with
  |str x=>
   obtain ⟨ys,h1,rfl⟩:=Option.map_eq_some_iff.mp (show (strsOf ds).map (x:: ·)=some xs from h)
   rw [HasL] at r
   obtain ⟨v,q,rfl,hv,hq⟩:=r
   rw [Has] at hv
   rw [hv,strsOf_has h1 hq];rfl
  |_=>cases h
theorem call_intS:CallR X (.type "int") (fun xs H Q=>∃ z n,xs= [.str z]∧PySem.intText? z=some n∧z.length≤640∧Q (.int n) H):=by
 intro pins s σ H xs us Q I r h
 obtain ⟨z,n,rfl,hn,hl,q⟩:=h
 obtain ⟨u,rfl,t,rfl⟩:=vals1 r
 exact PySem.W.KIN.call_text hn hl ⟨.int n,H,I.tok _,⟨_,rfl⟩,q⟩
def intS:D→Res D
 | .int i=> .ok (.int i)
 | .bl k=> .ok (.int (if k then 1 else 0))
 | .str z=>match PySem.intText? z with
  |some n=>if z.length≤640 then .ok (.int n) else .stuck
  |none=> .stuck
 |_=> .stuck
theorem x_intS (hm:X.mg "int"=none) (ha:XP X xw a fa) (hg:Gl X "int":=by rfl) (he:starEach [a] X.env=(false,eval a X.env)::starEach [] X.env:=by rfl) (hpl:(backTo pos (starEach [] X.env)).any (·.1)=false:=by rfl):
  XE X xw (.Call (.Name "int" p) [a] [] pos) (b1 intS fa):=
 ⟨de_callT1 (CallR.or call_int1 call_intS) (fun W H d v Q w hv q=>by
  unfold intS at q
  split at q
  ·exact .inl (.inl ⟨_,by rw [hv.int],q.int⟩)
  ·exact .inl (.inr ⟨_,by rw [hv.bl],q.int⟩)
  ·split at q
   ·rename_i hn
    split at q
    ·rename_i hl
     exact .inr ⟨_,_,by rw [hv.str],hn,hl,q.int⟩
    ·exact q.elim
   ·exact q.elim
  ·exact q.elim) hm (by decide +kernel) ha.h hg (by decide) (by decide) he hpl⟩
end
end L3
namespace L3
open PySem PySem.Spec PyProof.Rows L2 SeqAt
section
variable {X:Cx} {xw:XW} {pos p p2 apos cpos:Pos} {tg a b c e o ie:Expr} {es:List Expr} {f fi fa fb:DSt→Res D} {fs:DSt→Res (List D)}
def setJ (i:Nat) (δ:DSt) (ds:List D) (d ix:D):Out:=match ix with
 | .int k=>match ixN ds.length k with
  |some j=> .nx (δ.set i (some (.o (ds.set j d))))
  |none=> .stuck
 |_=> .stuck
def setO (i:Nat) (fi:DSt→Res D) (δ:DSt) (d:D):Out:=match δ[i]? with
 |some (some (.o ds))=>ofR (fi δ) (setJ i δ ds d)
 |_=> .stuck
def sSetI (i:Nat) (fi f:DSt→Res D):DSt→Out:=fun δ=>ofR (f δ) (setO i fi δ)
end
end L3
namespace L3
open PySem PySem.Spec PyProof.Rows L2 SeqAt
section
variable {X:Cx} {xw:XW} {pos p:Pos} {a:Expr} {fa:DSt→Res D}
end
end L3
namespace HT
open PySem PyProof.Rows
section
open PySem.SeqAt
open PySem.AutoSeq1 (wpAny_loadPart')
open PySem.MeetsSeq PySem.MeetsSeq2 PySem.MeetsSeq3
end
section
variable {prog:Program} {w:World} {A:Around} {E:Value→Shared→Prop} {s:Shared}
end
end HT
namespace L3
open PySem PySem.Spec PyProof.Rows L2 SeqAt
section
variable {X:Cx} {xw:XW}
end
end L3
namespace L3
open PySem
def Rise (xs:Array Nat):Prop:=xs.toList.Pairwise (fun a b=>a<b)
theorem Rise.lt {xs:Array Nat} (r:Rise xs) {i j:Nat} {a b:Nat} (h:i<j) (ha:xs[i]? =some a) (hb:xs[j]? =some b):a<b:=by
 unfold Rise at r;rw [List.pairwise_iff_getElem] at r
 rw [←Array.getElem?_toList] at ha hb
 obtain ⟨p,e⟩:=List.getElem?_eq_some_iff.mp ha
 obtain ⟨q,f⟩:=List.getElem?_eq_some_iff.mp hb
 have z:=r i j p q h
 rw [e,f] at z;exact z
structure TOk (txt:Bool) (t:SetTable):Prop where
 led:t.led= !txt
 ok:t.plain=true→Rise t.place∧t.dummies= #[]
end L3
namespace L3
open PySem
def nv:Value→Int
 | .int n _=>n
 |_=>0
def ddp (σ:List Int) (k:Int):List Int:=if k∈σ then σ else σ++ [k]
section
variable {prog:Program} {w:World} {A:Around} {E:Value→Shared→Prop} {s:Shared}
def SI (prog:Program) (w:World) (h:Heap) (a:Addr) (σ:List Int):Prop:=
 ∃ o es ep t,h.get? a=some o∧o.ExactSet∧o.data= .set es ep t∧ElemsOf (intKind prog w) es.toList∧(es.toList.map fun e=>nv e.2).Perm σ∧es.size<scanBound∧t.fits es.size=true∧TOk (w.params.followText "set-order") t
theorem SI.at' {h h':Heap} {a:Addr} {σ:List Int} (x:SI prog w h a σ) (k:∀ o,h.get? a=some o→h'.get? a=some o):SI prog w h' a σ:=by
 obtain ⟨o,es,ep,t,ho,r⟩:=x;exact ⟨o,es,ep,t,k o ho,r⟩
end
end L3
namespace L3
open PySem
namespace F
end F
section
variable {prog:Program} {w:World} {A:Around} {E:Value→Shared→Prop} {s:Shared} {S I:Addr} {o:Obj} {es:Array (Int×Value)} {ep:Nat} {t:SetTable}
end
end L3
namespace L3
open PySem
namespace F
end F
section
variable {prog:Program} {w:World} {A:Around} {E:Value→Shared→Prop} {s:Shared} {S I T:Addr} {o:Obj} {es:Array (Int×Value)} {ep:Nat} {t:SetTable} {first:Value} {i:Nat}
end
structure SW (prog:Program) (w:World) (A:Around) (I:Addr) (fp:List Addr) (ord:List Value) (St:Nat→Heap→Prop):Prop where
 W:Walks prog w A I fp [I] ord.length (fun i v=>ord[i]? =some v) St
 mem:I∈fp
end L3
namespace L3
open PySem
section
variable {prog:Program} {w:World} {A:Around} {E:Value→Shared→Prop} {s:Shared} {S I T:Addr} {o:Obj} {es:Array (Int×Value)} {ep:Nat} {t:SetTable} {first:Value} {i:Nat} {σ:List Int}
end
end L3
namespace L3
open PySem
open Sem (wp)
section
variable {prog:Program} {w:World} {A:Around} {E:Value→Shared→Prop} {s:Shared} {S:Addr} {σ:List Int}
end
end L3
namespace L3
open PySem
open Sem (wp)
def met (ns:List Int):List Int:=ns.foldl ddp []
section
variable {prog:Program} {w:World} {A:Around} {R:Result→Shared→Prop} {I:Addr} {fp wr:List Addr} {G:Array GenState→Array GenState→Prop} {n:Nat} {P:Nat→Value→Prop} {St:Nat→Shared→Prop} {E:Value→Shared→Prop} {s:Shared}
def Itr (prog:Program) (w:World) (l:Addr) (ol:Obj) (items:Array Value):Prop:=∀ (A:Around) (s':Shared) (Q:Value→Shared→Prop) (E:Value→Shared→Prop),s'.heap.get? l=some ol→
 (∀ I St h',(∀ A':Around,A'.handled=none→Walks prog w A' I [I,l] [I] items.size (fun i v=>items[i]? =some v) St)→St 0 h'→I=s'.heap.objs.size→(∀ b o,s'.heap.get? b=some o→h'.get? b=some o)→Q (.ref I) {s' with heap:=h'})→
 wpAny (model prog w) A (pyIter (.ref l)) Q E s'
theorem itr_list {l:Addr} {ol:Obj} {items:Array Value} {nl:Nat} (hc:ol.cls= .type "list") (hd:ol.data= .seq items nl):Itr prog w l ol items:=fun A s' Q E hl h=>by
 have hL:s'.heap.IsList l items:=⟨ol,hl,hc,nl,hd⟩
 have hne:l≠s'.heap.objs.size:=Nat.ne_of_lt (Heap.lt_size hl)
 exact wpAny_pyIter_list hL (h _ (fun i h=>h.IsListIter s'.heap.objs.size l i∧h.IsList l items) _ (fun A' hA=>Walks.list hA _ l hne items) ⟨⟨_,Heap.get?_push_size _ rfl,rfl,rfl⟩,hL.push _⟩ rfl fun b o e=>Heap.get?_push_of_some _ e)
theorem set_made (a:Value) {Q₁:Value→Shared→Prop} (h:∀ led:Bool,led=(!w.params.followText "set-order")→Q₁ (.ref s.heap.objs.size) {s with heap:=s.heap.push {cls:= .type "set",dict:=none,data:= .set #[] 0 (.fresh 0 0 led)}}):
  codeAny (model prog w) A (.call (.builtin "set.__new__") ⟨[.type "set",a],[]⟩) (wants Q₁ E) s:=by
 refine codeAny_of_tree ?_
 show wpAny _ A.in1 (checkBuiltinCall "set.__new__" ⟨[.type "set",a],[]⟩ >>= fun _=>again (.builtin "set.__new__" ⟨[.type "set",a],[]⟩)) _ _ s
 refine wpAny_bind (wpAny_of_eq (PySem.F.newCall_set_1 a) (wpAny_pure ⟨plainId_quiet PySem.F.plain_set_new _,codeAny_builtin PySem.F.entry_set_new ?_⟩));rw [Around.under_plainId PySem.F.plain_set_new _]
 unfold Builtin.«set.__new__» Builtin.Frozenset.newClass
 have hsub:=sub_set_self
 obtain ⟨hp,g,d,tk,os⟩:=s
 dsimp only;wp_walk
 refine wpAny_askSetting (wpAny_pure ?_)
 dsimp only;simp only [newObj]
 exact wpAny_bind (wpAny_alloc (wpAny_pure (wpAny_pure (h _ rfl))))
end
end L3
namespace L3
open PySem
open Sem (wp)
section
variable {prog:Program} {w:World} {A:Around} {E:Value→Shared→Prop} {s:Shared}
end
end L3
namespace L3
open PySem PyProof.Rows
section
variable {prog:Program} {w:World} {A:Around} {E:Value→Shared→Prop} {s:Shared}
end
end L3
namespace L3
end L3
namespace L3
open PySem PySem.Spec PyProof.Rows L2
abbrev eh1 (t:Bool) (h:Heap) (l:Addr):Heap:=h.push (itO t l)
abbrev eh2 (t:Bool) (h:Heap) (l:Addr):Heap:=(eh1 t h l).push {cls:= .type "enumerate",data:= .fields #[.none, .bool false, .ref h.objs.size,rawInt 0, .none, .none]}
section
variable {X:Cx} {xw:XW} {elts:List Expr} {kt:Nat} {pt p pos:Pos} {a b:Expr} {fs:DSt→Res (List D)}
end
end L3
namespace L3
open PySem PySem.Spec PyProof.Rows L2 SeqAt
theorem vals_ints:∀ {us:List Value} {ns:List Int},IntsAre us ns→Vals (ns.map V.int) us
 |_,_, .nil=> .nil
 |_,_, .cons n t r=> .cons ⟨t,rfl⟩ (vals_ints r)
section
variable {X:Cx} {xw:XW} {pos p pos2 p2:Pos} {a:Expr} {fa:DSt→Res D} {pins:List (Addr×Obj)} {σ:L2.St} {H:Hp} {s:Shared}
end
end L3
namespace HT
open PySem PyProof.Rows
section
variable {prog:Program} {w:World} {A:Around} {E:Value→Shared→Prop} {s:Shared}
end
end HT
namespace L3
open PySem PySem.Spec PyProof.Rows L2 SeqAt
section
variable {X:Cx} {xw:XW} {a:Expr} {lo hi:Option Expr} {fa:DSt→Res D} {fl fh:DSt→Res (Option Int)} {pos p2:Pos}
def slW (d:D) (lo hi:Option Int):Res D:=match d with
 | .tup ds=> .ok (.tup (cutD ds lo hi))
 | .lst ds=> .ok (.lst (cutD ds lo hi))
 |_=> .stuck
end
theorem slW_l (ds:List D) (lo hi:Option Int):slW (.lst ds) lo hi= .ok (.lst (cutD ds lo hi)):=rfl
end L3
namespace HT
open PySem PyProof.Rows
section
variable {prog:Program} {w:World} {A:Around} {E:Value→Shared→Prop} {s:Shared}
end
end HT
namespace L3
open PySem PySem.Spec PyProof.Rows L2 SeqAt
section
variable {X:Cx} {xw:XW} {a st:Expr} {fa:DSt→Res D} {pos p2:Pos}
end
end L3
namespace L3
open PySem PySem.Spec PyProof.Rows L2
section
variable {K:PySem.W.Frag} {xw:XW} {W₀ W W1:WS} {H₀ H H1:Hp} {Dn:Ends}
def RSO (K:PySem.W.Frag) (xw:XW) (W₀:WS) (H₀:Hp) (W:WS) (H:Hp) (o:Out) (Dn:Ends):Prop:=match o with
 | .rt (.lst ds)=>∀ a xs H',Same H₀ H'→H₀ a=none→H' a=some (.lst xs)→HasL K (fun b=>W₀ b∨b=a) H' ds xs→Dn.rt (.ref a) H'
 |o=>RS K xw W₀ H₀ W H o Dn
theorem RSO.step {o:Out} (h:RSO K xw W₀ H₀ W H o Dn) (k:Step W H W1 H1):RSO K xw W₀ H₀ W1 H1 o Dn:=by
 cases o with
 |rt d=>cases d<;>exact h
 |nx δ=>exact RS.step (xw:=xw) (o:= .nx δ) h k
 |bk δ=>exact RS.step (xw:=xw) (o:= .bk δ) h k
 |ct δ=>exact RS.step (xw:=xw) (o:= .ct δ) h k
 |ex c fs=>exact h
 |stuck=>exact h
def tDSO (K:PySem.W.Frag) (xw:XW) (g:DSt→Out):TS:=fun Dn σ H=>∃ W₀ H₀ W δ,StHas K W₀ H₀ W H σ δ∧RSO K xw W₀ H₀ W H (g δ) Dn
end
structure NoL (g:DSt→Out):Prop where
 h:∀ δ ds,g δ≠ .rt (.lst ds)
theorem NoL.seq {a b:DSt→Out} (ha:NoL a) (hb:NoL b):NoL (sSeq a b):=⟨fun δ ds=>by
 show seqO (a δ) b≠_
 cases h:a δ with
 |nx δ'=>exact hb.h δ' ds
 |rt d=>intro e;exact ha.h δ ds (by rw [h];exact e)
 |bk δ'=>intro e;cases e
 |ct δ'=>intro e;cases e
 |ex c fs=>intro e;cases e
 |stuck=>intro e;cases e⟩
theorem ofR_no {α:Type} {r:Res α} {k:α→Out} {ds:List D} (h:∀ a,k a≠ .rt (.lst ds)):ofR r k≠ .rt (.lst ds):=by
 cases r with
 |ok a=>exact h a
 |ex c fs=>intro e;cases e
 |stuck=>intro e;cases e
theorem NoL.nx:NoL Out.nx:=⟨fun δ ds e=>by cases e⟩
theorem NoL.own {i:Nat} {f:DSt→Res (List D)}:NoL (sOwn i f):=⟨fun δ ds=>ofR_no fun k e=>by cases e⟩
theorem NoL.set {i:Nat} {f:DSt→Res D}:NoL (sSet i f):=⟨fun δ ds=>ofR_no fun k e=>by cases e⟩
section
variable {X:Cx} {xw:XW} {st:Stmt} {sts:List Stmt} {g1 g2:DSt→Out} {pos p:Pos} {a:Expr} {es:List Expr}
structure XSO (X:Cx) (xw:XW) (sts:List Stmt) (g:DSt→Out):Prop where
 h:PSs X sts (tDSO X.K xw g)
def spO (K:PySem.W.Frag) (n:Nat) (m:List D→Res D):Sp:=fun vs H Q _=>vs.length=n∧∃ W ds,WL W H∧HasL K W H ds vs∧match m ds with
 | .ok (.lst fs)=>∀ a xs H',Same H H'→H a=none→H' a=some (.lst xs)→HasL K (fun b=>W b∨b=a) H' fs xs→Q (.ref a) H'
 | .ok d=>∀ v H',Same H H'→Has K W H' d v→Q v H'
 |_=>False
structure FnO (P:Program) (w:World) (K:PySem.W.Frag) (mg:Str→Option Value) (base:Heap) (k:Nat) (x:Str) (n:Nat) (m:List D→Res D):Prop where
 ex:∃ f fd ps,FnOk P w K mg base CX0 k f fd ps (spO K n m)∧mg x=some (.ref f)∧PySem.W.keepIn K (.ref f)=true∧Binds K fd ps []
theorem FnO.mono {P:Program} {w:World} {K:PySem.W.Frag} {mg:Str→Option Value} {base:Heap} {j k n:Nat} {x:Str} {m:List D→Res D} (F:FnO P w K mg base j x n m) (h:j≤k):FnO P w K mg base k x n m:=by
 obtain ⟨f,fd,ps,a,b⟩:=F.ex
 exact ⟨f,fd,ps,a.mono h,b⟩
theorem FnO.fn {P:Program} {w:World} {K:PySem.W.Frag} {mg:Str→Option Value} {base:Heap} {k n:Nat} {x:Str} {m:List D→Res D} (F:FnO P w K mg base k x n m):Fn P w K mg base k x n m:=by
 obtain ⟨f,fd,ps,a,b⟩:=F.ex
 refine ⟨f,fd,ps,a.imp fun vs H Q E ⟨hl,W,ds,hw,hd,q⟩=>⟨hl,W,ds,hw,hd,?_⟩,b⟩
 cases h:m ds with
 |ex c fs=>rw [h] at q;exact q
 |stuck=>rw [h] at q;exact q
 |ok d=>
  rw [h] at q
  cases d with
  |lst fs=>
   intro a xs H' k hn ha hx
   refine q (.ref a) H' k ?_
   rw [Has]
   refine ⟨a,xs,rfl, .inl ⟨ha,fun z=> ?_⟩,HasL.keep (fun _ _ e _=>e) (fun b z=>z.elim (hw.same k b) fun z=>by rw [z];exact ⟨_,ha,trivial⟩) (fun b z=> .inl (.inl z)) hx⟩
   obtain ⟨ys,e,_⟩:=hw a z
   rw [hn] at e;cases e
  |_=>exact q
def ownO (i:Nat) (δ:DSt):D→Out
 | .lst ds=> .nx (δ.set i (some (.o ds)))
 |d=> .nx (δ.set i (some (.d d)))
def sOwnR (i:Nat) (f:DSt→Res D):DSt→Out:=fun δ=>ofR (f δ) (ownO i δ)
def HasTL (K:PySem.W.Frag) (W:WS) (H:Hp):List D→List V→Prop
 | [],xs=>xs= []
 |d::ds,xs=>∃ x r,xs=x::r∧HasT K W H d x∧HasTL K W H ds r
def RAP (K:PySem.W.Frag) (xw:XW) (W:WS) (H:Hp) (r:Res (List D)) (Q:List V→Hp→Prop):Prop:=match r with
 | .ok ds=>∀ vs H',Same H H'→HasTL K W H' ds vs→Q vs H'
 | .ex c fs=>∀ H',Same H H'→xw c fs H'
 | .stuck=>False
structure XAP (X:Cx) (xw:XW) (es:List Expr) (f:DSt→Res (List D)):Prop where
 h:PA X es fun σ H Q=>∃ W₀ H₀ W δ,StHas X.K W₀ H₀ W H σ δ∧RAP X.K xw W H (f δ) Q
theorem l_nil:XAP X xw [] aNil:=⟨PA.weak pa_nil fun σ H Q ⟨W₀,H₀,W,δ,st,q⟩=>q [] H (Same.refl H) rfl⟩
theorem l_cons {fa:DSt→Res D} {fs:DSt→Res (List D)} (ha:XP X xw a fa) (hr:XAP X xw es fs) (hs:starEach (a::es) X.env=(false,eval a X.env)::starEach es X.env:=by rfl):XAP X xw (a::es) (aCons fa fs):=
 ⟨PA.weak (pa_cons ha.h hr.h hs) fun σ H Q ⟨W₀,H₀,W,δ,st,q⟩=>by
  refine ⟨W₀,H₀,W,δ,st,?_⟩
  have q0:RAP X.K xw W H (consR (fa δ) (fs δ)) Q:=q
  unfold consR at q0
  cases h1:fa δ with
  |stuck=>rw [h1] at q0;exact q0
  |ex c fs=>rw [h1] at q0;exact q0
  |ok d=>
   rw [h1] at q0
   intro v H1 k1 hv
   refine ⟨W₀,H₀,W,δ,st.same k1,?_⟩
   have q':RAP X.K xw W H ((fs δ).bind fun ds=> .ok (d::ds)) Q:=q0
   cases h2:fs δ with
   |stuck=>rw [h2] at q';exact q'
   |ex c gs=>rw [h2] at q';exact fun H2 k2=>q' H2 (k1.trans k2)
   |ok ds=>
    rw [h2] at q'
    intro vs H2 k2 hvs
    have q2:RAP X.K xw W H (.ok (d::ds)) Q:=q'
    exact q2 (v::vs) H2 (k1.trans k2) ⟨v,vs,rfl,hv.same k2 (st.fr.wl.same k1),hvs⟩⟩
abbrev W0:WS:=fun _=>False
theorem hasT_lent {K:PySem.W.Frag} {W:WS} {H:Hp} {d:D} {v:V} (w:WL W H) (h:HasT K W H d v):Has K W0 H d v:=by
 rcases h with h|⟨ds,a,xs,rfl,rfl,ha,r⟩
 ·exact Has.keep (fun _ _ e _=>e) w (fun b z=>z.elim) h
 ·rw [Has]
  exact ⟨a,xs,rfl, .inl ⟨ha,fun z=>z⟩,HasL.keep (fun _ _ e _=>e) w (fun b z=>z.elim) r⟩
theorem hasTL_lent {K:PySem.W.Frag} {W:WS} {H:Hp} (w:WL W H):∀ {ds:List D} {vs:List V},HasTL K W H ds vs→HasL K W0 H ds vs
 | [],_,h=>by rw [show _= [] from h];exact HasL.nil
 |d::ds,_,h=>by
  obtain ⟨x,r,rfl,h1,h2⟩:=h
  exact HasL.cons (hasT_lent w h1) (hasTL_lent w h2)
def flatOnly:Res D→Res D
 | .ok d=>if flatD d=true then .ok d else .stuck
 |r=>r
end
end L3
namespace L3
open PySem PySem.Spec PyProof.Rows L2 SeqAt
section
variable {α β:Type}
def tGet (l:List (Key×α)) (k:Key):Option α:=(l.find? fun p=>decide (p.1=k)).map (·.2)
def tHas (l:List (Key×α)) (k:Key):Bool:=l.any fun p=>decide (p.1=k)
def tPut (l:List (Key×α)) (k:Key) (y:α):List (Key×α):=if tHas l k=true then l.map (fun p=>if p.1=k then (p.1,y) else p) else l++ [(k,y)]
theorem tGet_pos {p:Key×α} {r:List (Key×α)} {k:Key} (e:p.1=k):tGet (p::r) k=some p.2:=by simp [tGet,List.find?_cons,e]
theorem tGet_neg {p:Key×α} {r:List (Key×α)} {k:Key} (e:¬ p.1=k):tGet (p::r) k=tGet r k:=by simp [tGet,List.find?_cons,e]
theorem tHas_get (k:Key):∀ l:List (Key×α),tHas l k=(tGet l k).isSome
 | []=>rfl
 |p::r=>by
  by_cases e:p.1=k
  ·rw [tGet_pos e];simp [tHas,e]
  ·rw [tGet_neg e,←tHas_get k r];simp [tHas,e]
theorem tPut_len (l:List (Key×α)) (k:Key) (y:α):(tPut l k y).length≤l.length+1:=by
 unfold tPut;split
 ·rw [List.length_map];omega
 ·simp
theorem tGet_put (l:List (Key×α)) (k j:Key) (y:α):tGet (tPut l k y) j=if k=j then some y else tGet l j:=by
 unfold tPut
 have hm:∀ l:List (Key×α),tGet (l.map fun p=>if p.1=k then (p.1,y) else p) j=if k=j then (if tHas l k=true then some y else none) else tGet l j:=by
  intro l
  induction l with
  |nil=>by_cases e:k=j<;>simp [e,tGet,tHas]
  |cons p r ih=>
   rw [List.map_cons]
   by_cases h1:p.1=k
   ·rw [if_pos h1]
    by_cases h2:k=j
    ·rw [tGet_pos (p:=(p.1,y)) (h1.trans h2),if_pos h2,if_pos (by simp [tHas,h1])]
    ·rw [tGet_neg (p:=(p.1,y)) (fun z=>h2 (h1.symm.trans z)),ih,if_neg h2,if_neg h2,tGet_neg (fun z=>h2 (h1.symm.trans z))]
   ·rw [if_neg h1]
    by_cases h3:p.1=j
    ·have h2:¬ k=j:=fun z=>h1 (h3.trans z.symm)
     rw [tGet_pos h3,if_neg h2,tGet_pos h3]
    ·rw [tGet_neg h3,ih,tGet_neg h3]
     have:tHas (p::r) k=tHas r k:=by simp [tHas,h1]
     rw [this]
 split
 ·rename_i h
  rw [hm]
  by_cases e:k=j
  ·rw [if_pos e,if_pos e,if_pos h]
  ·rw [if_neg e,if_neg e]
 ·rename_i h
  have hn:tGet l k=none:=by
   cases q:tGet l k with
   |none=>rfl
   |some z=>rw [tHas_get,q] at h;exact (h rfl).elim
  have hs:∀ l:List (Key×α),tGet l k=none→tGet (l++ [(k,y)]) j=if k=j then some y else tGet l j:=by
   intro l
   induction l with
   |nil=>
    intro _
    by_cases e:k=j
    ·rw [if_pos e];exact tGet_pos (p:=(k,y)) e
    ·rw [if_neg e];exact tGet_neg (p:=(k,y)) e
   |cons p r ih=>
    intro hn
    have hk:¬ p.1=k:=fun z=>by rw [tGet_pos z] at hn;cases hn
    rw [tGet_neg hk] at hn
    rw [List.cons_append]
    by_cases e:p.1=j
    ·rw [tGet_pos e,tGet_pos e,if_neg (fun z=>hk (e.trans z.symm))]
    ·rw [tGet_neg e,tGet_neg e,ih hn]
  exact hs l hn
end
theorem kv_get {kvs:List (Key×V)} {vs:List (Key×Value)} (r:KV kvs vs) (k:Key):(∀ v,tGet kvs k=some v→∃ u,valueAt vs k=some u∧RelV v u)∧(tGet kvs k=none→valueAt vs k=none):=by
 unfold KV at r
 induction r with
 |nil=>exact ⟨(fun v e=>by cases e),fun _=>rfl⟩
 |@cons p q ps qs h t ih=>
  obtain ⟨h1,h2⟩:=h
  by_cases e:p.1=k
  ·have b:valueAt (q::qs) k=some q.2:=by simp [valueAt,List.find?_cons,h1.symm.trans e]
   rw [tGet_pos e,b]
   exact ⟨fun v z=>by cases z;exact ⟨_,rfl,h2⟩,fun z=>by cases z⟩
  ·have e':¬ q.1=k:=fun z=>e (h1.trans z)
   have b:valueAt (q::qs) k=valueAt qs k:=by simp [valueAt,List.find?_cons,e']
   rw [tGet_neg e,b];exact ih
theorem kv_has {kvs:List (Key×V)} {vs:List (Key×Value)} (r:KV kvs vs) (k:Key):tHas kvs k=vs.any fun p=>decide (p.1=k):=by
 unfold KV at r
 induction r with
 |nil=>rfl
 |cons h t ih=>unfold tHas at ih ⊢;rw [List.any_cons,List.any_cons,ih,h.1]
theorem kv_put {kvs:List (Key×V)} {vs:List (Key×Value)} (r:KV kvs vs) (k:Key) {y:V} {u:Value} (ry:RelV y u):KV (tPut kvs k y) (stored vs k u):=by
 unfold tPut stored
 rw [kv_has r k]
 by_cases e:(vs.any fun p=>decide (p.1=k))=true
 ·rw [if_pos e,if_pos e]
  unfold KV at r ⊢
  clear e
  induction r with
  |nil=>exact .nil
  |@cons p q ps qs h t ih=>
   rw [List.map_cons,List.map_cons]
   refine .cons ?_ ih
   obtain ⟨h1,h2⟩:=h
   by_cases e:p.1=k
   ·rw [if_pos e,if_pos (h1.symm.trans e)];exact ⟨h1,ry⟩
   ·rw [if_neg e,if_neg (fun z=>e (h1.trans z))];exact ⟨h1,h2⟩
 ·rw [if_neg e,if_neg e]
  unfold KV at r ⊢
  clear e
  induction r with
  |nil=>exact .cons ⟨rfl,ry⟩ .nil
  |cons h t ih=>exact .cons h ih
theorem kv_len {kvs:List (Key×V)} {vs:List (Key×Value)} (r:KV kvs vs):kvs.length=vs.length:=by
 unfold KV at r
 induction r with
 |nil=>rfl
 |cons h t ih=>rw [List.length_cons,List.length_cons,ih]
section
variable {K:PySem.W.Frag} {W:WS} {H:Hp}
def HasP (K:PySem.W.Frag) (W:WS) (H:Hp) (l:List (Key×D)) (kvs:List (Key×V)):Prop:=kvs.map (·.1)=l.map (·.1)∧HasL K W H (l.map (·.2)) (kvs.map (·.2))
theorem HasP.nil:HasP K W H [] []:=⟨rfl,HasL.nil⟩
theorem HasP.cons {p:Key×D} {l:List (Key×D)} {kvs:List (Key×V)} (h:HasP K W H (p::l) kvs):∃ v r,kvs=(p.1,v)::r∧Has K W H p.2 v∧HasP K W H l r:=by
 obtain ⟨h1,h2⟩:=h
 cases kvs with
 |nil=>cases h1
 |cons q r=>
  rw [List.map_cons,List.map_cons] at h1 h2
  rw [HasL] at h2
  obtain ⟨x,t,e,g1,g2⟩:=h2
  cases e
  have h3:=List.cons.inj h1
  exact ⟨q.2,r,by rw [←h3.1],g1,h3.2,g2⟩
theorem HasP.mk {k:Key} {d:D} {v:V} {l:List (Key×D)} {kvs:List (Key×V)} (h:Has K W H d v) (t:HasP K W H l kvs):HasP K W H ((k,d)::l) ((k,v)::kvs):=⟨by rw [List.map_cons,List.map_cons,t.1],by rw [List.map_cons,List.map_cons];exact HasL.cons h t.2⟩
theorem HasP.len {l:List (Key×D)} {kvs:List (Key×V)} (h:HasP K W H l kvs):l.length=kvs.length:=by
 have:=congrArg List.length h.1
 simpa using this.symm
theorem HasP.of {ks:List Key} {ds:List D} {kvs:List (Key×V)} (h1:kvs.map (·.1)=ks) (h2:HasL K W H ds (kvs.map (·.2))):HasP K W H (ks.zip ds) kvs∧(ks.zip ds).map (·.1)=ks∧(ks.zip ds).map (·.2)=ds:=by
 have hl:ks.length=ds.length:=by rw [←h1,h2.length,List.length_map,List.length_map]
 have e1:(ks.zip ds).map (·.1)=ks:=by rw [←List.unzip_fst,List.unzip_zip hl]
 have e2:(ks.zip ds).map (·.2)=ds:=by rw [←List.unzip_snd,List.unzip_zip hl]
 exact ⟨⟨by rw [e1,h1],by rw [e2];exact h2⟩,e1,e2⟩
theorem HasP.keep {W':WS} {H':Hp} {l:List (Key×D)} {kvs:List (Key×V)} (k:Keep W H H') (w:WL W H) (hw:∀ b,W' b→W b∨H b=none) (h:HasP K W H l kvs):HasP K W' H' l kvs:=⟨h.1,HasL.keep k w hw h.2⟩
theorem HasP.same {H':Hp} {l:List (Key×D)} {kvs:List (Key×V)} (h:HasP K W H l kvs) (k:Same H H') (w:WL W H):HasP K W H' l kvs:=⟨h.1,h.2.same k w⟩
theorem HasP.get:∀ {l:List (Key×D)} {kvs:List (Key×V)},HasP K W H l kvs→∀ (k:Key),(∀ d,tGet l k=some d→∃ v,tGet kvs k=some v∧Has K W H d v)∧(tGet l k=none→tGet kvs k=none)
 | [],kvs,h,k=>by
  obtain ⟨h1,_⟩:=h
  cases kvs with
  |nil=>exact ⟨(fun d e=>by cases e),fun _=>rfl⟩
  |cons _ _=>cases h1
 |p::l,kvs,h,k=>by
  obtain ⟨v,r,rfl,h1,h2⟩:=h.cons
  by_cases e:p.1=k
  ·rw [tGet_pos e,tGet_pos (p:=(p.1,v)) e]
   exact ⟨fun d z=>by cases z;exact ⟨v,rfl,h1⟩,fun z=>by cases z⟩
  ·rw [tGet_neg e,tGet_neg (p:=(p.1,v)) e];exact h2.get k
theorem HasP.has {l:List (Key×D)} {kvs:List (Key×V)} (h:HasP K W H l kvs) (k:Key):tHas kvs k=tHas l k:=by
 have:=h.1
 unfold tHas
 rw [show (kvs.any fun p=>decide (p.1=k))=(kvs.map (·.1)).any (fun z=>decide (z=k)) by rw [List.any_map];rfl,this,List.any_map];rfl
theorem HasP.put {l:List (Key×D)} {kvs:List (Key×V)} {d:D} {v:V} (h:HasP K W H l kvs) (k:Key) (hd:Has K W H d v):HasP K W H (tPut l k d) (tPut kvs k v):=by
 unfold tPut
 rw [h.has k]
 split
 ·rename_i hh;clear hh
  induction l generalizing kvs with
  |nil=>
   obtain ⟨h1,_⟩:=h
   cases kvs with
   |nil=>exact HasP.nil
   |cons _ _=>cases h1
  |cons p l ih=>
   obtain ⟨u,r,rfl,h1,h2⟩:=h.cons
   rw [List.map_cons,List.map_cons]
   by_cases e:p.1=k
   ·rw [if_pos e,if_pos e];exact HasP.mk hd (ih h2)
   ·rw [if_neg e,if_neg e];exact HasP.mk h1 (ih h2)
 ·rename_i hh;clear hh
  induction l generalizing kvs with
  |nil=>
   obtain ⟨h1,_⟩:=h
   cases kvs with
   |nil=>exact HasP.mk hd HasP.nil
   |cons _ _=>cases h1
  |cons p l ih=>
   obtain ⟨u,r,rfl,h1,h2⟩:=h.cons
   exact HasP.mk h1 (ih h2)
end
section
variable {X:Cx} {xw:XW} {a b e ie:Expr} {pos p p1 p2:Pos} {fa fb f fi:DSt→Res D}
theorem key_is {P:Program} {w:World} {k:Key} {u:Value} (r:RelV (kV k) u):(mixKind P w).is k u=true:=rel_key r
theorem rd_dk {P:Program} {w:World} {H:Hp} {h:Heap} {a:Addr} {kvs:List (Key×V)} (ok:HOk P w H h) (e:Rd H a (.dK kvs)):kvs.length≤sizeLine∧(a==sysModules)=false∧∃ vs,KV kvs vs∧h.DictOf (mixKind P w) a vs:=by
 rcases e with e|⟨o,e⟩
 ·exact ok a _ e
 ·exact (show _∧_ from ok a _ e).2
theorem Rd.same {H H':Hp} {a:Addr} {u:HO} (h:Rd H a u) (k:Same H H'):Rd H' a u:=h.imp (k _ _) fun ⟨o,e⟩=>⟨o,k _ _ e⟩
def rIxQ:R2:=fun x y H Q=>∃ a kvs k v,x= .ref a∧Rd H a (.dK kvs)∧y=kV k∧tGet kvs k=some v∧Q v H
theorem pe_dget {ta tb:TE} (ha:PE X a ta) (hb:PE X b tb) (hs:PlainIx b):PE X (.Subscript a b pos) (tOp rIxQ ta tb):=by
 intro pins s σ H Q I h
 refine Subscript_ (binT ha hb I h fun v u s2 x y H2 I2 rx ry q=> ?_)
 obtain ⟨d,kvs,k,z,rfl,hd,rfl,hg,q⟩:=q
 cases rx
 obtain ⟨_,hS,vs,rel,dd⟩:=rd_dk I2.hok hd
 obtain ⟨w',hw,rw'⟩:=(kv_get rel k).1 z hg
 unfold subscriptTail
 refine wpAny_bind ?_
 rw [getitemInPython_of_ne dd.typeIs.not_modules]
 refine wpAny_bind (wpAny_specialOf dd.typeIs PySem.F.slot_dict_getitem.lookup ?_)
 have fin:wpAny (model X.prog X.w) X.A (subscripted b false (.ref d) u) (fun r s₃=>wpAny (model X.prog X.w) X.A (letTemporaryGo a (.ref d) r >>= fun _=>pure r) (EP X pins σ Q) X.xe s₃) X.xe s2:=by
  rw [hs (.ref d) u]
  exact wpAny_operating (wpAny_getItem_of (key_is ry) dd.mapOf hw (wpAny_bind (wpAny_letTemporaryGo (wpAny_pure ⟨z,H2,I2.tok _,rw',q⟩))))
 first
  |exact wpAny_pure (wpAny_bind fin)
  |exact wpAny_bind (wpAny_pure (wpAny_bind fin))
  |exact wpAny_bind fin
def rSetQ:V→V→V→Hp→(Hp→Prop)→Prop:=fun o i v H Q=>∃ a kvs k,o= .ref a∧i=kV k∧H a=some (.dK kvs)∧kvs.length<sizeLine∧Q (upd H a (.dK (tPut kvs k v)))
theorem set_dict:PSet X rSetQ:=by
 intro pins s σ H o i v ov iv u Q I ro ri rv h
 obtain ⟨a,kvs,k,rfl,rfl,ha,hl,q⟩:=h
 cases ro
 obtain ⟨z,hS,vs,rel,dd⟩:=I.hok _ _ ha
 refine wpAny_setItem_pairs (hsz:=by rw [←kv_len rel];exact z) (key_is ri) dd fun h' dd' hs=>⟨_,?_,q⟩
 refine I.write (x:=a) (e:=a) (by rw [ha];exact trivial) (.inl rfl) (fun b' w hb hw=>(hs.2 b' hb).trans hw) ?_ ?_
 ·obtain ⟨ob,_,_,hq,_⟩:=dd';exact ⟨ob,hq⟩
 ·exact ⟨by have:=tPut_len kvs k v;omega,hS,_,kv_put rel k rv,dd'⟩
def RQ (K:PySem.W.Frag) (xw:XW) (W:WS) (H:Hp) (r:Res (List (Key×D))) (Q:VK):Prop:=match r with
 | .ok l=>∀ a kvs H',Same H H'→Rd H' a (.dK kvs)→HasP K W H' l kvs→Q (.ref a) H'
 | .ex c fs=>∀ H',Same H H'→xw c fs H'
 | .stuck=>False
def tDQ (K:PySem.W.Frag) (xw:XW) (f:DSt→Res (List (Key×D))):TE:=fun σ H Q=>∃ W₀ H₀ W δ,StHas K W₀ H₀ W H σ δ∧RQ K xw W H (f δ) Q
structure XQ (X:Cx) (xw:XW) (e:Expr) (f:DSt→Res (List (Key×D))):Prop where
 h:PE X e (tDQ X.K xw f)
def slotQ (i:Nat):DSt→Res (List (Key×D)):=fun δ=>match δ[i]? with
 |some (some (.q ks ds))=> .ok (ks.zip ds)
 |some (some (.d (.dct ks ds)))=> .ok (ks.zip ds)
 |_=> .stuck
theorem q_var (i:Nat) {x:Str} (hN:X.N[i]? =some x:=by rfl) (hv:Vis X.env.scope x:=by first|exact Or.inl rfl|exact Or.inr (Or.inl rfl)|exact Or.inr (Or.inr rfl)) (hd:(x==("__debug__":Str))=false:=by decide)
  (hcd:(x==("__classdict__":Str))=false:=by decide):XQ X xw (.Name x pos) (slotQ i):=
 ⟨PE.weak (pe_var hN hv hd hcd) fun σ H Q ⟨W₀,H₀,W,δ,st,q⟩=>by
  unfold slotQ at q
  split at q
  ·rename_i ks ds h
   obtain ⟨v,e1,a,kvs,rfl,r2,r3,r4,r5,r6⟩:=st.at' i _ h
   exact ⟨_,e1,q a kvs H (Same.refl H) (.inl r4) (HasP.of r5 r6).1⟩
  ·rename_i ks ds h
   obtain ⟨v,e1,r⟩:=st.at' i _ h
   have r':Has X.K W H (.dct ks ds) v:=r
   rw [Has] at r'
   obtain ⟨a,kvs,rfl,r4,r5,r6⟩:=r'
   exact ⟨_,e1,q a kvs H (Same.refl H) (.inr r4) (HasP.of r5 r6).1⟩
  ·exact q.elim⟩
theorem HasT.dct {K:PySem.W.Frag} {W:WS} {H:Hp} {ks:List Key} {ds:List D} {v:V} (h:HasT K W H (.dct ks ds) v):Has K W H (.dct ks ds) v:=by
 rcases h with h|⟨_,_,_,h1,_⟩
 ·exact h
 ·cases h1
def b1Q {α:Type} (op:D→Res α) (f:DSt→Res D):DSt→Res α:=fun δ=>(f δ).bind op
def dgetR (l:List (Key×D)) (d:D):Res D:=match keyD d with
 |some k=>match tGet l k with
  |some x=> .ok x
  |none=> .stuck
 |none=> .stuck
def b2Q {α:Type} (op:List (Key×D)→D→Res α) (f:DSt→Res (List (Key×D))) (g:DSt→Res D):DSt→Res α:=fun δ=>(f δ).bind fun l=>(g δ).bind fun d=>op l d
theorem keyD_has {K:PySem.W.Frag} {W:WS} {H:Hp} {d:D} {v:V} {k:Key} (h:HasT K W H d v) (e:keyD d=some k):v=kV k:=by
 cases d with
 |int i=>cases e;exact h.int
 |str x=>cases e;exact h.str
 |_=>cases e
theorem x_dget {fq:DSt→Res (List (Key×D))} (ha:XQ X xw a fq) (hb:XP X xw b fb) (hs:PlainIx b:=by intro _ _;rfl):XE X xw (.Subscript a b pos) (b2Q dgetR fq fb):=
 ⟨PE.weak (pe_dget ha.h hb.h hs) fun σ H Q ⟨W₀,H₀,W,δ,st,q⟩=>by
  refine ⟨W₀,H₀,W,δ,st,?_⟩
  unfold b2Q at q
  cases h1:fq δ with
  |stuck=>rw [h1] at q;exact q
  |ex c fs=>rw [h1] at q;exact q
  |ok l=>
   rw [h1] at q
   intro ad kvs H1 k1 hd hp
   refine ⟨W₀,H₀,W,δ,st.same k1,?_⟩
   have q':RE X.K xw W H ((fb δ).bind fun d=>dgetR l d) Q:=q
   cases h2:fb δ with
   |stuck=>rw [h2] at q';exact q'
   |ex c fs=>rw [h2] at q';exact fun H2 k2=>q' H2 (k1.trans k2)
   |ok d=>
    rw [h2] at q'
    intro v H2 k2 hv
    have q2:RE X.K xw W H (dgetR l d) Q:=q'
    unfold dgetR at q2
    split at q2
    ·rename_i k hk
     split at q2
     ·rename_i x hx
      have hp2:=hp.same k2 (st.fr.wl.same k1)
      obtain ⟨z,hz,hh⟩:=(hp2.get k).1 x hx
      exact ⟨ad,kvs,k,z,rfl,Rd.same hd k2,keyD_has hv hk,hz,q2 z H2 (k1.trans k2) hh⟩
     ·exact q2.elim
    ·exact q2.elim⟩
def sOwnQ (i:Nat):DSt→Out:=fun δ=> .nx (δ.set i (some (.q [] [])))
theorem pe_dnew {t:TE} (ht:∀ σ H Q,t σ H Q→∀ a,H a=none→Q (.ref a) (upd H a (.dK []))):PE X (.Dict [] [] pos) t:=by
 intro pins s σ H Q I q
 have big:sysModules<s.heap.objs.size:=by
  have h:mainGlobals<s.heap.objs.size:=(I.mod.glob.keeps I.bk).lt
  exact Nat.lt_trans (by decide) h
 exact wpAny_Dict_empty ⟨.ref s.heap.objs.size,_,I.laid (a:=s.heap.objs.size) (o:= .dK []) (t':=s.toks) (fun _ _ q=>Heap.get?_push_of_some _ q) (Nat.le_refl _) (dk_empty s.heap big),rfl,ht σ H Q q _ (I.hok.fresh (Nat.le_refl s.heap.objs.size))⟩
theorem s_ownQ (i:Nat) {x:Str} {pos' pos'':Pos} (hN:X.N.Nodup) (hi:X.N[i]? =some x:=by rfl) (hx:Loc X.env.scope x:=by first|exact Or.inl rfl|exact Or.inr rfl) (hs:swapsWith (.Dict [] [] pos'') (some (.Name x pos')) pos.line X.env=pure false:=by rfl)
  (hf:X.fn x=true∨X.env.scope.names.lookup x=some .local:=by first|exact .inl rfl|exact .inr rfl|assumption):XS X xw (.Assign [.Name x pos'] (.Dict [] [] pos'') pos) (sOwnQ i):=
 ⟨PS.weak (ps_set hN hi hx (pe_dnew (t:=fun _ H Q=>∀ a,H a=none→Q (.ref a) (upd H a (.dK []))) fun _ _ _ q=>q) hs hf) fun Dn σ H ⟨W₀,H₀,W,δ,st,q⟩=>by
  intro a ha
  have st1:=st.ownQ (i:=i) (ks:= []) (ds:= []) (kvs:= []) ha rfl HasL.nil
  have q':RS X.K xw W₀ H₀ W H (.nx (δ.set i (some (.q [] [])))) Dn:=q
  refine q' _ _ _ ⟨fun b o e nb=> ?_,fun b z=>z.elim .inl fun z=> .inr (by rw [z];exact ha)⟩ st1
  rw [upd_ne (ne_of_none e ha)];exact e⟩
def putJ (i:Nat) (δ:DSt) (l:List (Key×D)) (d ix:D):Out:=match keyD ix with
 |some k=>if l.length≤1000 then .nx (δ.set i (some (.q ((tPut l k d).map (·.1)) ((tPut l k d).map (·.2))))) else .stuck
 |none=> .stuck
def putO (i:Nat) (fi:DSt→Res D) (δ:DSt) (d:D):Out:=match δ[i]? with
 |some (some (.q ks ds))=>ofR (fi δ) (putJ i δ (ks.zip ds) d)
 |_=> .stuck
def sPutI (i:Nat) (fi f:DSt→Res D):DSt→Out:=fun δ=>ofR (f δ) (putO i fi δ)
theorem s_puti (i:Nat) {x:Str} (he:XE X xw e f) (hi:XE X xw ie fi) (hN:X.N[i]? =some x:=by rfl) (hv:Vis X.env.scope x:=by first|exact Or.inl rfl|exact Or.inr (Or.inl rfl)|exact Or.inr (Or.inr rfl)) (hd:(x==("__debug__":Str))=false:=by decide)
  (hcd:(x==("__classdict__":Str))=false:=by decide)
  (ha:∀ v,assign (.Subscript (.Name x p1) ie p2) X.env v=(do
   let ov ←holding [v] (eval (.Name x p1) X.env)
   let iv ←holding [v,ov] (eval ie X.env)
   standAt p2
   holding [v,ov,iv] (setItem ov iv v)
   release [v,ov,iv] []):=by intro _;rfl)
  (hs:swapsWithSole [.Subscript (.Name x p1) ie p2] e pos.line X.env=pure false:=by rfl) (hw:swappedStores [.Subscript (.Name x p1) ie p2] e X.env=pure none:=by rfl)
  (h1:(assignEach [.Subscript (.Name x p1) ie p2] X.env).map (·.2)= [assign (.Subscript (.Name x p1) ie p2) X.env]:=by rfl):
  XS X xw (.Assign [.Subscript (.Name x p1) ie p2] e pos) (sPutI i fi f):=
 ⟨PS.weak (ps_asg he.h (pg_sub (pe_var hN hv hd hcd) hi.h set_dict ha) hs hw h1) fun Dn σ H ⟨W₀,H₀,W,δ,st,q⟩=>by
  unfold sPutI at q
  refine val_read st q fun H2 d v st2 hv q2=> ?_
  unfold putO at q2
  split at q2
  ·rename_i ks ds h
   obtain ⟨v0,e1,a,kvs,rfl,r2,r3,r4,r5,r6⟩:=st2.at' i _ h
   refine ⟨_,e1,W₀,H₀,W,δ,st2,?_⟩
   cases hf:fi δ with
   |stuck=>rw [hf] at q2;exact q2.elim
   |ex c gs=>rw [hf] at q2;exact fun H3 k3=>q2 H3 (st2.fr.ext.trans k3)
   |ok ix=>
    rw [hf] at q2
    have q3:RS X.K xw W₀ H₀ W H2 (putJ i δ (ks.zip ds) d ix) Dn:=q2
    unfold putJ at q3
    split at q3
    ·rename_i k hk
     split at q3
     ·rename_i hlen
      intro vi H3 k3 hvi
      have hkk:=keyD_has (.inl hvi) hk
      subst hkk
      have st3:=st2.same k3
      obtain ⟨v',e1',a',kvs',e',r2',r3',r4',r5',r6'⟩:=st3.at' i _ h
      rw [e1] at e1'
      cases e1'
      cases e'
      have hp:=(HasP.of r5' r6').1
      have hp2:=hp.put k (hv.same k3 st2.fr.wl)
      refine ⟨a,kvs',k,rfl,rfl,r4',by have:=hp.len;rw [sizeLine_eq];omega,?_⟩
      refine q3 W _ σ ⟨fun b o e n=> ?_,fun _ z=> .inl z⟩ ?_
      ·rw [upd_ne (fun z=>n (by rw [z];exact r2'))];exact k3 _ _ e
      ·exact st3.changeQ h e1 r2' hp2.1 hp2.2
     ·exact q3.elim
    ·exact q3.elim
  ·exact q2.elim⟩
def frzD (i:Nat) (δ:DSt):DSt:=match δ[i]? with
 |some (some (.q ks ds))=>δ.set i (some (.d (.dct ks ds)))
 |some (some (.o ds))=>δ.set i (some (.d (.lst ds)))
 |_=>δ
theorem StHas.frzQ {K:PySem.W.Frag} {W₀ W:WS} {H₀ H:Hp} {σ:L2.St} {δ:DSt} {i:Nat} {ks:List Key} {ds:List D} {a:Addr} {kvs:List (Key×V)} (o:Obj) (h:StHas K W₀ H₀ W H σ δ) (hi:δ[i]? =some (some (.q ks ds))) (hs:σ[i]? =some (some (.ref a)))
  (hW:W a) (h4:kvs.map (·.1)=ks) (h5:HasL K W H ds (kvs.map (·.2))):StHas K W₀ H₀ (fun b=>W b∧b≠a) (upd H a (.frz o (.dK kvs))) σ (δ.set i (some (.d (.dct ks ds)))):=by
 have kk:Keep W H (upd H a (.frz o (.dK kvs))):=fun b u e n=>by rw [upd_ne (fun z=>n (by rw [z];exact hW))];exact e
 refine h.freezeH (owq ks ds) hi hs ?_
 rw [Has]
 exact ⟨a,kvs,rfl,⟨o,upd_same⟩,h4,HasL.keep kk h.fr.wl (fun b z=> .inl z.1) h5⟩
theorem Step.less {W W1 W2:WS} {H H2:Hp} (hw:∀ b,W1 b→W b) (k:Step W1 H W2 H2):Step W H W2 H2:=⟨fun b o e n=>k.keep b o e fun z=>n (hw b z),fun b z=>(k.new b z).imp (hw b) id⟩
theorem RS.less {K:PySem.W.Frag} {xw:XW} {W₀ W W1:WS} {H₀ H:Hp} {o:Out} {Dn:Ends} (hw:∀ b,W1 b→W b) (q:RS K xw W₀ H₀ W H o Dn):RS K xw W₀ H₀ W1 H o Dn:=by
 cases o with
 |nx δ=>exact fun W' H' σ k s=>q W' H' σ (k.less hw) s
 |bk δ=>exact fun W' H' σ k s=>q W' H' σ (k.less hw) s
 |ct δ=>exact fun W' H' σ k s=>q W' H' σ (k.less hw) s
 |rt d=>exact q
 |ex c fs=>exact q
 |stuck=>exact q
def sFrz (i:Nat) (g:DSt→Out):DSt→Out:=fun δ=>g (frzD i δ)
theorem RS.note {K:PySem.W.Frag} {xw:XW} {W₀ W:WS} {H₀ H:Hp} {o:Out} {Dn:Ends} {a:Addr} {ob:HO} (hW:W a) (q:RS K xw W₀ H₀ W H o Dn):RS K xw W₀ H₀ (fun b=>W b∧b≠a) (upd H a ob) o Dn:=by
 have st:∀ W' H',Step (fun b=>W b∧b≠a) (upd H a ob) W' H'→Step W H W' H':=fun W' H' k=>⟨fun b u e n=>by
   have hb:b≠a:=fun z=>n (by rw [z];exact hW)
   exact k.keep b u (by rw [upd_ne hb];exact e) fun z=>n z.1,fun b z=>by
   rcases k.new b z with z|z
   ·exact .inl z.1
   ·by_cases hb:b=a
    ·rw [hb,upd_same] at z;cases z
    ·rw [upd_ne hb] at z;exact .inr z⟩
 cases o with
 |nx δ=>exact fun W' H' σ k s=>q W' H' σ (st _ _ k) s
 |bk δ=>exact fun W' H' σ k s=>q W' H' σ (st _ _ k) s
 |ct δ=>exact fun W' H' σ k s=>q W' H' σ (st _ _ k) s
 |rt d=>exact q
 |ex c fs=>exact q
 |stuck=>exact q
theorem frz_step {i:Nat} {g:DSt→Out} {Dn:Ends} {σ:L2.St} {H:Hp} {pins:List (Addr×Obj)} {s:Shared} (I:Inv X pins σ H s) (h:tDS X.K xw (sFrz i g) Dn σ H):∃ H',Inv X pins σ H' s∧tDS X.K xw g Dn σ H':=by
 obtain ⟨W₀,H₀,W,δ,st,q⟩:=h
 have q':RS X.K xw W₀ H₀ W H (g (frzD i δ)) Dn:=q
 unfold frzD at q'
 split at q'
 ·rename_i ks ds h
  obtain ⟨v,e,a,kvs,rfl,r2,r3,r4,r5,r6⟩:=st.at' i _ h
  have ok:=I.hok _ _ r4
  obtain ⟨z,hS,vs,rel,dd⟩:=id ok
  obtain ⟨o,es,ep,ho,_⟩:=dd
  refine ⟨_,I.write (x:=a) (e:=a) (o:= .frz o (.dK kvs)) (h':=s.heap) (t':=s.toks) (by rw [r4];exact trivial) (.inl rfl) (fun b' u hb hu=>hu) ⟨_,ho⟩ ⟨ho,ok⟩,W₀,H₀,_,_,st.frzQ o h e r2 r5 r6,RS.note r2 q'⟩
 ·rename_i ds h
  obtain ⟨v,e,a,xs,rfl,_⟩:=st.at' i _ h
  exact ⟨H,I,W₀,H₀,_,_,(st.freeze h e).1,RS.less (fun b z=>z.1) q'⟩
 ·exact ⟨H,I,W₀,H₀,W,δ,st,q'⟩
theorem s_frz (i:Nat) {st:Stmt} {g:DSt→Out} (h:XS X xw st g):XS X xw st (sFrz i g):=⟨fun pins s σ H Dn I q=>let ⟨H',I',q'⟩:=frz_step I q;h.h pins s σ H' Dn I' q'⟩
end
end L3
namespace L3
open PySem PySem.Spec PyProof.Rows L2 SeqAt
section
variable {X:Cx} {xw:XW} {e b tg:Expr} {f:DSt→Res D} {pos apos:Pos}
variable {elts:List Expr} {kt:Nat} {pt:Pos}
end
end L3
namespace L3
open PySem PySem.Spec PyProof.Rows L2 SeqAt
section
variable {X:Cx} {xw:XW} {pos p pos2 apos:Pos} {a e:Expr} {fa f:DSt→Res D}
end
end L3
namespace L3
open PySem PySem.Spec PyProof.Rows L2 SeqAt
def IsRv (h:Heap) (a l:Addr) (i:Int):Prop:=∃ o,h.get? a=some o∧o.cls= .type "reversed"∧o.data= .fields #[.ref l,rawInt i]
theorem IsRv.typeIs {s:Shared} {a l:Addr} {i:Int} (x:IsRv s.heap a l i):s.TypeIs (.ref a) "reversed":=let ⟨o,ho,hc,_⟩:=x;⟨o,ho,hc⟩
theorem IsRv.at {h h':Heap} {a l:Addr} {i:Int} (x:IsRv h a l i) (e:∀ o,h.get? a=some o→h'.get? a=some o):IsRv h' a l i:=let ⟨o,ho,r⟩:=x;⟨o,e _ ho,r⟩
section
variable {prog:Program} {w:World} {A:Around} {E:Value→Shared→Prop} {s:Shared}
end
section
variable {X:Cx} {xw:XW} {tg a:Expr} {p pos:Pos} {fs:DSt→Res (List D)}
end
end L3
namespace L3
open PySem PySem.Spec PyProof.Rows L2 SeqAt
theorem entry_dloop:entryFor table "dict.update.loop"=some Builtin.«dict.update.loop» :=entryFor_of_tree (by kernel_rfl)
theorem plain_dloop:plainId "dict.update.loop"=true:=by decide +kernel
section
variable {prog:Program} {w:World} {KK:Type} [DecidableEq KK] {knd:KeyKind prog w KK} {A:Around} {R:Result→Shared→Prop} {I:Addr} {fp wr:List Addr} {G:Array GenState→Array GenState→Prop} {n:Nat} {P:Nat→Value→Prop} {St:Nat→Shared→Prop} {E:Value→Shared→Prop} {s:Shared}
theorem dl_loop (W:WalksS prog w A.in1 I fp wr G n P St) (S:Addr) (hSf:S∉fp) (base:Heap) (hnew:∀ b∈S::wr,base.objs.size≤b) (kvs:List (KK×Value)) (hn:kvs.length=n) (hsz:n≤sizeLine)
  (hv:∀ i v,P i v→∃ t key k val,v= .ref t∧kvs[i]? =some (k,val)∧knd.is k key=true∧IsTup base t #[key,val]):
  ∀ (j i:Nat) (s:Shared),n-i=j→i≤n→St i s→(∀ b o,base.get? b=some o→s.heap.get? b=some o)→s.heap.DictOf knd S (merged [] (kvs.take i))→(∀ s',Moved (S::wr) G s s'→s'.heap.DictOf knd S (merged [] kvs)→R (.ok (.ret .none)) s')→
   codeAny (model prog w) A (.builtin "dict.update.loop" ⟨[.ref S, .ref I,rawInt (i:Int), .none],[]⟩) R s:=by
 have hSw:S∉wr:=fun h=>hSf (W.sub _ h)
 have up:∀ b∈wr,b∈S::wr:=fun b hb=>List.mem_cons_of_mem _ hb
 have old:∀ b o,base.get? b=some o→b∉S::wr:=fun b o e m=>absurd (Heap.lt_size e) (Nat.not_lt.mpr (hnew b m))
 intro j
 induction j with
 |zero=>
  intro i s hk hi st hb hS hR
  have:i=n:=by omega
  subst this
  refine codeAny_builtin entry_dloop ?_;rw [Around.under_plainId plain_dloop _]
  show wpAny _ A.in1 (pyNext (.ref I) >>= _) _ _ s
  refine wpAny_bind (W.done s _ _ st fun s' mv=> ?_)
  show wpAny _ _ (Builtin.Dict.addKeywords S [] >>= _) _ _ s'
  refine wpAny_bind (wpAny_pure (wpAny_pure (hR s' (mv.mono up) ?_)))
  rw [List.take_of_length_le (Nat.le_of_eq hn)] at hS
  obtain ⟨o,es,ep,ho,r⟩:=hS
  exact ⟨o,es,ep,mv.heap S o hSw ho,r⟩
 |succ j ih=>
  intro i s hk hi st hb hS hR
  have lt:i<n:=by omega
  refine codeAny_builtin entry_dloop ?_;rw [Around.under_plainId plain_dloop _]
  show wpAny _ A.in1 (pyNext (.ref I) >>= _) _ _ s
  refine wpAny_bind (W.item i s _ _ lt st fun v s' pv st' mv=> ?_)
  obtain ⟨t,key,k,val,rfl,hkv,hkey,ht⟩:=hv i v pv
  have hS':s'.heap.DictOf knd S (merged [] (kvs.take i)):=by
   obtain ⟨o,es,ep,ho,r⟩:=hS
   exact ⟨o,es,ep,mv.heap S o hSw ho,r⟩
  obtain ⟨ot,e1,e2,e3⟩:=ht
  obtain ⟨m,e3⟩:=e3
  have et:=mv.heap t ot (fun z=>old t ot e1 (up _ z)) (hb t ot e1)
  have hT:s'.TypeIs (.ref t) "tuple":=⟨ot,et,e2⟩
  show wpAny _ A.in1 (holding [Value.ref t] _ >>= _) _ _ s'
  refine wpAny_bind (wpAny_holding ?_)
  refine wpAny_bind (wpAny_tryCatch ?_)
  unfold Builtin.Dict.pairItems
  refine wpAny_bind (wpAny_typeOf hT ?_)
  rw [if_pos (by decide)]
  refine wpAny_bind (wpAny_seqItems et e3 (wpAny_pure ?_))
  show wpAny _ _ (holding [key,val] (dictSet S key val)) _ _ _
  have hs0:(merged ([]:List (KK×Value)) (kvs.take i)).length≤sizeLine:=by
   have:=merged_length_le ([]:List (KK×Value)) (kvs.take i)
   rw [List.length_take,List.length_nil,Nat.zero_add] at this
   have h2:min i kvs.length≤i:=Nat.min_le_left _ _
   exact Nat.le_trans this (Nat.le_trans h2 (Nat.le_trans hi hsz))
  refine wpAny_holding (wpAny_dictSet_pairs (hsz:=hs0) hkey hS' fun h' hS2 sb=> ?_)
  refine wpAny_pure (show _∧codeAny (model prog w) A (.builtin "dict.update.loop" ⟨[.ref S, .ref I,rawInt ((i:Int)+1), .none],[]⟩) R {s' with heap:=h',toks:=s'.toks+1} from ⟨plainId_quiet plain_dloop _,?_⟩)
  have e5:rawInt ((i:Int)+1)=rawInt ((i+1:Nat):Int):=by congr 1
  rw [e5]
  refine ih (i+1) _ (by omega) lt (W.frame _ s' _ _ st' (Nat.le_succ _) fun b hb o e=>sb.extBut _ _ (fun q=>hSf (q▸hb)) e) (fun b o e=>sb.extBut _ _ (fun q=>old b o e (by rw [q];exact List.mem_cons_self)) (mv.heap b o (fun z=>old b o e (up _ z)) (hb b o e))) (by rw [merged_take_succ _ _ i _ hkv];exact hS2) fun s'' mv2 hS3=>hR s'' ?_ hS3
  exact Moved.trans W.gtrans ((mv.mono up).then_heap (Nat.le_succ _) fun b o hb e=>sb.extBut _ _ (fun q=>hb (by rw [q];exact List.mem_cons_self)) e) mv2
theorem list_noKeys:typeLookup (.type "list") "keys"=pure none:=by rw [typeLookup_type,builtinLookup_eq_fast];kernel_rfl
theorem keys_miss {a:Addr} {o:Obj} {xs:Array Value} {k:Nat} {Q:Option Value→Shared→Prop} (hx:s.heap.get? a=some o) (hc:o.cls= .type "list") (hdat:o.data= .seq xs k) (hd:o.dict=none) (hA:A.handled=none)
  (h:∀ h' tk,(∀ b ob,s.heap.get? b=some ob→h'.get? b=some ob)→Q none {s with heap:=h',toks:=tk}):
  wpAny (model prog w) A (getAttr? (.ref a) "keys") Q E s:=by
 obtain ⟨c,dct,dat,sl⟩:=o
 simp only at hc hdat hd
 subst hc hdat hd
 obtain ⟨hp,g,d,tk,os⟩:=s
 have hT:∀ tk',(⟨hp,g,d,tk',os⟩:Shared).TypeIs (.ref a) "list":=fun _=>⟨_,hx,rfl⟩
 have f1:=sub_AttributeError
 have f3:=F.slot_list_getattribute.lookup
 have f4:=F.slot_list_getattribute.bind (.ref a)
 have f5:=am_list_getattr_none
 unfold getAttr? getAttrBy? getAttrBy
 repeat (any_goals (first|assumption|exact hT _|((with_reducible show wpAny _ _ (call (Value.builtin "list.__getattribute__") _ _) _ _ _);refine call_meets F.slot_list_getattribute (hT _) am_entry_list_getattribute (F.args_list_getattribute_2 _ _) (meets_getattribute_miss_list a xs k sl "keys" _ list_noKeys (by decide) (by rw [sizeLine_eq];decide)) ⟨hx,hA,fun h' tk' e hx'=> ?_⟩)|wp_step))
 obtain ⟨t',u',he⟩:=hx'.there
 show wpAny _ _ (getattributeRaised _ _ _ _ _ _ _) _ _ _
 unfold getattributeRaised
 repeat (any_goals (first|assumption|wp_step))
 exact h h' tk' hx'.keeps
theorem call_dict_list {l:Addr} {o:Obj} {items:Array Value} {n0:Nat} {kvs:List (KK×Value)} {Q:Value→Shared→Prop} (hh:A.handled=none) (hx:s.heap.get? l=some o) (hc:o.cls= .type "list") (hdat:o.data= .seq items n0) (hd:o.dict=none) (hn:kvs.length=items.size) (hsz:items.size≤sizeLine)
  (hv:∀ (i:Nat) (v:Value),items[i]? =some v→∃ t key k val,v=Value.ref t∧kvs[i]? =some (k,val)∧knd.is k key=true∧IsTup s.heap t #[key,val])
  (h:∀ h' tk,h'.DictOf knd s.heap.objs.size (merged [] kvs)→(∀ b o,s.heap.get? b=some o→h'.get? b=some o)→Q (.ref s.heap.objs.size) {s with heap:=h',toks:=tk}):
  wpAny (model prog w) A (call (.type "dict") [.ref l]) Q E s:=by
 refine callType_codes (Q₁:=fun obj s₁=>obj= .ref s.heap.objs.size∧s₁= {s with heap:=s.heap.push {cls:= .type "dict",data:= .dict #[]}}) F.kt_called_dict (F.kt_typeCall_dict_1 _) F.entry_dict_init (kt_code_dict_new _ ⟨rfl,rfl⟩) ?_
 rintro obj s₁ ⟨rfl,rfl⟩
 have hnew:(s.heap.push {cls:= .type "dict",data:= .dict #[]}).DictOf knd s.heap.objs.size []:=Heap.DictOf.new s.heap
 have hx':=Heap.get?_push_of_some {cls:= .type "dict",data:= .dict #[]} hx
 have z1:(s.heap.push {cls:= .type "dict",data:= .dict #[]}).objs.size=s.heap.objs.size+1:=Heap.size_push ..
 have k1:∀ b o,s.heap.get? b=some o→(s.heap.push {cls:= .type "dict",data:= .dict #[]}).get? b=some o:=fun b o e=>Heap.get?_push_of_some _ e
 generalize (s.heap.push {cls:= .type "dict",data:= .dict #[]})=h1 at hnew hx' z1 k1 ⊢
 refine ⟨hnew.typeIs,F.args_dict_init_2 _ _,?_⟩
 unfold Builtin.«dict.__init__»
 refine wpAny_bind ?_
 unfold Builtin.Dict.selfAndRest
 refine wpAny_bind (wpAny_notOrdered_dict hnew.typeIs ?_)
 show wpAny _ _ (pure (s.heap.objs.size,[Value.ref l])) _ _ _
 refine wpAny_pure ?_
 show wpAny _ _ (Builtin.Dict.updateFrom "dict.__init__" s.heap.objs.size (.ref l) [] .none) _ _ _
 unfold Builtin.Dict.updateFrom
 have hT:Shared.TypeIs {s with heap:=h1} (.ref l) "list":=⟨_,hx',hc⟩
 refine wpAny_bind (wpAny_typeOf hT ?_)
 rw [if_pos (by decide)]
 refine wpAny_bind (keys_miss (s:= {s with heap:=h1}) hx' hc hdat hd hh fun h2 tk2 k2=> ?_)
 rw [if_pos (show (none:Option Value).isNone=true from rfl)]
 refine wpAny_bind (wpAny_rule ?_)
 have hl2:h2.IsList l items:=⟨o,k2 _ _ hx',hc,n0,hdat⟩
 refine wpAny_bind (wpAny_pyIter_list (s:= {s with heap:=h2,toks:=tk2}) hl2 ?_)
 have lS:s.heap.objs.size<h2.objs.size:=by
  obtain ⟨ob,_,_,hg,_⟩:=hnew
  exact Heap.lt_size (k2 _ _ hg)
 have ll:l<s.heap.objs.size:=Heap.lt_size hx
 have hS2:h2.DictOf knd s.heap.objs.size []:=by
  obtain ⟨ob,es,ep,hg,r⟩:=hnew
  exact ⟨ob,es,ep,k2 _ _ hg,r⟩
 have hlI:l≠h2.objs.size:=Nat.ne_of_lt (Nat.lt_trans ll lS)
 have W:=(Walks.list (prog:=prog) (w:=w) (A:=A.in1.in1) (show A.in1.in1.handled=none from hh) h2.objs.size l hlI items).toS
 refine wpAny_pure ⟨plainId_quiet plain_dloop _,?_⟩
 refine dl_loop (knd:=knd) (A:=A.in1) W s.heap.objs.size ?_ s.heap ?_ kvs hn hsz (fun i v pv=>hv i v pv) items.size 0 _ (by omega) (Nat.zero_le _) ?_ ?_ ?_ ?_
 ·simp only [List.mem_cons,List.not_mem_nil,or_false,not_or]
  exact ⟨Nat.ne_of_lt lS,Nat.ne_of_gt ll⟩
 ·intro b hb
  simp only [List.mem_cons,List.not_mem_nil,or_false] at hb
  rcases hb with rfl|rfl
  ·exact Nat.le_refl _
  ·exact Nat.le_of_lt lS
 ·exact ⟨⟨_,Heap.get?_push_size _ rfl,rfl,rfl⟩,⟨o,Heap.get?_push_of_some _ (k2 _ _ hx'),hc,n0,hdat⟩⟩
 ·exact fun b o e=>Heap.get?_push_of_some _ (k2 _ _ (k1 _ _ e))
 ·obtain ⟨ob,es,ep,hg,r⟩:=hS2
  exact ⟨ob,es,ep,Heap.get?_push_of_some _ hg,r⟩
 ·intro s' mv hS
  obtain ⟨h',g',d',tk',os'⟩:=s'
  have eg:g'=s.gens:=mv.gens
  have ed:d'=s.drawn:=mv.drawn
  have eo:os'=s.os:=mv.os
  subst eg ed eo
  refine ⟨rfl,h h' tk' hS fun b ob e=>mv.heap b ob ?_ (Heap.get?_push_of_some _ (k2 _ _ (k1 _ _ e)))⟩
  have hb:=Heap.lt_size e
  simp only [List.mem_cons,List.not_mem_nil,or_false,not_or]
  exact ⟨Nat.ne_of_lt hb,Nat.ne_of_lt (Nat.lt_trans hb lS)⟩
end
def mergeT {α:Type} (l:List (Key×α)):List (Key×α):=l.foldl (fun acc p=>tPut acc p.1 p.2) []
theorem kv_merge {kvs:List (Key×V)} {vs:List (Key×Value)} (r:KV kvs vs):KV (mergeT kvs) (merged [] vs):=by
 have go:∀ {kvs:List (Key×V)} {vs:List (Key×Value)},KV kvs vs→∀ {a:List (Key×V)} {b:List (Key×Value)},KV a b→KV (kvs.foldl (fun acc p=>tPut acc p.1 p.2) a) (vs.foldl (fun acc kv=>stored acc kv.1 kv.2) b):=by
  intro kvs vs r
  unfold KV at r
  induction r with
  |nil=>intro a b h;exact h
  |@cons p q ps qs h t ih=>
   intro a b hab
   obtain ⟨h1,h2⟩:=h
   rw [List.foldl_cons,List.foldl_cons,←h1]
   exact ih (kv_put hab p.1 h2)
 exact go r .nil
theorem HasP.merge {K:PySem.W.Frag} {W:WS} {H:Hp} {l:List (Key×D)} {kvs:List (Key×V)} (h:HasP K W H l kvs):HasP K W H (mergeT l) (mergeT kvs):=by
 have go:∀ (l:List (Key×D)) (kvs:List (Key×V)),HasP K W H l kvs→∀ (a:List (Key×D)) (b:List (Key×V)),HasP K W H a b→HasP K W H (l.foldl (fun acc p=>tPut acc p.1 p.2) a) (kvs.foldl (fun acc p=>tPut acc p.1 p.2) b):=by
  intro l
  induction l with
  |nil=>
   intro kvs h a b hab
   obtain ⟨h1,_⟩:=h
   cases kvs with
   |nil=>exact hab
   |cons _ _=>cases h1
  |cons p l ih=>
   intro kvs h a b hab
   obtain ⟨v,r,rfl,h1,h2⟩:=h.cons
   exact ih r h2 _ _ (hab.put p.1 h1)
 exact go l kvs h [] [] HasP.nil
theorem mergeT_len {α:Type} (l:List (Key×α)):(mergeT l).length≤l.length:=by
 have go:∀ (l a:List (Key×α)),(l.foldl (fun acc p=>tPut acc p.1 p.2) a).length≤a.length+l.length:=by
  intro l
  induction l with
  |nil=>intro a;simp
  |cons p l ih=>
   intro a
   have h1:=ih (tPut a p.1 p.2)
   have h2:=tPut_len a p.1 p.2
   rw [List.foldl_cons,List.length_cons];omega
 have:=go l [];simpa [mergeT] using this
section
variable {X:Cx} {xw:XW} {pos p:Pos} {a:Expr} {fa:DSt→Res D}
def PairsAt (K:PySem.W.Frag) (H:Hp):List V→List (Key×V)→Prop
 | [],kvs=>kvs= []
 |x::xs,kvs=>∃ t k v r,x= .ref t∧kvs=(k,v)::r∧SqT K H t [kV k,v]∧PairsAt K H xs r
theorem PairsAt.len {K:PySem.W.Frag} {H:Hp}:∀ {xs:List V} {kvs:List (Key×V)},PairsAt K H xs kvs→xs.length=kvs.length
 | [],_,h=>by rw [show _= [] from h];rfl
 |x::xs,_,h=>by
  obtain ⟨t,k,v,r,_,rfl,_,h⟩:=h
  rw [List.length_cons,List.length_cons,h.len]
theorem pairs_raw {pins:List (Addr×Obj)} {σ:L2.St} {H:Hp} {s:Shared} (I:Inv X pins σ H s):∀ {xs:List V} {its:List Value} {kvs:List (Key×V)},PairsAt X.K H xs kvs→Vals xs its→
  ∃ vs:List (Key×Value),KV kvs vs∧∀ (i:Nat) (v:Value),its[i]? =some v→∃ t key k val,v=Value.ref t∧vs[i]? =some (k,val)∧(mixKind X.prog X.w).is k key=true∧IsTup s.heap t #[key,val]
 | [],its,kvs,h,r=>by
  cases r
  rw [show kvs= [] from h]
  exact ⟨[], .nil,fun i v e=>by simp at e⟩
 |x::xs,its,kvs,h,r=>by
  obtain ⟨t,k,v,rr,rfl,rfl,sq,h⟩:=h
  cases r with
  |@cons _ u _ us r1 r2=>
   cases (show u=Value.ref t from r1)
   obtain ⟨vs,e1,e2⟩:=pairs_raw I h r2
   obtain ⟨ys,ry,py,_⟩:=I.tuple sq
   cases ry with
   |@cons _ key _ _ q1 q2=>
    cases q2 with
    |@cons _ val _ _ q3 q4=>
     cases q4
     refine ⟨(k,val)::vs, .cons ⟨rfl,q3⟩ e1,fun i w hw=> ?_⟩
     cases i with
     |zero=>cases hw;exact ⟨t,key,k,val,rfl,rfl,key_is q1,py⟩
     |succ i=>exact e2 i w (by simpa using hw)
theorem call_dictL (hc:X.calm=true):CallR X (.type "dict") (fun xs H Q=>∃ (l:Addr) (ys:List V) (kvs:List (Key×V)),xs= [.ref l]∧SqL X.K H l ys∧PairsAt X.K H ys kvs∧∀ n o,H n=none→Q (.ref n) (upd H n (.frz o (.dK (mergeT kvs))))):=by
 intro pins s σ H xs us Q I r h
 obtain ⟨l,ys,kvs,rfl,hq,hp,q⟩:=h
 obtain ⟨u,rfl,ru⟩:=vals1 r
 cases ru
 obtain ⟨its,rv,⟨ob,n0,e,hcl,hd,hs⟩,hz⟩:=I.list hq
 obtain ⟨vs,kv,hv⟩:=pairs_raw I hp rv
 have hl1:=hp.len
 have hl2:=rv.length
 have hl3:=kv_len kv
 have big:sysModules<s.heap.objs.size:=by
  have h:mainGlobals<s.heap.objs.size:=(I.mod.glob.keeps I.bk).lt
  exact Nat.lt_trans (by decide) h
 refine call_dict_list (knd:=mixKind X.prog X.w) (kvs:=vs) (I.ok.hd hc) e hcl hs hd (by simp;omega) (by simp;omega) (fun i v hw=>hv i v (by simpa using hw)) fun h' tk dd kk=> ?_
 obtain ⟨ob',es,ep,ho',rr⟩:=id dd
 refine ⟨.ref s.heap.objs.size,_,I.laid (a:=s.heap.objs.size) (o:= .frz ob' (.dK (mergeT kvs))) (t':=tk) kk (Nat.le_refl _) ⟨ho',?_,beq_eq_false_iff_ne.mpr (Ne.symm (Nat.ne_of_lt big)),_,kv_merge kv,dd⟩,rfl,q _ ob' I.fresh⟩
 have:=mergeT_len kvs
 omega
def pairsOfD:List D→Option (List (Key×D))
 | []=>some []
 | .tup [k,v]::ds=>match keyD k,pairsOfD ds with
  |some kk,some l=>some ((kk,v)::l)
  |_,_=>none
 |_=>none
theorem pairs_has {K:PySem.W.Frag} {W:WS} {H:Hp}:∀ {ds:List D} {l:List (Key×D)} {xs:List V},pairsOfD ds=some l→HasL K W H ds xs→∃ kvs,PairsAt K H xs kvs∧HasP K W H l kvs
 | [],l,xs,e,h=>by
  cases e
  rw [HasL] at h
  subst h
  exact ⟨[],rfl,HasP.nil⟩
 |d::ds,l,xs,e,h=>by
  unfold pairsOfD at e
  split at e
  ·rename_i h1;cases h1
  ·rename_i k v ds' h1
   cases h1
   split at e
   ·rename_i kk l' e1 e2
    cases e
    rw [HasL] at h
    obtain ⟨x,r,rfl,g1,g2⟩:=h
    obtain ⟨kvs,p1,p2⟩:=pairs_has e2 g2
    rw [Has] at g1
    obtain ⟨t,ys,rfl,sq,hy⟩:=g1
    rw [HasL] at hy
    obtain ⟨y1,r1,rfl,hk,hy⟩:=hy
    rw [HasL] at hy
    obtain ⟨y2,r2,rfl,hv,hy⟩:=hy
    rw [HasL] at hy
    subst hy
    have:=keyD_has (.inl hk) e1
    subst this
    exact ⟨(kk,y2)::kvs,⟨t,kk,y2,kvs,rfl,rfl,sq,p1⟩,HasP.mk hv p2⟩
   ·cases e
  ·cases e
def dictLR:D→Res D
 | .lst ds=>match pairsOfD ds with
  |some l=> .ok (.dct ((mergeT l).map (·.1)) ((mergeT l).map (·.2)))
  |none=> .stuck
 |_=> .stuck
theorem x_dictL (hc:X.calm=true) (hm:X.mg "dict"=none) (ha:XP X xw a fa) (hg:Gl X "dict":=by rfl) (he:starEach [a] X.env=(false,eval a X.env)::starEach [] X.env:=by rfl) (hpl:(backTo pos (starEach [] X.env)).any (·.1)=false:=by rfl):
  XE X xw (.Call (.Name "dict" p) [a] [] pos) (b1 dictLR fa):=
 ⟨de_callT1 (call_dictL hc) (fun W H d v Q w hv q=>by
  unfold dictLR at q
  split at q
  ·split at q
   ·rename_i l hl
    obtain ⟨ad,xs,e1,sq,r⟩:=hv.lst
    obtain ⟨kvs,p1,p2⟩:=pairs_has hl r
    refine ⟨ad,xs,kvs,by rw [e1],sq,p1,fun n o hn=>q _ _ (same_upd hn) ?_⟩
    have m:=(p2.merge).same (same_upd (o:= .frz o (.dK (mergeT kvs))) hn) w
    rw [Has]
    exact ⟨n,mergeT kvs,rfl,⟨o,upd_same⟩,m.1,m.2⟩
   ·exact q.elim
  ·exact q.elim) hm (by decide +kernel) ha.h hg (by decide) (by decide) he hpl⟩
end
end L3
namespace L3
open PySem PySem.Spec PyProof.Rows L2 SeqAt
section
variable {X:Cx} {xw:XW} {a b e:Expr} {pos:Pos} {fa f:DSt→Res D} {fq:DSt→Res (List (Key×D))}
theorem val_none {kvs:List (Key×V)} {vs:List (Key×Value)} (r:KV kvs vs) (k:Key):(valueAt vs k).isSome=(tGet kvs k).isSome:=by
 cases h:tGet kvs k with
 |none=>rw [(kv_get r k).2 h];rfl
 |some v=>obtain ⟨u,e,_⟩:=(kv_get r k).1 v h;rw [e];rfl
theorem op_inQ:OpR X (compareOp .In) (fun y x H Q=>∃ ad kvs k,x= .ref ad∧Rd H ad (.dK kvs)∧y=kV k∧Q (.bl (tGet kvs k).isSome) H):=by
 intro pins s σ H y x u v Q I ry rx h
 obtain ⟨ad,kvs,k,rfl,hd,rfl,q⟩:=h
 cases rx
 obtain ⟨_,hS,vs,rel,dd⟩:=rd_dk I.hok hd
 refine wpAny_in_of (key_is ry) hS dd.mapOf ?_
 exact ⟨.bl (tGet kvs k).isSome,H,I.tok _,by rw [←val_none rel k];rfl,q⟩
theorem op_ninQ:OpR X (compareOp .NotIn) (fun y x H Q=>∃ ad kvs k,x= .ref ad∧Rd H ad (.dK kvs)∧y=kV k∧Q (.bl (!(tGet kvs k).isSome)) H):=by
 intro pins s σ H y x u v Q I ry rx h
 obtain ⟨ad,kvs,k,rfl,hd,rfl,q⟩:=h
 cases rx
 obtain ⟨_,hS,vs,rel,dd⟩:=rd_dk I.hok hd
 refine wpAny_notIn_of (key_is ry) hS dd.mapOf ?_
 exact ⟨.bl (!(tGet kvs k).isSome),H,I.tok _,by rw [←val_none rel k];rfl,q⟩
def inQR (d:D) (l:List (Key×D)):Res D:=match keyD d with
 |some k=> .ok (.bl (tGet l k).isSome)
 |none=> .stuck
def ninQR (d:D) (l:List (Key×D)):Res D:=match keyD d with
 |some k=> .ok (.bl (!(tGet l k).isSome))
 |none=> .stuck
def b2R (op:D→List (Key×D)→Res D) (f:DSt→Res D) (g:DSt→Res (List (Key×D))):DSt→Res D:=fun δ=>(f δ).bind fun d=>(g δ).bind fun l=>op d l
theorem inq_read {σ:L2.St} {H:Hp} {W₀ W:WS} {H₀:Hp} {δ:DSt} {op:D→List (Key×D)→Res D} {Q:VK} {R:V→V→Hp→Prop} (st:StHas X.K W₀ H₀ W H σ δ) (q:RE X.K xw W H (b2R op fa fq δ) Q)
  (h:∀ H2 d l v ad kvs,Same H H2→HasT X.K W H2 d v→Rd H2 ad (.dK kvs)→HasP X.K W H2 l kvs→RE X.K xw W H2 (op d l) Q→R v (.ref ad) H2):
  tDP X.K xw fa σ H fun x H1=>tDQ X.K xw fq σ H1 fun y H2=>R x y H2:=by
 refine ⟨W₀,H₀,W,δ,st,?_⟩
 unfold b2R at q
 cases h1:fa δ with
 |stuck=>rw [h1] at q;exact q
 |ex c fs=>rw [h1] at q;exact q
 |ok d=>
  rw [h1] at q
  intro v H1 k1 hv
  refine ⟨W₀,H₀,W,δ,st.same k1,?_⟩
  have q':RE X.K xw W H ((fq δ).bind fun l=>op d l) Q:=q
  cases h2:fq δ with
  |stuck=>rw [h2] at q';exact q'
  |ex c fs=>rw [h2] at q';exact fun H2 k2=>q' H2 (k1.trans k2)
  |ok l=>
   rw [h2] at q'
   intro ad kvs H2 k2 hd hp
   exact h H2 d l v ad kvs (k1.trans k2) (hv.same k2 (st.fr.wl.same k1)) hd hp (RE.same q' (k1.trans k2))
theorem tget_some {K:PySem.W.Frag} {W:WS} {H:Hp} {l:List (Key×D)} {kvs:List (Key×V)} (h:HasP K W H l kvs) (k:Key):(tGet kvs k).isSome=(tGet l k).isSome:=by
 rw [←tHas_get,←tHas_get,h.has k]
theorem inq_fin {H:Hp} {W:WS} {d:D} {l:List (Key×D)} {v:V} {ad:Addr} {kvs:List (Key×V)} {Q:VK} (hv:HasT X.K W H d v) (hd:Rd H ad (.dK kvs)) (hp:HasP X.K W H l kvs) (q:RE X.K xw W H (inQR d l) Q):
  ∃ ad' kvs' k,V.ref ad= .ref ad'∧Rd H ad' (.dK kvs')∧v=kV k∧Q (.bl (tGet kvs' k).isSome) H:=by
 unfold inQR at q
 split at q
 ·rename_i k hk
  exact ⟨ad,kvs,k,rfl,hd,keyD_has hv hk,by rw [tget_some hp k];exact q.bl⟩
 ·exact q.elim
theorem ninq_fin {H:Hp} {W:WS} {d:D} {l:List (Key×D)} {v:V} {ad:Addr} {kvs:List (Key×V)} {Q:VK} (hv:HasT X.K W H d v) (hd:Rd H ad (.dK kvs)) (hp:HasP X.K W H l kvs) (q:RE X.K xw W H (ninQR d l) Q):
  ∃ ad' kvs' k,V.ref ad= .ref ad'∧Rd H ad' (.dK kvs')∧v=kV k∧Q (.bl (!(tGet kvs' k).isSome)) H:=by
 unfold ninQR at q
 split at q
 ·rename_i k hk
  exact ⟨ad,kvs,k,rfl,hd,keyD_has hv hk,by rw [tget_some hp k];exact q.bl⟩
 ·exact q.elim
theorem y_inQ (ha:XP X xw a fa) (hb:XQ X xw b fq) (hm:behindInMarks .In b=false:=by rfl):XT X xw (.Compare a [.In] [b] pos) (tR (b2R inQR fa fq)):=
 ⟨DE.t_of (f:=b2R inQR fa fq) (PT.weak (pt_cmpR op_inQ ha.h hb.h hm) fun σ H Q ⟨W₀,H₀,W,δ,st,q⟩=>inq_read st q fun H2 d l v ad kvs k hv hd hp q2=>inq_fin hv hd hp q2)⟩
theorem y_ninQ (ha:XP X xw a fa) (hb:XQ X xw b fq) (hm:behindInMarks .NotIn b=false:=by rfl):XT X xw (.Compare a [.NotIn] [b] pos) (tR (b2R ninQR fa fq)):=
 ⟨DE.t_of (f:=b2R ninQR fa fq) (PT.weak (pt_cmpR op_ninQ ha.h hb.h hm) fun σ H Q ⟨W₀,H₀,W,δ,st,q⟩=>inq_read st q fun H2 d l v ad kvs k hv hd hp q2=>ninq_fin hv hd hp q2)⟩
end
end L3
namespace L3
open PySem PySem.Spec PyProof.Rows L2 SeqAt
structure FunD (K:PySem.W.Frag) (x qual:Str) (st:Stmt) (f:Addr) (fd:FuncData) (dV:Value):Prop where
 ex:∃ (oc:Value) (od:Option Addr) (kV doc pm:Value) (an:Option Addr) (cdv ct:Value) (osl:Array (Option Value)),
  fd=PySem.W.fnOf x qual (defArgs st) (defBody st) (defScope st) dV kV doc pm an cdv ct∧K.lookup f=some ⟨oc,od, .func fd,osl⟩∧PySem.W.codeIn K cdv qual=true
 kp:PySem.W.keepIn K (.ref f)=true
section
variable {P:Program} {w:World} {K:PySem.W.Frag} {mg:Str→Option Value} {base:Heap}
theorem FunD.ok {x qual:Str} {st:Stmt} {f:Addr} {fd:FuncData} {dV:Value} {N ps:List Str} {k:Nat} {sp:Sp} (F:FunD K x qual st f fd dV) (S:FnScope N ps (defScope st)) (len:∀ vs H Q E,sp vs H Q E→vs.length=ps.length)
  (hbody:∀ (cdv:Value) (A:Around) (outer:List Env) (s:Shared) (H:Hp) (vs:List V) (Q:VK) (E:XK),Room k (A.deeper (envOfC qual (defScope st) s.heap.objs.size f cdv))→sp vs H Q E→
   ∃ t,PSs (cxOf CX0 P w K mg base N qual (defScope st) f cdv A outer s H E).nox (defBody st) t∧t {nx:=fun _ H'=>Q .non H',rt:=Q} (start N vs) H):FnOk P w K mg base CX0 (k+1) f fd ps sp:=by
 obtain ⟨oc,od,kV,doc,pm,an,cdv,ct,osl,rfl,lk,hcd⟩:=F.ex
 refine fn_of lk hcd S len fun A outer s H vs Q E hr hsp=> ?_
 obtain ⟨t,h,q⟩:=hbody cdv A outer s H vs Q E hr hsp
 exact ⟨t,h.nox,q⟩
theorem FunD.binds {x qual:Str} {st:Stmt} {f:Addr} {fd:FuncData} {dV:Value} {ps:List Str} (F:FunD K x qual st f fd dV)
  (h:∀ (kV doc pm:Value) (an:Option Addr) (cdv ct:Value) (us:List Value),us.length=ps.length→bindArgs (PySem.W.fnOf x qual (defArgs st) (defBody st) (defScope st) dV kV doc pm an cdv ct) ⟨us,[]⟩=pure (ps.zip us)):Binds K fd ps []:=by
 obtain ⟨oc,od,kV,doc,pm,an,cdv,ct,osl,rfl,lk,hcd⟩:=F.ex
 exact .all (h kV doc pm an cdv ct)
end
end L3
namespace L3
open PySem PySem.Spec PyProof.Rows L2 SeqAt
theorem lm_no (a:Int) (t:Tok) (l:Addr) (items:Array Value) (n:Nat) (dd:Option Addr) (sl:Array (Option Value)):
  Meets (Builtin.«int.__rmul__» ⟨[.int a t, .ref l],[]⟩) (fun _ R s=>s.heap.get? l=some {cls:= .type "list",dict:=dd,data:= .seq items n,slots:=sl}∧R (.ok (.ret Value.notImplemented)) s):=
 .of_wp fun prog w A R s h=>by
  obtain ⟨hp,g,d,tk,os⟩:=s
  obtain ⟨hl,h⟩:=h
  wp_walk
  exact ⟨_,rfl,h⟩
theorem lm_many (l:Addr) (items:Array Value) (n:Nat) (dd:Option Addr) (sl:Array (Option Value)) (x:Int) (u:Tok) (hc0:¬(!Builtin.List.listFitsIndex x)=true) (hc1:¬items.size*x.toNat>(2^63-1) / 8) (hc2:¬Builtin.List.listTooLong (items.size*x.toNat)=true):
  Meets (Builtin.«list.__mul__» ⟨[.ref l, .int x u],[]⟩) (fun _ R s=>s.heap.get? l=some {cls:= .type "list",dict:=dd,data:= .seq items n,slots:=sl}∧R (.ok (.ret (Value.ref s.heap.objs.size))) {s with heap:=s.heap.push {cls:=Value.type "list",data:=Data.seq (List.foldl (fun x1 x2=>x1++x2) #[] (List.replicate (if items.isEmpty=true then 0 else x.toNat) items))},toks:=s.toks}):=
 .of_wp fun prog w A R s h=>by
  obtain ⟨hp,g,d,tk,os⟩:=s;obtain ⟨hl,h⟩:=h
  have hsz:=PySem.AutoListH.joined_fits hc2
  wp_walk;refine wpAny_ite_false (decide_eq_false (Nat.not_lt.mpr hsz)) ?_;wp_walk;exact ⟨_,rfl,h⟩
section
variable {X:Cx} {xw:XW} {a b:Expr} {fa fb:DSt→Res D} {pos p:Pos}
theorem op_repL:OpR X (binaryOp .Mult) (fun x y H Q=>∃ l k xs,x= .ref l∧y= .int k∧SqL X.K H l xs∧xs≠ []∧0≤k∧k≤1000∧xs.length≤1000∧∀ p,H p=none→Q (.ref p) (upd H p (.lst (List.replicate k.toNat xs).flatten))):=by
 intro pins s σ H x y v u Q I rx ry h
 obtain ⟨l,k,xs,rfl,rfl,hH,hne,h1,h2,hl,q⟩:=h
 cases rx
 obtain ⟨t,rfl⟩:=ry
 obtain ⟨its,r,⟨⟨cls,dd,data,sl⟩,n,e,hc,hd,hs⟩,hz1⟩:=I.list hH
 simp only at hc hd hs
 subst hc hd hs
 have hlen:=r.length
 have hi:its≠ []:=fun e=>hne (by rw [e] at hlen;exact List.eq_nil_of_length_eq_zero hlen)
 have he:its.toArray.isEmpty=false:=by cases its with
  |nil=>exact absurd rfl hi
  |cons=>simp
 have h3:its.length*k.toNat≤1000*1000:=Nat.mul_le_mul (by omega) (by omega)
 have hfl:(List.replicate k.toNat its.toArray).foldl (fun x1 x2=>x1++x2) #[]=(List.replicate k.toNat its).flatten.toArray:=by
  have:=foldl_rep its k.toNat []
  rw [List.nil_append] at this
  exact this
 refine wpAny_binaryOp_repeat_ref (T:="list") (U:="int") (by decide) ⟨_,e,rfl⟩ (fun s'=>typeIs_int s' k t) noFill_list_mul F.fills_int_mul F.slot_int_rmul repeat_list F.slot_int_index.lookup
  (call_meets F.slot_int_rmul (typeIs_int s k t) F.entry_int_rmul (F.args_int_rmul_2 _ _) (lm_no k t l its.toArray n _ _) ⟨e,rfl,⟨_,e,rfl⟩,?_⟩)
 refine call_meets F.slot_list_mul ⟨_,e,rfl⟩ F.entry_list_mul (F.args_list_mul_2 _ _) (lm_many l its.toArray n _ _ k t ?_ ?_ ?_) ⟨e,?_⟩
 ·unfold Builtin.List.listFitsIndex
  simp
  omega
 ·rw [List.size_toArray];omega
 ·unfold Builtin.List.listTooLong
  have:sizeLine=16777216:=sizeLine_eq
  rw [List.size_toArray]
  simp
  omega
 ·rw [he,if_neg (by decide),hfl]
  exact ⟨.ref _,_,I.lnew (t':=s.toks) (r.rep k.toNat) (by rw [len_rep,sizeLine_eq,Nat.mul_comm,hlen];omega),rfl,q _ I.fresh⟩
noncomputable def repR:D→D→Res (List D)
 | .lst xs, .int k=>@ite (Res (List D)) (xs≠ []∧0≤k∧k≤1000∧xs.length≤1000) (Classical.propDecidable _) (.ok (List.replicate k.toNat xs).flatten) .stuck
 |_,_=> .stuck
theorem repR_eq (xs:List D) (k:Int) (h:xs≠ []∧0≤k∧k≤1000∧xs.length≤1000):repR (.lst xs) (.int k)= .ok (List.replicate k.toNat xs).flatten:=if_pos h
theorem f_rep (ha:XP X xw a fa) (hb:XP X xw b fb):XF X xw (.BinOp a .Mult b pos) (b2F repR fa fb):=
 ⟨PE.weak (pe_op op_repL ha.h hb.h) fun σ H Q ⟨W₀,H₀,W,δ,st,q⟩=>two_readF st q fun H2 d e v u k w hv hu q2=>by
  unfold repR at q2
  split at q2
  ·split at q2
   ·rename_i hz
    obtain ⟨a1,xs,e1,s1,r1⟩:=hv.lst
    refine ⟨a1,_,xs,e1,hu.int,s1,fun z=>hz.1 ?_,hz.2.1,hz.2.2.1,by rw [←r1.length];exact hz.2.2.2,fun p hp=>q2 p _ H2 (Same.refl _) hp (r1.rep _)⟩
    subst z
    exact List.eq_nil_of_length_eq_zero (by simpa using r1.length)
   ·exact q2.elim
  ·exact q2.elim⟩
end
structure FnL (P:Program) (w:World) (K:PySem.W.Frag) (mg:Str→Option Value) (base:Heap) (k:Nat) (x:Str) (n:Nat) (m:List D→Res D) (i:Int):Prop where
 ex:∃ (fa:Addr) (fd:FuncData) (ps:List Str) (v0:Value),FnOk P w K mg base CX0 k fa fd ps (spD K n m)∧mg x=some (.ref fa)∧PySem.W.keepIn K (.ref fa)=true∧Binds K fd ps [v0]∧RelV (.int i) v0
theorem FnL.mono {P:Program} {w:World} {K:PySem.W.Frag} {mg:Str→Option Value} {base:Heap} {j k n:Nat} {x:Str} {m:List D→Res D} {i:Int} (F:FnL P w K mg base j x n m i) (h:j≤k):FnL P w K mg base k x n m i:=
 let ⟨fa,fd,ps,v0,G,hm,hk,hb,hv⟩:=F.ex
 ⟨fa,fd,ps,v0,G.mono h,hm,hk,hb,hv⟩
end L3
namespace PySem
open Sem (wp)
def D2 (o o':Obj):Prop:=o'.dict=o.dict∧∀ vs,o.data= .fields vs→∃ vs',o'.data= .fields vs'∧vs'[2]? =vs[2]?
theorem D2.refl (o:Obj):D2 o o:=⟨rfl,fun vs e=>⟨vs,e,rfl⟩⟩
theorem D2.trans {a b c:Obj} (x:D2 a b) (y:D2 b c):D2 a c:=⟨y.1.trans x.1,fun vs e=>by
 obtain ⟨v1,e1,q1⟩:=x.2 vs e
 obtain ⟨v2,e2,q2⟩:=y.2 v1 e1
 exact ⟨v2,e2,q2.trans q1⟩⟩
def DK (h h':Heap):Prop:=∀ b o,h.get? b=some o→∃ o',h'.get? b=some o'∧D2 o o'
theorem DK.refl (h:Heap):DK h h:=fun _ o e=>⟨o,e,D2.refl o⟩
theorem DK.trans {h1 h2 h3:Heap} (x:DK h1 h2) (y:DK h2 h3):DK h1 h3:=fun b o e=>
 let ⟨o1,e1,d1⟩:=x b o e
 let ⟨o2,e2,d2⟩:=y b o1 e1
 ⟨o2,e2,d1.trans d2⟩
theorem DK.push (h:Heap) (o:Obj):DK h (h.push o):=fun b u e=>⟨u,Heap.get?_push_of_some o e,D2.refl u⟩
theorem DK.upd (h:Heap) (a:Addr) (f:Obj→Obj) (hd:∀ o,h.get? a=some o→D2 o (f o)) (hf:∀ o,h.get? a=some o→(f o).isFreed=false):DK h (h.update a f):=fun b u e=>by
 by_cases hb:a=b
 ·subst hb
  exact ⟨f u,Heap.get?_update_self f e (hf u e),hd u e⟩
 ·exact ⟨u,(Heap.get?_update_other h f hb).trans e,D2.refl u⟩
structure KeepD {α:Type} (t:Sem α):Prop where
 out:∀ (M:Model) (Γ:Ctx) (P:α→Pos→Shared→Prop) (Ee:Value→Pos→Shared→Prop) (p:Pos) (s:Shared),wp M Γ t P Ee p s→wp M Γ t (fun a p' s'=>P a p' s'∧DK s.heap s'.heap) Ee p s
namespace KeepD
variable {α β:Type}
theorem now (a:α):KeepD (Pure.pure a:Sem α):=⟨fun _ _ _ _ _ _ h=>⟨h,DK.refl _⟩⟩
theorem off (w:String):KeepD (PySem.unsupported w:Sem α):=⟨fun _ _ _ _ _ _ h=>h⟩
theorem seq {m:Sem α} {f:α→Sem β} (hm:KeepD m) (hf:∀ a,KeepD (f a)):KeepD (m >>= f):=⟨fun M Γ P Ee p s h=>by
 rw [Sem.wp_bind'] at h ⊢
 refine Sem.wp_mono M Γ m (fun a p1 s1 h1=> ?_) (fun _ _ _ x=>x) p s (hm.out M Γ _ Ee p s h)
 exact Sem.wp_mono M Γ (f a) (fun b p2 s2 h2=>⟨h2.1,h1.2.trans h2.2⟩) (fun _ _ _ x=>x) p1 s1 ((hf a).out M Γ P Ee p1 s1 h1.1)⟩
theorem cond {c:Prop} [Decidable c] {t u:Sem α} (ht:KeepD t) (hu:KeepD u):KeepD (if c then t else u):=by split<;>assumption
theorem ld (a:Addr):KeepD (PySem.load a):=⟨fun M Γ P Ee p s h=>by
 unfold PySem.load at h ⊢
 rw [Sem.wp_load] at h ⊢
 obtain ⟨o,e,q⟩:=h
 rw [Sem.wp_pure] at q
 exact ⟨o,e,by rw [Sem.wp_pure];exact ⟨q,DK.refl _⟩⟩⟩
theorem up (a:Addr) (f:Obj→Obj) (hd:∀ o,(f o).dict=o.dict) (he:∀ o,(f o).data=o.data):KeepD (PySem.update a f):=⟨fun M Γ P Ee p s h=>by
 unfold PySem.update at h ⊢
 rw [Sem.wp_update] at h ⊢
 obtain ⟨e,q⟩:=h
 rw [Sem.wp_pure] at q
 refine ⟨e,?_⟩
 rw [Sem.wp_pure]
 refine ⟨q,DK.upd _ _ _ (fun o _=>⟨hd o,fun vs e=>⟨vs,(he o).trans e,rfl⟩⟩) fun o ho=> ?_⟩
 have al:=((Heap.get?_eq_some _ _ _).1 ho).2
 have h1:=he o
 revert h1
 generalize f o=u
 intro h1
 obtain ⟨c1,d1,t1,s1⟩:=u
 obtain ⟨c2,d2,t2,s2⟩:=o
 dsimp only at h1
 subst h1
 cases t1<;>first|rfl|cases al⟩
theorem stk:KeepD PySem.stack:=⟨fun M Γ P Ee p s h=>by
 unfold PySem.stack at h ⊢
 rw [Sem.wp_stack] at h ⊢
 rw [Sem.wp_pure] at h ⊢
 exact ⟨h,DK.refl _⟩⟩
theorem new (o:Obj):KeepD (PySem.alloc o):=⟨fun M Γ P Ee p s h=>by
 unfold PySem.alloc at h ⊢
 rw [Sem.wp_alloc,Sem.wp_pure] at h ⊢
 exact ⟨h,DK.push _ _⟩⟩
theorem fld (v:Value) (i:Nat):KeepD (PySem.field v i):=⟨fun M Γ P Ee p s h=>by
 rw [wp_field_iff] at h ⊢
 obtain ⟨a,o,vs,x,e1,e2,e3,e4,q⟩:=h
 exact ⟨a,o,vs,x,e1,e2,e3,e4,q,DK.refl _⟩⟩
theorem put (v:Value) (i:Nat) (x:Value) (hi:i≠2):KeepD (PySem.setField v i x):=⟨fun M Γ P Ee p s h=>by
 rw [wp_setField_iff] at h ⊢
 obtain ⟨a,o,vs,e1,e2,e3,e4,q⟩:=h
 refine ⟨a,o,vs,e1,e2,e3,e4,q,DK.upd _ _ _ (fun u hu=>⟨?_,fun ws ew=>⟨_,Obj.data_mapFields ew _,?_⟩⟩) fun u hu=> ?_⟩
 ·unfold Obj.mapFields;split<;>rfl
 ·exact Array.getElem?_setIfInBounds_ne hi
 ·rw [e2] at hu;cases hu
  exact Obj.isFreed_of_fields (Obj.data_mapFields e3 _)⟩
end KeepD
local macro_rules| `(tactic| walk_at "keepd")=> `(tactic| repeat' with_reducible first
  |assumption
  |exact KeepD.now _
  |exact KeepD.off _
  |exact KeepD.fld _ _
  |exact KeepD.put _ _ _ (by decide)
  |exact KeepD.ld _
  |exact KeepD.stk
  |exact KeepD.new _
  |exact KeepD.up _ _ (fun _=>rfl) (fun _=>rfl)
  |apply KeepD.cond
  |apply KeepD.seq
  |intro _
  |split)
theorem kd_imp (env:Env) (outer:List Env):KeepD (behindIsImport env outer):=by
 unfold behindIsImport
 walk_at "keepd"
theorem kd_caller:KeepD underTheClaimsCaller:=by
 unfold underTheClaimsCaller
 walk_at "keepd"
theorem kd_back (env:Env) (i:Bool) (l:List Env):KeepD (keptBack env i l):=by
 have:=kd_caller
 cases l<;>unfold keptBack<;>walk_at "keepd"
theorem kd_ready:∀ l:List Env,KeepD (readyFrames l)
 | []=>KeepD.now _
 |env::outer=>by
  have r:=kd_ready outer
  have a:=kd_imp env outer
  have b:=fun i=>kd_back env i outer
  unfold readyFrames
  walk_at "keepd"
  all_goals first|exact b _|skip
theorem kd_frame (l:List Env):KeepD (frameObject l):=by
 cases l with
 |nil=>exact KeepD.now _
 |cons env outer=>
  have r:=kd_ready (env::outer)
  unfold frameObject
  walk_at "keepd"
theorem kd_of (env:Env):KeepD (frameOf env):=by
 have a:KeepD frameEnvs:=by unfold frameEnvs;walk_at "keepd"
 have b:=kd_frame
 unfold frameOf
 walk_at "keepd"
 all_goals first|exact b _|skip
theorem kd_place (f:Addr) (b:Bool):KeepD (entryPlaceOf f b):=by
 unfold entryPlaceOf
 walk_at "keepd"
theorem kd_entry (a b c d e:Value) (l:List Value):KeepD (EntryCells.newEntry a b c d e l):=by
 unfold EntryCells.newEntry newFields newObj newObjAsIs
 dsimp only
 walk_at "keepd"
theorem kd_note (e:Value) (env:Env):KeepD (noteFrame e env):=by
 have a:=kd_of env
 have b:=kd_place
 have c:=kd_entry
 unfold noteFrame
 walk_at "keepd"
 all_goals first|exact b _ _|exact c _ _ _ _ _ _|skip
theorem kd_flight (e:Value) (f:Option Addr):KeepD (setFlight e f):=by
 unfold setFlight
 walk_at "keepd"
theorem kd_leave (env:Env) (e:Value):KeepD (leaving env e):=by
 have a:=kd_note e env
 have b:=kd_flight e none
 unfold leaving
 walk_at "keepd"
theorem KeepD.anyK {α:Type} {t:Sem α} (k:KeepD t) {M:Model} {A:Around} {Q:α→Shared→Prop} {E:Value→Shared→Prop} {s:Shared} (h:wpAny M A t Q E s):wpAny M A t (fun v s'=>Q v s'∧DK s.heap s'.heap) E s:=
 fun Γ p hΓ=>k.out M Γ _ _ p s (h Γ p hΓ)
theorem KeepD.thn {α:Type} {t:Sem α} (k:KeepD t) {M:Model} {A:Around} {Q Q':α→Shared→Prop} {E:Value→Shared→Prop} {s:Shared} (h:wpAny M A t Q E s) (g:∀ v s',Q v s'→DK s.heap s'.heap→Q' v s'):wpAny M A t Q' E s:=
 wpAny_mono (KeepD.anyK k h) (fun v s' q=>g v s' q.1 q.2) fun _ _ z=>z
end PySem
namespace L3
open PySem PySem.Spec PyProof.Rows L2 SeqAt
def DcOk (dx:Dx) (o:Obj):Prop:=o.dict=dx.1∧(dx.2=true→∃ vs,o.data= .fields vs∧vs[2]? =some .none)
theorem DcOk.to {dx:Dx} {o o':Obj} (h:DcOk dx o) (d:D2 o o'):DcOk dx o':=⟨d.1.trans h.1,fun z=>by
 obtain ⟨vs,e,q⟩:=h.2 z
 obtain ⟨vs',e',q'⟩:=d.2 vs e
 exact ⟨vs',e',q'.trans q⟩⟩
structure Fly (P:Program) (w:World) (l:List Env) (H:Hp) (s:Shared) (H':Hp) (a:Addr) (cls:Value) (dx:Dx) (h:Heap):Prop where
 un:Un (frs l) [] H H' s.heap h
 hok:HOk P w H' h
 frf:∀ b∈frs l,H' b=none
 new:s.heap.get? a=none
 nh:H' a=none
 dc:∃ o,h.get? a=some o∧DcOk dx o
 fl:∃ B a0,Heap.FlyingW B l a cls a0 h∧∀ b,b∉frs l→((H' b).isSome=true∨(s.heap.get? b).isSome=true)→(B.get? b).isSome=true
theorem obj_get {P:Program} {w:World} {H:Hp} {h:Heap} {a:Addr} {o:HO} (x:ObjOk P w H h a o):∃ u,h.get? a=some u:=by
 induction o with
 |lst xs=>obtain ⟨_,_,_,_,e⟩:=x;exact ⟨_,e⟩
 |tup xs=>obtain ⟨_,_,_,ob,e,_⟩:=x;exact ⟨_,e⟩
 |dK kvs=>obtain ⟨_,_,_,_,ob,_,_,e,_⟩:=x;exact ⟨_,e⟩
 |dT kvs=>obtain ⟨_,_,_,_,ob,_,_,e,_⟩:=x;exact ⟨_,e⟩
 |set S n=>obtain ⟨ob,_,_,_,e,_⟩:=x;exact ⟨_,e⟩
 |ins C dx fs=>obtain ⟨_,_,_,e,_⟩:=x;exact ⟨_,e⟩
 |own y=>exact x
 |xd fs=>obtain ⟨_,⟨_,_,_,e,_⟩,_⟩:=x;exact ⟨_,e⟩
 |rng lo hi=>obtain ⟨_,_,_,e⟩:=x;exact ⟨_,e⟩
 |frz ob u ih=>obtain ⟨e,_⟩:=x;exact ⟨_,e⟩
 |tbl ps=>exact ⟨_,x⟩
 |met f y=>exact ⟨_,x⟩
 |ext φ=>exact x.2.1
section
variable {P:Program} {w:World} {l:List Env} {H H':Hp} {s:Shared} {a:Addr} {cls a0:Value} {h h' B:Heap}
theorem fly_same (cov:∀ b,b∉frs l→((H' b).isSome=true∨(s.heap.get? b).isSome=true)→(B.get? b).isSome=true) (s1:B.StaysIn h) (s2:B.StaysIn h') {b:Addr} (hb:b∉frs l)
  (q:(H' b).isSome=true∨(s.heap.get? b).isSome=true):h'.get? b=h.get? b:=by
 obtain ⟨o,e⟩:=Option.isSome_iff_exists.mp (cov b hb q)
 rw [s1 b o e,s2 b o e]
theorem fly_slots (f:Heap.FlyingW B l a cls a0 h) (up:h.UpToSlots h') {b:Addr} (hb:b∈frs l) {o:Obj} (e:h.get? b=some o):∃ sl,h'.get? b=some {o with slots:=sl}:=by
 obtain ⟨_,o',e',nf⟩:=f.2.2.1.mem hb
 rw [e] at e'
 cases e'
 exact up b o e nf
theorem fly_un (un:Un (frs l) [] H H' s.heap h) (cov:∀ b,b∉frs l→((H' b).isSome=true∨(s.heap.get? b).isSome=true)→(B.get? b).isSome=true) (f:Heap.FlyingW B l a cls a0 h) (s2:B.StaysIn h') (up:h.UpToSlots h'):Un (frs l) [] H H' s.heap h' where
 keep:=fun b o e n hb hx=>(fly_same cov f.1 s2 hb (.inr (by rw [e];rfl))).trans (un.keep b o e n hb hx)
 slot:=fun b o e n hb hx=>by
  obtain ⟨sl,e1⟩:=un.slot b o e n hb hx
  obtain ⟨sl',e2⟩:=fly_slots f up hb e1
  exact ⟨sl',e2⟩
 free:=un.free
 there:=fun b o e hx=>by
  obtain ⟨o',e1⟩:=un.there b o e hx
  by_cases hb:b∈frs l
  ·obtain ⟨sl,e2⟩:=fly_slots f up hb e1
   exact ⟨_,e2⟩
  ·exact ⟨o',(fly_same cov f.1 s2 hb (.inr (by rw [e];rfl))).trans e1⟩
 tups:=un.tups
 frzs:=un.frzs
 tbls:=un.tbls
theorem fly_hok (hok:HOk P w H' h) (frf:∀ b∈frs l,H' b=none) (cov:∀ b,b∉frs l→((H' b).isSome=true∨(s.heap.get? b).isSome=true)→(B.get? b).isSome=true) (s1:B.StaysIn h) (s2:B.StaysIn h'):HOk P w H' h':=fun b u e=>by
 have tr:∀ c v,H' c=some v→c∉frs l:=fun c v q z=>by rw [frf c z] at q;cases q
 refine (hok b u e).stay (fun c v hc q=> ?_) (fun _ q=>q) fun _ _ q=>q
 rcases hc with rfl|hc
 ·exact (fly_same cov s1 s2 (tr c u e) (.inl (by rw [e];rfl))).trans q
 ·exact (fly_same cov s1 s2 (tr c _ hc) (.inl (by rw [hc];rfl))).trans q
end
def CXD (P:Program) (w:World):CXT:=fun l H s E e s'=>∃ a cls dx H',e= .ref a∧s'.os=s.os∧AllBare s'.gens∧Fly P w l H s H' a cls dx s'.heap∧E cls dx H'
section
variable {X:Cx} {pins:List (Addr×Obj)} {σ:L2.St} {H H':Hp} {s s':Shared} {a:Addr} {cls:Value} {dx:Dx} {M:Model} {Ex:Value→Shared→Prop}
theorem frs_stack (hst:X.stack=X.env::X.outer) (hfr:X.env.frame=some X.env.locals):frs X.stack=X.env.locals::frs X.outer:=by
 rw [hst];unfold frs;rw [List.filterMap_cons,hfr]
theorem inv_flown (I:Inv X pins σ H s) (os:s'.os=s.os) (bare:AllBare s'.gens) (x:Fly X.prog X.w X.stack H s H' a cls dx s'.heap):Inv X pins σ H' s':=
 I.call' (ch:= []) os x.un x.hok bare fun b z=>absurd z (by simp)
theorem fly_up {E:XK} {Q:Unit→Shared→Prop} (I:Inv X pins σ H s) (hex:X.ex= []) (hst:X.stack=X.env::X.outer) (hfr:X.env.frame=some X.env.locals) (os:s'.os=s.os) (bare:AllBare s'.gens) (x:Fly X.prog X.w X.stack H s H' a cls dx s'.heap)
  (hE:E cls dx H') (hQ:∀ s'',CXD X.prog X.w X.outer X.H₀ X.s₀ E (.ref a) s''→Q () s''):wpAny M X.A (leaving X.env (.ref a)) Q Ex s':=by
 have I':=inv_flown I os bare x
 obtain ⟨B,a0,f,cov⟩:=x.fl
 have es:=frs_stack hst hfr
 have noex:∀ b,b∉X.ex:=fun b=>by rw [hex];simp
 have f2:Heap.FlyingW B (X.env::X.outer) a cls a0 s'.heap:=by rw [←hst];exact f
 have nl:∀ b,b∉frs X.outer→((H' b).isSome=true∨(X.s₀.heap.get? b).isSome=true)→b∉frs X.stack:=fun b hb h z=>by
  rw [es] at z
  rcases List.mem_cons.mp z with z|z
  ·rw [z] at h
   rcases h with h|h
   ·rw [I'.free] at h;cases h
   ·obtain ⟨o,e⟩:=Option.isSome_iff_exists.mp h
    exact absurd (Nat.lt_of_lt_of_le (Heap.lt_size e) I.ok.above) (Nat.lt_irrefl _)
  ·exact hb z
 have old:∀ b,((H' b).isSome=true∨(X.s₀.heap.get? b).isSome=true)→((H' b).isSome=true∨(s.heap.get? b).isSome=true):=fun b h=>by
  rcases h with h|h
  ·exact .inl h
  ·obtain ⟨o,e⟩:=Option.isSome_iff_exists.mp h
   obtain ⟨o',e'⟩:=I.base.there b o e (noex b)
   exact .inr (by rw [e'];rfl)
 refine (kd_leave X.env (.ref a)).thn (Q:=fun _ s''=>∃ h',s''= {s' with heap:=h'}∧Heap.FlyingW B X.outer a cls a0 h'∧s'.heap.UpToSlots h') (wpAny_leaves_onW (by rw [←hst];exact I.ok.frames) hfr f2 fun h' f' up=>⟨h',rfl,f',up⟩) fun _ s'' ⟨h',e'',f',up⟩ dk=> ?_
 subst e''
 obtain ⟨od,ed,dd⟩:=x.dc
 obtain ⟨od',ed',dd'⟩:=dk a od ed
 refine hQ _ ⟨a,cls,dx,H',rfl,?_,bare,⟨⟨fun b o e n hb hx=> ?_,fun b o e n hb hx=> ?_,fun b o e n hx=>I'.base.free b o e n (noex b),fun b o e hx=> ?_,I'.base.tups,I'.base.frzs,I'.base.tbls⟩,?_,fun b hb=>x.frf b (by rw [es];exact List.mem_cons_of_mem _ hb),?_,x.nh,⟨od',ed',dd.to dd'⟩,B,a0,f',fun b hb h=>cov b (nl b hb h) (old b h)⟩,hE⟩
 ·exact os.trans I.os
 ·exact (fly_same cov f.1 f'.1 (nl b hb (.inr (by rw [e];rfl))) (old b (.inr (by rw [e];rfl)))).trans (I'.base.keep b o e n hb (noex b))
 ·obtain ⟨sl,e1⟩:=I'.base.slot b o e n hb (noex b)
  obtain ⟨sl',e2⟩:=fly_slots f up (by rw [es];exact List.mem_cons_of_mem _ hb) e1
  exact ⟨sl',e2⟩
 ·obtain ⟨o',e1⟩:=I'.base.there b o e (noex b)
  by_cases hb:b∈frs X.outer
  ·obtain ⟨sl,e2⟩:=fly_slots f up (by rw [es];exact List.mem_cons_of_mem _ hb) e1
   exact ⟨_,e2⟩
  ·exact ⟨o',(fly_same cov f.1 f'.1 (nl b hb (.inr (by rw [e];rfl))) (old b (.inr (by rw [e];rfl)))).trans e1⟩
 ·exact fly_hok x.hok x.frf cov f.1 f'.1
 ·cases q:X.s₀.heap.get? a with
  |none=>rfl
  |some o=>
   obtain ⟨o',e'⟩:=I.base.there a o q (noex a)
   have:=x.new
   rw [e'] at this;cases this
end
end L3
namespace L3
open PySem PySem.Spec PyProof.Rows L2 SeqAt
def spX (K:PySem.W.Frag) (n:Nat) (m:List D→Res D):Sp:=fun vs H Q E=>vs.length=n∧∃ W ds,WL W H∧HasL K W H ds vs∧match m ds with
 | .ok d=>∀ v H',Same H H'→Has K W H' d v→Q v H'
 | .ex c fs=>∀ cls dx H',PySem.W.nsIn K mainGlobals c=some (some cls)→Same H H'→ExF H' dx fs→E cls dx H'
 | .stuck=>False
structure FnX (P:Program) (w:World) (K:PySem.W.Frag) (mg:Str→Option Value) (base:Heap) (k:Nat) (x:Str) (n:Nat) (m:List D→Res D):Prop where
 ex:∃ f fd ps,FnOk P w K mg base (CXD P w) k f fd ps (spX K n m)∧mg x=some (.ref f)∧PySem.W.keepIn K (.ref f)=true∧Binds K fd ps []
theorem FnX.mono {P:Program} {w:World} {K:PySem.W.Frag} {mg:Str→Option Value} {base:Heap} {j k n:Nat} {x:Str} {m:List D→Res D} (F:FnX P w K mg base j x n m) (h:j≤k):FnX P w K mg base k x n m:=by
 obtain ⟨f,fd,ps,a,b⟩:=F.ex
 exact ⟨f,fd,ps,a.mono h,b⟩
structure FnXL (P:Program) (w:World) (K:PySem.W.Frag) (mg:Str→Option Value) (base:Heap) (k:Nat) (x:Str) (n:Nat) (m:List D→Res D) (i:Int):Prop where
 ex:∃ (fa:Addr) (fd:FuncData) (ps:List Str) (v0:Value),FnOk P w K mg base (CXD P w) k fa fd ps (spX K n m)∧mg x=some (.ref fa)∧PySem.W.keepIn K (.ref fa)=true∧Binds K fd ps [v0]∧RelV (.int i) v0
theorem FnXL.mono {P:Program} {w:World} {K:PySem.W.Frag} {mg:Str→Option Value} {base:Heap} {j k n:Nat} {x:Str} {m:List D→Res D} {i:Int} (F:FnXL P w K mg base j x n m i) (h:j≤k):FnXL P w K mg base k x n m i:=
 let ⟨fa,fd,ps,v0,G,hm,hk,hb,hv⟩:=F.ex
 ⟨fa,fd,ps,v0,G.mono h,hm,hk,hb,hv⟩
def runX (n:Nat) (g:DSt→Out) (ds:List D):Res D:=match g (startD n ds) with
 | .rt d=> .ok d
 | .nx _=> .ok .non
 | .ex c fs=> .ex c fs
 |_=> .stuck
def xwX (K:PySem.W.Frag) (E:XK):XW:=fun c fs H'=>∀ cls dx,PySem.W.nsIn K mainGlobals c=some (some cls)→ExF H' dx fs→E cls dx H'
def xwE (K:PySem.W.Frag) (xw:XW):XK:=fun cls dx H'=>∃ c fs,PySem.W.nsIn K mainGlobals c=some (some cls)∧xw c fs H'∧ExF H' dx fs
def PassX (X:Cx) (xw:XW):Prop:=Passes (CXD X.prog X.w) X (xwE X.K xw)
section
variable {P:Program} {w:World} {K:PySem.W.Frag} {mg:Str→Option Value} {base:Heap}
theorem pass_def {N:List Str} {qual:Str} {scope:Scope} {f:Addr} {cd:Value} {A:Around} {outer:List Env} {s₀:Shared} {H₀:Hp} {E:XK}:PassX (cxOf (CXD P w) P w K mg base N qual scope f cd A outer s₀ H₀ E) (xwX K E):=by
 intro pins σ H s e s' I h
 obtain ⟨a,cls,dx,H',rfl,os,bare,x,c,fs,hn,q,xf⟩:=h
 exact fly_up I rfl rfl rfl os bare x (q cls dx hn xf) fun s'' z=>z
theorem body_X {k:Nat} {x qual:Str} {st:Stmt} {fa:Addr} {fd:FuncData} {N ps:List Str} {g:DSt→Out} {dV oc:Value} {od:Option Addr} {kV doc pm:Value} {an:Option Addr} {cdv ct:Value} {osl:Array (Option Value)}
  (hf:fd=PySem.W.fnOf x qual (defArgs st) (defBody st) (defScope st) dV kV doc pm an cdv ct) (lk:K.lookup fa=some ⟨oc,od, .func fd,osl⟩) (hcd:PySem.W.codeIn K cdv qual=true) (S:FnScope N ps (defScope st))
  (body:∀ (cdv:Value) (A:Around) (outer:List Env) (s:Shared) (H:Hp) (E:XK),Room k (A.deeper (envOfC qual (defScope st) s.heap.objs.size fa cdv))→
   XSs (cxOf (CXD P w) P w K mg base N qual (defScope st) fa cdv A outer s H E) (xwX K E) (defBody st) g):FnOk P w K mg base (CXD P w) (k+1) fa fd ps (spX K ps.length (runX N.length g)):=by
 subst hf
 refine fn_of lk hcd S (fun vs H Q E h=>h.1) fun A outer s H vs Q E hr hsp=> ?_
 obtain ⟨hl,W,ds,hw,hd,q⟩:=hsp
 refine ⟨_,(body cdv A outer s H E hr).h,W,H,W,startD N.length ds,start_has hw hd,?_⟩
 unfold runX at q
 cases h:g (startD N.length ds) with
 |rt d=>rw [h] at q;exact fun v H' k hv=>q v H' k hv
 |nx δ=>rw [h] at q;exact fun W' H' σ' k st'=>q .non H' st'.fr.ext (by rw [Has])
 |bk δ=>rw [h] at q;exact q.elim
 |ct δ=>rw [h] at q;exact q.elim
 |ex c fs=>rw [h] at q;exact fun H' k cls dx hn xf=>q cls dx H' hn k xf
 |stuck=>rw [h] at q;exact q.elim
theorem fn_defX {k:Nat} {x qual:Str} {st:Stmt} {fa:Addr} {fd:FuncData} {N ps:List Str} {g:DSt→Out} (F:Fun K x qual st fa fd) (S:FnScope N ps (defScope st))
  (hm:mg x=some (.ref fa)) (hb:Binds K fd ps [])
  (body:∀ (cdv:Value) (A:Around) (outer:List Env) (s:Shared) (H:Hp) (E:XK),Room k (A.deeper (envOfC qual (defScope st) s.heap.objs.size fa cdv))→
   XSs (cxOf (CXD P w) P w K mg base N qual (defScope st) fa cdv A outer s H E) (xwX K E) (defBody st) g):FnX P w K mg base (k+1) x ps.length (runX N.length g):=by
 obtain ⟨oc,od,kV,doc,pm,an,cdv,ct,osl,hf,lk,hcd⟩:=F.ex
 exact ⟨fa,fd,ps,body_X hf lk hcd S body,hm,F.kp,hb⟩
end
def noexO:Out→Out
 | .ex _ _=> .stuck
 |o=>o
section
variable {X:Cx} {xw:XW} {e a:Expr} {es:List Expr} {f:DSt→Res D} {ga:DSt→Res Bool} {fs:DSt→Res (List D)} {pos p:Pos} {st:Stmt} {sts:List Stmt} {g:DSt→Out}
theorem PS.nox {st:Stmt} {t:TS} (h:PS X.nox st t):PS X st t:=fun pins s σ H D I hw=>
 wpAny_mono (h pins s σ H D (I.wish _) hw) (fun _ _ q=>q.unwish) fun _ _ z=>False.elim z
theorem PA.nox {t:TA} (h:PA X.nox es t):PA X es t:=fun ps pins s σ H Q I hw=>
 wpAny_mono (h ps pins s σ H Q (I.wish _) hw) (fun _ _ ⟨v,H',I',r,q⟩=>⟨v,H',I'.unwish,r,q⟩) fun _ _ z=>False.elim z
def noxA (f:DSt→Res (List D)):DSt→Res (List D):=fun δ=>noex (f δ)
def noxB (f:DSt→Res Bool):DSt→Res Bool:=fun δ=>noex (f δ)
def noxS (g:DSt→Out):DSt→Out:=fun δ=>noexO (g δ)
theorem y_nox (h:XT X.nox xwF e ga):XT X xw e (noxB ga):=⟨PT.weak (PT.nox h.h) fun σ H Q ⟨W₀,H₀,W,δ,st,q⟩=>⟨W₀,H₀,W,δ,st,by
 have q:RT xw H (noex (ga δ)) Q:=q
 cases hq:ga δ with
 |ok d=>rw [hq] at q;exact q
 |ex c fs=>rw [hq] at q;exact q.elim
 |stuck=>rw [hq] at q;exact q.elim⟩⟩
theorem a_nox (h:XA X.nox xwF es fs):XA X xw es (noxA fs):=⟨PA.weak (PA.nox h.h) fun σ H Q ⟨W₀,H₀,W,δ,st,q⟩=>⟨W₀,H₀,W,δ,st,by
 have q:RA X.K xw W H (noex (fs δ)) Q:=q
 cases hq:fs δ with
 |ok d=>rw [hq] at q;exact q
 |ex c gs=>rw [hq] at q;exact q.elim
 |stuck=>rw [hq] at q;exact q.elim⟩⟩
theorem s_nox (h:XS X.nox xwF st g):XS X xw st (noxS g):=⟨PS.weak (PS.nox h.h) fun Dn σ H ⟨W₀,H₀,W,δ,st,q⟩=>⟨W₀,H₀,W,δ,st,by
 have q:RS X.K xw W₀ H₀ W H (noexO (g δ)) Dn:=q
 cases hq:g δ with
 |ex c fs=>rw [hq] at q;exact q.elim
 |_=>rw [hq] at q;exact q⟩⟩
def callX (n:Nat) (m:List D→Res D) (ds:List D):Res D:=if ds.length=n then m ds else .stuck
theorem x_callX {k n:Nat} {x:Str} {m:List D→Res D} (F:FnX X.prog X.w X.K X.mg X.base k x n m) (hp:PassX X xw) (hr:Room k X.A) (ha:XA X xw (a::es) fs) (hg:Gl X x:=by rfl)
  (hdb:(x==("__debug__":Str))=false:=by decide) (he:starEach (a::es) X.env=(false,eval a X.env)::starEach es X.env:=by rfl) (hpl:(backTo pos (starEach es X.env)).any (·.1)=false:=by rfl):
  XE X xw (.Call (.Name x p) (a::es) [] pos) (b1 (callX n m) fs):=⟨by
 obtain ⟨fa,fd,ps,G,hm,hk,hb⟩:=F.ex
 refine PE.weak (pe_call G hr hg hm hk hb .nil hp ha.h hdb he hpl) fun σ H Q ⟨W₀,H₀,W,δ,st,q⟩=> ?_
 refine args_read st q fun H2 ds vs k w st2 hv _ q2=> ?_
 unfold callX at q2
 split at q2
 ·rename_i hn
  rw [List.append_nil]
  refine ⟨by rw [←hv.length];exact hn,W,ds,w,hv,?_⟩
  cases h:m ds with
  |ok d=>rw [h] at q2;exact q2
  |ex c fs=>rw [h] at q2;exact fun cls dx H' hn' k' xf=>⟨c,fs,hn',q2 H' k',xf⟩
  |stuck=>rw [h] at q2;exact q2
 ·exact q2.elim⟩
end
abbrev bmV:List Value:= [.type "ValueError", .type "Exception", .type "BaseException", .type "object"]
structure ClsX (K:PySem.W.Frag) (c:Str):Prop where
 ex:∃ C,PySem.W.nsIn K mainGlobals c=some (some (.ref C))∧PySem.W.excIn K C bmV "ValueError.__new__"=true
section
variable {X:Cx} {xw:XW} {a:Expr} {es:List Expr} {fs:DSt→Res (List D)} {pos np cpos:Pos} {c:Str}
end
end L3
namespace L3
open PySem PySem.Spec PyProof.Rows L2 SeqAt
abbrev markX (X:Cx) (a:Addr):Cx:= {X with A:=X.A.mark (some (.ref a)),calm:=false,xe:=fun _ _=>False}
abbrev tryX (X:Cx) (pins:List (Addr×Obj)) (E:Value→Shared→Prop):Cx:= {X with pn:=X.pn++pins,xe:=E}
section
variable {X:Cx} {pins:List (Addr×Obj)} {σ:L2.St} {H H':Hp} {s s':Shared} {a:Addr} {cls:Value} {dx:Dx} {Ex:Value→Shared→Prop}
theorem ok_mark (ok:X.Ok) (a:Addr):(markX X a).Ok:=
 ⟨ok.mod,ok.kind,ok.glob,ok.blt,ok.above,ok.inj,ok.has,ok.cab,fun z=>absurd (show false=true from z) (by decide),ok.frames,ok.stk,ok.exf,ok.bs,ok.bsz,ok.noex,ok.exfs,ok.funs,ok.frf⟩
theorem inv_mark (I:Inv X pins σ H s) (a:Addr):Inv (markX X a) pins σ H s:=⟨ok_mark I.ok a,I.os,I.bare,I.base,I.loc,I.cell,I.free,I.freeC,I.pin,I.hok,I.len⟩
theorem inv_unmark (ok:X.Ok) (I:Inv (markX X a) pins σ H s):Inv X pins σ H s:=⟨ok,I.os,I.bare,I.base,I.loc,I.cell,I.free,I.freeC,I.pin,I.hok,I.len⟩
theorem ok_try (ok:X.Ok):(tryX X pins Ex).Ok:=
 ⟨ok.mod,ok.kind,ok.glob,ok.blt,ok.above,ok.inj,ok.has,ok.cab,ok.hd,ok.frames,ok.stk,ok.exf,ok.bs,ok.bsz,ok.noex,ok.exfs,ok.funs,ok.frf⟩
theorem inv_try (I:Inv X pins σ H s):Inv (tryX X pins Ex) [] σ H s:=⟨ok_try I.ok,I.os,I.bare,I.base,I.loc,I.cell,I.free,I.freeC,fun p hp=>I.pin p (by simpa using hp),I.hok,I.len⟩
theorem inv_untry {more:List (Addr×Obj)} (ok:X.Ok) (I:Inv (tryX X pins Ex) more σ H s):Inv X pins σ H s:=⟨ok,I.os,I.bare,I.base,I.loc,I.cell,I.free,I.freeC,fun p hp=>I.pin p (List.mem_append_left _ hp),I.hok,I.len⟩
theorem inv_track {φ:Heap→Prop} (I:Inv X pins σ H s) (I':Inv X pins σ H' s') (hex:X.ex= []) (new:s.heap.get? a=none) (nh:H' a=none) (x:ObjOk X.prog X.w (upd H' a (.ext φ)) s'.heap a (.ext φ)):Inv X pins σ (upd H' a (.ext φ)) s':=by
 have ne:∀ b o,s.heap.get? b=some o→b≠a:=fun b o e z=>by rw [z,new] at e;cases e
 have ne0:∀ b o,X.s₀.heap.get? b=some o→b≠a:=fun b o e=>by
  obtain ⟨o',e'⟩:=I.base.there b o e (by rw [hex];simp)
  exact ne b o' e'
 have up:∀ b o,H' b=some o→upd H' a (.ext φ) b=some o:=fun b o e=>by rw [upd_ne (ne_of_none e nh)];exact e
 refine ⟨I'.ok,I'.os,I'.bare,⟨I'.base.keep,I'.base.slot,fun b o e n hx=> ?_,I'.base.there,fun b xs e=>up _ _ (I'.base.tups b xs e),fun b o u e=>up _ _ (I'.base.frzs b o u e),fun b ps e=> ?_⟩,I'.loc,I'.cell,?_,fun y c e=> ?_,fun p hp=> ?_,fun b u e=> ?_,I'.len⟩
 ·rw [upd_ne (ne0 b o e)];exact I'.base.free b o e n hx
 ·obtain ⟨m,e1⟩:=I'.base.tbls b ps e
  exact ⟨m,up _ _ e1⟩
 ·obtain ⟨m,⟨o,_,_,ho,_⟩,_⟩:=I.loc
  rw [upd_ne (ne _ o ho)];exact I'.free
 ·obtain ⟨v,o,ho,_⟩:=I.cell y c e
  rw [upd_ne (ne c o ho)];exact I'.freeC y c e
 ·obtain ⟨e,n,r⟩:=I'.pin p hp
  refine ⟨e,?_,r⟩
  rw [upd_ne (ne p.1 _ (I.pin p hp).1)];exact n
 ·by_cases hb:b=a
  ·subst hb
   rw [upd_same] at e
   cases e
   exact x
  ·rw [upd_ne hb] at e
   exact (I'.hok b u e).stay (fun _ _ _ q=>q) (fun c q=>up _ _ q) fun c xs q=>up _ _ q
theorem inv_unset {i:Nat} {n:Str} {h':Heap} {t:Nat} {v:Option Value} {m:Str→Option Value} (I:Inv X pins σ H s) (hN:X.N.Nodup) (hi:X.N[i]? =some n)
  (hm:s.heap.Ns X.env.locals m) (hl:∀ (j:Nat) (x:Str) (w:V),X.N[j]? =some x→σ[j]? =some (some w)→Vis X.env.scope x→∃ u,RelV w u∧Look X.env s.heap m x u)
  (hn:h'.Ns X.env.locals (fun x=>if x=n then v else m x)) (hs:Heap.SameBut X.env.locals s.heap h'):Inv X pins (σ.set i none) H {s with heap:=h',toks:=t}:=by
 obtain ⟨oL,_,_,hoL,_⟩:=id hm
 have cne:=I.cne
 refine ⟨I.ok,I.os,I.bare,⟨fun b o e n hb hx=> ?_,fun b o e n hb hx=> ?_,I.base.free,fun b o e hx=> ?_,I.base.tups,I.base.frzs,I.base.tbls⟩,⟨_,hn,fun j y w e1 e2 e3=> ?_⟩,fun y c e=> ?_,I.free,I.freeC,fun p hp=> ?_,fun b u e=> ?_,by simpa using I.len⟩
 ·exact (hs.2 b (Nat.ne_of_lt (Nat.lt_of_lt_of_le (Heap.lt_size e) I.ok.above))).trans (I.base.keep b o e n hb hx)
 ·obtain ⟨sl,e1⟩:=I.base.slot b o e n hb hx
  exact ⟨sl,(hs.2 b (Nat.ne_of_lt (Nat.lt_of_lt_of_le (Heap.lt_size e) I.ok.above))).trans e1⟩
 ·obtain ⟨o',e1⟩:=I.base.there b o e hx
  exact ⟨o',(hs.2 b (Nat.ne_of_lt (Nat.lt_of_lt_of_le (Heap.lt_size e) I.ok.above))).trans e1⟩
 ·have hj:j≠i:=by
   rintro rfl
   rw [List.getElem?_set_self'] at e2
   cases q:σ[j]? with
   |none=>rw [q] at e2;cases e2
   |some z=>rw [q] at e2;cases e2
  rw [List.getElem?_set_ne (Ne.symm hj)] at e2
  obtain ⟨u,r,q⟩:=hl j y w e1 e2 e3
  refine ⟨u,r,?_⟩
  rcases q with ⟨k,e⟩|⟨k,c,e,z⟩
  ·have:y≠n:=fun e=>hj (nodup_ix hN e1 (e▸hi))
   exact .inl ⟨k,by simp [this,e]⟩
  ·exact .inr ⟨k,c,e,z.sameBut hs (cne y c e)⟩
 ·obtain ⟨w,z⟩:=I.cell y c e
  exact ⟨w,z.sameBut hs (cne y c e)⟩
 ·obtain ⟨e,n,ne,nf,d⟩:=I.pin p hp
  exact ⟨(hs.2 p.1 ne).trans e,n,ne,nf,d⟩
 ·refine (I.hok b u e).stay (fun c w' hc q=>(hs.2 c ?_).trans q) (fun _ q=>q) fun _ _ q=>q
  rintro rfl
  rcases hc with rfl|hc
  ·rw [I.free] at e;cases e
  ·rw [I.free] at hc;cases hc
theorem goes_as {A:Around} {M:Model} {i:Nat} {n:Str} {pos:Pos} {Q:Unit→Shared→Prop} (I:Inv X pins σ H s) (hN:X.N.Nodup) (hi:X.N[i]? =some n) (hk:X.env.kindOf n=some .local)
  (h:∀ s',Inv X pins (σ.set i none) H s'→Q () s'):wpAny M A (do bindName X.env n .none;unbindBehindTheSuite X.env n pos) Q Ex s:=by
 obtain ⟨m,hm,hl⟩:=id I.loc
 have hp:(X.env.scope.kind== .class||(X.env.scope.kind== .module&&X.env.locals != X.env.globals))=false:=by rw [I.ok.kind];rfl
 exact wpAny_nameGoes_keeps hk hm hp fun h' v hn hs=>h _ (inv_unset I hN hi hm hl hn hs)
end
structure MatchX (K:PySem.W.Frag) (C c:Str):Prop where
 ex:∃ vc vC,PySem.W.nsIn K mainGlobals c=some (some vc)∧PySem.W.nsIn K mainGlobals C=some (some vC)∧PySem.W.exmOne K vc vC=some true
section
variable {X:Cx} {pins:List (Addr×Obj)} {σ:L2.St} {H H':Hp} {s s':Shared} {a:Addr} {cls vC:Value} {dx:Dx} {Ex:Value→Shared→Prop} {C n:Str} {np pos:Pos} {b₀:Stmt} {suite:List Stmt} {rest:List ExceptHandler} {Q:Flow→Shared→Prop}
theorem caught_test {R:Result→Shared→Prop} (I:Inv X pins σ H s) (hst:X.stack=X.env::X.outer) (hfr:X.env.frame=some X.env.locals) (os:s'.os=s.os) (bare:AllBare s'.gens) (x:Fly X.prog X.w X.stack H s H' a cls dx s'.heap)
  (hC:Gl X C) (hm:PySem.W.nsIn X.K mainGlobals C=some (some vC)) (he:PySem.W.exmOne X.K cls vC=some true) (hdb:(C==("__debug__":Str))=false)
  (k:∀ h',Fly X.prog X.w X.stack H s H' a cls dx h'→R (.ok .brk) {s' with heap:=h'}):
  codeAny (model X.prog X.w) (X.A.mark (some (.ref a))) (.handlers (.ref a) [.ExceptHandler (some (.Name C np)) none [] pos] X.env) R s':=by
 have I':=inv_mark (inv_flown I os bare x) a
 refine codeAny_handlers_test (ld_glob I' hC (PySem.W.mg_of I.ok.mod.kin I.ok.mod.glob hm) ?_ hdb)
 obtain ⟨B,a0,f,cov⟩:=x.fl
 obtain ⟨ob,hob,hc⟩:=f.there
 have LT:PySem.W.Looks (model X.prog X.w) s'.heap (typeOf (.ref a)) cls:=by
  subst hc
  exact (PySem.W.Looks.ld hob).andThen .now
 exact (PySem.W.exm_one I'.kIn LT he).here (k s'.heap x)
theorem fly_heap {h':Heap} {B:Heap} {a0:Value} (x:Fly X.prog X.w X.stack H s H' a cls dx s'.heap) (f:Heap.FlyingW B X.stack a cls a0 s'.heap) (cov:∀ b,b∉frs X.stack→((H' b).isSome=true∨(s.heap.get? b).isSome=true)→(B.get? b).isSome=true)
  (f':Heap.FlyingW B X.stack a cls a0 h') (up:s'.heap.UpToSlots h') (dk:DK s'.heap h'):Fly X.prog X.w X.stack H s H' a cls dx h':=
 ⟨fly_un x.un cov f f'.1 up,fly_hok x.hok x.frf cov f.1 f'.1,x.frf,x.new,x.nh,(let ⟨o,e,d⟩:=x.dc;let ⟨o',e',d'⟩:=dk a o e;⟨o',e',d.to d'⟩),B,a0,f',cov⟩
theorem caught_look {hs:List ExceptHandler} (I:Inv X pins σ H s) (hst:X.stack=X.env::X.outer) (hfr:X.env.frame=some X.env.locals) (x:Fly X.prog X.w X.stack H s H' a cls dx s'.heap)
  (k:∀ h',Fly X.prog X.w X.stack H s H' a cls dx h'→wpAny (model X.prog X.w) X.A (handleBy (.ref a) X.env hs) Q Ex {s' with heap:=h'}):
  wpAny (model X.prog X.w) X.A (noteFrame (.ref a) X.env) (fun _ s₂=>wpAny (model X.prog X.w) X.A (setFlight (.ref a) none) (fun _ s₃=>wpAny (model X.prog X.w) X.A (handleBy (.ref a) X.env hs) Q Ex s₃) Ex s₂) Ex s':=by
 obtain ⟨B,a0,f,cov⟩:=x.fl
 have f2:Heap.FlyingW B (X.env::X.outer) a cls a0 s'.heap:=by rw [←hst];exact f
 refine (kd_note (.ref a) X.env).thn (Q:=fun _ s4=>∃ h₄,s4= {s' with heap:=h₄}∧Heap.HeldW B (X.env::X.outer) a cls a0 X.env.locals h₄∧s'.heap.UpToSlots h₄) (wpAny_looks_onW (by rw [←hst];exact I.ok.frames) hfr f2 fun h₄ held up₄=>⟨h₄,rfl,held,up₄⟩) fun _ s4 ⟨h₄,e4,held,up₄⟩ dk4=> ?_
 subst e4
 refine (kd_flight (.ref a) none).thn (Q:=fun _ s5=>∃ h₅,s5= {s' with heap:=h₅}∧Heap.FlyingW B (X.env::X.outer) a cls a0 h₅∧h₄.UpToSlots h₅) (wpAny_landsW held fun h₅ f₅ up₅=>⟨h₅,rfl,f₅,up₅⟩) fun _ s5 ⟨h₅,e5,f₅,up₅⟩ dk5=> ?_
 subst e5
 exact k h₅ (fly_heap x f cov (by rw [hst];exact f₅) (up₄.trans up₅) (dk4.trans dk5))
theorem exc_ok {P:Program} {w:World} {H:Hp} {h:Heap} (x:ExcAt a cls dx h):ObjOk P w H h a (.ext (ExcAt a cls dx)):=by
 obtain ⟨o,vs,e,hc,hx,hd,hz⟩:=x
 exact ⟨⟨o,vs,e,hc,hx,hd,hz⟩,⟨o,e⟩,fun h1 h2 ⟨o1,vs1,e1,hc1,hx1,hd1⟩ k=>⟨o1,vs1,k _ e1,hc1,hx1,hd1⟩⟩
theorem fly_exc {h:Heap} (x:Fly X.prog X.w X.stack H s H' a cls dx h):ExcAt a cls dx h:=by
 obtain ⟨B,a0,f,cov⟩:=x.fl
 obtain ⟨oe,vs,he,hc,hd,_⟩:=f.first
 obtain ⟨od,ed,dd⟩:=x.dc
 rw [he] at ed
 cases ed
 exact ⟨oe,vs,he,hc,dd.1,hd,fun z=>by
  obtain ⟨vs',e',q⟩:=dd.2 z
  rw [hd] at e';cases e'
  exact q⟩
theorem caught_as {i:Nat} {D:Ends} {t:TS} (I:Inv X pins σ H s) (hex:X.ex= []) (hst:X.stack=X.env::X.outer) (hfr:X.env.frame=some X.env.locals) (os:s'.os=s.os) (bare:AllBare s'.gens) (x:Fly X.prog X.w X.stack H s H' a cls dx s'.heap)
  (hC:Gl X C) (hm:PySem.W.nsIn X.K mainGlobals C=some (some vC)) (he:PySem.W.exmOne X.K cls vC=some true) (hdb:(C==("__debug__":Str))=false)
  (hN:X.N.Nodup) (hi:X.N[i]? =some n) (hk:X.env.kindOf n=some .local)
  (hsu:∀ a,PSs (markX X a) (b₀::suite) t) (ht:t {nx:=fun σ' H'=>D.nx (σ'.set i none) H',rt:=D.rt,bk:=fun σ' H'=>D.bk (σ'.set i none) H',ct:=fun σ' H'=>D.ct (σ'.set i none) H'} (σ.set i (some (.ref a))) (upd H' a (.ext (ExcAt a cls dx)))):
  wpAny (model X.prog X.w) X.A (noteFrame (.ref a) X.env) (fun _ s₂=>wpAny (model X.prog X.w) X.A (setFlight (.ref a) none) (fun _ s₃=>
   wpAny (model X.prog X.w) X.A (handleBy (.ref a) X.env (.ExceptHandler (some (.Name C np)) (some n) (b₀::suite) pos::rest)) (SP X pins D) Ex s₃) Ex s₂) Ex s':=by
 refine caught_look I hst hfr x fun h5 x5=> ?_
 refine wpAny_handleBy_cons (caught_test (s':= {s' with heap:=h5}) I hst hfr os bare x5 hC hm he hdb fun h6 x6=>codeAny_handlers_suite_as ?_) (by intro q;cases q)
 obtain ⟨B,a0,f,cov⟩:=x6.fl
 refine (kd_flight (.ref a) none).thn (Q:=fun _ s7=>∃ h7,s7= {s' with heap:=h7}∧Heap.FlyingW B X.stack a cls a0 h7∧h6.UpToSlots h7) (lands_againW f fun h7 f7 up7=>⟨h7,rfl,f7,up7⟩) fun _ s7 ⟨h7,e7,f7,up7⟩ dk7=> ?_
 subst e7
 have x7:=fly_heap (s':= {s' with heap:=h6}) x6 f cov f7 up7 dk7
 have I7:Inv X pins σ H' {s' with heap:=h7}:=inv_flown (s':= {s' with heap:=h7}) I os bare x7
 have I8:=inv_track I I7 hex x7.new x7.nh (exc_ok (fly_exc x7))
 have hloc:Loc X.env.scope n:= .inl hk
 refine store_ok I8 hN hi hloc (v:= .ref a) rfl (fun s8 I9=> ?_) (.inr hk)
 refine wpAny_mono (hsu a pins _ _ _ _ (inv_mark I9 a) ht) (fun fl s9 q=> ?_) fun _ _ z=>False.elim z
 cases fl with
 |next=>obtain ⟨σ',H9,J,q⟩:=q;exact goes_as (inv_unmark I.ok J) hN hi hk fun s10 K=>⟨_,H9,K,q⟩
 |brk=>obtain ⟨σ',H9,J,q⟩:=q;exact goes_as (inv_unmark I.ok J) hN hi hk fun s10 K=>⟨_,H9,K,q⟩
 |cont=>obtain ⟨σ',H9,J,q⟩:=q;exact goes_as (inv_unmark I.ok J) hN hi hk fun s10 K=>⟨_,H9,K,q⟩
 |ret u=>obtain ⟨v,σ',H9,J,r,q⟩:=q;exact goes_as (inv_unmark I.ok J) hN hi hk fun s10 K=>⟨v,_,H9,K,r,q⟩
end
end L3
namespace L3
open PySem PySem.Spec PyProof.Rows L2 SeqAt
section
variable {X:Cx} {CX:CXT} {k:Nat} {f:Addr} {fd:FuncData} {ps:List Str} {sp:Sp} {dvs:List V} {ds:List Value} {E:L2.St→XK} {x:Str} {p pos:Pos} {e:Expr} {es:List Expr} {t:TA}
theorem pe_callS (F:FnOk X.prog X.w X.K X.mg X.base CX k f fd ps sp) (hr:Room k X.A) (hg:Gl X x) (hm:X.mg x=some (.ref f)) (hk:PySem.W.keepIn X.K (.ref f)=true) (hb:Binds X.K fd ps ds) (hd:Vals dvs ds)
  (hx:∀ (pins:List (Addr×Obj)) (σ:L2.St) (H:Hp) (s:Shared) (e:Value) (s':Shared),Inv X pins σ H s→CX X.stack H s (E σ) e s'→X.xe e s')
  (ha:PA X (e::es) t) (hdb:(x==("__debug__":Str))=false) (he:starEach (e::es) X.env=(false,eval e X.env)::starEach es X.env) (hpl:(backTo pos (starEach es X.env)).any (·.1)=false):
  PE X (.Call (.Name x p) (e::es) [] pos) (fun σ H Q=>t σ H fun vs H1=>sp (vs++dvs) H1 Q (E σ)):=by
 intro pins s σ H Q I h
 refine wpAny_Call_Name_kw (ld_glob I hg hm ?_ hdb)
 refine PySem.W.callWith_K (h₀:=X.base) I.ok.mod.kin hk (thn (ha pos pins s σ H _ I h) fun us s1 ⟨vs,H1,I1,r,q⟩=>⟨I1.kIn,?_⟩) he hpl
 have r2:Vals (vs++dvs) (us++ds):=r.append hd
 have hl:(us++ds).length=ps.length:=by rw [←r2.length];exact F.len _ _ _ _ q
 refine wpAny_call (codeAny_mono (F.run X.A X.stack s1 H1 ⟨us,[]⟩ (us++ds) (vs++dvs) Q (E σ) hr I1.env0 (hb s1 us I1.kIn hl) r2 q) fun r s' hq=> ?_)
 cases r with
 |error e=>exact hx pins σ H1 s1 e s' I1 hq
 |ok fl=>
  cases fl with
  |ret u=>exact I1.after hq
  |next=>exact False.elim hq
  |brk=>exact False.elim hq
  |cont=>exact False.elim hq
theorem pa_try {pins:List (Addr×Obj)} {Ex:Value→Shared→Prop} (h:PA X.nox es t):PA (tryX X pins Ex) es t:=fun q more s σ H Q I hw=>by
 have ok:X.Ok:=⟨I.ok.mod,I.ok.kind,I.ok.glob,I.ok.blt,I.ok.above,I.ok.inj,I.ok.has,I.ok.cab,I.ok.hd,I.ok.frames,I.ok.stk,I.ok.exf,I.ok.bs,I.ok.bsz,I.ok.noex,I.ok.exfs,I.ok.funs,I.ok.frf⟩
 have I':Inv X.nox (pins++more) σ H s:=⟨ok.wish _,I.os,I.bare,I.base,I.loc,I.cell,I.free,I.freeC,fun z hz=>I.pin z (by show z∈(X.pn++pins)++more;rw [List.append_assoc];exact hz),I.hok,I.len⟩
 refine wpAny_mono (h q _ s σ H Q I' hw) (fun us s1 ⟨v,H',J,r,z⟩=>⟨v,H',?_,r,z⟩) fun _ _ z=>False.elim z
 exact ⟨I.ok,J.os,J.bare,J.base,J.loc,J.cell,J.free,J.freeC,fun z hz=>J.pin z (by show z∈X.pn++(pins++more);rw [←List.append_assoc];exact hz),J.hok,J.len⟩
end
structure KindX (X:Cx) (e:Expr) (st:Stmt) (gK:D→DSt→Out):Prop where
 ex:∃ cont:Ends→L2.St→VK,(∀ (pins:List (Addr×Obj)) (Ex:Value→Shared→Prop) (te:TE),PE (tryX X pins Ex) e te→PS (tryX X pins Ex) st (fun Dn σ H=>te σ H (cont Dn σ)))∧
  ∀ (xw:XW) (W₀:WS) (H₀:Hp) (W:WS) (H:Hp) (d:D) (v:V) (σ:L2.St) (δ:DSt) (Dn:Ends),StHas X.K W₀ H₀ W H σ δ→Has X.K W H d v→RS X.K xw W₀ H₀ W H (gK d δ) Dn→cont Dn σ v H
section
variable {X:Cx} {e:Expr} {pos:Pos}
theorem kd_set (j:Nat) {x:Str} {pos':Pos} (hN:X.N.Nodup) (hi:X.N[j]? =some x:=by rfl) (hx:Loc X.env.scope x:=by first|exact Or.inl rfl|exact Or.inr rfl) (hs:swapsWith e (some (.Name x pos')) pos.line X.env=pure false:=by rfl)
  (hf:X.fn x=true∨X.env.scope.names.lookup x=some .local:=by first|exact .inl rfl|exact .inr rfl|assumption):KindX X e (.Assign [.Name x pos'] e pos) (fun d δ=> .nx (δ.set j (some (.d d)))):=
 ⟨fun Dn σ v H=>Dn.nx (σ.set j (some v)) H,fun pins Ex te h=>ps_set hN hi hx h hs hf,fun xw W₀ H₀ W H d v σ δ Dn st hv q=>q W H _ Step.refl (st.set hv)⟩
end
def unsetO (i:Nat):Out→Out
 | .nx δ=> .nx (δ.set i none)
 | .bk δ=> .bk (δ.set i none)
 | .ct δ=> .ct (δ.set i none)
 | .rt d=> .rt d
 |_=> .stuck
def sTry (cs:List Str) (f:DSt→Res D) (gK:D→DSt→Out) (go:DSt→Out) (gs:Str→List D→DSt→Out):DSt→Out:=fun δ=>match f δ with
 | .ok d=>seqO (gK d δ) go
 | .ex c fs=>if c∈cs then gs c fs δ else .stuck
 | .stuck=> .stuck
theorem StHas.unset {K:PySem.W.Frag} {W₀ W:WS} {H₀ H:Hp} {σ:L2.St} {δ:DSt} (h:StHas K W₀ H₀ W H σ δ) (i:Nat):StHas K W₀ H₀ W H (σ.set i none) (δ.set i none):=by
 have ne:∀ (j:Nat) (t:S),(δ.set i none)[j]? =some (some t)→i≠j∧δ[j]? =some (some t):=fun j t e=>by
  have hj:i≠j:=by
   rintro rfl
   rw [List.getElem?_set_self'] at e
   cases q:δ[i]? with
   |none=>rw [q] at e;cases e
   |some z=>rw [q] at e;cases e
  rw [List.getElem?_set_ne hj] at e
  exact ⟨hj,e⟩
 refine ⟨h.fr,by simp [h.len],fun j s e=> ?_,fun j l s1 s2 u u' a hjl e1 e2 e3 e4 os ot=> ?_⟩
 ·obtain ⟨hj,e'⟩:=ne j s e
  rw [List.getElem?_set_ne hj]
  exact h.at' j s e'
 ·obtain ⟨hj,g1⟩:=ne j s1 e1
  obtain ⟨hl,g2⟩:=ne l s2 e2
  rw [List.getElem?_set_ne hj] at e3
  rw [List.getElem?_set_ne hl] at e4
  exact h.ap j l s1 s2 u u' a hjl g1 g2 e3 e4 os ot
section
variable {X:Cx} {xw:XW} {a:Expr} {es:List Expr} {fs:DSt→Res (List D)} {p pos cpos hpos tpos np:Pos} {st b₀:Stmt} {suite orelse:List Stmt} {k nn:Nat} {x C n:Str} {m:List D→Res D} {gK:D→DSt→Out} {go gsu:DSt→Out}
theorem try_core {hd:ExceptHandler} {fa:Addr} {fd:FuncData} {ps:List Str} {vs0:List V} {ds0:List Value} {d0:List D} {gs:Str→List D→DSt→Out} (cs:List Str) (G:FnOk X.prog X.w X.K X.mg X.base (CXD X.prog X.w) k fa fd ps (spX X.K nn m)) (hm:X.mg x=some (.ref fa)) (hk:PySem.W.keepIn X.K (.ref fa)=true) (hb:Binds X.K fd ps ds0) (hd0:Vals vs0 ds0)
  (h0:∀ W H,HasL X.K W H d0 vs0) (hr:Room k X.A) (ha:XA X.nox xwF (a::es) fs) (kd:KindX X (.Call (.Name x p) (a::es) [] cpos) st gK) (hor:XSs X xw orelse go)
  (hcat:∀ (pins:List (Addr×Obj)) (σ:L2.St) (H H0 H':Hp) (s s':Shared) (ar:Addr) (cls:Value) (dx:Dx) (c:Str) (fs:List D) (W₀:WS) (H₀:Hp) (W:WS) (δ:DSt) (Dn:Ends),Inv X pins σ H s→s'.os=s.os→AllBare s'.gens→Fly X.prog X.w X.stack H s H' ar cls dx s'.heap→ExF H' dx fs→
   PySem.W.nsIn X.K mainGlobals c=some (some cls)→c∈cs→StHas X.K W₀ H₀ W H0 σ δ→Same H0 H'→RS X.K xw W₀ H₀ W H0 (gs c fs δ) Dn→
   wpAny (model X.prog X.w) X.A (noteFrame (.ref ar) X.env) (fun _ s₂=>wpAny (model X.prog X.w) X.A (setFlight (.ref ar) none) (fun _ s₃=>
    wpAny (model X.prog X.w) X.A (handleBy (.ref ar) X.env [hd]) (SP X pins Dn) X.xe s₃) X.xe s₂) X.xe s')
  (hg:Gl X x) (hdb:(x==("__debug__":Str))=false) (he:starEach (a::es) X.env=(false,eval a X.env)::starEach es X.env) (hpl:(backTo cpos (starEach es X.env)).any (·.1)=false):
  XS X xw (.Try [st] [hd] orelse [] tpos) (sTry cs (fun δ=>(noex (fs δ)).bind fun ds=>callX nn m (ds++d0)) gK go gs):=⟨by
 intro pins s σ H Dn I ⟨W₀,H₀,W,δ,sth,q⟩
 obtain ⟨cont,kp,kr⟩:=kd.ex
 refine wpAny_Try_except ?_
 generalize hEx:(fun (e:Value) (s₁:Shared)=>wpAny (model X.prog X.w) X.A (noteFrame e X.env) (fun _ s₂=>wpAny (model X.prog X.w) X.A (setFlight e none) (fun _ s₃=>wpAny (model X.prog X.w) X.A (handleBy e X.env [hd]) (SP X pins Dn) X.xe s₃) X.xe s₂) X.xe s₁)=Ex
 have D1nx:∀ σ' H',tDS X.K xw go Dn σ' H'→∀ s',Inv X pins σ' H' s'→wpAny (model X.prog X.w) X.A (execs orelse X.env) (SP X pins Dn) X.xe s':=fun σ' H' h s' J=>hor.h pins s' σ' H' Dn J h
 have pe:=pe_callS (X:=tryX X pins Ex) (p:=p) (pos:=cpos) (E:=fun σ' cls dx H'=>σ'=σ∧Same H H'∧∃ c fs',PySem.W.nsIn X.K mainGlobals c=some (some cls)∧((noex (fs δ)).bind fun ds=>callX nn m (ds++d0))= .ex c fs'∧ExF H' dx fs') G hr hg hm hk hb hd0 (fun more σ' H1 s1 e s' J h=>by
  obtain ⟨ar,cls,dx,H',rfl,os,bare,fl,rfl,sm,c,fs',hn,hf,xf⟩:=h
  have J':=inv_untry I.ok J
  show Ex (.ref ar) s'
  subst hEx
  unfold sTry at q
  dsimp only at q
  rw [hf] at q
  have q':RS X.K xw W₀ H₀ W H (if c∈cs then gs c fs' δ else .stuck) Dn:=q
  split at q'
  ·rename_i hc
   exact hcat pins σ' H1 H H' s1 s' ar cls dx c fs' W₀ H₀ W δ Dn J' os bare fl xf hn hc sth sm q'
  ·exact q'.elim) (pa_try ha.h) hdb he hpl
 refine wpAny_mono (pss_one (kp pins Ex _ pe) [] s σ H {nx:=tDS X.K xw go Dn,rt:=Dn.rt,bk:=Dn.bk,ct:=Dn.ct} (inv_try I) ?_) (fun fl s1 h1=> ?_) fun e s1 h1=>h1
 ·refine ⟨W₀,H₀,W,δ,sth,?_⟩
  unfold sTry at q
  dsimp only at q
  cases hf:fs δ with
  |stuck=>rw [hf] at q;exact q
  |ex c gs'=>rw [hf] at q;exact False.elim q
  |ok ds=>
   rw [hf] at q
   intro vs H1 k1 hv
   have hv':HasL X.K W H1 (ds++d0) (vs++vs0):=hv.append (h0 W H1)
   have q1:RS X.K xw W₀ H₀ W H (match callX nn m (ds++d0) with| .ok d=>seqO (gK d δ) go| .ex c fs=>if c∈cs then gs c fs δ else .stuck| .stuck=> .stuck) Dn:=q
   have ec:((noex (Res.ok ds)).bind fun ds=>callX nn m (ds++d0))=callX nn m (ds++d0):=rfl
   by_cases hl:(ds++d0).length=nn
   ·have em:callX nn m (ds++d0)=m (ds++d0):=if_pos hl
    rw [em] at q1
    refine ⟨by rw [←hv'.length];exact hl,W,ds++d0,sth.fr.wl.same k1,hv',?_⟩
    cases h:m (ds++d0) with
    |ok d=>
     rw [h] at q1
     intro v H2 k2 hd2
     refine kr xw W₀ H₀ W H2 d v σ δ _ (sth.same (k1.trans k2)) hd2 ?_
     have q2:RS X.K xw W₀ H₀ W H (seqO (gK d δ) go) Dn:=q1
     have q3:=RS.step q2 (Step.same (W:=W) (k1.trans k2))
     cases hgk:gK d δ with
     |nx δ'=>
      rw [hgk] at q3
      exact fun W' H' σ' kk st'=>⟨W₀,H₀,W',δ',st',RS.step (o:=go δ') q3 kk⟩
     |bk δ'=>rw [hgk] at q3;exact q3
     |ct δ'=>rw [hgk] at q3;exact q3
     |rt d'=>rw [hgk] at q3;exact q3
     |ex c' fs'=>rw [hgk] at q3;exact q3
     |stuck=>rw [hgk] at q3;exact q3
    |ex c fs'=>
     exact fun cls dx H2 hn k2 xf=>⟨rfl,k1.trans k2,c,fs',hn,by rw [ec,em,h],xf⟩
    |stuck=>rw [h] at q1;exact q1
   ·have em:callX nn m (ds++d0)= .stuck:=if_neg hl
    rw [em] at q1
    exact q1.elim
 ·cases fl with
  |next=>obtain ⟨σ',H',J,z⟩:=h1;exact D1nx σ' H' z s1 (inv_untry I.ok J)
  |brk=>obtain ⟨σ',H',J,z⟩:=h1;exact ⟨σ',H',inv_untry I.ok J,z⟩
  |cont=>obtain ⟨σ',H',J,z⟩:=h1;exact ⟨σ',H',inv_untry I.ok J,z⟩
  |ret u=>obtain ⟨v,σ',H',J,r,z⟩:=h1;exact ⟨v,σ',H',inv_untry I.ok J,r,z⟩⟩
end
end L3
namespace L3
open PySem PySem.Spec PyProof.Rows L2 SeqAt
def tryF (fs:DSt→Res (List D)) (nn:Nat) (m:List D→Res D) (d0:List D):DSt→Res D:=fun δ=>(noex (fs δ)).bind fun ds=>callX nn m (ds++d0)
def gsAs (i:Nat) (gsu:DSt→Out):Str→List D→DSt→Out:=fun c fs δ=>unsetO i (gsu (δ.set i (some (.d (.exc c fs)))))
section
variable {X:Cx} {xw:XW} {a:Expr} {es:List Expr} {fs:DSt→Res (List D)} {p pos cpos hpos tpos np:Pos} {st b₀:Stmt} {suite orelse:List Stmt} {k nn:Nat} {x C n:Str} {m:List D→Res D} {gK:D→DSt→Out} {go gsu:DSt→Out}
theorem cat_as (i:Nat) (cs:List Str) (hcs:∀ c∈cs,MatchX X.K C c) (hex:X.ex= []) (hst:X.stack=X.env::X.outer) (hfr:X.env.frame=some X.env.locals) (hN:X.N.Nodup) (hi:X.N[i]? =some n) (hk:X.env.kindOf n=some .local) (hgC:Gl X C) (hdC:(C==("__debug__":Str))=false)
  (hsu:∀ a,XSs (markX X a) xwF (b₀::suite) gsu) (pins:List (Addr×Obj)) (σ:L2.St) (H H0 H':Hp) (s s':Shared) (ar:Addr) (cls:Value) (dx:Dx) (c:Str) (xs:List D) (W₀:WS) (H₀:Hp) (W:WS) (δ:DSt) (Dn:Ends) (I:Inv X pins σ H s) (os:s'.os=s.os) (bare:AllBare s'.gens) (fl:Fly X.prog X.w X.stack H s H' ar cls dx s'.heap) (xf:ExF H' dx xs)
  (hn:PySem.W.nsIn X.K mainGlobals c=some (some cls)) (hc:c∈cs) (sth:StHas X.K W₀ H₀ W H0 σ δ) (sm:Same H0 H') (q:RS X.K xw W₀ H₀ W H0 (gsAs i gsu c xs δ) Dn):
  wpAny (model X.prog X.w) X.A (noteFrame (.ref ar) X.env) (fun _ s₂=>wpAny (model X.prog X.w) X.A (setFlight (.ref ar) none) (fun _ s₃=>
   wpAny (model X.prog X.w) X.A (handleBy (.ref ar) X.env [.ExceptHandler (some (.Name C np)) (some n) (b₀::suite) hpos]) (SP X pins Dn) X.xe s₃) X.xe s₂) X.xe s':=by
 obtain ⟨vc,vC,e1,e2,e3⟩:=(hcs c hc).ex
 rw [hn] at e1
 cases e1
 have k2:Same H0 (upd H' ar (.ext (ExcAt ar cls dx))):=fun b o e=>by rw [upd_ne (ne_of_none (sm b o e) fl.nh)];exact sm b o e
 refine caught_as (t:=tDS X.K xwF gsu) I hex hst hfr os bare fl hgC e2 e3 hdC hN hi hk (fun a=>(hsu a).h) ⟨W₀,H₀,W,δ.set i (some (.d (.exc c xs))),(sth.same k2).set (x:= .exc c xs) (v:= .ref ar) (by rw [Has];exact ⟨ar,cls,dx,rfl,hn,upd_same,xf.to (fun b o u e=>by rw [upd_ne (ne_of_none e fl.nh)];exact e) fun b kvs e=>by rw [upd_ne (ne_of_none e fl.nh)];exact e⟩),?_⟩
 unfold gsAs at q
 cases hq:gsu (δ.set i (some (.d (.exc c xs)))) with
 |nx δ'=>rw [hq] at q;exact fun W' H2 σ2 stp st2=>q W' H2 _ ((Step.same k2).trans stp) (st2.unset i)
 |bk δ'=>rw [hq] at q;exact fun W' H2 σ2 stp st2=>q W' H2 _ ((Step.same k2).trans stp) (st2.unset i)
 |ct δ'=>rw [hq] at q;exact fun W' H2 σ2 stp st2=>q W' H2 _ ((Step.same k2).trans stp) (st2.unset i)
 |rt d=>rw [hq] at q;exact q
 |ex c' fs'=>rw [hq] at q;exact q.elim
 |stuck=>rw [hq] at q;exact q.elim
theorem s_tryAs (i:Nat) (cs:List Str) (F:FnX X.prog X.w X.K X.mg X.base k x nn m) (hcs:∀ c∈cs,MatchX X.K C c) (hN:X.N.Nodup) (hr:Room k X.A) (ha:XA X.nox xwF (a::es) fs) (kd:KindX X (.Call (.Name x p) (a::es) [] cpos) st gK) (hor:XSs X xw orelse go)
  (hsu:∀ a,XSs (markX X a) xwF (b₀::suite) gsu) (hi:X.N[i]? =some n:=by rfl) (hk:X.env.kindOf n=some .local:=by rfl) (hex:X.ex= []:=by rfl) (hst:X.stack=X.env::X.outer:=by rfl) (hfr:X.env.frame=some X.env.locals:=by rfl)
  (hgC:Gl X C:=by rfl) (hdC:(C==("__debug__":Str))=false:=by decide) (hg:Gl X x:=by rfl) (hdb:(x==("__debug__":Str))=false:=by decide) (he:starEach (a::es) X.env=(false,eval a X.env)::starEach es X.env:=by rfl) (hpl:(backTo cpos (starEach es X.env)).any (·.1)=false:=by rfl):
  XS X xw (.Try [st] [.ExceptHandler (some (.Name C np)) (some n) (b₀::suite) hpos] orelse [] tpos) (sTry cs (tryF fs nn m []) gK go (gsAs i gsu)):=by
 obtain ⟨fa,fd,ps,G,hm,hkp,hb⟩:=F.ex
 exact try_core cs G hm hkp hb .nil (fun W H=>HasL.nil) hr ha kd hor (cat_as i cs hcs hex hst hfr hN hi hk hgC hdC hsu) hg hdb he hpl
end
end L3
namespace L3
open PySem PySem.Spec PySem.Calls PyProof.Rows PySem.W Builtin Builtin.ObjectAttr Builtin.Getset_descriptor
structure ExcK (K:Frag) (C:Addr):Prop where
 ga:findIn K (.ref C) "__getattribute__"=some (some (.builtin "BaseException.__getattribute__"))
 gt:findIn K (.ref C) "__getattr__"=some none
 cl:findIn K (.ref C) "__class__"=some (some (.builtin "object.__class__"))
 ob:mroIn K C (.type "object")=some true
 be:mroIn K C (.type "BaseException")=some true
theorem ExcK.ci {K:Frag} {C:Addr} (z:ExcK K C):(clsIn K C).isSome=true:=by
 obtain ⟨cd,e,_⟩:=Option.bind_eq_some_iff.mp z.ob
 rw [e];rfl
section
variable {prog:Program} {w:World} {A:Around} {E:Value→Shared→Prop} {h:Heap} {g:Array GenState} {d:Drawn} {t:Nat} {os:OsState} {K:Frag} {a C:Addr} {o:Obj}
theorem xk_get {tp:Value} {R:Result→Shared→Prop} (X:K.In h) (hx:h.get? a=some o) (hc:o.cls= .ref C) (z:ExcK K C) (hq:R (.ok (.ret (.ref C))) ⟨h,g,d,t,os⟩):
  codeAny (model prog w) A (.call (.builtin "getset_descriptor.__get__") ⟨[.builtin "object.__class__", .ref a,tp],[]⟩) R ⟨h,g,d,t,os⟩:=by
 have L0:Looks (model prog w) h (typeOf (.ref a)) (.ref C):=hc▸(Looks.ld hx).andThen .now
 have L1:=looks_mroIn (M:=model prog w) X z.ob
 refine codeAny_call_builtin KF.slot_gs.plain KF.entry_gs (KF.slot_gs.check _ _ _ _ _ _ _ _ KF.type_class (KF.args_gs _ _ _) ?_)
 unfold Builtin.«getset_descriptor.__get__» descrGet
 rw [dga_obj]
 refine wpAny_bind (wpAny_pure ?_)
 unfold descrGetter descrCheckInstance descrNameAndClass isInstance
 simp only [KF.owner_class]
 repeat lk
 refine ⟨Code.quiet_builtin _ (by decide +kernel),codeAny_builtin KF.entry_class ?_⟩
 unfold Builtin.«object.__class__» shownTypeOf
 repeat lk
 exact hq
theorem xk_entry {tk:Tok} {Q:Fin→Shared→Prop} (X:K.In h) (hx:h.get? a=some o) (hc:o.cls= .ref C) (z:ExcK K C) (hq:Q (.done (.ret (.ref C))) ⟨h,g,d,t,os⟩):
  wpAny (model prog w) A (Builtin.«object.__getattribute__» ⟨[.ref a, .str "__class__" tk],[]⟩) Q E ⟨h,g,d,t,os⟩:=by
 have hT5:(⟨h,g,d,t,os⟩:Shared).TypeIs (.builtin "object.__class__") "getset_descriptor":=F.typeOf_object_class
 have L0:Looks (model prog w) h (typeOf (.ref a)) (.ref C):=hc▸(Looks.ld hx).andThen .now
 have L3:=looks_findIn (M:=model prog w) X z.cl
 have f5:=F.typeOf_object_class
 have f6:=F.slot_gs_get.lookup
 have f7:=F.slot_gs_set.lookup
 repeat (any_goals (first|assumption|refine wpAny_bind (L0.at ?_)|refine wpAny_bind (L3.at ?_)|wp_step))
 refine xk_get X hx hc z ?_
 repeat (any_goals (first|assumption|wp_step))
theorem xk_call {tk:Tok} {R:Result→Shared→Prop} (X:K.In h) (hx:h.get? a=some o) (hc:o.cls= .ref C) (z:ExcK K C) (hq:R (.ok (.ret (.ref C))) ⟨h,g,d,t,os⟩):
  codeAny (model prog w) A (.call (.builtin "BaseException.__getattribute__") ⟨[.ref a, .str "__class__" tk],[]⟩) R ⟨h,g,d,t,os⟩:=by
 have L0:Looks (model prog w) h (typeOf (.ref a)) (.ref C):=hc▸(Looks.ld hx).andThen .now
 have L1:=looks_mroIn (M:=model prog w) X z.be
 have hk:builtinKind "BaseException.__getattribute__"=some .slot:=by decide +kernel
 have hsplit:splitId "BaseException.__getattribute__"=some ("BaseException","__getattribute__"):=by decide +kernel
 have ha:=F.args_bexc_ga (.ref a) (.str "__class__" tk)
 have hp:plainId "BaseException.__getattribute__"=true:=by decide +kernel
 refine codeAny_call_builtin hp F.entry_bexc_ga ?_
 simp only [checkBuiltinCall,hk,hsplit]
 refine wpAny_bind ((L0.andThen L1).at ?_)
 simp only [Bool.not_true,Bool.false_eq_true,if_false]
 repeat (first|assumption|exact xk_entry X hx hc z hq|wp_step)
theorem xk_by {tk:Tok} {fill expr:Bool} {Q:Value→Shared→Prop} (X:K.In h) (hx:h.get? a=some o) (hc:o.cls= .ref C) (z:ExcK K C) (hq:Q (.ref C) ⟨h,g,d,t,os⟩):
  wpAny (model prog w) A (getAttrBy (.ref a) (.str "__class__" tk) fill expr) Q E ⟨h,g,d,t,os⟩:=by
 have L0:Looks (model prog w) h (typeOf (.ref a)) (.ref C):=hc▸(Looks.ld hx).andThen .now
 have L1:=looks_findIn (M:=model prog w) X z.ga
 have L2:=looks_findIn (M:=model prog w) X z.gt
 have f3:bindSpecial (.builtin "BaseException.__getattribute__") (.ref a)=pure (.builtin "BaseException.__getattribute__",[.ref a]):=F.excAttr_ValueError.ga.bind (.ref a)
 have hx0:(expr&&onTheHeap (Value.builtin "BaseException.__getattribute__"))=false:=by cases expr<;>rfl
 have hx2:(Value.builtin "BaseException.__getattribute__"==Value.builtin "object.__getattribute__")=false:=by decide +kernel
 have hx1:(onTheHeap (Value.ref C)&&Value.builtin "BaseException.__getattribute__"==Value.builtin "object.__getattribute__")=false:=by rw [hx2];rfl
 repeat (any_goals (first|assumption|refine wpAny_bind (L0.at ?_)|refine wpAny_bind (L1.at ?_)|refine wpAny_bind (L2.at ?_)|wp_step))
 refine xk_call X hx hc z ?_
 repeat (any_goals (first|assumption|wp_step))
theorem xk_class {Q:Option Value→Shared→Prop} (X:K.In h) (hx:h.get? a=some o) (hc:o.cls= .ref C) (z:ExcK K C) (hq:Q (some (.ref C)) ⟨h,g,d,t+1,os⟩):
  wpAny (model prog w) A (getAttr? (.ref a) "__class__") Q E ⟨h,g,d,t,os⟩:=by
 unfold getAttr? getAttrBy?
 exact wpAny_bind (wpAny_mkText (wpAny_bind (wpAny_attempt (xk_by X hx hc z (wpAny_pure hq)))))
theorem kitx_exc (z:ExcK K C):KitX K (.ref a) (.ref C) (fun h=>∃ o,h.get? a=some o∧o.cls= .ref C) where
 ty:=fun M h _ ⟨o,hx,hc⟩=>hc▸(Looks.ld hx).andThen .now
 it:=fun M h X _=>by
  have hci:=z.ci
  unfold clsIn at hci
  split at hci
  ·rename_i c' d' cd' sl' ho
   intro A' Q' E' s' k q
   unfold isType loadHead
   exact wpAny_bind (wpAny_loadPart (k _ _ (X _ _ ho)) (wpAny_pure q))
  ·cases hci
 ne:=fun h tp dd its n sl X htp=>by
  have hci:=z.ci
  refine Bool.eq_false_iff.mpr fun q=> ?_
  have e:C=tp:=Value.ref.inj (beq_iff_eq.mp q)
  subst e
  unfold clsIn at hci
  split at hci
  ·rename_i c' d' cd' sl' ho
   have zz:=(X _ _ ho).symm.trans htp
   cases zz
  ·cases hci
 ca:=fun {prog w A E Q s} X ⟨o,hx,hc⟩ k=>by
  obtain ⟨hh,g,d,t,os⟩:=s
  exact xk_class X hx hc z k
end
end L3
namespace L3
open PySem PySem.Spec PyProof.Rows L2 SeqAt
section
variable {X:Cx} {xw:XW} {a:Expr} {es:List Expr} {fa:DSt→Res D} {fs:DSt→Res (List D)} {pos p p2:Pos} {c:Str}
inductive IsC (K:PySem.W.Frag) (mg:Str→Option Value):Str→V→Prop
 |own {c:Str} {C:Addr}:mg c=some (.ref C)→IsC K mg c (.ref C)
 |blt {c:Str} {T:String}:mg c=none→bootBuiltins c=some (.type T)→c≠"__name__"→IsC K mg c (.ty T)
structure XC (X:Cx) (e:Expr) (v:V):Prop where
 h:PE X e (tC v)
structure XCs (X:Cx) (es:List Expr) (vs:List V):Prop where
 h:PA X es (fun _ H Q=>Q vs H)
theorem c_name {v:V} (hc:IsC X.K X.mg c v) (hg:Gl X c:=by rfl) (hd:(c==("__debug__":Str))=false:=by decide):XC X (.Name c pos) v:=⟨by
 cases hc with
 |own h=>exact pe_glob hg h rfl hd
 |blt h1 h2 h3=>exact pe_bltn hg h1 h2 rfl h3 hd⟩
theorem cs_nil:XCs X [] []:=⟨pa_nil⟩
theorem cs_cons {e:Expr} {v:V} {vs:List V} (h:XC X e v) (t:XCs X es vs) (hs:starEach (e::es) X.env=(false,eval e X.env)::starEach es X.env:=by rfl):XCs X (e::es) (v::vs):=⟨PA.weak (pa_cons h.h t.h hs) fun σ H Q q=>q⟩
def valC:V→Value
 | .ref a=> .ref a
 | .ty T=> .type T
 |_=> .none
def isiXR (tb:List (Str×Bool)):D→Res D
 | .exc c _=>match tb.lookup c with
  |some b=> .ok (.bl b)
  |none=> .stuck
 |_=> .stuck
structure IsiX (K:PySem.W.Frag) (tb:List (Str×Bool)) (vs:List V):Prop where
 cls:∀ v∈vs,(∃ a,v= .ref a)∨∃ T,v= .ty T
 ok:∀ c b,tb.lookup c=some b→∃ C,PySem.W.nsIn K mainGlobals c=some (some (.ref C))∧ExcK K C∧PySem.W.kitAny K (.ref C) (vs.map valC)=some b
theorem clsC_nil:∀ v∈([]:List V),(∃ a,v=V.ref a)∨∃ T,v=V.ty T:=fun v h=>absurd h (by simp)
theorem clsC_ref {a:Addr} {vs:List V} (h:∀ v∈vs,(∃ a,v=V.ref a)∨∃ T,v=V.ty T):∀ v∈V.ref a::vs,(∃ a,v=V.ref a)∨∃ T,v=V.ty T:=List.forall_mem_cons.mpr ⟨.inl ⟨a,rfl⟩,h⟩
theorem clsC_ty {T:String} {vs:List V} (h:∀ v∈vs,(∃ a,v=V.ref a)∨∃ T,v=V.ty T):∀ v∈V.ty T::vs,(∃ a,v=V.ref a)∨∃ T,v=V.ty T:=List.forall_mem_cons.mpr ⟨.inr ⟨T,rfl⟩,h⟩
theorem isiX_nil {K:PySem.W.Frag} {vs:List V} (h:∀ v∈vs,(∃ a,v=V.ref a)∨∃ T,v=V.ty T):IsiX K [] vs:=⟨h,fun c b e=>by simp at e⟩
theorem isiX_cons {K:PySem.W.Frag} {c:Str} {C:Addr} {b:Bool} {tb:List (Str×Bool)} {vs:List V} (hn:PySem.W.nsIn K mainGlobals c=some (some (.ref C))) (z:ExcK K C) (hk:PySem.W.kitAny K (.ref C) (vs.map valC)=some b) (t:IsiX K tb vs):IsiX K ((c,b)::tb) vs:=⟨t.cls,fun c' b' e=>by
 rw [List.lookup_cons] at e
 cases hx:c'==c with
 |true=>
  rw [hx] at e
  have e':b=b':=Option.some.inj e
  have ec:c'=c:=by simpa using hx
  subst e';subst ec
  exact ⟨C,hn,z,hk⟩
 |false=>rw [hx] at e;exact t.ok c' b' e⟩
theorem vals_cls {vs:List V}:∀ {us:List Value},(∀ v∈vs,(∃ a,v=V.ref a)∨∃ T,v=V.ty T)→Vals vs us→us=vs.map valC:=by
 induction vs with
 |nil=>intro us _ r;cases r;rfl
 |cons v vs ih=>
  intro us h r
  cases r with
  |cons r t=>
   rw [List.map_cons,←ih (fun w hw=>h w (List.mem_cons_of_mem _ hw)) t]
   rcases h v List.mem_cons_self with ⟨a,rfl⟩|⟨T,rfl⟩
   ·rw [show _=Value.ref a from r];rfl
   ·rw [show _=Value.type T from r];rfl
theorem exc_has {K:PySem.W.Frag} {W:WS} {H:Hp} {c:Str} {fs:List D} {v:V} (h:HasT K W H (.exc c fs) v):∃ a C dx,v= .ref a∧PySem.W.nsIn K mainGlobals c=some (some C)∧H a=some (.ext (ExcAt a C dx))∧ExF H dx fs:=by
 rcases h with h|⟨ds,a,xs,h1,_⟩
 ·rw [Has] at h
  exact h
 ·cases h1
theorem call_isiX {tb:List (Str×Bool)} {vs:List V} (hi:IsiX X.K tb vs):CallR X (.builtin "isinstance") (fun xs H Q=>∃ x c a C dx t b,xs= [x, .ref t]∧x= .ref a∧PySem.W.nsIn X.K mainGlobals c=some (some C)∧H a=some (.ext (ExcAt a C dx))∧H t=some (.tup vs)∧tb.lookup c=some b∧Q (.bl b) H):=by
 intro pins s σ H xs us Q I r h
 obtain ⟨x,c,a,C,dx,t,b,rfl,rfl,hn,ha,ht,hb,q⟩:=h
 obtain ⟨u,u2,rfl,rx,rc⟩:=r.two
 obtain rfl:u=Value.ref a:=rx
 obtain rfl:u2=Value.ref t:=rc
 obtain ⟨C',hn',z,hk⟩:=hi.ok c b hb
 rw [hn] at hn'
 cases hn'
 obtain ⟨⟨oe,ws,he,hc,_⟩,_⟩:=I.hok a _ ha
 obtain ⟨_,its,rv,⟨cl,dd,dat,sl⟩,ho,hcl,n,hd⟩:=I.hok t _ ht
 simp only at hcl hd
 subst hcl hd
 have ei:=vals_cls hi.cls rv
 rw [←ei] at hk
 exact PySem.W.kia_tup (kitx_exc (a:=a) z) I.kIn ⟨oe,he,hc⟩ ho hk (fun z=>nomatch z) fun tk=>⟨.bl b,H,I.tok tk,rfl,q⟩
theorem call_isiX1 {tb:List (Str×Bool)} {vc:V} (hi:IsiX X.K tb [vc]):CallR X (.builtin "isinstance") (fun xs H Q=>∃ x c a C dx b,xs= [x,vc]∧x= .ref a∧PySem.W.nsIn X.K mainGlobals c=some (some C)∧H a=some (.ext (ExcAt a C dx))∧tb.lookup c=some b∧Q (.bl b) H):=by
 intro pins s σ H xs us Q I r h
 obtain ⟨x,c,a,C,dx,b,rfl,rfl,hn,ha,hb,q⟩:=h
 obtain ⟨u,u2,rfl,rx,rc⟩:=r.two
 obtain rfl:u=Value.ref a:=rx
 obtain ⟨C',hn',z,hk⟩:=hi.ok c b hb
 rw [hn] at hn'
 cases hn'
 obtain ⟨⟨oe,ws,he,hc,_⟩,_⟩:=I.hok a _ ha
 have ei:u2=valC vc:=by
  rcases hi.cls vc List.mem_cons_self with ⟨a,rfl⟩|⟨T,rfl⟩
  ·exact rc
  ·exact rc
 subst ei
 have hk1:PySem.W.kitOne X.K (.ref C') (valC vc)=some b:=by
  have hk':(match PySem.W.kitOne X.K (.ref C') (valC vc) with|some true=>some true|some false=>some false|none=>none)=some b:=hk
  split at hk'<;>simp_all
 exact PySem.W.kia_one (kitx_exc (a:=a) z) I.kIn ⟨oe,he,hc⟩ hk1 (fun z=>nomatch z) fun tk=>⟨.bl b,H,I.tok tk,rfl,q⟩
theorem x_isiX {tb:List (Str×Bool)} {vs:List V} {ces:List Expr} {kt:Nat} (hi:IsiX X.K tb vs) (hm:X.mg "isinstance"=none) (ha:XP X xw a fa) (hcs:XCs X ces vs) (hl:vs.length≤1000:=by simp) (hg:Gl X "isinstance":=by rfl)
  (he:starEach [a, .Tuple ces kt p2] X.env=(false,eval a X.env)::starEach [.Tuple ces kt p2] X.env:=by rfl) (he2:starEach [.Tuple ces kt p2] X.env=(false,eval (.Tuple ces kt p2) X.env)::starEach [] X.env:=by rfl)
  (hpl:(backTo pos (starEach [.Tuple ces kt p2] X.env)).any (·.1)=false:=by rfl):
  XE X xw (.Call (.Name "isinstance" p) [a, .Tuple ces kt p2] [] pos) (b1 (isiXR tb) fa):=⟨
 PE.weak (pe_callB (call_isiX hi) hg hm (by decide +kernel) (pa_cons ha.h (pa_cons (pe_tup hcs.h) pa_nil he2) he) (by decide) (by decide) he hpl) fun σ H Q ⟨W₀,H₀,W,δ,st,q⟩=>one_read st q fun H2 d v k w st2 hv _ q2=>by
  unfold isiXR at q2
  cases d with
  |exc c fs=>
   dsimp only at q2
   split at q2
   ·rename_i b hb
    obtain ⟨ar,C,dx,e,hn,hH,_⟩:=exc_has hv
    refine ⟨by rw [sizeLine_eq];omega,fun t ht=>⟨v,c,ar,C,dx,t,b,rfl,e,hn,?_,upd_same,hb,?_⟩⟩
    ·rw [upd_ne (ne_of_none hH ht)];exact hH
    ·exact q2 _ _ (fun b o e=>by rw [upd_ne (ne_of_none e ht)];exact e) (by rw [Has])
   ·exact q2.elim
  |_=>exact q2.elim⟩
theorem x_isiX1 {tb:List (Str×Bool)} {vc:V} {ce:Expr} (hi:IsiX X.K tb [vc]) (hm:X.mg "isinstance"=none) (ha:XP X xw a fa) (hcs:XC X ce vc) (hg:Gl X "isinstance":=by rfl)
  (he:starEach [a,ce] X.env=(false,eval a X.env)::starEach [ce] X.env:=by rfl) (he2:starEach [ce] X.env=(false,eval ce X.env)::starEach [] X.env:=by rfl)
  (hpl:(backTo pos (starEach [ce] X.env)).any (·.1)=false:=by rfl):
  XE X xw (.Call (.Name "isinstance" p) [a,ce] [] pos) (b1 (isiXR tb) fa):=⟨
 PE.weak (pe_callB (call_isiX1 hi) hg hm (by decide +kernel) (pa_cons ha.h (pa_cons hcs.h pa_nil he2) he) (by decide) (by decide) he hpl) fun σ H Q ⟨W₀,H₀,W,δ,st,q⟩=>one_read st q fun H2 d v k w st2 hv _ q2=>by
  unfold isiXR at q2
  cases d with
  |exc c fs=>
   dsimp only at q2
   split at q2
   ·rename_i b hb
    obtain ⟨ar,C,dx,e,hn,hH,_⟩:=exc_has hv
    exact ⟨v,c,ar,C,dx,b,rfl,e,hn,hH,hb,q2.bl⟩
   ·exact q2.elim
  |_=>exact q2.elim⟩
end
end L3
namespace L3
open PySem PySem.Spec PyProof.Rows L2 SeqAt
section
variable {X:Cx} {xw:XW} {a b c tg:Expr} {pos p:Pos}
end
section
variable {X:Cx} {xw:XW} {a:Expr} {lo:Option Expr} {st:Expr} {fa:DSt→Res D} {fl fh:DSt→Res (Option Int)} {pos p2:Pos}
end
end L3
namespace L3
open PySem PySem.Spec PyProof.Rows L2 SeqAt
section
variable {X:Cx} {xw:XW}
def frzL (i:Nat) (δ:DSt):DSt:=match δ[i]? with
 |some (some (.o ds))=>δ.set i (some (.d (.lst ds)))
 |_=>δ
def sFrzL (i:Nat) (g:DSt→Out):DSt→Out:=fun δ=>g (frzL i δ)
theorem frzL_step {i:Nat} {g:DSt→Out} {Dn:Ends} {σ:L2.St} {H:Hp} (h:tDS X.K xw (sFrzL i g) Dn σ H):tDS X.K xw g Dn σ H:=by
 obtain ⟨W₀,H₀,W,δ,st,q⟩:=h
 have q':RS X.K xw W₀ H₀ W H (g (frzL i δ)) Dn:=q
 unfold frzL at q'
 split at q'
 ·rename_i ds h
  obtain ⟨v,e,a,xs,r1,r2,r3,r4,r5⟩:=st.at' i _ h
  subst r1
  obtain ⟨st2,hd⟩:=st.freeze h e
  exact ⟨W₀,H₀,_,_,st2,RS.less (fun b z=>z.1) q'⟩
 ·exact ⟨W₀,H₀,W,δ,st,q'⟩
theorem s_frzL (i:Nat) {st:Stmt} {g:DSt→Out} (h:XS X xw st g):XS X xw st (sFrzL i g):=⟨fun pins s σ H Dn I q=>h.h pins s σ H Dn I (frzL_step q)⟩
end
end L3
namespace L3
open PySem PySem.Spec PyProof.Rows L2 SeqAt
theorem us1 {P:List Value→Prop} (h:∀ a0:Value,P [a0]):∀ us:List Value,us.length=1→P us
 | [a0],_=>h a0
theorem us2 {P:List Value→Prop} (h:∀ a0 a1:Value,P [a0,a1]):∀ us:List Value,us.length=2→P us
 | [a0,a1],_=>h a0 a1
theorem us3 {P:List Value→Prop} (h:∀ a0 a1 a2:Value,P [a0,a1,a2]):∀ us:List Value,us.length=3→P us
 | [a0,a1,a2],_=>h a0 a1 a2
theorem us5 {P:List Value→Prop} (h:∀ a0 a1 a2 a3 a4:Value,P [a0,a1,a2,a3,a4]):∀ us:List Value,us.length=5→P us
 | [a0,a1,a2,a3,a4],_=>h a0 a1 a2 a3 a4
theorem putF_new (f:Str) (v:V):∀ fs:List (Str×V),f∉fs.map (·.1)→putF f v fs=fs++ [(f,v)]
 | [],_=>rfl
 |(g,x)::r,h=>by
  rw [List.map_cons] at h
  have h1:¬ g=f:=fun z=>h (by rw [←z];exact List.mem_cons_self)
  have h2:f∉r.map (·.1):=fun z=>h (List.mem_cons_of_mem _ z)
  show (if g=f then (g,v)::r else (g,x)::putF f v r)=_
  rw [if_neg h1,putF_new f v r h2];rfl
section
variable {K:PySem.W.Frag} {W₀ W:WS} {H₀ H H':Hp} {σ:L2.St} {δ:DSt}
theorem StHas.poke {C dx x:Addr} {fl fl':List (Str×V)} (h:StHas K W₀ H₀ W H σ δ) (hW:W x) (h0:H₀ x=none) (hx:H x=some (.ins C dx fl)):StHas K W₀ H₀ W (upd H x (.ins C dx fl')) σ δ:=by
 have kk:Keep W H (upd H x (.ins C dx fl')):=fun b o e n=>by rw [upd_ne (fun z=>n (by rw [z];exact hW))];exact e
 have hw:∀ b,W b→W b∨H b=none:=fun b z=> .inl z
 have bk:∀ (j:Nat) (s:S) (v:V) (b:Addr),δ[j]? =some (some s)→σ[j]? =some (some v)→Owns (upd H x (.ins C dx fl')) s v b→Owns H s v b:=fun j s v b e e' o=>by
  obtain ⟨v',h1,h2⟩:=h.at' j s e
  rw [e'] at h1;cases h1
  refine Owns.back h2 (fun c xs ec z=> ?_) o
  rw [upd_ne (fun y=>by rw [y,hx] at z;cases z)];exact z
 refine ⟨⟨fun b o e=>by rw [upd_ne (ne_of_none e h0)];exact h.fr.ext _ _ e,h.fr.sub,fun b z=> ?_,h.fr.wl0⟩,h.len,fun i s e=> ?_,fun i j s t u v b ij e1 e2 e3 e4 o1 o2=>h.ap i j s t u v b ij e1 e2 e3 e4 (bk i s u b e1 e3 o1) (bk j t v b e2 e4 o2)⟩
 ·by_cases hb:b=x
  ·rw [hb];exact ⟨_,upd_same,trivial⟩
  ·rw [upd_ne hb];exact h.fr.wl b z
 ·obtain ⟨v,h1,h2⟩:=h.at' i s e
  refine ⟨v,h1,?_⟩
  cases s with
  |d y=>exact Has.keep kk h.fr.wl hw h2
  |o ds=>
   obtain ⟨a,xs,e,g1,g2,g3,g4⟩:=h2
   have hb:a≠x:=fun z=>by rw [z,hx] at g3;cases g3
   exact ⟨a,xs,e,g1,g2,by rw [upd_ne hb];exact g3,HasL.keep kk h.fr.wl hw g4⟩
  |q ks ds=>
   obtain ⟨a,xs,e,g1,g2,g3,g4,g5⟩:=h2
   have hb:a≠x:=fun z=>by rw [z,hx] at g3;cases g3
   exact ⟨a,xs,e,g1,g2,by rw [upd_ne hb];exact g3,g4,HasL.keep kk h.fr.wl hw g5⟩
  |w dss=>
   obtain ⟨a,bs,e,g1,g2,g3,g4,g5,g6,g7⟩:=h2
   have hb:a≠x:=fun z=>by rw [z,hx] at g3;cases g3
   refine ⟨a,bs,e,g1,g2,by rw [upd_ne hb];exact g3,g4,g5,g6,fun i c ds e1 e2=> ?_⟩
   obtain ⟨f1,f2,xs',f3,f4⟩:=g7 i c ds e1 e2
   have hc:c≠x:=fun z=>by rw [z,hx] at f3;cases f3
   exact ⟨f1,f2,xs',by rw [upd_ne hc];exact f3,HasL.keep kk h.fr.wl hw f4⟩
theorem StHas.born {C dx x:Addr} (h:StHas K W₀ H₀ W H σ δ) (hx:H x=none) (hd:H dx=none) (ne:dx≠x):
  StHas K W₀ H₀ (fun b=>W b∨b=x) (upd (upd H dx (.own x)) x (.ins C dx [])) σ δ:=by
 have sm:Same H (upd (upd H dx (.own x)) x (.ins C dx [])):=fun b o e=>by rw [upd_ne (ne_of_none e hx),upd_ne (ne_of_none e hd)];exact e
 have hw:∀ b,(W b∨b=x)→W b∨H b=none:=fun b z=>z.elim .inl fun z=> .inr (by rw [z];exact hx)
 refine ⟨⟨h.fr.ext.trans sm,fun b z=> .inl (h.fr.sub b z),fun b z=> ?_,h.fr.wl0⟩,h.len,fun i s e=> ?_,(h.same sm).ap⟩
 ·rcases z with z|z
  ·exact h.fr.wl.same sm b z
  ·rw [z];exact ⟨_,upd_same,trivial⟩
 ·obtain ⟨v,h1,h2⟩:=h.at' i s e
  exact ⟨v,h1,h2.mv h.fr.wl (Same.keep sm) hw fun b o _ h1' _ h3' _=>⟨.inl h1',sm _ _ h3'⟩⟩
theorem StHas.front {v:Option V} (h:StHas K W₀ H₀ W H σ δ):StHas K W₀ H₀ W H (v::σ) (none::δ):=by
 refine ⟨h.fr,by simp [h.len],fun i s e=> ?_,fun i j s t u v' a hij e1 e2 e3 e4 os ot=> ?_⟩
 ·cases i with
  |zero=>cases e
  |succ i=>exact h.at' i s e
 ·cases i with
  |zero=>cases e1
  |succ i=>
   cases j with
   |zero=>cases e2
   |succ j=>exact h.ap i j s t u v' a (fun z=>hij (by rw [z])) e1 e2 e3 e4 os ot
end
def fldsR:List (Str×(DSt→Res D))→DSt→Res (List D)
 | [],_=> .ok []
 |p::r,δ=>(p.2 δ).bind fun d=>(fldsR r δ).bind fun ds=> .ok (d::ds)
def makeR (n:Nat) (c:Str) (fs:List (Str×(DSt→Res D))) (ds:List D):Res D:=(fldsR fs (none::startD n ds)).bind fun es=> .ok (.obj c (fs.map (·.1)) es)
def RI (K:PySem.W.Frag) (W₀:WS) (H₀:Hp) (W:WS) (δ:DSt) (σ:L2.St) (C dx x:Addr) (ks:List Str) (ds:List D) (r:Res (List D)) (Dn:Ends):Prop:=match r with
 | .ok es=>∀ H' fl',StHas K W₀ H₀ W H' σ δ→H' x=some (.ins C dx fl')→fl'.map (·.1)=ks→HasL K W H' (ds++es) (fl'.map (·.2))→Dn.nx σ H'
 |_=>False
def tInit (K:PySem.W.Frag) (C:Addr) (fs:List (Str×(DSt→Res D))):TS:=fun Dn σ H=>∃ W₀ H₀ W δ x dx fl ds,StHas K W₀ H₀ W H σ δ∧σ[0]? =some (some (.ref x))∧W x∧H₀ x=none∧H x=some (.ins C dx fl)∧
 HasL K W H ds (fl.map (·.2))∧(fl.map (·.1)++fs.map (·.1)).Nodup∧fl.length+fs.length<1000∧RI K W₀ H₀ W δ σ C dx x (fl.map (·.1)++fs.map (·.1)) ds (fldsR fs δ) Dn
structure XIn (X:Cx) (C:Addr) (sts:List Stmt) (fs:List (Str×(DSt→Res D))):Prop where
 h:PSs X sts (tInit X.K C fs)
section
variable {X:Cx} {xw:XW} {C:Addr} {e a:Expr} {es:List Expr} {f fa fb:DSt→Res D} {fs:List (Str×(DSt→Res D))} {sts:List Stmt} {pos p p1 p2 p3:Pos} {fld c:Str}
theorem in_nil:XIn X C [] []:=⟨PSs.weak pss_nil fun Dn σ H ⟨W₀,H₀,W,δ,x,dx,fl,ds,st,_,_,_,hx,hds,_,_,q⟩=>q H fl st hx (by simp) (by rw [List.append_nil];exact hds)⟩
theorem in_cons (cl:Cls X.K C) (hn:NoAttr X.K C fld) (he:XE X xwF e f) (hr:XIn X C sts fs) {self:Str} (hN:X.N[0]? =some self:=by rfl) (hv:Vis X.env.scope self:=by first|exact Or.inl rfl|exact Or.inr (Or.inl rfl)|exact Or.inr (Or.inr rfl))
  (hd:(self==("__debug__":Str))=false:=by decide) (hcd:(self==("__classdict__":Str))=false:=by decide) (hs:swapsWith e (some (.Attribute (.Name self p1) fld p2)) pos.line X.env=pure false:=by rfl):
  XIn X C (.Assign [.Attribute (.Name self p1) fld p2] e pos::sts) ((fld,f)::fs):=⟨by
 refine PSs.weak (pss_cons (ps_fld (pe_var hN hv hd hcd) he.h hs) hr.h) fun Dn σ H ⟨W₀,H₀,W,δ,x,dx,fl,ds,st,e0,hW,h0,hx,hds,nd,ln,q⟩=> ?_
 rw [List.length_cons] at ln
 show tDE X.K xwF f σ H _
 refine ⟨W₀,H₀,W,δ,st,?_⟩
 have eq1:fldsR ((fld,f)::fs) δ=(f δ).bind fun d=>(fldsR fs δ).bind fun ds=> .ok (d::ds):=rfl
 rw [eq1] at q
 cases h1:f δ with
 |stuck=>rw [h1] at q;exact q.elim
 |ex c fs=>rw [h1] at q;exact q.elim
 |ok d=>
  rw [h1] at q
  intro v H1 k hv
  have hx1:=k _ _ hx
  have st1:=st.same k
  refine ⟨.ref x,e0,x,C,dx,fl,rfl,hx1,cl,hn,by omega,?_⟩
  have hf:fld∉fl.map (·.1):=fun z=>by
   rw [List.map_cons,List.nodup_append] at nd
   exact nd.2.2 _ z _ List.mem_cons_self rfl
  rw [putF_new _ _ _ hf]
  have kk:Keep W H1 (upd H1 x (.ins C dx (fl++ [(fld,v)]))):=fun b o e n=>by rw [upd_ne (fun z=>n (by rw [z];exact hW))];exact e
  have ek:(fl++ [(fld,v)]).map (·.1)++fs.map (·.1)=fl.map (·.1)++((fld,f)::fs).map (·.1):=by simp
  refine ⟨W₀,H₀,W,δ,x,dx,fl++ [(fld,v)],ds++ [d],st1.poke hW h0 hx1,e0,hW,h0,upd_same,?_,by rw [ek];exact nd,by rw [List.length_append,List.length_singleton];omega,?_⟩
  ·rw [List.map_append]
   exact HasL.keep kk st1.fr.wl (fun b z=> .inl z) ((hds.same k st.fr.wl).snoc hv)
  ·rw [ek]
   cases h2:fldsR fs δ with
   |stuck=>rw [h2] at q;exact q.elim
   |ex c gs=>rw [h2] at q;exact q.elim
   |ok es=>
    rw [h2] at q
    intro H' fl' g1 g2 g3 g4
    rw [List.append_assoc] at g4
    exact q H' fl' g1 g2 g3 g4⟩
end
def spI (K:PySem.W.Frag) (C:Addr) (n:Nat) (nl:Nat) (c:Str) (fs:List (Str×(DSt→Res D))):Sp:=fun vs H Q _=>∃ x dx vs' H1 W ds,vs=V.ref x::vs'∧vs'.length=n∧H=upd (upd H1 dx (.own x)) x (.ins C dx [])∧H1 x=none∧H1 dx=none∧dx≠x∧
 WL W H1∧HasL K W H1 ds vs'∧match fldsR fs (none::startD nl ds) with
  | .ok es=>∀ H' fl,Same H1 H'→H' x=some (.ins C dx fl)→fl.map (·.1)=fs.map (·.1)→HasL K W H' es (fl.map (·.2))→Q .non H'
  |_=>False
structure FnI (P:Program) (w:World) (K:PySem.W.Frag) (mg:Str→Option Value) (base:Heap) (k:Nat) (c:Str) (n nl:Nat) (fs:List (Str×(DSt→Res D))):Prop where
 ex:∃ j C f fd ps,j+1≤k∧FnOk P w K mg base CX0 j f fd ps (spI K C n nl c fs)∧Mk K C f∧mg c=some (.ref C)∧PySem.W.nsIn K mainGlobals c=some (some (.ref C))∧Binds K fd ps []
theorem FnI.mono {P:Program} {w:World} {K:PySem.W.Frag} {mg:Str→Option Value} {base:Heap} {j k n nl:Nat} {c:Str} {fs:List (Str×(DSt→Res D))} (F:FnI P w K mg base j c n nl fs) (h:j≤k):FnI P w K mg base k c n nl fs:=by
 obtain ⟨i,C,f,fd,ps,a,b⟩:=F.ex
 exact ⟨i,C,f,fd,ps,Nat.le_trans a h,b⟩
theorem fn_init {P:Program} {w:World} {K:PySem.W.Frag} {mg:Str→Option Value} {base:Heap} {k n nl:Nat} {c qual:Str} {st:Stmt} {C fa:Addr} {fd:FuncData} {N ps:List Str} {fs:List (Str×(DSt→Res D))} (F:Fun K "__init__" qual st fa fd) (S:FnScope N ps (defScope st))
  (M:Mk K C fa) (hm:mg c=some (.ref C)) (hc:PySem.W.nsIn K mainGlobals c=some (some (.ref C))) (hb:Binds K fd ps [])
  (body:∀ (cdv:Value) (A:Around) (outer:List Env) (s:Shared) (H:Hp) (E:XK),Room k (A.deeper (envOfC qual (defScope st) s.heap.objs.size fa cdv))→
   XIn (cxOf CX0 P w K mg base N qual (defScope st) fa cdv A outer s H E).nox C (defBody st) fs) (hps:ps.length=n+1:=by rfl) (hN:N.length=nl+1:=by rfl) (hnd:(fs.map (·.1)).Nodup:=by decide +kernel) (hl:fs.length<1000:=by decide):FnI P w K mg base (k+1+1) c n nl fs:=by
 refine ⟨k+1,C,fa,fd,ps,Nat.le_refl _,F.ok S (fun vs H Q E h=> ?_) (fun cdv A outer s H vs Q E hr h=> ?_),M,hm,hc,hb⟩
 ·obtain ⟨x,dx,vs',H1,W,ds,rfl,h1,_⟩:=h
  rw [List.length_cons,h1,hps]
 ·obtain ⟨x,dx,vs',H1,W,ds,rfl,h1,rfl,hx,hdx,ne,wl,hd,q⟩:=h
  have s0:=start_has (N:=List.replicate nl ("":Str)) wl hd
  rw [List.length_replicate] at s0
  have es:L2.start N (V.ref x::vs')=some (V.ref x)::L2.start (List.replicate nl ("":Str)) vs':=by
   unfold L2.start
   rw [List.length_replicate,hN,List.length_cons,List.map_cons,List.cons_append,Nat.add_sub_add_right]
  refine ⟨_,(body cdv A outer s _ E hr).h,W,H1,(fun b=>W b∨b=x),none::startD nl ds,x,dx,[],[],?_,by rw [es];rfl, .inr rfl,hx,upd_same,HasL.nil,by simpa using hnd,by simpa using hl,?_⟩
  ·rw [es]
   exact (s0.born hx hdx ne).front
  ·cases h2:fldsR fs (none::startD nl ds) with
   |stuck=>rw [h2] at q;exact q.elim
   |ex c gs=>rw [h2] at q;exact q.elim
   |ok es=>
    rw [h2] at q
    exact fun H' fl' st' g2 g3 g4=>q H' fl' st'.fr.ext g2 (by simpa using g3) (HasL.keep (fun _ _ e _=>e) st'.fr.wl (fun b z=> .inl (.inl z)) (show HasL K (fun b=>W b∨b=x) H' es (fl'.map (·.2)) from g4))
section
variable {X:Cx} {xw:XW} {e a b:Expr} {es:List Expr} {f fa fb:DSt→Res D} {gs:DSt→Res (List D)} {fs:List (Str×(DSt→Res D))} {pos p p1 p2 p3:Pos} {fld c:Str}
theorem x_make {k n nl:Nat} (F:FnI X.prog X.w X.K X.mg X.base k c n nl fs) (hr:Room k X.A) (ha:XA X xw (a::es) gs) (hg:Gl X c:=by rfl)
  (hdb:(c==("__debug__":Str))=false:=by decide) (he:starEach (a::es) X.env=(false,eval a X.env)::starEach es X.env:=by rfl) (hpl:(backTo pos (starEach es X.env)).any (·.1)=false:=by rfl):
  XE X xw (.Call (.Name c p) (a::es) [] pos) (b1 (callR n (makeR nl c fs)) gs):=⟨by
 obtain ⟨j,C,fi,fd,ps,hj,G,M,hm,hn,hb⟩:=F.ex
 refine PE.weak (pe_make M G (hr.mono hj) hg hm hb .nil pass0 ha.h hdb he hpl) fun σ H Q ⟨W₀,H₀,W,δ,st,q⟩=> ?_
 refine args_read st q fun H2 ds vs k w st2 hv _ q2=> ?_
 unfold callR at q2
 split at q2
 ·rename_i hl
  intro x dx hx hdx ne
  rw [List.append_nil]
  refine ⟨x,dx,vs,H2,W,ds,rfl,by rw [←hv.length];exact hl,rfl,hx,hdx,ne,w,hv,?_⟩
  unfold makeR at q2
  cases h:fldsR fs (none::startD nl ds) with
  |stuck=>rw [h] at q2;exact q2.elim
  |ex c gs=>rw [h] at q2;exact q2.elim
  |ok es=>
   rw [h] at q2
   exact fun H' fl k' g1 g2 g3=>⟨rfl,q2 _ _ k' (by
    rw [Has]
    exact ⟨x,C,dx,fl,rfl,hn,g1,(fun z=>by obtain ⟨o,e,_⟩:=w x z;rw [hx] at e;cases e),g2,g3⟩)⟩
 ·exact q2.elim⟩
def fldR (c fld:Str):D→Res D
 | .obj c' ks ds=>if c'=c then (match (ks.zip ds).lookup fld with|some d=> .ok d|none=> .stuck) else .stuck
 |_=> .stuck
structure FldK (K:PySem.W.Frag) (c fld:Str):Prop where
 ex:∃ C,PySem.W.nsIn K mainGlobals c=some (some (.ref C))∧Cls K C∧NoAttr K C fld
theorem fld_get {K:PySem.W.Frag} {W:WS} {H:Hp} {g:Str} {d:D}:∀ {fl:List (Str×V)} {ds:List D},HasL K W H ds (fl.map (·.2))→((fl.map (·.1)).zip ds).lookup g=some d→∃ v,fl.lookup g=some v∧Has K W H d v
 | [],ds,_,e=>by simp at e
 |(k,v)::r,[],h,e=>by simp at e
 |(k,v)::r,d'::ds,h,e=>by
  rw [HasL] at h
  obtain ⟨x,r',e1,h1,h2⟩:=h
  rw [List.map_cons] at e1
  cases e1
  rw [List.map_cons,List.zip_cons_cons,List.lookup_cons] at e
  rw [List.lookup_cons]
  cases hk:g==k with
  |true=>rw [hk] at e;cases e;exact ⟨_,rfl,h1⟩
  |false=>rw [hk] at e;exact fld_get h2 e
theorem x_fld (T:FldK X.K c fld) (he:XE X xw e f) (hb:attributeBase e fld X.env (eval e X.env)=eval e X.env:=by rfl):XE X xw (.Attribute e fld pos) (b1 (fldR c fld) f):=
 ⟨PE.weak (pe_fld he.h hb) fun σ H Q ⟨W₀,H₀,W,δ,st,q⟩=>one_readE st q fun H2 d v k w st2 hv _ q2=>by
  unfold fldR at q2
  cases d with
  |obj c' ks ds=>
   dsimp only at q2
   split at q2
   ·rename_i hc
    subst hc
    split at q2
    ·rename_i d' hd
     rw [Has] at hv
     obtain ⟨ar,C,dx,fl,rfl,hn,hH,_,rfl,hL⟩:=hv
     obtain ⟨C',hn',cl,na⟩:=T.ex
     rw [hn] at hn'
     cases hn'
     obtain ⟨u,hu,hh⟩:=fld_get hL hd
     exact ⟨ar,C,dx,fl,u,rfl,hH,cl,na,hu,q2 u H2 (Same.refl _) hh⟩
    ·exact q2.elim
   ·exact q2.elim
  |_=>exact q2.elim⟩
noncomputable def extO (i:Nat) (δ:DSt) (r:Res (List D)):Out:=match δ[i]? with
 |some (some (.o ds))=>ofR r fun es=>@ite Out (ds.length+es.length≤100000) (Classical.propDecidable _) (.nx (δ.set i (some (.o (ds++es))))) .stuck
 |_=> .stuck
noncomputable def sExt (i:Nat) (ff:DSt→Res (List D)):DSt→Out:=fun δ=>extO i δ (ff δ)
theorem s_ext (i:Nat) {x:Str} {ff:DSt→Res (List D)} (he:XF X xw e ff) (hN:X.N[i]? =some x:=by rfl) (hv:Vis X.env.scope x:=by first|exact Or.inl rfl|exact Or.inr (Or.inl rfl)|exact Or.inr (Or.inr rfl)) (hd:(x==("__debug__":Str))=false:=by decide)
  (hcd:(x==("__classdict__":Str))=false:=by decide)
  (hsE:starEach [e] X.env=(false,eval e X.env)::starEach [] X.env:=by rfl)
  (hbase:attributeBase (.Name x p1) "extend" X.env (eval (.Name x p1) X.env)=eval (.Name x p1) X.env:=by rfl)
  (hfew:((backTo p3 (starEach [e] X.env)).all (fun x=> !x.1)&&(backToKw p3 (keywordEach [] X.env)).all (fun x=>x.1.isSome)
   &&decide (([e]:List Expr).length+([]:List Keyword).length+(if ([]:List Keyword).isEmpty then 0 else 1)<30))=true:=by rfl)
  (hline:(p2.endLine==p3.line)=true:=by rfl) (hplain:(backTo p3 (starEach [] X.env)).any (·.1)=false:=by rfl)
  (hsw:swapsWith (.Call (.Attribute (.Name x p1) "extend" p2) [e] [] p3) none pos.line X.env=pure false:=by rfl):
  XS X xw (.Expr (.Call (.Attribute (.Name x p1) "extend" p2) [e] [] p3) pos) (sExt i ff):=⟨
 PS.weak (ps_expr (pe_bm PySem.F.plainAttrs_list PySem.F.slot_list_extend PySem.F.type_list_extend mt_extend (pe_var hN hv hd hcd) (pa_cons he.h pa_nil hsE) hbase hfew hline hsE hplain) hsw) fun Dn σ H ⟨W₀,H₀,W,δ,st,q⟩=>by
  unfold sExt extO at q
  split at q
  ·rename_i ds h
   obtain ⟨v,e1,a,xs,rfl,r2,r3,r4,r5⟩:=st.at' i _ h
   refine ⟨_,e1, .inl ⟨rfl,xs, .of r4⟩,?_⟩
   refine ⟨W₀,H₀,W,δ,st,?_⟩
   cases h1:ff δ with
   |stuck=>rw [h1] at q;exact q
   |ex c fs=>rw [h1] at q;exact fun H' k'=>q H' (st.fr.ext.trans k')
   |ok es=>
    rw [h1] at q
    intro b zs H1 k n r
    have q':RS X.K xw W₀ H₀ W H (@ite Out (ds.length+es.length≤100000) (Classical.propDecidable _) (.nx (δ.set i (some (.o (ds++es))))) .stuck) Dn:=q
    split at q'
    ·rename_i hlen
     have sm:Same H (upd H1 b (.lst zs)):=fun c o e=>by rw [upd_ne (ne_of_none (k c o e) n)];exact k c o e
     have sm1:Same H1 (upd H1 b (.lst zs)):=fun c o e=>by rw [upd_ne (ne_of_none e n)];exact e
     have st2:=st.same sm
     have ra:(upd H1 b (.lst zs)) a=some (.lst xs):=sm _ _ r4
     have sz:sizeLine=16777216:=sizeLine_eq
     have hL:HasL X.K W (upd H1 b (.lst zs)) (ds++es) (xs++zs):=(r5.same sm st.fr.wl).append (r.same sm1 (st.same k).fr.wl)
     refine ⟨a,b,xs,zs,rfl,rfl,ra,upd_same,?_,?_⟩
     ·have:=r5.length;have:=r.length;omega
     ·refine q' W _ σ ⟨fun c o e n=> ?_,fun _ z=> .inl z⟩ (st2.change h e1 ra r2 hL)
      rw [upd_ne (fun z=>n (by rw [z];exact r2))];exact sm c o e
    ·exact q'.elim
  ·exact q.elim⟩
def EntT (w:World) (e:DictEntry) (p:Str×Str):Prop:=e.hash=keyH w (.inr p.1)∧(∃ t,e.key= .str p.1 t)∧∃ t,e.val= .str p.2 t
structure GlobQ (w:World) (K:PySem.W.Frag) (mg:Str→Option Value) (x:Str) (l:List (Str×Str)):Prop where
 h:∃ (ad:Addr) (o:Obj) (es:Array DictEntry) (n:Nat),mg x=some (.ref ad)∧K.lookup ad=some o∧o.ExactDict∧o.data= .dict es n∧Paired (EntT w) es.toList l∧(l.map (·.1)).Nodup
end
end L3
namespace L3
open PySem PySem.Spec PyProof.Rows L2 SeqAt
section
variable {X:Cx} {xw:XW} {e a b:Expr} {f fa fb:DSt→Res D} {pos pos' p p1 p2 p3:Pos}
end
end L3
namespace L3
open PySem PySem.Spec PyProof.Rows L2 SeqAt
section
variable {X:Cx} {xw:XW} {e:Expr} {ff:DSt→Res (List D)} {pos:Pos}
end
end L3
namespace L3
open PySem PySem.Spec PyProof.Rows L2 SeqAt
section
variable {X:Cx} {xw:XW} {a b:Expr} {fa fb:DSt→Res D} {pos:Pos}
end
end L3
namespace L2
open PySem PySem.Spec PyProof.Rows
variable {X:Cx} {pos:Pos}
end L2
namespace L3
open PySem PySem.Spec PyProof.Rows L2 SeqAt
variable {X:Cx} {pos:Pos} {tgs:List Expr} {ts:List D→DSt→Res DSt}
end L3
namespace PySem
open Sem (wp)
section
variable {prog:Program} {w:World} {A:Around} {E:Value→Shared→Prop} {h:Heap} {g:Array GenState} {d:Drawn} {t:Nat} {os:OsState}
variable {nm q:Str} {C N f:Addr} {bs bm bmB:List Value} {hdct:Bool} {sn:List Str} {sub:List Value} {ab:Bool} {col:Option Bool} {dd:Option Addr} {k0 k1 k2 k3 k5:Option Value} {B newId initId:String}
def excAt (h:Heap) (C:Addr) (rest:List Value):Heap:=(h.push {cls:= .type "tuple",data:= .seq rest.toArray}).push {cls:= .ref C,data:= .fields #[.ref h.objs.size, .none, .none, .none, .bool false, .none]}
theorem excAt_get {b:Addr} {o:Obj} {rest:List Value} (e:h.get? b=some o):(excAt h C rest).get? b=some o:=Heap.get?_push_of_some _ (Heap.get?_push_of_some _ e)
theorem excAt_new (rest:List Value):(excAt h C rest).get? (h.objs.size+1)=some {cls:= .ref C,data:= .fields #[.ref h.objs.size, .none, .none, .none, .bool false, .none]}:=by
 unfold excAt
 heap_get
theorem made_own (F:ExcBaseFacts B newId initId bmB) (T:OwnTail h bmB bm) {mN:Str→Option Value} {rest:List Value} {Q:Fin→Shared→Prop}
  (kl:h.get? C=some (excClassObj nm q C N bs bm hdct sn sub ab col dd k0 k1 k2 k3 k5 newId)) (ns:h.Ns N mN) (hi:mN "__init__"=some (.ref f)) (hrest:rest.length≤sizeLine)
  (hb:∀ self:Value,W.Looks (model prog w) h (bindSpecial (.ref f) self) (.ref f,[self]))
  (hq:codeAny (model prog w) A (.call (.ref f) ⟨.ref (h.objs.size+1)::rest,[]⟩) (fun r s'=>match r with
   | .ok (.ret v)=>v= .none∧Q (.done (.ret (.ref (h.objs.size+1)))) s'
   | .ok _=>False
   | .error e=>E e s') ⟨excAt h C rest,g,d,t,os⟩):
  wpAny (model prog w) A (Builtin.«type.__call__» ⟨.ref C::rest,[]⟩) Q E ⟨h,g,d,t,os⟩:=by
 repeat (first|with_reducible refine wpAny_loadPart_at kl ?_|with_reducible refine wpAny_madeBy_exc kl ?_|wp_step)
 refine codeAny_call_builtin_code (Code.quiet_builtin _ F.quiet) (wpAny_check_new_subT F T kl ?_)
 refine codeAny_exc_new_subT F T kl ?_ hrest
 show wpAny _ _ _ _ _ _
 have kl1:(excAt h C rest).get? C=_:=excAt_get kl
 have ns1:(excAt h C rest).Ns N mN:=by
  obtain ⟨o,es,ep,e,r⟩:=ns
  exact ⟨o,es,ep,excAt_get e,r⟩
 have tl1:=T.keeps (h':=excAt h C rest) fun b o e=>excAt_get e
 have hb1:=W.Looks.keeps (hb (.ref (h.objs.size+1))) (h':=excAt h C rest) fun b o e=>excAt_get e
 have at1:=excAt_new (h:=h) (C:=C) rest
 have own:(Value.ref C::bm).contains (.ref C)=true:=by simp
 show wpAny _ _ _ _ _ ⟨excAt h C rest,g,d,t,os⟩
 generalize excAt h C rest=h1 at*
 unfold isInstance
 repeat (first|with_reducible refine wpAny_loadPart_at at1 ?_|(with_reducible refine wpAny_isSubtype_exc kl1 ?_;rw [own])|wp_step)
 show wpAny _ _ (typeLookup (.ref C) _) _ _ _
 refine wpAny_typeLookup_tail kl1 ns1 tl1 F.mroIs F.init.lookup ?_
 rw [hi]
 show wpAny _ _ (holding _ (bindSpecial _ _ >>= _)) _ _ _
 refine wpAny_holding (wpAny_bind (W.Looks.at hb1 ?_))
 refine wpAny_bind (wpAny_call (codeAny_mono hq fun r s' z=> ?_))
 rcases r with e|(v|_|_|_)<;>first|exact z|exact z.elim|skip
 obtain ⟨rfl,z⟩:=z
 exact wpAny_pure (wpAny_pure z)
theorem call_own (F:ExcBaseFacts B newId initId bmB) (T:OwnTail h bmB bm) {mN:Str→Option Value} {rest:List Value} {Q:Value→Shared→Prop}
  (kl:h.get? C=some (excClassObj nm q C N bs bm hdct sn sub ab col dd k0 k1 k2 k3 k5 newId)) (ns:h.Ns N mN) (hi:mN "__init__"=some (.ref f)) (hrest:rest.length≤sizeLine)
  (hb:∀ self:Value,W.Looks (model prog w) h (bindSpecial (.ref f) self) (.ref f,[self]))
  (hq:codeAny (model prog w) (A.under (.builtin "type.__call__" ⟨.ref C::rest,[]⟩)) (.call (.ref f) ⟨.ref (h.objs.size+1)::rest,[]⟩) (fun r s'=>match r with
   | .ok (.ret v)=>v= .none∧Q (.ref (h.objs.size+1)) s'
   | .ok _=>False
   | .error e=>E e s') ⟨excAt h C rest,g,d,t,os⟩):
  wpAny (model prog w) A (call (.ref C) rest) Q E ⟨h,g,d,t,os⟩:=by
 have look:=tc_lookup
 have bnd:=tc_bind (.ref C)
 have isT:(⟨h,g,d,t,os⟩:Shared).TypeIs (.ref C) "type":=⟨_,kl,rfl⟩
 refine wpAny_call (codeAny_of_tree ?_)
 show wpAny _ _ (callAny (.ref C) _) _ _ _
 repeat (any_goals (first|assumption|with_reducible refine wpAny_loadPart_at kl ?_|wp_step))
 refine ⟨rfl,?_⟩
 refine codeAny_call_builtin_at (Code.quiet_builtin _ (by decide +kernel)) entry_typeCall (wpAny_check_type_call_sub kl (made_own F T kl ns hi hrest hb ?_))
 exact hq
end
end PySem
namespace PySem
open Sem (wp)
open Builtin Builtin.ObjectAttr W
section
variable {prog:Program} {w:World} {A:Around} {E:Value→Shared→Prop} {h:Heap} {g:Array GenState} {d:Drawn} {t:Nat} {os:OsState} {K:Frag}
variable {nm q:Str} {C N e:Addr} {bs bm bmB:List Value} {hdct:Bool} {sn:List Str} {sub:List Value} {ab:Bool} {col:Option Bool} {dd:Option Addr} {k0 k1 k2 k3 k5:Option Value} {newId:String}
abbrev vTail:List Value:= [.type "ValueError", .type "Exception", .type "BaseException", .type "object"]
def overV:Nat→List Value→Bool
 |0,l=>l==vTail
 |n+1, .ref _::r=>overV n r
 |_+1,_=>false
theorem overV_pass (self:Value):∀ {n:Nat} {l:List Value},overV n l=true→refuseLoop self "__setattr__" l=pure ()
 |0,_,e=>by rw [beq_iff_eq.mp e];exact F.store_ValueError.passes self
 |n+1, .ref _::r,e=>by rw [refuseLoop_ref];exact overV_pass (n:=n) self e
theorem exc_dict {vs:Array Value} {sl:Array (Option Value)} {name:Str} {v:Value} {tk:Tok} {b:Bool} {cd:ClassData} {Q:Fin→Shared→Prop} (KX:K.In h) (he:h.get? e=some ⟨.ref C,none, .fields vs,sl⟩)
  (f4:clsIn K C=some cd) (f6:cd.hasDict=true)
  (hq:∀ h' tk' dx,(∀ b o,b≠e→h.get? b=some o→h'.get? b=some o)→h'.get? e=some ⟨.ref C,some dx, .fields vs,sl⟩→h.objs.size≤dx→h'.Ns1 dx (fun x=>if x=name then some v else none)→Q (.done (.ret .none)) ⟨h',g,d,tk',os⟩):
  wpAny (model prog w) A (storeInOwnDict (.ref e) (.ref C) (.str name tk) name v b) Q E ⟨h,g,d,t,os⟩:=by
 have es:e≠h.objs.size:=Nat.ne_of_lt (Heap.lt_size he)
 have cl:=looks_clsIn (M:=model prog w) KX f4
 let d0:Obj:= {cls:= .type "dict",data:= .dict #[]}
 have he1:(h.push d0).get? e=some ⟨.ref C,none, .fields vs,sl⟩:=Heap.get?_push_of_some _ he
 unfold storeInOwnDict
 refine wpAny_bind (wpAny_pure ?_)
 show wpAny _ _ (instanceDict e true >>= _) _ _ _
 unfold instanceDict
 refine wpAny_bind (wpAny_bind (wpAny_loadPart he ?_))
 show wpAny _ _ (classData C >>= _) _ _ _
 refine wpAny_bind (cl.at ?_)
 rw [f6]
 show wpAny _ _ (alloc d0 >>= _) _ _ _
 refine wpAny_bind (wpAny_alloc' ?_)
 refine wpAny_bind (wpAny_update' he1 ?_)
 refine wpAny_pure (a:=some h.objs.size) ?_
 have gd:((h.push d0).update e fun o=> {cls:=o.cls,dict:=some h.objs.size,data:=o.data,slots:=o.slots}).get? h.objs.size=some d0:=
  (Heap.get?_update_ne _ _ _ _ es.symm).trans (Heap.get?_push_at rfl rfl)
 have ge:((h.push d0).update e fun o=> {cls:=o.cls,dict:=some h.objs.size,data:=o.data,slots:=o.slots}).get? e=some ⟨.ref C,some h.objs.size, .fields vs,sl⟩:=Heap.get?_update_self _ he1 rfl
 have kp:∀ b o,b≠e→h.get? b=some o→((h.push d0).update e fun o=> {cls:=o.cls,dict:=some h.objs.size,data:=o.data,slots:=o.slots}).get? b=some o:=fun b o hb q=>
  (Heap.get?_update_ne _ _ _ _ hb).trans (Heap.get?_push_of_some _ q)
 show wpAny _ _ (storeInDict h.objs.size (.str name tk) name v) _ _ ⟨(h.push d0).update e _,g,d,t,os⟩
 revert gd ge kp
 generalize ((h.push d0).update e fun o=> {cls:=o.cls,dict:=some h.objs.size,data:=o.data,slots:=o.slots})=h1
 intro gd ge kp
 have nd:h1.Ns h.objs.size (fun _=>none):=⟨_,#[],_,gd,rfl,fun e he=>absurd he (by simp),fun _=>rfl⟩
 unfold storeInDict newKeyGuard
 refine wpAny_bind (wpAny_pure (wpAny_bind (wpAny_nsSet1 (Heap.Ns1.of_empty nd) fun h' n1 same=> ?_)))
 obtain ⟨oD,eD,pD,oDh,dD,cD⟩:=n1.count (Within.cons name v Within.nil)
 refine wpAny_bind (wpAny_lookBehind oDh (by rw [dD];exact pastItsLine_dict (Nat.le_trans cD (by rw [List.length_cons,List.length_nil,sizeLine_eq];omega))) ?_)
 refine wpAny_pure (hq h' _ h.objs.size (fun b o hb q=>(same.2 b (Nat.ne_of_lt (Heap.lt_size q))).trans (kp b o hb q)) ((same.2 e es).trans ge) (Nat.le_refl _) n1)
theorem osa_exc {vs:Array Value} {sl:Array (Option Value)} {name:Str} {v:Value} {tk:Tok} {cd:ClassData} {n:Nat} {R:Result→Shared→Prop} (KX:K.In h) (he:h.get? e=some ⟨.ref C,none, .fields vs,sl⟩)
  (f2:findIn K (.ref C) name=some none) (f3:mroIn K C (.type "object")=some true) (f4:clsIn K C=some cd) (f5:overV n cd.mro=true) (f6:cd.hasDict=true)
  (hq:∀ h' tk' dx,(∀ b o,b≠e→h.get? b=some o→h'.get? b=some o)→h'.get? e=some ⟨.ref C,some dx, .fields vs,sl⟩→h.objs.size≤dx→h'.Ns1 dx (fun x=>if x=name then some v else none)→R (.ok (.ret .none)) ⟨h',g,d,tk',os⟩):
  codeAny (model prog w) A (.call (.builtin "object.__setattr__") ⟨[.ref e, .str name tk,v],[]⟩) R ⟨h,g,d,t,os⟩:=by
 have L0:Looks (model prog w) h (typeOf (.ref e)) (.ref C):=(Looks.ld he).andThen .now
 have L2:=looks_findIn (M:=model prog w) KX f2
 have L3:Looks (model prog w) h (isInstance (.ref e) (.type "object")) true:=L0.andThen (looks_mroIn KX f3)
 have L4:Looks (model prog w) h (mroOf (.ref C)) cd.mro:=(looks_clsIn KX f4).andThen .now
 have SF:=F.store_object
 refine codeAny_call_builtin SF.slot.plain SF.entry (@check_slot (model prog w) _ _ ⟨h,g,d,t,os⟩ "object.__setattr__" "object" "__setattr__" (.ref e) [.str name tk,v] [] _ SF.kind SF.split L3 (SF.args (.ref e) (.str name tk) v) ?_)
 rw [osa_eq,refuse_eq]
 refine wpAny_bind (wpAny_bind (L0.at (wpAny_bind (L4.at ?_))))
 rw [overV_pass _ f5]
 refine wpAny_pure (wpAny_bind (L0.at (wpAny_bind (L2.at (wpAny_bind (wpAny_pure (a:=(none:Option Value)) ?_))))))
 exact exc_dict KX he f4 f6 fun h' tk' dx a b c e=>hq h' tk' dx a b c e
theorem exc_store {vs:Array Value} {sl:Array (Option Value)} {name:Str} {v:Value} {cd:ClassData} {n:Nat} {Q:Unit→Shared→Prop} (KX:K.In h) (he:h.get? e=some ⟨.ref C,none, .fields vs,sl⟩)
  (f1:findIn K (.ref C) "__setattr__"=some (some (.builtin "object.__setattr__"))) (f2:findIn K (.ref C) name=some none) (f3:mroIn K C (.type "object")=some true)
  (f4:clsIn K C=some cd) (f5:overV n cd.mro=true) (f6:cd.hasDict=true)
  (hq:∀ h' tk' dx,(∀ b o,b≠e→h.get? b=some o→h'.get? b=some o)→h'.get? e=some ⟨.ref C,some dx, .fields vs,sl⟩→h.objs.size≤dx→h'.Ns1 dx (fun x=>if x=name then some v else none)→Q () ⟨h',g,d,tk',os⟩):
  wpAny (model prog w) A (setAttr (.ref e) name v) Q E ⟨h,g,d,t,os⟩:=by
 have L0:Looks (model prog w) h (typeOf (.ref e)) (.ref C):=(Looks.ld he).andThen .now
 have L1:=looks_findIn (M:=model prog w) KX f1
 unfold setAttr callSpecial? specialOf
 repeat (first|with_reducible refine wpAny_call ?_|lk)
 refine osa_exc KX he f2 f3 f4 f5 f6 fun h' tk' dx a b c e=> ?_
 exact wpAny_pure (wpAny_pure (hq h' tk' dx a b c e))
end
end PySem
namespace PySem
open Sem (wp)
open W
section
variable {prog:Program} {w:World} {A:Around} {E:Value→Shared→Prop} {h:Heap} {g:Array GenState} {d:Drawn} {t:Nat} {os:OsState}
variable {nm q:Str} {C N e:Addr} {bs bm bmB:List Value} {hdct:Bool} {sn:List Str} {sub:List Value} {ab:Bool} {col:Option Bool} {dd:Option Addr} {k0 k1 k2 k3 k5:Option Value} {B newId initId:String}
theorem exc_base_init (F:ExcBaseFacts B newId initId bmB) (T:OwnTail h bmB bm) (kl:h.get? C=some (excClassObj nm q C N bs bm hdct sn sub ab col dd k0 k1 k2 k3 k5 newId)) {t0:Addr} {sl:Array (Option Value)} {u:Value} {Q:Value→Shared→Prop}
  (he:h.get? e=some ⟨.ref C,none, .fields #[.ref t0, .none, .none, .none, .bool false, .none],sl⟩)
  (hq:∀ h' t1,(∀ b o,b≠e→h.get? b=some o→h'.get? b=some o)→h'.get? e=some ⟨.ref C,none, .fields #[.ref t1, .none, .none, .none, .bool false, .none],sl⟩→Q .none ⟨h',g,d,t,os⟩):
  wpAny (model prog w) A (call (.builtin initId) [.ref e,u]) Q E ⟨h,g,d,t,os⟩:=by
 refine wpAny_call (codeAny_call_builtin F.init.plain F.initEntry (wpAny_check_init_subT F T kl he rfl ?_))
 wp_walk
 have he1:(h.push {cls:= .type "tuple",data:= .seq #[u]}).get? e=some ⟨.ref C,none, .fields #[.ref t0, .none, .none, .none, .bool false, .none],sl⟩:=Heap.get?_push_of_some _ he
 refine hq _ h.objs.size (fun b o hb k=> ?_) ?_
 ·rw [Heap.get?_update_other _ _ (Ne.symm hb)]
  exact Heap.get?_push_of_some _ k
 ·rw [Heap.get?_update_self _ he1 rfl]
  rfl
end
end PySem
namespace L2
open PySem PySem.Spec PyProof.Rows
def ExcN (a C:Addr) (h:Heap):Prop:=∃ t0 sl,h.get? a=some ⟨.ref C,none, .fields #[.ref t0, .none, .none, .none, .bool false, .none],sl⟩
def ExcO (a C:Addr) (dx:Option Addr) (h:Heap):Prop:=∃ t0 sl,h.get? a=some ⟨.ref C,dx, .fields #[.ref t0, .none, .none, .none, .bool false, .none],sl⟩
theorem excN_ok {P:Program} {w:World} {H:Hp} {h:Heap} {a C:Addr} (x:ExcN a C h):ObjOk P w H h a (.ext (ExcN a C)):=by
 obtain ⟨t0,sl,e⟩:=x
 exact ⟨⟨t0,sl,e⟩,⟨_,e⟩,fun h1 h2 ⟨t,z,q⟩ k=>⟨t,z,k _ q⟩⟩
theorem excO_ok {P:Program} {w:World} {H:Hp} {h:Heap} {a C:Addr} {dx:Option Addr} (x:ExcO a C dx h):ObjOk P w H h a (.ext (ExcO a C dx)):=by
 obtain ⟨t0,sl,e⟩:=x
 exact ⟨⟨t0,sl,e⟩,⟨_,e⟩,fun h1 h2 ⟨t,z,q⟩ k=>⟨t,z,k _ q⟩⟩
theorem inv_note {X:Cx} {pins:List (Addr×Obj)} {σ:St} {H H':Hp} {s s':Shared} {a:Addr} {u:HO} (I:Inv X pins σ H s) (I':Inv X pins σ H' s') (hex:X.ex= []) (new:s.heap.get? a=none) (nh:H' a=none) (x:ObjOk X.prog X.w (upd H' a u) s'.heap a u):Inv X pins σ (upd H' a u) s':=by
 have ne:∀ b o,s.heap.get? b=some o→b≠a:=fun b o e z=>by rw [z,new] at e;cases e
 have ne0:∀ b o,X.s₀.heap.get? b=some o→b≠a:=fun b o e=>by
  obtain ⟨o',e'⟩:=I.base.there b o e (by rw [hex];simp)
  exact ne b o' e'
 have up:∀ b o,H' b=some o→upd H' a u b=some o:=fun b o e=>by rw [upd_ne (ne_of_none e nh)];exact e
 refine ⟨I'.ok,I'.os,I'.bare,⟨I'.base.keep,I'.base.slot,fun b o e n hx=> ?_,I'.base.there,fun b xs e=>up _ _ (I'.base.tups b xs e),fun b o v e=>up _ _ (I'.base.frzs b o v e),fun b ps e=> ?_⟩,I'.loc,I'.cell,?_,fun y c e=> ?_,fun p hp=> ?_,fun b v e=> ?_,I'.len⟩
 ·rw [upd_ne (ne0 b o e)];exact I'.base.free b o e n hx
 ·obtain ⟨m,e1⟩:=I'.base.tbls b ps e
  exact ⟨m,up _ _ e1⟩
 ·obtain ⟨m,⟨o,_,_,ho,_⟩,_⟩:=I.loc
  rw [upd_ne (ne _ o ho)];exact I'.free
 ·obtain ⟨v,o,ho,_⟩:=I.cell y c e
  rw [upd_ne (ne c o ho)];exact I'.freeC y c e
 ·obtain ⟨e,n,r⟩:=I'.pin p hp
  refine ⟨e,?_,r⟩
  rw [upd_ne (ne p.1 _ (I.pin p hp).1)];exact n
 ·by_cases hb:b=a
  ·subst hb
   rw [upd_same] at e
   cases e
   exact x
  ·rw [upd_ne hb] at e
   exact (I'.hok b v e).stay (fun _ _ _ q=>q) (fun c q=>up _ _ q) fun c xs q=>up _ _ q
theorem upd_self {H:Hp} {a:Addr} {o:HO} (e:H a=some o):upd H a o=H:=by
 funext b
 unfold upd
 split
 ·rename_i z;rw [z,e]
 ·rfl
structure XInit (K:PySem.W.Frag) (C S f:Addr):Prop where
 obj:∃ nm q N bs bm hdct sn sub ab col dd k0 k1 k2 k3 k5,K.lookup C=some (excClassObj nm q C N bs bm hdct sn sub ab col dd k0 k1 k2 k3 k5 "ValueError.__new__")∧PySem.W.nsOkIn K N=true∧
  PySem.W.nsIn K N "__init__"=some (some (.ref f))∧PySem.W.tailIn K vTail bm=true
 ini:PySem.W.typeIn K (.ref f)=some (.type "function")
 kpC:PySem.W.keepIn K (.ref C)=true
 sa:PySem.W.findIn K (.ref C) "__setattr__"=some (some (.builtin "object.__setattr__"))
 ob:PySem.W.mroIn K C (.type "object")=some true
 cl:∃ cd n,PySem.W.clsIn K C=some cd∧overV n cd.mro=true∧cd.hasDict=true
 bga:PySem.W.specialIn K (.ref S) "__getattribute__"=some (some (.builtin "type.__getattribute__"))
 brd:PySem.W.readsIn K S (.type "type")=true
 bfi:PySem.W.findCls K (.ref S) (.type "type") "__init__"=some (.val (.builtin "ValueError.__init__"))
section
variable {X:Cx} {pos p apos p2:Pos} {a b o e:Expr} {es:List Expr} {ta tb to:TE} {t:TA} {C S f:Addr}
theorem pe_binit {x:Str} {pl:Sem Bool} (Z:XInit X.K C S f) (hg:Gl X x) (hm:X.mg x=some (.ref S)) (ha:PA X (e::es) t) (hdb:(x==("__debug__":Str))=false:=by decide)
  (hst:starEach (e::es) X.env=(false,eval e X.env)::starEach es X.env:=by rfl) (hpl:(backTo pos (starEach es X.env)).any (·.1)=false:=by rfl) (hkw:backToKw pos (keywordEach [] X.env)= []:=by rfl)
  (ht:eval (.Call (.Attribute (.Name x p) "__init__" apos) (e::es) [] pos) X.env=(do
   let ov ←eval (.Name x p) X.env
   standAt apos.atName
   let (f,first) ←holding [ov] (getMethod ov "__init__" pl)
   callWith pos f first (backTo pos (starEach (e::es) X.env)) (backToKw pos (keywordEach [] X.env))):=by rfl):
  PE X (.Call (.Attribute (.Name x p) "__init__" apos) (e::es) [] pos) (fun σ H Q=>t σ H fun vs H1=>∃ a z,vs= [.ref a, .str z]∧H1 a=some (.ext (ExcN a C))∧Q .non H1):=by
 intro pins s σ H Q I h
 refine PySem.W.methodCall_KW (pl:=pl) (ld_glob I hg hm ?_ hdb) ht
 refine PySem.W.method_cls I.kIn Z.bga (PySem.W.cls_value I.kIn Z.brd Z.bfi rfl ?_)
 rw [hkw]
 have hA:=ha pos pins {s with toks:=s.toks+1} σ H _ (I.tok _) h
 rw [hst] at hA ⊢
 refine Calls.callWith_builtin (by show (false||(backTo pos (starEach es X.env)).any (·.1))=false;rw [hpl]<;>rfl) (Calls.evalArgs_plain ?_)
 refine thn hA fun us s2 ⟨vs,H2,I2,r2,a,z,ev,hH,q⟩=> ?_
 subst ev
 obtain ⟨u1,u2,rfl,ra,rz⟩:=Vals.two r2
 obtain rfl:u1= .ref a:=ra
 obtain ⟨nm,qn,N,bs,bm,hdct,sn,sub,ab,col,dd,k0,k1,k2,k3,k5,lk,_,_,tl⟩:=Z.obj
 obtain ⟨⟨t0,sl,he⟩,_,_⟩:=I2.hok a _ hH
 obtain ⟨hp,g,d,tk,os⟩:=s2
 refine exc_base_init F.excBase_ValueError (PySem.W.tail_of_in I2.kIn tl) (I2.kIn _ _ lk) he fun h' t1 k ge=> ?_
 have I3:=I2.write (h':=h') (t':=tk) (x:=a) (e:=a) (o:= .ext (ExcN a C)) (by rw [hH];trivial) (.inl rfl) k ⟨_,ge⟩ (excN_ok ⟨t1,sl,ge⟩)
 rw [upd_self hH] at I3
 exact ⟨.non,H2,I3,rfl,q⟩
theorem pg_exc {attr:Str} (hex:X.ex= []) (Z:XInit X.K C S f) (hna:PySem.W.findIn X.K (.ref C) attr=some none) (ho:PE X o to):
  PG X (.Attribute o attr apos) (fun v σ H Q=>to σ H fun x H1=>∃ a,x= .ref a∧H1 a=some (.ext (ExcN a C))∧∀ d,H1 d=none→X.s₀.heap.get? d=none→Q σ (upd (upd H1 a (.ext (ExcO a C (some d)))) d (.xd [(attr,v)]))):=by
 intro pins s σ H v u Q I r h
 rw [arm_assign_Attribute]
 refine wpAny_bind (wpAny_holding (thn (ho pins s σ H _ I h) fun ov s1 ⟨x,H1,I1,r1,a,ex,hH,q⟩=> ?_))
 subst ex
 obtain rfl:ov= .ref a:=r1
 obtain ⟨⟨t0,sl,he⟩,_,_⟩:=I1.hok a _ hH
 obtain ⟨cd,n,c1,c2,c3⟩:=Z.cl
 obtain ⟨hp,g,d,tk,os⟩:=s1
 refine wpAny_bind (wpAny_standAt (wpAny_bind (wpAny_holding (exc_store I1.kIn he Z.sa hna Z.ob c1 c2 c3 fun h' tk' dx k ge le ns=> ?_))))
 have I3:=I1.write (h':=h') (t':=tk') (x:=a) (e:=a) (o:= .ext (ExcO a C (some dx))) (by rw [hH];trivial) (.inl rfl) k ⟨_,ge⟩ (excO_ok ⟨t0,sl,ge⟩)
 have hd1:H1 dx=none:=I1.hok.fresh le
 have hdn:hp.get? dx=none:=Heap.get?_none_of_le le
 have hd0:X.s₀.heap.get? dx=none:=by
  cases z:X.s₀.heap.get? dx with
  |none=>rfl
  |some o=>
   obtain ⟨o',e'⟩:=I1.base.there dx o z (by rw [hex];simp)
   rw [show _=hp.get? dx from rfl] at e'
   rw [hdn] at e';cases e'
 have hda:dx≠a:=fun z=>by rw [z,hH] at hd1;cases hd1
 have I4:=inv_note (u:= .xd [(attr,v)]) I1 I3 hex hdn (by rw [upd_ne hda];exact hd1) ⟨_,ns,fun y=>by
  by_cases hy:y=attr
  ·subst hy
   simp only [List.lookup_cons,beq_self_eq_true,if_true]
   exact r
  ·have:(y==attr)=false:=by simp [hy]
   simp only [List.lookup_cons,this,List.lookup_nil,if_neg hy]
   trivial⟩
 exact wpAny_release ⟨σ,_,I4,q dx hd1 hd0⟩
end
end L2
namespace L3
open PySem PySem.Spec PyProof.Rows L2 SeqAt
def spE (C:Addr) (attr:Str):Sp:=fun vs H Q _=>∃ a i,vs= [.ref a, .int i]∧i.natAbs.log2<1920∧(toString i:Str).length≤1000∧H a=some (.ext (ExcN a C))∧∀ d,H d=none→Q .non (upd (upd H a (.ext (ExcO a C (some d)))) d (.xd [(attr, .int i)]))
structure XInE (X:Cx) (C:Addr) (attr:Str) (sts:List Stmt):Prop where
 h:PSs X sts (fun D σ H=>∃ a i,σ[0]? =some (some (.ref a))∧σ[1]? =some (some (.int i))∧i.natAbs.log2<1920∧(toString i:Str).length≤1000∧H a=some (.ext (ExcN a C))∧∀ d,H d=none→D.nx σ (upd (upd H a (.ext (ExcO a C (some d)))) d (.xd [(attr, .int i)])))
section
variable {X:Cx} {C S f:Addr} {xb self x attr c0:Str} {p1 p2 p3 p4 p5 p6 p7 p8 p9 q1 q2 q3 q4:Pos} {j:Nat}
end
end L3
namespace L3
open PySem PySem.Spec PyProof.Rows L2 SeqAt
def del (H:Hp) (a:Addr):Hp:=fun b=>if b=a then none else H b
theorem del_ne {H:Hp} {a b:Addr} (h:b≠a):del H a b=H b:=by unfold del;rw [if_neg h]
theorem del_same {H:Hp} {a:Addr}:del H a a=none:=by unfold del;rw [if_pos rfl]
theorem del_some {H:Hp} {a b:Addr} {o:HO} (h:del H a b=some o):b≠a∧H b=some o:=by
 unfold del at h
 split at h
 ·cases h
 ·rename_i z;exact ⟨z,h⟩
section
variable {X:Cx} {pins:List (Addr×Obj)} {σ:L2.St} {H:Hp} {s:Shared} {a C:Addr} {dx:Option Addr} {M:Model} {Ex:Value→Shared→Prop}
theorem fly_own {E:XK} {Q:Unit→Shared→Prop} (I:Inv X pins σ H s) (hex:X.ex= []) (hst:X.stack=X.env::X.outer) (hfr:X.env.frame=some X.env.locals) (hH:H a=some (.ext (ExcO a C dx))) (hnew:X.s₀.heap.get? a=none)
  (hE:E (.ref C) (dx,true) (del H a)) (hQ:∀ s'',CXD X.prog X.w X.outer X.H₀ X.s₀ E (.ref a) s''→Q () s''):wpAny M X.A (leaving X.env (.ref a)) Q Ex s:=by
 have es:=frs_stack hst hfr
 have noex:∀ b,b∉X.ex:=fun b=>by rw [hex];simp
 obtain ⟨⟨t0,sl,he⟩,_,_⟩:=I.hok a _ hH
 have nst:∀ b u,H b=some u→b∉frs X.stack:=fun b u q z=>by rw [I.stkFree b z] at q;cases q
 have hin:∀ env∈X.env::X.outer,∀ b,env.frame=some b→b∈a::frs X.stack:=fun env q b hb=>by
  rw [hst];exact List.mem_cons_of_mem _ (List.mem_filterMap.mpr ⟨env,q,hb⟩)
 have ff:s.heap.FunFrames (PySem.W.hideAll s.heap (a::frs X.stack)) (X.env::X.outer):=PySem.W.funFrames_hide (by rw [←hst];exact I.stack) hin
 have old:∀ b o,X.s₀.heap.get? b=some o→b≠a:=fun b o q z=>by rw [z,hnew] at q;cases q
 have nl:∀ b,b∉frs X.outer→((del H a b).isSome=true∨(X.s₀.heap.get? b).isSome=true)→b∉a::frs X.stack:=fun b hb h z=>by
  rcases List.mem_cons.mp z with z|z
  ·rw [z,del_same,hnew] at h
   rcases h with h|h<;>cases h
  ·rw [es] at z
   rcases List.mem_cons.mp z with z|z
   ·rw [z] at h
    rcases h with h|h
    ·obtain ⟨o,q⟩:=Option.isSome_iff_exists.mp h
     have:=(del_some q).2
     rw [I.free] at this;cases this
    ·obtain ⟨o,q⟩:=Option.isSome_iff_exists.mp h
     exact absurd (Nat.lt_of_lt_of_le (Heap.lt_size q) I.ok.above) (Nat.lt_irrefl _)
   ·exact hb z
 have inB:∀ b o,s.heap.get? b=some o→b∉a::frs X.stack→(PySem.W.hideAll s.heap (a::frs X.stack)).get? b=some o:=fun b o q hb=>PySem.W.hideAll_get _ q hb
 have gone:(PySem.W.hideAll s.heap (a::frs X.stack)).get? a=none:=PySem.W.hideAll_none _ (List.mem_cons_self ..)
 refine (kd_leave X.env (.ref a)).thn (Q:=fun _ s''=>∃ h',s''= {s with heap:=h'}∧Heap.LeftW (PySem.W.hideAll s.heap (a::frs X.stack)) (X.env::X.outer) a (.ref C) (.ref t0) s.heap h') (wpAny_leaving_firstW (base:=PySem.W.hideAll s.heap (a::frs X.stack)) (by rw [←hst];exact I.ok.frames) ff hfr he (fun b o q=>PySem.W.of_hideAll _ q) gone rfl rfl rfl fun h' hL=>⟨h',rfl,hL⟩) fun _ s'' ⟨h',e'',hL⟩ dk=> ?_
 subst e''
 obtain ⟨od',ed',dd'⟩:=dk a _ he
 obtain ⟨k1,⟨_,_,k2⟩,k3,k4⟩:=hL
 have slots:∀ {b:Addr} {o:Obj},b∈frs X.outer→s.heap.get? b=some o→∃ sl,h'.get? b=some {o with slots:=sl}:=fun {b o} hb q=>by
  obtain ⟨_,o',e',nf⟩:=I.funs.mem hb
  rw [q] at e';cases e'
  exact k4 b o q nf
 refine hQ _ ⟨a, .ref C,(dx,true),del H a,rfl,I.os,I.bare,⟨⟨fun b o e n hb hx=> ?_,fun b o e n hb hx=> ?_,fun b o e n hx=> ?_,fun b o e hx=> ?_,fun b xs e=> ?_,fun b o u e=> ?_,fun b ps e=> ?_⟩,fun b u e=> ?_,fun b hb=> ?_,hnew,del_same,⟨od',ed',DcOk.to (dx:=(dx,true)) ⟨rfl,fun _=>⟨_,rfl,rfl⟩⟩ dd'⟩,_,_,⟨k1,gone,k2,k3⟩,fun b hb h=> ?_⟩,hE⟩
 ·exact k1 b o (inB b o (I.base.keep b o e n hb (noex b)) (nl b hb (.inr (by rw [e];rfl))))
 ·obtain ⟨z1,e1⟩:=I.base.slot b o e n hb (noex b)
  obtain ⟨z2,e2⟩:=slots hb e1
  exact ⟨z2,e2⟩
 ·rw [del_ne (old b o e)];exact I.base.free b o e n (noex b)
 ·obtain ⟨o',e1⟩:=I.base.there b o e (noex b)
  by_cases hb:b∈frs X.outer
  ·obtain ⟨z,e2⟩:=slots hb e1
   exact ⟨_,e2⟩
  ·exact ⟨o',k1 b o' (inB b o' e1 (nl b hb (.inr (by rw [e];rfl))))⟩
 ·have q:=I.base.tups b xs e
  rw [del_ne (fun z=>by rw [z,hH] at q;cases q)];exact q
 ·have q:=I.base.frzs b o u e
  rw [del_ne (fun z=>by rw [z,hH] at q;cases q)];exact q
 ·obtain ⟨more,q⟩:=I.base.tbls b ps e
  exact ⟨more,by rw [del_ne (fun z=>by rw [z,hH] at q;cases q)];exact q⟩
 ·obtain ⟨ne,q⟩:=del_some e
  have nin:∀ c v,c≠a→H c=some v→c∉a::frs X.stack:=fun c v hc hq z=>by
   rcases List.mem_cons.mp z with z|z
   ·exact hc z
   ·exact nst c v hq z
  refine (I.hok b u q).stay (fun c v hc q2=> ?_) (fun c z=> ?_) fun c xs z=> ?_
  ·rcases hc with rfl|hc
   ·exact k1 c v (inB c v q2 (nin c u ne q))
   ·exact k1 c v (inB c v q2 (nin c _ (fun z=>by rw [z,hH] at hc;cases hc) hc))
  ·rw [del_ne (fun y=>by rw [y,hH] at z;cases z)];exact z
  ·rw [del_ne (fun y=>by rw [y,hH] at z;cases z)];exact z
 ·by_cases hba:b=a
  ·rw [hba];exact del_same
  ·rw [del_ne hba];exact I.stkFree b (by rw [es];exact List.mem_cons_of_mem _ hb)
 ·have hb':=nl b hb h
  have:∃ o,s.heap.get? b=some o:=by
   rcases h with h|h
   ·obtain ⟨u,q⟩:=Option.isSome_iff_exists.mp h
    exact obj_get (I.hok b u (del_some q).2)
   ·obtain ⟨o,q⟩:=Option.isSome_iff_exists.mp h
    exact I.base.there b o q (noex b)
  obtain ⟨o,q⟩:=this
  rw [inB b o q hb'];rfl
end
end L3
namespace PySem
open Sem (wp)
section
variable {M:Model} {A:Around} {E:Value→Shared→Prop} {s:Shared} {env:Env}
variable {nm q:Str} {C N:Addr} {bs bm:List Value} {hdct:Bool} {sn:List Str} {sub:List Value} {ab:Bool} {col:Option Bool} {dd:Option Addr} {k0 k1 k2 k3 k5:Option Value} {newId:String}
theorem raise_made {x:Sem Value} {Q:Flow→Shared→Prop} (hbase:bm.contains (.type "BaseException")=true) (hh:A.handled=none)
  (h:wpAny M A x (fun v s1=>∃ e dx t0 sl,v= .ref e∧s1.heap.get? C=some (excClassObj nm q C N bs bm hdct sn sub ab col dd k0 k1 k2 k3 k5 newId)∧
   s1.heap.get? e=some ⟨.ref C,dx, .fields #[.ref t0, .none, .none, .none, .bool false, .none],sl⟩∧E (.ref e) s1) E s):
  wpAny M A (raiseStmt env (some x) none) Q E s:=by
 have own:(Value.ref C::bm).contains (.type "BaseException")=true:=by rw [List.contains_cons,hbase,Bool.or_true]
 unfold raiseStmt
 refine wpAny_bind (wpAny_mono h (fun v s1 z=> ?_) fun _ _ y=>y)
 obtain ⟨e,dx,t0,sl,rfl,kl,at1,last⟩:=z
 obtain ⟨hp,g,d,tk,os⟩:=s1
 repeat (first|with_reducible refine wpAny_loadPart_at at1 ?_|with_reducible refine wpAny_loadPart_at kl ?_|(with_reducible refine wpAny_isSubtype_exc kl ?_;rw [own])|wp_step)
 exact wpAny_raiseNew_none hh last
end
end PySem
namespace L2
open PySem PySem.Spec PyProof.Rows
theorem ns_has {K:PySem.W.Frag} {h:Heap} {N:Addr} {mN:Str→Option Value} {n:Str} {v:Value} (KX:K.In h) (G:h.Ns N mN) (e:PySem.W.nsIn K N n=some (some v)):mN n=some v:=by
 obtain ⟨o,es,ep,at1,dt,_,fnd⟩:=G
 unfold PySem.W.nsIn at e
 split at e
 ·rename_i c d es2 n2 sl lk
  have q:=KX _ _ lk
  rw [at1] at q
  cases q
  cases dt
  rw [←fnd]
  unfold nsFind findBy
  rw [←Array.find?_toList]
  split at e
  ·rename_i en he
   rw [he]
   cases e
   rfl
  ·split at e<;>cases e
 ·cases e
section
variable {X:Cx} {C S f:Addr} {fd:FuncData} {ps:List Str} {sp:Sp} {k:Nat} {x:Str} {p pos:Pos} {e:Expr} {es:List Expr} {t:TA}
end
end L2
namespace L3
open PySem PySem.Spec PyProof.Rows L2 SeqAt
theorem small_i {i:Int} (h0:0≤i) (h1:i<1000):i.natAbs.log2<1920∧(toString i:Str).length≤1000:=by
 obtain ⟨n,rfl⟩:∃ n:Nat,i=n:=⟨i.toNat,by omega⟩
 have h:∀ n:Nat,n<1000→(n:Int).natAbs.log2<1920∧(toString (n:Int):Str).length≤1000:=by decide +kernel
 exact h n (by omega)
structure FnE (P:Program) (w:World) (K:PySem.W.Frag) (mg:Str→Option Value) (base:Heap) (k:Nat) (c attr:Str):Prop where
 ex:∃ j C S f fd ps,j+1≤k∧FnOk P w K mg base CX0 j f fd ps (spE C attr)∧XInit K C S f∧mg c=some (.ref C)∧PySem.W.nsIn K mainGlobals c=some (some (.ref C))∧Binds K fd ps []
theorem FnE.mono {P:Program} {w:World} {K:PySem.W.Frag} {mg:Str→Option Value} {base:Heap} {j k:Nat} {c attr:Str} (F:FnE P w K mg base j c attr) (h:j≤k):FnE P w K mg base k c attr:=by
 obtain ⟨i,C,S,f,fd,ps,a,b⟩:=F.ex
 exact ⟨i,C,S,f,fd,ps,Nat.le_trans a h,b⟩
def RaiseO (X:Cx) (xw:XW):Prop:=∀ (pins:List (Addr×Obj)) (σ:L2.St) (H:Hp) (s:Shared) (a C:Addr) (dx:Option Addr) (c:Str) (fs:List D),Inv X pins σ H s→H a=some (.ext (ExcO a C dx))→X.s₀.heap.get? a=none→
 PySem.W.nsIn X.K mainGlobals c=some (some (.ref C))→ExF (del H a) (dx,true) fs→xw c fs (del H a)→X.xe (.ref a) s
theorem raise_own {P:Program} {w:World} {K:PySem.W.Frag} {mg:Str→Option Value} {base:Heap} {N:List Str} {qual:Str} {scope:Scope} {f:Addr} {cd:Value} {A:Around} {outer:List Env} {s₀:Shared} {H₀:Hp} {E:XK}:
  RaiseO (cxOf (CXD P w) P w K mg base N qual scope f cd A outer s₀ H₀ E) (xwX K E):=by
 intro pins σ H s a C dx c fs I hH hnew hn xf q
 exact fly_own I rfl rfl rfl hH hnew (q (.ref C) (dx,true) hn xf) fun s'' z=>z
theorem del_upd2 {H:Hp} {a d:Addr} {o u:HO} (h:H a=none) (n:d≠a):del (upd (upd H a o) d u) a=upd H d u:=by
 funext b
 unfold del upd
 by_cases h1:b=a
 ·rw [if_pos h1,h1,if_neg (Ne.symm n),h]
 ·rw [if_neg h1]
  by_cases h2:b=d
  ·rw [if_pos h2,if_pos h2]
  ·rw [if_neg h2,if_neg h2,if_neg h1]
section
variable {X:Cx} {xw:XW} {C S f:Addr} {fd:FuncData} {ps:List Str} {k:Nat} {x c attr:Str} {p pos np cpos:Pos} {e a:Expr} {es:List Expr} {t:TA} {fs:DSt→Res (List D)}
end
end L3
namespace L3
open PySem PySem.Spec PyProof.Rows L2 SeqAt
section
variable {X:Cx} {xw:XW} {tg it:Expr} {f:DSt→Res (List D)}
theorem PI.nox {t:TI} (h:PI X.nox tg it t):PI X tg it t:=fun pins s σ H R I hw=>
 wpAny_mono (h pins s σ H R (I.wish _) hw) (fun v s1 q=>wpAny_mono q (fun _ _ ⟨a,fp,tn,J,H',e,I',r⟩=>⟨a,fp,tn,J,H',e,I'.unwish,r⟩) fun _ _ z=>False.elim z) fun _ _ z=>False.elim z
theorem i_nox (h:XI X.nox xwF tg it f):XI X xw tg it (noxA f):=⟨PI.weak (PI.nox h.h) fun σ H R ⟨W₀,H₀,W,δ,st,q⟩=>⟨W₀,H₀,W,δ,st,by
 dsimp only [noxA] at q
 cases hq:f δ with
 |ok d=>rw [hq] at q;exact q
 |ex c fs=>rw [hq] at q;exact q.elim
 |stuck=>rw [hq] at q;exact q.elim⟩⟩
end
end L3
namespace L3
open PySem PySem.Spec PySem.Calls PyProof.Rows PySem.W Builtin Builtin.ObjectAttr Builtin.Getset_descriptor
section
variable {prog:Program} {w:World} {A:Around} {E:Value→Shared→Prop} {h:Heap} {g:Array GenState} {d:Drawn} {t:Nat} {os:OsState} {K:Frag} {a C:Addr} {o:Obj} {od:Option Obj} {name:Str} {v:Value}
theorem xf_entry {tk:Tok} {Q:Fin→Shared→Prop} (X:K.In h) (J:InstAt h a o C od) (hf:findObj K C od name=some (.value v)) (hq:Q (.done (.ret v)) ⟨h,g,d,t,os⟩):
  wpAny (model prog w) A (Builtin.«object.__getattribute__» ⟨[.ref a, .str name tk],[]⟩) Q E ⟨h,g,d,t,os⟩:=by
 have L0:=J.type (M:=model prog w)
 have L1:=looks_find (M:=model prog w) X J hf
 unfold Builtin.«object.__getattribute__»
 repeat (first|assumption|refine wpAny_bind (L0.at ?_)|refine wpAny_bind (L1.at ?_)|wp_step)
theorem xf_call {tk:Tok} {R:Result→Shared→Prop} (X:K.In h) (J:InstAt h a o C od) (z:ExcK K C) (hf:findObj K C od name=some (.value v)) (hq:R (.ok (.ret v)) ⟨h,g,d,t,os⟩):
  codeAny (model prog w) A (.call (.builtin "BaseException.__getattribute__") ⟨[.ref a, .str name tk],[]⟩) R ⟨h,g,d,t,os⟩:=by
 have L0:=J.type (M:=model prog w)
 have L1:=looks_mroIn (M:=model prog w) X z.be
 have hk:builtinKind "BaseException.__getattribute__"=some .slot:=by decide +kernel
 have hsplit:splitId "BaseException.__getattribute__"=some ("BaseException","__getattribute__"):=by decide +kernel
 have ha:=F.args_bexc_ga (.ref a) (.str name tk)
 have hp:plainId "BaseException.__getattribute__"=true:=by decide +kernel
 refine codeAny_call_builtin hp F.entry_bexc_ga ?_
 simp only [checkBuiltinCall,hk,hsplit]
 refine wpAny_bind ((L0.andThen L1).at ?_)
 simp only [Bool.not_true,Bool.false_eq_true,if_false]
 repeat (first|assumption|exact xf_entry X J hf hq|wp_step)
theorem xf_by {tk:Tok} {fill expr:Bool} {Q:Value→Shared→Prop} (X:K.In h) (J:InstAt h a o C od) (z:ExcK K C) (hf:findObj K C od name=some (.value v)) (hv:handedIn v=true) (hq:Q v ⟨h,g,d,t,os⟩):
  wpAny (model prog w) A (getAttrBy (.ref a) (.str name tk) fill expr) Q E ⟨h,g,d,t,os⟩:=by
 have L0:=J.type (M:=model prog w)
 have L1:=looks_findIn (M:=model prog w) X z.ga
 have L2:=looks_findIn (M:=model prog w) X z.gt
 have f3:bindSpecial (.builtin "BaseException.__getattribute__") (.ref a)=pure (.builtin "BaseException.__getattribute__",[.ref a]):=F.excAttr_ValueError.ga.bind (.ref a)
 have hx0:(expr&&onTheHeap (Value.builtin "BaseException.__getattribute__"))=false:=by cases expr<;>rfl
 have hx2:(Value.builtin "BaseException.__getattribute__"==Value.builtin "object.__getattribute__")=false:=by decide +kernel
 have hx1:(onTheHeap (Value.ref C)&&Value.builtin "BaseException.__getattribute__"==Value.builtin "object.__getattribute__")=false:=by rw [hx2];rfl
 have ho:=handedOut_of hv
 repeat (any_goals (first|assumption|refine wpAny_bind (L0.at ?_)|refine wpAny_bind (L1.at ?_)|refine wpAny_bind (L2.at ?_)|wp_step))
 refine xf_call X J z hf ?_
 repeat (any_goals (first|assumption|(rw [ho];exact wpAny_pure hq)|wp_step))
theorem xf_attr {expr:Bool} {Q:Value→Shared→Prop} (X:K.In h) (J:InstAt h a o C od) (z:ExcK K C) (hf:findObj K C od name=some (.value v)) (hv:handedIn v=true) (hq:Q v ⟨h,g,d,t+1,os⟩):
  wpAny (model prog w) A (getAttr (.ref a) name expr) Q E ⟨h,g,d,t,os⟩:=by
 unfold getAttr
 repeat (any_goals (first|assumption|with_reducible apply xf_by X J z hf hv|wp_step))
end
end L3
namespace L3
open PySem PySem.Spec PyProof.Rows L2 SeqAt
structure FldX (K:PySem.W.Frag) (c attr:Str):Prop where
 ex:∃ C,PySem.W.nsIn K mainGlobals c=some (some (.ref C))∧ExcK K C∧PySem.W.hasDictIn K C=true∧PySem.W.findIn K (.ref C) attr=some none
def fldAt (f:Str):List D→List D→Option D
 | .str n::ns,x::vs=>if f=n then some x else fldAt f ns vs
 |_,_=>none
def exfR (cs:List Str) (f:Str):D→Res D
 | .exc c (.tup ns::vs)=>if c∈cs then (match fldAt f ns vs with|some x=> .ok x|none=> .stuck) else .stuck
 | .exc c (.non:: .tup ns::vs)=>if c∈cs then (match fldAt f ns vs with|some x=> .ok x|none=> .stuck) else .stuck
 |_=> .stuck
theorem scl_has {K:PySem.W.Frag} {W:WS} {H:Hp} {x:D} {v:V} (h:sclV x=some v):Has K W H x v:=by
 cases x with
 |non=>cases h;rw [Has]
 |bl b=>cases h;rw [Has]
 |int i=>cases h;rw [Has]
 |str z=>cases h;rw [Has]
 |_=>cases h
theorem scl_hasL {K:PySem.W.Frag} {W:WS} {H:Hp}:∀ {ds:List D} {xs:List V},ds.map sclV=xs.map some→HasL K W H ds xs
 | [],[],_=>by rw [HasL]
 |d::ds,x::xs,h=>by
  rw [List.map_cons,List.map_cons] at h
  injection h with h1 h2
  rw [HasL]
  exact ⟨x,xs,rfl,scl_has h1,scl_hasL h2⟩
 | [],_::_,h=>by simp at h
 |_::_,[],h=>by simp at h
theorem ExV.has {K:PySem.W.Frag} {W:WS} {H:Hp} {x:D} {v:V} (h:ExV H x v):Has K W H x v:=by
 rcases h with h|⟨ds,a,o,xs,rfl,rfl,e,q⟩
 ·exact scl_has h
 ·rw [Has]
  exact ⟨a,xs,rfl, .inr (.inl ⟨o,e⟩),scl_hasL q⟩
theorem fld_look {H:Hp} {f:Str} {x:D}:∀ {kvs:List (Str×V)} {vs:List D},ExVs H vs (kvs.map (·.2))→fldAt f (kvs.map fun p=>D.str p.1) vs=some x→∃ v,kvs.lookup f=some v∧ExV H x v
 | [],[],_,e=>by cases e
 |p::kvs,y::vs,⟨h,t⟩,e=>by
  have e:(if f=p.1 then some y else fldAt f (kvs.map fun p=>D.str p.1) vs)=some x:=e
  split at e
  ·rename_i q
   cases e
   exact ⟨p.2,by obtain ⟨n,v⟩:=p;simp only at q;subst q;simp [List.lookup_cons],h⟩
  ·rename_i q
   obtain ⟨v,h1,h2⟩:=fld_look t e
   refine ⟨v,?_,h2⟩
   obtain ⟨n,u⟩:=p
   rw [List.lookup_cons,show (f==n)=false from by simpa using q]
   exact h1
 | [],_::_,h,_=>h.elim
 |_::_,[],h,_=>h.elim
section
variable {X:Cx} {xw:XW} {e:Expr} {f:DSt→Res D} {pos:Pos} {attr:Str} {ta:TE}
theorem pe_exf (he:PE X e ta) (hb:attributeBase e attr X.env (eval e X.env)=eval e X.env):PE X (.Attribute e attr pos) (fun σ H Q=>ta σ H fun x H1=>∃ a C dx z kvs v,x= .ref a∧H1 a=some (.ext (ExcAt a (.ref C) (some dx,z)))∧H1 dx=some (.xd kvs)∧
  ExcK X.K C∧PySem.W.hasDictIn X.K C=true∧PySem.W.findIn X.K (.ref C) attr=some none∧kvs.lookup attr=some v∧Q v H1):=by
 intro pins s σ H Q I h
 refine attr_of hb (thn (he pins s σ H _ I h) fun u s1 ⟨x,H1,I1,rx,a,C,dx,zz,kvs,v,ex,ea,ed,z,hd,na,lk,q⟩=> ?_)
 subst ex
 obtain rfl:u=Value.ref a:=rx
 obtain ⟨⟨o,vs,ho,hc,hdx,hdt,_⟩,_⟩:=I1.hok a _ ea
 obtain ⟨mA,ns,r⟩:=I1.hok dx _ ed
 obtain ⟨od,hod,hl⟩:=lookIn_ns ns
 obtain ⟨u,hu,ru⟩:=RelO.some_of (v:=v) (o:=mA attr) (by rw [←lk];exact r attr)
 obtain ⟨hp,g,d,tk,os⟩:=s1
 have J:PySem.W.InstAt hp a o C (some od):=⟨ho,hc,by unfold PySem.W.notCls;rw [hdt],by rw [hdx];exact hod⟩
 exact xf_attr I1.kIn J z (PySem.W.findObj_own hd na rfl (by rw [hl,hu])) (handed_of ru) ⟨v,H1,I1.tok _,ru,q⟩
theorem x_exf {cs:List Str} (T:∀ c∈cs,FldX X.K c attr) (he:XE X xw e f) (hb:attributeBase e attr X.env (eval e X.env)=eval e X.env:=by rfl):XE X xw (.Attribute e attr pos) (b1 (exfR cs attr) f):=
 ⟨PE.weak (pe_exf he.h hb) fun σ H Q ⟨W₀,H₀,W,δ,st,q⟩=>one_readE st q fun H2 d v k w st2 hv _ q2=>by
  have main:∀ (c:Str) (ns vs:List D) (fs:List D),Has X.K W H2 (.exc c fs) v→(∀ dx,ExF H2 dx fs→ExD H2 dx.1 ns vs)→RE X.K xw W H2 (if c∈cs then (match fldAt attr ns vs with|some x=> .ok x|none=> .stuck) else .stuck) Q→
    ∃ a C dx z kvs u,v= .ref a∧H2 a=some (.ext (ExcAt a (.ref C) (some dx,z)))∧H2 dx=some (.xd kvs)∧ExcK X.K C∧PySem.W.hasDictIn X.K C=true∧PySem.W.findIn X.K (.ref C) attr=some none∧kvs.lookup attr=some u∧Q u H2:=by
   intro c ns vs fs hv hx q3
   split at q3
   ·rename_i hc
    split at q3
    ·rename_i x hx'
     rw [Has] at hv
     obtain ⟨a,C,dx,rfl,hn,hH,hF⟩:=hv
     obtain ⟨d,kvs,ed,hd,rfl,hvs⟩:=hx dx hF
     obtain ⟨C',hn',z,hdt,na⟩:=(T c hc).ex
     rw [hn] at hn'
     cases hn'
     obtain ⟨u,h1,h2⟩:=fld_look hvs hx'
     obtain ⟨d0,z0⟩:=dx
     dsimp only at ed
     subst ed
     exact ⟨a,C',d,z0,kvs,u,rfl,hH,hd,z,hdt,na,h1,q3 u H2 (Same.refl _) h2.has⟩
    ·exact q3.elim
   ·exact q3.elim
  cases d with
  |exc c fs=>
   cases fs with
   |nil=>exact q2.elim
   |cons y vs=>
    cases y with
    |tup ns=>exact main c ns vs _ hv (fun dx h=>h.2) q2
    |non=>
     cases vs with
     |nil=>exact q2.elim
     |cons y vs=>
      cases y with
      |tup ns=>exact main c ns vs _ hv (fun dx h=>h) q2
      |_=>exact q2.elim
    |_=>exact q2.elim
  |_=>exact q2.elim⟩
end
end L3
namespace PySem
open Sem (wp)
open Builtin Builtin.ObjectAttr W
section
variable {prog:Program} {w:World} {A:Around} {E:Value→Shared→Prop} {h:Heap} {g:Array GenState} {d:Drawn} {t:Nat} {os:OsState} {K:Frag} {C e dx:Addr} {m:Str→Option Value} {ns:List Str}
end
end PySem
namespace L2
open PySem PySem.Spec PyProof.Rows
def SmallV:V→Prop
 | .int i=>i.natAbs.log2<1920∧(toString i:Str).length≤1000
 | .str x=>(reprText x).length≤1000
 | .non=>True
 |_=>False
structure PJ (X:Cx) (parts:List Expr) (P:St→Prop) (b:Nat):Prop where
 h:∀ (pins:List (Addr×Obj)) (s:Shared) (σ:St) (H:Hp) (acc:Str) (Q:Value→Shared→Prop),Inv X pins σ H s→P σ→acc.length+b≤sizeLine→(∀ s' z tk,Inv X pins σ H s'→Q (.str z tk) s')→wpAny (model X.prog X.w) X.A (joinParts acc (evalEach parts X.env)) Q X.xe s
section
variable {X:Cx} {pos p:Pos} {parts:List Expr} {P:St→Prop} {b:Nat}
theorem app_length (x y:Str):(x++y).length=x.length+y.length:=by
 show (x++y).cps.size=_
 rw [Str.cps_append,Array.size_append]
 rfl
theorem pj_nil:PJ X [] (fun _=>True) 0:=⟨fun pins s σ H acc Q I _ hl q=>joinParts_nil (q _ _ _ (I.tok _)) (by omega)⟩
theorem pj_text {z:Str} {j} (h:PJ X parts P b):PJ X (.Constant (.str z) j pos::parts) P (z.length+b):=⟨fun pins s σ H acc Q I hp hl q=>by
 show wpAny _ _ (joinParts acc (eval (.Constant (.str z) j pos) X.env::evalEach parts X.env)) _ _ _
 refine joinParts_cons (thn (pe_str pins s σ H (fun x H1=>x= .str z∧H1=H) I ⟨rfl,rfl⟩) fun u s1 ⟨x,H1,I1,r1,e1,e2⟩=> ?_)
 subst e1 e2
 obtain ⟨tk,rfl⟩:=r1
 have e:=app_length acc z
 exact ⟨by omega,h.h pins s1 σ _ _ Q I1 hp (by omega) q⟩⟩
theorem formatR {prog:Program} {w:World} {A:Around} {E:Value→Shared→Prop} {s:Shared} {v:V} {u:Value} {Q:Value→Shared→Prop} (hs:SmallV v) (r:RelV v u) (h:∀ z tk t',z.length≤1000→Q (.str z tk) {s with toks:=t'}):
  wpAny (model prog w) A (pyReprObj u) (fun r s₂=>wpAny (model prog w) A (formatField r Str.empty) Q E s₂) E s:=by
 have fin:∀ (z:Str) (tk:Tok) (t1:Nat),z.length≤1000→wpAny (model prog w) A (formatField (.str z tk) Str.empty) Q E {s with toks:=t1}:=fun z tk t1 hz=>
  formatField_str (fun t' tk'=>h z t' tk' hz) (by rw [sizeLine_eq];omega)
 cases v with
 |int n=>
  obtain ⟨tk,rfl⟩:=r
  exact wpAny_pyReprObj_gives (T:="int") (by first|rfl|trivial) F.slot_int_repr F.entry_int_repr (F.args_int_repr_1 _) (gives_int_repr n tk hs.1) (fin _ _ _ hs.2) rfl (by have:=hs.2;rw [sizeLine_eq];omega)
 |str x=>
  obtain ⟨tk,rfl⟩:=r
  exact pyReprObj_str (fin _ _ _ hs) (by have:(reprText x).length≤1000:=hs;rw [sizeLine_eq];omega)
 |non=>
  cases (show u=Value.none from r)
  exact wpAny_pyReprObj_gives (T:="NoneType") (by first|rfl|trivial) F.slot_NoneType_repr F.entry_NoneType_repr (F.args_NoneType_repr_1 _) gives_none_repr (fin _ _ _ (by decide)) rfl (by decide)
 |_=>exact hs.elim
theorem pj_repr (i:Nat) {x:Str} (h:PJ X parts P b) (hN:X.N[i]? =some x) (hv:Vis X.env.scope x) (hd:(x==("__debug__":Str))=false:=by decide) (hcd:(x==("__classdict__":Str))=false:=by decide):
  PJ X (.FormattedValue (.Name x p) 114 none pos::parts) (fun σ=>(∃ v,σ[i]? =some (some v)∧SmallV v)∧P σ) (1000+b):=⟨fun pins s σ H acc Q I ⟨⟨v,hn,hs⟩,hp⟩ hl q=>by
 show wpAny _ _ (joinParts acc (eval (.FormattedValue (.Name x p) 114 none pos) X.env::evalEach parts X.env)) _ _ _
 refine joinParts_cons (wpAny_FormattedValue_repr (thn (pe_var hN hv hd hcd pins s σ H (fun y H1=>y=v∧H1=H) I ⟨v,hn,rfl,rfl⟩) fun u s2 ⟨y,H2,I2,r2,e1,e2⟩=> ?_))
 subst e1 e2
 refine formatR hs r2 fun z tk t' hz=> ?_
 have e:=app_length acc z
 exact ⟨by omega,h.h pins _ σ _ _ Q (I2.tok _) hp (by omega) q⟩⟩
theorem pe_join {v1 v2:Expr} {rest:List Expr} (h:PJ X (v1::v2::rest) P b) (hb:b≤10000):PE X (.JoinedStr (v1::v2::rest) pos) (fun σ H Q=>P σ∧∀ z,Q (.str z) H):=by
 intro pins s σ H Q I ⟨hp,q⟩
 refine JoinedStr_many ?_
 exact h.h pins s σ H Str.empty _ I hp (by rw [sizeLine_eq];show 0+b≤_;omega) fun s' z tk I'=>⟨.str z,H,I',⟨tk,rfl⟩,q z⟩
end
section
variable {X:Cx} {apos:Pos} {o:Expr} {to:TE} {C S f:Addr}
end
end L2
namespace L2
open PySem PySem.Spec PyProof.Rows
structure RoomH (k:Nat) (A:Around):Prop where
 dp:A.depth+3*k+5<recursionLimit
 un:A.units+16*k+200<cLine
 gd:A.guards=some []
theorem Room.h {k:Nat} {A:Around} (r:Room k A):RoomH k A:=⟨r.dp,r.un,r.gd⟩
theorem RoomH.mono {j k:Nat} {A:Around} (r:RoomH k A) (h:j≤k):RoomH j A:=⟨by have:=r.dp;omega,by have:=r.un;omega,r.gd⟩
theorem RoomH.mark {k:Nat} {A:Around} (r:RoomH k A) (h:Option Value):RoomH k (A.mark h):=⟨r.dp,r.un,r.gd⟩
theorem RoomH.deeper {k:Nat} {A:Around} (r:RoomH (k+1) A) (env:Env):RoomH k (A.deeper env):=
 ⟨by have:=r.dp;show A.depth+1+3*k+5<_;omega,by have:=r.un;show A.units+3+16*k+200<_;omega,r.gd⟩
theorem RoomH.make {k:Nat} {A:Around} (r:RoomH (k+1) A) (C:Addr) (us:List Value) (kw:List (Str×Value)):RoomH k (A.under (.builtin "type.__call__" ⟨.ref C::us,kw⟩)):=
 ⟨by have:=r.dp;rw [make_depth];omega,by have:=r.un;rw [make_units];omega,by first|exact r.gd|(simpa [Around.under,Code.guards,pushGuards] using r.gd)⟩
theorem RoomH.depth {k:Nat} {A:Around} (r:RoomH k A):A.depth<recursionLimit:=by have:=r.dp;omega
abbrev cxH (CX:CXT) (P:Program) (w:World) (K:PySem.W.Frag) (mg:Str→Option Value) (base:Heap) (N:List Str) (qual:Str) (scope:Scope) (f:Addr) (cd:Value) (A:Around) (outer:List Env) (s:Shared) (H:Hp) (E:XK):Cx:= {cxOf CX P w K mg base N qual scope f cd A outer s H E with calm:=false}
structure FnOkH (P:Program) (w:World) (K:PySem.W.Frag) (mg:Str→Option Value) (base:Heap) (CX:CXT) (k:Nat) (f:Addr) (fd:FuncData) (ps:List Str) (sp:Sp):Prop where
 len:∀ vs H Q E,sp vs H Q E→vs.length=ps.length
 run:∀ (A:Around) (outer:List Env) (s:Shared) (H:Hp) (args:Args) (us:List Value) (vs:List V) (Q:VK) (E:XK),RoomH k A→Env0 P w K mg base A outer s H→BindsTo s fd args (ps.zip us)→Vals vs us→sp vs H Q E→
  codeAny (model P w) A (.call (.ref f) args) (CR CX outer P w H s Q E) s
theorem inv_startH {CX:CXT} {P:Program} {w:World} {K:PySem.W.Frag} {mg:Str→Option Value} {base:Heap} {N ps:List Str} {qual:Str} {scope:Scope} {f:Addr} {cd:Value} {A:Around} {outer:List Env} {s s1:Shared} {H:Hp} {E:XK} {us:List Value} {vs:List V}
  (S:FnScope N ps scope) (e0:Env0 P w K mg base A outer s H) (hl:vs.length=ps.length) (r:Vals vs us)
  (x:InCallC s s.heap.objs.size (bindL (envOfC qual scope s.heap.objs.size f cd).kindOf (ps.zip us) fun _=>none) (cellsFrom (s.heap.objs.size+1) scope.names []) (bindC (envOfC qual scope s.heap.objs.size f cd).kindOf (ps.zip us) fun _=>none) s1):
  Inv (cxH CX P w K mg base N qual scope f cd A outer s H E) [] (start N vs) H s1:=by
 have J:=inv_start (CX:=CX) (E:=E) (A:= {A with handled:=none}) S rfl ⟨e0.frames,e0.mod,e0.bs,e0.bsz,e0.funs,e0.frf,e0.hok,e0.bare⟩ hl r x
 exact ⟨⟨J.ok.mod,J.ok.kind,J.ok.glob,J.ok.blt,J.ok.above,J.ok.inj,J.ok.has,J.ok.cab,fun z=>absurd (show false=true from z) (by decide),J.ok.frames,J.ok.stk,J.ok.exf,J.ok.bs,J.ok.bsz,J.ok.noex,J.ok.exfs,J.ok.funs,J.ok.frf⟩,J.os,J.bare,J.base,J.loc,J.cell,J.free,J.freeC,J.pin,J.hok,J.len⟩
theorem fn_ofH {CX:CXT} {P:Program} {w:World} {K:PySem.W.Frag} {mg:Str→Option Value} {base:Heap} {k:Nat} {f:Addr} {name qual:Str} {params:Arguments} {body:List Stmt} {scope:Scope} {dV kV doc pm cdv ct oc:Value} {an od:Option Addr}
  {osl:Array (Option Value)} {N ps:List Str} {sp:Sp} (lk:K.lookup f=some ⟨oc,od, .func (PySem.W.fnOf name qual params body scope dV kV doc pm an cdv ct),osl⟩) (hcd:PySem.W.codeIn K cdv qual=true) (S:FnScope N ps scope)
  (len:∀ vs H Q E,sp vs H Q E→vs.length=ps.length)
  (hbody:∀ (A:Around) (outer:List Env) (s:Shared) (H:Hp) (vs:List V) (Q:VK) (E:XK),RoomH k (A.deeper (envOfC qual scope s.heap.objs.size f cdv))→sp vs H Q E→
   ∃ t,PSs (cxH CX P w K mg base N qual scope f cdv A outer s H E) body t∧t {nx:=fun _ H'=>Q .non H',rt:=Q} (start N vs) H):
  FnOkH P w K mg base CX (k+1) f (PySem.W.fnOf name qual params body scope dV kV doc pm an cdv ct) ps sp:=by
 refine ⟨len,fun A outer s H args us vs Q E hr e0 hb r hsp=> ?_⟩
 have hl:=len _ _ _ _ hsp
 have KX:K.In s.heap:=e0.mod.kin.keeps fun b o e=>(e0.bs b o e).1
 have lim:s.heap.NoLimit:=e0.mod.nolimit.keeps fun b o e=>(e0.bs b o e).1
 have hkind:∀ y∈ps.zip us,scope.names.lookup y.1=some .local∨(scope.names.lookup y.1=some .cell∧((cellsFrom (s.heap.objs.size+1) scope.names []).lookup y.1).isSome=true):=fun ⟨n,v⟩ hy=>by
  rcases S.par n (List.of_mem_zip hy).1 with q|q
  ·exact .inl q
  ·exact .inr ⟨q,PySem.W.cellsFrom_some _ _ _ (.inl q)⟩
 refine codeAny_call_function hr.depth (KX _ _ lk) rfl S.co S.gen rfl (PySem.W.codeRec_of KX hcd) (hb _ _ _ _ ?_)
 refine wpAny_newFunctionEnv_cells S.kind hkind fun env he s1 x=> ?_
 subst he
 refine ⟨lim.keeps x.toInCall.keep,codeAny_func ?_⟩
 obtain ⟨t,ht,hq⟩:=hbody A outer s H vs Q E (hr.deeper _) hsp
 have I:Inv (cxH CX P w K mg base N qual scope f cdv A outer s H E) [] (start N vs) H s1:=inv_startH S e0 hl r x
 refine wpAny_mono (ht [] s1 (start N vs) H _ I hq) (fun fl s' hs=> ?_) fun e s' hs=>hs
 have fin:∀ {σ':St} {H':Hp} {v:V} {u:Value},Inv (cxH CX P w K mg base N qual scope f cdv A outer s H E) [] σ' H' s'→RelV v u→Q v H'→CE outer P w H s Q u s':=
  fun {σ' H' v u} J rv q=>⟨v,H',J.os,J.bare,J.base,J.hok,rv,q⟩
 cases fl with
 |ret u=>
  obtain ⟨v,σ',H',J,rv,q⟩:=hs
  exact fin J rv q
 |next=>
  obtain ⟨σ',H',J,q⟩:=hs
  exact fin (v:=V.non) (u:=Value.none) J rfl q
 |brk=>
  obtain ⟨_,_,_,q⟩:=hs
  exact False.elim q
 |cont=>
  obtain ⟨_,_,_,q⟩:=hs
  exact False.elim q
theorem Fun.okH {P:Program} {w:World} {K:PySem.W.Frag} {mg:Str→Option Value} {base:Heap} {x qual:Str} {st:Stmt} {f:Addr} {fd:FuncData} {N ps:List Str} {k:Nat} {sp:Sp} (F:Fun K x qual st f fd) (S:FnScope N ps (defScope st)) (len:∀ vs H Q E,sp vs H Q E→vs.length=ps.length)
  (hbody:∀ (cdv:Value) (A:Around) (outer:List Env) (s:Shared) (H:Hp) (vs:List V) (Q:VK) (E:XK),RoomH k (A.deeper (envOfC qual (defScope st) s.heap.objs.size f cdv))→sp vs H Q E→
   ∃ t,PSs (cxH CX0 P w K mg base N qual (defScope st) f cdv A outer s H E).nox (defBody st) t∧t {nx:=fun _ H'=>Q .non H',rt:=Q} (start N vs) H):FnOkH P w K mg base CX0 (k+1) f fd ps sp:=by
 obtain ⟨oc,od,kV,doc,pm,an,cdv,ct,osl,rfl,lk,hcd⟩:=F.ex
 refine fn_ofH lk hcd S len fun A outer s H vs Q E hr hsp=> ?_
 obtain ⟨t,h,q⟩:=hbody cdv A outer s H vs Q E hr hsp
 exact ⟨t,h.nox,q⟩
section
variable {X:Cx} {C S f:Addr} {fd:FuncData} {ps:List Str} {sp:Sp} {k:Nat}
theorem run_excH {pins:List (Addr×Obj)} {σ:St} {H:Hp} {s:Shared} {Q:VK} {us:List Value} {vs:List V} (Z:XInit X.K C S f) (F:FnOkH X.prog X.w X.K X.mg X.base CX0 k f fd ps sp) (hr:RoomH (k+1) X.A) (hb:Binds X.K fd ps [])
  (I:Inv X pins σ H s) (r:Vals vs us) (hz:us.length≤sizeLine)
  (h:∀ a,H a=none→s.heap.get? a=none→sp (.ref a::vs) (upd H a (.ext (ExcN a C))) (fun v H2=>v= .non∧Q (.ref a) H2) E0):
  wpAny (model X.prog X.w) X.A (call (.ref C) us) (EP X pins σ Q) X.xe s:=by
 have hq:=h (s.heap.objs.size+1) (I.hok.fresh (Nat.le_succ _)) (Heap.get?_none_of_le (Nat.le_succ _))
 obtain ⟨nm,qn,N,bs,bm,hdct,sn,sub,ab,col,dd,k0,k1,k2,k3,k5,lk,ok,ni,tl⟩:=Z.obj
 have ns:=Heap.Ns.of_isNs (PySem.W.isNs_of_in I.kIn ok)
 have hi:s.heap.nsMap N "__init__"=some (.ref f):=ns_has I.kIn ns ni
 have I2:Inv X pins σ (upd H (s.heap.objs.size+1) (.ext (ExcN (s.heap.objs.size+1) C))) {s with heap:=excAt s.heap C us}:=
  I.laid (h':=excAt s.heap C us) (t':=s.toks) (fun b o z=>excAt_get z) (Nat.le_succ _) (excN_ok ⟨_,_,excAt_new us⟩)
 have r2:Vals (V.ref (s.heap.objs.size+1)::vs) (Value.ref (s.heap.objs.size+1)::us):= .cons rfl r
 have hl:(Value.ref (s.heap.objs.size+1)::us).length=ps.length:=by
  have e:=r2.length
  rw [F.len _ _ _ _ hq] at e
  exact e.symm
 have run:=F.run _ X.stack _ _ ⟨Value.ref (s.heap.objs.size+1)::us,[]⟩ (Value.ref (s.heap.objs.size+1)::us) _ _ E0 (hr.make C us []) (I2.env0.make C us []) (by
  have:=hb _ (Value.ref (s.heap.objs.size+1)::us) I2.kIn (by simpa using hl)
  simpa using this) r2 hq
 obtain ⟨hp,g,d,tk,os⟩:=s
 refine call_own PySem.F.excBase_ValueError (PySem.W.tail_of_in I.kIn tl) (I.kIn _ _ lk) ns hi hz (fun self=>PySem.W.bind_fn I.kIn self Z.ini) (codeAny_mono run fun rr s' z=> ?_)
 cases rr with
 |error e=>exact False.elim z
 |ok fl=>
  cases fl with
  |ret u=>
   obtain ⟨v,H',I3,rv,ev,q3⟩:=I2.after z
   subst ev
   exact ⟨rv,⟨V.ref (hp.objs.size+1),H',I3,rfl,q3⟩⟩
  |next=>exact False.elim z
  |brk=>exact False.elim z
  |cont=>exact False.elim z
end
end L2
namespace L3
open PySem PySem.Spec PyProof.Rows L2 SeqAt
def SmallK:Bool→V→Prop
 |true,v=>∃ n,v= .int n∧SmallV (.int n)
 |false,v=>SmallV v
theorem SmallK.v {k:Bool} {v:V} (h:SmallK k v):SmallV v:=by
 cases k with
 |true=>obtain ⟨n,rfl,q⟩:=h;exact q
 |false=>exact h
def SmallL:List (Str×Bool)→List V→Prop
 | [],[]=>True
 |k::ks,v::vs=>SmallK k.2 v∧SmallL ks vs
 |_,_=>False
def spG (C:Addr) (ks:List (Str×Bool)):Sp:=fun vs H Q _=>∃ a xs,vs= .ref a::xs∧SmallL ks xs∧H a=some (.ext (ExcN a C))∧∀ d,H d=none→Q .non (upd (upd H a (.ext (ExcO a C (some d)))) d (.xd ((ks.map (·.1)).zip xs)))
theorem SmallL.length:∀ {ks:List (Str×Bool)} {xs:List V},SmallL ks xs→xs.length=ks.length
 | [],[],_=>rfl
 |_::_,_::_,h=>by rw [List.length_cons,List.length_cons,SmallL.length h.2]
 | [],_::_,h=>h.elim
 |_::_,[],h=>h.elim
structure XInG (X:Cx) (C:Addr) (ks:List (Str×Bool)) (sts:List Stmt):Prop where
 h:PSs X sts (fun D σ H=>∃ a xs,σ[0]? =some (some (.ref a))∧(∀ i v,xs[i]? =some v→σ[i+1]? =some (some v))∧SmallL ks xs∧H a=some (.ext (ExcN a C))∧∀ d,H d=none→D.nx σ (upd (upd H a (.ext (ExcO a C (some d)))) d (.xd ((ks.map (·.1)).zip xs))))
section
variable {X:Cx} {C S f:Addr} {xb self x y attr attr2:Str} {p1 p2 p3 p7 p8 p9 q1 q2 q3 q4 r1 r2 r3 r4:Pos} {v1 v2:Expr} {rest:List Expr} {P:L2.St→Prop} {b:Nat} {k k2:Bool}
theorem in_ex1 {pl:Sem Bool} (Z:XInit X.K C S f) (hm:X.mg xb=some (.ref S)) (hna:PySem.W.findIn X.K (.ref C) attr=some none) (hj:PJ X (v1::v2::rest) P b) (hP:∀ σ v,σ[1]? =some (some v)→SmallK k v→P σ) (hb:b≤10000:=by decide) (hex:X.ex= []:=by rfl) (hg:Gl X xb:=by rfl)
  (hN0:X.N[0]? =some self:=by rfl) (hN1:X.N[1]? =some x:=by rfl) (hv0:Vis X.env.scope self:=by first|exact Or.inl rfl|exact Or.inr (Or.inl rfl)|exact Or.inr (Or.inr rfl)) (hv1:Vis X.env.scope x:=by first|exact Or.inl rfl|exact Or.inr (Or.inl rfl)|exact Or.inr (Or.inr rfl))
  (d0:(self==("__debug__":Str))=false:=by decide) (d1:(x==("__debug__":Str))=false:=by decide) (d2:(xb==("__debug__":Str))=false:=by decide)
  (e0:(self==("__classdict__":Str))=false:=by decide) (e1:(x==("__classdict__":Str))=false:=by decide)
  (s1:starEach [.Name self p3, .JoinedStr (v1::v2::rest) p7] X.env=(false,eval (.Name self p3) X.env)::starEach [.JoinedStr (v1::v2::rest) p7] X.env:=by rfl)
  (s2:starEach [.JoinedStr (v1::v2::rest) p7] X.env=(false,eval (.JoinedStr (v1::v2::rest) p7) X.env)::starEach [] X.env:=by rfl)
  (hpl:(backTo p8 (starEach [.JoinedStr (v1::v2::rest) p7] X.env)).any (·.1)=false:=by rfl) (hkw:backToKw p8 (keywordEach [] X.env)= []:=by rfl)
  (ht:eval (.Call (.Attribute (.Name xb p1) "__init__" p2) [.Name self p3, .JoinedStr (v1::v2::rest) p7] [] p8) X.env=(do
   let ov ←eval (.Name xb p1) X.env
   standAt p2.atName
   let (f,first) ←holding [ov] (getMethod ov "__init__" pl)
   callWith p8 f first (backTo p8 (starEach [.Name self p3, .JoinedStr (v1::v2::rest) p7] X.env)) (backToKw p8 (keywordEach [] X.env))):=by rfl)
  (w1:swapsWith (.Call (.Attribute (.Name xb p1) "__init__" p2) [.Name self p3, .JoinedStr (v1::v2::rest) p7] [] p8) none p9.line X.env=pure false:=by rfl)
  (w2:swapsWithSole [.Attribute (.Name self q1) attr q2] (.Name x q3) q4.line X.env=pure false:=by rfl) (w3:swappedStores [.Attribute (.Name self q1) attr q2] (.Name x q3) X.env=pure none:=by rfl)
  (w4:(assignEach [.Attribute (.Name self q1) attr q2] X.env).map (·.2)= [assign (.Attribute (.Name self q1) attr q2) X.env]:=by rfl):
  XInG X C [(attr,k)] [.Expr (.Call (.Attribute (.Name xb p1) "__init__" p2) [.Name self p3, .JoinedStr (v1::v2::rest) p7] [] p8) p9, .Assign [.Attribute (.Name self q1) attr q2] (.Name x q3) q4]:=⟨by
 refine PSs.weak (pss_cons (ps_expr (pe_binit (pl:=pl) Z hg hm (pa_cons (pe_var hN0 hv0 d0 e0) (pa_cons (pe_join hj hb) pa_nil s2) s1) d2 s1 hpl hkw ht) w1) (pss_one (ps_asg (pe_var hN1 hv1 d1 e1) (pg_exc hex Z hna (pe_var hN0 hv0 d0 e0)) w2 w3 w4))) fun D σ H ⟨a,xs,h0,hx,hs,hH,q⟩=> ?_
 match xs,hs with
 | [v],hs=>
  have h1:=hx 0 v rfl
  exact ⟨.ref a,h0,hP σ v h1 hs.1,fun t=>⟨a,t,rfl,hH,v,h1, .ref a,h0,a,rfl,hH,fun d hd _=>q d hd⟩⟩⟩
end
structure FnG (P:Program) (w:World) (K:PySem.W.Frag) (mg:Str→Option Value) (base:Heap) (k:Nat) (c:Str) (ks:List (Str×Bool)):Prop where
 ex:∃ j C S f fd ps,j+1≤k∧FnOkH P w K mg base CX0 j f fd ps (spG C ks)∧XInit K C S f∧mg c=some (.ref C)∧PySem.W.nsIn K mainGlobals c=some (some (.ref C))∧Binds K fd ps []
theorem FnG.mono {P:Program} {w:World} {K:PySem.W.Frag} {mg:Str→Option Value} {base:Heap} {j k:Nat} {c:Str} {ks:List (Str×Bool)} (F:FnG P w K mg base j c ks) (h:j≤k):FnG P w K mg base k c ks:=by
 obtain ⟨i,C,S,f,fd,ps,a,b⟩:=F.ex
 exact ⟨i,C,S,f,fd,ps,Nat.le_trans a h,b⟩
theorem fn_excG {P:Program} {w:World} {K:PySem.W.Frag} {mg:Str→Option Value} {base:Heap} {k:Nat} {c qual:Str} {ks:List (Str×Bool)} {st:Stmt} {C S fa:Addr} {fd:FuncData} {N ps:List Str} (F:Fun K "__init__" qual st fa fd) (T:FnScope N ps (defScope st))
  (Z:XInit K C S fa) (hm:mg c=some (.ref C)) (hc:PySem.W.nsIn K mainGlobals c=some (some (.ref C))) (hb:Binds K fd ps [])
  (body:∀ (cdv:Value) (A:Around) (outer:List Env) (s:Shared) (H:Hp) (E:XK),RoomH k (A.deeper (envOfC qual (defScope st) s.heap.objs.size fa cdv))→
   XInG (cxH CX0 P w K mg base N qual (defScope st) fa cdv A outer s H E).nox C ks (defBody st)) (hps:ps.length=ks.length+1:=by rfl):FnG P w K mg base (k+1+1) c ks:=by
 refine ⟨k+1,C,S,fa,fd,ps,Nat.le_refl _,F.okH T (fun vs H Q E h=> ?_) (fun cdv A outer s H vs Q E hr h=> ?_),Z,hm,hc,hb⟩
 ·obtain ⟨a,xs,rfl,hs,_⟩:=h
  rw [hps,List.length_cons,hs.length]
 ·obtain ⟨a,xs,rfl,hs,h3,q⟩:=h
  refine ⟨_,(body cdv A outer s _ E hr).h,a,xs,rfl,fun i v e=> ?_,hs,h3,q⟩
  have hi:=(List.getElem?_eq_some_iff.mp e).1
  show ((V.ref a::xs).map some++List.replicate _ none)[i+1]? =_
  rw [List.getElem?_append_left (by rw [List.length_map,List.length_cons];omega),List.getElem?_map,List.getElem?_cons_succ,e];rfl
def smlD:Bool→D→Bool
 |_, .int i=>decide (0≤i)&&decide (i<1000)
 |false, .str x=>decide (x.length≤60)&&x.cps.all (fun c=>decide (c<1114112))
 |false, .non=>true
 |_,_=>false
def smlL:List (Str×Bool)→List D→Bool
 | [],[]=>true
 |k::ks,d::ds=>smlD k.2 d&&smlL ks ds
 |_,_=>false
theorem repr_small {x:Str} (h1:x.length≤60) (h2:x.cps.all (fun c=>decide (c<1114112))=true):(reprText x).length≤1000:=by
 have:=StrLaws.reprText_len x fun c hc=>by
  rw [←Array.all_toList,List.all_eq_true] at h2
  have:=of_decide_eq_true (h2 c hc)
  exact Nat.lt_trans this (by decide)
 omega
theorem smlD_has {K:PySem.W.Frag} {W:WS} {H:Hp} {k:Bool} {d:D} {v:V} (h:smlD k d=true) (r:Has K W H d v):SmallK k v∧sclV d=some v:=by
 cases d with
 |int i=>
  rw [Has] at r;subst r
  have h':(decide (0≤i)&&decide (i<1000))=true:=by cases k<;>exact h
  rw [Bool.and_eq_true,decide_eq_true_eq,decide_eq_true_eq] at h'
  have:=small_i h'.1 h'.2
  cases k with
  |true=>exact ⟨⟨i,rfl,this⟩,rfl⟩
  |false=>exact ⟨this,rfl⟩
 |str x=>
  rw [Has] at r;subst r
  cases k with
  |true=>cases h
  |false=>
   have h':(decide (x.length≤60)&&x.cps.all (fun c=>decide (c<1114112)))=true:=h
   rw [Bool.and_eq_true,decide_eq_true_eq] at h'
   exact ⟨repr_small h'.1 h'.2,rfl⟩
 |non=>
  rw [Has] at r;subst r
  cases k with
  |true=>cases h
  |false=>exact ⟨trivial,rfl⟩
 |_=>cases k<;>cases h
theorem smlL_has {K:PySem.W.Frag} {W:WS} {H:Hp}:∀ {ks:List (Str×Bool)} {ds:List D} {vs:List V},smlL ks ds=true→HasL K W H ds vs→SmallL ks vs∧∀ H',ExVs H' ds vs
 | [],[],vs,_,r=>by rw [HasL] at r;subst r;exact ⟨trivial,fun _=>trivial⟩
 |k::ks,d::ds,vs,h,r=>by
  rw [HasL] at r
  obtain ⟨v,r',rfl,hv,hr⟩:=r
  have h':(smlD k.2 d&&smlL ks ds)=true:=h
  rw [Bool.and_eq_true] at h'
  obtain ⟨a,b⟩:=smlD_has h'.1 hv
  obtain ⟨c,e⟩:=smlL_has h'.2 hr
  exact ⟨⟨a,c⟩,fun H'=>⟨.inl b,e H'⟩⟩
 | [],_::_,_,h,_=>by cases h
 |_::_,[],_,h,_=>by cases h
theorem zip_fst:∀ {ks:List (Str×Bool)} {vs:List V},SmallL ks vs→((ks.map (·.1)).zip vs).map (·.1)=ks.map (·.1)∧((ks.map (·.1)).zip vs).map (·.2)=vs
 | [],[],_=>⟨rfl,rfl⟩
 |k::ks,v::vs,h=>by
  obtain ⟨a,b⟩:=zip_fst h.2
  exact ⟨by rw [List.map_cons,List.zip_cons_cons,List.map_cons,a],by rw [List.map_cons,List.zip_cons_cons,List.map_cons,b]⟩
 | [],_::_,h=>h.elim
 |_::_,[],h=>h.elim
def fldsG (ks:List (Str×Bool)) (ds:List D):List D:= .tup (ks.map fun k=>D.str k.1)::ds
def raiG (c:Str) (ks:List (Str×Bool)) (ds:List D):Out:=if smlL ks ds=true then .ex c (fldsG ks ds) else .stuck
def sRaiseG (c:Str) (ks:List (Str×Bool)) (fs:DSt→Res (List D)):DSt→Out:=fun δ=>ofR (fs δ) (raiG c ks)
theorem exd_of {H:Hp} {d:Addr} {ks:List (Str×Bool)} {ds:List D} {xs:List V} (h:SmallL ks xs) (e:H d=some (.xd ((ks.map (·.1)).zip xs))) (v:ExVs H ds xs):ExD H (some d) (ks.map fun k=>D.str k.1) ds:=by
 obtain ⟨a,b⟩:=zip_fst h
 refine ⟨d,_,rfl,e,?_,by rw [b];exact v⟩
 rw [show ((ks.map (·.1)).zip xs).map (fun p=>D.str p.1)=(((ks.map (·.1)).zip xs).map (·.1)).map D.str by rw [List.map_map];rfl,a,List.map_map]
 rfl
section
variable {X:Cx} {xw:XW} {C S f:Addr} {fd:FuncData} {ps:List Str} {k:Nat} {x c:Str} {ks:List (Str×Bool)} {p pos np cpos:Pos} {e a:Expr} {es:List Expr} {t:TA} {fs:DSt→Res (List D)}
theorem pe_excG (Z:XInit X.K C S f) (G:FnOkH X.prog X.w X.K X.mg X.base CX0 k f fd ps (spG C ks)) (hr:RoomH (k+1) X.A) (hg:Gl X x) (hm:X.mg x=some (.ref C)) (hb:Binds X.K fd ps []) (hex:X.ex= [])
  (ha:PA X (e::es) t) (hdb:(x==("__debug__":Str))=false:=by decide) (he:starEach (e::es) X.env=(false,eval e X.env)::starEach es X.env:=by rfl) (hpl:(backTo pos (starEach es X.env)).any (·.1)=false:=by rfl) (hks:ks.length≤50:=by decide):
  PE X (.Call (.Name x p) (e::es) [] pos) (fun σ H Q=>t σ H fun vs H1=>SmallL ks vs∧∀ a d,H1 a=none→H1 d=none→d≠a→X.s₀.heap.get? a=none→Q (.ref a) (upd (upd H1 a (.ext (ExcO a C (some d)))) d (.xd ((ks.map (·.1)).zip vs)))):=by
 intro pins s σ H Q I h
 refine wpAny_Call_Name_kw (ld_glob I hg hm ?_ hdb)
 refine PySem.W.callWith_K (h₀:=X.base) I.ok.mod.kin Z.kpC (thn (ha pos pins s σ H _ I h) fun us s1 ⟨vs,H1,I1,r,hs,q⟩=>⟨I1.kIn,?_⟩) he hpl
 refine run_excH Z G hr hb I1 r (by show us.length≤_;rw [←r.length,hs.length,sizeLine_eq];omega) fun b hb1 hb2=> ?_
 refine ⟨b,vs,rfl,hs,upd_same,fun d hd=>⟨rfl,?_⟩⟩
 have hdb':d≠b:=fun z=>by rw [z,upd_same] at hd;cases hd
 rw [upd_ne hdb'] at hd
 rw [upd_upd]
 refine q b d hb1 hd hdb' ?_
 cases z:X.s₀.heap.get? b with
 |none=>rfl
 |some o=>
  obtain ⟨o',e'⟩:=I1.base.there b o z (by rw [hex];simp)
  rw [hb2] at e';cases e'
def endG (X:Cx) (xw:XW) (C:Addr) (c:Str) (ks:List (Str×Bool)) (pre:List D):VK:=fun v H'=>∃ b d H2 vs ds,v= .ref b∧H'=upd (upd H2 b (.ext (ExcO b C (some d)))) d (.xd ((ks.map (·.1)).zip vs))∧H2 b=none∧H2 d=none∧d≠b∧X.s₀.heap.get? b=none∧SmallL ks vs∧(∀ H,ExVs H ds vs)∧xw c (pre++fldsG ks ds) (upd H2 d (.xd ((ks.map (·.1)).zip vs)))
theorem rd_G {W₀:WS} {H₀:Hp} {W:WS} {δ:DSt} {σ:L2.St} {H:Hp} {Dn:Ends} {pre:List D} (st:StHas X.K W₀ H₀ W H σ δ) (q:RS X.K xw W₀ H₀ W H (ofR (fs δ) fun ds=>if smlL ks ds=true then .ex c (pre++fldsG ks ds) else .stuck) Dn):
  tDA X.K xw fs σ H (fun vs H1=>SmallL ks vs∧∀ b d,H1 b=none→H1 d=none→d≠b→X.s₀.heap.get? b=none→endG X xw C c ks pre (.ref b) (upd (upd H1 b (.ext (ExcO b C (some d)))) d (.xd ((ks.map (·.1)).zip vs)))):=by
 refine ⟨W₀,H₀,W,δ,st,?_⟩
 cases hf:fs δ with
 |stuck=>rw [hf] at q;exact q
 |ex c' fs'=>rw [hf] at q;exact fun H2 k2=>q H2 (st.fr.ext.trans k2)
 |ok ds=>
  rw [hf] at q
  have q':RS X.K xw W₀ H₀ W H (if smlL ks ds=true then .ex c (pre++fldsG ks ds) else .stuck) Dn:=q
  clear q
  split at q'
  ·rename_i hi
   intro vs H2 k2 hv
   obtain ⟨s1,s2⟩:=smlL_has hi hv
   exact ⟨s1,fun b d hb1 hd1 hdb hb2=>⟨b,d,H2,vs,ds,rfl,rfl,hb1,hd1,hdb,hb2,s1,s2,q' _ ((st.fr.ext.trans k2).trans fun x o e=>by rw [upd_ne (ne_of_none e hd1)];exact e)⟩⟩
  ·exact q'.elim
theorem s_raiseG (F:FnG X.prog X.w X.K X.mg X.base k c ks) (hr:Room k X.A) (hx:RaiseO X xw) (hcalm:X.calm=true) (ha:XA X xw (a::es) fs) (hex:X.ex= []:=by rfl) (hg:Gl X c:=by rfl)
  (hdb:(c==("__debug__":Str))=false:=by decide) (he:starEach (a::es) X.env=(false,eval a X.env)::starEach es X.env:=by rfl) (hpl:(backTo cpos (starEach es X.env)).any (·.1)=false:=by rfl) (hks:ks.length≤50:=by decide):
  XS X xw (.Raise (some (.Call (.Name c np) (a::es) [] cpos)) none pos) (sRaiseG c ks fs):=⟨by
 obtain ⟨j,C,S,f,fd,ps,hj,G,Z,hm,hn,hb⟩:=F.ex
 intro pins s σ H Dn I ⟨W₀,H₀,W,δ,st,q⟩
 have rd:=rd_G (C:=C) (pre:= []) st q
 obtain ⟨nm,qn,N,bs,bm,hdct,sn,sub,ab,col,dd,k0,k1,k2,k3,k5,lk,_,_,tl⟩:=Z.obj
 have T:=PySem.W.tail_of_in I.kIn tl
 rw [arm_exec_Raise]
 refine wpAny_bind (wpAny_standAt (raise_made (C:=C) (nm:=nm) (q:=qn) (N:=N) (bs:=bs) (bm:=bm) (hdct:=hdct) (sn:=sn) (sub:=sub) (ab:=ab) (col:=col) (dd:=dd) (k0:=k0) (k1:=k1) (k2:=k2) (k3:=k3) (k5:=k5) (newId:="ValueError.__new__") (T.hasType PySem.F.excBase_ValueError.hasBase) (I.ok.hd hcalm) ?_))
 refine wpAny_bind (thn (pe_excG Z G (hr.h.mono hj) hg hm hb hex ha.h hdb he hpl hks pins s σ H (endG X xw C c ks []) I rd) fun v s1 ⟨y,H1,I1,r,b,d,H2,vs,ds,ey,eH,h1,hd1,hdb',h2,hs,hv,qx⟩=> ?_)
 subst ey eH
 obtain rfl:v= .ref b:=r
 have hbb:upd (upd H2 b (.ext (ExcO b C (some d)))) d (.xd ((ks.map (·.1)).zip vs)) b=some (.ext (ExcO b C (some d))):=by rw [upd_ne (Ne.symm hdb')];exact upd_same
 obtain ⟨⟨t0,sl,hb'⟩,_,_⟩:=I1.hok b _ hbb
 refine wpAny_bind (wpAny_standAt (wpAny_pure ?_))
 refine ⟨b,some d,t0,sl,rfl,I1.kIn _ _ lk,hb',?_⟩
 exact hx pins σ _ s1 b C (some d) c (fldsG ks ds) I1 hbb h2 hn (by rw [del_upd2 h1 hdb'];exact ⟨rfl,exd_of hs upd_same (hv _)⟩) (by rw [del_upd2 h1 hdb'];exact qx)⟩
end
end L3
namespace L3
open PySem PySem.Spec PyProof.Rows L2 SeqAt
theorem hp_rep {σ:L2.St} {i:Nat} {v:V} {k:Bool} (h:σ[i]? =some (some v)) (s:SmallK k v):∃ v,σ[i]? =some (some v)∧SmallV v:=⟨v,h,s.v⟩
end L3
namespace PySem
open Sem (wp)
section
variable {prog:Program} {w:World} {A:Around} {E:Value→Shared→Prop} {s:Shared} {env:Env}
variable {nm q:Str} {C N:Addr} {bs bm:List Value} {hdct:Bool} {sn:List Str} {sub:List Value} {ab:Bool} {col:Option Bool} {dd:Option Addr} {k0 k1 k2 k3 k5:Option Value} {newId:String}
end
end PySem
namespace L3
open PySem PySem.Spec PyProof.Rows L2 SeqAt
section
variable {X:Cx} {pins:List (Addr×Obj)} {σ:L2.St} {H:Hp} {s s1:Shared} {b C:Addr} {cls a0:Value} {dx:Option Addr} {M:Model} {A:Around} {Ex:Value→Shared→Prop} {Q:Unit→Shared→Prop}
end
end L3
namespace L3
open PySem PySem.Spec PyProof.Rows L2 SeqAt
section
variable {X:Cx} {xw:XW} {pins:List (Addr×Obj)} {σ:L2.St} {H:Hp} {s:Shared} {ar:Addr} {Ex:Value→Shared→Prop} {k:Nat} {c:Str} {ks:List (Str×Bool)} {np cpos pos p:Pos} {j:Nat} {a:Expr} {es:List Expr} {fs:DSt→Res (List D)}
end
section
variable {X:Cx} {xw:XW} {a ea:Expr} {es eas:List Expr} {fs fa:DSt→Res (List D)} {p pos cpos hpos tpos np np2 cpos2 pos2 p2:Pos} {st:Stmt} {orelse:List Stmt} {k k2 nn jj:Nat} {x C n c2:Str} {ks:List (Str×Bool)} {m:List D→Res D} {gK:D→DSt→Out} {go:DSt→Out}
end
end L3
namespace L3
open PySem PySem.Spec PyProof.Rows L2 SeqAt
section
variable {X:Cx} {xw:XW} {pins:List (Addr×Obj)} {σ:L2.St} {W:WS} {H:Hp} {s:Shared}
end
end L3
namespace L3
open PySem PySem.Spec PyProof.Rows L2 SeqAt
section
variable {X:Cx} {xw:XW} {pos p pos2 p2:Pos} {a:Expr} {fa:DSt→Res D}
end
end L3
namespace L3
open PySem PySem.Spec PyProof.Rows L2 SeqAt
section
variable {K:PySem.W.Frag} {xw:XW} {W₀ W W1:WS} {H₀ H H1:Hp} {Dn:Ends}
def NewQ (K:PySem.W.Frag) (W₀:WS) (H₀:Hp) (ks:List Key) (ds:List D) (Q:V→Hp→Prop):Prop:=∀ a kvs H',Same H₀ H'→H₀ a=none→H' a=some (.dK kvs)→kvs.map (·.1)=ks→HasL K (fun b=>W₀ b∨b=a) H' ds (kvs.map (·.2))→Q (.ref a) H'
def RSQ (K:PySem.W.Frag) (xw:XW) (W₀:WS) (H₀:Hp) (W:WS) (H:Hp) (o:Out) (Dn:Ends):Prop:=match o with
 | .rt (.dct ks ds)=>NewQ K W₀ H₀ ks ds Dn.rt
 |o=>RS K xw W₀ H₀ W H o Dn
theorem RSQ.step {o:Out} (h:RSQ K xw W₀ H₀ W H o Dn) (k:Step W H W1 H1):RSQ K xw W₀ H₀ W1 H1 o Dn:=by
 cases o with
 |rt d=>cases d<;>exact h
 |nx δ=>exact RS.step (xw:=xw) (o:= .nx δ) h k
 |bk δ=>exact RS.step (xw:=xw) (o:= .bk δ) h k
 |ct δ=>exact RS.step (xw:=xw) (o:= .ct δ) h k
 |ex c fs=>exact h
 |stuck=>exact h
def tDSQ (K:PySem.W.Frag) (xw:XW) (g:DSt→Out):TS:=fun Dn σ H=>∃ W₀ H₀ W δ,StHas K W₀ H₀ W H σ δ∧RSQ K xw W₀ H₀ W H (g δ) Dn
end
structure NoQ (g:DSt→Out):Prop where
 h:∀ δ ks ds,g δ≠ .rt (.dct ks ds)
theorem ofR_noQ {α:Type} {r:Res α} {k:α→Out} {ks:List Key} {ds:List D} (h:∀ a,k a≠ .rt (.dct ks ds)):ofR r k≠ .rt (.dct ks ds):=by
 cases r with
 |ok a=>exact h a
 |ex c fs=>intro e;cases e
 |stuck=>intro e;cases e
theorem NoQ.nox {g:DSt→Out} (h:NoQ g):NoQ (noxS g):=⟨fun δ ks ds e=>by
 unfold noxS at e
 cases z:g δ with
 |rt d=>rw [z] at e;exact h.h δ ks ds (by rw [z];exact e)
 |_=>rw [z] at e;cases e⟩
theorem NoQ.ownQ {i:Nat}:NoQ (sOwnQ i):=⟨fun δ ks ds e=>by cases e⟩
theorem NoQ.put {i:Nat} {fi f:DSt→Res D}:NoQ (sPutI i fi f):=⟨fun δ ks ds=>ofR_noQ fun d=>by
 unfold putO
 split
 ·refine ofR_noQ fun z=> ?_
  unfold putJ
  split
  ·split
   ·intro e;cases e
   ·intro e;cases e
  ·intro e;cases e
 ·intro e;cases e⟩
section
variable {X:Cx} {xw:XW} {st:Stmt} {sts:List Stmt} {g1 g2:DSt→Out} {pos p:Pos} {a:Expr} {es:List Expr}
structure XSQ (X:Cx) (xw:XW) (sts:List Stmt) (g:DSt→Out):Prop where
 h:PSs X sts (tDSQ X.K xw g)
def spQX (K:PySem.W.Frag) (n:Nat) (m:List D→Res D):Sp:=fun vs H Q E=>vs.length=n∧∃ W ds,WL W H∧HasL K W H ds vs∧match m ds with
 | .ok (.dct ks fs)=>NewQ K W H ks fs Q
 | .ok d=>∀ v H',Same H H'→Has K W H' d v→Q v H'
 | .ex c fs=>∀ cls dx H',PySem.W.nsIn K mainGlobals c=some (some cls)→Same H H'→ExF H' dx fs→E cls dx H'
 | .stuck=>False
structure FnQX (P:Program) (w:World) (K:PySem.W.Frag) (mg:Str→Option Value) (base:Heap) (k:Nat) (x:Str) (n:Nat) (m:List D→Res D):Prop where
 ex:∃ f fd ps,FnOk P w K mg base (CXD P w) k f fd ps (spQX K n m)∧mg x=some (.ref f)∧PySem.W.keepIn K (.ref f)=true∧Binds K fd ps []
theorem FnQX.mono {P:Program} {w:World} {K:PySem.W.Frag} {mg:Str→Option Value} {base:Heap} {j k n:Nat} {x:Str} {m:List D→Res D} (F:FnQX P w K mg base j x n m) (h:j≤k):FnQX P w K mg base k x n m:=by
 obtain ⟨f,fd,ps,a,b⟩:=F.ex
 exact ⟨f,fd,ps,a.mono h,b⟩
end
end L3
namespace L3
open PySem PySem.Spec PyProof.Rows L2 SeqAt
theorem vals_of:∀ {xs:List V} {us:List Value},xs.length=us.length→(∀ (i:Nat) (x:V) (u:Value),xs[i]? =some x→us[i]? =some u→RelV x u)→Vals xs us
 | [],[],_,_=> .nil
 | [],_::_,h,_=>by simp at h
 |_::_,[],h,_=>by simp at h
 |x::xs,u::us,h,r=> .cons (r 0 x u rfl rfl) (vals_of (by simpa using h) fun i y v e1 e2=>r (i+1) y v (by simpa using e1) (by simpa using e2))
section
variable {X:Cx} {xw:XW} {e:Expr} {f:DSt→Res D} {p pos:Pos}
end
end L3
namespace L3
open PySem PySem.Spec PyProof.Rows L2 SeqAt
section
variable {X:Cx} {xw:XW} {e:Expr} {f:DSt→Res D} {p pos apos pos2:Pos}
end
end L3
namespace L3
open PySem PySem.Spec PyProof.Rows L2 SeqAt
section
variable {X:Cx} {xw:XW} {a b e:Expr} {fa fb:DSt→Res (List (Key×D))} {p pos:Pos}
end
end L3
namespace L3
open PySem PySem.Spec PyProof.Rows L2 SeqAt
section
variable {K:PySem.W.Frag} {W₀ W:WS} {H₀ H H':Hp} {σ:L2.St} {δ:DSt}
end
section
variable {X:Cx} {xw:XW} {pos p p1 p2 p3:Pos} {e ie:Expr} {f fi:DSt→Res D} {ff:DSt→Res (List D)}
def tNil:TE:=fun _ H Q=>∀ a,H a=none→Q (.ref a) (upd H a (.lst []))
variable {scope:Scope} {tg iter:Expr} {fl:DSt→Res (List D)} {t:D→DSt→Res DSt}
end
end L3
namespace L3
open PySem PySem.Spec PyProof.Rows L2 SeqAt
section
variable {X:Cx} {xw:XW} {tg a:Expr} {p pos:Pos} {fs:DSt→Res (List D)}
def revLR (ds:List D):Res (List D):=match ds with
 | [.lst xs]=> .ok xs.reverse
 |_=> .stuck
end
end L3
namespace L3
open PySem PySem.Spec PyProof.Rows L2 SeqAt
section
variable {X:Cx} {xw:XW} {e:Expr} {f:DSt→Res D} {pos p1 p2 p3:Pos}
def mrg {α:Type} (kvs more:List (Key×α)):List (Key×α):=more.foldl (fun acc p=>tPut acc p.1 p.2) kvs
noncomputable def updJ (i:Nat) (δ:DSt) (l:List (Key×D)) (d:D):Out:=match d with
 | .dct ks ds=>@ite Out (l.length+(ks.zip ds).length≤1000) (Classical.propDecidable _) (.nx (δ.set i (some (.q ((mrg l (ks.zip ds)).map (·.1)) ((mrg l (ks.zip ds)).map (·.2)))))) .stuck
 |_=> .stuck
noncomputable def sUpd (i:Nat) (f:DSt→Res D):DSt→Out:=fun δ=>match δ[i]? with
 |some (some (.q ks ds))=>ofR (f δ) (updJ i δ (ks.zip ds))
 |_=> .stuck
end
end L3
namespace L3
open PySem PySem.Spec PyProof.Rows L2 SeqAt
structure NoR (g:DSt→Out):Prop where
 h:∀ δ d,g δ≠ .rt d
theorem NoR.l {g:DSt→Out} (h:NoR g):NoL g:=⟨fun δ _=>h.h δ _⟩
theorem NoR.q {g:DSt→Out} (h:NoR g):NoQ g:=⟨fun δ _ _=>h.h δ _⟩
theorem ofR_nr {α:Type} {r:Res α} {k:α→Out} {d:D} (h:∀ a,k a≠ .rt d):ofR r k≠ .rt d:=by
 cases r with
 |ok a=>exact h a
 |ex c fs=>intro e;cases e
 |stuck=>intro e;cases e
theorem NoR.seq {a b:DSt→Out} (ha:NoR a) (hb:NoR b):NoR (sSeq a b):=⟨fun δ d=>by
 show seqO (a δ) b≠_
 cases h:a δ with
 |nx δ'=>exact hb.h δ' d
 |rt d'=>intro e;exact ha.h δ d (by rw [h];exact e)
 |bk δ'=>intro e;cases e
 |ct δ'=>intro e;cases e
 |ex c fs=>intro e;cases e
 |stuck=>intro e;cases e⟩
theorem NoR.nx:NoR Out.nx:=⟨fun δ d e=>by cases e⟩
theorem NoR.own {i:Nat} {f:DSt→Res (List D)}:NoR (sOwn i f):=⟨fun δ d=>ofR_nr fun k e=>by cases e⟩
theorem NoR.set {i:Nat} {f:DSt→Res D}:NoR (sSet i f):=⟨fun δ d=>ofR_nr fun k e=>by cases e⟩
theorem NoR.ownQ {i:Nat}:NoR (sOwnQ i):=⟨fun δ d e=>by cases e⟩
theorem NoR.put {i:Nat} {fi f:DSt→Res D}:NoR (sPutI i fi f):=⟨fun δ d=>ofR_nr fun z=>by
 unfold putO
 split
 ·refine ofR_nr fun z=> ?_
  unfold putJ
  split
  ·split
   ·intro e;cases e
   ·intro e;cases e
  ·intro e;cases e
 ·intro e;cases e⟩
theorem NoR.upd {i:Nat} {f:DSt→Res D}:NoR (sUpd i f):=⟨fun δ d=>by
 unfold sUpd
 split
 ·refine ofR_nr fun z=> ?_
  unfold updJ
  split
  ·split
   ·intro e;cases e
   ·intro e;cases e
  ·intro e;cases e
 ·intro e;cases e⟩
theorem NoR.frz {i:Nat} {g:DSt→Out} (h:NoR g):NoR (sFrz i g):=⟨fun δ d=>h.h _ d⟩
end L3
namespace L3
open PySem PySem.Spec PyProof.Rows L2 SeqAt
def Txts (xs:List Str):Prop:=xs.length≤100∧∀ x∈xs,(reprText x).length≤1000
theorem reads_strs {h:Heap}:∀ {xs:List Str} {its:List Value},Vals (xs.map V.str) its→ReadsAll h its (xs.map PyData.str) []
 | [],its,r=>by cases r;exact .nil
 |x::xs,its,r=>by
  cases r with
  |cons h1 t=>
   obtain ⟨tk,rfl⟩:=h1
   exact ReadsAll.cons (as:= []) (bs:= []) (.str x tk) (reads_strs t)
theorem show_strs:∀ xs:List Str,PyData.showableAll (xs.map PyData.str)=true∧PyData.hasDictAll (xs.map PyData.str)=false∧PyData.depthAll (xs.map PyData.str)=0∧PyData.shownAll (xs.map PyData.str)=xs.map reprText
 | []=>⟨rfl,rfl,rfl,rfl⟩
 |x::xs=>by
  obtain ⟨a,b,c,d⟩:=show_strs xs
  refine ⟨?_,?_,?_,?_⟩
  ·rw [List.map_cons,PyData.showableAll,a];rfl
  ·rw [List.map_cons,PyData.hasDictAll,b];rfl
  ·rw [List.map_cons,PyData.depthAll,c];rfl
  ·rw [List.map_cons,PyData.shownAll,d];rfl
theorem txtF_len:∀ (ts:List Str) (k:Nat) (acc:Str),(textFrom k acc ts).length≤acc.length+(ts.map fun t=>t.length+2).sum
 | [],k,acc=>by show acc.length≤_;omega
 |t::ts,k,acc=>by
  have h:=txtF_len ts (k+1)
  rw [textFrom]
  refine Nat.le_trans (h _) ?_
  rw [List.map_cons,List.sum_cons]
  have e1:(", ":Str).length=2:=rfl
  have e2:("":Str).length=0:=rfl
  split
  ·simp only [app_length];omega
  ·simp only [app_length];omega
theorem txts_len {xs:List Str} (h:Txts xs):(listText (xs.map reprText)).length≤100300:=by
 unfold listText
 rw [app_length]
 have h1:=txtF_len (xs.map reprText) 0 "["
 have h2:∀ l:List Str,(∀ x∈l,(reprText x).length≤1000)→(((l.map reprText).map fun t=>t.length+2).sum)≤1002*l.length:=by
  intro l
  induction l with
  |nil=>intro _;exact Nat.le_refl _
  |cons x l ih=>
   intro hl
   rw [List.map_cons,List.map_cons,List.sum_cons,List.length_cons]
   have:=ih fun y hy=>hl y (List.mem_cons_of_mem _ hy)
   have:=hl x List.mem_cons_self
   omega
 have h3:=h2 xs h.2
 have:=h.1
 have e1:("[":Str).length=1:=rfl
 have e2:("]":Str).length=1:=rfl
 omega
section
variable {X:Cx} {pos p p1 p2:Pos}
theorem pe_joinL (i:Nat) {x z:Str} {j} {k:Nat} (hr:RoomH k X.A) (hz:z.length≤1000) (hN:X.N[i]? =some x) (hv:Vis X.env.scope x) (hd:(x==("__debug__":Str))=false:=by decide) (hcd:(x==("__classdict__":Str))=false:=by decide):
  PE X (.JoinedStr [.Constant (.str z) j p1, .FormattedValue (.Name x p) 114 none p2] pos) (fun σ H Q=>(∃ l xs,σ[i]? =some (some (.ref l))∧SqL X.K H l (xs.map V.str)∧Txts xs)∧∀ z,Q (.str z) H):=by
 intro pins s σ H Q I ⟨⟨l,xs,hn,sq,ht⟩,q⟩
 refine JoinedStr_many ?_
 show wpAny _ _ (joinParts Str.empty (eval (.Constant (.str z) j p1) X.env::evalEach [.FormattedValue (.Name x p) 114 none p2] X.env)) _ _ _
 refine joinParts_cons (thn (pe_str pins s σ H (fun x H1=>x= .str z∧H1=H) I ⟨rfl,rfl⟩) fun u s1 ⟨y,H1,I1,r1,e1,e2⟩=> ?_)
 subst e1 e2
 obtain ⟨tk,rfl⟩:=r1
 have e:=app_length Str.empty z
 have sz:sizeLine=16777216:=sizeLine_eq
 have e0:Str.empty.length=0:=rfl
 refine ⟨by omega,?_⟩
 show wpAny _ _ (joinParts _ (eval (.FormattedValue (.Name x p) 114 none p2) X.env::evalEach [] X.env)) _ _ _
 refine joinParts_cons (wpAny_FormattedValue_repr (thn (pe_var hN hv hd hcd pins s1 σ _ (fun y H1=>y= .ref l∧SqL X.K H1 l (xs.map V.str)∧∀ z,Q (.str z) H1) I1 ⟨.ref l,hn,rfl,sq,q⟩) fun u s2 ⟨y,H2,I2,r2,e1,sq2,q2⟩=> ?_))
 subst e1
 cases r2
 obtain ⟨its,rv,pl,hl⟩:=I2.list sq2
 obtain ⟨o,n,ho,hc,_,hdt⟩:=pl
 obtain ⟨a1,a2,a3,a4⟩:=show_strs xs
 have sl:=txts_len ht
 have sh:(PyData.list (xs.map PyData.str)).shown=listText (xs.map reprText):=by rw [PyData.shown,a4]
 have rd:Reads s2.heap (.ref l) (.list (xs.map PyData.str)) [l]:= .list ho hc hdt (reads_strs (by simpa using rv))
 refine pyReprObj_of_reads rd (by rw [PyData.showable];exact a1) (fun z=>by rw [PyData.hasDict,a2] at z;cases z) hr.gd (by rw [PyData.depth,a3];have:=hr.un;omega) (fun b o e=>e) (fun h' u tk hk=> ?_) (by rw [sh];omega)
 rw [sh]
 refine formatField_str (fun t' tk'=> ?_) (by omega)
 have e3:=app_length (Str.empty++z) (listText (xs.map reprText))
 refine ⟨by omega,?_⟩
 exact joinParts_nil ⟨.str (Str.empty++z++listText (xs.map reprText)),H2,(I2.kept (t':=tk') hk).tok _,⟨_,rfl⟩,q2 _⟩ (by omega)
end
theorem call_list_frz {X:Cx}:CallR X (.type "list") (fun xs H Q=>∃ p ys,xs= [.ref p]∧SqL X.K H p ys∧∀ l o,H l=none→Q (.ref l) (upd H l (.frz o (.lst ys)))):=by
 intro pins s σ H xs us Q I r h
 obtain ⟨p,ys,rfl,hq,q⟩:=h
 obtain ⟨u,rfl,rx⟩:=vals1 r
 cases rx
 obtain ⟨its,r',pl,hz⟩:=I.list hq
 have hlen:=r'.length
 obtain ⟨o,ho,hc,n,hd⟩:=pl.isList
 refine call_list_seq p (.inl rfl) ho hc hd (fun h' c' kp e=> ?_) (by simp only [List.size_toArray]<;>omega)
 exact ⟨.ref s.heap.objs.size,_,I.laid (o:= .frz _ (.lst ys)) (t':=s.toks) kp (Nat.le_refl _) ⟨e,hz,its,c',r',e⟩,rfl,q _ _ (I.hok.fresh (Nat.le_refl _))⟩
def spR (K:PySem.W.Frag) (C:Addr) (attr:Str):Sp:=fun vs H Q _=>∃ a l xs,vs= [.ref a, .ref l]∧SqL K H l (xs.map V.str)∧Txts xs∧H a=some (.ext (ExcN a C))∧∀ n o d,H n=none→H d=none→d≠n→Q .non (upd (upd (upd H n (.frz o (.lst (xs.map V.str)))) a (.ext (ExcO a C (some d)))) d (.xd [(attr, .ref n)]))
structure XInR (X:Cx) (C:Addr) (attr:Str) (sts:List Stmt):Prop where
 h:PSs X sts (fun D σ H=>∃ a l xs,σ[0]? =some (some (.ref a))∧σ[1]? =some (some (.ref l))∧SqL X.K H l (xs.map V.str)∧Txts xs∧H a=some (.ext (ExcN a C))∧∀ n o d,H n=none→H d=none→d≠n→D.nx σ (upd (upd (upd H n (.frz o (.lst (xs.map V.str)))) a (.ext (ExcO a C (some d)))) d (.xd [(attr, .ref n)])))
section
variable {X:Cx} {C S f:Addr} {xb self x attr:Str} {p1 p2 p3 p7 p8 p9 q1 q2 q3 q4 q5 q6 r1 r2 r3:Pos} {z:Str} {k:Nat}
theorem in_exL {pl:Sem Bool} {j} (Z:XInit X.K C S f) (hm:X.mg xb=some (.ref S)) (hna:PySem.W.findIn X.K (.ref C) attr=some none) (hr:RoomH k X.A) (hml:X.mg "list"=none) (hz:z.length≤1000:=by decide) (hex:X.ex= []:=by rfl) (hg:Gl X xb:=by rfl) (hgl:Gl X "list":=by rfl)
  (hN0:X.N[0]? =some self:=by rfl) (hN1:X.N[1]? =some x:=by rfl) (hv0:Vis X.env.scope self:=by first|exact Or.inl rfl|exact Or.inr (Or.inl rfl)|exact Or.inr (Or.inr rfl)) (hv1:Vis X.env.scope x:=by first|exact Or.inl rfl|exact Or.inr (Or.inl rfl)|exact Or.inr (Or.inr rfl))
  (d0:(self==("__debug__":Str))=false:=by decide) (d1:(x==("__debug__":Str))=false:=by decide) (d2:(xb==("__debug__":Str))=false:=by decide)
  (e0:(self==("__classdict__":Str))=false:=by decide) (e1:(x==("__classdict__":Str))=false:=by decide)
  (s1:starEach [.Name self p3, .JoinedStr [.Constant (.str z) j r1, .FormattedValue (.Name x r2) 114 none r3] p7] X.env=(false,eval (.Name self p3) X.env)::starEach [.JoinedStr [.Constant (.str z) j r1, .FormattedValue (.Name x r2) 114 none r3] p7] X.env:=by rfl)
  (s2:starEach [.JoinedStr [.Constant (.str z) j r1, .FormattedValue (.Name x r2) 114 none r3] p7] X.env=(false,eval (.JoinedStr [.Constant (.str z) j r1, .FormattedValue (.Name x r2) 114 none r3] p7) X.env)::starEach [] X.env:=by rfl)
  (hpl:(backTo p8 (starEach [.JoinedStr [.Constant (.str z) j r1, .FormattedValue (.Name x r2) 114 none r3] p7] X.env)).any (·.1)=false:=by rfl) (hkw:backToKw p8 (keywordEach [] X.env)= []:=by rfl)
  (ht:eval (.Call (.Attribute (.Name xb p1) "__init__" p2) [.Name self p3, .JoinedStr [.Constant (.str z) j r1, .FormattedValue (.Name x r2) 114 none r3] p7] [] p8) X.env=(do
   let ov ←eval (.Name xb p1) X.env
   standAt p2.atName
   let (f,first) ←holding [ov] (getMethod ov "__init__" pl)
   callWith p8 f first (backTo p8 (starEach [.Name self p3, .JoinedStr [.Constant (.str z) j r1, .FormattedValue (.Name x r2) 114 none r3] p7] X.env)) (backToKw p8 (keywordEach [] X.env))):=by rfl)
  (w1:swapsWith (.Call (.Attribute (.Name xb p1) "__init__" p2) [.Name self p3, .JoinedStr [.Constant (.str z) j r1, .FormattedValue (.Name x r2) 114 none r3] p7] [] p8) none p9.line X.env=pure false:=by rfl)
  (s3:starEach [.Name x q3] X.env=(false,eval (.Name x q3) X.env)::starEach [] X.env:=by rfl) (hp2:(backTo q5 (starEach [] X.env)).any (·.1)=false:=by rfl)
  (w2:swapsWithSole [.Attribute (.Name self q1) attr q2] (.Call (.Name "list" q6) [.Name x q3] [] q5) q4.line X.env=pure false:=by rfl) (w3:swappedStores [.Attribute (.Name self q1) attr q2] (.Call (.Name "list" q6) [.Name x q3] [] q5) X.env=pure none:=by rfl)
  (w4:(assignEach [.Attribute (.Name self q1) attr q2] X.env).map (·.2)= [assign (.Attribute (.Name self q1) attr q2) X.env]:=by rfl):
  XInR X C attr [.Expr (.Call (.Attribute (.Name xb p1) "__init__" p2) [.Name self p3, .JoinedStr [.Constant (.str z) j r1, .FormattedValue (.Name x r2) 114 none r3] p7] [] p8) p9, .Assign [.Attribute (.Name self q1) attr q2] (.Call (.Name "list" q6) [.Name x q3] [] q5) q4]:=⟨by
 refine PSs.weak (pss_cons (ps_expr (pe_binit (pl:=pl) Z hg hm (pa_cons (pe_var hN0 hv0 d0 e0) (pa_cons (pe_joinL 1 hr hz hN1 hv1 d1 e1) pa_nil s2) s1) d2 s1 hpl hkw ht) w1) (pss_one (ps_asg (pe_callTy call_list_frz hgl hml (by decide +kernel) (pa_cons (pe_var hN1 hv1 d1 e1) pa_nil s3) (by decide) (by decide) s3 hp2) (pg_exc hex Z hna (pe_var hN0 hv0 d0 e0)) w2 w3 w4))) fun D σ H ⟨a,l,xs,h0,h1,sq,ht,hH,q⟩=> ?_
 refine ⟨.ref a,h0,⟨l,xs,h1,sq,ht⟩,fun t=>⟨a,t,rfl,hH, .ref l,h1,l,xs.map V.str,rfl,sq,fun n o hn=>⟨.ref a,h0,a,rfl,?_,fun d hd _=> ?_⟩⟩⟩
 ·rw [upd_ne (fun z=>by rw [←z,hH] at hn;cases hn)];exact hH
 ·have hdn:d≠n:=fun z=>by rw [z,upd_same] at hd;cases hd
  rw [upd_ne hdn] at hd
  exact q n o d hn hd hdn⟩
end
structure FnR (P:Program) (w:World) (K:PySem.W.Frag) (mg:Str→Option Value) (base:Heap) (k:Nat) (c attr:Str):Prop where
 ex:∃ j C S f fd ps,j+1≤k∧FnOkH P w K mg base CX0 j f fd ps (spR K C attr)∧XInit K C S f∧mg c=some (.ref C)∧PySem.W.nsIn K mainGlobals c=some (some (.ref C))∧Binds K fd ps []
theorem FnR.mono {P:Program} {w:World} {K:PySem.W.Frag} {mg:Str→Option Value} {base:Heap} {j k:Nat} {c attr:Str} (F:FnR P w K mg base j c attr) (h:j≤k):FnR P w K mg base k c attr:=by
 obtain ⟨i,C,S,f,fd,ps,a,b⟩:=F.ex
 exact ⟨i,C,S,f,fd,ps,Nat.le_trans a h,b⟩
theorem fn_excR {P:Program} {w:World} {K:PySem.W.Frag} {mg:Str→Option Value} {base:Heap} {k:Nat} {c qual attr:Str} {st:Stmt} {C S fa:Addr} {fd:FuncData} {N ps:List Str} (F:Fun K "__init__" qual st fa fd) (T:FnScope N ps (defScope st))
  (Z:XInit K C S fa) (hm:mg c=some (.ref C)) (hc:PySem.W.nsIn K mainGlobals c=some (some (.ref C))) (hb:Binds K fd ps [])
  (body:∀ (cdv:Value) (A:Around) (outer:List Env) (s:Shared) (H:Hp) (E:XK),RoomH k (A.deeper (envOfC qual (defScope st) s.heap.objs.size fa cdv))→
   XInR (cxH CX0 P w K mg base N qual (defScope st) fa cdv A outer s H E).nox C attr (defBody st)) (hps:ps.length=2:=by rfl):FnR P w K mg base (k+1+1) c attr:=by
 refine ⟨k+1,C,S,fa,fd,ps,Nat.le_refl _,F.okH T (fun vs H Q E h=> ?_) (fun cdv A outer s H vs Q E hr h=> ?_),Z,hm,hc,hb⟩
 ·obtain ⟨a,l,xs,rfl,_⟩:=h
  rw [hps];rfl
 ·obtain ⟨a,l,xs,rfl,sq,ht,h3,q⟩:=h
  exact ⟨_,(body cdv A outer s _ E hr).h,a,l,xs,rfl,rfl,sq,ht,h3,q⟩
def smlR:D→Bool
 | .lst ds=>decide (ds.length≤100)&&ds.all fun d=>match d with
  | .str x=>decide (x.length≤60)&&x.cps.all (fun c=>decide (c<1114112))
  |_=>false
 |_=>false
theorem smlR_strs {K:PySem.W.Frag} {W:WS} {H:Hp}:∀ {ds:List D} {vs:List V},(ds.all fun d=>match d with
  | .str x=>decide (x.length≤60)&&x.cps.all (fun c=>decide (c<1114112))
  |_=>false)=true→HasL K W H ds vs→∃ xs:List Str,vs=xs.map V.str∧xs.length=ds.length∧ds.map sclV=vs.map some∧∀ x∈xs,(reprText x).length≤1000
 | [],vs,_,r=>by rw [HasL] at r;subst r;exact ⟨[],rfl,rfl,rfl,fun x hx=>absurd hx List.not_mem_nil⟩
 |d::ds,vs,h,r=>by
  rw [HasL] at r
  obtain ⟨v,t,rfl,hv,ht⟩:=r
  rw [List.all_cons,Bool.and_eq_true] at h
  obtain ⟨xs,e,l,sm,q⟩:=smlR_strs h.2 ht
  cases d with
  |str x=>
   rw [Has] at hv
   have h1:(decide (x.length≤60)&&x.cps.all (fun c=>decide (c<1114112)))=true:=h.1
   rw [Bool.and_eq_true,decide_eq_true_eq] at h1
   refine ⟨x::xs,by rw [hv,e];rfl,by rw [List.length_cons,List.length_cons,l],by rw [List.map_cons,List.map_cons,sm,hv];rfl,fun y hy=> ?_⟩
   rcases List.mem_cons.mp hy with rfl|hy
   ·exact repr_small h1.1 h1.2
   ·exact q y hy
  |_=>cases h.1
def raiR (c attr:Str) (ds:List D):Out:=match ds with
 | [d]=>if smlR d=true then .ex c [.tup [.str attr],d] else .stuck
 |_=> .stuck
def sRaiseR (c attr:Str) (fs:DSt→Res (List D)):DSt→Out:=fun δ=>ofR (fs δ) (raiR c attr)
theorem upd3 {H:Hp} {b n d:Addr} {e1 e2 l x:HO} (h:n≠b):upd (upd (upd (upd H b e1) n l) b e2) d x=upd (upd (upd H n l) b e2) d x:=by
 funext y
 unfold upd
 by_cases h1:y=d
 ·rw [if_pos h1,if_pos h1]
 ·by_cases h2:y=b
  ·simp only [if_neg h1,if_pos h2]
  ·by_cases h3:y=n
   ·simp only [if_neg h1,if_neg h2,if_pos h3]
   ·simp only [if_neg h1,if_neg h2,if_neg h3]
section
variable {X:Cx} {xw:XW} {C S f:Addr} {fd:FuncData} {ps:List Str} {k:Nat} {x c attr:Str} {p pos np cpos:Pos} {e a:Expr} {es:List Expr} {t:TA} {fs:DSt→Res (List D)}
theorem pe_excR (Z:XInit X.K C S f) (G:FnOkH X.prog X.w X.K X.mg X.base CX0 k f fd ps (spR X.K C attr)) (hr:RoomH (k+1) X.A) (hg:Gl X x) (hm:X.mg x=some (.ref C)) (hb:Binds X.K fd ps []) (hex:X.ex= [])
  (ha:PA X (e::es) t) (hdb:(x==("__debug__":Str))=false:=by decide) (he:starEach (e::es) X.env=(false,eval e X.env)::starEach es X.env:=by rfl) (hpl:(backTo pos (starEach es X.env)).any (·.1)=false:=by rfl):
  PE X (.Call (.Name x p) (e::es) [] pos) (fun σ H Q=>t σ H fun vs H1=>∃ l xs,vs= [.ref l]∧SqL X.K H1 l (xs.map V.str)∧Txts xs∧∀ b n o d,H1 b=none→H1 n=none→H1 d=none→n≠b→d≠b→d≠n→X.s₀.heap.get? b=none→Q (.ref b) (upd (upd (upd H1 n (.frz o (.lst (xs.map V.str)))) b (.ext (ExcO b C (some d)))) d (.xd [(attr, .ref n)]))):=by
 intro pins s σ H Q I h
 refine wpAny_Call_Name_kw (ld_glob I hg hm ?_ hdb)
 refine PySem.W.callWith_K (h₀:=X.base) I.ok.mod.kin Z.kpC (thn (ha pos pins s σ H _ I h) fun us s1 ⟨vs,H1,I1,r,l,xs,evs,sq,ht,q⟩=>⟨I1.kIn,?_⟩) he hpl
 subst evs
 refine run_excH Z G hr hb I1 r (by show us.length≤_;rw [←r.length,sizeLine_eq];exact (by decide:1≤16777216)) fun b hb1 hb2=> ?_
 have sq':SqL X.K (upd H1 b (.ext (ExcN b C))) l (xs.map V.str):=by
  rcases sq with (z|⟨o,z⟩)|z
  ·exact .inl (.inl (by rw [upd_ne (ne_of_none z hb1)];exact z))
  ·exact .inl (.inr ⟨o,by rw [upd_ne (ne_of_none z hb1)];exact z⟩)
  ·exact .inr z
 refine ⟨b,l,xs,rfl,sq',ht,upd_same,fun n o d hn hd hdn=>⟨rfl,?_⟩⟩
 have hnb:n≠b:=fun z=>by rw [z,upd_same] at hn;cases hn
 have hdb':d≠b:=fun z=>by rw [z,upd_same] at hd;cases hd
 rw [upd_ne hnb] at hn
 rw [upd_ne hdb'] at hd
 rw [upd3 hnb]
 refine q b n o d hb1 hn hd hnb hdb' hdn ?_
 cases z:X.s₀.heap.get? b with
 |none=>rfl
 |some o=>
  obtain ⟨o',e'⟩:=I1.base.there b o z (by rw [hex];simp)
  rw [hb2] at e';cases e'
def endR (X:Cx) (xw:XW) (C:Addr) (c attr:Str):VK:=fun v H'=>∃ b n d H2 o es xs,v= .ref b∧H'=upd (upd (upd H2 n (.frz o (.lst xs))) b (.ext (ExcO b C (some d)))) d (.xd [(attr, .ref n)])∧H2 b=none∧n≠b∧d≠b∧d≠n∧X.s₀.heap.get? b=none∧es.map sclV=xs.map some∧xw c [.tup [.str attr], .lst es] (upd (upd H2 n (.frz o (.lst xs))) d (.xd [(attr, .ref n)]))
theorem s_raiseR (F:FnR X.prog X.w X.K X.mg X.base k c attr) (hr:Room k X.A) (hx:RaiseO X xw) (hcalm:X.calm=true) (ha:XA X xw (a::es) fs) (hex:X.ex= []:=by rfl) (hg:Gl X c:=by rfl)
  (hdb:(c==("__debug__":Str))=false:=by decide) (he:starEach (a::es) X.env=(false,eval a X.env)::starEach es X.env:=by rfl) (hpl:(backTo cpos (starEach es X.env)).any (·.1)=false:=by rfl):
  XS X xw (.Raise (some (.Call (.Name c np) (a::es) [] cpos)) none pos) (sRaiseR c attr fs):=⟨by
 obtain ⟨j,C,S,f,fd,ps,hj,G,Z,hm,hn,hb⟩:=F.ex
 intro pins s σ H Dn I ⟨W₀,H₀,W,δ,st,q⟩
 have rd:tDA X.K xw fs σ H (fun vs H1=>∃ l xs,vs= [.ref l]∧SqL X.K H1 l (xs.map V.str)∧Txts xs∧∀ b n o d,H1 b=none→H1 n=none→H1 d=none→n≠b→d≠b→d≠n→X.s₀.heap.get? b=none→endR X xw C c attr (.ref b) (upd (upd (upd H1 n (.frz o (.lst (xs.map V.str)))) b (.ext (ExcO b C (some d)))) d (.xd [(attr, .ref n)]))):=by
  refine ⟨W₀,H₀,W,δ,st,?_⟩
  have q0:RS X.K xw W₀ H₀ W H (ofR (fs δ) (raiR c attr)) Dn:=q
  cases hf:fs δ with
  |stuck=>rw [hf] at q0;exact q0
  |ex c' fs'=>rw [hf] at q0;exact fun H2 k2=>q0 H2 (st.fr.ext.trans k2)
  |ok ds=>
   rw [hf] at q0
   have q':RS X.K xw W₀ H₀ W H (raiR c attr ds) Dn:=q0
   unfold raiR at q'
   split at q'
   ·rename_i d
    split at q'
    ·rename_i hi
     intro vs H2 k2 hv
     rw [HasL] at hv
     obtain ⟨v,r,rfl,hv,hr'⟩:=hv
     rw [HasL] at hr'
     subst hr'
     cases d with
     |lst es'=>
      rw [Has] at hv
      obtain ⟨l,ws,rfl,lr,hw⟩:=hv
      have hi':(decide (es'.length≤100)&&es'.all fun d=>match d with
       | .str x=>decide (x.length≤60)&&x.cps.all (fun c=>decide (c<1114112))
       |_=>false)=true:=hi
      rw [Bool.and_eq_true,decide_eq_true_eq] at hi'
      obtain ⟨xs,rfl,xl,sm,xq⟩:=smlR_strs hi'.2 hw
      refine ⟨l,xs,rfl,lr.sq,⟨by omega,xq⟩,fun b n o d hb1 hn1 hd1 hnb hdb1 hdn hb2=>⟨b,n,d,H2,o,es',_,rfl,rfl,hb1,hnb,hdb1,hdn,hb2,sm,q' _ ((st.fr.ext.trans k2).trans fun y o' e'=> ?_)⟩⟩
      rw [upd_ne (ne_of_none e' hd1),upd_ne (ne_of_none e' hn1)];exact e'
     |_=>cases hi
    ·exact q'.elim
   ·exact q'.elim
 obtain ⟨nm,qn,N,bs,bm,hdct,sn,sub,ab,col,dd,k0,k1,k2,k3,k5,lk,_,_,tl⟩:=Z.obj
 have T:=PySem.W.tail_of_in I.kIn tl
 rw [arm_exec_Raise]
 refine wpAny_bind (wpAny_standAt (raise_made (C:=C) (nm:=nm) (q:=qn) (N:=N) (bs:=bs) (bm:=bm) (hdct:=hdct) (sn:=sn) (sub:=sub) (ab:=ab) (col:=col) (dd:=dd) (k0:=k0) (k1:=k1) (k2:=k2) (k3:=k3) (k5:=k5) (newId:="ValueError.__new__") (T.hasType PySem.F.excBase_ValueError.hasBase) (I.ok.hd hcalm) ?_))
 refine wpAny_bind (thn (pe_excR Z G (hr.h.mono hj) hg hm hb hex ha.h hdb he hpl pins s σ H (endR X xw C c attr) I rd) fun v s1 ⟨y,H1,I1,r,b,n,d,H2,o,es',xs,ey,eH,h1,hnb,hdb',hdn,h2,sm,qx⟩=> ?_)
 subst ey eH
 obtain rfl:v= .ref b:=r
 have hb0:upd H2 n (.frz o (.lst xs)) b=none:=by rw [upd_ne (Ne.symm hnb)];exact h1
 have hbb:upd (upd (upd H2 n (.frz o (.lst xs))) b (.ext (ExcO b C (some d)))) d (.xd [(attr, .ref n)]) b=some (.ext (ExcO b C (some d))):=by rw [upd_ne (Ne.symm hdb')];exact upd_same
 obtain ⟨⟨t0,sl,hb'⟩,_,_⟩:=I1.hok b _ hbb
 refine wpAny_bind (wpAny_standAt (wpAny_pure ?_))
 refine ⟨b,some d,t0,sl,rfl,I1.kIn _ _ lk,hb',?_⟩
 exact hx pins σ _ s1 b C (some d) c [.tup [.str attr], .lst es'] I1 hbb h2 hn (by rw [del_upd2 hb0 hdb'];exact ⟨rfl,d,[(attr, .ref n)],rfl,upd_same,rfl, .inr ⟨es',n,o,xs,rfl,rfl,by rw [upd_ne (Ne.symm hdn)];exact upd_same,sm⟩,trivial⟩) (by rw [del_upd2 hb0 hdb'];exact qx)⟩
end
end L3
namespace L3
open PySem PySem.Spec PyProof.Rows L2 SeqAt
def idxV (y:V) (xs:List V):Option Nat:=xs.findIdx? fun z=>eqV z y
section
variable {X:Cx}
def rIdx (K:PySem.W.Frag):V→List V→Hp→VK→Prop:=fun x vs H Q=>∃ l xs y j,x= .ref l∧vs= [y]∧SqL K H l xs∧flatV y=true∧xs.all flatV=true∧idxV y xs=some j∧Q (.int (j:Int)) H
theorem eqU_at {y:V} {xs:List V} {its:List Value} (r:Vals xs its) (f:xs.all flatV=true) {i:Nat} {x:V} {u:Value} (h1:xs[i]? =some x) (h2:its[i]? =some u):eqU y u=eqV x y:=by
 obtain ⟨u',e,ru⟩:=r.get h1
 rw [h2] at e;cases e
 exact eqU_of ru (List.all_eq_true.mp f x (List.mem_of_getElem? h1))
theorem mt_idx:MtR X "list.index" (rIdx X.K):=by
 intro pins s σ H x vs v us Q I rx rv h
 obtain ⟨l,xs,y,j,rfl,rfl,sq,fy,fs,hj,q⟩:=h
 cases rx
 obtain ⟨u,rfl,ru⟩:=rv.one
 obtain ⟨its,r,pl,hz⟩:=I.list sq
 obtain ⟨o,n,e,hc,hd,hdt⟩:=pl
 obtain ⟨cls,dd,data,sl⟩:=o
 simp only at hc hd hdt
 subst hc hd hdt
 have hl:=r.length
 obtain ⟨jl,hit,hno⟩:=List.findIdx?_eq_some_iff_getElem.mp hj
 have at':∀ m (hm:m<its.toArray.size) (hx:m<xs.length),eqU y its.toArray[m]=eqV xs[m] y:=fun m hm hx=>by
  refine eqU_at r fs (i:=m) (List.getElem?_eq_getElem hx) ?_
  rw [List.getElem?_eq_getElem (by simpa using hm)]
  simp
 have sz:sizeLine=16777216:=sizeLine_eq
 refine call_meets F.slot_list_index ⟨_,e,rfl⟩ F.entry_list_index (F.args_list_index_2 _ _) (SeqAt.list_indexAt l its.toArray n none sl u (eqU y) j (by rw [List.size_toArray];omega) (by omega) (by rw [at' j _ jl];exact hit) (fun m hm hmj=>by
  rw [at' m hm (by omega)]
  have:=hno m hmj
  simpa using this)) ⟨e,fun z hz'=>mem_eqAt ru fy r fs z (by simpa using hz'),?_⟩
 exact ⟨.int (j:Int),H,I.tok _,⟨_,rfl⟩,q⟩
end
def idxR (d:D) (as:List D):Res D:=match d,as with
 | .lst ds,[y]=>if (flatD y&&ds.all flatD)=true then (match ds.findIdx? fun z=>eqD z y with
  |some j=> .ok (.int (j:Int))
  |none=> .stuck) else .stuck
 |_,_=> .stuck
def bL (op:D→List D→Res D) (f:DSt→Res D) (g:DSt→Res (List D)):DSt→Res D:=fun δ=>(f δ).bind fun x=>match x with
 | .lst ds=>(g δ).bind (op (.lst ds))
 |_=> .stuck
section
variable {K:PySem.W.Frag} {W:WS} {H:Hp}
theorem idx_has {d:D} {v:V} (h:Has K W H d v) (f:flatD d=true):∀ {ds:List D} {xs:List V},HasL K W H ds xs→ds.all flatD=true→xs.all flatV=true∧(xs.map fun z=>eqV z v)=ds.map fun z=>eqD z d
 | [],_,r,_=>by rw [HasL] at r;subst r;exact ⟨rfl,rfl⟩
 |e::ds,_,r,fs=>by
  rw [HasL] at r
  obtain ⟨x,q,rfl,hx,hq⟩:=r
  rw [List.all_cons,Bool.and_eq_true] at fs
  obtain ⟨h1,h2⟩:=idx_has h f hq fs.2
  refine ⟨by rw [List.all_cons,flat_has hx fs.1,h1];rfl,?_⟩
  rw [List.map_cons,List.map_cons,h2,eq_has hx h fs.1 f]
end
theorem find_map {α:Type} (p:α→Bool) (l:List α):l.findIdx? p=(l.map p).findIdx? id:=by rw [List.findIdx?_map];rfl
section
variable {X:Cx} {xw:XW} {o e:Expr} {f:DSt→Res D} {fs:DSt→Res (List D)} {apos cpos:Pos}
theorem meth_read {σ:L2.St} {H:Hp} {Q:VK} {op:D→List D→Res D} {r:V→List V→Hp→VK→Prop} (hop:∀ W H2 ds as l xs vs,WL W H2→SqL X.K H2 l xs→HasL X.K W H2 ds xs→HasL X.K W H2 as vs→RE X.K xw W H2 (op (.lst ds) as) Q→r (.ref l) vs H2 Q)
  (h:tDE X.K xw (bL op f fs) σ H Q):tDP X.K xw f σ H fun x H1=>tyV X.K "list" x H1∧tDA X.K xw fs σ H1 fun vs H2=>r x vs H2 Q:=by
 obtain ⟨W₀,H₀,W,δ,st,q⟩:=h
 refine ⟨W₀,H₀,W,δ,st,?_⟩
 unfold bL at q
 cases h1:f δ with
 |stuck=>rw [h1] at q;exact q
 |ex c fs=>rw [h1] at q;exact q
 |ok d=>
  rw [h1] at q
  intro v H1 k1 hv
  cases d with
  |lst ds=>
   have q':RE X.K xw W H ((fs δ).bind (op (.lst ds))) Q:=q
   obtain ⟨l,xs,rfl,sq,rr⟩:=hv.lst
   refine ⟨.inl ⟨rfl,xs,sq⟩,W₀,H₀,W,δ,st.same k1,?_⟩
   cases h2:fs δ with
   |stuck=>rw [h2] at q';exact q'
   |ex c gs=>rw [h2] at q';exact fun H2 k2=>q' H2 (k1.trans k2)
   |ok as=>
    rw [h2] at q'
    intro vs H2 k2 ha
    have sq2:SqL X.K H2 l xs:=by
     rcases sq with (z|⟨o,z⟩)|z
     ·exact .inl (.inl (k2 _ _ z))
     ·exact .inl (.inr ⟨o,k2 _ _ z⟩)
     ·exact .inr z
    exact hop W H2 ds as l xs vs ((st.fr.wl.same k1).same k2) sq2 (rr.same k2 (st.fr.wl.same k1)) ha (RE.same (show RE X.K xw W H (op (.lst ds) as) Q from q') (k1.trans k2))
  |_=>exact q.elim
theorem x_index (ho:XP X xw o f) (ha:XA X xw [e] fs)
  (hbase:attributeBase o "index" X.env (eval o X.env)=eval o X.env:=by rfl)
  (hfew:((backTo cpos (starEach [e] X.env)).all (fun x=> !x.1)&&(backToKw cpos (keywordEach [] X.env)).all (fun x=>x.1.isSome)
   &&decide (([e]:List Expr).length+([]:List Keyword).length+(if ([]:List Keyword).isEmpty then 0 else 1)<30))=true:=by rfl)
  (hline:(apos.endLine==cpos.line)=true:=by rfl) (hs:starEach [e] X.env=(false,eval e X.env)::starEach [] X.env:=by rfl) (hplain:(backTo cpos (starEach [] X.env)).any (·.1)=false:=by rfl):
  XE X xw (.Call (.Attribute o "index" apos) [e] [] cpos) (bL idxR f fs):=
 ⟨PE.weak (pe_bm PySem.F.plainAttrs_list PySem.F.slot_list_index PySem.F.type_list_index mt_idx ho.h ha.h hbase hfew hline hs hplain) fun σ H Q h=>meth_read (fun W H2 ds as l xs vs w sq r ra q=>by
  unfold idxR at q
  split at q
  ·rename_i ds' y e1
   cases e1
   rw [HasL] at ra
   obtain ⟨v,t,rfl,hv,ht⟩:=ra
   rw [HasL] at ht
   subst ht
   split at q
   ·rename_i hf
    rw [Bool.and_eq_true] at hf
    obtain ⟨a1,a2⟩:=idx_has hv hf.1 r hf.2
    split at q
    ·rename_i j hj
     refine ⟨l,xs,v,j,rfl,rfl,sq,flat_has hv hf.1,a1,?_,q (.int (j:Int)) H2 (Same.refl _) (by rw [Has])⟩
     unfold idxV
     rw [find_map,a2,←find_map];exact hj
    ·exact q.elim
   ·exact q.elim
  ·exact q.elim) h⟩
end
end L3
namespace L3
open PySem PySem.Spec PyProof.Rows L2 SeqAt
theorem rl_nolen:typeLookup (.type "list_reverseiterator") "__len__"=pure none:=by rw [typeLookup_type,builtinLookup_eq_fast];kernel_rfl
theorem rl_hlook:typeLookup (.type "list_reverseiterator") "__length_hint__"=pure (some (.builtin "list_reverseiterator.__length_hint__")):=by rw [typeLookup_type,builtinLookup_eq_fast];kernel_rfl
section
variable {prog:Program} {w:World} {A:Around} {E:Value→Shared→Prop} {s:Shared} {it l:Addr} {xs:Array Value}
theorem rl_hint {Q:Bool→Shared→Prop} (ty:s.TypeIs (.ref it) "list_reverseiterator") (fin:Q false s):wpAny (model prog w) A (Builtin.List.listLengthHint (.ref it)) Q E s:=by
 unfold Builtin.List.listLengthHint
 refine wpAny_bind (wpAny_specialOf ty rl_nolen ?_)
 show wpAny _ A (specialOf (Value.ref it) (Str.ofString "__length_hint__") >>= _) _ _ _
 refine wpAny_bind (wpAny_specialOf ty rl_hlook ?_)
 generalize hid:("list_reverseiterator.__length_hint__":String)=nm
 wp_delta
 rw [show splitId nm=some ("list_reverseiterator","__length_hint__") from by subst hid;decide +kernel]
 subst hid
 refine wpAny_bind (wpAny_isInstance (T:="list_reverseiterator") (b:=true) ty (by rw [isSubtype_type];kernel_rfl) ?_)
 refine wpAny_ite_split (fun no=>absurd no (by decide)) (fun _=> ?_)
 refine wpAny_ite_split (fun _=> ?_) (fun no=>absurd (by decide +kernel) no)
 dsimp only
 refine wpAny_ite_split (fun no=>absurd no (by decide)) (fun _=> ?_)
 exact wpAny_pure fin
theorem rl_ext {R:Result→Shared→Prop} (hh:A.handled=none) (hit:s.heap.IsRevIter it l ((xs.size:Int)-1)) (hl:s.heap.IsList l xs) (hne:l≠it) (hz:xs.size≤sizeLine) (N:Addr) (hNi:N≠it) (hNl:N≠l) (ans:Value) (c:Nat) (hN:s.heap.get? N=some {cls:= .type "list",data:= .seq #[] c})
  (hR:∀ h' tk acc c',(∀ b o,b≠N→b≠it→s.heap.get? b=some o→h'.get? b=some o)→h'.get? N=some {cls:= .type "list",dict:=none,data:= .seq acc c',slots:= #[]}→ItemsOf (fun i v=>xs[xs.size-1-i]? =some v) acc xs.size→R (.ok (.ret ans)) {s with heap:=h',toks:=tk}):
  wpAny (model prog w) A.in1 (Builtin.List.listExtendWith (.ref N) (.ref it) ans)
   (fun fin s'=>match fin with| .done f=>R (.ok f) s'| .again c'=>c'.quiet=true∧codeAny (model prog w) A c' R s') (fun e s'=>R (.error e) s') s:=by
 have W:=Walks.listRev (prog:=prog) (w:=w) (A:=A.in1) hh it l hne xs
 have hNf:N∉ [it,l]:=by
  simp only [List.mem_cons,List.not_mem_nil,or_false,not_or]
  exact ⟨hNi,hNl⟩
 have st0:∀ h:Heap,(∀ b o,b≠N→s.heap.get? b=some o→h.get? b=some o)→0≤xs.size∧h.IsRevIter it l ((xs.size:Int)-1-((0:Nat):Int))∧h.IsList l xs:=fun h k=>by
  refine ⟨Nat.zero_le _,?_,hl.at fun o e=>k l o (Ne.symm hNl) e⟩
  have e:(xs.size:Int)-1-((0:Nat):Int)=(xs.size:Int)-1:=by simp
  rw [e]
  exact hit.at fun o e=>k it o (Ne.symm hNi) e
 have turn:∀ (h:Heap) (c1 tk:Nat),(∀ b o,b≠N→s.heap.get? b=some o→h.get? b=some o)→h.get? N=some {cls:= .type "list",data:= .seq #[] c1}→
   codeAny (model prog w) A (.builtin "list.extend.loop" ⟨[.ref N, .ref it,ans],[]⟩) R {s with heap:=h,toks:=tk}:=fun h c1 tk k hN1=>by
  refine codeAny_extend_loopS W.toS hz N hNf ans xs.size 0 _ #[] c1 rfl (Nat.zero_le _) (st0 h k) hN1 (ItemsOf.nil _) fun s' acc c' hm hN' hacc=> ?_
  rw [Moved.eq_with hm]
  refine hR s'.heap s'.toks acc c' (fun b o hb hbi e=>hm.heap b o (fun z=> ?_) (k b o hb e)) hN' hacc
  rcases List.mem_cons.mp z with z|z
  ·exact hb z
  ·exact hbi (List.mem_singleton.mp z)
 unfold Builtin.List.listExtendWith
 refine wpAny_bind (wpAny_typeOf (T:="list_reverseiterator") hit.typeIs ?_)
 have g1:Builtin.List.listSameRef (.ref N) (.ref it)=false:=by simp [Builtin.List.listSameRef,hNi]
 have g2:(Value.type "list_reverseiterator"==Value.type "list")=false:=by decide
 have g3:(Value.type "list_reverseiterator"==Value.type "tuple")=false:=by decide
 simp only [g1,g2,g3,Bool.or_false,Bool.false_eq_true,if_false]
 refine wpAny_bind (wpAny_pyIter_revIter hit ?_)
 refine wpAny_bind (wpAny_holding (rl_hint hit.typeIs ?_))
 have same:∀ b o,b≠N→s.heap.get? b=some o→s.heap.get? b=some o:=fun _ _ _ e=>e
 refine wpAny_ite_split (fun z=>absurd z Bool.false_ne_true) (fun _=>wpAny_pure ⟨plainId_quiet PySem.F.plain_extend_loop _,turn _ c _ same hN⟩)
theorem rl_init {R:Result→Shared→Prop} (hh:A.handled=none) (hit:s.heap.IsRevIter it l ((xs.size:Int)-1)) (hl:s.heap.IsList l xs) (hne:l≠it) (hz:xs.size≤sizeLine) (N:Addr) (hNi:N≠it) (hNl:N≠l) (hN:s.heap.get? N=some {cls:= .type "list",data:= .seq #[]})
  (hR:∀ h' tk acc c',(∀ b o,b≠N→b≠it→s.heap.get? b=some o→h'.get? b=some o)→h'.get? N=some {cls:= .type "list",dict:=none,data:= .seq acc c',slots:= #[]}→ItemsOf (fun i v=>xs[xs.size-1-i]? =some v) acc xs.size→R (.ok (.ret .none)) {s with heap:=h',toks:=tk}):
  wpAny (model prog w) A.in1 (Builtin.«list.__init__» ⟨[.ref N, .ref it],[]⟩)
   (fun fin s'=>match fin with| .done f=>R (.ok f) s'| .again c'=>c'.quiet=true∧codeAny (model prog w) A c' R s') (fun e s'=>R (.error e) s') s:=by
 show wpAny _ A.in1 (do let was ←Builtin.List.listItems (.ref N);Builtin.List.listUpdate (.ref N) (fun _=> #[]);letGo was.toList.reverse;Builtin.List.listExtendWith (.ref N) (.ref it) .none) _ _ s
 refine wpAny_bind ?_
 unfold Builtin.List.listItems
 refine wpAny_bind (wpAny_seqItems hN rfl (wpAny_pure ?_))
 show wpAny _ A.in1 (updateSeq N (fun _=> #[]) >>= fun _=>letGo (#[]:Array Value).toList.reverse >>= fun _=>Builtin.List.listExtendWith (.ref N) (.ref it) .none) _ _ s
 refine wpAny_bind (wpAny_updateSeq hN rfl ?_)
 have hN2:=Heap.get?_update_self (Obj.mapSeq (fun _=>(#[]:Array Value))) hN rfl
 have oth:∀ b o,b≠N→s.heap.get? b=some o→(s.heap.update N (Obj.mapSeq (fun _=>(#[]:Array Value)))).get? b=some o:=fun b o hb e=>(Heap.get?_update_other _ _ (Ne.symm hb)).trans e
 refine wpAny_bind (wpAny_letGo ?_)
 refine rl_ext hh (hit.at fun o e=>oth it o (Ne.symm hNi) e) (hl.at fun o e=>oth l o (Ne.symm hNl) e) hne hz N hNi hNl .none _ hN2 fun h' tk acc c' k hN' hacc=> ?_
 exact hR h' tk acc c' (fun b o hb hbi e=>k b o hb hbi (oth b o hb e)) hN' hacc
theorem rl_call {Q:Value→Shared→Prop} (hh:A.handled=none) (hit:s.heap.IsRevIter it l ((xs.size:Int)-1)) (hl:s.heap.IsList l xs) (hne:l≠it) (hz:xs.size≤sizeLine)
  (hQ:∀ h' tk acc c',(∀ b o,b≠it→s.heap.get? b=some o→h'.get? b=some o)→h'.get? s.heap.objs.size=some {cls:= .type "list",dict:=none,data:= .seq acc c',slots:= #[]}→ItemsOf (fun i v=>xs[xs.size-1-i]? =some v) acc xs.size→Q (.ref s.heap.objs.size) {s with heap:=h',toks:=tk}):
  wpAny (model prog w) A (call (.type "list") [.ref it]) Q E s:=by
 have hi:it<s.heap.objs.size:=let ⟨o,ho,_⟩:=hit;Heap.lt_size ho
 have hL:l<s.heap.objs.size:=let ⟨o,ho,_⟩:=hl;Heap.lt_size ho
 refine callType_codes (Q₁:=fun obj s1=>obj= .ref s.heap.objs.size∧s1= {s with heap:=s.heap.push {cls:= .type "list",data:= .seq #[]}}) PySem.F.called_list (PySem.F.typeCall_list_1 _) PySem.F.entry_list_init (code_list_new _ ⟨rfl,rfl⟩) fun obj s1 z=> ?_
 obtain ⟨rfl,rfl⟩:=z
 have hN:(s.heap.push {cls:= .type "list",data:= .seq #[]}).get? s.heap.objs.size=some {cls:= .type "list",data:= .seq #[]}:=Heap.get?_push_size _ rfl
 refine ⟨⟨_,hN,rfl⟩,PySem.F.args_list_init_2 _ _,rl_init (A:=A.in1) hh (hit.at fun o e=>Heap.get?_push_of_some _ e) (hl.at fun o e=>Heap.get?_push_of_some _ e) hne hz _ (Nat.ne_of_gt hi) (Nat.ne_of_gt hL) hN fun h' tk acc c' k hN' hacc=> ?_⟩
 exact ⟨rfl,hQ h' tk acc c' (fun b o hb e=>k b o (Nat.ne_of_lt (Heap.lt_size e)) hb (Heap.get?_push_of_some _ e)) hN' hacc⟩
end
section
variable {X:Cx} {xw:XW} {a:Expr} {p p2 pos pos2:Pos}
theorem pe_listRev {ta:TE} (hc:X.calm=true) (hm:X.mg "list"=none) (hg:Gl X "list") (hm2:X.mg "reversed"=none) (hg2:Gl X "reversed") (ha:PE X a ta)
  (h1:starEach [.Call (.Name "reversed" p2) [a] [] pos2] X.env=(false,eval (.Call (.Name "reversed" p2) [a] [] pos2) X.env)::starEach [] X.env) (h2:starEach [a] X.env=(false,eval a X.env)::starEach [] X.env)
  (h3:(backTo pos (starEach [] X.env)).any (·.1)=false) (h4:(backTo pos2 (starEach [] X.env)).any (·.1)=false):
  PE X (.Call (.Name "list" p) [.Call (.Name "reversed" p2) [a] [] pos2] [] pos) (fun σ H Q=>ta σ H fun x H1=>∃ l xs,x= .ref l∧SqL X.K H1 l xs∧∀ n,H1 n=none→Q (.ref n) (upd H1 n (.lst xs.reverse))):=by
 intro pins s σ H Q I h
 refine wpAny_Call_Name_kw (ld_blt I hg hm (show bootBuiltins "list"=some (.type "list") by decide +kernel) ?_ (by decide) (by decide))
 refine PyProof.Rows.callWith_type1 ?_ h1 h3
 rw [h1]
 show wpAny _ _ (spliced ((false,eval (.Call (.Name "reversed" p2) [a] [] pos2) X.env)::backTo pos (starEach [] X.env))) _ _ s
 refine Calls.spliced_cons ?_
 refine wpAny_Call_Name_kw (ld_blt I hg2 hm2 (show bootBuiltins "reversed"=some (.type "reversed") by decide +kernel) ?_ (by decide) (by decide))
 refine PyProof.Rows.callWith_type1 ?_ h2 h4
 rw [h2]
 show wpAny _ _ (spliced ((false,eval a X.env)::backTo pos2 (starEach [] X.env))) _ _ s
 refine Calls.spliced_cons (thn (ha pins s σ H _ I h) fun u s1 ⟨x,H1,I1,r1,l,xs,e,sq,q⟩=> ?_)
 subst e
 cases r1
 refine Calls.spliced_nil ?_
 obtain ⟨its,rv,pl,hz⟩:=I1.list sq
 have hl:=rv.length
 refine call_reversed_list pl.isList ?_
 refine Calls.spliced_nil ?_
 have hll:l<s1.heap.objs.size:=let ⟨o,n,e,_⟩:=pl;Heap.lt_size e
 have st:(s1.heap.push (revObj l ((its.toArray.size:Int)-1))).IsRevIter s1.heap.objs.size l ((its.toArray.size:Int)-1):=⟨_,Heap.get?_push_size _ rfl,rfl,rfl⟩
 refine rl_call (s:= {s1 with heap:=s1.heap.push (revObj l ((its.toArray.size:Int)-1))}) (I1.ok.hd hc) st (pl.isList.at fun o e=>Heap.get?_push_of_some _ e) (Nat.ne_of_lt hll) (by rw [List.size_toArray];omega) fun h' tk acc c' k hN hacc=> ?_
 obtain ⟨e1,e2⟩:=hacc
 have kk:∀ b o,s1.heap.get? b=some o→h'.get? b=some o:=fun b o e=>k b o (Nat.ne_of_lt (Heap.lt_size e)) (Heap.get?_push_of_some _ e)
 have hv:Vals xs.reverse acc.toList:=by
  refine vals_of (by have e9:acc.toList.length=its.toArray.size:=e1;rw [List.length_reverse,e9,List.size_toArray];exact hl) fun i x u hx hu=> ?_
  rw [Array.getElem?_toList] at hu
  have hi:i<xs.length:=by have:=(List.getElem?_eq_some_iff.mp hx).1;rwa [List.length_reverse] at this
  rw [List.getElem?_reverse hi] at hx
  have t:its.toArray[its.toArray.size-1-i]? =some u:=e2 i u hu
  obtain ⟨u',hu',ru⟩:=rv.get hx
  have e3:its.toArray[its.toArray.size-1-i]? =its[xs.length-1-i]? :=by rw [List.size_toArray,←hl];simp
  rw [e3,hu'] at t
  cases t
  exact ru
 have sz:(s1.heap.push (revObj l ((its.toArray.size:Int)-1))).objs.size=s1.heap.objs.size+1:=by simp
 rw [sz] at hN ⊢
 refine ⟨.ref (s1.heap.objs.size+1),_,I1.laid (a:=s1.heap.objs.size+1) (t':=tk) (o:= .lst xs.reverse) kk (Nat.le_succ _) ?_,rfl,q _ (I1.hok.fresh (Nat.le_succ _))⟩
 exact ⟨by rw [List.length_reverse];exact hz,acc.toList,c',hv,hN⟩
def listRevF (fa:DSt→Res D):DSt→Res (List D):=fun δ=>(fa δ).bind fun d=>revLR [d]
theorem f_listRev {fa:DSt→Res D} (hc:X.calm=true) (hm:X.mg "list"=none) (hm2:X.mg "reversed"=none) (ha:XP X xw a fa) (hg:Gl X "list":=by rfl) (hg2:Gl X "reversed":=by rfl)
  (h1:starEach [.Call (.Name "reversed" p2) [a] [] pos2] X.env=(false,eval (.Call (.Name "reversed" p2) [a] [] pos2) X.env)::starEach [] X.env:=by rfl) (h2:starEach [a] X.env=(false,eval a X.env)::starEach [] X.env:=by rfl)
  (h3:(backTo pos (starEach [] X.env)).any (·.1)=false:=by rfl) (h4:(backTo pos2 (starEach [] X.env)).any (·.1)=false:=by rfl):
  XF X xw (.Call (.Name "list" p) [.Call (.Name "reversed" p2) [a] [] pos2] [] pos) (listRevF fa):=
 ⟨PE.weak (pe_listRev hc hm hg hm2 hg2 ha.h h1 h2 h3 h4) fun σ H Q ⟨W₀,H₀,W,δ,st,q⟩=>by
  refine ⟨W₀,H₀,W,δ,st,?_⟩
  have q:RF X.K xw W H ((fa δ).bind fun d=>revLR [d]) Q:=q
  cases h1:fa δ with
  |stuck=>rw [h1] at q;exact q
  |ex c fs=>rw [h1] at q;exact q
  |ok d=>
   rw [h1] at q
   intro v H1 k1 hv
   have q':RF X.K xw W H (revLR [d]) Q:=q
   cases d with
   |lst ds=>
    have q2:RF X.K xw W H (.ok ds.reverse) Q:=q'
    obtain ⟨l,xs,rfl,sq,r⟩:=hv.lst
    refine ⟨l,xs,rfl,sq,fun n hn=>q2 n xs.reverse H1 k1 hn ?_⟩
    have rr:∀ {ds:List D} {xs:List V},HasL X.K W H1 ds xs→HasL X.K W H1 ds.reverse xs.reverse:=by
     intro ds
     induction ds with
     |nil=>intro xs h;rw [HasL] at h;subst h;exact HasL.nil
     |cons d ds ih=>
      intro xs h
      rw [HasL] at h
      obtain ⟨x,t,rfl,hx,ht⟩:=h
      rw [List.reverse_cons,List.reverse_cons]
      exact (ih ht).snoc hx
    exact rr r
   |_=>exact q'.elim⟩
end
end L3
namespace L3
open PySem PySem.Spec PyProof.Rows L2 SeqAt
section
variable {X:Cx} {xw:XW} {a:Expr} {es:List Expr} {pos p:Pos} {fs:DSt→Res (List D)}
theorem l_nox (h:XAP X.nox xwF es fs):XAP X xw es (noxA fs):=⟨PA.weak (PA.nox h.h) fun σ H Q ⟨W₀,H₀,W,δ,st,q⟩=>⟨W₀,H₀,W,δ,st,by
 have q:RAP X.K xw W H (noex (fs δ)) Q:=q
 cases hq:fs δ with
 |ok d=>rw [hq] at q;exact q
 |ex c gs=>rw [hq] at q;exact q.elim
 |stuck=>rw [hq] at q;exact q.elim⟩⟩
def lentX (n:Nat) (m:List D→Res D) (ds:List D):Res D:=flatOnly (callX n m ds)
theorem x_lentX {k n:Nat} {f:Str} {m:List D→Res D} (F:FnX X.prog X.w X.K X.mg X.base k f n m) (hp:PassX X xw) (hr:Room k X.A) (ha:XAP X xw (a::es) fs) (hg:Gl X f:=by rfl)
  (hdb:(f==("__debug__":Str))=false:=by decide) (he:starEach (a::es) X.env=(false,eval a X.env)::starEach es X.env:=by rfl) (hpl:(backTo pos (starEach es X.env)).any (·.1)=false:=by rfl):
  XE X xw (.Call (.Name f p) (a::es) [] pos) (b1 (lentX n m) fs):=by
 obtain ⟨fa,fd,ps,G,hm,hk,hb⟩:=F.ex
 refine ⟨PE.weak (pe_call G hr hg hm hk hb .nil hp ha.h hdb he hpl) fun σ H Q ⟨W₀,H₀,W,δ,st,q⟩=> ?_⟩
 refine ⟨W₀,H₀,W,δ,st,?_⟩
 have q':RE X.K xw W H ((fs δ).bind (lentX n m)) Q:=q
 cases h1:fs δ with
 |stuck=>rw [h1] at q';exact q'
 |ex c gs=>rw [h1] at q';exact q'
 |ok ds=>
  rw [h1] at q'
  intro vs H1 k1 hv
  have q2:RE X.K xw W H (flatOnly (callX n m ds)) Q:=q'
  have hL:=hasTL_lent (st.fr.wl.same k1) hv
  unfold callX at q2
  split at q2
  ·rename_i hn
   rw [List.append_nil]
   refine ⟨by rw [←hL.length];exact hn,W0,ds,fun b z=>z.elim,hL,?_⟩
   cases h:m ds with
   |ex c fs=>
    rw [h] at q2
    have q3:∀ H',Same H H'→xw c fs H':=q2
    exact fun cls dx H' hn' k' xf=>⟨c,fs,hn',q3 H' (k1.trans k'),xf⟩
   |stuck=>rw [h] at q2;exact q2.elim
   |ok d=>
    rw [h] at q2
    have q3:RE X.K xw W H (if flatD d=true then .ok d else .stuck) Q:=q2
    split at q3
    ·rename_i hfl
     intro v H' k' hv'
     refine q3 v H' (k1.trans k') ?_
     cases d with
     |non=>rw [Has] at hv' ⊢;exact hv'
     |bl b=>rw [Has] at hv' ⊢;exact hv'
     |int b=>rw [Has] at hv' ⊢;exact hv'
     |str b=>rw [Has] at hv' ⊢;exact hv'
     |_=>cases hfl
    ·exact q3.elim
  ·exact q2.elim
end
end L3
namespace L3
open PySem
open Sem (wp)
def ddk {K:Type} [DecidableEq K] (σ:List K) (k:K):List K:=if k∈σ then σ else σ++ [k]
def mtk {K:Type} [DecidableEq K] (ks:List K):List K:=ks.foldl ddk []
theorem ddk_len {K:Type} [DecidableEq K] (σ:List K) (k:K):(ddk σ k).length≤σ.length+1:=by unfold ddk;split<;>simp
theorem foldk_len {K:Type} [DecidableEq K]:∀ (ns σ:List K),(ns.foldl ddk σ).length≤σ.length+ns.length
 | [],σ=>by simp
 |n::ns,σ=>by have:=foldk_len ns (ddk σ n);have:=ddk_len σ n;rw [List.foldl_cons,List.length_cons];omega
theorem mtk_len {K:Type} [DecidableEq K] (ns:List K):(mtk ns).length≤ns.length:=by have:=foldk_len ns [];simpa [mtk] using this
theorem mtk_take {K:Type} [DecidableEq K] {ns:List K} {i:Nat} {k:K} (h:ns[i]? =some k):mtk (ns.take (i+1))=ddk (mtk (ns.take i)) k:=by
 unfold mtk
 rw [List.take_add_one,List.foldl_append,h]
 rfl
section
variable {prog:Program} {w:World} {K:Type} [DecidableEq K] {knd:KeyKind prog w K} {A:Around} {R:Result→Shared→Prop} {I:Addr} {fp wr:List Addr} {G:Array GenState→Array GenState→Prop} {n:Nat} {P:Nat→Value→Prop} {St:Nat→Shared→Prop} {E:Value→Shared→Prop} {s:Shared}
def SB (knd:KeyKind prog w K) (h:Heap) (a:Addr) (σ:List K):Prop:=h.SetOf knd a (fun k=>decide (k∈σ)) σ.length
theorem SB.at' {h h':Heap} {a:Addr} {σ:List K} (x:SB knd h a σ) (k:∀ o,h.get? a=some o→h'.get? a=some o):SB knd h' a σ:=by
 obtain ⟨o,es,ep,t,ho,r⟩:=x;exact ⟨o,es,ep,t,k o ho,r⟩
theorem sb_add {a:Addr} {σ:List K} {k:K} {v:Value} {Q:Bool→Shared→Prop} (hk:knd.is k v=true) (hsc:v.scannable=true) (hS:SB knd s.heap a σ) (room:σ.length+1<scanBound)
  (h:∀ h' b,Heap.SameBut a s.heap h'→SB knd h' a (ddk σ k)→Q b {s with heap:=h'}):wpAny (model prog w) A (setAddHashed a v (knd.hash k)) Q E s:=by
 refine wpAny_setAddHashed_of hk hsc hS room fun h' sb hS'=>h h' _ sb ?_
 unfold SB ddk
 by_cases hm:k∈σ
 ·rw [if_pos hm]
  rw [decide_eq_true hm] at hS'
  have e:(fun k'=>decide (k'∈σ)||decide (k'=k))=fun k'=>decide (k'∈σ):=by
   funext k'
   by_cases h1:k'=k
   ·rw [h1,decide_eq_true hm];rfl
   ·rw [decide_eq_false h1,Bool.or_false]
  rw [e] at hS'
  exact hS'
 ·rw [if_neg hm]
  rw [decide_eq_false hm] at hS'
  have e:(fun k'=>decide (k'∈σ)||decide (k'=k))=fun k'=>decide (k'∈σ++ [k]):=by
   funext k'
   by_cases h1:k'=k
   ·rw [h1];simp
   ·simp [h1]
  rw [e] at hS'
  rw [List.length_append,List.length_singleton]
  exact hS'
theorem sb_loop (W:WalksS prog w A.in1 I fp wr G n P St) (S:Addr) (hSf:S∉fp) (ks:List K) (hn:ks.length=n) (hv:∀ i v,P i v→∃ k,ks[i]? =some k∧knd.is k v=true∧v.scannable=true) (hb:n+1<scanBound):
  ∀ (k i:Nat) (s:Shared),n-i=k→i≤n→St i s→SB knd s.heap S (mtk (ks.take i))→(∀ s',Moved (S::wr) G s s'→SB knd s'.heap S (mtk ks)→R (.ok (.ret .none)) s')→
   codeAny (model prog w) A (.builtin "set.update.loop" ⟨[.ref S, .ref I],[]⟩) R s:=by
 have hSw:S∉wr:=fun h=>hSf (W.sub _ h)
 have up:∀ b∈wr,b∈S::wr:=fun b hb=>List.mem_cons_of_mem _ hb
 intro k
 induction k with
 |zero=>
  intro i s hk hi st hS hR
  have:i=n:=by omega
  subst this
  refine codeAny_builtin PyProof.Rows.F.entry_set_update_loop ?_;rw [Around.under_plainId PyProof.Rows.F.plain_set_update_loop _]
  show wpAny _ A.in1 (pyNext (.ref I) >>= _) _ _ s
  refine wpAny_bind (W.done s _ _ st fun s' mv=>wpAny_pure (hR s' (mv.mono up) ?_))
  rw [List.take_of_length_le (Nat.le_of_eq hn)] at hS
  exact hS.at' fun o e=>mv.heap S o hSw e
 |succ k ih=>
  intro i s hk hi st hS hR
  have lt:i<n:=by omega
  refine codeAny_builtin PyProof.Rows.F.entry_set_update_loop ?_;rw [Around.under_plainId PyProof.Rows.F.plain_set_update_loop _]
  show wpAny _ A.in1 (pyNext (.ref I) >>= _) _ _ s
  refine wpAny_bind (W.item i s _ _ lt st fun v s' pv st' mv=> ?_)
  obtain ⟨kk,ek,hkk,hsc⟩:=hv i v pv
  have hS':SB knd s'.heap S (mtk (ks.take i)):=hS.at' fun o e=>mv.heap S o hSw e
  have room:(mtk (ks.take i)).length+1<scanBound:=by have:=mtk_len (ks.take i);rw [List.length_take] at this;omega
  show wpAny _ A.in1 (holding [v] (setAdd S v) >>= _) _ _ s'
  refine wpAny_bind (wpAny_holding ?_)
  unfold setAdd
  refine wpAny_holding (wpAny_bind (knd.pyHash (k:=kk) hkk ?_))
  refine sb_add (s:= {s' with toks:=s'.toks+1}) hkk hsc hS' room fun h' b sb hS2=>wpAny_pure ⟨plainId_quiet PyProof.Rows.F.plain_set_update_loop _,?_⟩
  refine ih (i+1) _ (by omega) lt (W.frame _ s' _ _ st' (Nat.le_succ _) fun b hb o e=>sb.extBut _ _ (fun q=>hSf (q▸hb)) e) (by rw [mtk_take ek];exact hS2) fun s'' mv2 hS3=>hR s'' ?_ hS3
  exact Moved.trans W.gtrans ((mv.mono up).then_heap (Nat.le_succ _) fun b o hb e=>sb.extBut _ _ (fun q=>hb (by rw [q];exact List.mem_cons_self)) e) mv2
theorem sb_fresh {h:Heap} {a:Addr} {led:Bool} (hg:h.get? a=some {cls:= .type "set",dict:=none,data:= .set #[] 0 (.fresh 0 0 led)}):SB knd h a []:=
 ⟨_,#[],0,_,hg,⟨rfl,rfl,rfl⟩,rfl,fun e he=>by simp at he,fun k=>by simp,by decide,by rfl,rfl⟩
theorem call_set_seqK {T:String} {l:Addr} {ol:Obj} {items:Array Value} {ks:List K} {Q:Value→Shared→Prop} (hh:A.handled=none) (hol:s.heap.get? l=some ol) (hcl:ol.cls= .type T) (hs1:isSubtype (.type T) (.type "set")=pure false)
  (hs2:isSubtype (.type T) (.type "frozenset")=pure false) (hnd:(Value.type T==Value.type "dict")=false) (hit:Itr prog w l ol items) (hn:ks.length=items.size) (hv:∀ (i:Nat) (v:Value),items[i]? =some v→∃ k,ks[i]? =some k∧knd.is k v=true∧v.scannable=true) (hb:items.size+1<scanBound)
  (h:∀ h' tk,SB knd h' s.heap.objs.size (mtk ks)→(∀ b o,s.heap.get? b=some o→h'.get? b=some o)→Q (.ref s.heap.objs.size) {s with heap:=h',toks:=tk}):wpAny (model prog w) A (call (.type "set") [.ref l]) Q E s:=by
 obtain ⟨c,tl,hmro⟩:=PySem.F.called_set.mro
 have hmade:=PySem.F.called_set.made
 have hsub:=PySem.F.called_set.sub
 refine wpAny_call (codeAny_of_tree ?_);show wpAny _ _ (callAny (.type "set") _) _ _ _
 refine wpAny_pure ⟨Code.quiet_builtin _ (by decide +kernel),codeAny_builtin PySem.F.entry_type_call ?_⟩;rw [Around.under_plain (weight_type_call_type "set" [.ref l] []) rfl]
 have q1:=PySem.F.called_set.notType
 have q2:=PySem.F.called_set.canCreate
 have q3:=PySem.F.typeCall_set_1 (.ref l)
 repeat (any_goals (first|assumption|wp_step))
 refine codeAny_mono (set_made (.ref l) (E:=E) (Q₁:=fun obj s₁=>∃ led:Bool,led=(!w.params.followText "set-order")∧obj= .ref s.heap.objs.size∧s₁= {s with heap:=s.heap.push {cls:= .type "set",dict:=none,data:= .set #[] 0 (.fresh 0 0 led)}}) fun led e=>⟨led,e,rfl,rfl⟩) fun r s₁ hr=> ?_
 cases r with
 |error e=>exact hr
 |ok fl=>
  cases fl with
  |ret obj=>
   obtain ⟨led,hled,rfl,rfl⟩:=hr
   generalize hg:s.heap.push {cls:= .type "set",dict:=none,data:= .set #[] 0 (.fresh 0 0 led)}=h1
   have k1:∀ b o,s.heap.get? b=some o→h1.get? b=some o:=fun b o e=>by rw [←hg];exact Heap.get?_push_of_some _ e
   have n1:h1.get? s.heap.objs.size=some {cls:= .type "set",dict:=none,data:= .set #[] 0 (.fresh 0 0 led)}:=by rw [←hg];exact Heap.get?_push_size _ rfl
   have z1:h1.objs.size=s.heap.objs.size+1:=by rw [←hg,Heap.size_push]
   clear hg
   have hT:Shared.TypeIs {s with heap:=h1} (.ref s.heap.objs.size) "set":=⟨_,n1,rfl⟩
   have q4:=PySem.F.called_set.init.lookup
   have q5:=PySem.F.called_set.init.bind (.ref s.heap.objs.size)
   repeat (any_goals (first|assumption|wp_step))
   refine codeAny_mono (codeAny_call_builtin (R:=wants (fun r s₂=>r= .none∧∃ h' tk,s₂= {s with heap:=h',toks:=tk}∧SB knd h' s.heap.objs.size (mtk ks)∧∀ b o,s.heap.get? b=some o→h'.get? b=some o) E)
    PySem.F.called_set.init.plain PySem.F.entry_set_init (check_set_init_1 hT ?_)) fun r₂ s₂ hr₂=> ?_
   ·have hol':=k1 _ _ hol
    have hTl:Shared.TypeIs {s with heap:=h1} (.ref l) T:=⟨_,hol',hcl⟩
    unfold Builtin.«set.__init__» noKeywords Builtin.Frozenset.updateFrom
    generalize hPI:pyIter=PI
    wp_walk
    subst hPI
    refine hit _ _ _ _ hol' fun I St h2 W st eI k2=> ?_
    refine wpAny_bind (wpAny_runValue ?_)
    have lS:s.heap.objs.size<I:=by rw [eI];show _<h1.objs.size;rw [z1];exact Nat.lt_succ_self _
    have ll:l<s.heap.objs.size:=Heap.lt_size hol
    have hSf:s.heap.objs.size∉ [I,l]:=by
     simp only [List.mem_cons,List.not_mem_nil,or_false,not_or]
     exact ⟨Nat.ne_of_lt lS,Nat.ne_of_gt ll⟩
    refine sb_loop ((W _ (by simp [hh])).toS) s.heap.objs.size hSf ks hn hv hb items.size 0 _ (by omega) (Nat.zero_le _) st (sb_fresh (k2 _ _ n1)) fun s' mv hS=> ?_
    obtain ⟨h',g',d',tk',os'⟩:=s'
    have eg:g'=s.gens:=mv.gens
    have ed:d'=s.drawn:=mv.drawn
    have eo:os'=s.os:=mv.os
    subst eg ed eo
    refine wpAny_pure (wpAny_pure ⟨rfl,h',tk',rfl,hS,fun b o e=> ?_⟩)
    have lb:b<s.heap.objs.size:=Heap.lt_size e
    refine mv.heap b o (fun z=> ?_) (k2 _ _ (k1 _ _ e))
    simp only [List.mem_cons,List.not_mem_nil,or_false] at z
    rcases z with z|z
    ·rw [z] at lb;exact Nat.lt_irrefl _ lb
    ·rw [z] at lb;exact Nat.lt_irrefl _ (Nat.lt_trans lb lS)
   ·cases r₂ with
    |error e=>exact hr₂
    |ok fl₂=>
     cases fl₂ with
     |ret r=>
      obtain ⟨rfl,h',tk,rfl,hS',hk'⟩:=hr₂
      repeat (any_goals (first|assumption|wp_step))
      exact h _ _ hS' hk'
     |_=>exact hr₂.elim
  |_=>exact hr.elim
end
end L3
namespace L3
open PySem PySem.Spec PyProof.Rows L2 SeqAt
section
variable {X:Cx} {xw:XW} {pos p pos2 p2:Pos} {a e:Expr} {fa:DSt→Res D}
theorem strs_at:∀ {us:List Value} {xs:List Str},Vals (xs.map V.str) us→xs.length=us.length∧∀ (i:Nat) v,us[i]? =some v→∃ k,xs[i]? =some k∧Value.isStrOf k v=true∧v.scannable=true
 |us,[],r=>by cases r;exact ⟨rfl,fun i v h=>by simp at h⟩
 |us,x::xs,r=>by
  cases r with
  |cons h1 t=>
   obtain ⟨l,q⟩:=strs_at t
   refine ⟨by rw [List.length_cons,List.length_cons,l],fun i v hv=> ?_⟩
   cases i with
   |zero=>
    obtain ⟨tk,rfl⟩:=h1
    have e:Value.str x tk=v:=by simpa using hv
    subst e
    exact ⟨x,rfl,by simp [Value.isStrOf],rfl⟩
   |succ i=>
    obtain ⟨k,e1,e2⟩:=q i v (by simpa using hv)
    exact ⟨k,by simpa using e1,e2⟩
def tLT (K:PySem.W.Frag) (ta:TE):TE:=fun σ H Q=>ta σ H fun v H1=>∃ l xs,v= .ref l∧SqL K H1 l (xs.map V.str)∧xs.length<64∧Q (.int (mtk xs).length) H1
theorem pe_lensetT {ta:TE} (hc:X.calm=true) (hg1:Gl X "len") (hm1:X.mg "len"=none) (hg2:Gl X "set") (hm2:X.mg "set"=none) (ha:PE X a ta)
  (h1:starEach [.Call (.Name "set" p2) [a] [] pos2] X.env=(false,eval (.Call (.Name "set" p2) [a] [] pos2) X.env)::starEach [] X.env) (h2:starEach [a] X.env=(false,eval a X.env)::starEach [] X.env)
  (h3:(backTo pos (starEach [] X.env)).any (·.1)=false) (h4:(backTo pos2 (starEach [] X.env)).any (·.1)=false):PE X (.Call (.Name "len" p) [.Call (.Name "set" p2) [a] [] pos2] [] pos) (tLT X.K ta):=by
 intro pins s σ H Q I h
 refine wpAny_Call_Name_kw (ld_blt I hg1 hm1 (show bootBuiltins "len"=some (.builtin "len") by decide +kernel) ?_)
 refine PyProof.Rows.callWith_builtin1 ?_ h1 h3
 rw [h1]
 show wpAny _ _ (spliced ((false,eval (.Call (.Name "set" p2) [a] [] pos2) X.env)::backTo pos (starEach [] X.env))) _ _ s
 refine Calls.spliced_cons ?_
 refine wpAny_Call_Name_kw (ld_blt I hg2 hm2 (show bootBuiltins "set"=some (.type "set") by decide +kernel) ?_)
 refine PyProof.Rows.callWith_type1 ?_ h2 h4
 rw [h2]
 show wpAny _ _ (spliced ((false,eval a X.env)::backTo pos2 (starEach [] X.env))) _ _ s
 refine Calls.spliced_cons (thn (ha pins s σ H _ I h) fun u s1 ⟨x,H1,I1,r1,q1⟩=> ?_)
 refine Calls.spliced_nil ?_
 obtain ⟨l,xs,rfl,sq,hl,q⟩:=q1
 cases (show u=Value.ref l from r1)
 obtain ⟨its,rv,ps,_⟩:=I1.list sq
 obtain ⟨el,hat⟩:=strs_at rv
 have hb:its.toArray.size+1<scanBound:=by rw [List.size_toArray,←el];unfold scanBound;omega
 obtain ⟨ol,nl,hol,hcl,_,hd⟩:=ps
 refine call_set_seqK (knd:=strKind X.prog X.w) (I1.ok.hd hc) hol hcl (by rw [isSubtype_type];kernel_rfl) (by rw [isSubtype_type];kernel_rfl) (by decide) (itr_list hcl hd) (by rw [List.size_toArray];exact el) (fun i v e=>hat i v (by simpa using e)) hb fun h' tk hS k=> ?_
 refine Calls.spliced_nil ?_
 obtain ⟨o,es,ep,t,ho,hex,hd,hel,hp,hb,hf,ht⟩:=hS
 have hsz:es.size=(mtk xs).length:=ht
 have hfit:(es.size:Int)<2^63:=by
  have:=mtk_len xs
  rw [hsz];omega
 refine call_len_set (s:= {s1 with heap:=h',toks:=tk}) ho hex hd hf hfit ?_
 rw [hsz]
 exact ⟨.int ((mtk xs).length:Int),H1,(I1.kept (t':=tk) k).tok _,⟨_,rfl⟩,q⟩
noncomputable def lensT:D→Res D
 | .lst ds=>match strsOf ds with
  |some xs=>@ite _ (xs.length<64) (Classical.propDecidable _) (.ok (.int (mtk xs).length)) .stuck
  |none=> .stuck
 |_=> .stuck
theorem x_lensetT (hc:X.calm=true) (hm1:X.mg "len"=none) (hm2:X.mg "set"=none) (ha:XP X xw a fa) (hg1:Gl X "len":=by rfl) (hg2:Gl X "set":=by rfl)
  (h1:starEach [.Call (.Name "set" p2) [a] [] pos2] X.env=(false,eval (.Call (.Name "set" p2) [a] [] pos2) X.env)::starEach [] X.env:=by rfl) (h2:starEach [a] X.env=(false,eval a X.env)::starEach [] X.env:=by rfl)
  (h3:(backTo pos (starEach [] X.env)).any (·.1)=false:=by rfl) (h4:(backTo pos2 (starEach [] X.env)).any (·.1)=false:=by rfl):
  XE X xw (.Call (.Name "len" p) [.Call (.Name "set" p2) [a] [] pos2] [] pos) (b1 lensT fa):=
 ⟨PE.weak (pe_lensetT hc hg1 hm1 hg2 hm2 ha.h h1 h2 h3 h4) fun σ H Q ⟨W₀,H₀,W,δ,st,q⟩=>one_read st q fun H2 d v k w st2 hv _ q2=>by
  unfold lensT at q2
  split at q2
  ·split at q2
   ·rename_i xs hn
    split at q2
    ·rename_i hl
     obtain ⟨p,ys,e,sq,r⟩:=hv.lst
     have:=strsOf_has hn r
     subst this
     exact ⟨p,xs,e,sq,hl,q2 _ H2 (Same.refl _) (by rw [Has])⟩
    ·exact q2.elim
   ·exact q2.elim
  ·exact q2.elim⟩
def nonIs:Option Key→Value→Bool
 |none, .none=>true
 |some k,v=>keyIs k v
 |_,_=>false
def nonH (w:World):Option Key→Int
 |none=>0xFCA86420
 |some k=>keyH w k
theorem nonIs_shape {o:Option Key} {v:Value} (h:nonIs o v=true):(o=none∧v= .none)∨∃ k,o=some k∧keyIs k v=true:=by
 cases o with
 |none=>
  cases v with
  |none=>exact .inl ⟨rfl,rfl⟩
  |_=>cases h
 |some k=>exact .inr ⟨k,rfl,h⟩
theorem keyIs_non {k:Key} (h:keyIs k .none=true):False:=by
 rcases keyIs_shape h with ⟨i,t,rfl,e⟩|⟨x,t,rfl,e⟩<;>cases e
theorem wpAny_pyHash_none {prog:Program} {w:World} {A:Around} {E:Value→Shared→Prop} {s:Shared} {Q:Int→Shared→Prop} (h:Q 0xFCA86420 {s with toks:=s.toks+1}):wpAny (model prog w) A (pyHash .none) Q E s:=by
 have hT:s.TypeIs .none "NoneType":=rfl
 unfold pyHash
 have hv: [Value.none].any Value.onHeap=false:=rfl
 refine wpAny_bind ?_
 rw [cRoomFor,if_neg (by rw [hv];exact Bool.false_ne_true)];refine wpAny_pure ?_
 refine wpAny_bind (wpAny_specialOf hT F.slot_NoneType_hash.lookup ?_)
 show wpAny _ _ (if (some (Value.builtin "NoneType.__hash__")==some Value.none)=true then _ else _) Q E s
 rw [if_neg (by rw [beq_builtin_none];exact Bool.false_ne_true)]
 refine wpAny_bind (wpAny_specialOf hT F.slot_NoneType_hash.lookup ?_)
 show wpAny _ _ (callSpecialIfBoundUnlessNone? .none "__hash__" _ >>= _) Q E s
 refine wpAny_bind (wpAny_callSpecialIfBoundUnlessNone?_slot hT F.slot_NoneType_hash
  (wpAny_call_entry F.slot_NoneType_hash hT F.entry_NoneType_hash
   (show wpAny _ _ (do ret (←mkInt 0xFCA86420)) _ _ s from wpAny_ret_mkInt ?_) (F.args_NoneType_hash_1 _)))
 show wpAny _ _ (if (decide (-(2:Int)^63≤0xFCA86420)&&decide ((0xFCA86420:Int)<2^63))=true then _ else _) Q E _
 rw [if_pos (by decide)]
 exact wpAny_pure h
theorem eqBool_none {prog:Program} {w:World} {A:Around} {E:Value→Shared→Prop} {s:Shared} {Q:Bool→Shared→Prop} (h:Q true s):wpAny (model prog w) A (eqBool .none .none) Q E s:=by
 unfold eqBool
 refine wpAny_holding ?_
 rw [if_pos (by decide)]
 exact wpAny_bind (wpAny_rule (wpAny_pure h))
def nonKind (prog:Program) (w:World):PySem.KeyKind prog w (Option Key) where
 is:=nonIs
 hash:=nonH w
 inj:=fun v a b ha hb=>by
  rcases nonIs_shape ha with ⟨rfl,rfl⟩|⟨k,rfl,h1⟩
  ·rcases nonIs_shape hb with ⟨rfl,_⟩|⟨k,rfl,h2⟩
   ·rfl
   ·exact (keyIs_non h2).elim
  ·rcases nonIs_shape hb with ⟨rfl,rfl⟩|⟨k',rfl,h2⟩
   ·exact (keyIs_non h1).elim
   ·rw [(mixKind prog w).inj v k k' h1 h2]
 byValue:=fun k v h=>by
  rcases nonIs_shape h with ⟨rfl,rfl⟩|⟨k,rfl,h1⟩
  ·rfl
  ·exact (mixKind prog w).byValue k v h1
 pyHash:=fun hv h=>by
  rcases nonIs_shape hv with ⟨rfl,rfl⟩|⟨k,rfl,h1⟩
  ·exact wpAny_pyHash_none h
  ·exact (mixKind prog w).pyHash h1 h
 eqBool:=fun hu hv h=>by
  rcases nonIs_shape hu with ⟨rfl,rfl⟩|⟨k,rfl,h1⟩
  ·rcases nonIs_shape hv with ⟨rfl,rfl⟩|⟨k,rfl,h2⟩
   ·exact eqBool_none (by simpa using h)
   ·rw [decide_eq_false (by intro z;cases z)] at h
    rcases keyIs_shape h2 with ⟨i,t,rfl,rfl⟩|⟨x,t,rfl,rfl⟩
    ·exact SeqAt.EqAt.none_int i t _ _ _ _ h
    ·exact SeqAt.EqAt.none_str x t _ _ _ _ h
  ·rcases nonIs_shape hv with ⟨rfl,rfl⟩|⟨k',rfl,h2⟩
   ·rw [decide_eq_false (by intro z;cases z)] at h
    rcases keyIs_shape h1 with ⟨i,t,rfl,rfl⟩|⟨x,t,rfl,rfl⟩
    ·exact SeqAt.EqAt.int_none i t _ _ _ _ h
    ·exact SeqAt.EqAt.str_none x t _ _ _ _ h
   ·have e:decide ((some k:Option Key)=some k')=decide (k=k'):=by
     by_cases z:k=k'
     ·rw [z,decide_eq_true rfl,decide_eq_true rfl]
     ·rw [decide_eq_false z,decide_eq_false fun y=>z (Option.some.inj y)]
    rw [e] at h
    exact (mixKind prog w).eqBool h1 h2 h
 «strs» :=fun k x t v h=>by
  rcases nonIs_shape h with ⟨rfl,e⟩|⟨k',rfl,h1⟩
  ·cases e
  ·exact (mixKind prog w).strs k' x t v h1
theorem mapOf_non {prog:Program} {w:World} {h:Heap} {a:Addr} {f:Key→Option Value} (m:h.MapOf (mixKind prog w) a f):h.MapOf (nonKind prog w) a (fun o=>o.bind f):=by
 obtain ⟨o,es,ep,h1,h2,h3,h4,h5⟩:=m
 refine ⟨o,es,ep,h1,h2,h3,fun e he=> ?_,fun k=> ?_⟩
 ·obtain ⟨k,k1,k2⟩:=h4 e he
  exact ⟨some k,k1,k2⟩
 ·cases k with
  |some k=>exact h5 k
  |none=>
   show findBy nonIs es none=none
   unfold findBy
   have:es.find? (fun e=>nonIs none e.key)=none:=by
    rw [Array.find?_eq_none]
    intro e he z
    obtain ⟨k,k1,_⟩:=h4 e he
    rcases nonIs_shape z with ⟨_,e1⟩|⟨_,e1,_⟩
    ·rw [e1] at k1;exact keyIs_non k1
    ·cases e1
   simp [this]
def keyN:D→Option (Option Key)
 | .non=>some none
 | .int i=>some (some (.inl i))
 | .str x=>some (some (.inr x))
 |_=>none
def kVN:Option Key→V
 |none=> .non
 |some k=>kV k
theorem keyN_has {K:PySem.W.Frag} {W:WS} {H:Hp} {d:D} {v:V} {k:Option Key} (h:Has K W H d v) (e:keyN d=some k):v=kVN k:=by
 cases d with
 |non=>cases e;rw [Has] at h;exact h
 |int i=>cases e;rw [Has] at h;exact h
 |str x=>cases e;rw [Has] at h;exact h
 |_=>cases e
theorem non_is {prog:Program} {w:World} {k:Option Key} {v:Value} (h:RelV (kVN k) v):(nonKind prog w).is k v=true:=by
 cases k with
 |none=>cases (show v=Value.none from h);rfl
 |some k=>exact key_is (P:=prog) (w:=w) h
def rGet1:V→List V→Hp→VK→Prop:=fun x vs H Q=>∃ a kvs k,x= .ref a∧vs= [kVN k]∧Rd H a (.dK kvs)∧Q ((k.bind (tGet kvs)).getD .non) H
theorem mt_get1:MtR X "dict.get" rGet1:=by
 intro pins s σ H x vs v us Q I rx rv h
 obtain ⟨a,kvs,k,rfl,rfl,hr,q⟩:=h
 cases rx
 obtain ⟨u,rfl,ru⟩:=vals1 rv
 obtain ⟨_,hS,ws,rel,dd⟩:=rd_dk I.hok hr
 refine call_meetsIn PySem.F.slot_dict_get dd.typeIs PySem.F.entry_dict_get (PySem.F.args_dict_get_2 _ _) (meets_dict_get (nonKind X.prog X.w) a (non_is ru) hS) ⟨_,mapOf_non dd.mapOf,?_⟩
 refine ⟨_,H,I.tok _,?_,q⟩
 cases k with
 |none=>exact rfl
 |some k=>
  obtain ⟨g1,g2⟩:=kv_get rel k
  show RelV ((tGet kvs k).getD .non) _
  cases h:tGet kvs k with
  |some z=>
   obtain ⟨w',hw,rw'⟩:=g1 z h
   show RelV z (Option.getD (_) _)
   simp only [Option.bind_some]
   rw [hw];exact rw'
  |none=>
   simp only [Option.bind_some]
   rw [g2 h];exact rfl
def get1R (l:List (Key×D)) (d:D):Res D:=match keyN d with
 |some k=> .ok ((k.bind (tGet l)).getD .non)
 |none=> .stuck
def bGet1 (f:DSt→Res (List (Key×D))) (g:DSt→Res (List D)):DSt→Res D:=fun δ=>(f δ).bind fun l=>(g δ).bind fun ds=>match ds with
 | [d]=>get1R l d
 |_=> .stuck
theorem pe_get1 {o:Expr} {es:List Expr} {to:TE} {t:TA} {apos cpos:Pos} (ho:PE X o to) (ha:PA X (e::es) t)
  (hbase:attributeBase o "get" X.env (eval o X.env)=eval o X.env:=by rfl)
  (hfew:((backTo cpos (starEach (e::es) X.env)).all (fun x=> !x.1)&&(backToKw cpos (keywordEach [] X.env)).all (fun x=>x.1.isSome)
   &&decide ((e::es).length+([]:List Keyword).length+(if ([]:List Keyword).isEmpty then 0 else 1)<30))=true:=by rfl)
  (hline:(apos.endLine==cpos.line)=true:=by rfl) (hs:starEach (e::es) X.env=(false,eval e X.env)::starEach es X.env:=by rfl) (hplain:(backTo cpos (starEach es X.env)).any (·.1)=false:=by rfl):
  PE X (.Call (.Attribute o "get" apos) (e::es) [] cpos) (fun σ H Q=>to σ H fun x H1=>(∃ a kvs,x= .ref a∧Rd H1 a (.dK kvs))∧t σ H1 fun xs H2=>rGet1 x xs H2 Q):=by
 intro pins s σ H Q I h
 refine wpAny_Call_method_late hbase hfew hline rfl (thn (ho pins s σ H _ I h) fun v s1 ⟨x,H1,I1,r1,ty,q1⟩=> ?_)
 obtain ⟨a,kvs,rfl,hr⟩:=ty
 have r2:=r1
 cases r2
 obtain ⟨_,hS,ws,rel,dd⟩:=rd_dk I1.hok hr
 refine ⟨"dict","dict.get",PySem.F.plainAttrs_dict,PySem.F.slot_dict_get,PySem.F.type_dict_get,dd.typeIs,dd.mapOf.noDict,?_⟩
 have hA:=ha cpos pins s1 σ H1 _ I1 q1
 rw [hs] at hA ⊢
 refine Calls.callWith_builtin (by show (false||(backTo cpos (starEach es X.env)).any (·.1))=false;rw [hplain]<;>rfl) (Calls.evalArgs_plain ?_)
 exact thn hA fun us s2 ⟨vs,H2,I2,r3,q2⟩=>mt_get1 pins s2 σ H2 _ vs _ us Q I2 r1 r3 q2
theorem x_get1 {es:List Expr} {apos cpos:Pos} {fq:DSt→Res (List (Key×D))} {gs:DSt→Res (List D)} (ho:XQ X xw a fq) (ha:XA X xw (e::es) gs)
  (hbase:attributeBase a "get" X.env (eval a X.env)=eval a X.env:=by rfl)
  (hfew:((backTo cpos (starEach (e::es) X.env)).all (fun x=> !x.1)&&(backToKw cpos (keywordEach [] X.env)).all (fun x=>x.1.isSome)
   &&decide ((e::es).length+([]:List Keyword).length+(if ([]:List Keyword).isEmpty then 0 else 1)<30))=true:=by rfl)
  (hline:(apos.endLine==cpos.line)=true:=by rfl) (hs:starEach (e::es) X.env=(false,eval e X.env)::starEach es X.env:=by rfl) (hplain:(backTo cpos (starEach es X.env)).any (·.1)=false:=by rfl):
  XE X xw (.Call (.Attribute a "get" apos) (e::es) [] cpos) (bGet1 fq gs):=⟨
 PE.weak (pe_get1 ho.h ha.h hbase hfew hline hs hplain) fun σ H Q h=>by
  obtain ⟨W₀,H₀,W,δ,st,q⟩:=h
  unfold bGet1 at q
  refine ⟨W₀,H₀,W,δ,st,?_⟩
  cases h1:fq δ with
  |stuck=>rw [h1] at q;exact q
  |ex c fs=>rw [h1] at q;exact q
  |ok l=>
   rw [h1] at q
   intro ar kvs H1 k1 hr hp
   refine ⟨⟨ar,kvs,rfl,hr⟩,W₀,H₀,W,δ,st.same k1,?_⟩
   simp only [Res.bind_ok] at q
   cases h2:gs δ with
   |stuck=>rw [h2] at q;exact q
   |ex c fs=>rw [h2] at q;exact fun H2 k2=>q H2 (k1.trans k2)
   |ok ds=>
    rw [h2,Res.bind_ok] at q
    intro vs H2 k2 hvs
    split at q
    ·rename_i d
     unfold get1R at q
     split at q
     ·rename_i k hk
      rw [HasL] at hvs
      obtain ⟨x1,r1,rfl,g1,hvs⟩:=hvs
      rw [HasL] at hvs
      subst hvs
      have e1:=keyN_has g1 hk
      have hp2:=hp.same k2 (st.same k1).fr.wl
      refine ⟨ar,kvs,k,rfl,by rw [e1],Rd.same hr k2,q _ H2 (k1.trans k2) ?_⟩
      cases k with
      |none=>show Has _ _ _ D.non V.non;rw [Has]
      |some k=>
       obtain ⟨p1,p2⟩:=hp2.get k
       show Has _ _ _ ((tGet l k).getD .non) ((tGet kvs k).getD .non)
       cases hg:tGet l k with
       |some d'=>
        obtain ⟨v,hv,hh⟩:=p1 d' hg
        rw [hv];exact hh
       |none=>rw [p2 hg];show Has _ _ _ D.non V.non;rw [Has]
     ·exact q.elim
    ·exact q.elim⟩
end
end L3
namespace G
open PySem PySem.Spec PyProof.Rows L2 L3
noncomputable def e_copied_1:DSt→Res D:=(b1 tupR (aCons (slotD 0) (aCons (asD (b1 seqR (slotP 1))) aNil)))
noncomputable def b_copied:DSt→Out:=(sRet (asD (vComp 2 (unTup 2 (unCons (setI 0) (unCons (setI 1) unNil))) (fun _=> .ok true) e_copied_1 (b1 seqR (slotD 0)))))
noncomputable def m_copied:List D→Res D:=runD 1 b_copied
noncomputable def fs_House:List (Str×(DSt→Res D)):= [("rules",(slotD 1)),("doors",(asD (b1 seqR (slotP 2)))),("wings",(b1 (callR 1 m_copied) (aCons (slotD 3) aNil))),("grants",(b1 (callR 1 m_copied) (aCons (slotD 4) aNil)))]
noncomputable def e_names_of_1:DSt→Res D:=(slotD 0)
noncomputable def b_names_of:DSt→Out:=(sRet (asD (vComp 2 (unTup 2 (unCons (setI 0) (unCons (setI 1) unNil))) (fun _=> .ok true) e_names_of_1 (b1 seqR (slotD 0)))))
noncomputable def m_names_of:List D→Res D:=runD 1 b_names_of
noncomputable def l_ring_above_1:DSt→Out:=(sSeq (sSet 3 (b2Q dgetR (slotQ 0) (b2 ixR (slotP 2) (b1 negD (kD (.int 1))))))
  (sSeq (sIf (tR (b2 inR (slotP 3) (slotP 2))) (sRet (asD (listRevF (asD (b3 slL (slotP 2) (b1 partR (bL idxR (slotP 2) (aCons (slotD 3) aNil))) oNone))))) Out.nx)
  (sApp 2 (slotD 3))))
noncomputable def c_ring_above_1:DSt→Res Bool:=(tR (b2R inQR (b2 ixR (slotP 2) (b1 negD (kD (.int 1)))) (slotQ 0)))
noncomputable def b_ring_above:DSt→Out:=(sSeq (sOwn 2 (b1 lstR (aCons (slotD 1) aNil)))
  (sSeq (sWhile 100000 c_ring_above_1 l_ring_above_1)
  (sRet (kD .non))))
noncomputable def m_ring_above:List D→Res D:=runD 4 b_ring_above
noncomputable def l_refuse_ring_1:DSt→Out:=(sPutI 1 (slotD 4) (slotD 2))
noncomputable def l_refuse_ring_2:DSt→Out:=(sFor (setI 4) l_refuse_ring_1 (b1 seqR (slotD 3)))
noncomputable def l_refuse_ring_3:DSt→Out:=(sSeq (noxS (sFrz 1 (sSet 5 (b1 (callR 2 m_ring_above) (aCons (slotD 1) (aCons (slotD 2) aNil))))))
  (sIf (noxB (tR (b1 notNR (slotP 5)))) (sRaiseR "Ring" "ring" (noxA (aCons (slotD 5) aNil))) Out.nx))
noncomputable def b_refuse_ring:DSt→Out:=(sSeq (noxS (sOwnQ 1))
  (sSeq (noxS (sFor (unTup 2 (unCons (setI 2) (unCons (setI 3) unNil))) l_refuse_ring_2 (b1 seqR (b1 (fldR "House" "wings") (slotD 0)))))
  (sFor (setI 2) l_refuse_ring_3 (noxA (b1 seqR (b1 (callR 1 m_names_of) (aCons (b1 (fldR "House" "wings") (slotD 0)) aNil)))))))
noncomputable def m_refuse_ring:List D→Res D:=runX 6 b_refuse_ring
noncomputable def l_refuse_twice_1:DSt→Out:=(sSeq (sIf (noxB (tR (b2R inQR (slotP 2) (slotQ 1)))) (sRaiseG "Twice" [("name",false)] (noxA (aCons (slotD 2) aNil))) Out.nx)
  (noxS (sPutI 1 (slotD 2) (kD (.bl true)))))
noncomputable def b_refuse_twice:DSt→Out:=(sSeq (noxS (sOwnQ 1))
  (sFor (setI 2) l_refuse_twice_1 (noxA (b1 seqR (asD (b2F catR (asD (b2F catR (b1 (fldR "House" "doors") (slotD 0)) (b1 (callR 1 m_names_of) (aCons (b1 (fldR "House" "wings") (slotD 0)) aNil)))) (b1 (callR 1 m_names_of) (aCons (b1 (fldR "House" "grants") (slotD 0)) aNil))))))))
noncomputable def m_refuse_twice:List D→Res D:=runX 3 b_refuse_twice
noncomputable def l_refuse_unknown_1:DSt→Out:=(sSeq (sIf (noxB (tR (b2 ninR (slotP 3) (slotP 0)))) (sRaiseG "Unknown" [("name",false)] (noxA (aCons (slotD 3) aNil))) Out.nx)
  (sIf (noxB (tR (b2 inR (slotP 3) (slotP 1)))) (sRaiseG "Shared" [("name",false)] (noxA (aCons (slotD 3) aNil))) Out.nx))
noncomputable def b_refuse_unknown:DSt→Out:=(sFor (setI 3) l_refuse_unknown_1 (noxA (b1 seqR (slotD 2))))
noncomputable def m_refuse_unknown:List D→Res D:=runX 4 b_refuse_unknown
noncomputable def e_refuse_unknown_and_shared_1:DSt→Res D:=(slotD 0)
noncomputable def c_refuse_unknown_and_shared_1:DSt→Res Bool:=(tR (b2 inR (slotP 0) (slotP 2)))
noncomputable def l_refuse_unknown_and_shared_1:DSt→Out:=(sSeq (sExpr (b1 (lentX 3 m_refuse_unknown) (noxA (aCons (slotP 2) (aCons (slotP 3) (aCons (slotP 5) aNil))))))
  (noxS (sExt 3 (vComp 1 (setI 0) c_refuse_unknown_and_shared_1 e_refuse_unknown_and_shared_1 (b1 seqR (slotD 5))))))
noncomputable def l_refuse_unknown_and_shared_2:DSt→Out:=(sExpr (b1 (callX 3 m_refuse_unknown) (noxA (aCons (slotD 2) (aCons (asD (b1 lstR aNil)) (aCons (slotD 6) aNil))))))
noncomputable def b_refuse_unknown_and_shared:DSt→Out:=(sSeq (noxS (sSet 1 (b1 (callR 1 m_names_of) (aCons (b1 (fldR "House" "wings") (slotD 0)) aNil))))
  (sSeq (noxS (sSet 2 (asD (b2F catR (b1 (fldR "House" "doors") (slotD 0)) (slotP 1)))))
  (sSeq (noxS (sOwn 3 (b1 lstR aNil)))
  (sSeq (sFor (unTup 2 (unCons (setI 4) (unCons (setI 5) unNil))) l_refuse_unknown_and_shared_1 (noxA (b1 seqR (b1 (fldR "House" "wings") (slotD 0)))))
  (sFor (unTup 2 (unCons (setI 4) (unCons (setI 6) unNil))) l_refuse_unknown_and_shared_2 (noxA (b1 seqR (b1 (fldR "House" "grants") (slotD 0)))))))))
noncomputable def m_refuse_unknown_and_shared:List D→Res D:=runX 7 b_refuse_unknown_and_shared
noncomputable def b_look_at:DSt→Out:=(sSeq (sExpr (b1 (callX 1 m_refuse_twice) (noxA (aCons (slotD 0) aNil))))
  (sSeq (sExpr (b1 (callX 1 m_refuse_unknown_and_shared) (noxA (aCons (slotD 0) aNil))))
  (sExpr (b1 (callX 1 m_refuse_ring) (noxA (aCons (slotD 0) aNil))))))
noncomputable def m_look_at:List D→Res D:=runX 1 b_look_at
noncomputable def h__law_asked_1:DSt→Out:=(sSet 3 (slotD 5))
noncomputable def b__law_asked:DSt→Out:=(sSeq (sSet 3 (kD .non))
  (sSeq (sSet 4 (kD .non))
  (sSeq (sTry ["Ring","Shared","Twice","Unknown"] (tryF (aCons (b1 (callR 4 (makeR 4 "House" fs_House)) (aCons (b1 tupR (aCons (kD (.int 2)) (aCons (kD (.int 3)) (aCons (kD (.int 2)) (aCons (kD (.int 1)) aNil))))) (aCons (asD (b1 lstR (aCons (slotD 0) aNil))) (aCons (slotD 2) (aCons (asD (b1 lstR (aCons (b1 tupR (aCons (slotD 1) (aCons (asD (b1 lstR (aCons (slotD 0) aNil))) aNil))) aNil))) aNil))))) aNil) 1 m_look_at []) (fun d δ=> .nx (δ.set 4 (some (.d d)))) Out.nx (gsAs 5 h__law_asked_1))
  (sSeq (sIf (tR (b1 isNR (slotP 3))) (sRet (slotD 4)) Out.nx)
  (sSeq (sIf (tOr2 (tNot1 (tR (b1 (isiXR [("Ring",true),("Shared",false),("Twice",false),("Unknown",false)]) (slotP 3)))) (tNot1 (tR (b1 (isiXR [("Ring",true),("Shared",true),("Twice",true),("Unknown",true)]) (slotP 3))))) (sRet (kD (.str "another"))) Out.nx)
  (sSeq (sIf (tR (b1 (isiXR [("Ring",false),("Shared",true),("Twice",true),("Unknown",true)]) (slotP 3))) (sRet (kD (.str "another"))) Out.nx)
  (sRet (b1 (exfR ["Ring"] "ring") (slotD 3)))))))))
noncomputable def m__law_asked:List D→Res D:=runD 6 b__law_asked
noncomputable def e__law_cut_1:DSt→Res D:=(slotD 0)
noncomputable def c__law_cut_1:DSt→Res Bool:=(tR (b2 neR (slotP 0) (slotP 4)))
noncomputable def e__law_cut_2:DSt→Res D:=(b1 tupR (aCons (slotD 0) (aCons (asD (vComp 1 (setI 0) c__law_cut_1 e__law_cut_1 (b1 seqR (slotD 1)))) aNil)))
noncomputable def b__law_cut:DSt→Out:=(sRet (asD (vComp 2 (unTup 2 (unCons (setI 0) (unCons (setI 1) unNil))) (fun _=> .ok true) e__law_cut_2 (b1 seqR (slotD 0)))))
noncomputable def m__law_cut:List D→Res D:=runD 2 b__law_cut
noncomputable def l__law_good_ring_1:DSt→Out:=(sIf (tOr2 (tR (b2R ninQR (b2 ixR (slotP 0) (slotP 3)) (slotQ 2))) (tR (b2 ninR (b2 ixR (slotP 0) (b2 modD (b2 addD (slotP 3) (kD (.int 1))) (b1 lenR (slotP 0)))) (b2Q dgetR (slotQ 2) (b2 ixR (slotP 0) (slotP 3)))))) (sRet (kD (.bl false))) Out.nx)
noncomputable def b__law_good_ring:DSt→Out:=(sSeq (sIf (tOr2 (tNot1 (tR (b1 (isiR "list") (slotP 0)))) (tOr2 (tR (b2 eqR (slotP 0) (asD (b1 lstR aNil)))) (tR (b2 neR (b1 lensT (slotP 0)) (b1 lenR (slotP 0)))))) (sRet (kD (.bl false))) Out.nx)
  (sSeq (sSet 2 (b1 dictLR (slotP 1)))
  (sSeq (sFor (setI 3) l__law_good_ring_1 (b1 rng1R (aCons (b1 lenR (slotP 0)) aNil)))
  (sRet (kD (.bl true))))))
noncomputable def m__law_good_ring:List D→Res D:=runD 4 b__law_good_ring
noncomputable def l__law_has_ring_1:DSt→Out:=(sIf (tR (b2 neR (slotP 5) (slotP 0))) (sPutI 2 (slotD 5) (slotD 3)) Out.nx)
noncomputable def l__law_has_ring_2:DSt→Out:=(sFor (setI 5) l__law_has_ring_1 (b1 seqR (slotD 4)))
noncomputable def l__law_has_ring_3:DSt→Out:=(sSeq (sIf (tR (b2 eqR (slotP 6) (slotP 3))) (sRet (kD (.bl true))) Out.nx)
  (sSet 6 (bGet1 (slotQ 2) (aCons (slotD 6) aNil))))
noncomputable def l__law_has_ring_4:DSt→Out:=(sSeq (sSet 6 (bGet1 (slotQ 2) (aCons (slotD 3) aNil)))
  (sFor (setI 7) l__law_has_ring_3 (b1 rng1R (aCons (b1 lenR (slotP 1)) aNil))))
noncomputable def b__law_has_ring:DSt→Out:=(sSeq (sOwnQ 2)
  (sSeq (sFor (unTup 2 (unCons (setI 3) (unCons (setI 4) unNil))) l__law_has_ring_2 (b1 seqR (slotD 1)))
  (sSeq (sFor (unTup 2 (unCons (setI 3) (unCons (setI 4) unNil))) l__law_has_ring_4 (b1 seqR (slotD 1)))
  (sRet (kD (.bl false))))))
noncomputable def m__law_has_ring:List D→Res D:=runD 8 b__law_has_ring
noncomputable def b__law_cell_at:DSt→Out:=(sSeq (sIf (tR (b2 ltR (slotP 1) (b1 lenR (slotP 0)))) (sRet (b2 ixR (slotP 0) (slotP 1))) Out.nx)
  (sRet (kD (.int 0))))
noncomputable def m__law_cell_at:List D→Res D:=runD 2 b__law_cell_at
noncomputable def b__law_mixed:DSt→Out:=(sSeq (sSet 2 (b2 modD (b2 mulE (b2 addD (b2 modD (slotP 0) (kD (.int 2147483647))) (kD (.int 7))) (b2 addD (kD (.int 48271)) (b2 mulE (kD (.int 2)) (slotP 1)))) (kD (.int 2147483629))))
  (sRet (b2 modD (b2 mulE (slotP 2) (slotP 2)) (kD (.int 2147483587)))))
noncomputable def m__law_mixed:List D→Res D:=runD 3 b__law_mixed
noncomputable def l__law_name_1:DSt→Out:=(sSeq (sSet 2 (b2 addD (slotP 2) (b2 ixR (kD (.str "abcdefghijklmnopqrstuvwxyz")) (b2 modD (slotP 1) (kD (.int 26))))))
  (sSet 1 (b2 fdivD (slotP 1) (kD (.int 26)))))
noncomputable def b__law_name:DSt→Out:=(sSeq (sSet 1 (b2 modD (b2 fdivD (slotP 0) (kD (.int 10))) (b2 powD (kD (.int 26)) (kD (.int 10)))))
  (sSeq (sSet 2 (kD (.str "")))
  (sSeq (sFor (setI 3) l__law_name_1 (b1 rng1R (aCons (b2 addD (kD (.int 1)) (b2 modD (slotP 0) (kD (.int 10)))) aNil)))
  (sRet (slotD 2)))))
noncomputable def m__law_name:List D→Res D:=runD 4 b__law_name
noncomputable def b__law_open:DSt→Out:=(sSeq (sIf (tR (b2 inR (slotP 0) (asD (b1 lstR (aCons (kD (.str "door")) (aCons (kD (.str "key")) (aCons (kD (.str "opens")) (aCons (kD (.str "rules")) (aCons (kD (.str "wing")) aNil))))))))) (sRet (b2 addD (slotP 0) (kD (.str "x")))) Out.nx)
  (sRet (slotD 0)))
noncomputable def m__law_open:List D→Res D:=runD 1 b__law_open
noncomputable def l__law_names_1:DSt→Out:=(sSeq (sSet 7 (b2 addD (b2 ixR (slotP 4) (b2 modD (slotP 6) (kD (.int 9)))) (b2 ixR (slotP 4) (b2 modD (b2 fdivD (slotP 6) (kD (.int 9))) (kD (.int 9))))))
  (sApp 5 (b1 (callR 1 m__law_open) (aCons (b2 addD (b2 addD (b3 slS (slotP 2) oNone (b1 partR (slotD 3))) (slotP 7)) (b3 slS (slotP 2) (b1 partR (slotD 3)) oNone)) aNil))))
noncomputable def b__law_names:DSt→Out:=(sSeq (sSet 2 (b1 (callR 1 m__law_name) (aCons (slotD 0) aNil)))
  (sSeq (sSet 3 (b2 modD (b2 fdivD (slotP 0) (kD (.int 7))) (b2 addD (b1 lenR (slotP 2)) (kD (.int 1)))))
  (sSeq (sSet 4 (b2 ixR (asD (b1 lstR (aCons (kD (.str "bdfhkmpry")) (aCons (kD (.str "yrpmkhfdb")) (aCons (kD (.str "kbydrfmhp")) aNil))))) (b2 modD (b2 fdivD (slotP 0) (kD (.int 5))) (kD (.int 3)))))
  (sSeq (sOwn 5 (b1 lstR aNil))
  (sSeq (sFor (setI 6) l__law_names_1 (b1 rng1R (aCons (slotD 1) aNil)))
  (sRet (slotP 5)))))))
noncomputable def m__law_names:List D→Res D:=runD 8 b__law_names
noncomputable def l__law_wings_1:DSt→Out:=(sSeq (sSet 7 (b1 (callR 2 m__law_mixed) (aCons (b2 ixR (slotP 2) (slotP 6)) (aCons (b2 addD (kD (.int 10)) (slotP 6)) aNil))))
  (sSeq (sSet 8 (asD (b1 lstR (aCons (b2 ixR (slotP 1) (kD (.int 31))) aNil))))
  (sSeq (sSet 9 (b2 ixR (asD (b1 lstR (aCons (b2 modD (slotP 7) (b1 lenR (slotP 2))) (aCons (b2 modD (b2 addD (slotP 6) (kD (.int 1))) (b1 lenR (slotP 2))) aNil)))) (b1 intS (slotP 3))))
  (sSeq (sIf (tAnd2 (tR (slotD 3)) (tR (b2 eqR (b2 addD (slotP 6) (kD (.int 1))) (b1 lenR (slotP 2))))) (sSet 9 (b2 modD (slotP 7) (b1 lenR (slotP 2)))) Out.nx)
  (sSeq (sIf (tAnd2 (tOr2 (tR (slotD 3)) (tR (b2 gtR (b2 modD (b2 fdivD (slotP 7) (kD (.int 7))) (kD (.int 5))) (kD (.int 0))))) (tR (b2R ninQR (slotP 9) (slotQ 5)))) (sSeq (sPutI 5 (slotD 9) (kD (.bl true)))
  (sSeq (sSet 10 (asD (b1 lstR (aCons (b2 ixR (slotP 1) (slotP 9)) aNil))))
  (sSet 8 (asD (b2F catR (asD (b2F catR (asD (b2F repR (slotP 10) (b2 modD (b2 fdivD (slotP 7) (kD (.int 35))) (kD (.int 2))))) (slotP 8))) (asD (b2F repR (slotP 10) (b2 subD (kD (.int 1)) (b2 modD (b2 fdivD (slotP 7) (kD (.int 35))) (kD (.int 2))))))))))) Out.nx)
  (sApp 4 (b1 tupR (aCons (b2 ixR (slotP 1) (slotP 6)) (aCons (slotD 8) aNil)))))))))
noncomputable def b__law_wings:DSt→Out:=(sSeq (sSet 1 (b1 (callR 2 m__law_names) (aCons (b1 (callR 2 m__law_mixed) (aCons (b1 (callR 2 m__law_cell_at) (aCons (slotD 0) (aCons (kD (.int 0)) aNil))) (aCons (kD (.int 4)) aNil))) (aCons (kD (.int 32)) aNil))))
  (sSeq (sSet 2 (asD (b3 slL (slotP 0) (b1 partR (kD (.int 1))) (b1 partR (kD (.int 31))))))
  (sSeq (sSet 3 (b2 eqR (b2 modD (b1 (callR 2 m__law_cell_at) (aCons (slotD 0) (aCons (kD (.int 0)) aNil))) (kD (.int 3))) (kD (.int 1))))
  (sSeq (sOwn 4 (b1 lstR aNil))
  (sSeq (sOwnQ 5)
  (sSeq (sFor (setI 6) l__law_wings_1 (b1 rng1R (aCons (b1 lenR (slotP 2)) aNil)))
  (sFrzL 4 (sRet (b1 tupR (aCons (b2 ixR (slotP 1) (kD (.int 31))) (aCons (b2 ixR (slotP 1) (kD (.int 30))) (aCons (slotD 4) aNil))))))))))))
noncomputable def m__law_wings:List D→Res D:=runD 11 b__law_wings
noncomputable def l_law_1:DSt→Out:=(sSeq (sSet 5 (b1 (callR 3 m__law_asked) (aCons (slotD 1) (aCons (slotD 2) (aCons (slotD 3) aNil)))))
  (sSeq (sIf (tNot1 (tR (b1 (callR 2 m__law_has_ring) (aCons (slotD 1) (aCons (slotD 3) aNil))))) (sRet (b1 isNR (slotP 5))) Out.nx)
  (sSeq (sIf (tNot1 (tR (b1 (callR 2 m__law_good_ring) (aCons (slotD 5) (aCons (slotD 3) aNil))))) (sRet (kD (.bl false))) Out.nx)
  (sSet 3 (b1 (callR 2 m__law_cut) (aCons (slotD 3) (aCons (b2 ixR (slotP 5) (kD (.int 0))) aNil)))))))
noncomputable def b_law:DSt→Out:=(sSeq (sAsg (unTup 3 (unCons (setI 1) (unCons (setI 2) (unCons (setI 3) unNil)))) (b1 (callR 1 m__law_wings) (aCons (slotD 0) aNil)))
  (sSeq (sFor (setI 4) l_law_1 (b1 rng1R (aCons (kD (.int 32)) aNil)))
  (sRet (kD (.bl false)))))
noncomputable def m_law:List D→Res D:=runD 6 b_law
end G
namespace G
open PySem PySem.Spec PyProof.Rows L2 L3
local macro_rules| `(tactic| walk_at "ev")=> `(tactic| simp only [runD_eq,startD,List.map_cons,List.map_nil,List.length_cons,List.length_nil,List.cons_append,List.nil_append,Nat.reduceAdd,Nat.reduceSub,List.replicate,
 kD,b1,b2,b3,bCh,tR,tAnd2,tOr2,tNot1,vAnd,vOr,vIf,aNil,aCons,oNone,asD,vComp,sSeq,sSet,sOwn,sIf,sFor,sWhile,b2F,sApp,sRet,sRetN,sExpr,sAsg,sSetI,sOwnR,sOwnQ,sPutI,b1Q,b2Q,
 slotD_0,slotD_s,slotP_0,slotP_0o,slotP_s,Res.bind_ok,Res.bind_ex,Res.bind_stuck,ofR_ok,ofR_ex,ofR_stuck,seqO_nx,seqO_rt,seqO_stuck,ifO_ok,andB_ok,orB_ok,andD_bl,orD_bl,boolR_bl,notD_bl,
 eqR_ii,neR_ii,eqR_bb,ltR_ii,leR_ii,gtR_ii,geR_ii,addD_ii,addD_small,subD_ii,negD_i,modD_ii,fdivD_ii,mulE_ii,maxR_ii,minR_ii,absR_i,lenR_t,lenR_l,seqR_t,seqR_l,tupofR_t,tupofR_l,partR_i,consR_ok,noex_ok,slD_l,slW_l,finO_rt,finO_nx,chain_le,chain_lelt,
 List.set_cons_zero,List.set_cons_succ,lstR,tupR,if_true,if_false,reduceIte,Bool.not_true,Bool.not_false,Bool.false_eq_true,Nat.zero_le,Nat.reduceLeDiff,Nat.zero_add,Int.reduceLT,true_and,and_true,and_self])
local macro_rules| `(tactic| walk_at "ev*")=> `(tactic| simp only [runD_eq,startD,List.map_cons,List.map_nil,List.length_cons,List.length_nil,List.cons_append,List.nil_append,Nat.reduceAdd,Nat.reduceSub,List.replicate,
 kD,b1,b2,b3,bCh,tR,tAnd2,tOr2,tNot1,vAnd,vOr,vIf,aNil,aCons,oNone,asD,vComp,sSeq,sSet,sOwn,sIf,sFor,sWhile,b2F,sApp,sRet,sRetN,sExpr,sAsg,sSetI,sOwnR,sOwnQ,sPutI,b1Q,b2Q,
 slotD_0,slotD_s,slotP_0,slotP_0o,slotP_s,Res.bind_ok,Res.bind_ex,Res.bind_stuck,ofR_ok,ofR_ex,ofR_stuck,seqO_nx,seqO_rt,seqO_stuck,ifO_ok,andB_ok,orB_ok,andD_bl,orD_bl,boolR_bl,notD_bl,
 eqR_ii,neR_ii,eqR_bb,ltR_ii,leR_ii,gtR_ii,geR_ii,addD_ii,addD_small,subD_ii,negD_i,modD_ii,fdivD_ii,mulE_ii,maxR_ii,minR_ii,absR_i,lenR_t,lenR_l,seqR_t,seqR_l,tupofR_t,tupofR_l,partR_i,consR_ok,noex_ok,slD_l,slW_l,finO_rt,finO_nx,chain_le,chain_lelt,
 List.set_cons_zero,List.set_cons_succ,lstR,tupR,if_true,if_false,reduceIte,Bool.not_true,Bool.not_false,Bool.false_eq_true,Nat.zero_le,Nat.reduceLeDiff,Nat.zero_add,Int.reduceLT,true_and,and_true,and_self, *])
local macro_rules| `(tactic| walk_at "evs")=> `(tactic| simp [runD_eq,startD,List.map_cons,List.map_nil,List.length_cons,List.length_nil,List.cons_append,List.nil_append,Nat.reduceAdd,Nat.reduceSub,List.replicate,
 kD,b1,b2,b3,bCh,tR,tAnd2,tOr2,tNot1,vAnd,vOr,vIf,aNil,aCons,oNone,asD,vComp,sSeq,sSet,sOwn,sIf,sFor,sWhile,b2F,sApp,sRet,sRetN,sExpr,sAsg,sSetI,sOwnR,sOwnQ,sPutI,b1Q,b2Q,
 slotD_0,slotD_s,slotP_0,slotP_0o,slotP_s,Res.bind_ok,Res.bind_ex,Res.bind_stuck,ofR_ok,ofR_ex,ofR_stuck,seqO_nx,seqO_rt,seqO_stuck,ifO_ok,andB_ok,orB_ok,andD_bl,orD_bl,boolR_bl,notD_bl,
 eqR_ii,neR_ii,eqR_bb,ltR_ii,leR_ii,gtR_ii,geR_ii,addD_ii,addD_small,subD_ii,negD_i,modD_ii,fdivD_ii,mulE_ii,maxR_ii,minR_ii,absR_i,lenR_t,lenR_l,seqR_t,seqR_l,tupofR_t,tupofR_l,partR_i,consR_ok,noex_ok,slD_l,slW_l,finO_rt,finO_nx,chain_le,chain_lelt,
 List.set_cons_zero,List.set_cons_succ,lstR,tupR,if_true,if_false,reduceIte,Bool.not_true,Bool.not_false,Bool.false_eq_true,Nat.zero_le,Nat.reduceLeDiff,Nat.zero_add,Int.reduceLT,true_and,and_true,and_self, *])
theorem z1000 {n:Nat} (h:n≤1000):n≤sizeLine:=Nat.le_trans h k1000
theorem lenR_s (x:Str) (h:x.length≤1000):lenR (.str x)= .ok (.int x.length):=if_pos (z1000 h)
theorem addD_s (x y:Str) (h:x.length+y.length≤100000):addD (.str x) (.str y)= .ok (.str (x++y)):=if_pos (by rw [sizeLine_eq];omega)
theorem app_len (x y:Str):(x++y).length=x.length+y.length:=Array.size_append ..
theorem modI (i j:Int) (h:0<j):modD (.int i) (.int j)= .ok (.int (i%j)):=by rw [modD_ii,if_pos h]
theorem divI (i j:Int) (h:0<j) (h2:j<1073741824):fdivD (.int i) (.int j)= .ok (.int (i / j)):=by rw [fdivD_ii,if_pos ⟨h,h2⟩]
def okC (x:Str):Prop:=∀ c∈x.cps.toList,c<1114112
theorem app_okC {x y:Str} (hx:okC x) (hy:okC y):okC (x++y):=fun c hc=>by
 simp only [Str.cps_append,Array.toList_append,List.mem_append] at hc
 exact hc.elim (hx c) (hy c)
theorem one_okC {x:Str} {c:Nat} (hx:okC x) (h:c∈x.cps.toList):okC ⟨#[c]⟩:=fun d hd=>by
 have:d=c:=by simpa using hd
 rw [this];exact hx c h
theorem sl_okC {x:Str} (hx:okC x) (l u:Option Int):okC (PySem.Txt.slice x l u):=by
 unfold PySem.Txt.slice
 split
 ·exact hx
 ·intro c hc
  obtain ⟨i,_,e⟩:=List.mem_filterMap.mp (show c∈List.filterMap _ _ from hc)
  exact hx c (by rw [Array.mem_toList_iff];exact Array.mem_of_getElem? e)
theorem ixS (z:Str) (i:Int) (hz:z.length≤1000) (h0:0≤i) (h1:i<z.length):∃ c,ixR (.str z) (.int i)= .ok (.str ⟨#[c]⟩)∧c∈z.cps.toList:=by
 have hl:z.cps.toList.length=z.length:=Array.length_toList ..
 obtain ⟨c,e,hm⟩:=atI_in (xs:=z.cps.toList) h0 (by rw [hl];exact h1)
 refine ⟨c,?_,hm⟩
 show (@ite (Res D) (z.length≤sizeLine) (Classical.propDecidable _) _ _)=_
 rw [if_pos (z1000 hz),e]
theorem slS_len (z:Str) (lo hi:Option Int) (h:z.length≤1000) (hz:okC z):∃ y:Str,slS (.str z) lo hi= .ok (.str y)∧y.length≤z.length∧okC y:=⟨_,if_pos (z1000 h),PySem.Txt.slice_le z _ _,sl_okC hz _ _⟩
theorem abc_okC:okC "abcdefghijklmnopqrstuvwxyz":=by unfold okC;decide +kernel
theorem cell_ex (ns:List Int) (k:Int) (h0:0≤k):∃ v,callR 2 m__law_cell_at [.lst (ns.map D.int), .int k]= .ok (.int v):=by
 by_cases h:k<(ns.length:Int)
 ·obtain ⟨d,e,hd⟩:=atI_in (xs:=ns.map D.int) (i:=k) h0 (by rw [List.length_map];exact h)
  obtain ⟨v,_,rfl⟩:=List.mem_map.mp hd
  have e':=ixR_l _ _ _ e
  have dt:decide (k<((ns.map D.int).length:Int))=true:=decide_eq_true (by rw [List.length_map];exact h)
  refine ⟨v,callR_eq _ _ _ _ ?_ rfl⟩
  generalize ns.map D.int=ds at*
  unfold m__law_cell_at b__law_cell_at
  walk_at "ev*"
 ·have dt:decide (k<((ns.map D.int).length:Int))=false:=decide_eq_false (by rw [List.length_map];exact h)
  refine ⟨0,callR_eq _ _ _ _ ?_ rfl⟩
  generalize ns.map D.int=ds at*
  unfold m__law_cell_at b__law_cell_at
  walk_at "ev*"
theorem mixed_ex (c k:Int) (h0:0≤k) (h1:k≤1000):∃ v,callR 2 m__law_mixed [.int c, .int k]= .ok (.int v):=by
 have m1:=modI c 2147483647 (by decide)
 have b0:=Int.emod_nonneg c (show (2147483647:Int)≠0 by decide)
 have b1':=Int.emod_lt_of_pos c (show (0:Int)<2147483647 by decide)
 have k2:mulE (.int 2) (.int k)= .ok (.int (2*k)):=by rw [mulE_ii];exact if_pos (.inl (by omega))
 generalize c%2147483647=r at*
 have x1:mulE (.int (r+7)) (.int (48271+2*k))= .ok (.int ((r+7)*(48271+2*k))):=by rw [mulE_ii];exact if_pos (.inl (by omega))
 have m2:=modI ((r+7)*(48271+2*k)) 2147483629 (by decide)
 have b2':=Int.emod_nonneg ((r+7)*(48271+2*k)) (show (2147483629:Int)≠0 by decide)
 have b3:=Int.emod_lt_of_pos ((r+7)*(48271+2*k)) (show (0:Int)<2147483629 by decide)
 generalize (r+7)*(48271+2*k)%2147483629=q at*
 have x2:mulE (.int q) (.int q)= .ok (.int (q*q)):=by rw [mulE_ii];exact if_pos (.inl (by omega))
 have m3:=modI (q*q) 2147483587 (by decide)
 refine ⟨q*q%2147483587,callR_eq _ _ _ _ ?_ rfl⟩
 clear b0 b1' b2' b3 h0 h1
 unfold m__law_mixed b__law_mixed
 simp only [runD_eq,startD,List.map_cons,List.map_nil,List.length_cons,List.length_nil,List.cons_append,List.nil_append,Nat.reduceAdd,Nat.reduceSub,List.replicate,kD,b2,sSeq,sSet,sRet,slotD_0,slotD_s,slotP_0,slotP_s,Res.bind_ok,ofR_ok,seqO_nx,addD_ii,m1,k2,x1,m2,x2,m3,List.set_cons_zero,List.set_cons_succ,finO_rt]
theorem name_turn (c r:Int) (w:Str) (x:D) (hw:w.length≤900) (hc:okC w):∃ (r2:Int) (w2:Str),l__law_name_1 [some (.d (.int c)),some (.d (.int r)),some (.d (.str w)),some (.d x)]= .nx [some (.d (.int c)),some (.d (.int r2)),some (.d (.str w2)),some (.d x)]∧w2.length=w.length+1∧okC w2:=by
 have m1:=modI r 26 (by decide)
 have d1:=divI r 26 (by decide) (by decide)
 have b0:=Int.emod_nonneg r (show (26:Int)≠0 by decide)
 have b1':=Int.emod_lt_of_pos r (show (0:Int)<26 by decide)
 obtain ⟨ch,e1,hm⟩:=ixS "abcdefghijklmnopqrstuvwxyz" (r%26) (by decide) b0 b1'
 have e2:=addD_s w ⟨#[ch]⟩ (by rw [show (⟨#[ch]⟩:Str).length=1 from rfl];omega)
 refine ⟨r / 26,w++⟨#[ch]⟩,?_,by rw [app_len];rfl,app_okC hc (one_okC abc_okC hm)⟩
 clear b0 b1' hw hc hm
 generalize r%26=q at*
 unfold l__law_name_1
 walk_at "ev*"
theorem name_ex (c:Int):∃ w:Str,callR 1 m__law_name [.int c]= .ok (.str w)∧w.length≤10∧okC w:=by
 have ep:powD (.int 26) (.int 10)= .ok (.int (26^10)):=if_pos ⟨by decide,by decide,by decide⟩
 have d1:=divI c 10 (by decide) (by decide)
 have m1:=modI (c / 10) (26^10) (by decide)
 have m2:=modI c 10 (by decide)
 have b0:=Int.emod_nonneg c (show (10:Int)≠0 by decide)
 have b1':=Int.emod_lt_of_pos c (show (0:Int)<10 by decide)
 generalize c%10=q at*
 have rg:=rng1_i (1+q) (by omega) (by omega)
 have hq:(1+q).toNat≤10:=by omega
 generalize (1+q).toNat=n at*
 generalize c / 10%26^10=r at*
 obtain ⟨δ2,f,r2,w,y,rfl,hl,hok⟩:=forD_ix (t:=setI 3) (body:=l__law_name_1) (fun i δ=>∃ (r:Int) (w:Str) (y:Option S),δ= [some (.d (.int c)),some (.d (.int r)),some (.d (.str w)),y]∧w.length=i∧okC w) (rngD 0 n) [some (.d (.int c)),some (.d (.int r)),some (.d (.str "")),none] (fun i d δ hd hI=>by
   obtain ⟨r,w,y,rfl,hw,hk⟩:=hI
   obtain ⟨hi,rfl⟩:=rngD_get hd
   obtain ⟨r2,w2,e,h2,k2⟩:=name_turn c r w (.int (0+i)) (by omega) hk
   exact ⟨_,rfl,_, .inl e,r2,w2,_,rfl,by omega,k2⟩) ⟨r,"",none,rfl,rfl,fun c hc=>absurd hc (by show ¬ c∈([]:List Nat);simp)⟩
 rw [rngD_len] at hl
 refine ⟨w,callR_eq _ _ _ _ ?_ rfl,by omega,hok⟩
 clear b0 b1'
 unfold m__law_name b__law_name
 simp only [runD_eq,startD,List.map_cons,List.map_nil,List.length_cons,List.length_nil,List.cons_append,List.nil_append,Nat.reduceAdd,Nat.reduceSub,List.replicate,kD,b1,b2,aCons,aNil,consR_ok,sSeq,sSet,sFor,sRet,slotD_0,slotD_s,slotP_0,slotP_s,Res.bind_ok,ofR_ok,seqO_nx,addD_ii,d1,ep,m1,m2,rg,f,List.set_cons_zero,List.set_cons_succ,finO_rt]
theorem slL_l (ds:List D) (lo hi:Option Int):slL (.lst ds) lo hi= .ok (L3.cutD ds lo hi):=rfl
theorem catR_l (xs ys:List D) (h:xs.length+ys.length≤1000):catR (.lst xs) (.lst ys)= .ok (xs++ys):=if_pos (Nat.le_trans h k1000)
def prD (p:Str×List Str):D:= .tup [.str p.1, .lst (p.2.map D.str)]
theorem comp_pr {fe:DSt→Res D} (f:Str×List Str→D) (δ:DSt):∀ (ps:List (Str×List Str)) (x y:Option S),(∀ p∈ps,fe (some (.d (.str p.1))::some (.d (.lst (p.2.map D.str)))::δ)= .ok (f p))→
  compD (unTup 2 (unCons (setI 0) (unCons (setI 1) unNil))) (fun _=> .ok true) fe (ps.map prD) (x::y::δ)= .ok (ps.map f)
 | [],_,_,_=>rfl
 |p::ps,x,y,h=>by
  rw [List.map_cons,compD_cons (δ':=some (.d (.str p.1))::some (.d (.lst (p.2.map D.str)))::δ) _ _ _ _ rfl]
  simp only [noex_ok,Res.bind_ok,if_true,h p List.mem_cons_self,comp_pr f δ ps _ _ (fun q hq=>h q (List.mem_cons_of_mem _ hq)),List.map_cons]
theorem copied_eq (ps:List (Str×List Str)) (hl:ps.length≤1000):callR 1 m_copied [.lst (ps.map prD)]= .ok (.lst (ps.map prD)):=by
 have c:=compR_ok (n:=2) (c:=fun _=> .ok true) (fe:=e_copied_1) (δ:= [some (.d (.lst (ps.map prD)))]) (comp_pr (fe:=e_copied_1) prD [some (.d (.lst (ps.map prD)))] ps none none (fun p _=>by
  unfold e_copied_1 prD
  simp only [b1,asD,tupR,aCons,aNil,consR_ok,slotD_0,slotD_s,slotP_0,slotP_s,Res.bind_ok,seqR_l,List.length_cons,List.length_nil,Nat.reduceAdd,Nat.reduceLeDiff,if_true,reduceIte])) (by rw [List.length_map];omega)
 refine callR_eq _ _ _ _ ?_ rfl
 generalize ps.map prD=P at*
 unfold m_copied b_copied
 simp only [runD_eq,startD,List.map_cons,List.map_nil,List.length_cons,List.length_nil,List.cons_append,List.nil_append,Nat.reduceAdd,Nat.reduceSub,List.replicate,b1,asD,vComp,sRet,slotD_0,Res.bind_ok,ofR_ok,seqR_l,c,finO_rt]
abbrev HsD (R A B C:D):D:= .obj "House" ["rules","doors","wings","grants"] [R,A,B,C]
theorem make_eq (R:D) (ds:List D) (ps qs:List (Str×List Str)) (hp:ps.length≤1000) (hq:qs.length≤1000):callR 4 (makeR 4 "House" fs_House) [R, .lst ds, .lst (ps.map prD), .lst (qs.map prD)]= .ok (HsD R (.lst ds) (.lst (ps.map prD)) (.lst (qs.map prD))):=by
 have e1:=copied_eq ps hp
 have e2:=copied_eq qs hq
 refine callR_eq _ _ _ _ ?_ rfl
 generalize ps.map prD=P at*
 generalize qs.map prD=Q at*
 unfold makeR fs_House
 simp only [fldsR,startD,List.map_cons,List.map_nil,List.length_cons,List.length_nil,List.cons_append,List.nil_append,Nat.reduceAdd,Nat.reduceSub,List.replicate,b1,asD,aCons,aNil,consR_ok,slotD_0,slotD_s,slotP_0,slotP_s,Res.bind_ok,seqR_l,e1,e2]
theorem fld2 (R A B C:D):fldR "House" "doors" (HsD R A B C)= .ok A:=rfl
theorem fld3 (R A B C:D):fldR "House" "wings" (HsD R A B C)= .ok B:=rfl
theorem fld4 (R A B C:D):fldR "House" "grants" (HsD R A B C)= .ok C:=rfl
theorem strsOf_map:∀ xs:List Str,strsOf (xs.map D.str)=some xs
 | []=>rfl
 |x::xs=>by show (strsOf (xs.map D.str)).map (x:: ·)=_;rw [strsOf_map xs];rfl
theorem merge_go:∀ (l acc:List (Key×D)),((acc++l).map (·.1)).Nodup→l.foldl (fun a p=>tPut a p.1 p.2) acc=acc++l
 | [],acc,_=>by rw [List.foldl_nil,List.append_nil]
 |p::l,acc,h=>by
  have h1:tHas acc p.1=false:=by
   cases hh:tHas acc p.1 with
   |false=>rfl
   |true=>
    unfold tHas at hh
    obtain ⟨q,hq,e⟩:=List.any_eq_true.mp hh
    rw [List.map_append,List.map_cons,List.nodup_append] at h
    exact absurd (of_decide_eq_true e) (h.2.2 q.1 (List.mem_map_of_mem hq) p.1 List.mem_cons_self)
  have h2:tPut acc p.1 p.2=acc++ [p]:=by
   unfold tPut
   rw [h1];rfl
  rw [List.foldl_cons,h2,merge_go l (acc++ [p]) (by rw [List.append_assoc];exact h),List.append_assoc]
  rfl
theorem merge_id (l:List (Key×D)) (h:(l.map (·.1)).Nodup):mergeT l=l:=(merge_go l [] h).trans (List.nil_append l)
def tK (ks:List Nat) (f:Nat→Str) (g:Nat→D):List (Key×D):=ks.map fun k=>(.inr (f k),g k)
def InjOn (ks:List Nat) (f:Nat→Str):Prop:=∀ a∈ks,∀ b∈ks,f a=f b→a=b
theorem tK_nodup {ks:List Nat} {f:Nat→Str} {g:Nat→D} (hi:InjOn ks f) (hn:ks.Nodup):((tK ks f g).map (·.1)).Nodup:=by
 unfold tK
 rw [List.map_map]
 refine List.Pairwise.map _ (R:=fun a b=>a∈ks∧b∈ks∧a≠b) (fun a b h z=>h.2.2 (hi a h.1 b h.2.1 (Sum.inr.inj z))) ?_
 exact List.Pairwise.imp_of_mem (fun ha hb h=>⟨ha,hb,h⟩) hn
theorem tK_get {f:Nat→Str} {g:Nat→D}:∀ {ks:List Nat},InjOn ks f→∀ {k:Nat},k∈ks→tGet (tK ks f g) (.inr (f k))=some (g k)
 | [],_,_,h=>by simp at h
 |a::ks,hi,k,h=>by
  show tGet ((Sum.inr (f a),g a)::tK ks f g) (.inr (f k))=_
  by_cases e:f a=f k
  ·have:a=k:=hi a List.mem_cons_self k h e
   subst this
   exact tGet_pos rfl
  ·rw [tGet_neg (fun z=>e (Sum.inr.inj z))]
   rcases List.mem_cons.mp h with rfl|h
   ·exact absurd rfl e
   ·exact tK_get (fun a ha b hb=>hi a (List.mem_cons_of_mem _ ha) b (List.mem_cons_of_mem _ hb)) h
def dK (l:List (Key×D)):D:= .dct (l.map (·.1)) (l.map (·.2))
theorem dK_zip (l:List (Key×D)):(l.map (·.1)).zip (l.map (·.2))=l:=by
 rw [List.zip_map']
 exact List.map_id _
theorem pairsOf_tK (f:Nat→Str) (g:Nat→D):∀ ks:List Nat,pairsOfD (ks.map fun k=>D.tup [.str (f k),g k])=some (tK ks f g)
 | []=>rfl
 |k::ks=>by
  rw [List.map_cons]
  show (match keyD (.str (f k)),pairsOfD (ks.map fun k=>D.tup [.str (f k),g k]) with
   |some kk,some l=>some ((kk,g k)::l)
   |_,_=>none)=_
  rw [pairsOf_tK f g ks];rfl
theorem dict_tK {ks:List Nat} {f:Nat→Str} {g:Nat→D} (hi:InjOn ks f) (hn:ks.Nodup):dictLR (.lst (ks.map fun k=>D.tup [.str (f k),g k]))= .ok (dK (tK ks f g)):=by
 unfold dictLR
 dsimp only
 rw [pairsOf_tK]
 dsimp only
 rw [merge_id _ (tK_nodup hi hn)];rfl
theorem slotQ_d0 (l:List (Key×D)) (r:DSt):slotQ 0 (some (.d (dK l))::r)= .ok l:=by
 show Res.ok ((l.map (·.1)).zip (l.map (·.2)))=_
 rw [dK_zip]
theorem slotQ_s (n:Nat) (a:Option S) (r:DSt):slotQ (n+1) (a::r)=slotQ n r:=by simp [slotQ]
theorem get_tK {f:Nat→Str} {g:Nat→D} {ks:List Nat} (hi:InjOn ks f) {k:Nat} (h:k∈ks):dgetR (tK ks f g) (.str (f k))= .ok (g k):=by
 show (match tGet (tK ks f g) (.inr (f k)) with|some d=>Res.ok d|none=> .stuck)=_
 rw [tK_get hi h]
def sL (ks:List Nat) (f:Nat→Str):D:= .lst (ks.map fun k=>D.str (f k))
theorem put_gen (i:Nat) (δ:DSt) (l:List (Key×D)) (k:Str) (d:D) (fi f:DSt→Res D) (h:δ[i]? =some (some (.q (l.map (·.1)) (l.map (·.2))))) (hl:l.length≤1000) (e1:f δ= .ok d) (e2:fi δ= .ok (.str k)):
  sPutI i fi f δ= .nx (δ.set i (some (.q ((tPut l (.inr k) d).map (·.1)) ((tPut l (.inr k) d).map (·.2))))):=by
 unfold sPutI
 rw [e1]
 show putO i fi δ d=_
 unfold putO
 rw [h]
 show ofR (fi δ) (putJ i δ ((l.map (·.1)).zip (l.map (·.2))) d)=_
 rw [e2,dK_zip]
 show (if l.length≤1000 then _ else _)=_
 rw [if_pos hl]
def rK (R:List Str):List (Key×D):=R.map fun x=>(.inr x, .bl true)
theorem rK_get (x:Str):∀ R:List Str,(tGet (rK R) (.inr x)).isSome=decide (x∈R)
 | []=>by simp [rK,tGet]
 |y::R=>by
  show (tGet ((Sum.inr y,D.bl true)::rK R) (.inr x)).isSome=_
  by_cases h:y=x
  ·subst h
   rw [tGet_pos rfl];simp
  ·rw [tGet_neg (show ¬ (Sum.inr y:Key)=Sum.inr x from fun z=>h (Sum.inr.inj z)),rK_get x R]
   have:¬ x=y:=fun z=>h z.symm
   simp [this]
theorem rK_put (x:Str) (R:List Str) (h:x∉R):tPut (rK R) (.inr x) (.bl true)=rK (R++ [x]):=by
 unfold tPut
 rw [tHas_get,rK_get,decide_eq_false h]
 simp [rK]
theorem wh_stop {c:DSt→Res Bool} {b:DSt→Out} {δ:DSt} (n:Nat) (h:c δ= .ok false):whileD c b (n+1) δ= .nx δ:=by rw [whileD,h]
theorem wh_step {c:DSt→Res Bool} {b:DSt→Out} {δ δ2:DSt} (n:Nat) (h:c δ= .ok true) (h2:b δ= .nx δ2):whileD c b (n+1) δ=whileD c b n δ2:=by rw [whileD,h];simp only [h2]
def wds:List D:= [.str "door", .str "key", .str "opens", .str "rules", .str "wing"]
def opn (w:Str):Str:=if inB (.str w) wds=true then w++"x" else w
theorem opn_len (w:Str):(opn w).length=w.length+(if inB (.str w) wds=true then 1 else 0):=by
 unfold opn
 split
 ·rw [app_len];rfl
 ·rfl
theorem open_eq (w:Str) (h:w.length≤900):callR 1 m__law_open [.str w]= .ok (.str (opn w)):=by
 have e1:inR (.str w) (.lst [.str "door", .str "key", .str "opens", .str "rules", .str "wing"])= .ok (.bl (inB (.str w) wds)):=by unfold L3.inR;dsimp only;exact if_pos (by simp [flatD])
 have e2:=addD_s w "x" (by rw [show ("x":Str).length=1 from rfl];omega)
 unfold opn
 generalize inB (.str w) wds=b at*
 cases b with
 |true=>
  rw [if_pos rfl]
  refine callR_eq _ _ _ _ ?_ rfl
  clear h
  unfold m__law_open b__law_open
  walk_at "ev*"
 |false=>
  rw [if_neg Bool.false_ne_true]
  refine callR_eq _ _ _ _ ?_ rfl
  clear h
  unfold m__law_open b__law_open
  walk_at "ev*"
def chz (z:Str) (i:Nat):Nat:=z.cps.toList.getD i 0
theorem ixZ (z:Str) (i:Nat) (hz:z.length=9) (h1:i<9):ixR (.str z) (.int (i:Int))= .ok (.str ⟨#[chz z i]⟩):=by
 have hl:z.cps.toList.length=9:=(Array.length_toList ..).trans hz
 have e:atI z.cps.toList (i:Int)=some (chz z i):=by
  refine atI_pos (by omega) ?_
  rw [show ((i:Int)).toNat=i by omega]
  unfold chz
  rw [List.getD_eq_getElem?_getD,List.getElem?_eq_getElem (by omega)];rfl
 show (@ite (Res D) (z.length≤sizeLine) (Classical.propDecidable _) _ _)=_
 rw [if_pos (z1000 (by omega)),e]
theorem str_ext {x y:Str} (h:x.cps.toList=y.cps.toList):x=y:=by
 cases x;cases y
 congr 1
 exact Array.toList_inj.mp h
theorem z_dec (z:Str) (h:∀ i,i<9→∀ j,j<9→chz z i=chz z j→i=j):∀ i j,i<9→j<9→chz z i=chz z j→i=j:=fun i j a b=>h i a j b
def zOk (z:Str):Prop:=z.length=9∧∀ i j,i<9→j<9→chz z i=chz z j→i=j
def fN (l r z:Str) (k:Nat):Str:=opn (l++(⟨#[chz z (k%9)]⟩++⟨#[chz z (k / 9%9)]⟩)++r)
theorem fN_inj {l r z:Str} (hz:zOk z) {j k:Nat} (hj:j<81) (hk:k<81) (h:fN l r z j=fN l r z k):j=k:=by
 have l1:=opn_len (l++(⟨#[chz z (j%9)]⟩++⟨#[chz z (j / 9%9)]⟩)++r)
 have l2:=opn_len (l++(⟨#[chz z (k%9)]⟩++⟨#[chz z (k / 9%9)]⟩)++r)
 have h':opn (l++(⟨#[chz z (j%9)]⟩++⟨#[chz z (j / 9%9)]⟩)++r)=opn (l++(⟨#[chz z (k%9)]⟩++⟨#[chz z (k / 9%9)]⟩)++r):=h
 rw [h',l2] at l1
 have q1:(l++(⟨#[chz z (j%9)]⟩++⟨#[chz z (j / 9%9)]⟩)++r:Str).length=l.length+2+r.length:=by rw [app_len,app_len,app_len];rfl
 have q2:(l++(⟨#[chz z (k%9)]⟩++⟨#[chz z (k / 9%9)]⟩)++r:Str).length=l.length+2+r.length:=by rw [app_len,app_len,app_len];rfl
 rw [q1,q2] at l1
 have eq:(l++(⟨#[chz z (j%9)]⟩++⟨#[chz z (j / 9%9)]⟩)++r:Str)=l++(⟨#[chz z (k%9)]⟩++⟨#[chz z (k / 9%9)]⟩)++r:=by
  unfold opn at h'
  by_cases a:inB (.str (l++(⟨#[chz z (j%9)]⟩++⟨#[chz z (j / 9%9)]⟩)++r)) wds=true
  ·by_cases b:inB (.str (l++(⟨#[chz z (k%9)]⟩++⟨#[chz z (k / 9%9)]⟩)++r)) wds=true
   ·rw [if_pos a,if_pos b] at h'
    have h3:=congrArg (fun s:Str=>s.cps.toList) h'
    simp only [Str.cps_append,Array.toList_append,List.append_assoc,List.append_cancel_left_eq] at h3
    exact str_ext (by simp only [Str.cps_append,Array.toList_append,List.append_assoc,List.append_cancel_left_eq];simpa using h3)
   ·rw [if_pos a,if_neg b] at l1;omega
  ·by_cases b:inB (.str (l++(⟨#[chz z (k%9)]⟩++⟨#[chz z (k / 9%9)]⟩)++r)) wds=true
   ·rw [if_neg a,if_pos b] at l1;omega
   ·rw [if_neg a,if_neg b] at h';exact h'
 have h3:=congrArg (fun s:Str=>s.cps.toList) eq
 simp only [Str.cps_append,Array.toList_append,List.append_assoc,List.append_cancel_left_eq] at h3
 simp only [List.cons_append,List.nil_append,List.cons.injEq] at h3
 have g1:=hz.2 _ _ (Nat.mod_lt _ (by decide)) (Nat.mod_lt _ (by decide)) h3.1
 have g2:=hz.2 _ _ (Nat.mod_lt _ (by decide)) (Nat.mod_lt _ (by decide)) h3.2.1
 omega
theorem names_turn (a b:D) (w z l r:Str) (p:Int) (i:Nat) (f:Nat→Str) (ef:f=fN l r z) (x:Option S) (hz:zOk z) (l1:l.length≤10) (l2:r.length≤10) (s1:slS (.str w) none (some p)= .ok (.str l)) (s2:slS (.str w) (some p) none= .ok (.str r)) (hl:i≤100):
  ∃ y:Option S,l__law_names_1 [some (.d a),some (.d b),some (.d (.str w)),some (.d (.int p)),some (.d (.str z)),some (.o ((List.range i).map fun k=>D.str (f k))),some (.d (.int (i:Int))),x]= .nx [some (.d a),some (.d b),some (.d (.str w)),some (.d (.int p)),some (.d (.str z)),some (.o ((List.range (i+1)).map fun k=>D.str (f k))),some (.d (.int (i:Int))),y]:=by
 have m1:=modI (i:Int) 9 (by decide)
 have d1:=divI (i:Int) 9 (by decide) (by decide)
 have m2:=modI ((i:Int) / 9) 9 (by decide)
 have e1:=ixZ z (i%9) hz.1 (by omega)
 have e2:=ixZ z (i / 9%9) hz.1 (by omega)
 rw [show ((i%9:Nat):Int)=(i:Int)%9 by omega] at e1
 rw [show ((i / 9%9:Nat):Int)=(i:Int) / 9%9 by omega] at e2
 have e3:=addD_s ⟨#[chz z (i%9)]⟩ ⟨#[chz z (i / 9%9)]⟩ (by show 1+1≤100000;decide)
 have hi2:((⟨#[chz z (i%9)]⟩:Str)++⟨#[chz z (i / 9%9)]⟩).length=2:=by rw [app_len];rfl
 have ei:f i=opn (l++(⟨#[chz z (i%9)]⟩++⟨#[chz z (i / 9%9)]⟩)++r):=by rw [ef];rfl
 generalize (⟨#[chz z (i%9)]⟩:Str)++⟨#[chz z (i / 9%9)]⟩=inn at*
 have e4:=addD_s l inn (by omega)
 have e5:=addD_s (l++inn) r (by rw [app_len];omega)
 have e6:=open_eq (l++inn++r) (by rw [app_len,app_len];omega)
 rw [←ei] at e6
 have e7:=appO_eq 5 [some (.d a),some (.d b),some (.d (.str w)),some (.d (.int p)),some (.d (.str z)),some (.o ((List.range i).map fun k=>D.str (f k))),some (.d (.int i)),some (.d (.str inn))] ((List.range i).map fun k=>D.str (f k)) (.str (f i)) rfl (by rw [List.length_map,List.length_range];omega)
 refine ⟨some (.d (.str inn)),?_⟩
 rw [List.range_succ,List.map_append,List.map_singleton]
 clear l1 l2 hi2 hz hl ei ef
 generalize (List.range i).map (fun k=>D.str (f k))=ds at*
 generalize (i:Int)%9=q1 at*
 generalize (i:Int) / 9%9=q2 at*
 generalize l++inn++r=t at*
 unfold l__law_names_1
 simp only [kD,b1,b2,b3,aCons,aNil,oNone,consR_ok,sSeq,sSet,sApp,slotD_0,slotD_s,slotP_0,slotP_s,Res.bind_ok,ofR_ok,seqO_nx,m1,d1,m2,e1,e2,e3,s1,s2,e4,e5,e6,e7,partR_i,List.set_cons_zero,List.set_cons_succ]
theorem chz_okC {z:Str} (hz:okC z) (h9:z.length=9) (i:Nat) (h:i<9):okC ⟨#[chz z i]⟩:=one_okC hz (by
 have hl:z.cps.toList.length=9:=(Array.length_toList ..).trans h9
 unfold chz
 rw [List.getD_eq_getElem?_getD,List.getElem?_eq_getElem (by omega)]
 exact List.getElem_mem ..)
theorem opn_okC {w:Str} (h:okC w):okC (opn w):=by
 unfold opn
 split
 ·exact app_okC h (by unfold okC;decide +kernel)
 ·exact h
def Gd (x:Str):Prop:=x.length≤60∧okC x
theorem fN_Gd {l r z:Str} (hl:l.length≤10) (hr:r.length≤10) (kl:okC l) (kr:okC r) (hz:okC z) (h9:z.length=9) (k:Nat):Gd (fN l r z k):=by
 unfold fN
 refine ⟨?_,opn_okC (app_okC (app_okC kl (app_okC (chz_okC hz h9 _ (Nat.mod_lt _ (by decide))) (chz_okC hz h9 _ (Nat.mod_lt _ (by decide))))) kr)⟩
 rw [opn_len,app_len,app_len,app_len]
 have e1:(⟨#[chz z (k%9)]⟩:Str).length=1:=rfl
 have e2:(⟨#[chz z (k / 9%9)]⟩:Str).length=1:=rfl
 split<;>omega
theorem names_ex (c:Int) (M:Nat) (hM:M≤81):∃ f:Nat→Str,(∀ j k,j<81→k<81→f j=f k→j=k)∧(∀ k,Gd (f k))∧callR 2 m__law_names [.int c, .int (M:Int)]= .ok (sL (List.range M) f):=by
 obtain ⟨w,e1,hw,wk⟩:=name_ex c
 have e2:=lenR_s w (by omega)
 have d1:=divI c 7 (by decide) (by decide)
 have m1:=modI (c / 7) ((w.length:Int)+1) (by omega)
 have d2:=divI c 5 (by decide) (by decide)
 have m2:=modI (c / 5) 3 (by decide)
 obtain ⟨zd,ez,hz⟩:=atI_in (xs:= [D.str "bdfhkmpry", .str "yrpmkhfdb", .str "kbydrfmhp"]) (i:=c / 5%3) (Int.emod_nonneg _ (by decide)) (Int.emod_lt_of_pos _ (by decide))
 have ez':=ixR_l _ _ _ ez
 obtain ⟨z,rfl,hz9,zk⟩:∃ z:Str,zd= .str z∧zOk z∧okC z:=by
  simp only [List.mem_cons,List.not_mem_nil,or_false] at hz
  rcases hz with rfl|rfl|rfl
  ·exact ⟨"bdfhkmpry",rfl,⟨rfl,z_dec _ (by unfold chz;decide +kernel)⟩,by unfold okC;decide +kernel⟩
  ·exact ⟨"yrpmkhfdb",rfl,⟨rfl,z_dec _ (by unfold chz;decide +kernel)⟩,by unfold okC;decide +kernel⟩
  ·exact ⟨"kbydrfmhp",rfl,⟨rfl,z_dec _ (by unfold chz;decide +kernel)⟩,by unfold okC;decide +kernel⟩
 have rg:rng1R [.int (M:Int)]= .ok (rngD 0 M):=by
  have:=rng1_i (M:Int) (by omega) (by omega)
  rwa [show ((M:Int)).toNat=M by omega] at this
 generalize c / 7%((w.length:Int)+1)=p at*
 obtain ⟨l,s1,l1,k1⟩:=slS_len w none (some p) (by omega) wk
 obtain ⟨r,s2,l2,k2⟩:=slS_len w (some p) none (by omega) wk
 obtain ⟨f,ef⟩:∃ f,f=fN l r z:=⟨_,rfl⟩
 obtain ⟨δ2,fo,x,y,rfl⟩:=forD_ix (t:=setI 6) (body:=l__law_names_1) (fun i δ=>∃ (x y:Option S),δ= [some (.d (.int c)),some (.d (.int (M:Int))),some (.d (.str w)),some (.d (.int p)),some (.d (.str z)),some (.o ((List.range i).map fun k=>D.str (f k))),x,y])
  (rngD 0 M) [some (.d (.int c)),some (.d (.int (M:Int))),some (.d (.str w)),some (.d (.int p)),some (.d (.str z)),some (.o []),none,none] (fun i d δ hd hI=>by
   obtain ⟨x,y,rfl⟩:=hI
   obtain ⟨hi,rfl⟩:=rngD_get hd
   obtain ⟨y2,e⟩:=names_turn (.int c) (.int (M:Int)) w z l r p i f ef y hz9 (by omega) (by omega) s1 s2 (by omega)
   refine ⟨_,rfl,_, .inl ?_,some (.d (.int (i:Int))),y2,rfl⟩
   rw [show (0+(i:Int))=(i:Int) by omega]
   exact e) ⟨none,none,rfl⟩
 rw [rngD_len] at fo
 refine ⟨f,fun j k hj hk h=>fN_inj hz9 hj hk (by rw [←ef];exact h),fun k=>by rw [ef];exact fN_Gd (by omega) (by omega) k1 k2 zk hz9.1 k,callR_eq _ _ _ _ ?_ rfl⟩
 unfold sL
 clear hw hz9 hz ez zk wk k1 k2 hM
 generalize (M:Int)=MM at*
 generalize (List.range M).map (fun k=>D.str (f k))=ds at*
 generalize c / 5%3=q at*
 generalize (w.length:Int)=n at*
 unfold m__law_names b__law_names
 simp only [runD_eq,startD,List.map_cons,List.map_nil,List.length_cons,List.length_nil,List.cons_append,List.nil_append,Nat.reduceAdd,Nat.reduceSub,List.replicate,kD,b1,b2,asD,lstR,aCons,aNil,consR_ok,sSeq,sSet,sOwn,sFor,sRet,slotD_0,slotD_s,slotP_0,slotP_0o,slotP_s,Res.bind_ok,ofR_ok,seqO_nx,addD_ii,e1,e2,d1,m1,d2,m2,ez',rg,fo,List.set_cons_zero,List.set_cons_succ,finO_rt,Nat.reduceLeDiff,Nat.zero_le,if_true,reduceIte]
def dS (xs:List Str):D:= .lst (xs.map D.str)
theorem inB_S (x:Str):∀ xs:List Str,inB (.str x) (xs.map D.str)=decide (x∈xs)
 | []=>rfl
 |a::xs=>by
  have ih:=inB_S x xs
  unfold inB at ih ⊢
  rw [List.map_cons,List.any_cons,ih]
  by_cases e:a=x
  ·subst e;simp [eqD]
  ·have e2:¬ x=a:=fun z=>e z.symm
   simp [eqD,e,e2]
theorem flat_S (xs:List Str):(xs.map D.str).all flatD=true:=by
 rw [List.all_eq_true];intro d hd;obtain ⟨i,_,rfl⟩:=List.mem_map.mp hd;rfl
theorem inR_S (x:Str) (xs:List Str):inR (.str x) (dS xs)= .ok (.bl (decide (x∈xs))):=by
 unfold dS L3.inR;dsimp only;rw [if_pos (by rw [flat_S];rfl),inB_S]
theorem ninR_S (x:Str) (xs:List Str):ninR (.str x) (dS xs)= .ok (.bl (!decide (x∈xs))):=by
 unfold dS ninR;dsimp only;rw [if_pos (by rw [flat_S];rfl),inB_S]
theorem seq_S (xs:List Str):seqR (dS xs)= .ok (xs.map D.str):=rfl
theorem Gd_all {x:Str} (h:Gd x):(decide (x.length≤60)&&x.cps.all (fun c=>decide (c<1114112)))=true:=by
 rw [Bool.and_eq_true,decide_eq_true_eq]
 refine ⟨h.1,?_⟩
 rw [←Array.all_toList,List.all_eq_true]
 exact fun c hc=>decide_eq_true (h.2 c hc)
abbrev exN (c x:Str):Out:= .ex c [.tup [.str "name"], .str x]
theorem rai_S (c x:Str) (h:Gd x):raiG c [("name",false)] [.str x]=exN c x:=by
 have h1:smlL [("name",false)] [.str x]=true:=by
  show ((decide (x.length≤60)&&x.cps.all (fun c=>decide (c<1114112)))&&true)=true
  rw [Gd_all h];rfl
 unfold raiG
 rw [if_pos h1];rfl
def exO (r:Option (Str×Str)) (δ:DSt):Out:=match r with
 |some p=>exN p.1 p.2
 |none=> .nx δ
def exR (r:Option (Str×Str)) (d:Res D):Res D:=match r with
 |some p=> .ex p.1 [.tup [.str "name"], .str p.2]
 |none=>d
theorem noex_ok' {α:Type} (a:α):noex (Res.ok a)= .ok a:=rfl
theorem for_nx {t:D→DSt→Res DSt} {body:DSt→Out} {d:D} {ds:List D} {δ δ' δ2:DSt} (h:t d δ= .ok δ') (h2:body δ'= .nx δ2):forD t body (d::ds) δ=forD t body ds δ2:=by rw [forD_cons d ds δ δ' h,h2]
theorem for_ex {t:D→DSt→Res DSt} {body:DSt→Out} {d:D} {ds:List D} {δ δ':DSt} {c:Str} {fs:List D} (h:t d δ= .ok δ') (h2:body δ'= .ex c fs):forD t body (d::ds) δ= .ex c fs:=by rw [forD_cons d ds δ δ' h,h2]
theorem for_rt {t:D→DSt→Res DSt} {body:DSt→Out} {d:D} {ds:List D} {δ δ':DSt} {r:D} (h:t d δ= .ok δ') (h2:body δ'= .rt r):forD t body (d::ds) δ= .rt r:=by rw [forD_cons d ds δ δ' h,h2]
def unkF (K T:List Str):List Str→Option (Str×Str)
 | []=>none
 |x::xs=>if x∈K then (if x∈T then some ("Shared",x) else unkF K T xs) else some ("Unknown",x)
theorem unk_go (K T:List Str) (M:D):∀ (xs:List Str) (y:Option S),(∀ x∈xs,Gd x)→∃ z,forD (setI 3) l_refuse_unknown_1 (xs.map D.str) [some (.d (dS K)),some (.d (dS T)),some (.d M),y]=exO (unkF K T xs) [some (.d (dS K)),some (.d (dS T)),some (.d M),z]
 | [],y,_=>⟨y,rfl⟩
 |x::xs,y,h=>by
  have q1:=ninR_S x K
  have q2:=inR_S x T
  have hg:=h x List.mem_cons_self
  have r1:=rai_S "Unknown" x hg
  have r2:=rai_S "Shared" x hg
  by_cases h1:x∈K
  ·rw [decide_eq_true h1] at q1
   by_cases h2:x∈T
   ·rw [decide_eq_true h2] at q2
    refine ⟨y,?_⟩
    rw [List.map_cons,for_ex (δ':= [some (.d (dS K)),some (.d (dS T)),some (.d M),some (.d (.str x))]) (c:="Shared") (fs:= [.tup [.str "name"], .str x]) rfl ?_]
    ·unfold unkF;rw [if_pos h1,if_pos h2];rfl
    ·unfold l_refuse_unknown_1
     simp only [noxB,noxA,noex_ok',sSeq,sIf,tR,b2,aCons,aNil,consR_ok,slotD_0,slotD_s,slotP_0,slotP_s,Res.bind_ok,q1,q2,Bool.not_true,boolR_bl,ifO_ok,if_false,Bool.false_eq_true,if_true,reduceIte,seqO_nx,sRaiseG,ofR_ok,r2]
   ·rw [decide_eq_false h2] at q2
    obtain ⟨z,e⟩:=unk_go K T M xs (some (.d (.str x))) fun y hy=>h y (List.mem_cons_of_mem _ hy)
    refine ⟨z,?_⟩
    rw [List.map_cons,for_nx (δ':= [some (.d (dS K)),some (.d (dS T)),some (.d M),some (.d (.str x))]) (δ2:= [some (.d (dS K)),some (.d (dS T)),some (.d M),some (.d (.str x))]) rfl ?_,e]
    ·conv=>rhs;unfold unkF;rw [if_pos h1,if_neg h2]
    ·unfold l_refuse_unknown_1
     simp only [noxB,noxA,noex_ok',sSeq,sIf,tR,b2,aCons,aNil,consR_ok,slotD_0,slotD_s,slotP_0,slotP_s,Res.bind_ok,q1,q2,Bool.not_true,boolR_bl,ifO_ok,if_false,Bool.false_eq_true,if_true,reduceIte,seqO_nx]
  ·rw [decide_eq_false h1] at q1
   refine ⟨y,?_⟩
   rw [List.map_cons,for_ex (δ':= [some (.d (dS K)),some (.d (dS T)),some (.d M),some (.d (.str x))]) (c:="Unknown") (fs:= [.tup [.str "name"], .str x]) rfl ?_]
   ·unfold unkF;rw [if_neg h1];rfl
   ·unfold l_refuse_unknown_1
    simp only [noxB,noxA,noex_ok',sSeq,sIf,tR,b2,aCons,aNil,consR_ok,slotD_0,slotD_s,slotP_0,slotP_s,Res.bind_ok,q1,Bool.not_false,boolR_bl,ifO_ok,if_true,reduceIte,sRaiseG,ofR_ok,r1]
    rfl
theorem unk_eq (K T xs:List Str) (h:∀ x∈xs,Gd x):m_refuse_unknown [dS K,dS T,dS xs]=exR (unkF K T xs) (.ok .non):=by
 obtain ⟨z,e⟩:=unk_go K T (dS xs) xs none h
 have s:=seq_S xs
 unfold m_refuse_unknown b_refuse_unknown runX
 simp only [startD,List.map_cons,List.map_nil,List.length_cons,List.length_nil,List.cons_append,List.nil_append,Nat.reduceAdd,Nat.reduceSub,List.replicate,noxA,b1,sFor,slotD_0,slotD_s,Res.bind_ok,s,noex_ok',ofR_ok,e]
 cases unkF K T xs<;>rfl
def wngF (K wn:List Str):List Str→List (Str×List Str)→Option (Str×Str)
 |_,[]=>none
 |T,p::ps=>match unkF K T p.2 with
  |some r=>some r
  |none=>wngF K wn (T++p.2.filter fun x=>decide (x∈wn)) ps
def grF (K:List Str):List (Str×List Str)→Option (Str×Str)
 | []=>none
 |p::ps=>match unkF K [] p.2 with
  |some r=>some r
  |none=>grF K ps
def dP (ps:List (Str×List Str)):D:= .lst (ps.map prD)
def Bd (m:Nat) (ps:List (Str×List Str)):Prop:=ps.length≤m∧∀ p∈ps,Gd p.1∧p.2.length≤20∧∀ x∈p.2,Gd x
theorem filt_S {gc:DSt→Res Bool} {fe:DSt→Res D} (pr:Str→Bool) (δ:DSt):∀ (xs:List Str) (y:Option S),(∀ x∈xs,gc (some (.d (.str x))::δ)= .ok (pr x)∧fe (some (.d (.str x))::δ)= .ok (.str x))→compD (setI 0) gc fe (xs.map D.str) (y::δ)= .ok ((xs.filter pr).map D.str)
 | [],_,_=>rfl
 |x::xs,y,h=>by
  obtain ⟨h1,h2⟩:=h x List.mem_cons_self
  rw [List.map_cons,compD_cons (δ':=some (.d (.str x))::δ) _ _ _ _ rfl]
  have ih:=filt_S (gc:=gc) (fe:=fe) pr δ xs (some (.d (.str x))) fun z hz=>h z (List.mem_cons_of_mem _ hz)
  cases hp:pr x with
  |true=>
   rw [hp] at h1
   simp only [h1,h2,noex_ok',Res.bind_ok,if_true,ih,List.filter_cons_of_pos hp,List.map_cons]
  |false=>
   rw [hp] at h1
   simp only [h1,noex_ok',Res.bind_ok,if_false,Bool.false_eq_true,reduceIte,ih,List.filter_cons_of_neg (show ¬ pr x=true by rw [hp];decide)]
theorem extO_eq (i:Nat) (δ:DSt) (ds es:List D) (h:δ[i]? =some (some (.o ds))) (hl:ds.length+es.length≤100000):extO i δ (.ok es)= .nx (δ.set i (some (.o (ds++es)))):=by
 unfold extO
 rw [h]
 exact if_pos hl
abbrev shS (hD:D) (wn K T:List Str) (x4 x5 x6:Option S):DSt:= [some (.d hD),some (.d (dS wn)),some (.d (dS K)),some (.o (T.map D.str)),x4,x5,x6]
theorem callX_eq (m:List D→Res D) (ds:List D) (n:Nat) (h:ds.length=n):callX n m ds=m ds:=if_pos h
theorem lent_un {K T xs:List Str} (h:∀ x∈xs,Gd x):lentX 3 m_refuse_unknown [dS K,dS T,dS xs]=exR (unkF K T xs) (.ok .non):=by
 unfold lentX callX
 rw [if_pos (show [dS K,dS T,dS xs].length=3 from rfl),unk_eq K T xs h]
 cases unkF K T xs<;>rfl
theorem sh_go (hD:D) (wn K:List Str) (x6:Option S):∀ (ps:List (Str×List Str)) (T:List Str) (x4 x5:Option S),(∀ p∈ps,p.2.length≤20∧∀ x∈p.2,Gd x)→T.length+60*ps.length≤60000→∃ (T':List Str) (y4 y5:Option S),
  forD (unTup 2 (unCons (setI 4) (unCons (setI 5) unNil))) l_refuse_unknown_and_shared_1 (ps.map prD) (shS hD wn K T x4 x5 x6)=exO (wngF K wn T ps) (shS hD wn K T' y4 y5 x6)
 | [],T,x4,x5,_,_=>⟨T,x4,x5,rfl⟩
 |p::ps,T,x4,x5,h,hl=>by
  obtain ⟨hp,hg⟩:=h p List.mem_cons_self
  have un:=lent_un (K:=K) (T:=T) hg
  rw [List.length_cons] at hl
  have as:unTup 2 (unCons (setI 4) (unCons (setI 5) unNil)) (prD p) (shS hD wn K T x4 x5 x6)= .ok (shS hD wn K T (some (.d (.str p.1))) (some (.d (dS p.2))) x6):=rfl
  have oT:slotP 3 (shS hD wn K T (some (.d (.str p.1))) (some (.d (dS p.2))) x6)= .ok (dS T):=rfl
  have lh:b1 (lentX 3 m_refuse_unknown) (noxA (aCons (slotP 2) (aCons (slotP 3) (aCons (slotP 5) aNil)))) (shS hD wn K T (some (.d (.str p.1))) (some (.d (dS p.2))) x6)=exR (unkF K T p.2) (.ok .non):=by
   rw [←un]
   simp only [b1,noxA,aCons,aNil,oT]
   rfl
  cases hu:unkF K T p.2 with
  |some r=>
   refine ⟨T,x4,x5,?_⟩
   rw [List.map_cons,for_ex (c:=r.1) (fs:= [.tup [.str "name"], .str r.2]) as ?_]
   ·unfold wngF;rw [hu];rfl
   ·unfold l_refuse_unknown_and_shared_1
    rw [hu] at lh
    simp only [sSeq,sExpr,lh]
    rfl
  |none=>
   have fl:=List.length_filter_le (fun x=>decide (x∈wn)) p.2
   obtain ⟨T',y4,y5,e⟩:=sh_go hD wn K x6 ps (T++p.2.filter fun x=>decide (x∈wn)) (some (.d (.str p.1))) (some (.d (dS p.2))) (fun q hq=>h q (List.mem_cons_of_mem _ hq)) (by rw [List.length_append];omega)
   refine ⟨T',y4,y5,?_⟩
   rw [List.map_cons,for_nx (δ2:=shS hD wn K (T++p.2.filter fun x=>decide (x∈wn)) (some (.d (.str p.1))) (some (.d (dS p.2))) x6) as ?_,e]
   ·conv=>rhs;unfold wngF;rw [hu]
   ·have cm:compR 1 (setI 0) c_refuse_unknown_and_shared_1 e_refuse_unknown_and_shared_1 (shS hD wn K T (some (.d (.str p.1))) (some (.d (dS p.2))) x6) (p.2.map D.str)= .ok ((p.2.filter fun x=>decide (x∈wn)).map D.str):=by
     refine compR_ok ?_ (by rw [List.length_map];omega)
     exact filt_S (gc:=c_refuse_unknown_and_shared_1) (fe:=e_refuse_unknown_and_shared_1) (fun x=>decide (x∈wn)) (shS hD wn K T (some (.d (.str p.1))) (some (.d (dS p.2))) x6) p.2 none fun x _=>by
      have q:=inR_S x wn
      refine ⟨?_,rfl⟩
      unfold c_refuse_unknown_and_shared_1
      simp only [tR,b2,slotP_0,slotP_s,Res.bind_ok,q,boolR_bl]
    have ex:=extO_eq 3 (shS hD wn K T (some (.d (.str p.1))) (some (.d (dS p.2))) x6) (T.map D.str) ((p.2.filter fun x=>decide (x∈wn)).map D.str) rfl (by rw [List.length_map,List.length_map];omega)
    rw [←List.map_append] at ex
    have s:=seq_S p.2
    rw [hu] at lh
    unfold l_refuse_unknown_and_shared_1
    simp only [sSeq,sExpr,lh]
    show noxS _ (shS hD wn K T (some (.d (.str p.1))) (some (.d (dS p.2))) x6)=_
    simp only [noxS,sExt,vComp,b1,slotD_0,slotD_s,Res.bind_ok,s,cm,ex]
    rfl
theorem gr_go (hD:D) (wn K T:List Str) (x5:Option S):∀ (ps:List (Str×List Str)) (x4 x6:Option S),(∀ p∈ps,∀ x∈p.2,Gd x)→∃ y4 y6:Option S,
  forD (unTup 2 (unCons (setI 4) (unCons (setI 6) unNil))) l_refuse_unknown_and_shared_2 (ps.map prD) (shS hD wn K T x4 x5 x6)=exO (grF K ps) (shS hD wn K T y4 x5 y6)
 | [],x4,x6,_=>⟨x4,x6,rfl⟩
 |p::ps,x4,x6,h=>by
  have hg:=h p List.mem_cons_self
  have un:=unk_eq K [] p.2 hg
  have as:unTup 2 (unCons (setI 4) (unCons (setI 6) unNil)) (prD p) (shS hD wn K T x4 x5 x6)= .ok (shS hD wn K T (some (.d (.str p.1))) x5 (some (.d (dS p.2)))):=rfl
  have lh:b1 (callX 3 m_refuse_unknown) (noxA (aCons (slotD 2) (aCons (asD (b1 lstR aNil)) (aCons (slotD 6) aNil)))) (shS hD wn K T (some (.d (.str p.1))) x5 (some (.d (dS p.2))))=exR (unkF K [] p.2) (.ok .non):=by
   rw [←un]
   have l0:asD (b1 lstR aNil) (shS hD wn K T (some (.d (.str p.1))) x5 (some (.d (dS p.2))))= .ok (dS []):=by
    simp only [asD,b1,lstR,aNil,Res.bind_ok,List.length_nil,Nat.zero_le,if_true];rfl
   have c0:=callX_eq m_refuse_unknown [dS K,dS [],dS p.2] 3 rfl
   rw [←c0]
   simp only [b1,noxA,aCons,l0]
   rfl
  cases hu:unkF K [] p.2 with
  |some r=>
   refine ⟨x4,x6,?_⟩
   rw [List.map_cons,for_ex (c:=r.1) (fs:= [.tup [.str "name"], .str r.2]) as ?_]
   ·unfold grF;rw [hu];rfl
   ·unfold l_refuse_unknown_and_shared_2
    rw [hu] at lh
    simp only [sExpr,lh]
    rfl
  |none=>
   obtain ⟨y4,y6,e⟩:=gr_go hD wn K T x5 ps (some (.d (.str p.1))) (some (.d (dS p.2))) (fun q hq=>h q (List.mem_cons_of_mem _ hq))
   refine ⟨y4,y6,?_⟩
   rw [List.map_cons,for_nx (δ2:=shS hD wn K T (some (.d (.str p.1))) x5 (some (.d (dS p.2)))) as ?_,e]
   ·conv=>rhs;unfold grF;rw [hu]
   ·rw [hu] at lh
    unfold l_refuse_unknown_and_shared_2
    simp only [sExpr,lh]
    rfl
theorem names_S (ps:List (Str×List Str)) (hl:ps.length≤1000):callR 1 m_names_of [dP ps]= .ok (dS (ps.map (·.1))):=by
 have cm:∀ δ:DSt,compR 2 (unTup 2 (unCons (setI 0) (unCons (setI 1) unNil))) (fun _=> .ok true) e_names_of_1 δ (ps.map prD)= .ok (ps.map fun p=>D.str p.1):=fun δ=>by
  refine compR_ok ?_ (by rw [List.length_map];omega)
  exact comp_pr (fe:=e_names_of_1) (fun p=>D.str p.1) δ ps none none fun p _=>rfl
 have s:seqR (dP ps)= .ok (ps.map prD):=rfl
 refine callR_eq _ _ _ _ ?_ rfl
 unfold m_names_of b_names_of
 simp only [runD_eq,startD,List.map_cons,List.map_nil,List.length_cons,List.length_nil,List.cons_append,List.nil_append,Nat.reduceAdd,Nat.reduceSub,List.replicate,b1,asD,vComp,sRet,slotD_0,Res.bind_ok,s,cm,ofR_ok,finO_rt]
 unfold dS
 rw [List.map_map];rfl
theorem noexO_nx (δ:DSt):noexO (.nx δ)= .nx δ:=rfl
def dupF:List Str→List Str→Option Str
 |_,[]=>none
 |T,x::xs=>if x∈T then some x else dupF (T++ [x]) xs
abbrev sQr (R:List Str):Option S:=some (.q ((rK R).map (·.1)) ((rK R).map (·.2)))
theorem inQ_r (x:Str) (R:List Str):inQR (.str x) (rK R)= .ok (.bl (decide (x∈R))):=by
 show Res.ok (D.bl (tGet (rK R) (.inr x)).isSome)=_
 rw [rK_get]
theorem rK_len (R:List Str):(rK R).length=R.length:=by unfold rK;rw [List.length_map]
theorem tw_go (hD:D):∀ (xs T:List Str) (y:Option S),(∀ x∈xs,Gd x)→T.length+xs.length≤900→∃ (T':List Str) (z:Option S),
  forD (setI 2) l_refuse_twice_1 (xs.map D.str) [some (.d hD),sQr T,y]=exO ((dupF T xs).map fun x=>("Twice",x)) [some (.d hD),sQr T',z]
 | [],T,y,_,_=>⟨T,y,rfl⟩
 |x::xs,T,y,h,hl=>by
  rw [List.length_cons] at hl
  have g1:=inQ_r x T
  have r1:=rai_S "Twice" x (h x List.mem_cons_self)
  have sq:slotQ 1 [some (.d hD),sQr T,some (.d (.str x))]= .ok (rK T):=by
   show Res.ok _=_
   rw [dK_zip]
  by_cases hx:x∈T
  ·rw [decide_eq_true hx] at g1
   refine ⟨T,y,?_⟩
   rw [List.map_cons,for_ex (δ':= [some (.d hD),sQr T,some (.d (.str x))]) (c:="Twice") (fs:= [.tup [.str "name"], .str x]) rfl ?_]
   ·unfold dupF;rw [if_pos hx];rfl
   ·unfold l_refuse_twice_1
    simp only [noxB,noxA,noex_ok',sSeq,sIf,tR,b2R,aCons,aNil,consR_ok,slotD_0,slotD_s,slotP_0,slotP_s,sq,Res.bind_ok,g1,boolR_bl,ifO_ok,if_true,reduceIte,sRaiseG,ofR_ok,r1]
    rfl
  ·rw [decide_eq_false hx] at g1
   have pg:=put_gen 1 [some (.d hD),sQr T,some (.d (.str x))] (rK T) x (.bl true) (slotD 2) (kD (.bl true)) rfl (by rw [rK_len];omega) rfl rfl
   rw [rK_put x T hx] at pg
   obtain ⟨T',z,e⟩:=tw_go hD xs (T++ [x]) (some (.d (.str x))) (fun y hy=>h y (List.mem_cons_of_mem _ hy)) (by rw [List.length_append,List.length_singleton];omega)
   refine ⟨T',z,?_⟩
   rw [List.map_cons,for_nx (δ':= [some (.d hD),sQr T,some (.d (.str x))]) (δ2:= [some (.d hD),sQr (T++ [x]),some (.d (.str x))]) rfl ?_,e]
   ·conv=>rhs;unfold dupF;rw [if_neg hx]
   ·unfold l_refuse_twice_1
    simp only [noxB,noxA,noxS,noex_ok',sSeq,sIf,tR,b2R,slotP_0,slotP_s,sq,Res.bind_ok,g1,boolR_bl,ifO_ok,if_false,Bool.false_eq_true,reduceIte,seqO_nx]
    rw [pg]
    rfl
structure Hs where
 ds:List Str
 ws:List (Str×List Str)
 gs:List (Str×List Str)
def ru:D:= .tup [.int 2, .int 3, .int 2, .int 1]
def Hs.hD (H:Hs):D:=HsD ru (dS H.ds) (dP H.ws) (dP H.gs)
def Hs.wn (H:Hs):List Str:=H.ws.map (·.1)
def Hs.gn (H:Hs):List Str:=H.gs.map (·.1)
structure Hs.Ok (H:Hs):Prop where
 d3:H.ds.length=1
 dg:∀ x∈H.ds,Gd x
 w:Bd 30 H.ws
 g:Bd 5 H.gs
 nd:∀ p∈H.ws,p.2.Nodup
def Hs.shr (H:Hs):Option (Str×Str):=match wngF (H.ds++H.wn) H.wn [] H.ws with
 |some r=>some r
 |none=>grF (H.ds++H.wn) H.gs
def Hs.chk (H:Hs):Option (Str×Str):=match dupF [] (H.ds++H.wn++H.gn) with
 |some x=>some ("Twice",x)
 |none=>H.shr
theorem Hs.f2 (H:Hs):fldR "House" "doors" H.hD= .ok (dS H.ds):=fld2 ..
theorem Hs.f3 (H:Hs):fldR "House" "wings" H.hD= .ok (dP H.ws):=fld3 ..
theorem Hs.f4 (H:Hs):fldR "House" "grants" H.hD= .ok (dP H.gs):=fld4 ..
theorem cat_S (xs ys:List Str) (h:xs.length+ys.length≤1000):catR (dS xs) (dS ys)= .ok ((xs++ys).map D.str):=by
 show catR (.lst _) (.lst _)=_
 rw [catR_l _ _ (by rw [List.length_map,List.length_map];exact h),List.map_append]
theorem wn_len (H:Hs) (o:H.Ok):H.wn.length≤30:=by unfold Hs.wn;rw [List.length_map];exact o.w.1
theorem gn_len (H:Hs) (o:H.Ok):H.gn.length≤5:=by unfold Hs.gn;rw [List.length_map];exact o.g.1
theorem all_Gd (H:Hs) (o:H.Ok):∀ x∈H.ds++H.wn++H.gn,Gd x:=fun x hx=>by
 rcases List.mem_append.mp hx with hx|hx
 ·rcases List.mem_append.mp hx with hx|hx
  ·exact o.dg x hx
  ·obtain ⟨p,hp,rfl⟩:=List.mem_map.mp hx
   exact (o.w.2 p hp).1
 ·obtain ⟨p,hp,rfl⟩:=List.mem_map.mp hx
  exact (o.g.2 p hp).1
theorem twice_eq (H:Hs) (o:H.Ok):m_refuse_twice [H.hD]=exR ((dupF [] (H.ds++H.wn++H.gn)).map fun x=>("Twice",x)) (.ok .non):=by
 have f2:=H.f2
 have f3:=H.f3
 have f4:=H.f4
 have h1:=wn_len H o
 have h2:=gn_len H o
 have h3:=o.d3
 have n1:callR 1 m_names_of [dP H.ws]= .ok (dS H.wn):=names_S H.ws (by have:=o.w.1;omega)
 have n2:callR 1 m_names_of [dP H.gs]= .ok (dS H.gn):=names_S H.gs (by have:=o.g.1;omega)
 have c1:=cat_S H.ds H.wn (by omega)
 have c2:catR (.lst ((H.ds++H.wn).map D.str)) (dS H.gn)= .ok ((H.ds++H.wn++H.gn).map D.str):=cat_S (H.ds++H.wn) H.gn (by rw [List.length_append];omega)
 obtain ⟨T',z,e⟩:=tw_go H.hD (H.ds++H.wn++H.gn) [] none (all_Gd H o) (by rw [List.length_append,List.length_append,List.length_nil];omega)
 unfold m_refuse_twice b_refuse_twice runX
 generalize H.hD=hh at*
 simp only [noxS,noxA,noex_ok',startD,List.map_cons,List.map_nil,List.length_cons,List.length_nil,List.cons_append,List.nil_append,Nat.reduceAdd,Nat.reduceSub,List.replicate,b1,b2F,asD,aCons,aNil,consR_ok,sSeq,sOwnQ,noexO_nx,sFor,slotD_0,slotD_s,Res.bind_ok,f2,f3,f4,n1,n2,c1,c2,seqR_l,ofR_ok,seqO_nx,List.set_cons_zero,List.set_cons_succ]
 change (match forD (setI 2) l_refuse_twice_1 _ [some (.d hh),sQr [],none] with
  | .rt d=>Res.ok d| .nx _=> .ok .non| .ex c fs=> .ex c fs|_=> .stuck)=_
 rw [e]
 cases dupF [] (H.ds++H.wn++H.gn)<;>rfl
theorem shared_eq (H:Hs) (o:H.Ok):m_refuse_unknown_and_shared [H.hD]=exR H.shr (.ok .non):=by
 unfold Hs.shr
 have f2:=H.f2
 have f3:=H.f3
 have f4:=H.f4
 have h1:=wn_len H o
 have h3:=o.d3
 have n1:callR 1 m_names_of [dP H.ws]= .ok (dS H.wn):=names_S H.ws (by have:=o.w.1;omega)
 have c1:=cat_S H.ds H.wn (by omega)
 have hw:=o.w.1
 obtain ⟨T',y4,y5,e⟩:=sh_go H.hD H.wn (H.ds++H.wn) none H.ws [] none none (fun p hp=>(o.w.2 p hp).2) (by rw [List.length_nil];omega)
 obtain ⟨y4',y6,e2⟩:=gr_go H.hD H.wn (H.ds++H.wn) T' y5 H.gs y4 none (fun p hp=>(o.g.2 p hp).2.2)
 have sw:seqR (dP H.ws)= .ok (H.ws.map prD):=rfl
 have sg:seqR (dP H.gs)= .ok (H.gs.map prD):=rfl
 have K1:D.lst ((H.ds++H.wn).map D.str)=dS (H.ds++H.wn):=rfl
 unfold m_refuse_unknown_and_shared b_refuse_unknown_and_shared runX
 generalize H.hD=hh at*
 simp only [noxS,noxA,noex_ok',startD,List.map_cons,List.map_nil,List.length_cons,List.length_nil,List.cons_append,List.nil_append,Nat.reduceAdd,Nat.reduceSub,List.replicate,b1,b2F,asD,lstR,aCons,aNil,consR_ok,sSeq,sSet,sOwn,noexO_nx,sFor,slotD_0,slotD_s,slotP_0,slotP_s,Res.bind_ok,f2,f3,n1,c1,K1,sw,ofR_ok,seqO_nx,List.set_cons_zero,List.set_cons_succ,Nat.zero_le,if_true]
 change (match seqO (forD (unTup 2 (unCons (setI 4) (unCons (setI 5) unNil))) l_refuse_unknown_and_shared_1 (H.ws.map prD) (shS hh H.wn (H.ds++H.wn) [] none none none)) _ with
  | .rt d=>Res.ok d| .nx _=> .ok .non| .ex c fs=> .ex c fs|_=> .stuck)=_
 rw [e]
 cases hwg:wngF (H.ds++H.wn) H.wn [] H.ws with
 |some r=>rfl
 |none=>
  show (match (ofR (noex ((slotD 0 (shS hh H.wn (H.ds++H.wn) T' y4 y5 none)).bind fun d=>(fldR "House" "grants" d).bind seqR)) fun ds=>forD _ l_refuse_unknown_and_shared_2 ds (shS hh H.wn (H.ds++H.wn) T' y4 y5 none)) with
   | .rt d=>Res.ok d| .nx _=> .ok .non| .ex c fs=> .ex c fs|_=> .stuck)=_
  simp only [slotD_0,Res.bind_ok,f4,sg,noex_ok',ofR_ok,e2]
  cases grF (H.ds++H.wn) H.gs<;>rfl
abbrev sT (T:List (Key×D)):Option S:=some (.q (T.map (·.1)) (T.map (·.2)))
def abI (nm:Str) (T:List (Key×D)) (xs:List Str):List (Key×D):=xs.foldl (fun T m=>tPut T (.inr m) (.str nm)) T
def abF (T:List (Key×D)) (ws:List (Str×List Str)):List (Key×D):=ws.foldl (fun T p=>abI p.1 T p.2) T
theorem abI_len (nm:Str):∀ (xs:List Str) (T:List (Key×D)),(abI nm T xs).length≤T.length+xs.length
 | [],T=>Nat.le_refl _
 |x::xs,T=>by
  have:=abI_len nm xs (tPut T (.inr x) (.str nm))
  have:=tPut_len T (.inr x) (.str nm)
  show (abI nm (tPut T (.inr x) (.str nm)) xs).length≤_
  rw [List.length_cons];omega
theorem ab_in (hD M:D) (nm:Str) (x5:Option S):∀ (xs:List Str) (T:List (Key×D)) (x4:Option S),T.length+xs.length≤1000→∃ y4:Option S,
  forD (setI 4) l_refuse_ring_1 (xs.map D.str) [some (.d hD),sT T,some (.d (.str nm)),some (.d M),x4,x5]= .nx [some (.d hD),sT (abI nm T xs),some (.d (.str nm)),some (.d M),y4,x5]
 | [],T,x4,_=>⟨x4,rfl⟩
 |x::xs,T,x4,hl=>by
  rw [List.length_cons] at hl
  have pl:=tPut_len T (.inr x) (.str nm)
  obtain ⟨y4,e⟩:=ab_in hD M nm x5 xs (tPut T (.inr x) (.str nm)) (some (.d (.str x))) (by omega)
  refine ⟨y4,?_⟩
  rw [List.map_cons,for_nx (δ':= [some (.d hD),sT T,some (.d (.str nm)),some (.d M),some (.d (.str x)),x5]) (δ2:= [some (.d hD),sT (tPut T (.inr x) (.str nm)),some (.d (.str nm)),some (.d M),some (.d (.str x)),x5]) rfl ?_,e]
  ·rfl
  ·unfold l_refuse_ring_1
   rw [put_gen 1 [some (.d hD),sT T,some (.d (.str nm)),some (.d M),some (.d (.str x)),x5] T x (.str nm) (slotD 4) (slotD 2) rfl (by omega) rfl rfl]
   rfl
theorem ab_go (hD:D) (x5:Option S):∀ (ws:List (Str×List Str)) (T:List (Key×D)) (x2 x3 x4:Option S),(∀ p∈ws,p.2.length≤20)→T.length+20*ws.length≤1000→∃ y2 y3 y4:Option S,
  forD (unTup 2 (unCons (setI 2) (unCons (setI 3) unNil))) l_refuse_ring_2 (ws.map prD) [some (.d hD),sT T,x2,x3,x4,x5]= .nx [some (.d hD),sT (abF T ws),y2,y3,y4,x5]
 | [],T,x2,x3,x4,_,_=>⟨x2,x3,x4,rfl⟩
 |p::ws,T,x2,x3,x4,h,hl=>by
  have hp:=h p List.mem_cons_self
  rw [List.length_cons] at hl
  obtain ⟨z4,e0⟩:=ab_in hD (dS p.2) p.1 x5 p.2 T x4 (by omega)
  have al:=abI_len p.1 p.2 T
  obtain ⟨y2,y3,y4,e⟩:=ab_go hD x5 ws (abI p.1 T p.2) (some (.d (.str p.1))) (some (.d (dS p.2))) z4 (fun q hq=>h q (List.mem_cons_of_mem _ hq)) (by omega)
  refine ⟨y2,y3,y4,?_⟩
  rw [List.map_cons,for_nx (δ':= [some (.d hD),sT T,some (.d (.str p.1)),some (.d (dS p.2)),x4,x5]) (δ2:= [some (.d hD),sT (abI p.1 T p.2),some (.d (.str p.1)),some (.d (dS p.2)),z4,x5]) rfl ?_,e]
  ·rfl
  ·unfold l_refuse_ring_2
   have s:=seq_S p.2
   simp only [sFor,b1,slotD_0,slotD_s,Res.bind_ok,s,ofR_ok,e0]
theorem abI_get (nm:Str):∀ (xs:List Str) (T:List (Key×D)) (k:Key) (v:D),tGet (abI nm T xs) k=some v→(∃ m∈xs,k= .inr m∧v= .str nm)∨tGet T k=some v
 | [],T,k,v,h=> .inr h
 |x::xs,T,k,v,h=>by
  rcases abI_get nm xs (tPut T (.inr x) (.str nm)) k v h with ⟨m,hm,e⟩|h
  ·exact .inl ⟨m,List.mem_cons_of_mem _ hm,e⟩
  ·rw [tGet_put] at h
   split at h
   ·rename_i e
    cases h
    exact .inl ⟨x,List.mem_cons_self,e.symm,rfl⟩
   ·exact .inr h
theorem abF_get:∀ (ws:List (Str×List Str)) (T:List (Key×D)) (k:Key) (v:D),tGet (abF T ws) k=some v→(∃ p∈ws,∃ m∈p.2,k= .inr m∧v= .str p.1)∨tGet T k=some v
 | [],T,k,v,h=> .inr h
 |p::ws,T,k,v,h=>by
  rcases abF_get ws (abI p.1 T p.2) k v h with ⟨q,hq,m,hm,e⟩|h
  ·exact .inl ⟨q,List.mem_cons_of_mem _ hq,m,hm,e⟩
  ·rcases abI_get p.1 p.2 T k v h with ⟨m,hm,e⟩|h
   ·exact .inl ⟨p,List.mem_cons_self,m,hm,e⟩
   ·exact .inr h
def Chain (T:List (Key×D)) (l:List Str):Prop:=∀ i a b,l[i]? =some a→l[i+1]? =some b→tGet T (.inr a)=some (.str b)
theorem chain_snoc {T:List (Key×D)} {ps:List Str} {p h:Str} (c:Chain T (ps++ [p])) (e:tGet T (.inr p)=some (.str h)):Chain T (ps++ [p]++ [h]):=by
 intro i a b ha hb
 have ln:(ps++ [p]).length=ps.length+1:=by simp
 by_cases hi:i+1<(ps++ [p]).length
 ·rw [List.getElem?_append_left hi] at hb
  rw [List.getElem?_append_left (by omega)] at ha
  exact c i a b ha hb
 ·have h2:=(List.getElem?_eq_some_iff.mp hb).1
  rw [List.length_append,List.length_singleton] at h2
  have ei:i=ps.length:=by omega
  subst ei
  rw [List.getElem?_append_left (by omega),List.getElem?_append_right (Nat.le_refl _),Nat.sub_self] at ha
  rw [List.getElem?_append_right (by omega),ln,Nat.sub_self] at hb
  cases ha
  cases hb
  exact e
theorem ix_last (ds:List D) (d:D):ixR (.lst (ds++ [d])) (.int (-1))= .ok d:=by
 refine ixR_l _ _ _ ?_
 unfold atI
 have e:ixN (ds++ [d]).length (-1)=some ds.length:=by
  unfold ixN
  rw [if_neg (by decide),if_pos (by rw [List.length_append,List.length_singleton];omega),List.length_append,List.length_singleton]
  congr 1
  omega
 rw [e]
 show (ds++ [d])[ds.length]? =some d
 rw [List.getElem?_append_right (Nat.le_refl _),Nat.sub_self]
 rfl
theorem wh_rt {c:DSt→Res Bool} {b:DSt→Out} {δ:DSt} {d:D} (n:Nat) (h:c δ= .ok true) (h2:b δ= .rt d):whileD c b (n+1) δ= .rt d:=by rw [whileD,h,h2]
theorem idx_S (x:Str) (xs:List Str) (h:x∈xs):∃ j:Nat,idxR (dS xs) [.str x]= .ok (.int (j:Int))∧xs[j]? =some x:=by
 have fe:((xs.map D.str).findIdx? fun z=>eqD z (.str x))=xs.findIdx? fun z=>decide (z=x):=by
  rw [List.findIdx?_map]
  rfl
 cases hf:xs.findIdx? fun z=>decide (z=x) with
 |none=>
  have:=List.findIdx?_eq_none_iff.mp hf x h
  simp at this
 |some j=>
  obtain ⟨hj,e,_⟩:=List.findIdx?_eq_some_iff_getElem.mp hf
  refine ⟨j,?_,by rw [List.getElem?_eq_getElem hj,of_decide_eq_true e]⟩
  unfold dS idxR
  dsimp only
  rw [if_pos (by rw [flat_S];rfl),fe,hf]
theorem sIx_nat (n d:Nat) (k:Int) (h0:0≤k):HT.sIx n d (some k)=min k.toNat n:=by
 obtain ⟨m,rfl⟩:∃ m:Nat,k=m:=⟨k.toNat,by omega⟩
 rw [HT.sIx_nat,Int.toNat_natCast]
theorem cut_from (xs:List D) (a:Nat) (h:a≤xs.length):L3.cutD xs (some (a:Int)) none=xs.drop a:=by
 unfold L3.cutD
 have e1:HT.sIx xs.length xs.length none=xs.length:=rfl
 rw [sIx_nat _ _ _ (by omega),e1,show ((a:Int)).toNat=a by omega,Nat.min_eq_left h,List.take_of_length_le (by rw [List.length_drop];omega)]
structure RingOf (T:List (Key×D)) (U R:List Str):Prop where
 ex:∃ (ps:List Str) (j:Nat) (p h:Str),R=((ps++ [p]).drop j).reverse∧Chain T (ps++ [p])∧(ps++ [p]).Nodup∧(∀ y∈ps++ [p],y∈U)∧(ps++ [p])[j]? =some h∧tGet T (.inr p)=some (.str h)
def EndsAt (T:List (Key×D)) (x:Str):Prop:=∃ (l:List Str) (q:Str),Chain T (l++ [q])∧tGet T (.inr q)=none∧(l++ [q])[0]? =some x
theorem ring_go (T:List (Key×D)) (U:List Str) (hT:∀ k v,tGet T k=some v→∃ s∈U,v= .str s) (hU:U.length≤900) (B:D):∀ (n N:Nat) (ps:List Str) (p:Str) (x3:Option S),U.length≤ps.length+n→n<N→Chain T (ps++ [p])→(ps++ [p]).Nodup→(∀ y∈ps++ [p],y∈U)→
  (∃ (P:List D) (y3:Option S) (l:List Str) (q:Str),Chain T (l++ [q])∧tGet T (.inr q)=none∧(l++ [q])[0]? =(ps++ [p])[0]? ∧whileD c_ring_above_1 l_ring_above_1 N [some (.d (dK T)),some (.d B),some (.o ((ps++ [p]).map D.str)),x3]= .nx [some (.d (dK T)),some (.d B),some (.o P),y3])∨
  ∃ R,whileD c_ring_above_1 l_ring_above_1 N [some (.d (dK T)),some (.d B),some (.o ((ps++ [p]).map D.str)),x3]= .rt (dS R)∧RingOf T U R:=by
 intro n
 induction n with
 |zero=>
  intro N ps p x3 hl hN hc hn hs
  have:=List.Nodup.length_le_of_subset hn hs
  rw [List.length_append,List.length_singleton] at this
  omega
 |succ n ih=>
  intro N ps p x3 hl hN hc hn hs
  obtain ⟨N',rfl⟩:∃ N',N=N'+1:=⟨N-1,by omega⟩
  have lp:=List.Nodup.length_le_of_subset hn hs
  rw [List.length_append,List.length_singleton] at lp
  have lst:∀ y,slotP 2 [some (.d (dK T)),some (.d B),some (.o ((ps++ [p]).map D.str)),y]= .ok (dS (ps++ [p])):=fun y=>rfl
  have il:ixR (dS (ps++ [p])) (.int (-1))= .ok (.str p):=by
   unfold dS
   rw [List.map_append,List.map_singleton]
   exact ix_last _ _
  have ng:negD (.int 1)= .ok (.int (-1)):=rfl
  have sq:∀ y,slotQ 0 [some (.d (dK T)),some (.d B),some (.o ((ps++ [p]).map D.str)),y]= .ok T:=fun y=>slotQ_d0 T _
  have cc:c_ring_above_1 [some (.d (dK T)),some (.d B),some (.o ((ps++ [p]).map D.str)),x3]= .ok (tGet T (.inr p)).isSome:=by
   have:inQR (.str p) T= .ok (.bl (tGet T (.inr p)).isSome):=rfl
   unfold c_ring_above_1
   simp only [tR,b2R,b2,b1,kD,lst,sq,ng,Res.bind_ok,il,this,boolR_bl]
  cases hg:tGet T (.inr p) with
  |none=>
   rw [hg] at cc
   exact .inl ⟨_,_,ps,p,hc,hg,rfl,wh_stop N' cc⟩
  |some v=>
   rw [hg] at cc
   obtain ⟨h,hh,rfl⟩:=hT _ _ hg
   have dg:dgetR T (.str p)= .ok (.str h):=by
    show (match tGet T (.inr p) with|some d=>Res.ok d|none=> .stuck)=_
    rw [hg]
   have q1:=inR_S h (ps++ [p])
   have s3:slotP 3 [some (.d (dK T)),some (.d B),some (.o ((ps++ [p]).map D.str)),some (.d (.str h))]= .ok (.str h):=rfl
   have t3:slotD 3 [some (.d (dK T)),some (.d B),some (.o ((ps++ [p]).map D.str)),some (.d (.str h))]= .ok (.str h):=rfl
   by_cases hm:h∈ps++ [p]
   ·rw [decide_eq_true hm] at q1
    obtain ⟨j,ej,gj⟩:=idx_S h (ps++ [p]) hm
    have jl:=(List.getElem?_eq_some_iff.mp gj).1
    have ct:slL (dS (ps++ [p])) (some (j:Int)) none= .ok ((ps++ [p]).map D.str |>.drop j):=by
     show slL (.lst _) _ _=_
     rw [slL_l,cut_from _ _ (by rw [List.length_map];omega)]
    have pj:partR (.int (j:Int))= .ok (some (j:Int)):=rfl
    have rv:revLR [.lst (((ps++ [p]).map D.str).drop j)]= .ok (((ps++ [p]).drop j).reverse.map D.str):=by
     show Res.ok _=_
     rw [List.map_reverse,List.map_drop]
    refine .inr ⟨((ps++ [p]).drop j).reverse,wh_rt N' cc ?_,ps,j,p,h,rfl,hc,hn,hs,gj,hg⟩
    have bl:bL idxR (slotP 2) (aCons (slotD 3) aNil) [some (.d (dK T)),some (.d B),some (.o ((ps++ [p]).map D.str)),some (.d (.str h))]= .ok (.int (j:Int)):=by
     rw [←ej]
     simp only [bL,lst,aCons,aNil,t3,consR_ok,Res.bind_ok]
     rfl
    unfold l_ring_above_1
    simp only [sSeq,sSet,sIf,sRet,asD,listRevF,L3.b3,oNone,b1,b2,b2Q,tR,kD,lst,sq,ng,il,dg,Res.bind_ok,ofR_ok,seqO_nx,List.set_cons_zero,List.set_cons_succ,s3,q1,boolR_bl,ifO_ok,if_true,bl,pj,ct,rv]
    rfl
   ·rw [decide_eq_false hm] at q1
    have ap:=appO_eq 2 [some (.d (dK T)),some (.d B),some (.o ((ps++ [p]).map D.str)),some (.d (.str h))] ((ps++ [p]).map D.str) (.str h) rfl (by rw [List.length_map,List.length_append,List.length_singleton];omega)
    have st:l_ring_above_1 [some (.d (dK T)),some (.d B),some (.o ((ps++ [p]).map D.str)),x3]= .nx [some (.d (dK T)),some (.d B),some (.o ((ps++ [p]++ [h]).map D.str)),some (.d (.str h))]:=by
     unfold l_ring_above_1
     simp only [sSeq,sSet,sIf,sApp,b1,b2,b2Q,tR,kD,lst,sq,ng,il,dg,Res.bind_ok,ofR_ok,seqO_nx,List.set_cons_zero,List.set_cons_succ,s3,t3,q1,boolR_bl,ifO_ok,if_false,Bool.false_eq_true,reduceIte]
     rw [ap,List.map_append (l₁:=ps++ [p])]
     rfl
    rw [wh_step N' cc st]
    have e0:(ps++ [p]++ [h])[0]? =(ps++ [p])[0]? :=List.getElem?_append_left (by rw [List.length_append,List.length_singleton];omega)
    rw [←e0]
    refine ih N' (ps++ [p]) h (some (.d (.str h))) (by rw [List.length_append,List.length_singleton];omega) (by omega) (chain_snoc hc hg) ?_ ?_
    ·rw [List.nodup_append]
     refine ⟨hn,by simp,fun a ha b hb e=>hm ?_⟩
     rw [←List.mem_singleton.mp hb,←e];exact ha
    ·intro y hy
     rcases List.mem_append.mp hy with hy|hy
     ·exact hs y hy
     ·rw [List.mem_singleton.mp hy];exact hh
theorem ring_eq (T:List (Key×D)) (U:List Str) (hT:∀ k v,tGet T k=some v→∃ s∈U,v= .str s) (hU:U.length≤900) (x:Str) (hx:x∈U):
  (callR 2 m_ring_above [dK T, .str x]= .ok .non∧EndsAt T x)∨∃ R,callR 2 m_ring_above [dK T, .str x]= .ok (dS R)∧RingOf T U R:=by
 have l0:∀ δ:DSt,(b1 lstR (aCons (slotD 1) aNil)) (some (.d (dK T))::some (.d (.str x))::δ)= .ok [.str x]:=fun δ=>by
  simp only [b1,lstR,aCons,aNil,slotD_0,slotD_s,consR_ok,Res.bind_ok,List.length_cons,List.length_nil,Nat.reduceAdd,Nat.reduceLeDiff,if_true]
 rcases ring_go T U hT hU (.str x) 1000 100000 [] x none (by omega) (by decide) (fun i a b ha hb=>by
  rw [List.nil_append,List.getElem?_cons_succ] at hb;cases hb) (by simp) (fun y hy=>by
   rw [List.nil_append] at hy;rw [List.mem_singleton.mp hy];exact hx) with ⟨P,y3,l,q,en1,en2,en3,e⟩|⟨R,e,hR⟩
 ·refine .inl ⟨callR_eq _ _ _ _ ?_ rfl,l,q,en1,en2,en3⟩
  unfold m_ring_above b_ring_above
  simp only [runD_eq,startD,List.map_cons,List.map_nil,List.length_cons,List.length_nil,List.cons_append,List.nil_append,Nat.reduceAdd,Nat.reduceSub,List.replicate,sSeq,sOwn,l0,ofR_ok,seqO_nx,List.set_cons_zero,List.set_cons_succ,sWhile]
  change finO (seqO (whileD c_ring_above_1 l_ring_above_1 100000 [some (.d (dK T)),some (.d (.str x)),some (.o (([]++ [x]).map D.str)),none]) _)=_
  rw [e]
  rfl
 ·refine .inr ⟨R,callR_eq _ _ _ _ ?_ rfl,hR⟩
  unfold m_ring_above b_ring_above
  simp only [runD_eq,startD,List.map_cons,List.map_nil,List.length_cons,List.length_nil,List.cons_append,List.nil_append,Nat.reduceAdd,Nat.reduceSub,List.replicate,sSeq,sOwn,l0,ofR_ok,seqO_nx,List.set_cons_zero,List.set_cons_succ,sWhile]
  change finO (seqO (whileD c_ring_above_1 l_ring_above_1 100000 [some (.d (dK T)),some (.d (.str x)),some (.o (([]++ [x]).map D.str)),none]) _)=_
  rw [e]
  rfl
def Hs.ab (H:Hs):List (Key×D):=abF [] H.ws
theorem ab_val (H:Hs):∀ k v,tGet H.ab k=some v→∃ s∈H.wn,v= .str s:=fun k v h=>by
 rcases abF_get H.ws [] k v h with ⟨p,hp,m,hm,_,e⟩|z
 ·exact ⟨p.1,List.mem_map_of_mem hp,e⟩
 ·cases z
theorem ring_Gd (H:Hs) (o:H.Ok) {R:List Str} (h:RingOf H.ab H.wn R):smlR (dS R)=true:=by
 obtain ⟨ps,j,p,hh,rfl,_,nd,hs,_,_⟩:=h.ex
 have ll:=List.Nodup.length_le_of_subset nd hs
 have:=wn_len H o
 show (decide (_≤100)&&_)=true
 rw [Bool.and_eq_true,decide_eq_true_eq]
 refine ⟨by rw [List.length_map,List.length_reverse,List.length_drop];omega,?_⟩
 rw [List.all_map,List.all_eq_true]
 intro x hx
 have hx':=hs x (List.mem_of_mem_drop (List.mem_reverse.mp hx))
 exact Gd_all (all_Gd H o x (List.mem_append_left _ (List.mem_append_right _ hx')))
theorem raiR_eq (c:Str) (d:D) (h:smlR d=true):raiR c "ring" [d]= .ex c [.tup [.str "ring"],d]:=if_pos h
theorem rg_go (H:Hs) (o:H.Ok):∀ (xs:List Str) (z1 z2 z3 z4 z5:Option S),(∀ x∈xs,x∈H.wn)→(z1=sT H.ab∨z1=some (.d (dK H.ab)))→
  (∃ δ,forD (setI 2) l_refuse_ring_3 (xs.map D.str) [some (.d H.hD),z1,z2,z3,z4,z5]= .nx δ∧∀ x∈xs,EndsAt H.ab x)∨∃ R,forD (setI 2) l_refuse_ring_3 (xs.map D.str) [some (.d H.hD),z1,z2,z3,z4,z5]= .ex "Ring" [.tup [.str "ring"],dS R]∧RingOf H.ab H.wn R
 | [],z1,z2,z3,z4,z5,_,_=> .inl ⟨_,rfl,fun x hx=>absurd hx List.not_mem_nil⟩
 |x::xs,z1,z2,z3,z4,z5,h,hz=>by
  have fz:frzD 1 [some (.d H.hD),z1,some (.d (.str x)),z3,z4,z5]= [some (.d H.hD),some (.d (dK H.ab)),some (.d (.str x)),z3,z4,z5]:=by
   rcases hz with rfl|rfl<;>rfl
  rw [List.map_cons]
  have hw:=wn_len H o
  have n1:notNR .non= .ok (.bl false):=rfl
  rcases ring_eq H.ab H.wn (ab_val H) (by omega) x (h x List.mem_cons_self) with ⟨e,en⟩|⟨R,e,hR⟩
  ·rw [for_nx (δ':= [some (.d H.hD),z1,some (.d (.str x)),z3,z4,z5]) (δ2:= [some (.d H.hD),some (.d (dK H.ab)),some (.d (.str x)),z3,z4,some (.d .non)]) rfl ?_]
   ·rcases rg_go H o xs _ _ _ _ _ (fun y hy=>h y (List.mem_cons_of_mem _ hy)) (.inr rfl) with ⟨δ,e1,e2⟩|z
    ·exact .inl ⟨δ,e1,fun y hy=>(List.mem_cons.mp hy).elim (fun z=>z▸en) (e2 y)⟩
    ·exact .inr z
   ·unfold l_refuse_ring_3 sSeq noxS sFrz
    rw [fz]
    simp only [noxB,noex_ok',sSet,sIf,tR,b1,aCons,aNil,consR_ok,slotD_0,slotD_s,slotP_0,slotP_s,Res.bind_ok,e,ofR_ok,noexO_nx,seqO_nx,n1,boolR_bl,ifO_ok,if_false,Bool.false_eq_true,reduceIte,List.set_cons_zero,List.set_cons_succ]
  ·have n2:notNR (dS R)= .ok (.bl true):=rfl
   have ra:=raiR_eq "Ring" (dS R) (ring_Gd H o hR)
   refine .inr ⟨R,for_ex (δ':= [some (.d H.hD),z1,some (.d (.str x)),z3,z4,z5]) rfl ?_,hR⟩
   unfold l_refuse_ring_3 sSeq noxS sFrz
   rw [fz]
   simp only [noxB,noxA,noex_ok',sSet,sIf,tR,b1,aCons,aNil,consR_ok,slotD_0,slotD_s,slotP_0,slotP_s,Res.bind_ok,e,ofR_ok,noexO_nx,seqO_nx,n2,boolR_bl,ifO_ok,if_true,reduceIte,List.set_cons_zero,List.set_cons_succ,sRaiseR,ra]
theorem rring_eq (H:Hs) (o:H.Ok):(m_refuse_ring [H.hD]= .ok .non∧∀ x∈H.wn,EndsAt H.ab x)∨∃ R,m_refuse_ring [H.hD]= .ex "Ring" [.tup [.str "ring"],dS R]∧RingOf H.ab H.wn R:=by
 have f3:=H.f3
 have hw:=o.w.1
 have n1:callR 1 m_names_of [dP H.ws]= .ok (dS H.wn):=names_S H.ws (by omega)
 have sw:seqR (dP H.ws)= .ok (H.ws.map prD):=rfl
 have sn:=seq_S H.wn
 obtain ⟨y2,y3,y4,e⟩:=ab_go H.hD none H.ws [] none none none (fun p hp=>(o.w.2 p hp).2.1) (by rw [List.length_nil];omega)
 have rg:=rg_go H o H.wn (sT H.ab) y2 y3 y4 none (fun _ h=>h) (.inl rfl)
 have st:m_refuse_ring [H.hD]=(match forD (setI 2) l_refuse_ring_3 (H.wn.map D.str) [some (.d H.hD),sT H.ab,y2,y3,y4,none] with
   | .rt d=>Res.ok d| .nx _=> .ok .non| .ex c fs=> .ex c fs|_=> .stuck):=by
  unfold m_refuse_ring b_refuse_ring runX
  generalize H.hD=hh at*
  simp only [noxS,noxA,noex_ok',startD,List.map_cons,List.map_nil,List.length_cons,List.length_nil,List.cons_append,List.nil_append,Nat.reduceAdd,Nat.reduceSub,List.replicate,b1,aCons,aNil,consR_ok,sSeq,sOwnQ,noexO_nx,sFor,slotD_0,slotD_s,Res.bind_ok,f3,sw,ofR_ok,seqO_nx,List.set_cons_zero,List.set_cons_succ]
  change (match seqO (noexO (forD (unTup 2 (unCons (setI 2) (unCons (setI 3) unNil))) l_refuse_ring_2 (H.ws.map prD) [some (.d hh),sT [],none,none,none,none])) _ with
   | .rt d=>Res.ok d| .nx _=> .ok .non| .ex c fs=> .ex c fs|_=> .stuck)=_
  rw [e,noexO_nx,seqO_nx]
  have sl:b1 seqR (b1 (callR 1 m_names_of) (aCons (b1 (fldR "House" "wings") (slotD 0)) aNil)) [some (.d hh),sT (abF [] H.ws),y2,y3,y4,none]= .ok (H.wn.map D.str):=by
   simp only [b1,aCons,aNil,slotD_0,Res.bind_ok,f3,n1,sn,consR_ok]
  unfold sFor noxA
  rw [sl]
  rfl
 rcases rg with ⟨δ,e1,e2⟩|⟨R,e1,hR⟩
 ·rw [e1] at st;exact .inl ⟨st,e2⟩
 ·rw [e1] at st;exact .inr ⟨R,st,hR⟩
theorem look_eq (H:Hs) (o:H.Ok):(∃ r,H.chk=some r∧m_look_at [H.hD]= .ex r.1 [.tup [.str "name"], .str r.2])∨(H.chk=none∧((m_look_at [H.hD]= .ok .non∧∀ x∈H.wn,EndsAt H.ab x)∨∃ R,m_look_at [H.hD]= .ex "Ring" [.tup [.str "ring"],dS R]∧RingOf H.ab H.wn R)):=by
 have e1:=twice_eq H o
 have e2:=shared_eq H o
 have e3:=rring_eq H o
 have c1:=callX_eq m_refuse_twice [H.hD] 1 rfl
 have c2:=callX_eq m_refuse_unknown_and_shared [H.hD] 1 rfl
 have c3:=callX_eq m_refuse_ring [H.hD] 1 rfl
 unfold Hs.chk
 rw [e1] at c1
 rw [e2] at c2
 cases h1:dupF [] (H.ds++H.wn++H.gn) with
 |some x=>
  rw [h1] at c1
  refine .inl ⟨("Twice",x),rfl,?_⟩
  unfold m_look_at b_look_at runX
  generalize H.hD=hh at*
  simp only [startD,List.map_cons,List.map_nil,List.length_cons,List.length_nil,List.cons_append,List.nil_append,Nat.reduceAdd,Nat.reduceSub,List.replicate,noxA,noex_ok',b1,aCons,aNil,consR_ok,sSeq,sExpr,slotD_0,Res.bind_ok,c1]
  rfl
 |none=>
  rw [h1] at c1
  dsimp only
  cases h2:H.shr with
  |some r=>
   rw [h2] at c2
   refine .inl ⟨r,rfl,?_⟩
   unfold m_look_at b_look_at runX
   generalize H.hD=hh at*
   simp only [startD,List.map_cons,List.map_nil,List.length_cons,List.length_nil,List.cons_append,List.nil_append,Nat.reduceAdd,Nat.reduceSub,List.replicate,noxA,noex_ok',b1,aCons,aNil,consR_ok,sSeq,sExpr,slotD_0,Res.bind_ok,c1,c2,exR,Option.map_none,ofR_ok,seqO_nx]
   rfl
  |none=>
   rw [h2] at c2
   refine .inr ⟨rfl,?_⟩
   rcases e3 with ⟨e3,en⟩|⟨R,e3,hR⟩
   ·rw [e3] at c3
    refine .inl ⟨?_,en⟩
    unfold m_look_at b_look_at runX
    generalize H.hD=hh at*
    simp only [startD,List.map_cons,List.map_nil,List.length_cons,List.length_nil,List.cons_append,List.nil_append,Nat.reduceAdd,Nat.reduceSub,List.replicate,noxA,noex_ok',b1,aCons,aNil,consR_ok,sSeq,sExpr,slotD_0,Res.bind_ok,c1,c2,c3,exR,Option.map_none,ofR_ok,seqO_nx]
   ·rw [e3] at c3
    refine .inr ⟨R,?_,hR⟩
    unfold m_look_at b_look_at runX
    generalize H.hD=hh at*
    simp only [startD,List.map_cons,List.map_nil,List.length_cons,List.length_nil,List.cons_append,List.nil_append,Nat.reduceAdd,Nat.reduceSub,List.replicate,noxA,noex_ok',b1,aCons,aNil,consR_ok,sSeq,sExpr,slotD_0,Res.bind_ok,c1,c2,c3,exR,Option.map_none,ofR_ok,seqO_nx]
    rfl
theorem mod_nat (d:Int) (n:Nat) (h:0<n):∃ a:Nat,a<n∧modD (.int d) (.int (n:Int))= .ok (.int (a:Int)):=by
 have b0:=Int.emod_nonneg d (show (n:Int)≠0 by omega)
 have b1':=Int.emod_lt_of_pos d (show (0:Int)<n by omega)
 obtain ⟨a,ha⟩:=Int.eq_ofNat_of_zero_le b0
 exact ⟨a,by omega,by rw [modI d n (by omega),ha]⟩
theorem ix_nat (xs:List D) (i:Nat) (h:i<xs.length):ixR (.lst xs) (.int (i:Int))= .ok xs[i]:=by
 refine ixR_l _ _ _ (atI_pos (by omega) ?_)
 rw [show ((i:Int)).toNat=i by omega,List.getElem?_eq_getElem h]
theorem ix_S (xs:List Str) (i:Nat) (h:i<xs.length):ixR (dS xs) (.int (i:Int))= .ok (.str xs[i]):=by
 unfold dS
 rw [ix_nat _ _ (by rw [List.length_map];exact h),List.getElem_map]
theorem len_P (ps:List (Str×List Str)):lenR (dP ps)= .ok (.int (ps.length:Int)):=by unfold dP;rw [lenR_l,List.length_map]
theorem len_S (ps:List Str):lenR (dS ps)= .ok (.int (ps.length:Int)):=by unfold dS;rw [lenR_l,List.length_map]
theorem sIf_t {c:DSt→Res Bool} {a b:DSt→Out} {δ:DSt} (h:c δ= .ok true):sIf c a b δ=a δ:=by unfold sIf;rw [h];rfl
theorem sIf_f {c:DSt→Res Bool} {a b:DSt→Out} {δ:DSt} (h:c δ= .ok false):sIf c a b δ=b δ:=by unfold sIf;rw [h];rfl
theorem dupF_none:∀ (xs T:List Str),(∀ x∈xs,x∉T)→xs.Nodup→dupF T xs=none
 | [],_,_,_=>rfl
 |x::xs,T,h,hn=>by
  obtain ⟨n1,n2⟩:=List.nodup_cons.mp hn
  unfold dupF
  rw [if_neg (h x List.mem_cons_self)]
  refine dupF_none xs (T++ [x]) (fun y hy z=> ?_) n2
  rcases List.mem_append.mp z with z|z
  ·exact h y (List.mem_cons_of_mem _ hy) z
  ·rw [List.mem_singleton.mp z] at hy;exact n1 hy
theorem unkF_none (K T:List Str):∀ xs:List Str,(∀ x∈xs,x∈K∧x∉T)→unkF K T xs=none
 | [],_=>rfl
 |x::xs,h=>by
  unfold unkF
  rw [if_pos (h x List.mem_cons_self).1,if_neg (h x List.mem_cons_self).2]
  exact unkF_none K T xs fun y hy=>h y (List.mem_cons_of_mem _ hy)
theorem wngF_none (K wn:List Str):∀ (ps:List (Str×List Str)) (T:List Str),(∀ p∈ps,∀ x∈p.2,x∈K∧x∉T)→ps.Pairwise (fun p q=>∀ x∈p.2,x∈wn→x∉q.2)→wngF K wn T ps=none
 | [],_,_,_=>rfl
 |p::ps,T,h,hw=>by
  obtain ⟨w1,w2⟩:=List.pairwise_cons.mp hw
  unfold wngF
  rw [unkF_none K T p.2 (h p List.mem_cons_self)]
  refine wngF_none K wn ps _ (fun q hq x hx=>⟨(h q (List.mem_cons_of_mem _ hq) x hx).1,fun z=> ?_⟩) w2
  rcases List.mem_append.mp z with z|z
  ·exact (h q (List.mem_cons_of_mem _ hq) x hx).2 z
  ·obtain ⟨z1,z2⟩:=List.mem_filter.mp z
   exact w1 q hq x z1 (of_decide_eq_true z2) hx
theorem grF_none (K:List Str):∀ ps:List (Str×List Str),(∀ p∈ps,∀ x∈p.2,x∈K)→grF K ps=none
 | [],_=>rfl
 |p::ps,h=>by
  unfold grF
  rw [unkF_none K [] p.2 fun x hx=>⟨h p List.mem_cons_self x hx,List.not_mem_nil⟩]
  exact grF_none K ps fun q hq=>h q (List.mem_cons_of_mem _ hq)
theorem nodup_f {f:Nat→Str} (inj:∀ j k,j<81→k<81→f j=f k→j=k) {l:List Nat} (hn:l.Nodup) (hl:∀ x∈l,x<81):(l.map f).Nodup:=by
 refine List.pairwise_map.mpr (List.Pairwise.imp_of_mem (fun ha hb h e=> ?_) hn)
 exact h (inj _ _ (hl _ ha) (hl _ hb) e)
def up {α:Type} (g:Nat→α) (k:Nat) (y:α):Nat→α:=fun i=>if i=k then y else g i
theorem up_eq {α:Type} (g:Nat→α) (k:Nat) (y:α):up g k y k=y:=if_pos rfl
theorem up_ne {α:Type} (g:Nat→α) {k i:Nat} (y:α) (h:i≠k):up g k y i=g i:=if_neg h
def H7 (d k:Str) (ws:List (Str×List Str)):Hs:=⟨[d],ws,[(k,[d])]⟩
theorem mk7 (d k:Str) (ws:List (Str×List Str)) (h:ws.length≤1000):callR 4 (makeR 4 "House" fs_House) [.tup [.int 2, .int 3, .int 2, .int 1], .lst [.str d],dP ws, .lst [.tup [.str k, .lst [.str d]]]]= .ok (H7 d k ws).hD:=
 make_eq (.tup [.int 2, .int 3, .int 2, .int 1]) [.str d] ws [(k,[d])] h (by simp)
theorem ask_ring (d k:Str) (ws:List (Str×List Str)) (R:List Str) (h:ws.length≤1000) (e:m_look_at [(H7 d k ws).hD]= .ex "Ring" [.tup [.str "ring"],dS R]):callR 3 m__law_asked [.str d, .str k,dP ws]= .ok (dS R):=by
 have mk:=mk7 d k ws h
 have cx:=(callX_eq m_look_at [(H7 d k ws).hD] 1 rfl).trans e
 have nn:∀ y,isNR (.exc "Ring" y)= .ok (.bl false):=fun y=>rfl
 generalize (H7 d k ws).hD=hh at*
 generalize dP ws=W at*
 refine callR_eq _ _ _ _ ?_ rfl
 have cin:("Ring":Str)∈(["Ring","Shared","Twice","Unknown"]:List Str):=by decide
 have j1:isiXR [("Ring",true),("Shared",false),("Twice",false),("Unknown",false)] (.exc "Ring" [.tup [.str "ring"],dS R])= .ok (.bl true):=rfl
 have j2:isiXR [("Ring",false),("Shared",true),("Twice",true),("Unknown",true)] (.exc "Ring" [.tup [.str "ring"],dS R])= .ok (.bl false):=rfl
 have j3:isiXR [("Ring",true),("Shared",true),("Twice",true),("Unknown",true)] (.exc "Ring" [.tup [.str "ring"],dS R])= .ok (.bl true):=rfl
 have ef:exfR ["Ring"] "ring" (.exc "Ring" [.tup [.str "ring"],dS R])= .ok (dS R):=rfl
 generalize dS R=r at*
 unfold m__law_asked b__law_asked h__law_asked_1
 simp only [runD_eq,startD,List.map_cons,List.map_nil,List.length_cons,List.length_nil,List.cons_append,List.nil_append,List.append_nil,Nat.reduceAdd,Nat.reduceSub,List.replicate,kD,b1,b2,tR,tAnd2,tOr2,tNot1,tupR,lstR,asD,aCons,aNil,consR_ok,sSeq,sSet,sIf,sRet,slotD_0,slotD_s,slotP_0,slotP_s,Res.bind_ok,noex_ok',sTry,tryF,mk,cx,cin,gsAs,unsetO,nn,j1,j2,j3,ef,boolR_bl,andB_ok,orB_ok,ifO_ok,ofR_ok,seqO_nx,seqO_rt,finO_rt,List.set_cons_zero,List.set_cons_succ,Nat.reduceLeDiff,Bool.not_false,Bool.not_true,Bool.false_eq_true,if_true,if_false,reduceIte]
theorem ask_none (d k:Str) (ws:List (Str×List Str)) (h:ws.length≤1000) (e:m_look_at [(H7 d k ws).hD]= .ok .non):callR 3 m__law_asked [.str d, .str k,dP ws]= .ok .non:=by
 have mk:=mk7 d k ws h
 have cx:=(callX_eq m_look_at [(H7 d k ws).hD] 1 rfl).trans e
 have nn:isNR .non= .ok (.bl true):=rfl
 generalize (H7 d k ws).hD=hh at*
 generalize dP ws=W at*
 refine callR_eq _ _ _ _ ?_ rfl
 unfold m__law_asked b__law_asked h__law_asked_1
 simp only [runD_eq,startD,List.map_cons,List.map_nil,List.length_cons,List.length_nil,List.cons_append,List.nil_append,List.append_nil,Nat.reduceAdd,Nat.reduceSub,List.replicate,kD,b1,b2,tR,tupR,lstR,asD,aCons,aNil,consR_ok,sSeq,sSet,sIf,sRet,slotD_0,slotD_s,slotP_0,slotP_s,Res.bind_ok,noex_ok',sTry,tryF,mk,cx,nn,boolR_bl,ifO_ok,ofR_ok,seqO_nx,seqO_rt,finO_rt,List.set_cons_zero,List.set_cons_succ,Nat.reduceLeDiff,if_true,reduceIte]
def mem7 (f:Nat→Str):Option (Nat×Bool)→List Str
 |none=> [f 31]
 |some (a,true)=> [f a,f 31]
 |some (a,false)=> [f 31,f a]
def wsM (f:Nat→Str) (n:Nat) (mb:Nat→Option (Nat×Bool)):List (Str×List Str):=(List.range n).map fun k=>(f k,mem7 f (mb k))
structure JM (n:Nat) (mb:Nat→Option (Nat×Bool)):Prop where
 a:∀ k p,mb k=some p→p.1<n
 u:∀ k l p q,mb k=some p→mb l=some q→p.1=q.1→k=l
theorem mem7_iff (f:Nat→Str) (o:Option (Nat×Bool)) (x:Str):x∈mem7 f o↔x=f 31∨∃ p,o=some p∧x=f p.1:=by
 cases o with
 |none=>simp [mem7]
 |some p=>
  obtain ⟨a,b⟩:=p
  cases b
  ·simp [mem7]
  ·simp [mem7];exact ⟨fun h=>h.symm,fun h=>h.symm⟩
theorem mem7_len (f:Nat→Str) (o:Option (Nat×Bool)):(mem7 f o).length≤2:=by
 cases o with
 |none=>simp [mem7]
 |some p=>obtain ⟨a,b⟩:=p;cases b<;>simp [mem7]
theorem wsM_len (f:Nat→Str) (n:Nat) (mb:Nat→Option (Nat×Bool)):(wsM f n mb).length=n:=by unfold wsM;rw [List.length_map,List.length_range]
theorem wsM_mem {f:Nat→Str} {n:Nat} {mb:Nat→Option (Nat×Bool)} {p:Str×List Str} (h:p∈wsM f n mb):∃ k,k<n∧p=(f k,mem7 f (mb k)):=by
 obtain ⟨k,hk,rfl⟩:=List.mem_map.mp h
 exact ⟨k,List.mem_range.mp hk,rfl⟩
theorem wsM_wn (f:Nat→Str) (n:Nat) (mb:Nat→Option (Nat×Bool)):(wsM f n mb).map (·.1)=(List.range n).map f:=by unfold wsM;rw [List.map_map];rfl
section
variable {f:Nat→Str} (inj:∀ j k,j<81→k<81→f j=f k→j=k) (fg:∀ k,Gd (f k)) {n:Nat} {mb:Nat→Option (Nat×Bool)} (hn:n≤30) (J:JM n mb)
include inj hn J
theorem mem7_nd (k:Nat):(mem7 f (mb k)).Nodup:=by
 cases h:mb k with
 |none=>simp [mem7]
 |some p=>
  obtain ⟨a,b⟩:=p
  have ha:a<n:=J.a k (a,b) h
  have ne:f a≠f 31:=fun e=>by have:=inj a 31 (by omega) (by decide) e;omega
  cases b
  ·simp [mem7,Ne.symm ne]
  ·simp [mem7,ne]
include fg
theorem good7:(H7 (f 31) (f 30) (wsM f n mb)).Ok∧(H7 (f 31) (f 30) (wsM f n mb)).chk=none:=by
 have wn:(H7 (f 31) (f 30) (wsM f n mb)).wn=(List.range n).map f:=wsM_wn f n mb
 have gn:(H7 (f 31) (f 30) (wsM f n mb)).gn= [f 30]:=rfl
 refine ⟨⟨rfl,fun x hx=>by rw [List.mem_singleton.mp hx];exact fg 31,⟨by show (wsM f n mb).length≤30;rw [wsM_len];exact hn,fun p hp=> ?_⟩,⟨by show 1≤5;decide,fun p hp=> ?_⟩,fun p hp=> ?_⟩,?_⟩
 ·obtain ⟨k,hk,rfl⟩:=wsM_mem hp
  refine ⟨fg k,Nat.le_trans (mem7_len f (mb k)) (by decide),fun x hx=> ?_⟩
  rcases (mem7_iff f (mb k) x).mp hx with rfl|⟨p,_,rfl⟩<;>exact fg _
 ·rw [List.mem_singleton.mp hp]
  exact ⟨fg 30,by show 1≤20;decide,fun x hx=>by rw [List.mem_singleton.mp hx];exact fg 31⟩
 ·obtain ⟨k,hk,rfl⟩:=wsM_mem hp
  exact mem7_nd inj hn J k
 ·have nd:([f 31]++(List.range n).map f++ [f 30]).Nodup:=by
   have e: [f 31]++(List.range n).map f++ [f 30]=([31]++List.range n++ [30]).map f:=by simp
   rw [e]
   refine nodup_f inj ?_ fun x hx=> ?_
   ·refine List.nodup_append.mpr ⟨List.nodup_append.mpr ⟨by simp,List.nodup_range,?_⟩,by simp,?_⟩
    ·intro a ha b hb e
     have:=List.mem_range.mp hb
     have:=List.mem_singleton.mp ha
     omega
    ·intro a ha b hb e
     have:=List.mem_singleton.mp hb
     rcases List.mem_append.mp ha with h|h
     ·have:=List.mem_singleton.mp h;omega
     ·have:=List.mem_range.mp h;omega
   ·rcases List.mem_append.mp hx with h|h
    ·rcases List.mem_append.mp h with h|h
     ·have:=List.mem_singleton.mp h;omega
     ·have:=List.mem_range.mp h;omega
    ·have:=List.mem_singleton.mp h;omega
  have d31:∀ k,k<n→f 31≠f k:=fun k hk e=>by have:=inj 31 k (by decide) (by omega) e;omega
  have wk:∀ p∈wsM f n mb,∀ x∈p.2,x∈ [f 31]++(List.range n).map f:=fun p hp x hx=>by
   obtain ⟨k,hk,rfl⟩:=wsM_mem hp
   rcases (mem7_iff f (mb k) x).mp hx with rfl|⟨p,e,rfl⟩
   ·exact List.mem_append_left _ (List.mem_singleton.mpr rfl)
   ·exact List.mem_append_right _ (List.mem_map_of_mem (List.mem_range.mpr (J.a k p e)))
  have e1:wngF ([f 31]++(List.range n).map f) ((List.range n).map f) [] (wsM f n mb)=none:=by
   refine wngF_none _ _ _ _ (fun p hp x hx=>⟨wk p hp x hx,List.not_mem_nil⟩) ?_
   unfold wsM
   refine List.pairwise_map.mpr (List.Pairwise.imp_of_mem (fun {a b} ha hb h x hx hw hy=> ?_) List.nodup_range)
   obtain ⟨j,hj,rfl⟩:=List.mem_map.mp hw
   have hj:=List.mem_range.mp hj
   rcases (mem7_iff f (mb a) (f j)).mp hx with z|⟨p,e1,e2⟩
   ·exact d31 j hj z.symm
   ·rcases (mem7_iff f (mb b) (f j)).mp hy with z|⟨q,e3,e4⟩
    ·exact d31 j hj z.symm
    ·have hp:=J.a a p e1
     have hq:=J.a b q e3
     have:=inj j p.1 (by omega) (by omega) e2
     have:=inj j q.1 (by omega) (by omega) e4
     exact h (J.u a b p q e1 e3 (by omega))
  have e2:grF ([f 31]++(List.range n).map f) [(f 30,[f 31])]=none:=grF_none _ _ fun p hp x hx=>by
   rw [List.mem_singleton.mp hp] at hx
   exact List.mem_append_left _ hx
  unfold Hs.chk Hs.shr
  rw [wn,gn]
  show (match dupF [] ([f 31]++(List.range n).map f++ [f 30]) with
   |some x=>some (("Twice":Str),x)
   |none=>match wngF ([f 31]++(List.range n).map f) ((List.range n).map f) [] (wsM f n mb) with
    |some r=>some r
    |none=>grF ([f 31]++(List.range n).map f) [(f 30,[f 31])])=none
  rw [dupF_none _ _ (fun _ _=>List.not_mem_nil) nd]
  simp only [e1,e2]
end
def oD:Option Str→D
 |none=> .non
 |some y=> .str y
def gT (T:List (Key×D)) (x:Str):Option Str:=match tGet T (.inr x) with
 |some (.str y)=>some y
 |_=>none
def hrR (g:Str→Option Str) (x:Str):Nat→Option Str→Bool
 |0,_=>false
 |n+1,o=>decide (o=some x)||hrR g x n (o.bind g)
theorem get1_eq {T:List (Key×D)} (hT:∀ k v,tGet T k=some v→∃ s,v= .str s) (o:Option Str):get1R T (oD o)= .ok (oD (o.bind (gT T))):=by
 cases o with
 |none=>rfl
 |some x=>
  show Res.ok (((some (.inr x):Option Key).bind (tGet T)).getD .non)= .ok (oD (gT T x))
  unfold gT
  rw [Option.bind_some]
  cases h:tGet T (.inr x) with
  |none=>rfl
  |some v=>
   obtain ⟨s,rfl⟩:=hT _ _ h
   rfl
theorem eq_oD (o:Option Str) (x:Str):eqR (oD o) (.str x)= .ok (.bl (decide (o=some x))):=by
 unfold eqR
 cases o with
 |none=>
  show (if _ then _ else _)=_
  rw [if_pos (by rfl)]
  simp [oD,eqD]
 |some y=>
  rw [if_pos (by rfl)]
  show Res.ok (D.bl (decide (y=x)))=_
  congr 2
  by_cases h:y=x
  ·rw [h];simp
  ·rw [decide_eq_false h,decide_eq_false fun z=>h (Option.some.inj z)]
theorem ne_str (x y:Str):neR (.str x) (.str y)= .ok (.bl (!decide (x=y))):=by
 unfold neR
 rw [if_pos (by rfl)]
 rfl
theorem slotQ_q0 (l:List (Key×D)) (r:DSt):slotQ 0 (sT l::r)= .ok l:=by
 show Res.ok ((l.map (·.1)).zip (l.map (·.2)))=_
 rw [dK_zip]
def outF (d:Str) (p:Str×List Str):Str×List Str:=(p.1,p.2.filter fun x=> !decide (x=d))
theorem hr_1 (d nm:Str) (W M:D) (x6 x7:Option S):∀ (xs:List Str) (T:List (Key×D)) (x5:Option S),T.length+xs.length≤1000→∃ y5:Option S,
  forD (setI 5) l__law_has_ring_1 (xs.map D.str) [some (.d (.str d)),some (.d W),sT T,some (.d (.str nm)),some (.d M),x5,x6,x7]= .nx [some (.d (.str d)),some (.d W),sT (abI nm T (xs.filter fun x=> !decide (x=d))),some (.d (.str nm)),some (.d M),y5,x6,x7]
 | [],T,x5,_=>⟨x5,rfl⟩
 |x::xs,T,x5,hl=>by
  rw [List.length_cons] at hl
  have q:=ne_str x d
  rw [List.map_cons]
  by_cases h:x=d
  ·rw [decide_eq_true h] at q
   obtain ⟨y5,e⟩:=hr_1 d nm W M x6 x7 xs T (some (.d (.str x))) (by omega)
   refine ⟨y5,?_⟩
   rw [for_nx (δ':= [some (.d (.str d)),some (.d W),sT T,some (.d (.str nm)),some (.d M),some (.d (.str x)),x6,x7]) (δ2:= [some (.d (.str d)),some (.d W),sT T,some (.d (.str nm)),some (.d M),some (.d (.str x)),x6,x7]) rfl ?_,e,List.filter_cons_of_neg (by simp [h])]
   unfold l__law_has_ring_1
   refine sIf_f ?_
   simp only [tR,b2,slotP_0,slotP_s,Res.bind_ok,q,boolR_bl,Bool.not_true]
  ·rw [decide_eq_false h] at q
   have pl:=tPut_len T (.inr x) (.str nm)
   obtain ⟨y5,e⟩:=hr_1 d nm W M x6 x7 xs (tPut T (.inr x) (.str nm)) (some (.d (.str x))) (by omega)
   refine ⟨y5,?_⟩
   rw [for_nx (δ':= [some (.d (.str d)),some (.d W),sT T,some (.d (.str nm)),some (.d M),some (.d (.str x)),x6,x7]) (δ2:= [some (.d (.str d)),some (.d W),sT (tPut T (.inr x) (.str nm)),some (.d (.str nm)),some (.d M),some (.d (.str x)),x6,x7]) rfl ?_,e,List.filter_cons_of_pos (by simp [h])]
   ·rfl
   ·unfold l__law_has_ring_1
    have ht:tR (b2 neR (slotP 5) (slotP 0)) [some (.d (.str d)),some (.d W),sT T,some (.d (.str nm)),some (.d M),some (.d (.str x)),x6,x7]= .ok true:=by
     simp only [tR,b2,slotP_0,slotP_s,Res.bind_ok,q,boolR_bl,Bool.not_false]
    rw [sIf_t ht,put_gen 2 [some (.d (.str d)),some (.d W),sT T,some (.d (.str nm)),some (.d M),some (.d (.str x)),x6,x7] T x (.str nm) (slotD 5) (slotD 3) rfl (by omega) rfl rfl]
    rfl
theorem hr_2 (d:Str) (W:D) (x6 x7:Option S):∀ (ws:List (Str×List Str)) (T:List (Key×D)) (x3 x4 x5:Option S),(∀ p∈ws,p.2.length≤20)→T.length+20*ws.length≤1000→∃ y3 y4 y5:Option S,
  forD (unTup 2 (unCons (setI 3) (unCons (setI 4) unNil))) l__law_has_ring_2 (ws.map prD) [some (.d (.str d)),some (.d W),sT T,x3,x4,x5,x6,x7]= .nx [some (.d (.str d)),some (.d W),sT (abF T (ws.map (outF d))),y3,y4,y5,x6,x7]
 | [],T,x3,x4,x5,_,_=>⟨x3,x4,x5,rfl⟩
 |p::ws,T,x3,x4,x5,h,hl=>by
  have hp:=h p List.mem_cons_self
  rw [List.length_cons] at hl
  obtain ⟨z5,e0⟩:=hr_1 d p.1 W (dS p.2) x6 x7 p.2 T x5 (by omega)
  have al:=abI_len p.1 (p.2.filter fun x=> !decide (x=d)) T
  have fl:=List.length_filter_le (fun x=> !decide (x=d)) p.2
  obtain ⟨y3,y4,y5,e⟩:=hr_2 d W x6 x7 ws (abI p.1 T (p.2.filter fun x=> !decide (x=d))) (some (.d (.str p.1))) (some (.d (dS p.2))) z5 (fun q hq=>h q (List.mem_cons_of_mem _ hq)) (by omega)
  refine ⟨y3,y4,y5,?_⟩
  rw [List.map_cons,for_nx (δ':= [some (.d (.str d)),some (.d W),sT T,some (.d (.str p.1)),some (.d (dS p.2)),x5,x6,x7]) (δ2:= [some (.d (.str d)),some (.d W),sT (abI p.1 T (p.2.filter fun x=> !decide (x=d))),some (.d (.str p.1)),some (.d (dS p.2)),z5,x6,x7]) rfl ?_,e]
  ·rfl
  ·unfold l__law_has_ring_2
   have s:=seq_S p.2
   simp only [sFor,b1,slotD_0,slotD_s,Res.bind_ok,s,ofR_ok,e0]
theorem hr_3 (A W M:D) (T:List (Key×D)) (hT:∀ k v,tGet T k=some v→∃ s,v= .str s) (x:Str) (x5:Option S):∀ (ds:List D) (o:Option Str) (x7:Option S),
  (hrR (gT T) x ds.length o=true→forD (setI 7) l__law_has_ring_3 ds [some (.d A),some (.d W),sT T,some (.d (.str x)),some (.d M),x5,some (.d (oD o)),x7]= .rt (.bl true))∧
  (hrR (gT T) x ds.length o=false→∃ y6 y7:Option S,forD (setI 7) l__law_has_ring_3 ds [some (.d A),some (.d W),sT T,some (.d (.str x)),some (.d M),x5,some (.d (oD o)),x7]= .nx [some (.d A),some (.d W),sT T,some (.d (.str x)),some (.d M),x5,y6,y7])
 | [],o,x7=>⟨fun h=>(by cases h),fun _=>⟨_,_,rfl⟩⟩
 |c::ds,o,x7=>by
  have q:=eq_oD o x
  have ct:tR (b2 eqR (slotP 6) (slotP 3)) [some (.d A),some (.d W),sT T,some (.d (.str x)),some (.d M),x5,some (.d (oD o)),some (.d c)]= .ok (decide (o=some x)):=by
   simp only [tR,b2,slotP_0,slotP_s,Res.bind_ok,q,boolR_bl]
  rw [List.length_cons,hrR]
  by_cases h:o=some x
  ·rw [decide_eq_true h] at ct ⊢
   refine ⟨fun _=>for_rt (δ':= [some (.d A),some (.d W),sT T,some (.d (.str x)),some (.d M),x5,some (.d (oD o)),some (.d c)]) rfl ?_,fun z=>by cases z⟩
   unfold l__law_has_ring_3 sSeq
   rw [sIf_t ct]
   rfl
  ·rw [decide_eq_false h] at ct ⊢
   rw [Bool.false_or]
   have st:l__law_has_ring_3 [some (.d A),some (.d W),sT T,some (.d (.str x)),some (.d M),x5,some (.d (oD o)),some (.d c)]= .nx [some (.d A),some (.d W),sT T,some (.d (.str x)),some (.d M),x5,some (.d (oD (o.bind (gT T)))),some (.d c)]:=by
    unfold l__law_has_ring_3 sSeq
    rw [sIf_f ct,seqO_nx]
    have g1:=get1_eq hT o
    have sq:∀ r:DSt,slotQ 0 (sT T::r)= .ok T:=slotQ_q0 T
    simp only [sSet,bGet1,slotQ_s,sq,aCons,aNil,slotD_0,slotD_s,consR_ok,Res.bind_ok,g1,ofR_ok,List.set_cons_zero,List.set_cons_succ]
   rw [for_nx (δ':= [some (.d A),some (.d W),sT T,some (.d (.str x)),some (.d M),x5,some (.d (oD o)),some (.d c)]) rfl st]
   exact hr_3 A W M T hT x x5 ds _ _
theorem hr_4 (d:Str) (ws:List (Str×List Str)) (hw:ws.length≤1000) (T:List (Key×D)) (hT:∀ k v,tGet T k=some v→∃ s,v= .str s) (x5:Option S):∀ (ps:List (Str×List Str)) (x3 x4 x6 x7:Option S),
  ((ps.any fun p=>hrR (gT T) p.1 ws.length (gT T p.1))=true→forD (unTup 2 (unCons (setI 3) (unCons (setI 4) unNil))) l__law_has_ring_4 (ps.map prD) [some (.d (.str d)),some (.d (dP ws)),sT T,x3,x4,x5,x6,x7]= .rt (.bl true))∧
  ((ps.any fun p=>hrR (gT T) p.1 ws.length (gT T p.1))=false→∃ δ,forD (unTup 2 (unCons (setI 3) (unCons (setI 4) unNil))) l__law_has_ring_4 (ps.map prD) [some (.d (.str d)),some (.d (dP ws)),sT T,x3,x4,x5,x6,x7]= .nx δ)
 | [],x3,x4,x6,x7=>⟨fun h=>(by cases h),fun _=>⟨_,rfl⟩⟩
 |p::ps,x3,x4,x6,x7=>by
  have ln:=len_P ws
  have rg:=rng1_i (ws.length:Int) (by omega) (by omega)
  rw [Int.toNat_natCast] at rg
  have g1:=get1_eq hT (some p.1)
  have sq:∀ r:DSt,slotQ 0 (sT T::r)= .ok T:=slotQ_q0 T
  have hd:l__law_has_ring_4 [some (.d (.str d)),some (.d (dP ws)),sT T,some (.d (.str p.1)),some (.d (dS p.2)),x5,x6,x7]=forD (setI 7) l__law_has_ring_3 (rngD 0 ws.length) [some (.d (.str d)),some (.d (dP ws)),sT T,some (.d (.str p.1)),some (.d (dS p.2)),x5,some (.d (oD (gT T p.1))),x7]:=by
   have g2:get1R T (.str p.1)= .ok (oD (gT T p.1)):=g1
   unfold l__law_has_ring_4
   simp only [sSeq,sSet,sFor,bGet1,b1,slotQ_s,sq,aCons,aNil,slotD_0,slotD_s,slotP_0,slotP_s,consR_ok,Res.bind_ok,g2,ofR_ok,seqO_nx,ln,rg,List.set_cons_zero,List.set_cons_succ]
  obtain ⟨h1,h2⟩:=hr_3 (.str d) (dP ws) (dS p.2) T hT p.1 x5 (rngD 0 ws.length) (gT T p.1) x7
  rw [rngD_len] at h1 h2
  rw [List.any_cons,List.map_cons]
  cases hb:hrR (gT T) p.1 ws.length (gT T p.1) with
  |true=>
   refine ⟨fun _=>for_rt (δ':= [some (.d (.str d)),some (.d (dP ws)),sT T,some (.d (.str p.1)),some (.d (dS p.2)),x5,x6,x7]) rfl ?_,fun z=>by cases z⟩
   rw [hd]
   exact h1 hb
  |false=>
   rw [Bool.false_or]
   obtain ⟨y6,y7,e⟩:=h2 hb
   rw [for_nx (δ':= [some (.d (.str d)),some (.d (dP ws)),sT T,some (.d (.str p.1)),some (.d (dS p.2)),x5,x6,x7]) rfl (hd.trans e)]
   exact hr_4 d ws hw T hT x5 ps _ _ _ _
def inT (d:Str) (ws:List (Str×List Str)):List (Key×D):=abF [] (ws.map (outF d))
theorem inT_val (d:Str) (ws:List (Str×List Str)):∀ k v,tGet (inT d ws) k=some v→∃ s,v= .str s:=fun k v h=>by
 rcases abF_get _ [] k v h with ⟨p,_,m,_,_,e⟩|z
 ·exact ⟨p.1,e⟩
 ·cases z
theorem has_eq (d:Str) (ws:List (Str×List Str)) (hw:ws.length≤40) (hm:∀ p∈ws,p.2.length≤20):callR 2 m__law_has_ring [.str d,dP ws]= .ok (.bl (ws.any fun p=>hrR (gT (inT d ws)) p.1 ws.length (gT (inT d ws) p.1))):=by
 obtain ⟨y3,y4,y5,e⟩:=hr_2 d (dP ws) none none ws [] none none none hm (by rw [List.length_nil];omega)
 obtain ⟨h1,h2⟩:=hr_4 d ws (by omega) (inT d ws) (inT_val d ws) y5 ws y3 y4 none none
 have sw:seqR (dP ws)= .ok (ws.map prD):=rfl
 have v1:sOwnQ 2 [some (.d (.str d)),some (.d (dP ws)),none,none,none,none,none,none]= .nx [some (.d (.str d)),some (.d (dP ws)),sT [],none,none,none,none,none]:=rfl
 have v2:sFor (unTup 2 (unCons (setI 3) (unCons (setI 4) unNil))) l__law_has_ring_2 (b1 seqR (slotD 1)) [some (.d (.str d)),some (.d (dP ws)),sT [],none,none,none,none,none]= .nx [some (.d (.str d)),some (.d (dP ws)),sT (inT d ws),y3,y4,y5,none,none]:=by
  rw [show inT d ws=abF [] (ws.map (outF d)) from rfl,←e]
  simp only [sFor,b1,slotD_0,slotD_s,Res.bind_ok,sw,ofR_ok]
 have v3:∀ F:DSt→Out,sFor (unTup 2 (unCons (setI 3) (unCons (setI 4) unNil))) F (b1 seqR (slotD 1)) [some (.d (.str d)),some (.d (dP ws)),sT (inT d ws),y3,y4,y5,none,none]=forD (unTup 2 (unCons (setI 3) (unCons (setI 4) unNil))) F (ws.map prD) [some (.d (.str d)),some (.d (dP ws)),sT (inT d ws),y3,y4,y5,none,none]:=fun F=>by
  simp only [sFor,b1,slotD_0,slotD_s,Res.bind_ok,sw,ofR_ok]
 refine callR_eq _ _ _ _ ?_ rfl
 unfold m__law_has_ring b__law_has_ring
 rw [runD_eq]
 show finO (sSeq _ _ [some (.d (.str d)),some (.d (dP ws)),none,none,none,none,none,none])=_
 unfold sSeq
 rw [v1,seqO_nx,v2,seqO_nx,v3]
 cases hb:(ws.any fun p=>hrR (gT (inT d ws)) p.1 ws.length (gT (inT d ws) p.1)) with
 |true=>
  rw [h1 hb]
  rfl
 |false=>
  obtain ⟨δ,e2⟩:=h2 hb
  rw [e2]
  rfl
def itO (g:Str→Option Str):Nat→Option Str→Option Str
 |0,o=>o
 |s+1,o=>itO g s (o.bind g)
theorem itO_none (g:Str→Option Str):∀ s,itO g s none=none
 |0=>rfl
 |s+1=>itO_none g s
theorem itO_add (g:Str→Option Str) (b:Nat):∀ (a:Nat) (o:Option Str),itO g (a+b) o=itO g b (itO g a o)
 |0,o=>by rw [Nat.zero_add];rfl
 |a+1,o=>by
  rw [show a+1+b=(a+b)+1 by omega]
  exact itO_add g b a (o.bind g)
theorem itO_snoc (g:Str→Option Str) (s:Nat) (o:Option Str):itO g (s+1) o=(itO g s o).bind g:=itO_add g 1 s o
theorem hrR_iff (g:Str→Option Str) (x:Str):∀ (n:Nat) (o:Option Str),hrR g x n o=true↔∃ s,s<n∧itO g s o=some x
 |0,o=>by
  constructor
  ·intro h;cases h
  ·rintro ⟨s,h,_⟩;omega
 |n+1,o=>by
  rw [hrR,Bool.or_eq_true,decide_eq_true_eq,hrR_iff g x n]
  constructor
  ·rintro (h|⟨s,h1,h2⟩)
   ·exact ⟨0,by omega,h⟩
   ·exact ⟨s+1,by omega,h2⟩
  ·rintro ⟨s,h1,h2⟩
   cases s with
   |zero=>exact .inl h2
   |succ s=>exact .inr ⟨s,by omega,h2⟩
theorem hrR_congr {g g':Str→Option Str} (P:Str→Prop) (h:∀ y,P y→g y=g' y) (hc:∀ y z,P y→g' y=some z→P z) (x:Str):∀ (n:Nat) (o:Option Str),(∀ y,o=some y→P y)→hrR g x n o=hrR g' x n o
 |0,_,_=>rfl
 |n+1,o,ho=>by
  rw [hrR,hrR]
  cases o with
  |none=>
   rw [Option.bind_none,Option.bind_none,hrR_congr P h hc x n none (fun y e=>by cases e)]
  |some y=>
   rw [Option.bind_some,Option.bind_some,h y (ho y rfl),hrR_congr P h hc x n _ (fun z e=>hc y z (ho y rfl) e)]
theorem abI_out (d nm:Str):∀ (xs:List Str) (T T':List (Key×D)),(∀ k,k≠ .inr d→tGet T k=tGet T' k)→∀ k,k≠ .inr d→tGet (abI nm T (xs.filter fun x=> !decide (x=d))) k=tGet (abI nm T' xs) k
 | [],T,T',h=>h
 |x::xs,T,T',h=>by
  by_cases hx:x=d
  ·rw [List.filter_cons_of_neg (by simp [hx])]
   refine abI_out d nm xs T (tPut T' (.inr x) (.str nm)) fun k hk=> ?_
   rw [tGet_put,if_neg (by rw [hx];exact Ne.symm hk),h k hk]
  ·rw [List.filter_cons_of_pos (by simp [hx])]
   refine abI_out d nm xs (tPut T (.inr x) (.str nm)) (tPut T' (.inr x) (.str nm)) fun k hk=> ?_
   rw [tGet_put,tGet_put,h k hk]
theorem abF_out (d:Str):∀ (ws:List (Str×List Str)) (T T':List (Key×D)),(∀ k,k≠ .inr d→tGet T k=tGet T' k)→∀ k,k≠ .inr d→tGet (abF T (ws.map (outF d))) k=tGet (abF T' ws) k
 | [],T,T',h=>h
 |p::ws,T,T',h=>abF_out d ws _ _ (abI_out d p.1 p.2 T T' h)
theorem gT_out (d:Str) (ws:List (Str×List Str)) (x:Str) (h:x≠d):gT (inT d ws) x=gT (abF [] ws) x:=by
 unfold gT inT
 rw [abF_out d ws [] [] (fun _ _=>rfl) (.inr x) fun z=>h (Sum.inr.inj z)]
theorem gT_some {T:List (Key×D)} {x y:Str}:gT T x=some y↔tGet T (.inr x)=some (.str y):=by
 unfold gT
 constructor
 ·intro h
  split at h
  ·rename_i z e;rw [e];cases h;rfl
  ·cases h
 ·intro h;rw [h]
theorem chain_it {T:List (Key×D)} {l:List Str} {x:Str} (c:Chain T l) (h0:l[0]? =some x):∀ (i:Nat) (y:Str),l[i]? =some y→itO (gT T) i (some x)=some y
 |0,y,h=>by rw [h0] at h;exact h
 |i+1,y,h=>by
  have hi:=(List.getElem?_eq_some_iff.mp h).1
  have e:=List.getElem?_eq_getElem (l:=l) (i:=i) (by omega)
  rw [itO_snoc,chain_it c h0 i _ e]
  exact gT_some.mpr (c i _ _ e h)
theorem it_mul {g:Str→Option Str} {x:Str} {k:Nat} (h:itO g k (some x)=some x):∀ t,itO g (k*t) (some x)=some x
 |0=>rfl
 |t+1=>by rw [Nat.mul_succ,itO_add,it_mul h t,h]
theorem ends_no {T:List (Key×D)} {x:Str} (h:EndsAt T x) (s:Nat):itO (gT T) s (gT T x)≠some x:=fun z=>by
 obtain ⟨l,q,c,hq,h0⟩:=h
 have z':itO (gT T) (s+1) (some x)=some x:=z
 have e1:itO (gT T) l.length (some x)=some q:=chain_it c h0 l.length q (by rw [List.getElem?_append_right (Nat.le_refl _),Nat.sub_self];rfl)
 have e2:itO (gT T) (l.length+1) (some x)=none:=by
  rw [itO_snoc,e1]
  show gT T q=none
  unfold gT
  rw [hq]
 have e3:=it_mul z' (l.length+1)
 have le:l.length+1≤(s+1)*(l.length+1):=Nat.le_mul_of_pos_left _ (by omega)
 rw [show (s+1)*(l.length+1)=(l.length+1)+((s+1)*(l.length+1)-(l.length+1)) by omega,itO_add,e2,itO_none] at e3
 cases e3
theorem chain_drop {T:List (Key×D)} {l:List Str} (c:Chain T l) (j:Nat):Chain T (l.drop j):=fun i a b ha hb=>by
 rw [List.getElem?_drop] at ha hb
 exact c (j+i) a b ha hb
structure RgF (T:List (Key×D)) (U R:List Str):Prop where
 ne:R≠ []
 nd:R.Nodup
 mem:∀ x∈R,x∈U
 nx:∀ (k:Nat) (x y:Str),R[k]? =some x→R[(k+1)%R.length]? =some y→tGet T (.inr y)=some (.str x)
 back:∃ x∈U,∃ s,s<U.length∧itO (gT T) s (gT T x)=some x
theorem ring_f {T:List (Key×D)} {U R:List Str} (h:RingOf T U R):RgF T U R:=by
 obtain ⟨ps,j,p,hh,rfl,c,nd,hs,gj,hg⟩:=h.ex
 have jl:=(List.getElem?_eq_some_iff.mp gj).1
 have ll:=List.Nodup.length_le_of_subset nd hs
 have c':=chain_drop c j
 have h0:((ps++ [p]).drop j)[0]? =some hh:=by rw [List.getElem?_drop];exact gj
 have hl:((ps++ [p]).drop j)[((ps++ [p]).drop j).length-1]? =some p:=by
  rw [List.length_append,List.length_singleton] at jl
  rw [List.getElem?_drop,List.length_drop,List.length_append,List.length_singleton,show j+(ps.length+1-j-1)=ps.length by omega,List.getElem?_append_right (Nat.le_refl _),Nat.sub_self]
  rfl
 have hm:0<((ps++ [p]).drop j).length:=by rw [List.length_drop];omega
 have ml:((ps++ [p]).drop j).length≤U.length:=by rw [List.length_drop];omega
 have hhU:hh∈U:=hs hh (List.mem_of_getElem? gj)
 have nd':((ps++ [p]).drop j).Nodup:=nd.sublist (List.drop_sublist j _)
 have hs':∀ x∈(ps++ [p]).drop j,x∈U:=fun x hx=>hs x (List.mem_of_mem_drop hx)
 generalize (ps++ [p]).drop j=L at*
 have e1:=chain_it c' h0 _ _ hl
 refine ⟨fun z=> ?_,(List.reverse_perm _).nodup_iff.mpr nd',fun x hx=>hs' x (List.mem_reverse.mp hx),fun k x y hx hy=> ?_,hh,hhU,L.length-1,by omega,?_⟩
 ·rw [List.reverse_eq_nil_iff] at z
  rw [z] at hm
  exact absurd hm (by decide)
 ·have hk:=(List.getElem?_eq_some_iff.mp hx).1
  rw [List.length_reverse] at hk hy
  rw [List.getElem?_reverse hk] at hx
  by_cases h1:k+1<L.length
  ·rw [Nat.mod_eq_of_lt h1,List.getElem?_reverse h1] at hy
   refine c' (L.length-1-(k+1)) y x hy ?_
   rw [show L.length-1-(k+1)+1=L.length-1-k by omega]
   exact hx
  ·have ek:k+1=L.length:=by omega
   rw [ek,Nat.mod_self,List.getElem?_reverse hm,show L.length-1-0=L.length-1 by omega,hl] at hy
   rw [show L.length-1-k=0 by omega,h0] at hx
   cases hx;cases hy
   exact hg
 ·show itO (gT T) (L.length-1) ((some hh).bind (gT T))=some hh
  have e2:itO (gT T) (L.length-1+1) (some hh)=some hh:=by
   rw [itO_snoc,e1]
   exact gT_some.mpr hg
  exact e2
section
variable {f:Nat→Str} (inj:∀ j k,j<81→k<81→f j=f k→j=k) {n:Nat} {mb:Nat→Option (Nat×Bool)} (hn:n≤30)
include inj hn
theorem has_cg (x:Str) (hx:x∈(List.range n).map f):hrR (gT (inT (f 31) (wsM f n mb))) x n (gT (inT (f 31) (wsM f n mb)) x)=hrR (gT (abF [] (wsM f n mb))) x n (gT (abF [] (wsM f n mb)) x):=by
 have d31:∀ y∈(List.range n).map f,y≠f 31:=fun y hy e=>by
  obtain ⟨k,hk,rfl⟩:=List.mem_map.mp hy
  have:=List.mem_range.mp hk
  have:=inj k 31 (by omega) (by decide) e
  omega
 have cl:∀ y z,gT (abF [] (wsM f n mb)) y=some z→z≠f 31:=fun y z h=>by
  rcases abF_get _ [] _ _ (gT_some.mp h) with ⟨p,hp,m,_,_,e⟩|w
  ·cases e
   obtain ⟨k,hk,rfl⟩:=wsM_mem hp
   exact d31 (f k) (List.mem_map_of_mem (List.mem_range.mpr hk))
  ·cases w
 rw [gT_out _ _ x (d31 x hx)]
 exact hrR_congr (fun y=>y≠f 31) (fun y hy=>gT_out _ _ y hy) (fun y z _ h=>cl y z h) x n _ fun y e=>cl x y e
theorem any_iff:((wsM f n mb).any fun p=>hrR (gT (inT (f 31) (wsM f n mb))) p.1 (wsM f n mb).length (gT (inT (f 31) (wsM f n mb)) p.1))=true↔∃ x∈(List.range n).map f,∃ s,s<n∧itO (gT (abF [] (wsM f n mb))) s (gT (abF [] (wsM f n mb)) x)=some x:=by
 rw [wsM_len,List.any_eq_true]
 constructor
 ·rintro ⟨p,hp,h⟩
  obtain ⟨k,hk,rfl⟩:=wsM_mem hp
  have hx:f k∈(List.range n).map f:=List.mem_map_of_mem (List.mem_range.mpr hk)
  rw [has_cg inj hn (f k) hx] at h
  exact ⟨f k,hx,(hrR_iff _ _ _ _).mp h⟩
 ·rintro ⟨x,hx,h⟩
  obtain ⟨k,hk,rfl⟩:=List.mem_map.mp hx
  refine ⟨(f k,mem7 f (mb k)),List.mem_map.mpr ⟨k,hk,rfl⟩,?_⟩
  rw [has_cg inj hn (f k) hx]
  exact (hrR_iff _ _ _ _).mpr h
end
theorem foldk_nd:∀ (ns σ:List Str),(σ++ns).Nodup→ns.foldl ddk σ=σ++ns
 | [],σ,_=>by simp
 |n::ns,σ,h=>by
  have hn:n∉σ:=fun z=>(List.nodup_append.mp h).2.2 n z n List.mem_cons_self rfl
  rw [List.foldl_cons,ddk,if_neg hn,foldk_nd ns (σ++ [n]) (by rw [List.append_assoc];exact h),List.append_assoc]
  rfl
theorem lens_S (R:List Str) (h:R.Nodup) (hl:R.length<64):lensT (dS R)= .ok (.int (R.length:Int)):=by
 unfold dS lensT
 simp only [strsOf_map]
 rw [if_pos hl,show mtk R=R from foldk_nd R [] h]
theorem eq_nilR (R:List Str) (h:R≠ []):eqR (dS R) (.lst [])= .ok (.bl false):=by
 have:=eqR_nil' (R.map D.str) (fun d hd=>by obtain ⟨k,_,rfl⟩:=List.mem_map.mp hd;rfl)
 rw [show (R.map D.str).isEmpty=false by cases R with|nil=>exact (h rfl).elim|cons a b=>rfl] at this
 exact this
section
variable {f:Nat→Str} (inj:∀ j k,j<81→k<81→f j=f k→j=k) {n:Nat} {mb:Nat→Option (Nat×Bool)} (hn:n≤30)
include inj hn
theorem good_eq (R:List Str) (h:RgF (abF [] (wsM f n mb)) ((List.range n).map f) R):callR 2 m__law_good_ring [dS R,dP (wsM f n mb)]= .ok (.bl true):=by
 have io:InjOn (List.range n) f:=fun a ha b hb e=>inj a b (by have:=List.mem_range.mp ha;omega) (by have:=List.mem_range.mp hb;omega) e
 have rl:=List.Nodup.length_le_of_subset h.nd h.mem
 rw [List.length_map,List.length_range] at rl
 have rp:0<R.length:=List.length_pos_iff.mpr h.ne
 have is:isiR "list" (dS R)= .ok (.bl true):=rfl
 have en:=eq_nilR R h.ne
 have ls:=lens_S R h.nd (by omega)
 have ln:=len_S R
 have ne:neR (.int (R.length:Int)) (.int (R.length:Int))= .ok (.bl false):=by rw [neR_ii];simp
 have dl:dictLR (dP (wsM f n mb))= .ok (dK (tK (List.range n) f fun k=>dS (mem7 f (mb k)))):=by
  rw [←dict_tK (g:=fun k=>dS (mem7 f (mb k))) io List.nodup_range]
  unfold dP wsM
  rw [List.map_map]
  rfl
 have rg:=rng1_i (R.length:Int) (by omega) (by omega)
 rw [Int.toNat_natCast] at rg
 generalize hT:(tK (List.range n) f fun k=>dS (mem7 f (mb k)))=T at*
 obtain ⟨δ2,fo,x3,rfl⟩:=forD_ix (t:=setI 3) (body:=l__law_good_ring_1) (fun i δ=>∃ x3:Option S,δ= [some (.d (dS R)),some (.d (dP (wsM f n mb))),some (.d (dK T)),x3])
  (rngD 0 R.length) [some (.d (dS R)),some (.d (dP (wsM f n mb))),some (.d (dK T)),none] (fun i d δ hd hI=>by
   obtain ⟨x3,rfl⟩:=hI
   obtain ⟨hi,rfl⟩:=rngD_get hd
   rw [show (0+(i:Int))=(i:Int) by omega]
   refine ⟨_,rfl,_, .inl ?_,some (.d (.int (i:Int))),rfl⟩
   have hj:(i+1)%R.length<R.length:=Nat.mod_lt _ rp
   have e1:=ix_S R i hi
   have e2:=ix_S R _ hj
   have mo:modD (.int ((i:Int)+1)) (.int (R.length:Int))= .ok (.int (((i+1)%R.length:Nat):Int)):=by
    rw [modI _ _ (by omega),Int.natCast_emod,Int.natCast_add]
    rfl
   have nx:=h.nx i R[i] R[(i+1)%R.length] (List.getElem?_eq_getElem hi) (List.getElem?_eq_getElem hj)
   generalize R[i]=x at*
   generalize R[(i+1)%R.length]=y at*
   generalize (i+1)%R.length=j at*
   obtain ⟨k,hk,ex,ey⟩:∃ k,k<n∧x=f k∧y∈mem7 f (mb k):=by
    rcases abF_get _ [] _ _ nx with ⟨q,hq,m,hm,em,eq⟩|z
    ·obtain ⟨k,hk,rfl⟩:=wsM_mem hq
     cases em
     cases eq
     exact ⟨k,hk,rfl,hm⟩
    ·cases z
   subst ex
   have nq:ninQR (.str (f k)) T= .ok (.bl false):=by
    show Res.ok (D.bl (!(tGet T (.inr (f k))).isSome))=_
    rw [←hT,tK_get io (List.mem_range.mpr hk)]
    rfl
   have dg:dgetR T (.str (f k))= .ok (dS (mem7 f (mb k))):=by rw [←hT];exact get_tK io (List.mem_range.mpr hk)
   have ni:=ninR_S y (mem7 f (mb k))
   rw [decide_eq_true ey] at ni
   have sq:∀ r:DSt,slotQ 0 (some (.d (dK T))::r)= .ok T:=slotQ_d0 T
   show l__law_good_ring_1 [some (.d (dS R)),some (.d (dP (wsM f n mb))),some (.d (dK T)),some (.d (.int (i:Int)))]= .nx [some (.d (dS R)),some (.d (dP (wsM f n mb))),some (.d (dK T)),some (.d (.int (i:Int)))]
   unfold l__law_good_ring_1
   refine sIf_f ?_
   generalize dS R=rr at*
   simp only [tOr2,tR,b1,b2,b2R,b2Q,kD,slotP_0,slotP_s,slotQ_s,sq,Res.bind_ok,e1,e2,ln,addD_ii,mo,nq,dg,ni,boolR_bl,orB_ok,Bool.not_true,Bool.false_eq_true,if_false]) ⟨none,rfl⟩
 refine callR_eq _ _ _ _ ?_ rfl
 generalize dP (wsM f n mb)=W at*
 generalize dS R=rr at*
 have el:∀ δ:DSt,asD (b1 lstR aNil) δ= .ok (.lst []):=fun δ=>by
  simp only [asD,b1,lstR,aNil,Res.bind_ok,List.length_nil,Nat.zero_le,if_true]
 unfold m__law_good_ring b__law_good_ring
 simp only [runD_eq,startD,List.map_cons,List.map_nil,List.length_cons,List.length_nil,List.cons_append,List.nil_append,Nat.reduceAdd,Nat.reduceSub,List.replicate,kD,b1,b2,el,tR,tOr2,tNot1,aCons,aNil,consR_ok,sSeq,sSet,sIf,sFor,sRet,slotD_0,slotD_s,slotP_0,slotP_s,Res.bind_ok,is,en,ls,ln,ne,dl,rg,fo,boolR_bl,orB_ok,Bool.not_true,Bool.false_eq_true,if_false,reduceIte,ifO_ok,ofR_ok,seqO_nx,finO_rt,List.set_cons_zero,List.set_cons_succ]
end
theorem cut_eq (ws:List (Str×List Str)) (x:Str) (hw:ws.length≤1000) (hm:∀ p∈ws,p.2.length≤1000):callR 2 m__law_cut [dP ws, .str x]= .ok (dP (ws.map (outF x))):=by
 have c:compR 2 (unTup 2 (unCons (setI 0) (unCons (setI 1) unNil))) (fun _=> .ok true) e__law_cut_2 [some (.d (dP ws)),some (.d (.str x))] (ws.map prD)= .ok (ws.map fun p=>prD (outF x p)):=by
  refine compR_ok ?_ (by rw [List.length_map];omega)
  refine comp_pr (fe:=e__law_cut_2) (fun p=>prD (outF x p)) _ ws none none fun p hp=> ?_
  have ci:compR 1 (setI 0) c__law_cut_1 e__law_cut_1 [some (.d (.str p.1)),some (.d (.lst (p.2.map D.str))),some (.d (dP ws)),some (.d (.str x))] (p.2.map D.str)= .ok ((p.2.filter fun y=> !decide (y=x)).map D.str):=by
   refine compR_ok ?_ (by rw [List.length_map];have:=hm p hp;omega)
   refine filt_S (gc:=c__law_cut_1) (fe:=e__law_cut_1) (fun y=> !decide (y=x)) _ p.2 none fun y _=>⟨?_,rfl⟩
   have q:=ne_str y x
   show c__law_cut_1 [some (.d (.str y)),some (.d (.str p.1)),some (.d (.lst (p.2.map D.str))),some (.d (dP ws)),some (.d (.str x))]=_
   unfold c__law_cut_1
   simp only [tR,b2,slotP_0,slotP_s,Res.bind_ok,q,boolR_bl]
  have tp:D.tup [.str p.1, .lst ((p.2.filter fun y=> !decide (y=x)).map D.str)]=prD (outF x p):=rfl
  show e__law_cut_2 [some (.d (.str p.1)),some (.d (.lst (p.2.map D.str))),some (.d (dP ws)),some (.d (.str x))]=_
  unfold e__law_cut_2
  simp only [b1,asD,vComp,tupR,aCons,aNil,consR_ok,slotD_0,slotD_s,Res.bind_ok,seqR_l,ci,tp,List.length_cons,List.length_nil,Nat.reduceAdd,Nat.reduceLeDiff,if_true,reduceIte]
 have sw:seqR (dP ws)= .ok (ws.map prD):=rfl
 have rt:D.lst (ws.map fun p=>prD (outF x p))=dP (ws.map (outF x)):=by
  unfold dP
  rw [List.map_map]
  rfl
 refine callR_eq _ _ _ _ ?_ rfl
 generalize dP ws=W at*
 unfold m__law_cut b__law_cut
 simp only [runD_eq,startD,List.map_cons,List.map_nil,List.length_cons,List.length_nil,List.cons_append,List.nil_append,Nat.reduceAdd,Nat.reduceSub,List.replicate,b1,asD,vComp,sRet,slotD_0,Res.bind_ok,ofR_ok,sw,c,rt,finO_rt]
def cutO (a:Nat):Option (Nat×Bool)→Option (Nat×Bool)
 |some p=>if p.1=a then none else some p
 |none=>none
theorem filt_lt {q q':Nat→Bool} (h:∀ k,q' k=true→q k=true):∀ l:List Nat,(∃ k∈l,q k=true∧q' k=false)→(l.filter q').length<(l.filter q).length
 | [],⟨k,hk,_⟩=>by cases hk
 |c::l,⟨k,hk,h1,h2⟩=>by
  have le:(l.filter q').length≤(l.filter q).length:=by
   clear hk
   induction l with
   |nil=>exact Nat.le_refl _
   |cons b l ih=>
    rw [List.filter_cons,List.filter_cons]
    cases h3:q' b with
    |true=>rw [h b h3];simpa using ih
    |false=>
     simp only [Bool.false_eq_true,if_false]
     split
     ·rw [List.length_cons];omega
     ·exact ih
  rcases List.mem_cons.mp hk with rfl|hk
  ·rw [List.filter_cons_of_neg (by rw [h2];decide),List.filter_cons_of_pos h1,List.length_cons];omega
  ·have:=filt_lt h l ⟨k,hk,h1,h2⟩
   rw [List.filter_cons,List.filter_cons]
   cases h3:q' c with
   |true=>rw [h c h3];simpa using this
   |false=>
    simp only [Bool.false_eq_true,if_false]
    split
    ·rw [List.length_cons];omega
    ·exact this
def cntB (n:Nat) (mb:Nat→Option (Nat×Bool)):Nat:=((List.range n).filter fun k=>(mb k).isSome).length
theorem cut_lt {n a:Nat} {mb:Nat→Option (Nat×Bool)} (h:∃ k p,k<n∧mb k=some p∧p.1=a):cntB n (fun k=>cutO a (mb k))<cntB n mb:=by
 refine filt_lt (fun k hk=> ?_) _ ?_
 ·cases h:mb k with
  |none=>
   have hk':(cutO a (mb k)).isSome=true:=hk
   rw [h] at hk';cases hk'
  |some p=>rfl
 ·obtain ⟨k,p,hk,e,rfl⟩:=h
  refine ⟨k,List.mem_range.mpr hk,by rw [e];rfl,?_⟩
  show (cutO p.1 (mb k)).isSome=false
  rw [e]
  show (if p.1=p.1 then none else some p:Option (Nat×Bool)).isSome=false
  rw [if_pos rfl];rfl
theorem cutO_some {a:Nat} {o:Option (Nat×Bool)} {p:Nat×Bool} (h:cutO a o=some p):o=some p:=by
 cases o with
 |none=>cases h
 |some q=>
  have h':(if q.1=a then none else some q)=some p:=h
  by_cases e:q.1=a
  ·rw [if_pos e] at h';cases h'
  ·rw [if_neg e] at h';exact h'
theorem JM.cut {n a:Nat} {mb:Nat→Option (Nat×Bool)} (J:JM n mb):JM n (fun k=>cutO a (mb k)):=
 ⟨fun k p h=>J.a k p (cutO_some h),fun k l p q h1 h2 e=>J.u k l p q (cutO_some h1) (cutO_some h2) e⟩
section
variable {f:Nat→Str} (inj:∀ j k,j<81→k<81→f j=f k→j=k) {n:Nat} {mb:Nat→Option (Nat×Bool)} (hn:n≤30) (J:JM n mb)
include inj hn J
theorem wsM_cut (a:Nat) (ha:a<n):(wsM f n mb).map (outF (f a))=wsM f n (fun k=>cutO a (mb k)):=by
 have d31:f 31≠f a:=fun e=>by have:=inj 31 a (by decide) (by omega) e;omega
 unfold wsM
 rw [List.map_map]
 refine List.map_congr_left fun k _=> ?_
 show (f k,(mem7 f (mb k)).filter fun x=> !decide (x=f a))=(f k,mem7 f (cutO a (mb k)))
 congr 1
 cases h:mb k with
 |none=>simp [mem7,cutO,d31]
 |some p=>
  obtain ⟨b,s⟩:=p
  have hb:b<n:=J.a k _ h
  by_cases e:b=a
  ·subst e
   cases s<;>simp [mem7,cutO,d31]
  ·have nb:f b≠f a:=fun z=>e (inj b a (by omega) (by omega) z)
   cases s<;>simp [mem7,cutO,d31,e,nb]
end
theorem rep_0 (d:D):repR (.lst [d]) (.int 0)= .ok []:=repR_eq _ _ ⟨by simp,by decide,by decide,by simp⟩
theorem rep_1 (d:D):repR (.lst [d]) (.int 1)= .ok [d]:=repR_eq _ _ ⟨by simp,by decide,by decide,by simp⟩
theorem nm_at (f:Nat→Str) (x:Nat) (h:x<32):ixR (sL (List.range 32) f) (.int (x:Int))= .ok (.str (f x)):=by
 refine ixR_l _ _ _ (atI_pos (by omega) ?_)
 rw [show ((x:Int)).toNat=x by omega,List.getElem?_map,List.getElem?_range h];rfl
def iK (R:List Nat):List (Key×D):=R.map fun (x:Nat)=>(.inl (x:Int), .bl true)
theorem iK_get (x:Nat):∀ R:List Nat,(tGet (iK R) (.inl (x:Int))).isSome=decide (x∈R)
 | []=>by simp [iK,tGet]
 |y::R=>by
  show (tGet ((Sum.inl (y:Int),D.bl true)::iK R) (.inl (x:Int))).isSome=_
  by_cases h:y=x
  ·subst h
   rw [tGet_pos rfl];simp
  ·rw [tGet_neg (show ¬ (Sum.inl (y:Int):Key)=Sum.inl (x:Int) from fun z=>h (Int.ofNat.inj (Sum.inl.inj z))),iK_get x R]
   have:¬ x=y:=fun z=>h z.symm
   simp [this]
theorem iK_put (x:Nat) (R:List Nat) (h:x∉R):tPut (iK R) (.inl (x:Int)) (.bl true)=iK (R++ [x]):=by
 unfold tPut
 rw [tHas_get,iK_get,decide_eq_false h]
 simp [iK]
theorem put_int (i:Nat) (δ:DSt) (l:List (Key×D)) (k:Int) (d:D) (fi f:DSt→Res D) (h:δ[i]? =some (some (.q (l.map (·.1)) (l.map (·.2))))) (hl:l.length≤1000) (e1:f δ= .ok d) (e2:fi δ= .ok (.int k)):
  sPutI i fi f δ= .nx (δ.set i (some (.q ((tPut l (.inl k) d).map (·.1)) ((tPut l (.inl k) d).map (·.2))))):=by
 unfold sPutI
 rw [e1]
 show putO i fi δ d=_
 unfold putO
 rw [h]
 show ofR (fi δ) (putJ i δ ((l.map (·.1)).zip (l.map (·.2))) d)=_
 rw [e2,dK_zip]
 show (if l.length≤1000 then _ else _)=_
 rw [if_pos hl]
structure JW (n k:Nat) (R:List Nat) (mb:Nat→Option (Nat×Bool)):Prop where
 a:∀ j p,mb j=some p→p.1<n∧p.1∈R∧j<k
 u:∀ j l p q,mb j=some p→mb l=some q→p.1=q.1→j=l
 l:R.length≤k
theorem wsM_snoc (f:Nat→Str) (k:Nat) (mb:Nat→Option (Nat×Bool)) (o:Option (Nat×Bool)):wsM f (k+1) (up mb k o)=wsM f k mb++ [(f k,mem7 f o)]:=by
 unfold wsM
 rw [List.range_succ,List.map_append,List.map_singleton,up_eq]
 congr 1
 refine List.map_congr_left fun i hi=> ?_
 rw [up_ne _ _ (by have:=List.mem_range.mp hi;omega)]
theorem JW.skip {n k:Nat} {R:List Nat} {mb:Nat→Option (Nat×Bool)} (J:JW n k R mb):JW n (k+1) R (up mb k none):=by
 have cs:∀ j p,up mb k none j=some p→mb j=some p:=fun j p h=>by
  by_cases e:j=k
  ·rw [e,up_eq] at h;cases h
  ·rw [up_ne _ _ e] at h;exact h
 exact ⟨fun j p h=>⟨(J.a j p (cs j p h)).1,(J.a j p (cs j p h)).2.1,by have:=(J.a j p (cs j p h)).2.2;omega⟩,fun j l p q h1 h2 e=>J.u j l p q (cs j p h1) (cs l q h2) e,by have:=J.l;omega⟩
theorem JW.take {n k a:Nat} {s:Bool} {R:List Nat} {mb:Nat→Option (Nat×Bool)} (J:JW n k R mb) (ha:a<n) (hR:a∉R):JW n (k+1) (R++ [a]) (up mb k (some (a,s))):=by
 have cs:∀ j p,up mb k (some (a,s)) j=some p→(j=k∧p.1=a)∨mb j=some p:=fun j p h=>by
  by_cases e:j=k
  ·rw [e,up_eq] at h;cases h;exact .inl ⟨e,rfl⟩
  ·rw [up_ne _ _ e] at h;exact .inr h
 refine ⟨fun j p h=> ?_,fun j l p q h1 h2 e=> ?_,by rw [List.length_append,List.length_singleton];have:=J.l;omega⟩
 ·rcases cs j p h with ⟨e1,e2⟩|z
  ·rw [e2];exact ⟨ha,List.mem_append_right _ (List.mem_singleton.mpr rfl),by omega⟩
  ·obtain ⟨z1,z2,z3⟩:=J.a j p z
   exact ⟨z1,List.mem_append_left _ z2,by omega⟩
 ·rcases cs j p h1 with ⟨e1,e2⟩|z
  ·rcases cs l q h2 with ⟨e3,e4⟩|y
   ·rw [e1,e3]
   ·have:=(J.a l q y).2.1
    rw [←e,e2] at this
    exact (hR this).elim
  ·rcases cs l q h2 with ⟨e3,e4⟩|y
   ·have:=(J.a j p z).2.1
    rw [e,e4] at this
    exact (hR this).elim
   ·exact J.u j l p q z y e
abbrev w7S (A N C:D) (b:Bool) (W:List D) (R:List Nat) (x6 x7 x8 x9 x10:Option S):DSt:= [some (.d A),some (.d N),some (.d C),some (.d (.bl b)),some (.o W),sT (iK R),x6,x7,x8,x9,x10]
theorem wg_t (A:D) (f:Nat→Str) (ms:List Int) (b:Bool) (k:Nat) (hk:k<ms.length) (hn:ms.length≤30) (R:List Nat) (mb:Nat→Option (Nat×Bool)) (J:JW ms.length k R mb) (x7 x8 x9 x10:Option S):
  ∃ (o:Option (Nat×Bool)) (R':List Nat) (y7 y8 y9 y10:Option S),JW ms.length (k+1) R' (up mb k o)∧
  l__law_wings_1 (w7S A (sL (List.range 32) f) (.lst (ms.map D.int)) b ((wsM f k mb).map prD) R (some (.d (.int (k:Int)))) x7 x8 x9 x10)=
   .nx (w7S A (sL (List.range 32) f) (.lst (ms.map D.int)) b ((wsM f (k+1) (up mb k o)).map prD) R' (some (.d (.int (k:Int)))) y7 y8 y9 y10):=by
 have ec:ixR (.lst (ms.map D.int)) (.int (k:Int))= .ok (.int ms[k]):=by
  rw [ix_nat _ _ (by rw [List.length_map];exact hk),List.getElem_map]
 obtain ⟨one,e2⟩:=mixed_ex ms[k] (10+(k:Int)) (by omega) (by omega)
 generalize ms[k]=c at*
 have n31:=nm_at f 31 (by decide)
 have n31':ixR (sL (List.range 32) f) (.int 31)= .ok (.str (f 31)):=n31
 have nk:=nm_at f k (by omega)
 have ln:lenR (.lst (ms.map D.int))= .ok (.int (ms.length:Int)):=by rw [lenR_l,List.length_map]
 obtain ⟨a1,h1,m1⟩:=mod_nat one ms.length (by omega)
 obtain ⟨a2,h2,m2⟩:=mod_nat ((k:Int)+1) ms.length (by omega)
 have ih:intS (.bl b)= .ok (.int (if b=true then 1 else 0)):=by cases b<;>rfl
 obtain ⟨a3,h3,e3⟩:∃ a3:Nat,a3<ms.length∧ixR (.lst [.int (a1:Int), .int (a2:Int)]) (.int (if b=true then 1 else 0))= .ok (.int (a3:Int)):=by
  cases b with
  |true=>exact ⟨a2,h2,ixR_l _ _ _ rfl⟩
  |false=>exact ⟨a1,h1,ixR_l _ _ _ rfl⟩
 have eq1:eqR (.int ((k:Int)+1)) (.int (ms.length:Int))= .ok (.bl ((k:Int)+1==(ms.length:Int))):=eqR_ii _ _
 have d7:=divI one 7 (by decide) (by decide)
 have m5:=modI (one / 7) 5 (by decide)
 have g5:gtR (.int (one / 7%5)) (.int 0)= .ok (.bl (decide ((0:Int)<one / 7%5))):=gtR_ii _ _
 have d35:=divI one 35 (by decide) (by decide)
 have m6:=modI (one / 35) 2 (by decide)
 have b0:=Int.emod_nonneg (one / 35) (show (2:Int)≠0 by decide)
 have b1':=Int.emod_lt_of_pos (one / 35) (show (0:Int)<2 by decide)
 have sb:subD (.int 1) (.int (one / 35%2))= .ok (.int (1-one / 35%2)):=subD_ii _ _
 have nm:=fun (x:Nat) (h:x<ms.length)=>nm_at f x (by omega)
 generalize hC:D.lst (ms.map D.int)=C at*
 generalize hN:sL (List.range 32) f=N at*
 generalize hlen:ms.length=n at*
 generalize one / 7%5=q5 at*
 generalize one / 35%2=s at*
 generalize hW:(wsM f k mb).map prD=W at*
 have v7:sSet 7 (b1 (callR 2 m__law_mixed) (aCons (b2 ixR (slotP 2) (slotP 6)) (aCons (b2 addD (kD (.int 10)) (slotP 6)) aNil))) (w7S A N C b W R (some (.d (.int (k:Int)))) x7 x8 x9 x10)= .nx (w7S A N C b W R (some (.d (.int (k:Int)))) (some (.d (.int one))) x8 x9 x10):=by
  simp only [w7S,sSet,kD,b1,b2,aCons,aNil,consR_ok,slotP_0,slotP_s,Res.bind_ok,ofR_ok,addD_ii,ec,e2,List.set_cons_zero,List.set_cons_succ]
 have v8:sSet 8 (asD (b1 lstR (aCons (b2 ixR (slotP 1) (kD (.int 31))) aNil))) (w7S A N C b W R (some (.d (.int (k:Int)))) (some (.d (.int one))) x8 x9 x10)= .nx (w7S A N C b W R (some (.d (.int (k:Int)))) (some (.d (.int one))) (some (.d (dS [f 31]))) x9 x10):=by
  simp only [w7S,sSet,asD,lstR,kD,b1,b2,aCons,aNil,consR_ok,slotP_0,slotP_s,Res.bind_ok,ofR_ok,n31',List.length_cons,List.length_nil,Nat.reduceAdd,Nat.reduceLeDiff,if_true,List.set_cons_zero,List.set_cons_succ]
  rfl
 have v9:sSet 9 (b2 ixR (asD (b1 lstR (aCons (b2 modD (slotP 7) (b1 lenR (slotP 2))) (aCons (b2 modD (b2 addD (slotP 6) (kD (.int 1))) (b1 lenR (slotP 2))) aNil)))) (b1 intS (slotP 3))) (w7S A N C b W R (some (.d (.int (k:Int)))) (some (.d (.int one))) (some (.d (dS [f 31]))) x9 x10)= .nx (w7S A N C b W R (some (.d (.int (k:Int)))) (some (.d (.int one))) (some (.d (dS [f 31]))) (some (.d (.int (a3:Int)))) x10):=by
  simp only [w7S,sSet,asD,lstR,kD,b1,b2,aCons,aNil,consR_ok,slotP_0,slotP_s,Res.bind_ok,ofR_ok,addD_ii,ln,m1,m2,ih,e3,List.length_cons,List.length_nil,Nat.reduceAdd,Nat.reduceLeDiff,if_true,List.set_cons_zero,List.set_cons_succ]
 obtain ⟨a,ha,va⟩:∃ a:Nat,a<n∧sIf (tAnd2 (tR (slotD 3)) (tR (b2 eqR (b2 addD (slotP 6) (kD (.int 1))) (b1 lenR (slotP 2))))) (sSet 9 (b2 modD (slotP 7) (b1 lenR (slotP 2)))) Out.nx (w7S A N C b W R (some (.d (.int (k:Int)))) (some (.d (.int one))) (some (.d (dS [f 31]))) (some (.d (.int (a3:Int)))) x10)= .nx (w7S A N C b W R (some (.d (.int (k:Int)))) (some (.d (.int one))) (some (.d (dS [f 31]))) (some (.d (.int (a:Int)))) x10):=by
  have cd:tAnd2 (tR (slotD 3)) (tR (b2 eqR (b2 addD (slotP 6) (kD (.int 1))) (b1 lenR (slotP 2)))) (w7S A N C b W R (some (.d (.int (k:Int)))) (some (.d (.int one))) (some (.d (dS [f 31]))) (some (.d (.int (a3:Int)))) x10)= .ok (b&&((k:Int)+1==(n:Int))):=by
   simp only [w7S,tAnd2,tR,b1,b2,kD,slotD_0,slotD_s,slotP_0,slotP_s,Res.bind_ok,addD_ii,ln,eq1,boolR_bl,andB_ok]
   cases b<;>rfl
  cases hb:(b&&((k:Int)+1==(n:Int))) with
  |true=>
   rw [hb] at cd
   refine ⟨a1,h1,?_⟩
   rw [sIf_t cd]
   simp only [w7S,sSet,b1,b2,slotP_0,slotP_s,Res.bind_ok,ofR_ok,ln,m1,List.set_cons_zero,List.set_cons_succ]
  |false=>
   rw [hb] at cd
   exact ⟨a3,h3,sIf_f cd⟩
 have na:=nm a ha
 have sq:∀ r:DSt,slotQ 0 (sT (iK R)::r)= .ok (iK R):=slotQ_q0 (iK R)
 have nq:ninQR (.int (a:Int)) (iK R)= .ok (.bl (!decide (a∈R))):=by
  show Res.ok (D.bl (!(tGet (iK R) (.inl (a:Int))).isSome))=_
  rw [iK_get]
 have cd:tAnd2 (tOr2 (tR (slotD 3)) (tR (b2 gtR (b2 modD (b2 fdivD (slotP 7) (kD (.int 7))) (kD (.int 5))) (kD (.int 0))))) (tR (b2R ninQR (slotP 9) (slotQ 5))) (w7S A N C b W R (some (.d (.int (k:Int)))) (some (.d (.int one))) (some (.d (dS [f 31]))) (some (.d (.int (a:Int)))) x10)= .ok ((b||decide ((0:Int)<q5))&& !decide (a∈R)):=by
  simp only [w7S,tAnd2,tOr2,tR,b1,b2,b2R,kD,slotD_0,slotD_s,slotP_0,slotP_s,slotQ_s,sq,Res.bind_ok,d7,m5,g5,nq,boolR_bl,andB_ok,orB_ok]
  cases b
  ·cases decide ((0:Int)<q5)<;>rfl
  ·rfl
 have ap:∀ (o:Option (Nat×Bool)) (R':List Nat) (y10:Option S),appO 4 (w7S A N C b W R' (some (.d (.int (k:Int)))) (some (.d (.int one))) (some (.d (dS (mem7 f o)))) (some (.d (.int (a:Int)))) y10) (.ok (prD (f k,mem7 f o)))= .nx (w7S A N C b ((wsM f (k+1) (up mb k o)).map prD) R' (some (.d (.int (k:Int)))) (some (.d (.int one))) (some (.d (dS (mem7 f o)))) (some (.d (.int (a:Int)))) y10):=fun o R' y10=>by
  rw [appO_eq 4 _ _ _ rfl (by rw [←hW,List.length_map,wsM_len];omega),wsM_snoc,List.map_append,hW]
  rfl
 have sa:∀ (o:Option (Nat×Bool)) (R':List Nat) (y10:Option S),sApp 4 (b1 tupR (aCons (b2 ixR (slotP 1) (slotP 6)) (aCons (slotD 8) aNil))) (w7S A N C b W R' (some (.d (.int (k:Int)))) (some (.d (.int one))) (some (.d (dS (mem7 f o)))) (some (.d (.int (a:Int)))) y10)= .nx (w7S A N C b ((wsM f (k+1) (up mb k o)).map prD) R' (some (.d (.int (k:Int)))) (some (.d (.int one))) (some (.d (dS (mem7 f o)))) (some (.d (.int (a:Int)))) y10):=fun o R' y10=>by
  rw [←ap o R' y10]
  unfold sApp
  congr 1
  have tp:D.tup [.str (f k),dS (mem7 f o)]=prD (f k,mem7 f o):=rfl
  simp only [w7S,b1,b2,tupR,aCons,aNil,consR_ok,slotD_0,slotD_s,slotP_0,slotP_s,Res.bind_ok,nk,tp,List.length_cons,List.length_nil,Nat.reduceAdd,Nat.reduceLeDiff,if_true,reduceIte]
 cases hb:((b||decide ((0:Int)<q5))&& !decide (a∈R)) with
 |false=>
  rw [hb] at cd
  refine ⟨none,R,some (.d (.int one)),some (.d (dS (mem7 f none))),some (.d (.int (a:Int))),x10,J.skip,?_⟩
  unfold l__law_wings_1 sSeq
  rw [v7,seqO_nx,v8,seqO_nx,v9,seqO_nx,va,seqO_nx,sIf_f cd,seqO_nx]
  exact sa none R x10
 |true=>
  rw [hb] at cd
  have hR:a∉R:=fun z=>by rw [decide_eq_true z] at hb;simp at hb
  have pu:sPutI 5 (slotD 9) (kD (.bl true)) (w7S A N C b W R (some (.d (.int (k:Int)))) (some (.d (.int one))) (some (.d (dS [f 31]))) (some (.d (.int (a:Int)))) x10)= .nx (w7S A N C b W (R++ [a]) (some (.d (.int (k:Int)))) (some (.d (.int one))) (some (.d (dS [f 31]))) (some (.d (.int (a:Int)))) x10):=by
   rw [put_int 5 _ (iK R) (a:Int) (.bl true) (slotD 9) (kD (.bl true)) rfl (by unfold iK;rw [List.length_map];have:=J.l;omega) rfl rfl,iK_put a R hR]
   rfl
  have v10:sSet 10 (asD (b1 lstR (aCons (b2 ixR (slotP 1) (slotP 9)) aNil))) (w7S A N C b W (R++ [a]) (some (.d (.int (k:Int)))) (some (.d (.int one))) (some (.d (dS [f 31]))) (some (.d (.int (a:Int)))) x10)= .nx (w7S A N C b W (R++ [a]) (some (.d (.int (k:Int)))) (some (.d (.int one))) (some (.d (dS [f 31]))) (some (.d (.int (a:Int)))) (some (.d (.lst [.str (f a)])))):=by
   simp only [w7S,sSet,asD,lstR,b1,b2,aCons,aNil,consR_ok,slotP_0,slotP_s,Res.bind_ok,ofR_ok,na,List.length_cons,List.length_nil,Nat.reduceAdd,Nat.reduceLeDiff,if_true,List.set_cons_zero,List.set_cons_succ]
  obtain ⟨t,vt⟩:∃ t:Bool,sSet 8 (asD (b2F catR (asD (b2F catR (asD (b2F repR (slotP 10) (b2 modD (b2 fdivD (slotP 7) (kD (.int 35))) (kD (.int 2))))) (slotP 8))) (asD (b2F repR (slotP 10) (b2 subD (kD (.int 1)) (b2 modD (b2 fdivD (slotP 7) (kD (.int 35))) (kD (.int 2)))))))) (w7S A N C b W (R++ [a]) (some (.d (.int (k:Int)))) (some (.d (.int one))) (some (.d (dS [f 31]))) (some (.d (.int (a:Int)))) (some (.d (.lst [.str (f a)]))))= .nx (w7S A N C b W (R++ [a]) (some (.d (.int (k:Int)))) (some (.d (.int one))) (some (.d (dS (mem7 f (some (a,t)))))) (some (.d (.int (a:Int)))) (some (.d (.lst [.str (f a)])))):=by
   have r0:=rep_0 (.str (f a))
   have r1:=rep_1 (.str (f a))
   rcases (by omega:s=0∨s=1) with rfl|rfl
   ·have c1:catR (.lst []) (dS [f 31])= .ok [.str (f 31)]:=catR_l _ _ (by simp)
    have c2:catR (.lst [.str (f 31)]) (.lst [.str (f a)])= .ok [.str (f 31), .str (f a)]:=catR_l _ _ (by simp)
    have s1:subD (.int 1) (.int 0)= .ok (.int 1):=sb
    refine ⟨false,?_⟩
    simp only [w7S,sSet,asD,kD,b2,b2F,slotP_0,slotP_s,Res.bind_ok,ofR_ok,d35,m6,s1,r0,r1,c1,c2,List.set_cons_zero,List.set_cons_succ]
    rfl
   ·have c1:catR (.lst [.str (f a)]) (dS [f 31])= .ok [.str (f a), .str (f 31)]:=catR_l _ _ (by simp)
    have c2:catR (.lst [.str (f a), .str (f 31)]) (.lst [])= .ok [.str (f a), .str (f 31)]:=catR_l _ _ (by simp)
    have s1:subD (.int 1) (.int 1)= .ok (.int 0):=sb
    refine ⟨true,?_⟩
    simp only [w7S,sSet,asD,kD,b2,b2F,slotP_0,slotP_s,Res.bind_ok,ofR_ok,d35,m6,s1,r0,r1,c1,c2,List.set_cons_zero,List.set_cons_succ]
    rfl
  refine ⟨some (a,t),R++ [a],some (.d (.int one)),some (.d (dS (mem7 f (some (a,t))))),some (.d (.int (a:Int))),some (.d (.lst [.str (f a)])),J.take ha hR,?_⟩
  unfold l__law_wings_1 sSeq
  rw [v7,seqO_nx,v8,seqO_nx,v9,seqO_nx,va,seqO_nx,sIf_t cd]
  show seqO (seqO (sPutI 5 (slotD 9) (kD (.bl true)) _) _) _=_
  rw [pu,seqO_nx,v10,seqO_nx,vt,seqO_nx]
  exact sa (some (a,t)) (R++ [a]) _
theorem wings_ex (ns:List Int):∃ (f:Nat→Str) (n:Nat) (mb:Nat→Option (Nat×Bool)),(∀ j k,j<81→k<81→f j=f k→j=k)∧(∀ k,Gd (f k))∧n≤30∧JM n mb∧
  callR 1 m__law_wings [.lst (ns.map D.int)]= .ok (.tup [.str (f 31), .str (f 30),dP (wsM f n mb)]):=by
 obtain ⟨c0,e0⟩:=cell_ex ns 0 (by decide)
 obtain ⟨c4,e4⟩:=mixed_ex c0 4 (by decide) (by decide)
 obtain ⟨f,inj,fg,en⟩:=names_ex c4 32 (by decide)
 have en':callR 2 m__law_names [.int c4, .int 32]= .ok (sL (List.range 32) f):=en
 obtain ⟨ms,hms,hml⟩:∃ ms:List Int,slL (.lst (ns.map D.int)) (some 1) (some 31)= .ok (ms.map D.int)∧ms.length≤30:=by
  rw [slL_l]
  unfold L3.cutD
  refine ⟨(ns.drop (HT.sIx (ns.map D.int).length 0 (some 1))).take (HT.sIx (ns.map D.int).length (ns.map D.int).length (some 31)-HT.sIx (ns.map D.int).length 0 (some 1)),by rw [List.map_take,List.map_drop],?_⟩
  rw [sIx_nat _ _ _ (by decide),sIx_nat _ _ _ (by decide),List.length_take]
  omega
 have m3:=modI c0 3 (by decide)
 have eq3:eqR (.int (c0%3)) (.int 1)= .ok (.bl (c0%3==1)):=eqR_ii _ _
 generalize (c0%3==1)=b at*
 have ln:lenR (.lst (ms.map D.int))= .ok (.int (ms.length:Int)):=by rw [lenR_l,List.length_map]
 have rg:=rng1_i (ms.length:Int) (by omega) (by omega)
 rw [Int.toNat_natCast] at rg
 have n31:ixR (sL (List.range 32) f) (.int 31)= .ok (.str (f 31)):=nm_at f 31 (by decide)
 have n30:ixR (sL (List.range 32) f) (.int 30)= .ok (.str (f 30)):=nm_at f 30 (by decide)
 generalize D.lst (ns.map D.int)=A at*
 obtain ⟨δ2,fo,mb,R,x6,x7,x8,x9,x10,rfl,J⟩:=forD_ix (t:=setI 6) (body:=l__law_wings_1) (fun i δ=>∃ (mb:Nat→Option (Nat×Bool)) (R:List Nat) (x6 x7 x8 x9 x10:Option S),δ=w7S A (sL (List.range 32) f) (.lst (ms.map D.int)) b ((wsM f i mb).map prD) R x6 x7 x8 x9 x10∧JW ms.length i R mb)
  (rngD 0 ms.length) (w7S A (sL (List.range 32) f) (.lst (ms.map D.int)) b [] [] none none none none none) (fun i d δ hd hI=>by
   obtain ⟨mb,R,x6,x7,x8,x9,x10,rfl,J⟩:=hI
   obtain ⟨hi,rfl⟩:=rngD_get hd
   obtain ⟨o,R',y7,y8,y9,y10,J',e⟩:=wg_t A f ms b i hi hml R mb J x7 x8 x9 x10
   refine ⟨_,rfl,_, .inl ?_,up mb i o,R',some (.d (.int (i:Int))),y7,y8,y9,y10,rfl,J'⟩
   rw [show (0+(i:Int))=(i:Int) by omega]
   exact e) ⟨fun _=>none,[],none,none,none,none,none,rfl,⟨fun j p h=>(by cases h),fun j l p q h=>(by cases h),Nat.le_refl _⟩⟩
 rw [rngD_len] at J fo
 refine ⟨f,ms.length,mb,inj,fg,hml,⟨fun k p h=>(J.a k p h).1,J.u⟩,callR_eq _ _ _ _ ?_ rfl⟩
 have fz:frzL 4 (w7S A (sL (List.range 32) f) (.lst (ms.map D.int)) b ((wsM f ms.length mb).map prD) R x6 x7 x8 x9 x10)= [some (.d A),some (.d (sL (List.range 32) f)),some (.d (.lst (ms.map D.int))),some (.d (.bl b)),some (.d (dP (wsM f ms.length mb))),sT (iK R),x6,x7,x8,x9,x10]:=rfl
 generalize hC:D.lst (ms.map D.int)=C at*
 generalize hN:sL (List.range 32) f=N at*
 generalize dP (wsM f ms.length mb)=W at*
 have p1:partR (.int 1)= .ok (some 1):=rfl
 have p31:partR (.int 31)= .ok (some 31):=rfl
 unfold m__law_wings b__law_wings
 rw [runD_eq]
 show finO (sSeq _ _ [some (.d A),none,none,none,none,none,none,none,none,none,none])=_
 have u1:sSet 1 (b1 (callR 2 m__law_names) (aCons (b1 (callR 2 m__law_mixed) (aCons (b1 (callR 2 m__law_cell_at) (aCons (slotD 0) (aCons (kD (.int 0)) aNil))) (aCons (kD (.int 4)) aNil))) (aCons (kD (.int 32)) aNil))) [some (.d A),none,none,none,none,none,none,none,none,none,none]= .nx [some (.d A),some (.d N),none,none,none,none,none,none,none,none,none]:=by
  simp only [sSet,b1,kD,aCons,aNil,consR_ok,slotD_0,Res.bind_ok,e0,e4,en',ofR_ok,List.set_cons_zero,List.set_cons_succ]
 have u2:sSet 2 (asD (L3.b3 slL (slotP 0) (b1 partR (kD (.int 1))) (b1 partR (kD (.int 31))))) [some (.d A),some (.d N),none,none,none,none,none,none,none,none,none]= .nx [some (.d A),some (.d N),some (.d C),none,none,none,none,none,none,none,none]:=by
  simp only [sSet,asD,L3.b3,b1,kD,slotP_0,Res.bind_ok,p1,p31,hms,hC,ofR_ok,List.set_cons_zero,List.set_cons_succ]
 have u3:sSet 3 (b2 eqR (b2 modD (b1 (callR 2 m__law_cell_at) (aCons (slotD 0) (aCons (kD (.int 0)) aNil))) (kD (.int 3))) (kD (.int 1))) [some (.d A),some (.d N),some (.d C),none,none,none,none,none,none,none,none]= .nx [some (.d A),some (.d N),some (.d C),some (.d (.bl b)),none,none,none,none,none,none,none]:=by
  simp only [sSet,b1,b2,kD,aCons,aNil,consR_ok,slotD_0,Res.bind_ok,e0,m3,eq3,ofR_ok,List.set_cons_zero,List.set_cons_succ]
 have u4:sOwn 4 (b1 lstR aNil) [some (.d A),some (.d N),some (.d C),some (.d (.bl b)),none,none,none,none,none,none,none]= .nx [some (.d A),some (.d N),some (.d C),some (.d (.bl b)),some (.o []),none,none,none,none,none,none]:=by
  simp only [sOwn,b1,lstR,aNil,Res.bind_ok,List.length_nil,Nat.zero_le,if_true,ofR_ok,List.set_cons_zero,List.set_cons_succ]
 have u5:sOwnQ 5 [some (.d A),some (.d N),some (.d C),some (.d (.bl b)),some (.o []),none,none,none,none,none,none]= .nx (w7S A N C b [] [] none none none none none):=rfl
 have u6:sFor (setI 6) l__law_wings_1 (b1 rng1R (aCons (b1 lenR (slotP 2)) aNil)) (w7S A N C b [] [] none none none none none)= .nx (w7S A N C b ((wsM f ms.length mb).map prD) R x6 x7 x8 x9 x10):=by
  rw [←fo]
  simp only [sFor,w7S,b1,aCons,aNil,consR_ok,slotP_0,slotP_s,Res.bind_ok,ln,rg,ofR_ok]
 unfold sSeq
 rw [u1,seqO_nx,u2,seqO_nx,u3,seqO_nx,u4,seqO_nx,u5,seqO_nx,u6,seqO_nx]
 unfold sFrzL
 rw [fz]
 simp only [sRet,b1,b2,kD,tupR,aCons,aNil,consR_ok,slotD_0,slotD_s,slotP_0,slotP_s,Res.bind_ok,n31,n30,ofR_ok,List.length_cons,List.length_nil,Nat.reduceAdd,Nat.reduceLeDiff,if_true,reduceIte,finO_rt]
section
variable {f:Nat→Str} (inj:∀ j k,j<81→k<81→f j=f k→j=k) (fg:∀ k,Gd (f k)) {n:Nat} (hn:n≤30)
include inj fg hn
theorem turns (A:D):∀ (ds:List D) (mb:Nat→Option (Nat×Bool)) (x4 x5:Option S),JM n mb→cntB n mb<ds.length→forD (setI 4) l_law_1 ds [some (.d A),some (.d (.str (f 31))),some (.d (.str (f 30))),some (.d (dP (wsM f n mb))),x4,x5]= .rt (.bl true)
 | [],mb,x4,x5,J,h=>by cases h
 |c::ds,mb,x4,x5,J,h=>by
  obtain ⟨ok,ck⟩:=good7 inj fg hn J
  have wl:(wsM f n mb).length≤30:=by rw [wsM_len];exact hn
  have ml:∀ p∈wsM f n mb,p.2.length≤2:=fun p hp=>by obtain ⟨k,hk,rfl⟩:=wsM_mem hp;exact mem7_len f (mb k)
  have hs:=has_eq (f 31) (wsM f n mb) (by omega) (fun p hp=>by have:=ml p hp;omega)
  have ai:=any_iff inj hn (mb:=mb)
  have wn:(H7 (f 31) (f 30) (wsM f n mb)).wn=(List.range n).map f:=wsM_wn f n mb
  have iN:isNR .non= .ok (.bl true):=rfl
  rcases look_eq _ ok with ⟨r,z,_⟩|⟨_,⟨e,en⟩|⟨R,e,hR⟩⟩
  ·rw [ck] at z;cases z
  ·have as:=ask_none (f 31) (f 30) (wsM f n mb) (by omega) e
   have hb:((wsM f n mb).any fun p=>hrR (gT (inT (f 31) (wsM f n mb))) p.1 (wsM f n mb).length (gT (inT (f 31) (wsM f n mb)) p.1))=false:=by
    cases hb:((wsM f n mb).any fun p=>hrR (gT (inT (f 31) (wsM f n mb))) p.1 (wsM f n mb).length (gT (inT (f 31) (wsM f n mb)) p.1)) with
    |false=>rfl
    |true=>
     obtain ⟨x,hx,s,_,hs⟩:=ai.mp hb
     exact (ends_no (en x (by rw [wn];exact hx)) s hs).elim
   rw [hb] at hs
   refine for_rt (δ':= [some (.d A),some (.d (.str (f 31))),some (.d (.str (f 30))),some (.d (dP (wsM f n mb))),some (.d c),x5]) rfl ?_
   generalize dP (wsM f n mb)=W at*
   unfold l_law_1
   simp only [sSeq,sSet,sIf,sRet,tNot1,tR,b1,aCons,aNil,consR_ok,slotD_0,slotD_s,slotP_0,slotP_s,Res.bind_ok,as,hs,iN,boolR_bl,Bool.not_false,ifO_ok,if_true,ofR_ok,seqO_nx,seqO_rt,List.set_cons_zero,List.set_cons_succ]
  ·have as:=ask_ring (f 31) (f 30) (wsM f n mb) R (by omega) e
   rw [wn] at hR
   have rf:RgF (abF [] (wsM f n mb)) ((List.range n).map f) R:=ring_f hR
   have gd:=good_eq inj hn R rf
   have hb:((wsM f n mb).any fun p=>hrR (gT (inT (f 31) (wsM f n mb))) p.1 (wsM f n mb).length (gT (inT (f 31) (wsM f n mb)) p.1))=true:=by
    obtain ⟨x,hx,s,h1,h2⟩:=rf.back
    rw [List.length_map,List.length_range] at h1
    exact ai.mpr ⟨x,hx,s,h1,h2⟩
   rw [hb] at hs
   have rp:0<R.length:=List.length_pos_iff.mpr rf.ne
   have i0:=ix_S R 0 rp
   have nx:=rf.nx (R.length-1) _ _ (List.getElem?_eq_getElem (by omega)) (List.getElem?_eq_getElem (Nat.mod_lt _ rp))
   have e0:(R.length-1+1)%R.length=0:=by rw [show R.length-1+1=R.length by omega,Nat.mod_self]
   simp only [e0] at nx
   obtain ⟨a,ha,ea⟩:=List.mem_map.mp (rf.mem _ (List.getElem_mem rp))
   have ha:=List.mem_range.mp ha
   rw [←ea] at nx i0
   have lt:cntB n (fun k=>cutO a (mb k))<cntB n mb:=by
    rcases abF_get _ [] _ _ nx with ⟨q,hq,m,hm,em,_⟩|z
    ·obtain ⟨k,hk,rfl⟩:=wsM_mem hq
     have em':f a=m:=Sum.inr.inj em
     rw [←em'] at hm
     rcases (mem7_iff f (mb k) (f a)).mp hm with z|⟨p,e1,e2⟩
     ·have:=inj a 31 (by omega) (by decide) z;omega
     ·have hp:=J.a k p e1
      exact cut_lt ⟨k,p,hk,e1,(inj a p.1 (by omega) (by omega) e2).symm⟩
    ·cases z
   have ct:=cut_eq (wsM f n mb) (f a) (by omega) (fun p hp=>by have:=ml p hp;omega)
   rw [wsM_cut inj hn J a ha] at ct
   have i0':ixR (dS R) (.int 0)= .ok (.str (f a)):=i0
   rw [for_nx (δ':= [some (.d A),some (.d (.str (f 31))),some (.d (.str (f 30))),some (.d (dP (wsM f n mb))),some (.d c),x5]) (δ2:= [some (.d A),some (.d (.str (f 31))),some (.d (.str (f 30))),some (.d (dP (wsM f n fun k=>cutO a (mb k)))),some (.d c),some (.d (dS R))]) rfl ?_]
   ·exact turns A ds _ _ _ J.cut (by rw [List.length_cons] at h;omega)
   ·generalize dP (wsM f n mb)=W at*
    generalize dP (wsM f n fun k=>cutO a (mb k))=W' at*
    generalize dS R=rr at*
    unfold l_law_1
    simp only [sSeq,sSet,sIf,sRet,tNot1,tR,kD,b1,b2,aCons,aNil,consR_ok,slotD_0,slotD_s,slotP_0,slotP_s,Res.bind_ok,as,hs,gd,i0',ct,boolR_bl,Bool.not_true,Bool.false_eq_true,if_false,reduceIte,ifO_ok,ofR_ok,seqO_nx,seqO_rt,List.set_cons_zero,List.set_cons_succ]
end
theorem law_true (ns:List Int) (h:ns.length≤63):m_law [.lst (ns.map D.int)]= .ok (.bl true):=by
 obtain ⟨f,n,mb,inj,fg,hn,J,ew⟩:=wings_ex ns
 generalize D.lst (ns.map D.int)=A at*
 have cl:cntB n mb≤n:=by
  unfold cntB
  have:=List.length_filter_le (fun k=>(mb k).isSome) (List.range n)
  rw [List.length_range] at this
  exact this
 have tn:=turns inj fg hn A (rngD 0 32) mb none none J (by rw [rngD_len];omega)
 have rg:=rng1_i 32 (by decide) (by decide)
 have rg':rng1R [.int 32]= .ok (rngD 0 32):=rg
 generalize dP (wsM f n mb)=W at*
 have un:sAsg (unTup 3 (unCons (setI 1) (unCons (setI 2) (unCons (setI 3) unNil)))) (b1 (callR 1 m__law_wings) (aCons (slotD 0) aNil)) [some (.d A),none,none,none,none,none]= .nx [some (.d A),some (.d (.str (f 31))),some (.d (.str (f 30))),some (.d W),none,none]:=by
  simp only [sAsg,b1,aCons,aNil,consR_ok,slotD_0,Res.bind_ok,ew,ofR_ok]
  rfl
 unfold m_law b_law
 rw [runD_eq]
 show finO (sSeq _ _ [some (.d A),none,none,none,none,none])=_
 unfold sSeq
 rw [un,seqO_nx]
 have fo:sFor (setI 4) l_law_1 (b1 rng1R (aCons (kD (.int 32)) aNil)) [some (.d A),some (.d (.str (f 31))),some (.d (.str (f 30))),some (.d W),none,none]= .rt (.bl true):=by
  rw [←tn]
  simp only [sFor,b1,kD,aCons,aNil,consR_ok,Res.bind_ok,rg',ofR_ok]
 rw [fo]
 rfl
end G
local macro_rules| `(tactic| walk_at "memfree")=> `(tactic| first|exact List.forall_mem_nil _|exact List.forall_mem_cons.mpr ⟨(by intro h;first|exact absurd h (by decide)|exact Or.inl rfl|exact Or.inr rfl),by walk_at "memfree"⟩)
local macro_rules| `(tactic| walk_at "memdis")=> `(tactic| first|exact List.forall_mem_nil _|exact List.forall_mem_cons.mpr ⟨by decide +kernel,by walk_at "memdis"⟩)
local macro_rules| `(tactic| walk_at "compok")=> `(tactic| exact ⟨rfl,by decide +kernel,by walk_at "memfree",rfl,by walk_at "memdis"⟩)
namespace G
open PySem PySem.Spec PyProof.Rows L2 L3
def top (i:Nat):Stmt:=PySem.Challenge.pw_wardsmith_k37_rings_of_wings.main.body.getD i (.Pass ⟨0,0,0,0⟩)
abbrev s_copied:Stmt:=top 18
abbrev s_House:Stmt:=inClass (top 17) 0
abbrev s_Ring:Stmt:=inClass (top 6) 0
abbrev s_names_of:Stmt:=top 10
abbrev s_ring_above:Stmt:=top 15
abbrev s_refuse_ring:Stmt:=top 14
abbrev s_Twice:Stmt:=inClass (top 3) 0
abbrev s_refuse_twice:Stmt:=top 11
abbrev s_Shared:Stmt:=inClass (top 5) 0
abbrev s_Unknown:Stmt:=inClass (top 4) 0
abbrev s_refuse_unknown:Stmt:=top 13
abbrev s_refuse_unknown_and_shared:Stmt:=top 12
abbrev s_look_at:Stmt:=top 9
abbrev s__law_asked:Stmt:=top 27
abbrev s__law_cut:Stmt:=top 29
abbrev s__law_good_ring:Stmt:=top 28
abbrev s__law_has_ring:Stmt:=top 26
abbrev s__law_cell_at:Stmt:=top 20
abbrev s__law_mixed:Stmt:=top 21
abbrev s__law_name:Stmt:=top 23
abbrev s__law_open:Stmt:=top 22
abbrev s__law_names:Stmt:=top 24
abbrev s__law_wings:Stmt:=top 25
abbrev s_law:Stmt:=top 30
structure Txt (K:PySem.W.Frag) (mg:Str→Option Value) (ca:Nat→V):Prop where
 n_ValueError:mg "ValueError"=none
 n_dict:mg "dict"=none
 n_int:mg "int"=none
 n_isinstance:mg "isinstance"=none
 n_len:mg "len"=none
 n_list:mg "list"=none
 n_range:mg "range"=none
 n_reversed:mg "reversed"=none
 n_set:mg "set"=none
 o_House_doors:FldK K "House" "doors"
 o_House_grants:FldK K "House" "grants"
 o_House_wings:FldK K "House" "wings"
 f_ring:∀ c∈(["Ring"]:List Str),FldX K c "ring"
 m_SmithError_Ring:MatchX K "SmithError" "Ring"
 m_SmithError_Shared:MatchX K "SmithError" "Shared"
 m_SmithError_Twice:MatchX K "SmithError" "Twice"
 m_SmithError_Unknown:MatchX K "SmithError" "Unknown"
 v_NoRow:IsC K mg "NoRow" (ca 6)
 v_Ring:IsC K mg "Ring" (ca 0)
 v_Shared:IsC K mg "Shared" (ca 3)
 v_Steep:IsC K mg "Steep" (ca 7)
 v_Twice:IsC K mg "Twice" (ca 1)
 v_Unknown:IsC K mg "Unknown" (ca 2)
 v_ValueError:IsC K mg "ValueError" (ca 5)
 i_0:IsiX K [("Ring",true),("Shared",false),("Twice",false),("Unknown",false)] [ca 0]
 i_1:IsiX K [("Ring",true),("Shared",true),("Twice",true),("Unknown",true)] [ca 5]
 i_2:IsiX K [("Ring",false),("Shared",true),("Twice",true),("Unknown",true)] [ca 6,ca 3,ca 7,ca 1,ca 2]
section
variable {P:Program} {w:World} {K:PySem.W.Frag} {mg:Str→Option Value} {base:Heap} {ca:Nat→V}
theorem sc_copied:FnScope ["things"] ["things"] (defScope s_copied):=⟨rfl,rfl,rfl,by decide +kernel,rfl,by decide +kernel,by decide +kernel⟩
theorem ok_copied {f:Addr} {fd:FuncData} (F:Fun K "copied" "copied" s_copied f fd) (hm:mg "copied"=some (.ref f)) (T:Txt K mg ca)  :Fn P w K mg base 1 "copied" 1 m_copied:=
 fn_def (k:=0) F sc_copied hm (F.binds (ps:= ["things"]) fun _ _ _ _ _ _=>us1 fun _=>rfl) fun cdv A outer s H E hr=>
  (ss_one (s_ret (x_new (f_comp ["name","names"] ["things"] (by walk_at "compok") rfl (i_seq (x_var 0)) (fun C fp pins s H=>⟨(g_tup rfl (g_cons (g_name 0 (show List.Nodup (["name","names","things"]:List Str) by decide +kernel)) (g_cons (g_name 1 (show List.Nodup (["name","names","things"]:List Str) by decide +kernel)) g_nil))),t_nil,(x_tup (a_cons (x_var 0) (a_cons (x_new (f_listof T.n_list (p_var 1))) a_nil)))⟩)))))
theorem sc_House:FnScope ["self","rules","doors","wings","grants"] ["self","rules","doors","wings","grants"] (defScope s_House):=⟨rfl,rfl,rfl,by decide +kernel,rfl,by decide +kernel,by decide +kernel⟩
theorem ok_House {f C:Addr} {fd:FuncData} (F:Fun K "__init__" "House.__init__" s_House f fd) (M:Mk K C f) (hm:mg "House"=some (.ref C)) (hc:PySem.W.nsIn K mainGlobals "House"=some (some (.ref C))) (cl:Cls K C) (na_rules:NoAttr K C "rules") (na_doors:NoAttr K C "doors") (na_wings:NoAttr K C "wings") (na_grants:NoAttr K C "grants") (T:Txt K mg ca) (F_copied:Fn P w K mg base 1 "copied" 1 m_copied):FnI P w K mg base 3 "House" 4 4 fs_House:=
 fn_init (k:=1) F sc_House M hm hc (F.binds (ps:= ["self","rules","doors","wings","grants"]) fun _ _ _ _ _ _=>us5 fun _ _ _ _ _=>rfl) fun cdv A outer s H E hr=>
  (in_cons cl na_rules (x_var 1)
  (in_cons cl na_doors (x_new (f_listof T.n_list (p_var 2)))
  (in_cons cl na_wings (x_call (F_copied.mono (by decide)) hr (a_cons (x_var 3) a_nil))
  (in_cons cl na_grants (x_call (F_copied.mono (by decide)) hr (a_cons (x_var 4) a_nil))
  in_nil))))
theorem sc_Ring:FnScope ["self","ring"] ["self","ring"] (defScope s_Ring):=⟨rfl,rfl,rfl,by decide +kernel,rfl,by decide +kernel,by decide +kernel⟩
theorem ok_Ring {f C S:Addr} {fd:FuncData} (F:Fun K "__init__" "Ring.__init__" s_Ring f fd) (Z:XInit K C S f) (hm:mg "Ring"=some (.ref C)) (hc:PySem.W.nsIn K mainGlobals "Ring"=some (some (.ref C))) (hS:mg "SmithError"=some (.ref S)) (na_ring:PySem.W.findIn K (.ref C) "ring"=some none) (hl:mg "list"=none):FnR P w K mg base 2 "Ring" "ring":=
 fn_excR (k:=0) F sc_Ring Z hm hc (F.binds (ps:= ["self","ring"]) fun _ _ _ _ _ _=>us2 fun _ _=>rfl) fun cdv A outer s H E hr=>in_exL Z hS na_ring hr hl
theorem sc_names_of:FnScope ["things"] ["things"] (defScope s_names_of):=⟨rfl,rfl,rfl,by decide +kernel,rfl,by decide +kernel,by decide +kernel⟩
theorem ok_names_of {f:Addr} {fd:FuncData} (F:Fun K "names_of" "names_of" s_names_of f fd) (hm:mg "names_of"=some (.ref f)) (T:Txt K mg ca)  :Fn P w K mg base 1 "names_of" 1 m_names_of:=
 fn_def (k:=0) F sc_names_of hm (F.binds (ps:= ["things"]) fun _ _ _ _ _ _=>us1 fun _=>rfl) fun cdv A outer s H E hr=>
  (ss_one (s_ret (x_new (f_comp ["name","names"] ["things"] (by walk_at "compok") rfl (i_seq (x_var 0)) (fun C fp pins s H=>⟨(g_tup rfl (g_cons (g_name 0 (show List.Nodup (["name","names","things"]:List Str) by decide +kernel)) (g_cons (g_name 1 (show List.Nodup (["name","names","things"]:List Str) by decide +kernel)) g_nil))),t_nil,(x_var 0)⟩)))))
theorem sc_ring_above:FnScope ["above","name","path","higher"] ["above","name"] (defScope s_ring_above):=⟨rfl,rfl,rfl,by decide +kernel,rfl,by decide +kernel,by decide +kernel⟩
theorem ok_ring_above {f:Addr} {fd:FuncData} (F:Fun K "ring_above" "ring_above" s_ring_above f fd) (hm:mg "ring_above"=some (.ref f)) (T:Txt K mg ca)  :Fn P w K mg base 1 "ring_above" 2 m_ring_above:=
 fn_def (k:=0) F sc_ring_above hm (F.binds (ps:= ["above","name"]) fun _ _ _ _ _ _=>us2 fun _ _=>rfl) fun cdv A outer s H E hr=>
  (ss_cons (s_own 2 sc_ring_above.nd (f_lst (a_cons (x_var 1) a_nil)))
  (ss_cons (s_while 100000 PassesOwn.never (y_inQ (p_of (x_ix (p_var 2) (p_of (x_neg (p_of x_int))))) (q_var 0)) (ss_cons (s_set 3 sc_ring_above.nd (x_dget (q_var 0) (p_of (x_ix (p_var 2) (p_of (x_neg (p_of x_int)))))))
  (ss_cons (s_if (y_in (p_var 3) (p_var 2)) (ss_one (s_ret (x_new (f_listRev rfl T.n_list T.n_reversed (p_of (x_new (f_slL (p_var 2) (o_some (x_index (p_var 2) (a_cons (x_var 3) a_nil))) o_none))))))) ss_nil)
  (ss_one (s_append 2 (x_var 3))))))
  (ss_one (s_ret x_non))))
theorem sc_refuse_ring:FnScope ["house","above","name","members","member","ring"] ["house"] (defScope s_refuse_ring):=⟨rfl,rfl,rfl,by decide +kernel,rfl,by decide +kernel,by decide +kernel⟩
theorem ok_refuse_ring {f:Addr} {fd:FuncData} (F:Fun K "refuse_ring" "refuse_ring" s_refuse_ring f fd) (hm:mg "refuse_ring"=some (.ref f)) (T:Txt K mg ca) (F_Ring:FnR P w K mg base 2 "Ring" "ring") (F_names_of:Fn P w K mg base 1 "names_of" 1 m_names_of) (F_ring_above:Fn P w K mg base 1 "ring_above" 2 m_ring_above):FnX P w K mg base 3 "refuse_ring" 1 m_refuse_ring:=
 fn_defX (k:=2) F sc_refuse_ring hm (F.binds (ps:= ["house"]) fun _ _ _ _ _ _=>us1 fun _=>rfl) fun cdv A outer s H E hr=>
  (ss_cons (s_nox (s_ownQ 1 sc_refuse_ring.nd))
  (ss_cons (s_nox (s_for PassesOwn.never rfl (i_seq (x_fld T.o_House_wings (x_var 0))) (g_tup rfl (g_cons (g_name 2 sc_refuse_ring.nd) (g_cons (g_name 3 sc_refuse_ring.nd) g_nil))) (ss_one (s_for PassesOwn.never rfl (i_seq (x_var 3)) (g_name 4 sc_refuse_ring.nd) (ss_one (s_puti 1 (x_var 2) (x_var 4)))))))
  (ss_one (s_for PassesOwn.leaving rfl (i_nox (i_seq (x_call (F_names_of.mono (by decide)) hr (a_cons (x_fld T.o_House_wings (x_var 0)) a_nil)))) (g_name 2 sc_refuse_ring.nd) (ss_cons (s_nox (s_frz 1 (s_set 5 sc_refuse_ring.nd (x_call (F_ring_above.mono (by decide)) hr (a_cons (x_var 1) (a_cons (x_var 2) a_nil))))))
  (ss_one (s_if (y_nox (y_notN (p_var 5))) (ss_one (s_raiseR (F_Ring.mono (by decide)) hr raise_own rfl (a_nox (a_cons (x_var 5) a_nil)))) ss_nil)))))))
theorem sc_Twice:FnScope ["self","name"] ["self","name"] (defScope s_Twice):=⟨rfl,rfl,rfl,by decide +kernel,rfl,by decide +kernel,by decide +kernel⟩
theorem ok_Twice {f C S:Addr} {fd:FuncData} (F:Fun K "__init__" "Twice.__init__" s_Twice f fd) (Z:XInit K C S f) (hm:mg "Twice"=some (.ref C)) (hc:PySem.W.nsIn K mainGlobals "Twice"=some (some (.ref C))) (hS:mg "SmithError"=some (.ref S)) (na_name:PySem.W.findIn K (.ref C) "name"=some none):FnG P w K mg base 2 "Twice" [("name",false)]:=
 fn_excG (k:=0) F sc_Twice Z hm hc (F.binds (ps:= ["self","name"]) fun _ _ _ _ _ _=>us2 fun _ _=>rfl) fun cdv A outer s H E hr=>in_ex1 Z hS na_name (pj_text (pj_repr 1 pj_nil rfl (by first|exact Or.inl rfl|exact Or.inr (Or.inl rfl)|exact Or.inr (Or.inr rfl)))) (fun σ v1 h1 s1=>⟨hp_rep h1 s1,trivial⟩)
theorem sc_refuse_twice:FnScope ["house","seen","name"] ["house"] (defScope s_refuse_twice):=⟨rfl,rfl,rfl,by decide +kernel,rfl,by decide +kernel,by decide +kernel⟩
theorem ok_refuse_twice {f:Addr} {fd:FuncData} (F:Fun K "refuse_twice" "refuse_twice" s_refuse_twice f fd) (hm:mg "refuse_twice"=some (.ref f)) (T:Txt K mg ca) (F_Twice:FnG P w K mg base 2 "Twice" [("name",false)]) (F_names_of:Fn P w K mg base 1 "names_of" 1 m_names_of):FnX P w K mg base 3 "refuse_twice" 1 m_refuse_twice:=
 fn_defX (k:=2) F sc_refuse_twice hm (F.binds (ps:= ["house"]) fun _ _ _ _ _ _=>us1 fun _=>rfl) fun cdv A outer s H E hr=>
  (ss_cons (s_nox (s_ownQ 1 sc_refuse_twice.nd))
  (ss_one (s_for PassesOwn.leaving rfl (i_nox (i_seq (x_new (f_cat (p_of (x_new (f_cat (p_of (x_fld T.o_House_doors (x_var 0))) (p_of (x_call (F_names_of.mono (by decide)) hr (a_cons (x_fld T.o_House_wings (x_var 0)) a_nil)))))) (p_of (x_call (F_names_of.mono (by decide)) hr (a_cons (x_fld T.o_House_grants (x_var 0)) a_nil))))))) (g_name 2 sc_refuse_twice.nd) (ss_cons (s_if (y_nox (y_inQ (p_var 2) (q_var 1))) (ss_one (s_raiseG (F_Twice.mono (by decide)) hr raise_own rfl (a_nox (a_cons (x_var 2) a_nil)))) ss_nil)
  (ss_one (s_nox (s_puti 1 x_bl (x_var 2))))))))
theorem sc_Shared:FnScope ["self","name"] ["self","name"] (defScope s_Shared):=⟨rfl,rfl,rfl,by decide +kernel,rfl,by decide +kernel,by decide +kernel⟩
theorem ok_Shared {f C S:Addr} {fd:FuncData} (F:Fun K "__init__" "Shared.__init__" s_Shared f fd) (Z:XInit K C S f) (hm:mg "Shared"=some (.ref C)) (hc:PySem.W.nsIn K mainGlobals "Shared"=some (some (.ref C))) (hS:mg "SmithError"=some (.ref S)) (na_name:PySem.W.findIn K (.ref C) "name"=some none):FnG P w K mg base 2 "Shared" [("name",false)]:=
 fn_excG (k:=0) F sc_Shared Z hm hc (F.binds (ps:= ["self","name"]) fun _ _ _ _ _ _=>us2 fun _ _=>rfl) fun cdv A outer s H E hr=>in_ex1 Z hS na_name (pj_text (pj_repr 1 (pj_text pj_nil) rfl (by first|exact Or.inl rfl|exact Or.inr (Or.inl rfl)|exact Or.inr (Or.inr rfl)))) (fun σ v1 h1 s1=>⟨hp_rep h1 s1,trivial⟩)
theorem sc_Unknown:FnScope ["self","name"] ["self","name"] (defScope s_Unknown):=⟨rfl,rfl,rfl,by decide +kernel,rfl,by decide +kernel,by decide +kernel⟩
theorem ok_Unknown {f C S:Addr} {fd:FuncData} (F:Fun K "__init__" "Unknown.__init__" s_Unknown f fd) (Z:XInit K C S f) (hm:mg "Unknown"=some (.ref C)) (hc:PySem.W.nsIn K mainGlobals "Unknown"=some (some (.ref C))) (hS:mg "SmithError"=some (.ref S)) (na_name:PySem.W.findIn K (.ref C) "name"=some none):FnG P w K mg base 2 "Unknown" [("name",false)]:=
 fn_excG (k:=0) F sc_Unknown Z hm hc (F.binds (ps:= ["self","name"]) fun _ _ _ _ _ _=>us2 fun _ _=>rfl) fun cdv A outer s H E hr=>in_ex1 Z hS na_name (pj_repr 1 (pj_text pj_nil) rfl (by first|exact Or.inl rfl|exact Or.inr (Or.inl rfl)|exact Or.inr (Or.inr rfl))) (fun σ v1 h1 s1=>⟨hp_rep h1 s1,trivial⟩)
theorem sc_refuse_unknown:FnScope ["known","taken","names","name"] ["known","taken","names"] (defScope s_refuse_unknown):=⟨rfl,rfl,rfl,by decide +kernel,rfl,by decide +kernel,by decide +kernel⟩
theorem ok_refuse_unknown {f:Addr} {fd:FuncData} (F:Fun K "refuse_unknown" "refuse_unknown" s_refuse_unknown f fd) (hm:mg "refuse_unknown"=some (.ref f)) (T:Txt K mg ca) (F_Shared:FnG P w K mg base 2 "Shared" [("name",false)]) (F_Unknown:FnG P w K mg base 2 "Unknown" [("name",false)]):FnX P w K mg base 3 "refuse_unknown" 3 m_refuse_unknown:=
 fn_defX (k:=2) F sc_refuse_unknown hm (F.binds (ps:= ["known","taken","names"]) fun _ _ _ _ _ _=>us3 fun _ _ _=>rfl) fun cdv A outer s H E hr=>
  (ss_one (s_for PassesOwn.leaving rfl (i_nox (i_seq (x_var 2))) (g_name 3 sc_refuse_unknown.nd) (ss_cons (s_if (y_nox (y_nin (p_var 3) (p_var 0))) (ss_one (s_raiseG (F_Unknown.mono (by decide)) hr raise_own rfl (a_nox (a_cons (x_var 3) a_nil)))) ss_nil)
  (ss_one (s_if (y_nox (y_in (p_var 3) (p_var 1))) (ss_one (s_raiseG (F_Shared.mono (by decide)) hr raise_own rfl (a_nox (a_cons (x_var 3) a_nil)))) ss_nil)))))
theorem sc_refuse_unknown_and_shared:FnScope ["house","wings","known","taken","name","members","opened"] ["house"] (defScope s_refuse_unknown_and_shared):=⟨rfl,rfl,rfl,by decide +kernel,rfl,by decide +kernel,by decide +kernel⟩
theorem ok_refuse_unknown_and_shared {f:Addr} {fd:FuncData} (F:Fun K "refuse_unknown_and_shared" "refuse_unknown_and_shared" s_refuse_unknown_and_shared f fd) (hm:mg "refuse_unknown_and_shared"=some (.ref f)) (T:Txt K mg ca) (F_names_of:Fn P w K mg base 1 "names_of" 1 m_names_of) (F_refuse_unknown:FnX P w K mg base 3 "refuse_unknown" 3 m_refuse_unknown):FnX P w K mg base 4 "refuse_unknown_and_shared" 1 m_refuse_unknown_and_shared:=
 fn_defX (k:=3) F sc_refuse_unknown_and_shared hm (F.binds (ps:= ["house"]) fun _ _ _ _ _ _=>us1 fun _=>rfl) fun cdv A outer s H E hr=>
  (ss_cons (s_nox (s_set 1 sc_refuse_unknown_and_shared.nd (x_call (F_names_of.mono (by decide)) hr (a_cons (x_fld T.o_House_wings (x_var 0)) a_nil))))
  (ss_cons (s_nox (s_set 2 sc_refuse_unknown_and_shared.nd (x_new (f_cat (p_of (x_fld T.o_House_doors (x_var 0))) (p_var 1)))))
  (ss_cons (s_nox (s_own 3 sc_refuse_unknown_and_shared.nd (f_lst a_nil)))
  (ss_cons (s_for PassesOwn.leaving rfl (i_nox (i_seq (x_fld T.o_House_wings (x_var 0)))) (g_tup rfl (g_cons (g_name 4 sc_refuse_unknown_and_shared.nd) (g_cons (g_name 5 sc_refuse_unknown_and_shared.nd) g_nil))) (ss_cons (s_expr (x_lentX (F_refuse_unknown.mono (by decide)) pass_def hr (l_nox (l_cons (p_var 2) (l_cons (p_var 3) (l_cons (p_var 5) l_nil))))))
  (ss_one (s_nox (s_ext 3 (f_comp ["member"] ["house","wings","known","taken","name","members","opened"] (by walk_at "compok") rfl (i_seq (x_var 5)) (fun C fp pins s H=>⟨(g_name 0 (show List.Nodup (["member","house","wings","known","taken","name","members","opened"]:List Str) by decide +kernel)),(t_one (y_in (p_var 0) (p_var 2))),(x_var 0)⟩)))))))
  (ss_one (s_for PassesOwn.leaving rfl (i_nox (i_seq (x_fld T.o_House_grants (x_var 0)))) (g_tup rfl (g_cons (g_name 4 sc_refuse_unknown_and_shared.nd) (g_cons (g_name 6 sc_refuse_unknown_and_shared.nd) g_nil))) (ss_one (s_expr (x_callX (F_refuse_unknown.mono (by decide)) pass_def hr (a_nox (a_cons (x_var 2) (a_cons (x_new (f_lst a_nil)) (a_cons (x_var 6) a_nil)))))))))))))
theorem sc_look_at:FnScope ["house"] ["house"] (defScope s_look_at):=⟨rfl,rfl,rfl,by decide +kernel,rfl,by decide +kernel,by decide +kernel⟩
theorem ok_look_at {f:Addr} {fd:FuncData} (F:Fun K "look_at" "look_at" s_look_at f fd) (hm:mg "look_at"=some (.ref f)) (T:Txt K mg ca) (F_refuse_ring:FnX P w K mg base 3 "refuse_ring" 1 m_refuse_ring) (F_refuse_twice:FnX P w K mg base 3 "refuse_twice" 1 m_refuse_twice) (F_refuse_unknown_and_shared:FnX P w K mg base 4 "refuse_unknown_and_shared" 1 m_refuse_unknown_and_shared):FnX P w K mg base 5 "look_at" 1 m_look_at:=
 fn_defX (k:=4) F sc_look_at hm (F.binds (ps:= ["house"]) fun _ _ _ _ _ _=>us1 fun _=>rfl) fun cdv A outer s H E hr=>
  (ss_cons (s_expr (x_callX (F_refuse_twice.mono (by decide)) pass_def hr (a_nox (a_cons (x_var 0) a_nil))))
  (ss_cons (s_expr (x_callX (F_refuse_unknown_and_shared.mono (by decide)) pass_def hr (a_nox (a_cons (x_var 0) a_nil))))
  (ss_one (s_expr (x_callX (F_refuse_ring.mono (by decide)) pass_def hr (a_nox (a_cons (x_var 0) a_nil)))))))
theorem sc__law_asked:FnScope ["_law_door","_law_key","_law_wings_here","_law_caught","_law_found","e"] ["_law_door","_law_key","_law_wings_here"] (defScope s__law_asked):=⟨rfl,rfl,rfl,by decide +kernel,rfl,by decide +kernel,by decide +kernel⟩
theorem ok__law_asked {f:Addr} {fd:FuncData} (F:Fun K "_law_asked" "_law_asked" s__law_asked f fd) (hm:mg "_law_asked"=some (.ref f)) (T:Txt K mg ca) (F_House:FnI P w K mg base 3 "House" 4 4 fs_House) (F_Ring:FnR P w K mg base 2 "Ring" "ring") (F_look_at:FnX P w K mg base 5 "look_at" 1 m_look_at):Fn P w K mg base 6 "_law_asked" 3 m__law_asked:=
 fn_def (k:=5) F sc__law_asked hm (F.binds (ps:= ["_law_door","_law_key","_law_wings_here"]) fun _ _ _ _ _ _=>us3 fun _ _ _=>rfl) fun cdv A outer s H E hr=>
  (ss_cons (s_set 3 sc__law_asked.nd x_non)
  (ss_cons (s_set 4 sc__law_asked.nd x_non)
  (ss_cons (s_tryAs 5 ["Ring","Shared","Twice","Unknown"] (F_look_at.mono (by decide)) (List.forall_mem_cons.mpr ⟨T.m_SmithError_Ring,List.forall_mem_cons.mpr ⟨T.m_SmithError_Shared,List.forall_mem_cons.mpr ⟨T.m_SmithError_Twice,List.forall_mem_cons.mpr ⟨T.m_SmithError_Unknown,List.forall_mem_nil _⟩⟩⟩⟩) sc__law_asked.nd hr (a_cons (x_make (F_House.mono (by decide)) hr (a_cons (x_tup (a_cons x_int (a_cons x_int (a_cons x_int (a_cons x_int a_nil))))) (a_cons (x_new (f_lst (a_cons (x_var 0) a_nil))) (a_cons (x_var 2) (a_cons (x_new (f_lst (a_cons (x_tup (a_cons (x_var 1) (a_cons (x_new (f_lst (a_cons (x_var 0) a_nil))) a_nil))) a_nil))) a_nil))))) a_nil) (kd_set 4 sc__law_asked.nd) ss_nil (fun _=>(ss_one (s_set 3 sc__law_asked.nd (x_var 5)))))
  (ss_cons (s_if (y_isN (p_var 3)) (ss_one (s_ret (x_var 4))) ss_nil)
  (ss_cons (s_if (y_w (w_or (y_not (y_val (x_isiX1 T.i_0 T.n_isinstance (p_var 3) (c_name T.v_Ring)))) (w_or1 (y_not (y_val (x_isiX1 T.i_1 T.n_isinstance (p_var 3) (c_name T.v_ValueError))))))) (ss_one (s_ret x_str)) ss_nil)
  (ss_cons (s_if (y_val (x_isiX T.i_2 T.n_isinstance (p_var 3) (cs_cons (c_name T.v_NoRow) (cs_cons (c_name T.v_Shared) (cs_cons (c_name T.v_Steep) (cs_cons (c_name T.v_Twice) (cs_cons (c_name T.v_Unknown) cs_nil))))))) (ss_one (s_ret x_str)) ss_nil)
  (ss_one (s_ret (x_exf T.f_ring (x_var 3))))))))))
theorem sc__law_cut:FnScope ["_law_wings_here","_law_name_here"] ["_law_wings_here","_law_name_here"] (defScope s__law_cut):=⟨rfl,rfl,rfl,by decide +kernel,rfl,by decide +kernel,by decide +kernel⟩
theorem ok__law_cut {f:Addr} {fd:FuncData} (F:Fun K "_law_cut" "_law_cut" s__law_cut f fd) (hm:mg "_law_cut"=some (.ref f)) (T:Txt K mg ca)  :Fn P w K mg base 1 "_law_cut" 2 m__law_cut:=
 fn_def (k:=0) F sc__law_cut hm (F.binds (ps:= ["_law_wings_here","_law_name_here"]) fun _ _ _ _ _ _=>us2 fun _ _=>rfl) fun cdv A outer s H E hr=>
  (ss_one (s_ret (x_new (f_comp ["_law_one","_law_members"] ["_law_wings_here","_law_name_here"] (by walk_at "compok") rfl (i_seq (x_var 0)) (fun C fp pins s H=>⟨(g_tup rfl (g_cons (g_name 0 (show List.Nodup (["_law_one","_law_members","_law_wings_here","_law_name_here"]:List Str) by decide +kernel)) (g_cons (g_name 1 (show List.Nodup (["_law_one","_law_members","_law_wings_here","_law_name_here"]:List Str) by decide +kernel)) g_nil))),t_nil,(x_tup (a_cons (x_var 0) (a_cons (x_new (f_comp ["_law_member"] ["_law_one","_law_members","_law_wings_here","_law_name_here"] (by walk_at "compok") rfl (i_seq (x_var 1)) (fun C fp pins s H=>⟨(g_name 0 (show List.Nodup (["_law_member","_law_one","_law_members","_law_wings_here","_law_name_here"]:List Str) by decide +kernel)),(t_one (y_cmp (c_ne (hu40 hr)) (p_var 0) (p_var 4))),(x_var 0)⟩))) a_nil)))⟩)))))
theorem sc__law_good_ring:FnScope ["_law_ring","_law_wings_here","_law_inner","_law_k"] ["_law_ring","_law_wings_here"] (defScope s__law_good_ring):=⟨rfl,rfl,rfl,by decide +kernel,rfl,by decide +kernel,by decide +kernel⟩
theorem ok__law_good_ring {f:Addr} {fd:FuncData} (F:Fun K "_law_good_ring" "_law_good_ring" s__law_good_ring f fd) (hm:mg "_law_good_ring"=some (.ref f)) (T:Txt K mg ca)  :Fn P w K mg base 1 "_law_good_ring" 2 m__law_good_ring:=
 fn_def (k:=0) F sc__law_good_ring hm (F.binds (ps:= ["_law_ring","_law_wings_here"]) fun _ _ _ _ _ _=>us2 fun _ _=>rfl) fun cdv A outer s H E hr=>
  (ss_cons (s_if (y_w (w_or (y_not (y_val (x_isi isi_list (by decide +kernel) T.n_isinstance T.n_list (p_var 0)))) (w_or (y_cmp (c_eq (hu40 hr)) (p_var 0) (p_of (x_new (f_lst a_nil)))) (w_or1 (y_cmp (c_ne (hu40 hr)) (p_of (x_lensetT rfl T.n_len T.n_set (p_var 0))) (p_of (x_len T.n_len (p_var 0)))))))) (ss_one (s_ret x_bl)) ss_nil)
  (ss_cons (s_set 2 sc__law_good_ring.nd (x_dictL rfl T.n_dict (p_var 1)))
  (ss_cons (s_for PassesOwn.never rfl (i_range1 T.n_range (a_cons (x_len T.n_len (p_var 0)) a_nil)) (g_name 3 sc__law_good_ring.nd) (ss_one (s_if (y_w (w_or (y_ninQ (p_of (x_ix (p_var 0) (p_var 3))) (q_var 2)) (w_or1 (y_nin (p_of (x_ix (p_var 0) (p_of (x_mod (p_of (x_add (p_var 3) (p_of x_int))) (p_of (x_len T.n_len (p_var 0))))))) (p_of (x_dget (q_var 2) (p_of (x_ix (p_var 0) (p_var 3))))))))) (ss_one (s_ret x_bl)) ss_nil)))
  (ss_one (s_ret x_bl)))))
theorem sc__law_has_ring:FnScope ["_law_door","_law_wings_here","_law_within","_law_name_here","_law_members","_law_member","_law_here","_law_step"] ["_law_door","_law_wings_here"] (defScope s__law_has_ring):=⟨rfl,rfl,rfl,by decide +kernel,rfl,by decide +kernel,by decide +kernel⟩
theorem ok__law_has_ring {f:Addr} {fd:FuncData} (F:Fun K "_law_has_ring" "_law_has_ring" s__law_has_ring f fd) (hm:mg "_law_has_ring"=some (.ref f)) (T:Txt K mg ca)  :Fn P w K mg base 1 "_law_has_ring" 2 m__law_has_ring:=
 fn_def (k:=0) F sc__law_has_ring hm (F.binds (ps:= ["_law_door","_law_wings_here"]) fun _ _ _ _ _ _=>us2 fun _ _=>rfl) fun cdv A outer s H E hr=>
  (ss_cons (s_ownQ 2 sc__law_has_ring.nd)
  (ss_cons (s_for PassesOwn.never rfl (i_seq (x_var 1)) (g_tup rfl (g_cons (g_name 3 sc__law_has_ring.nd) (g_cons (g_name 4 sc__law_has_ring.nd) g_nil))) (ss_one (s_for PassesOwn.never rfl (i_seq (x_var 4)) (g_name 5 sc__law_has_ring.nd) (ss_one (s_if (y_cmp (c_ne (hu40 hr)) (p_var 5) (p_var 0)) (ss_one (s_puti 2 (x_var 3) (x_var 5))) ss_nil)))))
  (ss_cons (s_for PassesOwn.never rfl (i_seq (x_var 1)) (g_tup rfl (g_cons (g_name 3 sc__law_has_ring.nd) (g_cons (g_name 4 sc__law_has_ring.nd) g_nil))) (ss_cons (s_set 6 sc__law_has_ring.nd (x_get1 (q_var 2) (a_cons (x_var 3) a_nil)))
  (ss_one (s_for PassesOwn.never rfl (i_range1 T.n_range (a_cons (x_len T.n_len (p_var 1)) a_nil)) (g_name 7 sc__law_has_ring.nd) (ss_cons (s_if (y_cmp (c_eq (hu40 hr)) (p_var 6) (p_var 3)) (ss_one (s_ret x_bl)) ss_nil)
  (ss_one (s_set 6 sc__law_has_ring.nd (x_get1 (q_var 2) (a_cons (x_var 6) a_nil)))))))))
  (ss_one (s_ret x_bl)))))
theorem sc__law_cell_at:FnScope ["_law_script","_law_k"] ["_law_script","_law_k"] (defScope s__law_cell_at):=⟨rfl,rfl,rfl,by decide +kernel,rfl,by decide +kernel,by decide +kernel⟩
theorem ok__law_cell_at {f:Addr} {fd:FuncData} (F:Fun K "_law_cell_at" "_law_cell_at" s__law_cell_at f fd) (hm:mg "_law_cell_at"=some (.ref f)) (T:Txt K mg ca)  :Fn P w K mg base 1 "_law_cell_at" 2 m__law_cell_at:=
 fn_def (k:=0) F sc__law_cell_at hm (F.binds (ps:= ["_law_script","_law_k"]) fun _ _ _ _ _ _=>us2 fun _ _=>rfl) fun cdv A outer s H E hr=>
  (ss_cons (s_if (y_cmp c_lt (p_var 1) (p_of (x_len T.n_len (p_var 0)))) (ss_one (s_ret (x_ix (p_var 0) (p_var 1)))) ss_nil)
  (ss_one (s_ret x_int)))
theorem sc__law_mixed:FnScope ["_law_cell","_law_k","_law_number"] ["_law_cell","_law_k"] (defScope s__law_mixed):=⟨rfl,rfl,rfl,by decide +kernel,rfl,by decide +kernel,by decide +kernel⟩
theorem ok__law_mixed {f:Addr} {fd:FuncData} (F:Fun K "_law_mixed" "_law_mixed" s__law_mixed f fd) (hm:mg "_law_mixed"=some (.ref f)) (T:Txt K mg ca)  :Fn P w K mg base 1 "_law_mixed" 2 m__law_mixed:=
 fn_def (k:=0) F sc__law_mixed hm (F.binds (ps:= ["_law_cell","_law_k"]) fun _ _ _ _ _ _=>us2 fun _ _=>rfl) fun cdv A outer s H E hr=>
  (ss_cons (s_set 2 sc__law_mixed.nd (x_mod (p_of (x_mulE (p_of (x_add (p_of (x_mod (p_var 0) (p_of x_int))) (p_of x_int))) (p_of (x_add (p_of x_int) (p_of (x_mulE (p_of x_int) (p_var 1))))))) (p_of x_int)))
  (ss_one (s_ret (x_mod (p_of (x_mulE (p_var 2) (p_var 2))) (p_of x_int)))))
theorem sc__law_name:FnScope ["_law_cell","_law_number","_law_word","_law_k"] ["_law_cell"] (defScope s__law_name):=⟨rfl,rfl,rfl,by decide +kernel,rfl,by decide +kernel,by decide +kernel⟩
theorem ok__law_name {f:Addr} {fd:FuncData} (F:Fun K "_law_name" "_law_name" s__law_name f fd) (hm:mg "_law_name"=some (.ref f)) (T:Txt K mg ca)  :Fn P w K mg base 1 "_law_name" 1 m__law_name:=
 fn_def (k:=0) F sc__law_name hm (F.binds (ps:= ["_law_cell"]) fun _ _ _ _ _ _=>us1 fun _=>rfl) fun cdv A outer s H E hr=>
  (ss_cons (s_set 1 sc__law_name.nd (x_mod (p_of (x_fdiv (p_var 0) (p_of x_int))) (p_of (x_pow (p_of x_int) (p_of x_int)))))
  (ss_cons (s_set 2 sc__law_name.nd x_str)
  (ss_cons (s_for PassesOwn.never rfl (i_range1 T.n_range (a_cons (x_add (p_of x_int) (p_of (x_mod (p_var 0) (p_of x_int)))) a_nil)) (g_name 3 sc__law_name.nd) (ss_cons (s_set 2 sc__law_name.nd (x_add (p_var 2) (p_of (x_ix (p_of x_str) (p_of (x_mod (p_var 1) (p_of x_int)))))))
  (ss_one (s_set 1 sc__law_name.nd (x_fdiv (p_var 1) (p_of x_int))))))
  (ss_one (s_ret (x_var 2))))))
theorem sc__law_open:FnScope ["_law_word"] ["_law_word"] (defScope s__law_open):=⟨rfl,rfl,rfl,by decide +kernel,rfl,by decide +kernel,by decide +kernel⟩
theorem ok__law_open {f:Addr} {fd:FuncData} (F:Fun K "_law_open" "_law_open" s__law_open f fd) (hm:mg "_law_open"=some (.ref f)) (T:Txt K mg ca)  :Fn P w K mg base 1 "_law_open" 1 m__law_open:=
 fn_def (k:=0) F sc__law_open hm (F.binds (ps:= ["_law_word"]) fun _ _ _ _ _ _=>us1 fun _=>rfl) fun cdv A outer s H E hr=>
  (ss_cons (s_if (y_in (p_var 0) (p_of (x_new (f_lst (a_cons x_str (a_cons x_str (a_cons x_str (a_cons x_str (a_cons x_str a_nil))))))))) (ss_one (s_ret (x_add (p_var 0) (p_of x_str)))) ss_nil)
  (ss_one (s_ret (x_var 0))))
theorem sc__law_names:FnScope ["_law_cell","_law_many","_law_word","_law_place","_law_some","_law_names_here","_law_k","_law_inner"] ["_law_cell","_law_many"] (defScope s__law_names):=⟨rfl,rfl,rfl,by decide +kernel,rfl,by decide +kernel,by decide +kernel⟩
theorem ok__law_names {f:Addr} {fd:FuncData} (F:Fun K "_law_names" "_law_names" s__law_names f fd) (hm:mg "_law_names"=some (.ref f)) (T:Txt K mg ca) (F__law_name:Fn P w K mg base 1 "_law_name" 1 m__law_name) (F__law_open:Fn P w K mg base 1 "_law_open" 1 m__law_open):Fn P w K mg base 2 "_law_names" 2 m__law_names:=
 fn_def (k:=1) F sc__law_names hm (F.binds (ps:= ["_law_cell","_law_many"]) fun _ _ _ _ _ _=>us2 fun _ _=>rfl) fun cdv A outer s H E hr=>
  (ss_cons (s_set 2 sc__law_names.nd (x_call (F__law_name.mono (by decide)) hr (a_cons (x_var 0) a_nil)))
  (ss_cons (s_set 3 sc__law_names.nd (x_mod (p_of (x_fdiv (p_var 0) (p_of x_int))) (p_of (x_add (p_of (x_len T.n_len (p_var 2))) (p_of x_int)))))
  (ss_cons (s_set 4 sc__law_names.nd (x_ix (p_of (x_new (f_lst (a_cons x_str (a_cons x_str (a_cons x_str a_nil)))))) (p_of (x_mod (p_of (x_fdiv (p_var 0) (p_of x_int))) (p_of x_int)))))
  (ss_cons (s_own 5 sc__law_names.nd (f_lst a_nil))
  (ss_cons (s_for PassesOwn.never rfl (i_range1 T.n_range (a_cons (x_var 1) a_nil)) (g_name 6 sc__law_names.nd) (ss_cons (s_set 7 sc__law_names.nd (x_add (p_of (x_ix (p_var 4) (p_of (x_mod (p_var 6) (p_of x_int))))) (p_of (x_ix (p_var 4) (p_of (x_mod (p_of (x_fdiv (p_var 6) (p_of x_int))) (p_of x_int)))))))
  (ss_one (s_append 5 (x_call (F__law_open.mono (by decide)) hr (a_cons (x_add (p_of (x_add (p_of (x_slS (p_var 2) o_none (o_some (x_var 3)))) (p_var 7))) (p_of (x_slS (p_var 2) (o_some (x_var 3)) o_none))) a_nil))))))
  (ss_one (s_retV 5)))))))
theorem sc__law_wings:FnScope ["_law_script","_law_names_here","_law_cells","_law_lined","_law_wings_here","_law_taken","_law_k","_law_one","_law_members","_law_aim","_law_mine"] ["_law_script"] (defScope s__law_wings):=⟨rfl,rfl,rfl,by decide +kernel,rfl,by decide +kernel,by decide +kernel⟩
theorem ok__law_wings {f:Addr} {fd:FuncData} (F:Fun K "_law_wings" "_law_wings" s__law_wings f fd) (hm:mg "_law_wings"=some (.ref f)) (T:Txt K mg ca) (F__law_cell_at:Fn P w K mg base 1 "_law_cell_at" 2 m__law_cell_at) (F__law_mixed:Fn P w K mg base 1 "_law_mixed" 2 m__law_mixed) (F__law_names:Fn P w K mg base 2 "_law_names" 2 m__law_names):Fn P w K mg base 3 "_law_wings" 1 m__law_wings:=
 fn_def (k:=2) F sc__law_wings hm (F.binds (ps:= ["_law_script"]) fun _ _ _ _ _ _=>us1 fun _=>rfl) fun cdv A outer s H E hr=>
  (ss_cons (s_set 1 sc__law_wings.nd (x_call (F__law_names.mono (by decide)) hr (a_cons (x_call (F__law_mixed.mono (by decide)) hr (a_cons (x_call (F__law_cell_at.mono (by decide)) hr (a_cons (x_var 0) (a_cons x_int a_nil))) (a_cons x_int a_nil))) (a_cons x_int a_nil))))
  (ss_cons (s_set 2 sc__law_wings.nd (x_new (f_slL (p_var 0) (o_some x_int) (o_some x_int))))
  (ss_cons (s_set 3 sc__law_wings.nd (x_cmp (c_eq (hu40 hr)) (p_of (x_mod (p_of (x_call (F__law_cell_at.mono (by decide)) hr (a_cons (x_var 0) (a_cons x_int a_nil)))) (p_of x_int))) (p_of x_int)))
  (ss_cons (s_own 4 sc__law_wings.nd (f_lst a_nil))
  (ss_cons (s_ownQ 5 sc__law_wings.nd)
  (ss_cons (s_for PassesOwn.never rfl (i_range1 T.n_range (a_cons (x_len T.n_len (p_var 2)) a_nil)) (g_name 6 sc__law_wings.nd) (ss_cons (s_set 7 sc__law_wings.nd (x_call (F__law_mixed.mono (by decide)) hr (a_cons (x_ix (p_var 2) (p_var 6)) (a_cons (x_add (p_of x_int) (p_var 6)) a_nil))))
  (ss_cons (s_set 8 sc__law_wings.nd (x_new (f_lst (a_cons (x_ix (p_var 1) (p_of x_int)) a_nil))))
  (ss_cons (s_set 9 sc__law_wings.nd (x_ix (p_of (x_new (f_lst (a_cons (x_mod (p_var 7) (p_of (x_len T.n_len (p_var 2)))) (a_cons (x_mod (p_of (x_add (p_var 6) (p_of x_int))) (p_of (x_len T.n_len (p_var 2)))) a_nil))))) (p_of (x_intS T.n_int (p_var 3)))))
  (ss_cons (s_if (y_w (w_and (y_val (x_var 3)) (w_and1 (y_cmp (c_eq (hu40 hr)) (p_of (x_add (p_var 6) (p_of x_int))) (p_of (x_len T.n_len (p_var 2))))))) (ss_one (s_set 9 sc__law_wings.nd (x_mod (p_var 7) (p_of (x_len T.n_len (p_var 2)))))) ss_nil)
  (ss_cons (s_if (y_w (w_and (y_w (w_or (y_val (x_var 3)) (w_or1 (y_cmp c_gt (p_of (x_mod (p_of (x_fdiv (p_var 7) (p_of x_int))) (p_of x_int))) (p_of x_int))))) (w_and1 (y_ninQ (p_var 9) (q_var 5))))) (ss_cons (s_puti 5 x_bl (x_var 9))
  (ss_cons (s_set 10 sc__law_wings.nd (x_new (f_lst (a_cons (x_ix (p_var 1) (p_var 9)) a_nil))))
  (ss_one (s_set 8 sc__law_wings.nd (x_new (f_cat (p_of (x_new (f_cat (p_of (x_new (f_rep (p_var 10) (p_of (x_mod (p_of (x_fdiv (p_var 7) (p_of x_int))) (p_of x_int)))))) (p_var 8)))) (p_of (x_new (f_rep (p_var 10) (p_of (x_sub (p_of x_int) (p_of (x_mod (p_of (x_fdiv (p_var 7) (p_of x_int))) (p_of x_int)))))))))))))) ss_nil)
  (ss_one (s_append 4 (x_tup (a_cons (x_ix (p_var 1) (p_var 6)) (a_cons (x_var 8) a_nil)))))))))))
  (ss_one (s_frzL 4 (s_ret (x_tup (a_cons (x_ix (p_var 1) (p_of x_int)) (a_cons (x_ix (p_var 1) (p_of x_int)) (a_cons (x_var 4) a_nil)))))))))))))
theorem sc_law:FnScope ["_law_script","_law_door","_law_key","_law_wings_here","_law_turn","_law_found"] ["_law_script"] (defScope s_law):=⟨rfl,rfl,rfl,by decide +kernel,rfl,by decide +kernel,by decide +kernel⟩
theorem ok_law {f:Addr} {fd:FuncData} (F:Fun K "law" "law" s_law f fd) (T:Txt K mg ca) (F__law_asked:Fn P w K mg base 6 "_law_asked" 3 m__law_asked) (F__law_cut:Fn P w K mg base 1 "_law_cut" 2 m__law_cut) (F__law_good_ring:Fn P w K mg base 1 "_law_good_ring" 2 m__law_good_ring) (F__law_has_ring:Fn P w K mg base 1 "_law_has_ring" 2 m__law_has_ring) (F__law_wings:Fn P w K mg base 3 "_law_wings" 1 m__law_wings):FnOk P w K mg base CX0 7 f fd ["_law_script"] (spD K 1 m_law):=
 fn_law (k:=6) F sc_law fun cdv A outer s H E hr=>
  (ss_cons (s_asg (x_call (F__law_wings.mono (by decide)) hr (a_cons (x_var 0) a_nil)) (g_tup rfl (g_cons (g_name 1 sc_law.nd) (g_cons (g_name 2 sc_law.nd) (g_cons (g_name 3 sc_law.nd) g_nil)))))
  (ss_cons (s_for PassesOwn.never rfl (i_range1 T.n_range (a_cons x_int a_nil)) (g_name 4 sc_law.nd) (ss_cons (s_set 5 sc_law.nd (x_call (F__law_asked.mono (by decide)) hr (a_cons (x_var 1) (a_cons (x_var 2) (a_cons (x_var 3) a_nil)))))
  (ss_cons (s_if (y_not (y_val (x_call (F__law_has_ring.mono (by decide)) hr (a_cons (x_var 1) (a_cons (x_var 3) a_nil))))) (ss_one (s_ret (x_isN (p_var 5)))) ss_nil)
  (ss_cons (s_if (y_not (y_val (x_call (F__law_good_ring.mono (by decide)) hr (a_cons (x_var 5) (a_cons (x_var 3) a_nil))))) (ss_one (s_ret x_bl)) ss_nil)
  (ss_one (s_set 3 sc_law.nd (x_call (F__law_cut.mono (by decide)) hr (a_cons (x_var 3) (a_cons (x_ix (p_var 5) (p_of x_int)) a_nil)))))))))
  (ss_one (s_ret x_bl))))
end
end G
namespace G
open PySem PySem.Spec PyProof.Rows L2 L3
theorem all_mk {l:PySem.W.OpenLaw} {w:World} {K:PySem.W.Frag} {h:Heap} {mg:Str→Option Value} {fa:Addr} (X:K.In h) (G:h.Ns mainGlobals mg) (hfa:mg "law"=some (.ref fa))
  {f0:Addr} {od0 an0:Option Addr} {sl0:Array (Option Value)} {oc0 kV0 dc0 pm0 cd0 ct0:Value} {f1:Addr} {od1 an1:Option Addr} {sl1:Array (Option Value)} {oc1 kV1 dc1 pm1 cd1 ct1:Value} {C1:Addr} {f2:Addr} {od2 an2:Option Addr} {sl2:Array (Option Value)} {oc2 kV2 dc2 pm2 cd2 ct2:Value} {C2 S2 xN2:Addr} {xm2 xq2:Str} {xb2 xe2 xs2:List Value} {xh2 xa2:Bool} {xn2:List Str} {xo2:Option Bool} {xd2:Option Addr} {x0_2 x1_2 x2_2 x3_2 x5_2:Option Value} {xc2:ClassData} {f3:Addr} {od3 an3:Option Addr} {sl3:Array (Option Value)} {oc3 kV3 dc3 pm3 cd3 ct3:Value} {f4:Addr} {od4 an4:Option Addr} {sl4:Array (Option Value)} {oc4 kV4 dc4 pm4 cd4 ct4:Value} {f5:Addr} {od5 an5:Option Addr} {sl5:Array (Option Value)} {oc5 kV5 dc5 pm5 cd5 ct5:Value} {f6:Addr} {od6 an6:Option Addr} {sl6:Array (Option Value)} {oc6 kV6 dc6 pm6 cd6 ct6:Value} {C6 S6 xN6:Addr} {xm6 xq6:Str} {xb6 xe6 xs6:List Value} {xh6 xa6:Bool} {xn6:List Str} {xo6:Option Bool} {xd6:Option Addr} {x0_6 x1_6 x2_6 x3_6 x5_6:Option Value} {xc6:ClassData} {f7:Addr} {od7 an7:Option Addr} {sl7:Array (Option Value)} {oc7 kV7 dc7 pm7 cd7 ct7:Value} {f8:Addr} {od8 an8:Option Addr} {sl8:Array (Option Value)} {oc8 kV8 dc8 pm8 cd8 ct8:Value} {C8 S8 xN8:Addr} {xm8 xq8:Str} {xb8 xe8 xs8:List Value} {xh8 xa8:Bool} {xn8:List Str} {xo8:Option Bool} {xd8:Option Addr} {x0_8 x1_8 x2_8 x3_8 x5_8:Option Value} {xc8:ClassData} {f9:Addr} {od9 an9:Option Addr} {sl9:Array (Option Value)} {oc9 kV9 dc9 pm9 cd9 ct9:Value} {C9 S9 xN9:Addr} {xm9 xq9:Str} {xb9 xe9 xs9:List Value} {xh9 xa9:Bool} {xn9:List Str} {xo9:Option Bool} {xd9:Option Addr} {x0_9 x1_9 x2_9 x3_9 x5_9:Option Value} {xc9:ClassData} {f10:Addr} {od10 an10:Option Addr} {sl10:Array (Option Value)} {oc10 kV10 dc10 pm10 cd10 ct10:Value} {f11:Addr} {od11 an11:Option Addr} {sl11:Array (Option Value)} {oc11 kV11 dc11 pm11 cd11 ct11:Value} {f12:Addr} {od12 an12:Option Addr} {sl12:Array (Option Value)} {oc12 kV12 dc12 pm12 cd12 ct12:Value} {f13:Addr} {od13 an13:Option Addr} {sl13:Array (Option Value)} {oc13 kV13 dc13 pm13 cd13 ct13:Value} {f14:Addr} {od14 an14:Option Addr} {sl14:Array (Option Value)} {oc14 kV14 dc14 pm14 cd14 ct14:Value} {f15:Addr} {od15 an15:Option Addr} {sl15:Array (Option Value)} {oc15 kV15 dc15 pm15 cd15 ct15:Value} {f16:Addr} {od16 an16:Option Addr} {sl16:Array (Option Value)} {oc16 kV16 dc16 pm16 cd16 ct16:Value} {f17:Addr} {od17 an17:Option Addr} {sl17:Array (Option Value)} {oc17 kV17 dc17 pm17 cd17 ct17:Value} {f18:Addr} {od18 an18:Option Addr} {sl18:Array (Option Value)} {oc18 kV18 dc18 pm18 cd18 ct18:Value} {f19:Addr} {od19 an19:Option Addr} {sl19:Array (Option Value)} {oc19 kV19 dc19 pm19 cd19 ct19:Value} {f20:Addr} {od20 an20:Option Addr} {sl20:Array (Option Value)} {oc20 kV20 dc20 pm20 cd20 ct20:Value} {f21:Addr} {od21 an21:Option Addr} {sl21:Array (Option Value)} {oc21 kV21 dc21 pm21 cd21 ct21:Value} {f22:Addr} {od22 an22:Option Addr} {sl22:Array (Option Value)} {oc22 kV22 dc22 pm22 cd22 ct22:Value} {f23:Addr} {od23 an23:Option Addr} {sl23:Array (Option Value)} {oc23 kV23 dc23 pm23 cd23 ct23:Value} {ck0:Addr} {ck1:Addr} {ck2:Addr} {ck3:Addr} {ck4:Addr} {ck6:Addr} {ck7:Addr}
  (a0:PySem.W.nsIn K mainGlobals "copied"=some (some (.ref f0))) (l0:K.lookup f0=some ⟨oc0,od0, .func (PySem.W.fnOf "copied" "copied" (defArgs s_copied) (defBody s_copied) (defScope s_copied) .none kV0 dc0 pm0 an0 cd0 ct0),sl0⟩) (c0:PySem.W.codeIn K cd0 "copied"=true) (k0:PySem.W.keepIn K (.ref f0)=true)
  (aC1:PySem.W.nsIn K mainGlobals "House"=some (some (.ref C1))) (a1:PySem.W.findIn K (.ref C1) "__init__"=some (some (.ref f1))) (i1:PySem.W.isFn K (.ref f1)=true) (l1:K.lookup f1=some ⟨oc1,od1, .func (PySem.W.fnOf "__init__" "House.__init__" (defArgs s_House) (defBody s_House) (defScope s_House) .none kV1 dc1 pm1 an1 cd1 ct1),sl1⟩) (c1:PySem.W.codeIn K cd1 "House.__init__"=true) (k1:PySem.W.keepIn K (.ref f1)=true) (pg1:PySem.W.plainGet K C1 Str.empty=true) (hd1:PySem.W.hasDictIn K C1=true) (po1:PySem.W.plainOver K C1=true) (sa1:PySem.W.findIn K (.ref C1) "__setattr__"=some (some (.builtin "object.__setattr__"))) (mk1:PySem.W.makesIn K C1=true) (kc1:PySem.W.keepIn K (.ref C1)=true) (n1_rules:PySem.W.findIn K (.ref C1) "rules"=some none) (n1_doors:PySem.W.findIn K (.ref C1) "doors"=some none) (n1_wings:PySem.W.findIn K (.ref C1) "wings"=some none) (n1_grants:PySem.W.findIn K (.ref C1) "grants"=some none)
  (aC2:PySem.W.nsIn K mainGlobals "Ring"=some (some (.ref C2))) (aS2:PySem.W.nsIn K mainGlobals "SmithError"=some (some (.ref S2))) (ex2:K.lookup C2=some (excClassObj xm2 xq2 C2 xN2 xb2 xe2 xh2 xn2 xs2 xa2 xo2 xd2 x0_2 x1_2 x2_2 x3_2 x5_2 "ValueError.__new__")) (eo2:PySem.W.nsOkIn K xN2=true) (ei2:PySem.W.nsIn K xN2 "__init__"=some (some (.ref f2))) (et2:PySem.W.tailIn K vTail xe2=true) (ef2:PySem.W.typeIn K (.ref f2)=some (.type "function")) (kc2:PySem.W.keepIn K (.ref C2)=true) (sa2:PySem.W.findIn K (.ref C2) "__setattr__"=some (some (.builtin "object.__setattr__"))) (em2:PySem.W.mroIn K C2 (.type "object")=some true) (el2:PySem.W.clsIn K C2=some xc2) (ev2:overV 2 xc2.mro=true) (eh2:xc2.hasDict=true) (eg2:PySem.W.specialIn K (.ref S2) "__getattribute__"=some (some (.builtin "type.__getattribute__"))) (er2:PySem.W.readsIn K S2 (.type "type")=true) (eb2:PySem.W.findCls K (.ref S2) (.type "type") "__init__"=some (.val (.builtin "ValueError.__init__"))) (en2_ring:PySem.W.findIn K (.ref C2) "ring"=some none) (l2:K.lookup f2=some ⟨oc2,od2, .func (PySem.W.fnOf "__init__" "Ring.__init__" (defArgs s_Ring) (defBody s_Ring) (defScope s_Ring) .none kV2 dc2 pm2 an2 cd2 ct2),sl2⟩) (c2:PySem.W.codeIn K cd2 "Ring.__init__"=true) (k2:PySem.W.keepIn K (.ref f2)=true)
  (xa2:PySem.W.findIn K (.ref C2) "__getattribute__"=some (some (.builtin "BaseException.__getattribute__"))) (xb2:PySem.W.findIn K (.ref C2) "__getattr__"=some none) (xc2:PySem.W.findIn K (.ref C2) "__class__"=some (some (.builtin "object.__class__"))) (xd2:PySem.W.mroIn K C2 (.type "BaseException")=some true) (xf2:PySem.W.hasDictIn K C2=true)
  (a3:PySem.W.nsIn K mainGlobals "names_of"=some (some (.ref f3))) (l3:K.lookup f3=some ⟨oc3,od3, .func (PySem.W.fnOf "names_of" "names_of" (defArgs s_names_of) (defBody s_names_of) (defScope s_names_of) .none kV3 dc3 pm3 an3 cd3 ct3),sl3⟩) (c3:PySem.W.codeIn K cd3 "names_of"=true) (k3:PySem.W.keepIn K (.ref f3)=true)
  (a4:PySem.W.nsIn K mainGlobals "ring_above"=some (some (.ref f4))) (l4:K.lookup f4=some ⟨oc4,od4, .func (PySem.W.fnOf "ring_above" "ring_above" (defArgs s_ring_above) (defBody s_ring_above) (defScope s_ring_above) .none kV4 dc4 pm4 an4 cd4 ct4),sl4⟩) (c4:PySem.W.codeIn K cd4 "ring_above"=true) (k4:PySem.W.keepIn K (.ref f4)=true)
  (a5:PySem.W.nsIn K mainGlobals "refuse_ring"=some (some (.ref f5))) (l5:K.lookup f5=some ⟨oc5,od5, .func (PySem.W.fnOf "refuse_ring" "refuse_ring" (defArgs s_refuse_ring) (defBody s_refuse_ring) (defScope s_refuse_ring) .none kV5 dc5 pm5 an5 cd5 ct5),sl5⟩) (c5:PySem.W.codeIn K cd5 "refuse_ring"=true) (k5:PySem.W.keepIn K (.ref f5)=true)
  (aC6:PySem.W.nsIn K mainGlobals "Twice"=some (some (.ref C6))) (aS6:PySem.W.nsIn K mainGlobals "SmithError"=some (some (.ref S6))) (ex6:K.lookup C6=some (excClassObj xm6 xq6 C6 xN6 xb6 xe6 xh6 xn6 xs6 xa6 xo6 xd6 x0_6 x1_6 x2_6 x3_6 x5_6 "ValueError.__new__")) (eo6:PySem.W.nsOkIn K xN6=true) (ei6:PySem.W.nsIn K xN6 "__init__"=some (some (.ref f6))) (et6:PySem.W.tailIn K vTail xe6=true) (ef6:PySem.W.typeIn K (.ref f6)=some (.type "function")) (kc6:PySem.W.keepIn K (.ref C6)=true) (sa6:PySem.W.findIn K (.ref C6) "__setattr__"=some (some (.builtin "object.__setattr__"))) (em6:PySem.W.mroIn K C6 (.type "object")=some true) (el6:PySem.W.clsIn K C6=some xc6) (ev6:overV 2 xc6.mro=true) (eh6:xc6.hasDict=true) (eg6:PySem.W.specialIn K (.ref S6) "__getattribute__"=some (some (.builtin "type.__getattribute__"))) (er6:PySem.W.readsIn K S6 (.type "type")=true) (eb6:PySem.W.findCls K (.ref S6) (.type "type") "__init__"=some (.val (.builtin "ValueError.__init__"))) (en6_name:PySem.W.findIn K (.ref C6) "name"=some none) (l6:K.lookup f6=some ⟨oc6,od6, .func (PySem.W.fnOf "__init__" "Twice.__init__" (defArgs s_Twice) (defBody s_Twice) (defScope s_Twice) .none kV6 dc6 pm6 an6 cd6 ct6),sl6⟩) (c6:PySem.W.codeIn K cd6 "Twice.__init__"=true) (k6:PySem.W.keepIn K (.ref f6)=true)
  (a7:PySem.W.nsIn K mainGlobals "refuse_twice"=some (some (.ref f7))) (l7:K.lookup f7=some ⟨oc7,od7, .func (PySem.W.fnOf "refuse_twice" "refuse_twice" (defArgs s_refuse_twice) (defBody s_refuse_twice) (defScope s_refuse_twice) .none kV7 dc7 pm7 an7 cd7 ct7),sl7⟩) (c7:PySem.W.codeIn K cd7 "refuse_twice"=true) (k7:PySem.W.keepIn K (.ref f7)=true)
  (aC8:PySem.W.nsIn K mainGlobals "Shared"=some (some (.ref C8))) (aS8:PySem.W.nsIn K mainGlobals "SmithError"=some (some (.ref S8))) (ex8:K.lookup C8=some (excClassObj xm8 xq8 C8 xN8 xb8 xe8 xh8 xn8 xs8 xa8 xo8 xd8 x0_8 x1_8 x2_8 x3_8 x5_8 "ValueError.__new__")) (eo8:PySem.W.nsOkIn K xN8=true) (ei8:PySem.W.nsIn K xN8 "__init__"=some (some (.ref f8))) (et8:PySem.W.tailIn K vTail xe8=true) (ef8:PySem.W.typeIn K (.ref f8)=some (.type "function")) (kc8:PySem.W.keepIn K (.ref C8)=true) (sa8:PySem.W.findIn K (.ref C8) "__setattr__"=some (some (.builtin "object.__setattr__"))) (em8:PySem.W.mroIn K C8 (.type "object")=some true) (el8:PySem.W.clsIn K C8=some xc8) (ev8:overV 2 xc8.mro=true) (eh8:xc8.hasDict=true) (eg8:PySem.W.specialIn K (.ref S8) "__getattribute__"=some (some (.builtin "type.__getattribute__"))) (er8:PySem.W.readsIn K S8 (.type "type")=true) (eb8:PySem.W.findCls K (.ref S8) (.type "type") "__init__"=some (.val (.builtin "ValueError.__init__"))) (en8_name:PySem.W.findIn K (.ref C8) "name"=some none) (l8:K.lookup f8=some ⟨oc8,od8, .func (PySem.W.fnOf "__init__" "Shared.__init__" (defArgs s_Shared) (defBody s_Shared) (defScope s_Shared) .none kV8 dc8 pm8 an8 cd8 ct8),sl8⟩) (c8:PySem.W.codeIn K cd8 "Shared.__init__"=true) (k8:PySem.W.keepIn K (.ref f8)=true)
  (aC9:PySem.W.nsIn K mainGlobals "Unknown"=some (some (.ref C9))) (aS9:PySem.W.nsIn K mainGlobals "SmithError"=some (some (.ref S9))) (ex9:K.lookup C9=some (excClassObj xm9 xq9 C9 xN9 xb9 xe9 xh9 xn9 xs9 xa9 xo9 xd9 x0_9 x1_9 x2_9 x3_9 x5_9 "ValueError.__new__")) (eo9:PySem.W.nsOkIn K xN9=true) (ei9:PySem.W.nsIn K xN9 "__init__"=some (some (.ref f9))) (et9:PySem.W.tailIn K vTail xe9=true) (ef9:PySem.W.typeIn K (.ref f9)=some (.type "function")) (kc9:PySem.W.keepIn K (.ref C9)=true) (sa9:PySem.W.findIn K (.ref C9) "__setattr__"=some (some (.builtin "object.__setattr__"))) (em9:PySem.W.mroIn K C9 (.type "object")=some true) (el9:PySem.W.clsIn K C9=some xc9) (ev9:overV 2 xc9.mro=true) (eh9:xc9.hasDict=true) (eg9:PySem.W.specialIn K (.ref S9) "__getattribute__"=some (some (.builtin "type.__getattribute__"))) (er9:PySem.W.readsIn K S9 (.type "type")=true) (eb9:PySem.W.findCls K (.ref S9) (.type "type") "__init__"=some (.val (.builtin "ValueError.__init__"))) (en9_name:PySem.W.findIn K (.ref C9) "name"=some none) (l9:K.lookup f9=some ⟨oc9,od9, .func (PySem.W.fnOf "__init__" "Unknown.__init__" (defArgs s_Unknown) (defBody s_Unknown) (defScope s_Unknown) .none kV9 dc9 pm9 an9 cd9 ct9),sl9⟩) (c9:PySem.W.codeIn K cd9 "Unknown.__init__"=true) (k9:PySem.W.keepIn K (.ref f9)=true)
  (a10:PySem.W.nsIn K mainGlobals "refuse_unknown"=some (some (.ref f10))) (l10:K.lookup f10=some ⟨oc10,od10, .func (PySem.W.fnOf "refuse_unknown" "refuse_unknown" (defArgs s_refuse_unknown) (defBody s_refuse_unknown) (defScope s_refuse_unknown) .none kV10 dc10 pm10 an10 cd10 ct10),sl10⟩) (c10:PySem.W.codeIn K cd10 "refuse_unknown"=true) (k10:PySem.W.keepIn K (.ref f10)=true)
  (a11:PySem.W.nsIn K mainGlobals "refuse_unknown_and_shared"=some (some (.ref f11))) (l11:K.lookup f11=some ⟨oc11,od11, .func (PySem.W.fnOf "refuse_unknown_and_shared" "refuse_unknown_and_shared" (defArgs s_refuse_unknown_and_shared) (defBody s_refuse_unknown_and_shared) (defScope s_refuse_unknown_and_shared) .none kV11 dc11 pm11 an11 cd11 ct11),sl11⟩) (c11:PySem.W.codeIn K cd11 "refuse_unknown_and_shared"=true) (k11:PySem.W.keepIn K (.ref f11)=true)
  (a12:PySem.W.nsIn K mainGlobals "look_at"=some (some (.ref f12))) (l12:K.lookup f12=some ⟨oc12,od12, .func (PySem.W.fnOf "look_at" "look_at" (defArgs s_look_at) (defBody s_look_at) (defScope s_look_at) .none kV12 dc12 pm12 an12 cd12 ct12),sl12⟩) (c12:PySem.W.codeIn K cd12 "look_at"=true) (k12:PySem.W.keepIn K (.ref f12)=true)
  (a13:PySem.W.nsIn K mainGlobals "_law_asked"=some (some (.ref f13))) (l13:K.lookup f13=some ⟨oc13,od13, .func (PySem.W.fnOf "_law_asked" "_law_asked" (defArgs s__law_asked) (defBody s__law_asked) (defScope s__law_asked) .none kV13 dc13 pm13 an13 cd13 ct13),sl13⟩) (c13:PySem.W.codeIn K cd13 "_law_asked"=true) (k13:PySem.W.keepIn K (.ref f13)=true)
  (a14:PySem.W.nsIn K mainGlobals "_law_cut"=some (some (.ref f14))) (l14:K.lookup f14=some ⟨oc14,od14, .func (PySem.W.fnOf "_law_cut" "_law_cut" (defArgs s__law_cut) (defBody s__law_cut) (defScope s__law_cut) .none kV14 dc14 pm14 an14 cd14 ct14),sl14⟩) (c14:PySem.W.codeIn K cd14 "_law_cut"=true) (k14:PySem.W.keepIn K (.ref f14)=true)
  (a15:PySem.W.nsIn K mainGlobals "_law_good_ring"=some (some (.ref f15))) (l15:K.lookup f15=some ⟨oc15,od15, .func (PySem.W.fnOf "_law_good_ring" "_law_good_ring" (defArgs s__law_good_ring) (defBody s__law_good_ring) (defScope s__law_good_ring) .none kV15 dc15 pm15 an15 cd15 ct15),sl15⟩) (c15:PySem.W.codeIn K cd15 "_law_good_ring"=true) (k15:PySem.W.keepIn K (.ref f15)=true)
  (a16:PySem.W.nsIn K mainGlobals "_law_has_ring"=some (some (.ref f16))) (l16:K.lookup f16=some ⟨oc16,od16, .func (PySem.W.fnOf "_law_has_ring" "_law_has_ring" (defArgs s__law_has_ring) (defBody s__law_has_ring) (defScope s__law_has_ring) .none kV16 dc16 pm16 an16 cd16 ct16),sl16⟩) (c16:PySem.W.codeIn K cd16 "_law_has_ring"=true) (k16:PySem.W.keepIn K (.ref f16)=true)
  (a17:PySem.W.nsIn K mainGlobals "_law_cell_at"=some (some (.ref f17))) (l17:K.lookup f17=some ⟨oc17,od17, .func (PySem.W.fnOf "_law_cell_at" "_law_cell_at" (defArgs s__law_cell_at) (defBody s__law_cell_at) (defScope s__law_cell_at) .none kV17 dc17 pm17 an17 cd17 ct17),sl17⟩) (c17:PySem.W.codeIn K cd17 "_law_cell_at"=true) (k17:PySem.W.keepIn K (.ref f17)=true)
  (a18:PySem.W.nsIn K mainGlobals "_law_mixed"=some (some (.ref f18))) (l18:K.lookup f18=some ⟨oc18,od18, .func (PySem.W.fnOf "_law_mixed" "_law_mixed" (defArgs s__law_mixed) (defBody s__law_mixed) (defScope s__law_mixed) .none kV18 dc18 pm18 an18 cd18 ct18),sl18⟩) (c18:PySem.W.codeIn K cd18 "_law_mixed"=true) (k18:PySem.W.keepIn K (.ref f18)=true)
  (a19:PySem.W.nsIn K mainGlobals "_law_name"=some (some (.ref f19))) (l19:K.lookup f19=some ⟨oc19,od19, .func (PySem.W.fnOf "_law_name" "_law_name" (defArgs s__law_name) (defBody s__law_name) (defScope s__law_name) .none kV19 dc19 pm19 an19 cd19 ct19),sl19⟩) (c19:PySem.W.codeIn K cd19 "_law_name"=true) (k19:PySem.W.keepIn K (.ref f19)=true)
  (a20:PySem.W.nsIn K mainGlobals "_law_open"=some (some (.ref f20))) (l20:K.lookup f20=some ⟨oc20,od20, .func (PySem.W.fnOf "_law_open" "_law_open" (defArgs s__law_open) (defBody s__law_open) (defScope s__law_open) .none kV20 dc20 pm20 an20 cd20 ct20),sl20⟩) (c20:PySem.W.codeIn K cd20 "_law_open"=true) (k20:PySem.W.keepIn K (.ref f20)=true)
  (a21:PySem.W.nsIn K mainGlobals "_law_names"=some (some (.ref f21))) (l21:K.lookup f21=some ⟨oc21,od21, .func (PySem.W.fnOf "_law_names" "_law_names" (defArgs s__law_names) (defBody s__law_names) (defScope s__law_names) .none kV21 dc21 pm21 an21 cd21 ct21),sl21⟩) (c21:PySem.W.codeIn K cd21 "_law_names"=true) (k21:PySem.W.keepIn K (.ref f21)=true)
  (a22:PySem.W.nsIn K mainGlobals "_law_wings"=some (some (.ref f22))) (l22:K.lookup f22=some ⟨oc22,od22, .func (PySem.W.fnOf "_law_wings" "_law_wings" (defArgs s__law_wings) (defBody s__law_wings) (defScope s__law_wings) .none kV22 dc22 pm22 an22 cd22 ct22),sl22⟩) (c22:PySem.W.codeIn K cd22 "_law_wings"=true) (k22:PySem.W.keepIn K (.ref f22)=true)
  (a23:PySem.W.nsIn K mainGlobals "law"=some (some (.ref f23))) (l23:K.lookup f23=some ⟨oc23,od23, .func (PySem.W.fnOf "law" "law" (defArgs s_law) (defBody s_law) (defScope s_law) .none kV23 dc23 pm23 an23 cd23 ct23),sl23⟩) (c23:PySem.W.codeIn K cd23 "law"=true) (k23:PySem.W.keepIn K (.ref f23)=true)
  (z0:PySem.W.nsIn K mainGlobals "ValueError"=some none)
  (z1:PySem.W.nsIn K mainGlobals "dict"=some none)
  (z2:PySem.W.nsIn K mainGlobals "int"=some none)
  (z3:PySem.W.nsIn K mainGlobals "isinstance"=some none)
  (z4:PySem.W.nsIn K mainGlobals "len"=some none)
  (z5:PySem.W.nsIn K mainGlobals "list"=some none)
  (z6:PySem.W.nsIn K mainGlobals "range"=some none)
  (z7:PySem.W.nsIn K mainGlobals "reversed"=some none)
  (z8:PySem.W.nsIn K mainGlobals "set"=some none)
  (cn0:PySem.W.nsIn K mainGlobals "Ring"=some (some (.ref ck0)))
  (cn1:PySem.W.nsIn K mainGlobals "Twice"=some (some (.ref ck1)))
  (cn2:PySem.W.nsIn K mainGlobals "Unknown"=some (some (.ref ck2)))
  (cn3:PySem.W.nsIn K mainGlobals "Shared"=some (some (.ref ck3)))
  (cn4:PySem.W.nsIn K mainGlobals "SmithError"=some (some (.ref ck4)))
  (cn6:PySem.W.nsIn K mainGlobals "NoRow"=some (some (.ref ck6)))
  (cn7:PySem.W.nsIn K mainGlobals "Steep"=some (some (.ref ck7)))
  (cm4_0:PySem.W.exmOne K (.ref ck0) (.ref ck4)=some true)
  (cm4_3:PySem.W.exmOne K (.ref ck3) (.ref ck4)=some true)
  (cm4_1:PySem.W.exmOne K (.ref ck1) (.ref ck4)=some true)
  (cm4_2:PySem.W.exmOne K (.ref ck2) (.ref ck4)=some true)
  (ea_0:PySem.W.findIn K (.ref ck0) "__getattribute__"=some (some (.builtin "BaseException.__getattribute__"))) (eb_0:PySem.W.findIn K (.ref ck0) "__getattr__"=some none) (ec_0:PySem.W.findIn K (.ref ck0) "__class__"=some (some (.builtin "object.__class__"))) (ed_0:PySem.W.mroIn K ck0 (.type "object")=some true) (ee_0:PySem.W.mroIn K ck0 (.type "BaseException")=some true)
  (ea_3:PySem.W.findIn K (.ref ck3) "__getattribute__"=some (some (.builtin "BaseException.__getattribute__"))) (eb_3:PySem.W.findIn K (.ref ck3) "__getattr__"=some none) (ec_3:PySem.W.findIn K (.ref ck3) "__class__"=some (some (.builtin "object.__class__"))) (ed_3:PySem.W.mroIn K ck3 (.type "object")=some true) (ee_3:PySem.W.mroIn K ck3 (.type "BaseException")=some true)
  (ea_1:PySem.W.findIn K (.ref ck1) "__getattribute__"=some (some (.builtin "BaseException.__getattribute__"))) (eb_1:PySem.W.findIn K (.ref ck1) "__getattr__"=some none) (ec_1:PySem.W.findIn K (.ref ck1) "__class__"=some (some (.builtin "object.__class__"))) (ed_1:PySem.W.mroIn K ck1 (.type "object")=some true) (ee_1:PySem.W.mroIn K ck1 (.type "BaseException")=some true)
  (ea_2:PySem.W.findIn K (.ref ck2) "__getattribute__"=some (some (.builtin "BaseException.__getattribute__"))) (eb_2:PySem.W.findIn K (.ref ck2) "__getattr__"=some none) (ec_2:PySem.W.findIn K (.ref ck2) "__class__"=some (some (.builtin "object.__class__"))) (ed_2:PySem.W.mroIn K ck2 (.type "object")=some true) (ee_2:PySem.W.mroIn K ck2 (.type "BaseException")=some true)
  (ek0_2:PySem.W.kitAny K (.ref ck2) [.ref ck0]=some false)
  (ek0_1:PySem.W.kitAny K (.ref ck1) [.ref ck0]=some false)
  (ek0_3:PySem.W.kitAny K (.ref ck3) [.ref ck0]=some false)
  (ek0_0:PySem.W.kitAny K (.ref ck0) [.ref ck0]=some true)
  (ek1_2:PySem.W.kitAny K (.ref ck2) [.type "ValueError"]=some true)
  (ek1_1:PySem.W.kitAny K (.ref ck1) [.type "ValueError"]=some true)
  (ek1_3:PySem.W.kitAny K (.ref ck3) [.type "ValueError"]=some true)
  (ek1_0:PySem.W.kitAny K (.ref ck0) [.type "ValueError"]=some true)
  (ek2_2:PySem.W.kitAny K (.ref ck2) [.ref ck6, .ref ck3, .ref ck7, .ref ck1, .ref ck2]=some true)
  (ek2_1:PySem.W.kitAny K (.ref ck1) [.ref ck6, .ref ck3, .ref ck7, .ref ck1, .ref ck2]=some true)
  (ek2_3:PySem.W.kitAny K (.ref ck3) [.ref ck6, .ref ck3, .ref ck7, .ref ck1, .ref ck2]=some true)
  (ek2_0:PySem.W.kitAny K (.ref ck0) [.ref ck6, .ref ck3, .ref ck7, .ref ck1, .ref ck2]=some false)
  :∃ fd:FuncData,(∀ (s:Shared) (v:Value),BindsTo s fd ⟨[v],[]⟩ [("_law_script",v)])∧∀ base:Heap,K.In base→base.Ns mainGlobals mg→FnOk l.prog w K mg base CX0 7 fa fd ["_law_script"] (spLaw K):=by
 have e:=hfa.symm.trans (PySem.W.mg_of X G a23)
 cases e
 have T:Txt K mg (fun i=>([.ref ck0, .ref ck1, .ref ck2, .ref ck3, .ref ck4, .ty "ValueError", .ref ck6, .ref ck7]:List V).getD i .non):=⟨PySem.W.mg_none_of X G z0,PySem.W.mg_none_of X G z1,PySem.W.mg_none_of X G z2,PySem.W.mg_none_of X G z3,PySem.W.mg_none_of X G z4,PySem.W.mg_none_of X G z5,PySem.W.mg_none_of X G z6,PySem.W.mg_none_of X G z7,PySem.W.mg_none_of X G z8,⟨⟨C1,aC1,⟨pg1,hd1,po1,sa1⟩,n1_doors⟩⟩,⟨⟨C1,aC1,⟨pg1,hd1,po1,sa1⟩,n1_grants⟩⟩,⟨⟨C1,aC1,⟨pg1,hd1,po1,sa1⟩,n1_wings⟩⟩,List.forall_mem_cons.mpr ⟨⟨C2,aC2,⟨xa2,xb2,xc2,em2,xd2⟩,xf2,en2_ring⟩,List.forall_mem_nil _⟩,⟨_,_,cn0,cn4,cm4_0⟩,⟨_,_,cn3,cn4,cm4_3⟩,⟨_,_,cn1,cn4,cm4_1⟩,⟨_,_,cn2,cn4,cm4_2⟩, .own (PySem.W.mg_of X G cn6), .own (PySem.W.mg_of X G cn0), .own (PySem.W.mg_of X G cn3), .own (PySem.W.mg_of X G cn7), .own (PySem.W.mg_of X G cn1), .own (PySem.W.mg_of X G cn2), .blt (PySem.W.mg_none_of X G z0) PyProof.Rows.Boot.«ValueError» (by decide),(isiX_cons cn0 ⟨ea_0,eb_0,ec_0,ed_0,ee_0⟩ ek0_0 (isiX_cons cn3 ⟨ea_3,eb_3,ec_3,ed_3,ee_3⟩ ek0_3 (isiX_cons cn1 ⟨ea_1,eb_1,ec_1,ed_1,ee_1⟩ ek0_1 (isiX_cons cn2 ⟨ea_2,eb_2,ec_2,ed_2,ee_2⟩ ek0_2 (isiX_nil (clsC_ref clsC_nil)))))),(isiX_cons cn0 ⟨ea_0,eb_0,ec_0,ed_0,ee_0⟩ ek1_0 (isiX_cons cn3 ⟨ea_3,eb_3,ec_3,ed_3,ee_3⟩ ek1_3 (isiX_cons cn1 ⟨ea_1,eb_1,ec_1,ed_1,ee_1⟩ ek1_1 (isiX_cons cn2 ⟨ea_2,eb_2,ec_2,ed_2,ee_2⟩ ek1_2 (isiX_nil (clsC_ty clsC_nil)))))),(isiX_cons cn0 ⟨ea_0,eb_0,ec_0,ed_0,ee_0⟩ ek2_0 (isiX_cons cn3 ⟨ea_3,eb_3,ec_3,ed_3,ee_3⟩ ek2_3 (isiX_cons cn1 ⟨ea_1,eb_1,ec_1,ed_1,ee_1⟩ ek2_1 (isiX_cons cn2 ⟨ea_2,eb_2,ec_2,ed_2,ee_2⟩ ek2_2 (isiX_nil (clsC_ref (clsC_ref (clsC_ref (clsC_ref (clsC_ref clsC_nil))))))))))⟩
 refine ⟨PySem.W.fnOf "law" "law" (defArgs s_law) (defBody s_law) (defScope s_law) .none kV23 dc23 pm23 an23 cd23 ct23,fun s v=> .of_eq rfl,fun base _ _=> ?_⟩
 have F_copied:Fn l.prog w K mg base 1 "copied" 1 m_copied:=ok_copied (fun_mk (st:=s_copied) l0 c0 k0) (PySem.W.mg_of X G a0) T
 have F_House:FnI l.prog w K mg base 3 "House" 4 4 fs_House:=ok_House (fun_mk (st:=s_House) l1 c1 k1) ⟨mk1,a1,i1,kc1⟩ (PySem.W.mg_of X G aC1) aC1 ⟨pg1,hd1,po1,sa1⟩ n1_rules n1_doors n1_wings n1_grants T F_copied
 have F_Ring:FnR l.prog w K mg base 2 "Ring" "ring":=ok_Ring (fun_mk (st:=s_Ring) l2 c2 k2) ⟨⟨_,_,_,_,_,_,_,_,_,_,_,_,_,_,_,_,ex2,eo2,ei2,et2⟩,ef2,kc2,sa2,em2,⟨_,2,el2,ev2,eh2⟩,eg2,er2,eb2⟩ (PySem.W.mg_of X G aC2) aC2 (PySem.W.mg_of X G aS2) en2_ring T.n_list
 have F_names_of:Fn l.prog w K mg base 1 "names_of" 1 m_names_of:=ok_names_of (fun_mk (st:=s_names_of) l3 c3 k3) (PySem.W.mg_of X G a3) T
 have F_ring_above:Fn l.prog w K mg base 1 "ring_above" 2 m_ring_above:=ok_ring_above (fun_mk (st:=s_ring_above) l4 c4 k4) (PySem.W.mg_of X G a4) T
 have F_refuse_ring:FnX l.prog w K mg base 3 "refuse_ring" 1 m_refuse_ring:=ok_refuse_ring (fun_mk (st:=s_refuse_ring) l5 c5 k5) (PySem.W.mg_of X G a5) T F_Ring F_names_of F_ring_above
 have F_Twice:FnG l.prog w K mg base 2 "Twice" [("name",false)]:=ok_Twice (fun_mk (st:=s_Twice) l6 c6 k6) ⟨⟨_,_,_,_,_,_,_,_,_,_,_,_,_,_,_,_,ex6,eo6,ei6,et6⟩,ef6,kc6,sa6,em6,⟨_,2,el6,ev6,eh6⟩,eg6,er6,eb6⟩ (PySem.W.mg_of X G aC6) aC6 (PySem.W.mg_of X G aS6) en6_name
 have F_refuse_twice:FnX l.prog w K mg base 3 "refuse_twice" 1 m_refuse_twice:=ok_refuse_twice (fun_mk (st:=s_refuse_twice) l7 c7 k7) (PySem.W.mg_of X G a7) T F_Twice F_names_of
 have F_Shared:FnG l.prog w K mg base 2 "Shared" [("name",false)]:=ok_Shared (fun_mk (st:=s_Shared) l8 c8 k8) ⟨⟨_,_,_,_,_,_,_,_,_,_,_,_,_,_,_,_,ex8,eo8,ei8,et8⟩,ef8,kc8,sa8,em8,⟨_,2,el8,ev8,eh8⟩,eg8,er8,eb8⟩ (PySem.W.mg_of X G aC8) aC8 (PySem.W.mg_of X G aS8) en8_name
 have F_Unknown:FnG l.prog w K mg base 2 "Unknown" [("name",false)]:=ok_Unknown (fun_mk (st:=s_Unknown) l9 c9 k9) ⟨⟨_,_,_,_,_,_,_,_,_,_,_,_,_,_,_,_,ex9,eo9,ei9,et9⟩,ef9,kc9,sa9,em9,⟨_,2,el9,ev9,eh9⟩,eg9,er9,eb9⟩ (PySem.W.mg_of X G aC9) aC9 (PySem.W.mg_of X G aS9) en9_name
 have F_refuse_unknown:FnX l.prog w K mg base 3 "refuse_unknown" 3 m_refuse_unknown:=ok_refuse_unknown (fun_mk (st:=s_refuse_unknown) l10 c10 k10) (PySem.W.mg_of X G a10) T F_Shared F_Unknown
 have F_refuse_unknown_and_shared:FnX l.prog w K mg base 4 "refuse_unknown_and_shared" 1 m_refuse_unknown_and_shared:=ok_refuse_unknown_and_shared (fun_mk (st:=s_refuse_unknown_and_shared) l11 c11 k11) (PySem.W.mg_of X G a11) T F_names_of F_refuse_unknown
 have F_look_at:FnX l.prog w K mg base 5 "look_at" 1 m_look_at:=ok_look_at (fun_mk (st:=s_look_at) l12 c12 k12) (PySem.W.mg_of X G a12) T F_refuse_ring F_refuse_twice F_refuse_unknown_and_shared
 have F__law_asked:Fn l.prog w K mg base 6 "_law_asked" 3 m__law_asked:=ok__law_asked (fun_mk (st:=s__law_asked) l13 c13 k13) (PySem.W.mg_of X G a13) T F_House F_Ring F_look_at
 have F__law_cut:Fn l.prog w K mg base 1 "_law_cut" 2 m__law_cut:=ok__law_cut (fun_mk (st:=s__law_cut) l14 c14 k14) (PySem.W.mg_of X G a14) T
 have F__law_good_ring:Fn l.prog w K mg base 1 "_law_good_ring" 2 m__law_good_ring:=ok__law_good_ring (fun_mk (st:=s__law_good_ring) l15 c15 k15) (PySem.W.mg_of X G a15) T
 have F__law_has_ring:Fn l.prog w K mg base 1 "_law_has_ring" 2 m__law_has_ring:=ok__law_has_ring (fun_mk (st:=s__law_has_ring) l16 c16 k16) (PySem.W.mg_of X G a16) T
 have F__law_cell_at:Fn l.prog w K mg base 1 "_law_cell_at" 2 m__law_cell_at:=ok__law_cell_at (fun_mk (st:=s__law_cell_at) l17 c17 k17) (PySem.W.mg_of X G a17) T
 have F__law_mixed:Fn l.prog w K mg base 1 "_law_mixed" 2 m__law_mixed:=ok__law_mixed (fun_mk (st:=s__law_mixed) l18 c18 k18) (PySem.W.mg_of X G a18) T
 have F__law_name:Fn l.prog w K mg base 1 "_law_name" 1 m__law_name:=ok__law_name (fun_mk (st:=s__law_name) l19 c19 k19) (PySem.W.mg_of X G a19) T
 have F__law_open:Fn l.prog w K mg base 1 "_law_open" 1 m__law_open:=ok__law_open (fun_mk (st:=s__law_open) l20 c20 k20) (PySem.W.mg_of X G a20) T
 have F__law_names:Fn l.prog w K mg base 2 "_law_names" 2 m__law_names:=ok__law_names (fun_mk (st:=s__law_names) l21 c21 k21) (PySem.W.mg_of X G a21) T F__law_name F__law_open
 have F__law_wings:Fn l.prog w K mg base 3 "_law_wings" 1 m__law_wings:=ok__law_wings (fun_mk (st:=s__law_wings) l22 c22 k22) (PySem.W.mg_of X G a22) T F__law_cell_at F__law_mixed F__law_names
 exact law_of (ok_law (fun_mk (st:=s_law) l23 c23 k23) T F__law_asked F__law_cut F__law_good_ring F__law_has_ring F__law_wings) law_true
theorem walk {l:PySem.W.OpenLaw} {q:Program} {loose:List Str} {XP:(Str→Option Value)→Heap→Prop} {YP:World→Heap→Prop} {d:DefRec} {K:Params→PySem.W.Frag} (hn:l.most=some 63) (hdf:d.params.defaults= [])
  (hY:∀ (w:World) (h:Heap),YP w h→(K w.params).In h)
  (F:∀ (w:World) (mg:Str→Option Value) (fa:Addr) (h:Heap),(K w.params).In h→h.Ns mainGlobals mg→mg d.name=some (.ref fa)→
   ∃ fd:FuncData,(∀ (s:Shared) (u:Value),BindsTo s fd ⟨[u],[]⟩ [("_law_script",u)])∧∀ base:Heap,(K w.params).In base→base.Ns mainGlobals mg→FnOk l.prog w (K w.params) mg base CX0 7 fa fd ["_law_script"] (spLaw (K w.params))):
  PySem.W.WalkO q loose XP YP l.row.toRowW d [] (fun f vs=>PySem.call f vs):=
 L2.walk_of (n:=63) (k:=7) (x:="_law_script") (CX:=fun _=>CX0) (sp:=fun w=>spLaw (K w.params)) hn (by decide) hdf ⟨rfl,by decide,by decide,rfl⟩ hY F (fun _ _ a ns hl _ hS=>⟨a,ns,rfl,hS,hl,fun _=>rfl⟩) fun _ _ _ _ _ z=>z
end G
open PySem PySem.W PyProof.Rows
theorem PySem.W.Fast.tw4690023672392668707 : True := trivial
theorem PySem.W.Fast.tw9375756639261940793 : True := trivial
theorem PySem.W.Fast.tw8056556033513263907 : True := trivial
theorem PySem.W.Fast.tw18179878489204919774 : True := trivial
theorem PySem.W.Fast.tw9290299539725064424 : True := trivial
theorem PySem.W.Fast.tw4711699889486780660 : True := trivial
theorem PySem.W.Fast.tw11481188793145819830 : True := trivial
theorem PySem.W.Fast.tw15733030316920829081 : True := trivial
theorem PySem.W.Fast.tw13930650463764080528 : True := trivial
theorem PySem.W.Fast.tw16625962561315831750 : True := trivial
theorem PySem.W.Fast.tw8386478071805131354 : True := trivial
theorem PySem.W.Fast.tw1084150481658189719 : True := trivial
theorem PySem.W.Fast.tw8944303465578027143 : True := trivial
theorem PySem.W.Fast.tw17650047995045033770 : True := trivial
theorem PySem.W.Fast.tw5493816443707579922 : True := trivial
theorem PySem.W.Fast.tw11061899824891235142 : True := trivial
theorem PySem.W.Fast.tw17534975249507777700 : True := trivial
theorem PySem.W.Fast.tw3866265923793574261 : True := trivial
theorem PySem.W.Fast.tw10916982040534828714 : True := trivial
theorem PySem.W.Fast.tw5672749822073287998 : True := trivial
theorem PySem.W.Fast.tw9860129814965088895 : True := trivial
theorem PySem.W.Fast.tw16678437328881480442 : True := trivial
theorem PySem.W.Fast.tw13295118636707877264 : True := trivial
theorem PySem.W.Fast.tw1980591270822746658 : True := trivial
theorem PySem.W.Fast.tw6560670598565370686 : True := trivial
theorem PySem.W.Fast.tw9467980161229841293 : True := trivial
theorem PySem.W.Fast.tw8516409272038451933 : True := trivial
theorem PySem.W.Fast.tw11101967340273784464 : True := trivial
theorem PySem.W.Fast.tw10606406798372013381 : True := trivial
theorem PySem.W.Fast.tw9510540501853027839 : True := trivial
theorem PySem.W.Fast.tw893839415462693881 : True := trivial
theorem PySem.W.Fast.tw15847725507712872080 : True := trivial
theorem PySem.W.Fast.tw5915640357511196638 : True := trivial
theorem PySem.W.Fast.tw3363927201512957158 : True := trivial
theorem PySem.W.Fast.tw15622956168920951889 : True := trivial
theorem PySem.W.Fast.tw8605487512902708030 : True := trivial
theorem PySem.W.Fast.tw9676752925628561499 : True := trivial
theorem PySem.W.Fast.tw13456472082051680516 : True := trivial
theorem PySem.W.Fast.tw6953787013550836058 : True := trivial
theorem PySem.W.Fast.tw13017794945970450083 : True := trivial
theorem PySem.W.Fast.tw12284946681036368505 : True := trivial
theorem PySem.W.Fast.tw16058596500515132042 : True := trivial
theorem PySem.W.Fast.tw87579994405070276 : True := trivial
theorem PySem.W.Fast.tw17584604820063690190 : True := trivial
theorem PySem.W.Fast.tw8224110222677528485 : True := trivial
theorem PySem.W.Fast.tw16978334949947876054 : True := trivial
theorem PySem.W.Fast.tw3049012636486769394 : True := trivial
theorem PySem.W.Fast.tw3294480633321594408 : True := trivial
theorem PySem.W.Fast.tw13557931454854537601 : True := trivial
theorem PySem.W.Fast.tw1401355494153430672 : True := trivial
theorem PySem.Challenge.cw_wardsmith_k37_rings_of_wings_holds : PySem.Challenge.rw_wardsmith_k37_rings_of_wings.Holds := by
 w_on;o_law;k_head;(case hw=>w_witness2)
 k_fill
 refine G.walk (l:=PySem.Challenge.rw_wardsmith_k37_rings_of_wings) rfl rfl (fun w h Y=>PySem.W.kIn_of Y) ?F
 case F=>
  intro w mg fa h KX GG hmg
  refine' G.all_mk KX GG hmg ?a0 ?l0 ?c0 ?k0 ?aC1 ?a1 ?i1 ?l1 ?c1 ?k1 ?pg1 ?hd1 ?po1 ?sa1 ?mk1 ?kc1 ?n1_rules ?n1_doors ?n1_wings ?n1_grants ?aC2 ?aS2 ?ex2 ?eo2 ?ei2 ?et2 ?ef2 ?kc2 ?sa2 ?em2 ?el2 ?ev2 ?eh2 ?eg2 ?er2 ?eb2 ?l2 ?c2 ?k2 ?en2_ring ?xa2 ?xb2 ?xc2 ?xd2 ?xf2 ?a3 ?l3 ?c3 ?k3 ?a4 ?l4 ?c4 ?k4 ?a5 ?l5 ?c5 ?k5 ?aC6 ?aS6 ?ex6 ?eo6 ?ei6 ?et6 ?ef6 ?kc6 ?sa6 ?em6 ?el6 ?ev6 ?eh6 ?eg6 ?er6 ?eb6 ?l6 ?c6 ?k6 ?en6_name ?a7 ?l7 ?c7 ?k7 ?aC8 ?aS8 ?ex8 ?eo8 ?ei8 ?et8 ?ef8 ?kc8 ?sa8 ?em8 ?el8 ?ev8 ?eh8 ?eg8 ?er8 ?eb8 ?l8 ?c8 ?k8 ?en8_name ?aC9 ?aS9 ?ex9 ?eo9 ?ei9 ?et9 ?ef9 ?kc9 ?sa9 ?em9 ?el9 ?ev9 ?eh9 ?eg9 ?er9 ?eb9 ?l9 ?c9 ?k9 ?en9_name ?a10 ?l10 ?c10 ?k10 ?a11 ?l11 ?c11 ?k11 ?a12 ?l12 ?c12 ?k12 ?a13 ?l13 ?c13 ?k13 ?a14 ?l14 ?c14 ?k14 ?a15 ?l15 ?c15 ?k15 ?a16 ?l16 ?c16 ?k16 ?a17 ?l17 ?c17 ?k17 ?a18 ?l18 ?c18 ?k18 ?a19 ?l19 ?c19 ?k19 ?a20 ?l20 ?c20 ?k20 ?a21 ?l21 ?c21 ?k21 ?a22 ?l22 ?c22 ?k22 ?a23 ?l23 ?c23 ?k23 ?z0 ?z1 ?z2 ?z3 ?z4 ?z5 ?z6 ?z7 ?z8 ?cn0 ?cn1 ?cn2 ?cn3 ?cn4 ?cn6 ?cn7 ?cm4_0 ?cm4_3 ?cm4_1 ?cm4_2 ?ea_0 ?eb_0 ?ec_0 ?ed_0 ?ee_0 ?ea_3 ?eb_3 ?ec_3 ?ed_3 ?ee_3 ?ea_1 ?eb_1 ?ec_1 ?ed_1 ?ee_1 ?ea_2 ?eb_2 ?ec_2 ?ed_2 ?ee_2 ?ek0_2 ?ek0_1 ?ek0_3 ?ek0_0 ?ek1_2 ?ek1_1 ?ek1_3 ?ek1_0 ?ek2_2 ?ek2_1 ?ek2_3 ?ek2_0
  (case a0=>k_is);(case l0=>k_is);(case c0=>k_is);(case k0=>k_is);(case aC1=>k_is);(case a1=>k_is)
  (case i1=>k_is);(case l1=>k_is);(case c1=>k_is);(case k1=>k_is);(case pg1=>k_is);(case hd1=>k_is)
  (case po1=>k_is);(case sa1=>k_is);(case mk1=>k_is);(case kc1=>k_is);(case n1_rules=>k_is);(case n1_doors=>k_is)
  (case n1_wings=>k_is);(case n1_grants=>k_is);(case aC2=>k_is);(case aS2=>k_is);(case ex2=>k_is);(case eo2=>kernel_rfl)
  (case ei2=>k_is);(case et2=>kernel_rfl);(case ef2=>k_is);(case kc2=>k_is);(case sa2=>k_is);(case em2=>k_is)
  (case el2=>k_is);(case ev2=>kernel_rfl);(case eh2=>kernel_rfl);(case eg2=>k_is);(case er2=>k_is);(case eb2=>k_is)
  (case l2=>k_is);(case c2=>k_is);(case k2=>k_is);(case en2_ring=>k_is);(case xa2=>k_is);(case xb2=>k_is)
  (case xc2=>k_is);(case xd2=>k_is);(case xf2=>k_is);(case a3=>k_is);(case l3=>k_is);(case c3=>k_is)
  (case k3=>k_is);(case a4=>k_is);(case l4=>k_is);(case c4=>k_is);(case k4=>k_is);(case a5=>k_is)
  (case l5=>k_is);(case c5=>k_is);(case k5=>k_is);(case aC6=>k_is);(case aS6=>k_is);(case ex6=>k_is)
  (case eo6=>kernel_rfl);(case ei6=>k_is);(case et6=>kernel_rfl);(case ef6=>k_is);(case kc6=>k_is);(case sa6=>k_is)
  (case em6=>k_is);(case el6=>k_is);(case ev6=>kernel_rfl);(case eh6=>kernel_rfl);(case eg6=>k_is);(case er6=>k_is)
  (case eb6=>k_is);(case l6=>k_is);(case c6=>k_is);(case k6=>k_is);(case en6_name=>k_is);(case a7=>k_is)
  (case l7=>k_is);(case c7=>k_is);(case k7=>k_is);(case aC8=>k_is);(case aS8=>k_is);(case ex8=>k_is)
  (case eo8=>kernel_rfl);(case ei8=>k_is);(case et8=>kernel_rfl);(case ef8=>k_is);(case kc8=>k_is);(case sa8=>k_is)
  (case em8=>k_is);(case el8=>k_is);(case ev8=>kernel_rfl);(case eh8=>kernel_rfl);(case eg8=>k_is);(case er8=>k_is)
  (case eb8=>k_is);(case l8=>k_is);(case c8=>k_is);(case k8=>k_is);(case en8_name=>k_is);(case aC9=>k_is)
  (case aS9=>k_is);(case ex9=>k_is);(case eo9=>kernel_rfl);(case ei9=>k_is);(case et9=>kernel_rfl);(case ef9=>k_is)
  (case kc9=>k_is);(case sa9=>k_is);(case em9=>k_is);(case el9=>k_is);(case ev9=>kernel_rfl);(case eh9=>kernel_rfl)
  (case eg9=>k_is);(case er9=>k_is);(case eb9=>k_is);(case l9=>k_is);(case c9=>k_is);(case k9=>k_is)
  (case en9_name=>k_is);(case a10=>k_is);(case l10=>k_is);(case c10=>k_is);(case k10=>k_is);(case a11=>k_is)
  (case l11=>k_is);(case c11=>k_is);(case k11=>k_is);(case a12=>k_is);(case l12=>k_is);(case c12=>k_is)
  (case k12=>k_is);(case a13=>k_is);(case l13=>k_is);(case c13=>k_is);(case k13=>k_is);(case a14=>k_is)
  (case l14=>k_is);(case c14=>k_is);(case k14=>k_is);(case a15=>k_is);(case l15=>k_is);(case c15=>k_is)
  (case k15=>k_is);(case a16=>k_is);(case l16=>k_is);(case c16=>k_is);(case k16=>k_is);(case a17=>k_is)
  (case l17=>k_is);(case c17=>k_is);(case k17=>k_is);(case a18=>k_is);(case l18=>k_is);(case c18=>k_is)
  (case k18=>k_is);(case a19=>k_is);(case l19=>k_is);(case c19=>k_is);(case k19=>k_is);(case a20=>k_is)
  (case l20=>k_is);(case c20=>k_is);(case k20=>k_is);(case a21=>k_is);(case l21=>k_is);(case c21=>k_is)
  (case k21=>k_is);(case a22=>k_is);(case l22=>k_is);(case c22=>k_is);(case k22=>k_is);(case a23=>k_is)
  (case l23=>k_is);(case c23=>k_is);(case k23=>k_is);(case z0=>k_is);(case z1=>k_is);(case z2=>k_is)
  (case z3=>k_is);(case z4=>k_is);(case z5=>k_is);(case z6=>k_is);(case z7=>k_is);(case z8=>k_is)
  (case cn0=>k_is);(case cn1=>k_is);(case cn2=>k_is);(case cn3=>k_is);(case cn4=>k_is);(case cn6=>k_is)
  (case cn7=>k_is);(case cm4_0=>kts_exm);(case cm4_3=>kts_exm);(case cm4_1=>kts_exm);(case cm4_2=>kts_exm);(case ea_0=>k_is)
  (case eb_0=>k_is);(case ec_0=>k_is);(case ed_0=>k_is);(case ee_0=>k_is);(case ea_3=>k_is);(case eb_3=>k_is)
  (case ec_3=>k_is);(case ed_3=>k_is);(case ee_3=>k_is);(case ea_1=>k_is);(case eb_1=>k_is);(case ec_1=>k_is)
  (case ed_1=>k_is);(case ee_1=>k_is);(case ea_2=>k_is);(case eb_2=>k_is);(case ec_2=>k_is);(case ed_2=>k_is)
  (case ee_2=>k_is);(case ek0_2=>kit_is);(case ek0_1=>kit_is);(case ek0_3=>kit_is);(case ek0_0=>kit_is);(case ek1_2=>kit_is)
  (case ek1_1=>kit_is);(case ek1_3=>kit_is);(case ek1_0=>kit_is);(case ek2_2=>kit_is);(case ek2_1=>kit_is);(case ek2_3=>kit_is)
  (case ek2_0=>kit_is)
