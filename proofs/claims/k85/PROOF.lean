import PyProof.Rows.All
import Wide.All
import OpenK.AllK
import Wide.FinOn
import Lean
import PyProof.EqAt
import PyProof.EqKinds
import PyProof.TupleCall
import PyProof.ZipIter
import PyProof.Draws
import PyProof.TupleIter
import PyProof.ListMulRoad
import PyProof.FactsAll.tuple
import PyProof.ReprRoads
import PyProof.Rows.RegFStrParts
import PyProof.Rows.Range3
import KE.KIntText
import PyProof.AutoListH
import PyProof.Rows.MinMaxN
import PyProof.SetScanFacts
import PyProof.SetKind
import PyProof.DictKinds
import PyProof.WalkLemmas
import PyProof.CollectWalk
import PyProof.FactsAll.set
import PyProof.Walks
import PyProof.WalksS
import PyProof.SetRoads
import PyProof.Rows.SetFrom
import PyProof.Rows.SortWalk
import PyProof.EnumMake
import PyProof.EnumFor
import PyProof.DictItemsLoops
import PyProof.DictWalks
import KE.KDictList
import PyProof.Rows.SumAny
import KE.KRevIter
import KE.KDictOf
import PyProof.AttrMissHeap
import PyProof.NsDelKeeps
import PyProof.RulesAs
import KE.KTryMore
import PyProof.ExcArgsOwn
import KE.KUnpack
import PyProof.ExcClass2
import OpenK.KMake
import OpenK.KGet
import PyProof.InstStore
import PyProof.InstStoreFacts
import OpenK.KCls
import OpenK.KMore
import PyProof.FString4
import PyProof.StrLawsRepr
import KE.KEqDict
import KE.KItemsList
import PyProof.FactsAll.NoneType_1
import PyProof.Rows.SortStr
import PySem.Challenge.RW_wardsmith_k85_rows_to_another
set_option Elab.async false
set_option linter.all false
set_option maxRecDepth 100000
namespace L2
open PySem PySem.Spec PyProof.Rows
abbrev Key:=Sum Int Str
def keyIs:Key→Value→Bool
 | .inl k,v=>Value.isInt k v
 | .inr x,v=>Value.isStrOf x v
def keyH (w:World):Key→Int
 | .inl k=>hashInt k
 | .inr x=>hashStr w x
theorem keyIs_shape:∀ {k:Key} {v:Value},keyIs k v=true→(∃ i t,k=Sum.inl i∧v=Value.int i t)∨(∃ x t,k=Sum.inr x∧v=Value.str x t)
 | .inl i,v,h=>by
  obtain ⟨t,e⟩:=Value.isInt_shape (k:=i) (v:=v) h
  exact .inl ⟨i,t,rfl,e⟩
 | .inr x,v,h=>by
  obtain ⟨t,e⟩:=Value.isStrOf_shape (x:=x) (v:=v) h
  exact .inr ⟨x,t,rfl,e⟩
theorem keyIs_int (i:Int) (t:Tok):keyIs (.inl i) (.int i t)=true:=by simp [keyIs,Value.isInt]
theorem keyIs_str (x:Str) (t:Tok):keyIs (.inr x) (.str x t)=true:=by simp [keyIs,Value.isStrOf]
theorem key_ll (a b:Int):decide ((Sum.inl a:Key)=Sum.inl b)=(a==b):=by
 by_cases e:a=b
 ·subst e;simp
 ·have h:¬ (Sum.inl a:Key)=Sum.inl b:=fun q=>e (Sum.inl.inj q)
  rw [decide_eq_false h]
  exact (beq_eq_false_iff_ne.mpr e).symm
theorem key_rr (a b:Str):decide ((Sum.inr a:Key)=Sum.inr b)=decide (a=b):=by
 by_cases e:a=b
 ·subst e;simp
 ·have h:¬ (Sum.inr a:Key)=Sum.inr b:=fun q=>e (Sum.inr.inj q)
  rw [decide_eq_false h,decide_eq_false e]
theorem key_lr (a:Int) (b:Str):decide ((Sum.inl a:Key)=Sum.inr b)=false:=decide_eq_false (fun q=>nomatch q)
theorem key_rl (a:Str) (b:Int):decide ((Sum.inr a:Key)=Sum.inl b)=false:=decide_eq_false (fun q=>nomatch q)
def mixKind (prog:Program) (w:World):PySem.KeyKind prog w Key where
 is:=keyIs
 hash:=keyH w
 inj:=fun v a b ha hb=>by
  rcases keyIs_shape ha with ⟨i,t,rfl,rfl⟩|⟨x,t,rfl,rfl⟩
  ·rcases keyIs_shape hb with ⟨j,u,rfl,e⟩|⟨y,u,rfl,e⟩
   ·injection e with e1 _;rw [e1]
   ·exact nomatch e
  ·rcases keyIs_shape hb with ⟨j,u,rfl,e⟩|⟨y,u,rfl,e⟩
   ·exact nomatch e
   ·injection e with e1 _;rw [e1]
 byValue:=fun k v h=>by
  rcases keyIs_shape h with ⟨i,t,rfl,rfl⟩|⟨x,t,rfl,rfl⟩<;>rfl
 pyHash:=fun hv h=>by
  rcases keyIs_shape hv with ⟨i,t,rfl,rfl⟩|⟨x,t,rfl,rfl⟩
  ·exact wpAny_pyHash_int h
  ·exact wpAny_pyHash_str h
 eqBool:=fun hu hv h=>by
  rcases keyIs_shape hu with ⟨i,t,rfl,rfl⟩|⟨x,t,rfl,rfl⟩
  ·rcases keyIs_shape hv with ⟨j,u,rfl,rfl⟩|⟨y,u,rfl,rfl⟩
   ·rw [key_ll] at h;exact wpAny_eqBool_int h
   ·rw [key_lr] at h;exact SeqAt.EqAt.int_str i t y u _ _ _ _ h
  ·rcases keyIs_shape hv with ⟨j,u,rfl,rfl⟩|⟨y,u,rfl,rfl⟩
   ·rw [key_rl] at h;exact SeqAt.EqAt.str_int x t j u _ _ _ _ h
   ·rw [key_rr] at h;exact wpAny_eqBool_str h
 «strs» :=fun k x t v h=>by
  rcases keyIs_shape h with ⟨i,u,rfl,e⟩|⟨y,u,rfl,e⟩
  ·exact nomatch e
  ·injection e with e1 _
   subst e1
   cases v<;>rfl
theorem mixKind_int (prog:Program) (w:World) (i:Int) (t:Tok):(mixKind prog w).is (.inl i) (.int i t)=true:=keyIs_int i t
theorem mixKind_str (prog:Program) (w:World) (x:Str) (t:Tok):(mixKind prog w).is (.inr x) (.str x t)=true:=keyIs_str x t
end L2
namespace L2
open PySem PySem.Spec PyProof.Rows
inductive V where
 |non|bl (b:Bool)|int (i:Int)|str (x:Str)|byt (b:Array UInt8)|flt (b:UInt64)|ref (a:Addr)|ty (n:String)
 deriving DecidableEq
def RelV:V→Value→Prop
 | .non,u=>u=Value.none
 | .bl b,u=>u=Value.bool b
 | .int i,u=>∃ t,u=Value.int i t
 | .str x,u=>∃ t,u=Value.str x t
 | .byt b,u=>∃ t,u=Value.bytes b t
 | .flt b,u=>∃ t,u=Value.float b t
 | .ref a,u=>u=Value.ref a
 | .ty n,u=>u=Value.type n
abbrev Vals:List V→List Value→Prop:=Paired RelV
theorem Vals.length {xs:List V} {us:List Value} (r:Vals xs us):xs.length=us.length:=Paired.length r
theorem Vals.get:∀ {xs:List V} {us:List Value} {i:Nat} {x:V},Vals xs us→xs[i]? =some x→∃ u,us[i]? =some u∧RelV x u
 |_,_,_,_, .nil,e=>by simp at e
 |_,_,0,_, .cons r _,e=>by simp at e;subst e;exact ⟨_,rfl,r⟩
 |_,_,i+1,x, .cons _ t,e=>by
  obtain ⟨u,h1,h2⟩:=Vals.get (i:=i) (x:=x) t (by simpa using e)
  exact ⟨u,by simpa using h1,h2⟩
theorem Vals.set {x:V} {u:Value} (r:RelV x u):∀ {xs:List V} {us:List Value} (i:Nat),Vals xs us→Vals (xs.set i x) (us.set i u)
 |_,_,_, .nil=> .nil
 |_,_,0, .cons _ t=> .cons r t
 |_,_,i+1, .cons q t=> .cons q (Vals.set r i t)
theorem Vals.append:∀ {xs ys:List V} {us ws:List Value},Vals xs us→Vals ys ws→Vals (xs++ys) (us++ws)
 |_,_,_,_, .nil,s=>s
 |_,_,_,_, .cons r t,s=> .cons r (Vals.append t s)
theorem Vals.take:∀ {xs:List V} {us:List Value} (n:Nat),Vals xs us→Vals (xs.take n) (us.take n)
 |_,_,0,_=> .nil
 |_,_,_+1, .nil=> .nil
 |_,_,n+1, .cons r t=> .cons r (Vals.take n t)
theorem Vals.drop:∀ {xs:List V} {us:List Value} (n:Nat),Vals xs us→Vals (xs.drop n) (us.drop n)
 |_,_,0,r=>r
 |_,_,_+1, .nil=> .nil
 |_,_,n+1, .cons _ t=>Vals.drop n t
theorem Vals.none_of:∀ {xs:List V} {us:List Value} {i:Nat},Vals xs us→xs[i]? =none→us[i]? =none:=fun {xs us i} r e=>by
 have h1:=r.length
 have h2:xs.length≤i:=List.getElem?_eq_none_iff.mp e
 exact List.getElem?_eq_none_iff.mpr (by omega)
def RelO:Option V→Option Value→Prop
 |some v,some u=>RelV v u
 |none,none=>True
 |_,_=>False
def KV {κ:Type}:List (κ×V)→List (κ×Value)→Prop:=Paired fun (p:κ×V) (q:κ×Value)=>p.1=q.1∧RelV p.2 q.2
def kV:Key→V
 | .inl i=> .int i
 | .inr x=> .str x
inductive HO where
  |lst (xs:List V)
  |tup (xs:List V)
  |dK (kvs:List (Key×V))|dT (kvs:List (List Key×V))
  |set (S:Int→Bool) (n:Nat)
  |ins (C dx:Addr) (fs:List (Str×V))
  |own (x:Addr)
  |xd (fs:List (Str×V))
  |met (f x:Addr)
  |rng (lo hi:Int)
  |frz (o:Obj) (u:HO)
  |tbl (ps:Array Value)
  |ext (φ:Heap→Prop)
abbrev Hp:=Addr→Option HO
def upd (H:Hp) (a:Addr) (o:HO):Hp:=fun b=>if b=a then some o else H b
theorem upd_same {H:Hp} {a:Addr} {o:HO}:upd H a o a=some o:=by unfold upd;rw [if_pos rfl]
theorem upd_ne {H:Hp} {a b:Addr} {o:HO} (h:b≠a):upd H a o b=H b:=by unfold upd;rw [if_neg h]
theorem ne_of_none {H:Hp} {a b:Addr} {o:HO} (h:H a=some o) (h':H b=none):a≠b:=by
 intro e;subst e;rw [h] at h';cases h'
section
variable (P:Program) (w:World)
def ObjOk (H:Hp) (h:Heap) (a:Addr):HO→Prop
 | .lst xs=>xs.length≤sizeLine∧∃ (its:List Value) (n:Nat),Vals xs its∧h.get? a=some {cls:= .type "list",data:= .seq its.toArray n}
 | .tup xs=>xs.length≤sizeLine∧∃ its:List Value,Vals xs its∧IsTup h a its.toArray
 | .dK kvs=>kvs.length≤sizeLine∧(a==sysModules)=false∧∃ vs,KV kvs vs∧h.DictOf (mixKind P w) a vs
 | .dT kvs=>kvs.length≤sizeLine∧(a==sysModules)=false∧∃ xs:List (List Key×Addr×Value),
   Paired (fun (p:List Key×V) (q:List Key×Addr×Value)=>p.1=q.1∧H q.2.1=some (.tup (p.1.map kV))∧RelV p.2 q.2.2) kvs xs∧
   ∃ o es ep,h.get? a=some o∧o.ExactDict∧o.data= .dict es ep∧es.toList=xs.map (entryOfKey (tupleKind (mixKind P w)))∧(xs.map (·.1)).Nodup
 | .set S n=>h.SetOf (intKind P w) a S n
 | .ins C dx fs=>H dx=some (.own a)∧fs.length≤1000∧dx≠a∧h.get? a=some (PySem.W.instObj C dx)∧
   ∃ mA,h.Ns1 dx mA∧(∀ f,RelO (fs.lookup f) (mA f))∧PySem.Within mA (fs.map (·.1))
 | .own _=>∃ o,h.get? a=some o
 | .xd fs=>∃ mA,h.Ns1 a mA∧∀ f,RelO (fs.lookup f) (mA f)
 | .rng lo hi=>∃ t u v,h.get? a=some {cls:= .type "range",data:= .fields #[.int lo t, .int hi u, .int 1 v]}
 | .frz o u=>h.get? a=some o∧ObjOk H h a u
 | .tbl ps=>h.get? a=some {cls:= .none,data:= .fields ps}
 | .met f x=>h.get? a=some (PySem.W.methodObj (.ref f) (.ref x))
 | .ext φ=>φ h∧(∃ o,h.get? a=some o)∧∀ h1 h2:Heap,φ h1→(∀ o,h1.get? a=some o→h2.get? a=some o)→φ h2
def HOk (H:Hp) (h:Heap):Prop:=∀ a o,H a=some o→ObjOk P w H h a o
end
section
variable {P:Program} {w:World} {H H':Hp} {h h':Heap} {a:Addr} {o:HO}
theorem ObjOk.lt (x:ObjOk P w H h a o):a<h.objs.size:=by
 cases o with
 |lst xs=>obtain ⟨_,_,_,_,e⟩:=x;exact Heap.lt_size e
 |tup xs=>obtain ⟨_,_,_,p⟩:=x;exact p.lt
 |dK kvs=>obtain ⟨_,_,_,_,o,_,_,e,_⟩:=x;exact Heap.lt_size e
 |dT kvs=>obtain ⟨_,_,_,_,o,_,_,e,_⟩:=x;exact Heap.lt_size e
 |set S n=>obtain ⟨o,_,_,_,e,_⟩:=x;exact Heap.lt_size e
 |ins C dx fs=>obtain ⟨_,_,_,e,_⟩:=x;exact Heap.lt_size e
 |own y=>obtain ⟨_,e⟩:=x;exact Heap.lt_size e
 |xd fs=>obtain ⟨_,⟨_,_,_,e,_⟩,_⟩:=x;exact Heap.lt_size e
 |rng lo hi=>obtain ⟨_,_,_,e⟩:=x;exact Heap.lt_size e
 |frz ob u=>obtain ⟨e,_⟩:=x;exact Heap.lt_size e
 |tbl ps=>exact Heap.lt_size (show h.get? a=some _ from x)
 |met f y=>exact Heap.lt_size (show h.get? a=some _ from x)
 |ext φ=>obtain ⟨_,⟨_,e⟩,_⟩:=x;exact Heap.lt_size e
theorem Paired.mapP {α β:Type} {F G:α→β→Prop}:∀ {l₁:List α} {l₂:List β},Paired F l₁ l₂→(∀ a b,F a b→G a b)→Paired G l₁ l₂
 |_,_, .nil,_=> .nil
 |_,_, .cons r t,f=> .cons (f _ _ r) (Paired.mapP t f)
theorem ObjOk.stay (x:ObjOk P w H h a o) (k:∀ b u,(b=a∨H b=some (.own a))→h.get? b=some u→h'.get? b=some u)
  (ho:∀ b,H b=some (.own a)→H' b=some (.own a)) (ht:∀ b xs,H b=some (.tup xs)→H' b=some (.tup xs)):ObjOk P w H' h' a o:=by
 induction o with
 |lst xs=>obtain ⟨z,its,n,r,e⟩:=x;exact ⟨z,its,n,r,k _ _ (.inl rfl) e⟩
 |tup xs=>obtain ⟨z,its,r,ob,e,c⟩:=x;exact ⟨z,its,r,ob,k _ _ (.inl rfl) e,c⟩
 |dK kvs=>obtain ⟨z,y,vs,r,ob,es,ep,e,c⟩:=x;exact ⟨z,y,vs,r,ob,es,ep,k _ _ (.inl rfl) e,c⟩
 |dT kvs=>
  obtain ⟨z,y,xs,r,ob,es,ep,e,c⟩:=x
  exact ⟨z,y,xs,Paired.mapP r fun p q z=>⟨z.1,ht _ _ z.2.1,z.2.2⟩,ob,es,ep,k _ _ (.inl rfl) e,c⟩
 |set S n=>obtain ⟨ob,es,ep,t,e,c⟩:=x;exact ⟨ob,es,ep,t,k _ _ (.inl rfl) e,c⟩
 |ins C dx fs=>
  obtain ⟨d,z,ne,e,mA,⟨od,es,ep,e2,c⟩,r⟩:=x
  exact ⟨ho _ d,z,ne,k _ _ (.inl rfl) e,mA,⟨od,es,ep,k _ _ (.inr d) e2,c⟩,r⟩
 |own y=>obtain ⟨ob,e⟩:=x;exact ⟨ob,k _ _ (.inl rfl) e⟩
 |xd fs=>obtain ⟨mA,⟨od,es,ep,e,c⟩,r⟩:=x;exact ⟨mA,⟨od,es,ep,k _ _ (.inl rfl) e,c⟩,r⟩
 |rng lo hi=>obtain ⟨t,u,v,e⟩:=x;exact ⟨t,u,v,k _ _ (.inl rfl) e⟩
 |frz ob u ih=>obtain ⟨e,q⟩:=x;exact ⟨k _ _ (.inl rfl) e,ih q⟩
 |tbl ps=>
  have e:h.get? a=some {cls:= .none,data:= .fields ps}:=x
  show h'.get? a=some {cls:= .none,data:= .fields ps}
  exact k a _ (.inl rfl) e
 |met f y=>
  have e:h.get? a=some (PySem.W.methodObj (.ref f) (.ref y)):=x
  show h'.get? a=some (PySem.W.methodObj (.ref f) (.ref y))
  exact k a _ (.inl rfl) e
 |ext φ=>obtain ⟨p,⟨o,e⟩,st⟩:=x;exact ⟨st _ _ p fun o q=>k _ _ (.inl rfl) q,⟨o,k _ _ (.inl rfl) e⟩,st⟩
theorem HOk.lt (x:HOk P w H h) (e:H a=some o):a<h.objs.size:=(x a o e).lt
theorem HOk.fresh (x:HOk P w H h) (e:h.objs.size≤a):H a=none:=by
 cases q:H a with
 |none=>rfl
 |some u=>exact absurd (Nat.lt_of_lt_of_le (x.lt q) e) (Nat.lt_irrefl _)
theorem HOk.kept (x:HOk P w H h) (k:∀ b u,h.get? b=some u→h'.get? b=some u):HOk P w H h':=fun a o e=>
 (x a o e).stay (fun b u _ q=>k b u q) (fun _ q=>q) fun _ _ q=>q
theorem HOk.laid (x:HOk P w H h) (k:∀ b u,h.get? b=some u→h'.get? b=some u) (hp:h.objs.size≤a) (new:ObjOk P w (upd H a o) h' a o):HOk P w (upd H a o) h':=fun b u e=>by
 have hn:=x.fresh hp
 by_cases hb:b=a
 ·subst hb;rw [upd_same] at e;cases e;exact new
 ·rw [upd_ne hb] at e
  exact (x b u e).stay (fun c v _ q=>k c v q) (fun c q=>by rw [upd_ne (ne_of_none q hn)];exact q) fun c xs q=>by rw [upd_ne (ne_of_none q hn)];exact q
end
def Rd (H:Hp) (a:Addr) (u:HO):Prop:=H a=some u∨∃ o,H a=some (.frz o u)
theorem Rd.of {H:Hp} {a:Addr} {u:HO} (h:H a=some u):Rd H a u:= .inl h
theorem Rd.ok {P:Program} {w:World} {H:Hp} {h:Heap} {a:Addr} {u:HO} (r:Rd H a u) (x:HOk P w H h):ObjOk P w H h a u:=by
 rcases r with r|⟨o,r⟩
 ·exact x a u r
 ·obtain ⟨_,q⟩:=x a _ r
  exact q
def Mut:Option HO→Prop
 |some (.lst _)=>True
 |some (.dK _)=>True
 |some (.dT _)=>True
 |some (.set _ _)=>True
 |some (.ins _ _ _)=>True
 |some (.ext _)=>True
 |_=>False
section
variable {P:Program} {w:World} {H:Hp} {h h':Heap} {x e:Addr} {o':HO}
theorem HOk.write (ok:HOk P w H h) (mu:Mut (H x)) (he:e=x∨H e=some (.own x)) (k:∀ b u,b≠e→h.get? b=some u→h'.get? b=some u) (heo:∃ u,h'.get? e=some u)
  (new:ObjOk P w (upd H x o') h' x o'):HOk P w (upd H x o') h':=fun b u q=>by
 have nown:∀ c y,H c=some (.own y)→c≠x:=fun c y r z=>by subst z;rw [r] at mu;exact mu
 have ntup:∀ c xs,H c=some (.tup xs)→c≠x:=fun c xs r z=>by subst z;rw [r] at mu;exact mu
 by_cases hb:b=x
 ·subst hb;rw [upd_same] at q;cases q;exact new
 ·rw [upd_ne hb] at q
  by_cases hbe:b=e
  ·have q':H b=some (.own x):=by
    rcases he with z|z
    ·exact absurd (hbe.trans z) hb
    ·rw [hbe];exact z
   rw [q] at q';cases q'
   obtain ⟨v,hv⟩:=heo
   exact ⟨v,by rw [hbe];exact hv⟩
  ·refine (ok b u q).stay (fun c v hc r=>k c v ?_ r) (fun c r=>by rw [upd_ne (nown c b r)];exact r) fun c xs r=>by rw [upd_ne (ntup c xs r)];exact r
   rcases hc with rfl|hc
   ·exact hbe
   ·rintro rfl
    rcases he with z|z
    ·exact nown c b hc z
    ·rw [hc] at z;cases z;exact hb rfl
end
structure Un (fs ex:List Addr) (H H':Hp) (h h':Heap):Prop where
 keep:∀ b o,h.get? b=some o→H b=none→b∉fs→b∉ex→h'.get? b=some o
 slot:∀ b o,h.get? b=some o→H b=none→b∈fs→b∉ex→∃ sl,h'.get? b=some {o with slots:=sl}
 free:∀ b o,h.get? b=some o→H b=none→b∉ex→H' b=none
 there:∀ b o,h.get? b=some o→b∉ex→∃ o',h'.get? b=some o'
 tups:∀ b xs,H b=some (.tup xs)→H' b=some (.tup xs)
 frzs:∀ b o u,H b=some (.frz o u)→H' b=some (.frz o u)
 tbls:∀ b ps,H b=some (.tbl ps)→∃ more,H' b=some (.tbl (ps++more))
section
variable {fs fs' ex ex':List Addr} {H H1 H2:Hp} {h h1 h2 h':Heap} {a x e:Addr} {o:HO}
theorem Un.any (u:Un fs ex H H1 h h1) {b:Addr} {ob:Obj} (q:h.get? b=some ob) (n:H b=none) (hx:b∉ex):∃ sl,h1.get? b=some {ob with slots:=sl}:=by
 by_cases hb:b∈fs
 ·exact u.slot b ob q n hb hx
 ·exact ⟨ob.slots,u.keep b ob q n hb hx⟩
theorem Un.trans (a:Un fs ex H H1 h h1) (b:Un fs ex H1 H2 h1 h2):Un fs ex H H2 h h2 where
 keep:=fun c ob q n hc hx=>b.keep c ob (a.keep c ob q n hc hx) (a.free c ob q n hx) hc hx
 slot:=fun c ob q n hc hx=>by
  obtain ⟨sl,e1⟩:=a.slot c ob q n hc hx
  obtain ⟨sl',e2⟩:=b.slot c _ e1 (a.free c ob q n hx) hc hx
  exact ⟨sl',e2⟩
 free:=fun c ob q n hx=>by
  obtain ⟨o',e1⟩:=a.there c ob q hx
  exact b.free c o' e1 (a.free c ob q n hx) hx
 there:=fun c ob q hx=>by
  obtain ⟨o',e1⟩:=a.there c ob q hx
  exact b.there c o' e1 hx
 tups:=fun c xs q=>b.tups c xs (a.tups c xs q)
 frzs:=fun c ob xs q=>b.frzs c ob xs (a.frzs c ob xs q)
 tbls:=fun c ps q=>by
  obtain ⟨m1,e1⟩:=a.tbls c ps q
  obtain ⟨m2,e2⟩:=b.tbls c _ e1
  exact ⟨m1++m2,by rw [e2,Array.append_assoc]⟩
theorem Un.kept (k:∀ b u,h.get? b=some u→h'.get? b=some u):Un fs ex H H h h':=
 ⟨fun b ob q _ _ _=>k b ob q,fun b ob q _ _ _=>⟨ob.slots,k b ob q⟩,fun _ _ _ n _=>n,fun b ob q _=>⟨ob,k b ob q⟩,fun _ _ q=>q,fun _ _ _ q=>q,fun _ ps q=>⟨#[],by rw [q];simp⟩⟩
theorem Un.refl:Un fs ex H H h h:=Un.kept fun _ _ q=>q
theorem Un.laid (k:∀ b u,h.get? b=some u→h'.get? b=some u) (hp:h.objs.size≤a) (hn:H a=none):Un fs ex H (upd H a o) h h' where
 keep:=fun b u q _ _ _=>k b u q
 slot:=fun b u q _ _ _=>⟨u.slots,k b u q⟩
 free:=fun b u q n _=>by rw [upd_ne (Nat.ne_of_lt (Nat.lt_of_lt_of_le (Heap.lt_size q) hp))];exact n
 there:=fun b u q _=>⟨u,k b u q⟩
 tups:=fun b xs q=>by rw [upd_ne (ne_of_none q hn)];exact q
 frzs:=fun b u xs q=>by rw [upd_ne (ne_of_none q hn)];exact q
 tbls:=fun b ps q=>⟨#[],by rw [upd_ne (ne_of_none q hn),q];simp⟩
theorem Un.write (mu:Mut (H x)) (he:e=x∨H e=some (.own x)) (k:∀ b u,b≠e→h.get? b=some u→h'.get? b=some u) (heo:∃ u,h'.get? e=some u):Un fs ex H (upd H x o) h h':=by
 have hx:∀ b,H b=none→b≠x:=fun b n z=>by subst z;rw [n] at mu;exact mu
 have hb:∀ b,H b=none→b≠e:=fun b n z=>by
  subst z
  rcases he with r|r
  ·exact hx b n r
  ·rw [n] at r;cases r
 have hm:∀ b u,H b=some u→¬ Mut (some u)→b≠x:=fun b u q nm z=>by subst z;rw [q] at mu;exact nm mu
 refine ⟨fun b u q n _ _=>k b u (hb b n) q,fun b u q n _ _=>⟨u.slots,k b u (hb b n) q⟩,fun b u q n _=>by rw [upd_ne (hx b n)];exact n,fun b u q _=> ?_,
  fun b xs q=>by rw [upd_ne (hm b _ q fun z=>z)];exact q,fun b u xs q=>by rw [upd_ne (hm b _ q fun z=>z)];exact q,fun b ps q=>⟨#[],by rw [upd_ne (hm b _ q fun z=>z),q];simp⟩⟩
 by_cases hbe:b=e
 ·subst hbe;exact heo
 ·exact ⟨u,k b u hbe q⟩
theorem Un.mono (u:Un fs ex H H1 h h1) (hs:∀ b∈fs,b∈fs') (hx:∀ b∈ex,b∈ex'):Un fs' ex' H H1 h h1:=
 ⟨fun b ob q n hb he=>u.keep b ob q n (fun z=>hb (hs b z)) fun z=>he (hx b z),fun _ _ q n _ he=>u.any q n fun z=>he (hx _ z),fun b ob q n he=>u.free b ob q n fun z=>he (hx b z),fun b ob q he=>u.there b ob q fun z=>he (hx b z),u.tups,u.frzs,u.tbls⟩
end
def trk (h:Heap) (H:Hp):List Addr:=(List.range h.objs.size).filter fun a=>(H a).isSome
def hidT (h:Heap) (H:Hp):Heap:=PySem.W.hideAll h (trk h H)
theorem hidT_size (h:Heap) (H:Hp):(hidT h H).objs.size=h.objs.size:=PySem.W.hideAll_size _ _
theorem hidT_get {h:Heap} {H:Hp} {b:Addr} {o:Obj} (e:h.get? b=some o) (n:H b=none):(hidT h H).get? b=some o:=
 PySem.W.hideAll_get _ e fun hm=>by
  have q:(H b).isSome=true:=(List.mem_filter.mp hm).2
  rw [n] at q;simp at q
theorem of_hidT {h:Heap} {H:Hp} {b:Addr} {o:Obj} (e:(hidT h H).get? b=some o):h.get? b=some o∧H b=none:=by
 have e':h.get? b=some o:=PySem.W.of_hideAll (trk h H) e
 refine ⟨e',?_⟩
 cases q:H b with
 |none=>rfl
 |some x=>
  have hm:b∈trk h H:=List.mem_filter.mpr ⟨List.mem_range.mpr (Heap.lt_size e'),by simp [q]⟩
  have z:(hidT h H).get? b=none:=PySem.W.hideAll_none (trk h H) hm
  rw [z] at e;cases e
def allNews (g h:Heap) (L:Addr):List (Addr×Obj):=(List.range h.objs.size).filterMap fun a=>if a=L∨(g.get? a).isSome=true then none else (h.get? a).map fun o=>(a,o)
def rest (g h:Heap) (L d:Addr):List (Addr×Obj):=(allNews g h L).filter fun p=>decide (p.1≠d)
end L2
namespace L2
open PySem PySem.Spec PyProof.Rows
structure Mod (K:PySem.W.Frag) (mg:Str→Option Value) (base:Heap):Prop where
 kin:K.In base
 glob:base.Ns mainGlobals mg
 blt:∃ mb,base.Ns builtinsNs mb∧∀ x:Str,x≠"__name__"→mb x=bootBuiltins x
 nolimit:base.NoLimit
structure Cx where
 prog:Program
 w:World
 K:PySem.W.Frag
 mg:Str→Option Value
 base:Heap
 A:Around
 N:List Str
 s₀:Shared
 H₀:Hp
 env:Env
 outer:List Env
 stack:List Env
 ex:List Addr
 fn:Str→Bool
 calm:Bool
 pn:List (Addr×Obj)
 xe:Value→Shared→Prop
def frs (l:List Env):List Addr:=l.filterMap (·.frame)
abbrev Cx.fs (X:Cx):List Addr:=frs X.outer
def Vis (sc:Scope) (x:Str):Prop:=sc.names.lookup x=some .local∨sc.names.lookup x=some .cell∨sc.names.lookup x=some .free
def Loc (sc:Scope) (x:Str):Prop:=sc.names.lookup x=some .local∨sc.names.lookup x=some .cell
def Look (env:Env) (h:Heap) (m:Str→Option Value) (x:Str) (u:Value):Prop:=
 (env.kindOf x=some .local∧m x=some u)∨((env.kindOf x=some .cell∨env.kindOf x=some .free)∧∃ c,env.cells.lookup x=some c∧h.IsCell c (some u))
structure Cx.Ok (X:Cx):Prop where
 mod:Mod X.K X.mg X.base
 kind:X.env.scope.kind= .function
 glob:X.env.globals=mainGlobals
 blt:X.env.builtins=builtinsNs
 above:X.s₀.heap.objs.size≤X.env.locals
 inj:∀ x y c,X.env.cells.lookup x=some c→X.env.cells.lookup y=some c→x=y
 has:∀ x,(X.env.kindOf x=some .cell∨X.env.kindOf x=some .free)→∃ c,X.env.cells.lookup x=some c
 cab:∀ x c,X.fn x=true→X.env.cells.lookup x=some c→X.s₀.heap.objs.size≤c
 hd:X.calm=true→X.A.handled=none
 frames:X.A.frames=some X.stack
 stk:X.stack=X.outer∨(X.stack=X.env::X.outer∧X.env.frame=some X.env.locals)
 exf:∀ b∈X.ex,b≠X.env.locals∧∀ x c,X.env.cells.lookup x=some c→c≠b
 bs:∀ b o,X.base.get? b=some o→X.s₀.heap.get? b=some o∧X.H₀ b=none
 bsz:X.base.objs.size≤X.s₀.heap.objs.size
 noex:∀ b o,X.base.get? b=some o→b∉X.ex
 exfs:∀ b∈X.ex,b∉X.fs
 funs:X.s₀.heap.FunFrames X.base X.outer
 frf:∀ b∈X.fs,X.H₀ b=none
structure Inv (X:Cx) (pins:List (Addr×Obj)) (σ:List (Option V)) (H:Hp) (s:Shared):Prop where
 ok:X.Ok
 os:s.os=X.s₀.os
 bare:AllBare s.gens
 base:Un X.fs X.ex X.H₀ H X.s₀.heap s.heap
 loc:∃ m,s.heap.Ns X.env.locals m∧∀ (i:Nat) (x:Str) (v:V),X.N[i]? =some x→σ[i]? =some (some v)→Vis X.env.scope x→∃ u,RelV v u∧Look X.env s.heap m x u
 cell:∀ x c,X.env.cells.lookup x=some c→∃ v,s.heap.IsCell c v
 free:H X.env.locals=none
 freeC:∀ x c,X.env.cells.lookup x=some c→H c=none
 pin:∀ p∈X.pn++pins,s.heap.get? p.1=some p.2∧H p.1=none∧p.1≠X.env.locals∧p.1∉X.fs∧∀ v,p.2.data≠ .cell v
 hok:HOk X.prog X.w H s.heap
 len:σ.length=X.N.length
section
variable {X:Cx} {pins:List (Addr×Obj)} {σ:List (Option V)} {H H':Hp} {s:Shared} {h':Heap}
theorem Cx.Ok.nofr (ok:X.Ok) {b:Addr} {o:Obj} (e:X.base.get? b=some o):b∉X.fs:=fun hb=>by
 have:=(ok.funs.mem hb).1
 rw [e] at this;cases this
theorem Inv.bs (I:Inv X pins σ H s):∀ b o,X.base.get? b=some o→s.heap.get? b=some o∧H b=none:=fun b o e=>
 ⟨I.base.keep b o (I.ok.bs b o e).1 (I.ok.bs b o e).2 (I.ok.nofr e) (I.ok.noex b o e),I.base.free b o (I.ok.bs b o e).1 (I.ok.bs b o e).2 (I.ok.noex b o e)⟩
theorem Inv.bk (I:Inv X pins σ H s):∀ b o,X.base.get? b=some o→s.heap.get? b=some o:=fun b o e=>(I.bs b o e).1
theorem Inv.mod (I:Inv X pins σ H s):Mod X.K X.mg X.base:=I.ok.mod
theorem Inv.kIn (I:Inv X pins σ H s):X.K.In s.heap:=I.ok.mod.kin.keeps I.bk
theorem Inv.nolimit (I:Inv X pins σ H s):s.heap.NoLimit:=I.ok.mod.nolimit.keeps I.bk
theorem Inv.fr (I:Inv X pins σ H s):∃ m,Fr X.base X.env.locals s.heap m:=
 let ⟨m,hn,_⟩:=I.loc
 ⟨m,hn,I.bk,Nat.le_trans I.ok.bsz I.ok.above⟩
theorem Inv.lt (I:Inv X pins σ H s):X.env.locals<s.heap.objs.size:=let ⟨_,hn,_⟩:=I.loc;hn.lt
theorem Inv.sz (I:Inv X pins σ H s):X.s₀.heap.objs.size≤s.heap.objs.size:=Nat.le_trans I.ok.above (Nat.le_of_lt I.lt)
theorem Inv.nofs (I:Inv X pins σ H s) {a:Addr} (h:s.heap.objs.size≤a):a∉X.fs:=fun hb=>by
 obtain ⟨_,o,ho,_⟩:=I.ok.funs.mem hb
 exact absurd (Nat.lt_of_lt_of_le (Heap.lt_size ho) (Nat.le_trans I.sz h)) (Nat.lt_irrefl _)
theorem Inv.cne (I:Inv X pins σ H s):∀ x c,X.env.cells.lookup x=some c→c≠X.env.locals:=fun x c e z=>by
 obtain ⟨v,o,ho,hd⟩:=I.cell x c e
 obtain ⟨m,⟨o',es,ep,ho',hd',_⟩,_⟩:=I.loc
 rw [z,ho'] at ho;cases ho;rw [hd'] at hd;cases hd
theorem Inv.funs (I:Inv X pins σ H s):s.heap.FunFrames X.base X.outer:=by
 have all:∀ (l:List Env),(∀ b∈frs l,b∈X.fs)→X.s₀.heap.FunFrames X.base l→s.heap.FunFrames X.base l:=by
  intro l
  induction l with
  |nil=>intro _ _;trivial
  |cons env r ih=>
   intro hs hl
   obtain ⟨hk,⟨L,o,hf,hn,ho,hd⟩,hr⟩:=hl
   have hL:L∈X.fs:=hs L (by unfold frs;rw [List.filterMap_cons,hf];exact List.mem_cons_self)
   obtain ⟨sl,e⟩:=I.base.slot L o ho (I.ok.frf L hL) hL fun z=>I.ok.exfs L z hL
   exact ⟨hk,⟨L,_,hf,hn,e,hd⟩,ih (fun b hb=>hs b (by unfold frs;rw [List.filterMap_cons,hf];exact List.mem_cons_of_mem _ hb)) hr⟩
 exact all X.outer (fun _ hb=>hb) I.ok.funs
theorem Inv.stack (I:Inv X pins σ H s):s.heap.FunFrames X.base X.stack:=by
 rcases I.ok.stk with e|⟨e,hf⟩
 ·rw [e];exact I.funs
 ·rw [e]
  obtain ⟨m,hn,_⟩:=I.loc
  refine .cons (by rw [I.ok.kind];decide) hf hn ?_ I.funs
  exact Heap.get?_none_of_le (Nat.le_trans I.ok.bsz I.ok.above)
theorem Inv.stkSub (I:Inv X pins σ H s):∀ b∈frs X.stack,b∈X.env.locals::X.fs:=fun b hb=>by
 rcases I.ok.stk with e|⟨e,hf⟩
 ·rw [e] at hb;exact List.mem_cons_of_mem _ hb
 ·rw [e] at hb
  unfold frs at hb
  rw [List.filterMap_cons,hf] at hb
  exact hb
theorem Inv.stkFree (I:Inv X pins σ H s):∀ b∈frs X.stack,H b=none:=fun b hb=>by
 rcases List.mem_cons.mp (I.stkSub b hb) with e|hb
 ·rw [e];exact I.free
 ·obtain ⟨_,o,ho,_⟩:=I.ok.funs.mem hb
  exact I.base.free b o ho (I.ok.frf b hb) fun z=>I.ok.exfs b z hb
theorem Inv.step {g':Array GenState} {t':Nat} {d':Drawn} {ch:List Addr} (I:Inv X pins σ H s)
  (hch:∀ b∈ch,(b∈X.ex∨X.s₀.heap.objs.size≤b)∧b≠X.env.locals∧(∀ x c,X.env.cells.lookup x=some c→c≠b)∧∀ p∈X.pn++pins,p.1≠b)
  (keep:∀ b o,b≠X.env.locals→b∉X.fs→b∉ch→s.heap.get? b=some o→H b=none→h'.get? b=some o)
  (slot:∀ b o,b≠X.env.locals→b∈X.fs→b∉ch→s.heap.get? b=some o→H b=none→∃ sl,h'.get? b=some {o with slots:=sl}) (free:∀ b o,b∉ch→s.heap.get? b=some o→H b=none→H' b=none)
  (there:∀ b o,b∉ch→s.heap.get? b=some o→∃ o',h'.get? b=some o')
  (tups:∀ b xs,H b=some (.tup xs)→H' b=some (.tup xs)) (frzs:∀ b o u,H b=some (.frz o u)→H' b=some (.frz o u)) (tbls:∀ b ps,H b=some (.tbl ps)→∃ more,H' b=some (.tbl (ps++more)))
  (ns:∀ m,s.heap.Ns X.env.locals m→h'.Ns X.env.locals m) (hok:HOk X.prog X.w H' h') (hg:AllBare g'):
  Inv X pins σ H' {s with heap:=h',gens:=g',drawn:=d',toks:=t'}:=by
 have neL:∀ b o,X.s₀.heap.get? b=some o→b≠X.env.locals:=fun b o e=>Nat.ne_of_lt (Nat.lt_of_lt_of_le (Heap.lt_size e) I.ok.above)
 have neC:∀ b o,X.s₀.heap.get? b=some o→b∉X.ex→b∉ch:=fun b o e hx hb=>by
  rcases (hch b hb).1 with z|z
  ·exact hx z
  ·exact absurd (Nat.lt_of_lt_of_le (Heap.lt_size e) z) (Nat.lt_irrefl _)
 have cellK:∀ x c,X.env.cells.lookup x=some c→∀ v,s.heap.IsCell c v→h'.IsCell c v:=fun x c e v ⟨o,ho,hd⟩=>by
  have nch:c∉ch:=fun z=>(hch c z).2.2.1 x c e rfl
  by_cases hc:c∈X.fs
  ·obtain ⟨sl,q⟩:=slot c o (I.cne x c e) hc nch ho (I.freeC x c e)
   exact ⟨_,q,hd⟩
  ·exact ⟨o,keep c o (I.cne x c e) hc nch ho (I.freeC x c e),hd⟩
 refine ⟨I.ok,I.os,hg,⟨fun b o e n hb hx=> ?_,fun b o e n hb hx=> ?_,fun b o e n hx=> ?_,fun b o e hx=> ?_,fun b xs e=>tups b xs (I.base.tups b xs e),fun b o xs e=>frzs b o xs (I.base.frzs b o xs e),fun b ps e=> ?_⟩,?_,fun x c e=> ?_,?_,fun x c e=> ?_,fun p hp=> ?_,hok,I.len⟩
 ·exact keep b o (neL b o e) hb (neC b o e hx) (I.base.keep b o e n hb hx) (I.base.free b o e n hx)
 ·obtain ⟨sl,e1⟩:=I.base.slot b o e n hb hx
  obtain ⟨sl',e2⟩:=slot b _ (neL b o e) hb (neC b o e hx) e1 (I.base.free b o e n hx)
  exact ⟨sl',e2⟩
 ·obtain ⟨o',e1⟩:=I.base.there b o e hx
  exact free b o' (neC b o e hx) e1 (I.base.free b o e n hx)
 ·obtain ⟨o',e1⟩:=I.base.there b o e hx
  exact there b o' (neC b o e hx) e1
 ·obtain ⟨m1,e1⟩:=I.base.tbls b ps e
  obtain ⟨m2,e2⟩:=tbls b _ e1
  exact ⟨m1++m2,by rw [e2,Array.append_assoc]⟩
 ·obtain ⟨m,hn,hl⟩:=I.loc
  refine ⟨m,ns m hn,fun i x v e1 e2 e3=> ?_⟩
  obtain ⟨u,r,l⟩:=hl i x v e1 e2 e3
  refine ⟨u,r,?_⟩
  rcases l with l|⟨k,c,e,z⟩
  ·exact .inl l
  ·exact .inr ⟨k,c,e,cellK x c e _ z⟩
 ·obtain ⟨v,z⟩:=I.cell x c e
  exact ⟨v,cellK x c e v z⟩
 ·obtain ⟨m,⟨o,_,_,ho,_⟩,_⟩:=I.loc
  exact free _ o (fun z=>(hch _ z).2.1 rfl) ho I.free
 ·obtain ⟨v,o,ho,hd⟩:=I.cell x c e
  exact free c o (fun z=>(hch c z).2.2.1 x c e rfl) ho (I.freeC x c e)
 ·obtain ⟨e,n,ne,nf,d⟩:=I.pin p hp
  have nch:p.1∉ch:=fun z=>(hch p.1 z).2.2.2 p hp rfl
  exact ⟨keep p.1 p.2 ne nf nch e n,free p.1 p.2 nch e n,ne,nf,d⟩
theorem Inv.un {t':Nat} (I:Inv X pins σ H s) (u:Un X.fs [] H H' s.heap h') (hok:HOk X.prog X.w H' h'):Inv X pins σ H' {s with heap:=h',toks:=t'}:=by
 obtain ⟨m,⟨o,es,ep,ho,r⟩,_⟩:=id I.loc
 obtain ⟨sl,hL⟩:=u.any ho I.free (by simp)
 exact I.step (g':=s.gens) (d':=s.drawn) (ch:= []) (fun _ z=>nomatch z) (fun b o _ hb _ e n=>u.keep b o e n hb (by simp)) (fun b o _ hb _ e n=>u.slot b o e n hb (by simp)) (fun b o _ e n=>u.free b o e n (by simp)) (fun b o _ e=>u.there b o e (by simp)) u.tups u.frzs u.tbls (fun m' hm=>by
  obtain ⟨o',es',ep',ho',r'⟩:=hm
  rw [ho] at ho';cases ho'
  exact ⟨_,es',ep',hL,r'⟩) hok I.bare
theorem Inv.call {g':Array GenState} {t':Nat} {d':Drawn} {ch:List Addr} (I:Inv X pins σ H s) (u:Un (frs X.stack) ch H H' s.heap h') (hok:HOk X.prog X.w H' h') (hg:AllBare g')
  (hch:∀ b∈ch,(b∈X.ex∨X.s₀.heap.objs.size≤b)∧b≠X.env.locals∧(∀ x c,X.env.cells.lookup x=some c→c≠b)∧∀ p∈X.pn++pins,p.1≠b):
  Inv X pins σ H' {s with heap:=h',gens:=g',drawn:=d',toks:=t'}:=by
 obtain ⟨m,⟨o,es,ep,ho,r⟩,_⟩:=id I.loc
 obtain ⟨sl,hL⟩:=u.any ho I.free fun z=>(hch _ z).2.1 rfl
 exact I.step (ch:=ch) hch (fun b o hL hb hc e n=>u.keep b o e n (fun z=>(List.mem_cons.mp (I.stkSub b z)).elim hL hb) hc) (fun b o _ _ hc e n=>u.any e n hc) (fun b o hc e n=>u.free b o e n hc) (fun b o hc e=>u.there b o e hc) u.tups u.frzs u.tbls (fun m' hm=>by
  obtain ⟨o',es',ep',ho',r'⟩:=hm
  rw [ho] at ho';cases ho'
  exact ⟨_,es',ep',hL,r'⟩) hok hg
theorem Inv.turned {t':Nat} {it:Addr} (I:Inv X pins σ H s) (k:∀ b o,b≠it→s.heap.get? b=some o→h'.get? b=some o) (hn:H it=none) (hL:it≠X.env.locals)
  (h1:it∈X.ex∨X.s₀.heap.objs.size≤it) (h2:∀ x c,X.env.cells.lookup x=some c→c≠it) (h3:∀ p∈X.pn++pins,p.1≠it):Inv X pins σ H {s with heap:=h',toks:=t'}:=by
 have nit:∀ b u,H b=some u→b≠it:=fun b u e z=>by rw [z,hn] at e;cases e
 refine I.step (g':=s.gens) (d':=s.drawn) (ch:= [it]) (fun b hb=> ?_) (fun b o _ _ hc e _=>k b o (fun z=>hc (by simp [z])) e) (fun b o _ _ hc e _=>⟨o.slots,k b o (fun z=>hc (by simp [z])) e⟩) (fun _ _ _ _ n=>n)
  (fun b o hc e=>⟨o,k b o (fun z=>hc (by simp [z])) e⟩) (fun _ _ e=>e) (fun _ _ _ e=>e) (fun b ps e=>⟨#[],by rw [e];simp⟩) (fun m hm=> ?_) (fun b u e=> ?_) I.bare
 ·have e:b=it:=by simpa using hb
  subst e
  exact ⟨h1,hL,h2,h3⟩
 ·obtain ⟨o,es,ep,ho,r⟩:=hm
  exact ⟨o,es,ep,k _ o (Ne.symm hL) ho,r⟩
 ·refine (I.hok b u e).stay (fun c v hc q=>k c v ?_ q) (fun _ q=>q) fun _ _ q=>q
  rcases hc with z|z
  ·rw [z];exact nit b u e
  ·exact nit c _ z
theorem Inv.tok (I:Inv X pins σ H s) (t:Nat):Inv X pins σ H {s with toks:=t}:=I.un (h':=s.heap) (t':=t) Un.refl I.hok
theorem Inv.kept {t':Nat} (I:Inv X pins σ H s) (k:∀ b u,s.heap.get? b=some u→h'.get? b=some u):Inv X pins σ H {s with heap:=h',toks:=t'}:=I.un (Un.kept k) (I.hok.kept k)
theorem Inv.laid {a:Addr} {o:HO} {t':Nat} (I:Inv X pins σ H s) (k:∀ b u,s.heap.get? b=some u→h'.get? b=some u) (hp:s.heap.objs.size≤a) (new:ObjOk X.prog X.w (upd H a o) h' a o):
  Inv X pins σ (upd H a o) {s with heap:=h',toks:=t'}:=I.un (Un.laid k hp (I.hok.fresh hp)) (I.hok.laid k hp new)
theorem Inv.write {x e:Addr} {o:HO} {t':Nat} (I:Inv X pins σ H s) (mu:Mut (H x)) (he:e=x∨H e=some (.own x)) (k:∀ b u,b≠e→s.heap.get? b=some u→h'.get? b=some u) (heo:∃ u,h'.get? e=some u)
  (new:ObjOk X.prog X.w (upd H x o) h' x o):Inv X pins σ (upd H x o) {s with heap:=h',toks:=t'}:=I.un (Un.write mu he k heo) (I.hok.write mu he k heo new)
theorem Inv.weak {σ':List (Option V)} (I:Inv X pins σ H s) (hl:σ'.length=σ.length) (w:∀ (i:Nat) v,σ'[i]? =some (some v)→σ[i]? =some (some v)):Inv X pins σ' H s:=
 ⟨I.ok,I.os,I.bare,I.base,let ⟨m,hn,hl'⟩:=I.loc;⟨m,hn,fun i x v e1 e2 e3=>hl' i x v e1 (w i v e2) e3⟩,I.cell,I.free,I.freeC,I.pin,I.hok,hl.trans I.len⟩
theorem Inv.pins_of {pins':List (Addr×Obj)} (I:Inv X pins σ H s) (h:∀ p∈pins',s.heap.get? p.1=some p.2∧H p.1=none∧p.1≠X.env.locals∧p.1∉X.fs∧∀ v,p.2.data≠ .cell v):Inv X pins' σ H s:=
 ⟨I.ok,I.os,I.bare,I.base,I.loc,I.cell,I.free,I.freeC,fun p hp=>(List.mem_append.mp hp).elim (fun z=>I.pin p (List.mem_append_left _ z)) (h p),I.hok,I.len⟩
theorem nodup_ix {N:List Str} (hN:N.Nodup) {i j:Nat} {x:Str} (a:N[i]? =some x) (b:N[j]? =some x):i=j:=by
 obtain ⟨h1,e1⟩:=List.getElem?_eq_some_iff.mp a
 obtain ⟨h2,e2⟩:=List.getElem?_eq_some_iff.mp b
 exact (List.getElem_inj hN).mp (e1.trans e2.symm)
theorem store_ok2 {M:Model} {A:Around} {E:Value→Shared→Prop} {i:Nat} {x:Str} {v:V} {u:Value} {Q:Unit→Shared→Prop} (I:Inv X pins σ H s) (hN:X.N.Nodup) (hi:X.N[i]? =some x) (hx:Loc X.env.scope x) (r:RelV v u)
  (h:∀ s',Inv X pins (σ.set i (some v)) H s'→(∃ a,Heap.SameBut a s.heap s'.heap∧(a=X.env.locals∨X.env.cells.lookup x=some a))→Q () s') (hf:X.fn x=true∨X.env.scope.names.lookup x=some .local:=by first|exact .inl rfl|exact .inr rfl|assumption):wpAny M A (storeName X.env x u) Q E s:=by
 obtain ⟨m,hn,hl⟩:=id I.loc
 have hcls:(X.env.scope.kind== .class||(X.env.scope.kind== .module&&X.env.locals != X.env.globals))=false:=by rw [I.ok.kind];rfl
 have hiσ:i<σ.length:=by rw [I.len];exact (List.getElem?_eq_some_iff.mp hi).1
 have cne:=I.cne
 have tracked:∀ {a:Addr} {h':Heap},(∃ o,s.heap.get? a=some o∧H a=none)→Heap.SameBut a s.heap h'→HOk X.prog X.w H h':=fun {a h'} ha hs b ob e=>by
  obtain ⟨_,_,hfree⟩:=ha
  refine (I.hok b ob e).stay (fun c w' hc q=>(hs.2 c ?_).trans q) (fun _ q=>q) fun _ _ q=>q
  rintro rfl
  rcases hc with rfl|hc
  ·rw [hfree] at e;cases e
  ·rw [hfree] at hc;cases hc
 rcases hx with hk|hk
 ·refine wpAny_storeName_local hk hn (fun h' hn' hs=> ?_) hcls
  obtain ⟨oL,_,_,hoL,_⟩:=id hn
  refine h _ ⟨I.ok,I.os,I.bare,⟨fun b o e n hb hx=> ?_,fun b o e n hb hx=> ?_,I.base.free,fun b o e hx=> ?_,I.base.tups,I.base.frzs,I.base.tbls⟩,⟨_,hn',fun j y v' e1 e2 e3=> ?_⟩,fun y c e=> ?_,I.free,I.freeC,fun p hp=> ?_,tracked ⟨oL,hoL,I.free⟩ hs,by simpa using I.len⟩ ⟨_,hs, .inl rfl⟩
  ·exact (hs.2 b (Nat.ne_of_lt (Nat.lt_of_lt_of_le (Heap.lt_size e) I.ok.above))).trans (I.base.keep b o e n hb hx)
  ·obtain ⟨sl,e1⟩:=I.base.slot b o e n hb hx
   exact ⟨sl,(hs.2 b (Nat.ne_of_lt (Nat.lt_of_lt_of_le (Heap.lt_size e) I.ok.above))).trans e1⟩
  ·obtain ⟨o',e1⟩:=I.base.there b o e hx
   exact ⟨o',(hs.2 b (Nat.ne_of_lt (Nat.lt_of_lt_of_le (Heap.lt_size e) I.ok.above))).trans e1⟩
  ·by_cases hj:j=i
   ·subst hj
    rw [hi] at e1;cases e1
    rw [List.getElem?_set_self hiσ] at e2
    cases e2
    exact ⟨u,r, .inl ⟨hk,by simp⟩⟩
   ·rw [List.getElem?_set_ne (Ne.symm hj)] at e2
    obtain ⟨u',r',q⟩:=hl j y v' e1 e2 e3
    refine ⟨u',r',?_⟩
    rcases q with ⟨k,e⟩|⟨k,c,e,z⟩
    ·refine .inl ⟨k,?_⟩
     have:y≠x:=fun e=>hj (nodup_ix hN e1 (e▸hi))
     simp [this,e]
    ·exact .inr ⟨k,c,e,z.sameBut hs (cne y c e)⟩
  ·obtain ⟨w',z⟩:=I.cell y c e
   exact ⟨w',z.sameBut hs (cne y c e)⟩
  ·obtain ⟨e,n,ne,nf,d⟩:=I.pin p hp
   exact ⟨(hs.2 p.1 ne).trans e,n,ne,nf,d⟩
 ·have hfn:X.fn x=true:=by
   rcases hf with z|z
   ·exact z
   ·rw [z] at hk;cases hk
  obtain ⟨c,hc⟩:=I.ok.has x (.inl hk)
  obtain ⟨w',z⟩:=I.cell x c hc
  refine wpAny_storeName_cell I.ok.kind hk hc z (fun h' hc' hs=> ?_)
  obtain ⟨oc,hoc,hocd⟩:=id z
  refine h {s with heap:=h'} ⟨I.ok,I.os,I.bare,⟨fun b o e n hb hx=> ?_,fun b o e n hb hx=> ?_,I.base.free,fun b o e hx=> ?_,I.base.tups,I.base.frzs,I.base.tbls⟩,⟨m,hn.sameBut hs (Ne.symm (cne x c hc)),fun j y v' e1 e2 e3=> ?_⟩,fun y c' e=> ?_,I.free,I.freeC,fun p hp=> ?_,tracked ⟨oc,hoc,I.freeC x c hc⟩ hs,by simpa using I.len⟩ ⟨c,hs, .inr hc⟩
  ·exact (hs.2 b (Nat.ne_of_lt (Nat.lt_of_lt_of_le (Heap.lt_size e) (I.ok.cab x c hfn hc)))).trans (I.base.keep b o e n hb hx)
  ·obtain ⟨sl,e1⟩:=I.base.slot b o e n hb hx
   exact ⟨sl,(hs.2 b (Nat.ne_of_lt (Nat.lt_of_lt_of_le (Heap.lt_size e) (I.ok.cab x c hfn hc)))).trans e1⟩
  ·obtain ⟨o',e1⟩:=I.base.there b o e hx
   exact ⟨o',(hs.2 b (Nat.ne_of_lt (Nat.lt_of_lt_of_le (Heap.lt_size e) (I.ok.cab x c hfn hc)))).trans e1⟩
  ·by_cases hj:j=i
   ·subst hj
    rw [hi] at e1;cases e1
    rw [List.getElem?_set_self hiσ] at e2
    cases e2
    exact ⟨u,r, .inr ⟨.inl hk,c,hc,hc'⟩⟩
   ·rw [List.getElem?_set_ne (Ne.symm hj)] at e2
    obtain ⟨u',r',q⟩:=hl j y v' e1 e2 e3
    refine ⟨u',r',?_⟩
    rcases q with q|⟨k,c',e,z'⟩
    ·exact .inl q
    ·refine .inr ⟨k,c',e,z'.sameBut hs ?_⟩
     rintro rfl
     exact hj (nodup_ix hN e1 (I.ok.inj _ _ _ e hc▸hi))
  ·by_cases hcc:c'=c
   ·subst hcc;exact ⟨_,hc'⟩
   ·obtain ⟨w2,z2⟩:=I.cell y c' e
    exact ⟨w2,z2.sameBut hs hcc⟩
  ·obtain ⟨e,n,ne,nf,d⟩:=I.pin p hp
   refine ⟨(hs.2 p.1 ?_).trans e,n,ne,nf,d⟩
   intro q
   rw [q,hoc] at e
   have q':oc=p.2:=Option.some.inj e
   exact d w' (by rw [←q'];exact hocd)
theorem store_ok {M:Model} {A:Around} {E:Value→Shared→Prop} {i:Nat} {x:Str} {v:V} {u:Value} {Q:Unit→Shared→Prop} (I:Inv X pins σ H s) (hN:X.N.Nodup) (hi:X.N[i]? =some x) (hx:Loc X.env.scope x) (r:RelV v u)
  (h:∀ s',Inv X pins (σ.set i (some v)) H s'→Q () s') (hf:X.fn x=true∨X.env.scope.names.lookup x=some .local:=by first|exact .inl rfl|exact .inr rfl|assumption):wpAny M A (storeName X.env x u) Q E s:=
 store_ok2 I hN hi hx r (fun s' I' _=>h s' I') hf
theorem Inv.call' {s':Shared} {ch:List Addr} (I:Inv X pins σ H s) (ho:s'.os=s.os) (u:Un (frs X.stack) ch H H' s.heap s'.heap) (hok:HOk X.prog X.w H' s'.heap) (hg:AllBare s'.gens)
  (hch:∀ b∈ch,(b∈X.ex∨X.s₀.heap.objs.size≤b)∧b≠X.env.locals∧(∀ x c,X.env.cells.lookup x=some c→c≠b)∧∀ p∈X.pn++pins,p.1≠b):Inv X pins σ H' s':=by
 obtain ⟨h',g',d',t',o'⟩:=s'
 have e:o'=s.os:=ho
 subst e
 exact I.call (g':=g') (t':=t') (d':=d') u hok hg hch
end
abbrev XK:=Value→Option Addr×Bool→Hp→Prop
abbrev St:=List (Option V)
abbrev VK:=V→Hp→Prop
abbrev TE:=St→Hp→VK→Prop
abbrev TT:=St→Hp→(Bool→Hp→Prop)→Prop
abbrev TA:=St→Hp→(List V→Hp→Prop)→Prop
structure Ends where
 nx:St→Hp→Prop
 rt:VK
 bk:St→Hp→Prop:=fun _ _=>False
 ct:St→Hp→Prop:=fun _ _=>False
abbrev TS:=Ends→St→Hp→Prop
def EP (X:Cx) (pins:List (Addr×Obj)) (σ:St) (Q:VK) (u:Value) (s':Shared):Prop:=∃ v H',Inv X pins σ H' s'∧RelV v u∧Q v H'
def TP (X:Cx) (pins:List (Addr×Obj)) (σ:St) (Q:Bool→Hp→Prop) (b:Bool) (s':Shared):Prop:=∃ H',Inv X pins σ H' s'∧Q b H'
def AP (X:Cx) (pins:List (Addr×Obj)) (σ:St) (Q:List V→Hp→Prop) (us:List Value) (s':Shared):Prop:=∃ vs H',Inv X pins σ H' s'∧Vals vs us∧Q vs H'
def SP (X:Cx) (pins:List (Addr×Obj)) (D:Ends) (f:Flow) (s':Shared):Prop:=
 match f with
 | .next=>∃ σ' H',Inv X pins σ' H' s'∧D.nx σ' H'
 | .brk=>∃ σ' H',Inv X pins σ' H' s'∧D.bk σ' H'
 | .cont=>∃ σ' H',Inv X pins σ' H' s'∧D.ct σ' H'
 | .ret u=>∃ v σ' H',Inv X pins σ' H' s'∧RelV v u∧D.rt v H'
def PE (X:Cx) (e:Expr) (t:TE):Prop:=
 ∀ (pins:List (Addr×Obj)) (s:Shared) (σ:St) (H:Hp) (Q:VK),Inv X pins σ H s→t σ H Q→wpAny (model X.prog X.w) X.A (eval e X.env) (EP X pins σ Q) X.xe s
def PT (X:Cx) (e:Expr) (t:TT):Prop:=
 ∀ (pins:List (Addr×Obj)) (s:Shared) (σ:St) (H:Hp) (Q:Bool→Hp→Prop),Inv X pins σ H s→t σ H Q→wpAny (model X.prog X.w) X.A (isTrue e X.env (eval e X.env)) (TP X pins σ Q) X.xe s
def PW (X:Cx) (e:Expr) (t:TT):Prop:=
 ∀ (whole:Sem Value) (pins:List (Addr×Obj)) (s:Shared) (σ:St) (H:Hp) (Q:Bool→Hp→Prop),Inv X pins σ H s→t σ H Q→wpAny (model X.prog X.w) X.A (isTrue e X.env whole) (TP X pins σ Q) X.xe s
theorem PW.pt {X:Cx} {e:Expr} {t:TT} (h:PW X e t):PT X e t:=h _
def PA (X:Cx) (es:List Expr) (t:TA):Prop:=
 ∀ (pos:Pos) (pins:List (Addr×Obj)) (s:Shared) (σ:St) (H:Hp) (Q:List V→Hp→Prop),Inv X pins σ H s→t σ H Q→wpAny (model X.prog X.w) X.A (spliced (backTo pos (starEach es X.env))) (AP X pins σ Q) X.xe s
def PS (X:Cx) (st:Stmt) (t:TS):Prop:=
 ∀ (pins:List (Addr×Obj)) (s:Shared) (σ:St) (H:Hp) (D:Ends),Inv X pins σ H s→t D σ H→wpAny (model X.prog X.w) X.A (exec st X.env) (SP X pins D) X.xe s
def PSs (X:Cx) (st:List Stmt) (t:TS):Prop:=
 ∀ (pins:List (Addr×Obj)) (s:Shared) (σ:St) (H:Hp) (D:Ends),Inv X pins σ H s→t D σ H→wpAny (model X.prog X.w) X.A (execs st X.env) (SP X pins D) X.xe s
theorem thn {α:Type} {t:Sem α} {Q Q':α→Shared→Prop} {M:Model} {A:Around} {E:Value→Shared→Prop} {s:Shared} (h:wpAny M A t Q E s) (hQ:∀ a s,Q a s→Q' a s):wpAny M A t Q' E s:=wpAny_mono h hQ fun _ _ x=>x
end L2
namespace L2
open PySem PySem.Spec PyProof.Rows
section
variable {X:Cx}
def tVar (i:Nat):TE:=fun σ H Q=>∃ v,σ[i]? =some (some v)∧Q v H
def tC (v:V):TE:=fun _ H Q=>Q v H
theorem pe_var {i:Nat} {x:Str} {pos:Pos} (hN:X.N[i]? =some x) (hv:Vis X.env.scope x) (hd:(x==("__debug__":Str))=false:=by decide) (hcd:(x==("__classdict__":Str))=false:=by decide):PE X (.Name x pos) (tVar i):=by
 intro pins s σ H Q I h
 obtain ⟨v,e,h⟩:=h
 obtain ⟨m,hn,hl⟩:=I.loc
 obtain ⟨u,r,l⟩:=hl i x v hN e hv
 have fin:EP X pins σ Q u s:=⟨v,H,I,r,h⟩
 rcases l with ⟨hk,hm⟩|⟨hk,c,hc,hcell⟩
 ·exact wpAny_Name (wpAny_loadName_local I.ok.kind hk hn hm fin) hd
 ·rcases hk with hk|hk
  ·exact wpAny_Name (wpAny_loadName_cell I.ok.kind hk hc hcell fin) hd
  ·exact wpAny_Name (wpAny_loadName_free I.ok.kind hk hc hcell fin hcd) hd
theorem pe_int {i j pos}:PE X (.Constant (.int i) j pos) (tC (.int i)):=fun _ _ _ H _ I h=>wpAny_Constant_int ⟨.int i,H,I.tok _,⟨_,rfl⟩,h⟩
theorem pe_bl {b j pos}:PE X (.Constant (.bool b) j pos) (tC (.bl b)):=fun _ _ _ H _ I h=>Constant_bool ⟨.bl b,H,I,rfl,h⟩
theorem pe_non {j pos}:PE X (.Constant .none j pos) (tC .non):=fun _ _ _ H _ I h=>Constant_none ⟨.non,H,I,rfl,h⟩
theorem pe_str {x j pos}:PE X (.Constant (.str x) j pos) (tC (.str x)):=fun _ _ _ H _ I h=>Calls.Constant_str ⟨.str x,H,I.tok _,⟨_,rfl⟩,h⟩
def Gl (X:Cx) (x:Str):Prop:=X.env.kindOf x=some .globalImplicit
theorem ld_glob {E:Value→Shared→Prop} {pins:List (Addr×Obj)} {s:Shared} {σ:St} {H:Hp} {x:Str} {u:Value} {pos:Pos} {Q:Value→Shared→Prop} (I:Inv X pins σ H s) (hg:Gl X x) (hm:X.mg x=some u) (h:Q u s)
  (hd:(x==("__debug__":Str))=false:=by decide):wpAny (model X.prog X.w) X.A (eval (.Name x pos) X.env) Q E s:=
 Calls.Name_function_global I.ok.kind hg (Calls.loadGlobal_global (by rw [I.ok.glob];exact I.mod.glob.keeps I.bk) hm h) hd
theorem ld_blt {E:Value→Shared→Prop} {pins:List (Addr×Obj)} {s:Shared} {σ:St} {H:Hp} {x:Str} {u:Value} {pos:Pos} {Q:Value→Shared→Prop} (I:Inv X pins σ H s) (hg:Gl X x) (hm:X.mg x=none) (hv:bootBuiltins x=some u) (h:Q u s)
  (hn:x≠"__name__":=by decide) (hd:(x==("__debug__":Str))=false:=by decide):wpAny (model X.prog X.w) X.A (eval (.Name x pos) X.env) Q E s:=by
 obtain ⟨mb,h1,h2⟩:=I.mod.blt
 exact Calls.Name_function_global I.ok.kind hg (Calls.loadGlobal_builtin (by rw [I.ok.glob];exact I.mod.glob.keeps I.bk) hm (by rw [I.ok.blt];exact h1.keeps I.bk) ((h2 x hn).trans hv) h) hd
theorem pe_bltn {x:Str} {v:V} {u:Value} {pos:Pos} (hg:Gl X x) (hm:X.mg x=none) (hv:bootBuiltins x=some u) (r:RelV v u) (hn:x≠"__name__":=by decide) (hd:(x==("__debug__":Str))=false:=by decide):PE X (.Name x pos) (tC v):=
 fun _ _ _ H _ I h=>ld_blt I hg hm hv ⟨v,H,I,r,h⟩ hn hd
variable {a b:Expr} {ta tb:TE} {pos:Pos}
def PC (X:Cx) (op:CmpOp) (a b:Expr) (t:TE):Prop:=
 ∀ (pins:List (Addr×Obj)) (s:Shared) (σ:St) (H:Hp) (Q:VK),Inv X pins σ H s→t σ H Q→
  wpAny (model X.prog X.w) X.A (eval a X.env) (fun v s₁=>wpAny (model X.prog X.w) X.A (eval b X.env) (fun u s₂=>wpAny (model X.prog X.w) X.A (compareOp op v u) (EP X pins σ Q) X.xe s₂) X.xe s₁) X.xe s
theorem nobehind (b:Expr) {op:CmpOp} (h:op≠ .In) (h2:op≠ .NotIn):behindInMarks op b=false:=by
 have e1:(op==CmpOp.In)=false:=by cases op<;>first|rfl|exact absurd rfl h
 have e2:(op==CmpOp.NotIn)=false:=by cases op<;>first|rfl|exact absurd rfl h2
 cases b<;>simp [behindInMarks,e1,e2]
def tIsN (ta:TE):TE:=fun σ H Q=>ta σ H fun x H1=>Q (.bl (decide (x= .non))) H1
def tNotN (ta:TE):TE:=fun σ H Q=>ta σ H fun x H1=>Q (.bl (!decide (x= .non))) H1
theorem RelV.none_iff {x:V} {v:Value} (r:RelV x v):(v==Value.none)=decide (x= .non):=by
 cases x with
 |non=>cases r;rfl
 |bl _=>cases r;rfl
 |int _=>obtain ⟨t,rfl⟩:=r;rfl
 |str _=>obtain ⟨t,rfl⟩:=r;rfl
 |byt _=>obtain ⟨t,rfl⟩:=r;rfl
 |flt _=>obtain ⟨t,rfl⟩:=r;rfl
 |ref _=>cases r;rfl
 |ty _=>cases r;rfl
theorem pc_isN {j pos'} (ha:PE X a ta):PC X .Is a (.Constant .none j pos') (tIsN ta):=by
 intro pins s σ H Q I h
 refine thn (ha pins s σ H _ I h) fun v s1 ⟨x,H1,I1,r1,q1⟩=> ?_
 exact Constant_none (is_none_gen ⟨.bl _,H1,I1,by rw [r1.none_iff];rfl,q1⟩)
theorem pc_notN {j pos'} (ha:PE X a ta):PC X .IsNot a (.Constant .none j pos') (tNotN ta):=by
 intro pins s σ H Q I h
 refine thn (ha pins s σ H _ I h) fun v s1 ⟨x,H1,I1,r1,q1⟩=> ?_
 exact Constant_none (isnot_none_gen ⟨.bl _,H1,I1,by rw [r1.none_iff];rfl,q1⟩)
def tB (t:TE):TT:=fun σ H Q=>t σ H fun x H1=>∃ c,x= .bl c∧Q c H1
theorem pt_cmp {op:CmpOp} {t:TE} (h:PC X op a b t) (h1:behindInMarks op b=false:=by first|exact nobehind _ (by decide) (by decide)|rfl):PT X (.Compare a [op] [b] pos) (tB t):=by
 intro pins s σ H Q I hw
 refine wpAny_isTrue_Compare1 (thn (h pins s σ H _ I hw) fun v s1 h1=>thn h1 fun u s2 h2=>thn h2 fun c s3 ⟨x,H1,I1,r1,q1⟩=> ?_) h1
 obtain ⟨d,rfl,q⟩:=q1
 cases r1
 exact wpAny_truthy_bool ⟨H1,I1,q⟩
theorem pt_val {e:Expr} {t:TE} (h:PE X e t) (he:∀ whole,isTrue e X.env whole=(do let v ←whole;standAt e.pos;holding [v] (truthy v)):=by intro _;rfl):PT X e (tB t):=by
 intro pins s σ H Q I hw
 refine isTrue_plain (thn (h pins s σ H _ I hw) fun v s1 ⟨x,H1,I1,r1,q1⟩=> ?_) (he _)
 obtain ⟨d,rfl,q⟩:=q1
 cases r1
 exact wpAny_truthy_bool ⟨H1,I1,q⟩
variable {tA tB':TT} {rest:List Expr}
def tAnd (t u:TT):TT:=fun σ H Q=>t σ H fun c H1=>if c=true then u σ H1 Q else Q false H1
def tOr (t u:TT):TT:=fun σ H Q=>t σ H fun c H1=>if c=true then Q true H1 else u σ H1 Q
def tNot (t:TT):TT:=fun σ H Q=>t σ H fun c H1=>Q (!c) H1
theorem pw_and1 (ha:PT X a tA):PW X (.BoolOp .And [a] pos) tA:=by
 intro wh pins s σ H Q I h
 refine isTrue_and (thn (ha pins s σ H Q I h) fun c s1 e=> ?_)
 cases c with
 |true=>exact isTrue_and_nil e
 |false=>exact e
theorem pw_or1 (ha:PT X a tA):PW X (.BoolOp .Or [a] pos) tA:=by
 intro wh pins s σ H Q I h
 refine isTrue_or (thn (ha pins s σ H Q I h) fun c s1 e=> ?_)
 cases c with
 |false=>exact isTrue_or_nil e
 |true=>exact e
theorem pw_and (ha:PT X a tA) (hb:PW X (.BoolOp .And (b::rest) pos) tB'):PW X (.BoolOp .And (a::b::rest) pos) (tAnd tA tB'):=by
 intro wh pins s σ H Q I h
 refine isTrue_and (thn (ha pins s σ H _ I h) fun c s1 ⟨H1,I1,q1⟩=> ?_)
 cases c with
 |true=>exact hb wh pins s1 σ H1 Q I1 q1
 |false=>exact ⟨H1,I1,q1⟩
theorem pw_or (ha:PT X a tA) (hb:PW X (.BoolOp .Or (b::rest) pos) tB'):PW X (.BoolOp .Or (a::b::rest) pos) (tOr tA tB'):=by
 intro wh pins s σ H Q I h
 refine isTrue_or (thn (ha pins s σ H _ I h) fun c s1 ⟨H1,I1,q1⟩=> ?_)
 cases c with
 |true=>exact ⟨H1,I1,q1⟩
 |false=>exact hb wh pins s1 σ H1 Q I1 q1
theorem pt_not (ha:PT X a tA):PT X (.UnaryOp .Not a pos) (tNot tA):=by
 intro pins s σ H Q I h
 exact isTrue_not (ha pins s σ H (fun c H1=>Q (!c) H1) I h)
def tIf (t:TT) (ta tb:TE):TE:=fun σ H Q=>t σ H fun c H1=>if c=true then ta σ H1 Q else tb σ H1 Q
theorem pe_ifExp {c:Expr} (hc:PT X c tA) (ha:PE X a ta) (hb:PE X b tb):PE X (.IfExp c a b pos) (tIf tA ta tb):=by
 intro pins s σ H Q I h
 refine wpAny_IfExp (thn (hc pins s σ H _ I h) fun d s1 ⟨H1,I1,q1⟩=> ?_)
 cases d with
 |true=>exact ha pins s1 σ H1 Q I1 q1
 |false=>exact hb pins s1 σ H1 Q I1 q1
end
end L2
namespace L2
open PySem PySem.Spec PyProof.Rows
def SqL (K:PySem.W.Frag) (H:Hp) (a:Addr) (xs:List V):Prop:=
 Rd H a (.lst xs)∨
  ∃ (o:Obj) (its:Array Value) (n:Nat),K.lookup a=some o∧o.cls= .type "list"∧o.dict=none∧o.data= .seq its n∧its.size≤sizeLine∧Vals xs its.toList
def SqT (K:PySem.W.Frag) (H:Hp) (a:Addr) (xs:List V):Prop:=
 Rd H a (.tup xs)∨
  ∃ (o:Obj) (its:Array Value) (n:Nat),K.lookup a=some o∧o.cls= .type "tuple"∧o.data= .seq its n∧its.size≤sizeLine∧Vals xs its.toList
def absV:Value→Option V
 | .none=>some .non
 | .bool b=>some (.bl b)
 | .int i _=>some (.int i)
 | .str x _=>some (.str x)
 | .bytes b _=>some (.byt b)
 | .float b _=>some (.flt b)
 | .ref a=>some (.ref a)
 | .type n=>some (.ty n)
 |_=>none
theorem RelV.abs {x:V} {u:Value} (r:RelV x u):absV u=some x:=by
 cases x with
 |non=>cases r;rfl
 |bl _=>cases r;rfl
 |int _=>obtain ⟨t,rfl⟩:=r;rfl
 |str _=>obtain ⟨t,rfl⟩:=r;rfl
 |byt _=>obtain ⟨t,rfl⟩:=r;rfl
 |flt _=>obtain ⟨t,rfl⟩:=r;rfl
 |ref _=>cases r;rfl
 |ty _=>cases r;rfl
theorem RelV.inj {x y:V} {u:Value} (r:RelV x u) (q:RelV y u):x=y:=Option.some.inj (r.abs.symm.trans q.abs)
theorem Vals.inj:∀ {xs ys:List V} {us:List Value},Vals xs us→Vals ys us→xs=ys
 |_,_,_, .nil, .nil=>rfl
 |_,_,_, .cons r t, .cons r' t'=>by rw [r.inj r',Vals.inj t t']
section
variable {X:Cx} {pins:List (Addr×Obj)} {σ:St} {H:Hp} {s:Shared} {a:Addr} {xs ys:List V}
theorem SqL.of {K:PySem.W.Frag} (h:H a=some (.lst xs)):SqL K H a xs:= .inl (.inl h)
theorem SqT.of {K:PySem.W.Frag} (h:H a=some (.tup xs)):SqT K H a xs:= .inl (.inl h)
theorem Inv.list (I:Inv X pins σ H s) (h:SqL X.K H a xs):∃ its:List Value,Vals xs its∧PlainL s.heap a its.toArray∧xs.length≤sizeLine:=by
 rcases h with h|⟨o,its,n,hk,hc,hd,hs,hz,r⟩
 ·obtain ⟨z,its,n,r,e⟩:=h.ok I.hok
  exact ⟨its,r,⟨_,n,e,rfl,rfl,rfl⟩,z⟩
 ·refine ⟨its.toList,r,⟨o,n,I.kIn a o hk,hc,hd,by simpa using hs⟩,?_⟩
  have e:=r.length
  simp only [Array.length_toList] at e
  omega
theorem Inv.tuple (I:Inv X pins σ H s) (h:SqT X.K H a xs):∃ its:List Value,Vals xs its∧IsTup s.heap a its.toArray∧xs.length≤sizeLine:=by
 rcases h with h|⟨o,its,n,hk,hc,hs,hz,r⟩
 ·obtain ⟨z,its,r,p⟩:=h.ok I.hok
  exact ⟨its,r,p,z⟩
 ·refine ⟨its.toList,r,⟨o,I.kIn a o hk,hc,n,by simpa using hs⟩,?_⟩
  have e:=r.length
  simp only [Array.length_toList] at e
  omega
theorem Inv.list_inj (I:Inv X pins σ H s) (h:SqL X.K H a xs) (h':SqL X.K H a ys):xs=ys:=by
 obtain ⟨its,r,⟨o,n,e,_,_,d⟩,_⟩:=I.list h
 obtain ⟨its',r',⟨o',n',e',_,_,d'⟩,_⟩:=I.list h'
 rw [e] at e';cases e'
 rw [d] at d'
 injection d' with d1 _
 have:its=its':=by simpa using congrArg Array.toList d1
 subst this
 exact r.inj r'
theorem Inv.tuple_inj (I:Inv X pins σ H s) (h:SqT X.K H a xs) (h':SqT X.K H a ys):xs=ys:=by
 obtain ⟨its,r,⟨o,e,_,n,d⟩,_⟩:=I.tuple h
 obtain ⟨its',r',⟨o',e',_,n',d'⟩,_⟩:=I.tuple h'
 rw [e] at e';cases e'
 rw [d] at d'
 injection d' with d1 _
 have:its=its':=by simpa using congrArg Array.toList d1
 subst this
 exact r.inj r'
end
abbrev Cx.wish (X:Cx) (E:Value→Shared→Prop):Cx:= {X with xe:=E}
abbrev Cx.nox (X:Cx):Cx:=X.wish fun _ _=>False
theorem Cx.Ok.wish {X:Cx} (ok:X.Ok) (E:Value→Shared→Prop):(X.wish E).Ok:=
 ⟨ok.mod,ok.kind,ok.glob,ok.blt,ok.above,ok.inj,ok.has,ok.cab,ok.hd,ok.frames,ok.stk,ok.exf,ok.bs,ok.bsz,ok.noex,ok.exfs,ok.funs,ok.frf⟩
theorem Cx.Ok.unwish {X:Cx} {E:Value→Shared→Prop} (ok:(X.wish E).Ok):X.Ok:=
 ⟨ok.mod,ok.kind,ok.glob,ok.blt,ok.above,ok.inj,ok.has,ok.cab,ok.hd,ok.frames,ok.stk,ok.exf,ok.bs,ok.bsz,ok.noex,ok.exfs,ok.funs,ok.frf⟩
section
variable {X:Cx} {pins:List (Addr×Obj)} {σ:St} {H:Hp} {s:Shared} {E:Value→Shared→Prop}
theorem Inv.wish (I:Inv X pins σ H s) (E:Value→Shared→Prop):Inv (X.wish E) pins σ H s:=⟨I.ok.wish E,I.os,I.bare,I.base,I.loc,I.cell,I.free,I.freeC,I.pin,I.hok,I.len⟩
theorem Inv.unwish (I:Inv (X.wish E) pins σ H s):Inv X pins σ H s:=⟨I.ok.unwish,I.os,I.bare,I.base,I.loc,I.cell,I.free,I.freeC,I.pin,I.hok,I.len⟩
theorem SP.unwish {D:Ends} {f:Flow} {s':Shared} (h:SP (X.wish E) pins D f s'):SP X pins D f s':=by
 cases f with
 |next=>obtain ⟨σ',H',I,q⟩:=h;exact ⟨σ',H',I.unwish,q⟩
 |brk=>obtain ⟨σ',H',I,q⟩:=h;exact ⟨σ',H',I.unwish,q⟩
 |cont=>obtain ⟨σ',H',I,q⟩:=h;exact ⟨σ',H',I.unwish,q⟩
 |ret u=>obtain ⟨v,σ',H',I,r,q⟩:=h;exact ⟨v,σ',H',I.unwish,r,q⟩
theorem PE.nox {e:Expr} {t:TE} (h:PE X.nox e t):PE X e t:=fun pins s σ H Q I hw=>
 wpAny_mono (h pins s σ H Q (I.wish _) hw) (fun _ _ ⟨v,H',I',r,q⟩=>⟨v,H',I'.unwish,r,q⟩) fun _ _ z=>False.elim z
theorem PT.nox {e:Expr} {t:TT} (h:PT X.nox e t):PT X e t:=fun pins s σ H Q I hw=>
 wpAny_mono (h pins s σ H Q (I.wish _) hw) (fun _ _ ⟨H',I',q⟩=>⟨H',I'.unwish,q⟩) fun _ _ z=>False.elim z
theorem PSs.nox {st:List Stmt} {t:TS} (h:PSs X.nox st t):PSs X st t:=fun pins s σ H D I hw=>
 wpAny_mono (h pins s σ H D (I.wish _) hw) (fun _ _ q=>q.unwish) fun _ _ z=>False.elim z
end
section
variable {X:Cx} {st:Stmt} {rest:List Stmt} {t u:TS} {e:Expr} {te:TE} {pos:Pos}
def tNext:TS:=fun D σ H=>D.nx σ H
def tSeq (t u:TS):TS:=fun D σ H=>t {D with nx:=u D} σ H
theorem pss_nil:PSs X [] tNext:=fun _ _ σ H _ I h=>wpAny_execs_nil ⟨σ,H,I,h⟩
theorem pss_cons (h1:PS X st t) (h2:PSs X rest u):PSs X (st::rest) (tSeq t u):=by
 intro pins s σ H D I h
 refine wpAny_execs_cons (thn (h1 pins s σ H {D with nx:=u D} I h) fun f s1 q=> ?_)
 cases f with
 |next=>
  obtain ⟨σ',H',I',q⟩:=q
  exact h2 pins s1 σ' H' D I' q
 |ret v=>exact q
 |brk=>exact q
 |cont=>exact q
theorem pss_one (h1:PS X st t):PSs X [st] t:=by
 intro pins s σ H D I h
 refine wpAny_execs_cons (thn (h1 pins s σ H D I h) fun f s1 q=> ?_)
 cases f with
 |next=>exact wpAny_execs_nil q
 |ret v=>exact q
 |brk=>exact q
 |cont=>exact q
theorem Inv.quiet {pins:List (Addr×Obj)} {σ:St} {H:Hp} {s:Shared} (I:Inv X pins σ H s):interactive X.env=false:=by simp [interactive,I.ok.kind]
def tDrop (te:TE):TS:=fun D σ H=>te σ H fun _ H1=>D.nx σ H1
theorem ps_expr (he:PE X e te) (hs:swapsWith e none pos.line X.env=pure false:=by rfl):PS X (.Expr e pos) (tDrop te):=by
 intro pins s σ H D I h
 exact wpAny_Expr_any (thn (he pins s σ H _ I h) fun v s1 ⟨x,H1,I1,r1,q1⟩=>⟨σ,H1,I1,q1⟩) I.quiet hs
def tRet (te:TE):TS:=fun D σ H=>te σ H D.rt
theorem ps_ret (he:PE X e te):PS X (.Return (some e) pos) (tRet te):=by
 intro pins s σ H D I h
 exact wpAny_Return_some (thn (he pins s σ H _ I h) fun v s1 ⟨x,H1,I1,r1,q1⟩=>⟨x,σ,H1,I1,r1,q1⟩)
def tIfS (c:TT) (t u:TS):TS:=fun D σ H=>c σ H fun b H1=>if b=true then t D σ H1 else u D σ H1
theorem ps_if {c:Expr} {a b:List Stmt} {tc:TT} (hc:PT X c tc) (ha:PSs X a t) (hb:PSs X b u):PS X (.If c a b pos) (tIfS tc t u):=by
 intro pins s σ H D I h
 refine wpAny_If (thn (hc pins s σ H _ I h) fun d s1 ⟨H1,I1,q1⟩=> ?_)
 cases d with
 |true=>exact ha pins s1 σ H1 D I1 q1
 |false=>exact hb pins s1 σ H1 D I1 q1
def tNever:TS:=fun _ _ _=>False
theorem pss_never {sts:List Stmt}:PSs X sts tNever:=fun _ _ _ _ _ _ h=>h.elim
end
abbrev TG:=V→St→Hp→(St→Hp→Prop)→Prop
abbrev TGs:=List V→St→Hp→(St→Hp→Prop)→Prop
def PG (X:Cx) (target:Expr) (t:TG):Prop:=
 ∀ (pins:List (Addr×Obj)) (s:Shared) (σ:St) (H:Hp) (v:V) (u:Value) (Q:St→Hp→Prop),Inv X pins σ H s→RelV v u→t v σ H Q→
  wpAny (model X.prog X.w) X.A (assign target X.env u) (fun _ s'=>∃ σ' H',Inv X pins σ' H' s'∧Q σ' H') X.xe s
def PGs (X:Cx) (ts:List Expr) (t:TGs):Prop:=
 ∀ (pins:List (Addr×Obj)) (s:Shared) (σ:St) (H:Hp) (vs:List V) (us:List Value) (Q:St→Hp→Prop),Inv X pins σ H s→Vals vs us→t vs σ H Q→
  wpAny (model X.prog X.w) X.A (assignInOrder ((assignEach ts X.env).map (·.2)) us) (fun _ s'=>∃ σ' H',Inv X pins σ' H' s'∧Q σ' H') X.xe s
abbrev TSet:=V→V→V→Hp→(Hp→Prop)→Prop
def PSet (X:Cx) (t:TSet):Prop:=
 ∀ (pins:List (Addr×Obj)) (s:Shared) (σ:St) (H:Hp) (o i v:V) (ov iv u:Value) (Q:Hp→Prop),Inv X pins σ H s→RelV o ov→RelV i iv→RelV v u→t o i v H Q→
  wpAny (model X.prog X.w) X.A (setItem ov iv u) (fun _ s'=>∃ H',Inv X pins σ H' s'∧Q H') X.xe s
section
variable {X:Cx} {pos:Pos}
def gName (i:Nat):TG:=fun v σ H Q=>Q (σ.set i (some v)) H
theorem pg_name {i:Nat} {x:Str} (hN:X.N.Nodup) (hi:X.N[i]? =some x) (hx:Loc X.env.scope x) (hf:X.fn x=true∨X.env.scope.names.lookup x=some .local:=by first|exact .inl rfl|exact .inr rfl|assumption):PG X (.Name x pos) (gName i):=by
 intro pins s σ H v u Q I r h
 exact wpAny_assign_Name (store_ok I hN hi hx r (fun s' I'=>⟨_,H,I',h⟩) hf)
def gNil:TGs:=fun vs σ H Q=>vs= []∧Q σ H
def gCons (t:TG) (u:TGs):TGs:=fun vs σ H Q=>∃ v r,vs=v::r∧t v σ H fun σ' H'=>u r σ' H' Q
theorem pgs_nil:PGs X [] gNil:=by
 intro pins s σ H vs us Q I r h
 obtain ⟨e,h⟩:=h
 subst e
 cases r
 exact assignInOrder_nil ⟨σ,H,I,h⟩
theorem pgs_cons {e:Expr} {es:List Expr} {t:TG} {u:TGs} (h1:PG X e t) (h2:PGs X es u)
  (hs:(assignEach (e::es) X.env).map (·.2)=assign e X.env::(assignEach es X.env).map (·.2):=by rfl):PGs X (e::es) (gCons t u):=by
 intro pins s σ H vs us Q I r h
 obtain ⟨v,vr,e1,h⟩:=h
 subst e1
 cases r with
 |cons r rr=>
  rw [hs]
  refine assignInOrder_cons (thn (h1 pins s σ H _ _ _ I r h) fun _ s1 ⟨σ1,H1,I1,q1⟩=> ?_)
  exact h2 pins s1 σ1 H1 _ _ Q I1 rr q1
def gTup (K:PySem.W.Frag) (n:Nat) (t:TGs):TG:=fun v σ H Q=>∃ a xs,v= .ref a∧SqT K H a xs∧xs.length=n∧t xs σ H Q
theorem pg_tup {es:List Expr} {k:Nat} {t:TGs} {n:Nat} (hc:X.calm=true) (h:PGs X es t)
  (hn:(assignEach es X.env).length=n:=by rfl) (hst:(assignEach es X.env).findIdx? (·.1)=none:=by rfl):PG X (.Tuple es k pos) (gTup X.K n t):=by
 intro pins s σ H v u Q I r hw
 obtain ⟨a,xs,e1,hq,hl,hw⟩:=hw
 subst e1
 cases r
 obtain ⟨its,rv,ht,hz⟩:=I.tuple hq
 refine assign_Tuple_tuple (I.ok.hd hc) ht (by simp [hn,←hl,rv.length]) hst fun h' hx=> ?_
 have I1:Inv X pins σ H {s with heap:=h'}:=I.kept (t':=s.toks) fun b o e=>hx b o (Nat.ne_of_lt (Heap.lt_size e)) e
 exact h pins _ σ H xs _ Q I1 (by simpa using rv) hw
def gSub (to ti:TE) (t:TSet):TG:=fun v σ H Q=>to σ H fun o H1=>ti σ H1 fun i H2=>t o i v H2 fun H3=>Q σ H3
theorem pg_sub {o i:Expr} {to ti:TE} {t:TSet} (ho:PE X o to) (hi:PE X i ti) (hs:PSet X t)
  (ha:∀ v,assign (.Subscript o i pos) X.env v=(do
   let ov ←holding [v] (eval o X.env)
   let iv ←holding [v,ov] (eval i X.env)
   standAt pos
   holding [v,ov,iv] (setItem ov iv v)
   release [v,ov,iv] []):=by intro _;rfl):PG X (.Subscript o i pos) (gSub to ti t):=by
 intro pins s σ H v u Q I r h
 rw [ha]
 refine wpAny_bind (wpAny_holding (thn (ho pins s σ H _ I h) fun ov s1 ⟨x,H1,I1,r1,q1⟩=> ?_))
 refine wpAny_bind (wpAny_holding (thn (hi pins s1 σ H1 _ I1 q1) fun iv s2 ⟨y,H2,I2,r2,q2⟩=> ?_))
 refine wpAny_bind (wpAny_standAt (wpAny_bind (wpAny_holding (thn (hs pins s2 σ H2 x y v ov iv u _ I2 r1 r2 r q2) fun _ s3 ⟨H3,I3,q3⟩=> ?_))))
 exact wpAny_release ⟨σ,H3,I3,q3⟩
def tAsg (te:TE) (g:TG):TS:=fun D σ H=>te σ H fun x H1=>g x σ H1 D.nx
theorem ps_asg {tg e:Expr} {te:TE} {g:TG} (he:PE X e te) (hg:PG X tg g) (hs:swapsWithSole [tg] e pos.line X.env=pure false:=by rfl) (hw:swappedStores [tg] e X.env=pure none:=by rfl)
  (h1:(assignEach [tg] X.env).map (·.2)= [assign tg X.env]:=by rfl):PS X (.Assign [tg] e pos) (tAsg te g):=by
 intro pins s σ H D I h
 refine wpAny_Assign_stores (thn (he pins s σ H _ I h) fun v s1 ⟨x,H1,I1,r1,q1⟩=> ?_) hs hw
 rw [h1]
 exact thn (hg pins s1 σ H1 x v _ I1 r1 q1) fun _ s2 q=>q
theorem ps_set {i:Nat} {x:Str} {e:Expr} {te:TE} {pos':Pos} (hN:X.N.Nodup) (hi:X.N[i]? =some x) (hx:Loc X.env.scope x) (he:PE X e te) (hs:swapsWith e (some (.Name x pos')) pos.line X.env=pure false:=by rfl) (hf:X.fn x=true∨X.env.scope.names.lookup x=some .local:=by first|exact .inl rfl|exact .inr rfl|assumption):
  PS X (.Assign [.Name x pos'] e pos) (tAsg te (gName i)):=by
 intro pins s σ H D I h
 refine wpAny_Assign_Name (thn (he pins s σ H _ I h) fun v s1 ⟨y,H1,I1,r1,q1⟩=> ?_) hs
 exact store_ok I1 hN hi hx r1 (fun s2 I2=>⟨_,H1,I2,q1⟩) hf
end
section
variable {X:Cx} {pos:Pos}
end
structure It where
 go:Nat→Hp→Prop
 yld:Nat→Hp→V→Hp→Prop
 stop:Nat→Hp→Prop
def FpOk (X:Cx) (pins:List (Addr×Obj)) (H:Hp) (b:Addr):Prop:=
 H b=none∧b≠X.env.locals∧b∉X.fs∧(b∈X.ex∨X.s₀.heap.objs.size≤b)∧(∀ x c,X.env.cells.lookup x=some c→c≠b)∧∀ p∈X.pn++pins,p.1≠b
theorem Inv.fpOk {X:Cx} {pins:List (Addr×Obj)} {σ:St} {H H':Hp} {s:Shared} {b:Addr} (I:Inv X pins σ H s) (hb:s.heap.objs.size≤b) (hn:H' b=none):FpOk X pins H' b:=by
 refine ⟨hn,Nat.ne_of_gt (Nat.lt_of_lt_of_le I.lt hb),I.nofs hb, .inr (Nat.le_trans I.sz hb),fun x c e z=> ?_,fun p hp z=> ?_⟩
 ·obtain ⟨v,q⟩:=I.cell x c e
  exact absurd (Nat.lt_of_lt_of_le q.lt (by rw [z];exact hb)) (Nat.lt_irrefl _)
 ·exact absurd (Nat.lt_of_lt_of_le (Heap.lt_size (I.pin p hp).1) (by rw [z];exact hb)) (Nat.lt_irrefl _)
structure Turn (P:Program) (w:World) (K:PySem.W.Frag) (tg:Expr) (J:It) (fp:List Addr) (it:Addr) (tn:Nat→Heap→Prop):Prop where
 mem:it∈fp
 obj:∀ i h,tn i h→∀ b∈fp,∃ o,h.get? b=some o∧∀ v,o.data≠ .cell v
 keep:∀ i h h',tn i h→(∀ b∈fp,∀ o,h.get? b=some o→h'.get? b=some o)→tn i h'
 item:∀ (X:Cx),X.prog=P→X.w=w→X.K=K→X.calm=true→∀ (i:Nat) (pins:List (Addr×Obj)) (s:Shared) (σ:St) (H:Hp) (E:Value→Shared→Prop),Inv X pins σ H s→(∀ b∈fp,FpOk X pins H b)→tn i s.heap→J.go i H→
  wpAny (model P w) X.A (pyNext (.ref it)) (fun r s1=>∃ u,r=some u∧
   wpAny (model P w) X.A (letOwnedTupleGo tg (.ref it) u) (fun _ s2=>∃ x H',Inv X pins σ H' s2∧RelV x u∧J.yld i H x H'∧tn (i+1) s2.heap∧∀ b∈fp,H' b=none) E s1) E s
 done:∀ (X:Cx),X.prog=P→X.w=w→X.K=K→X.calm=true→∀ (i:Nat) (pins:List (Addr×Obj)) (s:Shared) (σ:St) (H:Hp) (E:Value→Shared→Prop),Inv X pins σ H s→(∀ b∈fp,FpOk X pins H b)→tn i s.heap→J.stop i H→
  wpAny (model P w) X.A (pyNext (.ref it)) (fun r s1=>r=none∧Inv X pins σ H s1) E s
 self:∀ (A:Around) (i:Nat) (s:Shared) (Q:Value→Shared→Prop) (E:Value→Shared→Prop),tn i s.heap→Q (.ref it) s→wpAny (model P w) A (pyIter (.ref it)) Q E s
abbrev TI:=St→Hp→(It→Hp→Prop)→Prop
def PIE (X:Cx) (pins:List (Addr×Obj)) (σ:St) (tg:Expr) (R:It→Hp→Prop) (itv:Value) (s2:Shared):Prop:=
 ∃ (it:Addr) (fp:List Addr) (tn:Nat→Heap→Prop) (J:It) (H':Hp),itv= .ref it∧Inv X pins σ H' s2∧Turn X.prog X.w X.K tg J fp it tn∧tn 0 s2.heap∧(∀ b∈fp,FpOk X pins H' b)∧R J H'
def PI (X:Cx) (tg iter:Expr) (wi:TI):Prop:=
 ∀ (pins:List (Addr×Obj)) (s:Shared) (σ:St) (H:Hp) (R:It→Hp→Prop),Inv X pins σ H s→wi σ H R→
  wpAny (model X.prog X.w) X.A (eval iter X.env) (fun v s1=>wpAny (model X.prog X.w) X.A (pyIter v) (PIE X pins σ tg R) X.xe s1) X.xe s
theorem go_of {M : Model} {A : Around} {E : Value → Shared → Prop} {s : Shared} {tg : Expr} {it : Addr} {u : Value} {o : Obj} {n : String} {vs : Array Value} {Q : Unit → Shared → Prop} (ho : s.heap.get? it = some o) (hc : o.cls = .type n) (hd : o.data = .fields vs)
    (hn : ["enumerate", "zip", "dict_itemiterator", "dict_reverseitemiterator", "odict_iterator", "itertools.zip_longest", "itertools.pairwise"].contains n = false) (hQ : Q () s) : wpAny M A (letOwnedTupleGo tg (.ref it) u) Q E s := by
  unfold letOwnedTupleGo
  cases tg <;> first
    | exact wpAny_pure hQ
    | (cases u <;> first
        | exact wpAny_pure hQ
        | (refine wpAny_bind (wpAny_load ho ?_)
           rw [hc, hd]
           show wpAny M A (if (["enumerate", "zip", "dict_itemiterator", "dict_reverseitemiterator", "odict_iterator", "itertools.zip_longest", "itertools.pairwise"].contains n && vs[0]? == some (rawInt _)) = true then _ else _) Q E s
           rw [if_neg (by intro h; rw [hn, Bool.false_and] at h; cases h)]
           exact wpAny_pure hQ))
def Itl (K:PySem.W.Frag) (a:Addr):It:=
 ⟨fun i H=>∃ xs x,SqL K H a xs∧xs[i]? =some x,fun i H x H'=>H'=H∧∀ xs,SqL K H a xs→xs[i]? =some x,fun i H=>∃ xs,SqL K H a xs∧xs.length≤i⟩
def Itt (K:PySem.W.Frag) (a:Addr):It:=
 ⟨fun i H=>∃ xs x,SqT K H a xs∧xs[i]? =some x,fun i H x H'=>H'=H∧∀ xs,SqT K H a xs→xs[i]? =some x,fun i H=>∃ xs,SqT K H a xs∧xs.length≤i⟩
def Itr (lo:Int) (n:Nat):It:=⟨fun i _=>i<n,fun i H x H'=>H'=H∧x= .int (lo+i),fun i _=>n≤i⟩
theorem turn_list {P:Program} {w:World} {K:PySem.W.Frag} {tg:Expr} (a it:Addr):Turn P w K tg (Itl K a) [it] it (fun i h=>h.IsListIter it a i) where
 mem:=by simp
 obj:=fun i h st b hb=>by
  have e:b=it:=by simpa using hb
  subst e
  obtain ⟨o,e,c,d⟩:=st
  exact ⟨o,e,fun v z=>by rw [d] at z;cases z⟩
 keep:=fun i h h' st k=>st.at fun o e=>k it (by simp) o e
 item:=by
  intro X hP hw hK hc i pins s σ H E I hf st hg
  subst hP hw hK
  obtain ⟨xs,x,hq,hx⟩:=hg
  obtain ⟨its,rv,p,hz⟩:=I.list hq
  obtain ⟨u,hu,ru⟩:=rv.get hx
  obtain ⟨f0,f1,f2,f3,f4,f5⟩:=hf it (by simp)
  refine wpAny_pyNext_list_item st p.isList (x:=u) (by simpa using hu) fun h' st' sb=> ?_
  have I1:Inv X pins σ H {s with heap:=h'}:=I.turned (t':=s.toks) (fun b o hb e=>(sb.2 b hb).trans e) f0 f1 f3 f4 f5
  obtain ⟨o,e,c,d⟩:=id st'
  exact ⟨u,rfl,go_of (s:= {s with heap:=h'}) e c d (by decide) ⟨x,H,I1,ru,⟨rfl,fun ys hy=>by rw [I.list_inj hy hq];exact hx⟩,st',fun b hb=>(hf b hb).1⟩⟩
 done:=by
  intro X hP hw hK hc i pins s σ H E I hf st hg
  subst hP hw hK
  obtain ⟨xs,hq,hx⟩:=hg
  obtain ⟨its,rv,p,hz⟩:=I.list hq
  obtain ⟨f0,f1,f2,f3,f4,f5⟩:=hf it (by simp)
  have hl:=rv.length
  exact wpAny_pyNext_list_end (I.ok.hd hc) st p.isList (by simp;omega) fun h' eb=>⟨rfl,I.turned (t':=s.toks) (fun b o hb e=>eb b o hb e) f0 f1 f3 f4 f5⟩
 self:=fun _ _ _ _ _ st h=>wpAny_pyIter_listiter st h
theorem turn_tuple {P:Program} {w:World} {K:PySem.W.Frag} {tg:Expr} (a it:Addr):Turn P w K tg (Itt K a) [it] it (fun i h=>h.IsTupleIter it a i) where
 mem:=by simp
 obj:=fun i h st b hb=>by
  have e:b=it:=by simpa using hb
  subst e
  obtain ⟨o,e,c,d⟩:=st
  exact ⟨o,e,fun v z=>by rw [d] at z;cases z⟩
 keep:=fun i h h' st k=>st.at fun o e=>k it (by simp) o e
 item:=by
  intro X hP hw hK hc i pins s σ H E I hf st hg
  subst hP hw hK
  obtain ⟨xs,x,hq,hx⟩:=hg
  obtain ⟨its,rv,p,hz⟩:=I.tuple hq
  obtain ⟨u,hu,ru⟩:=rv.get hx
  obtain ⟨f0,f1,f2,f3,f4,f5⟩:=hf it (by simp)
  refine wpAny_pyNext_tuple_item st (show s.heap.IsTuple a its.toArray from p) (x:=u) (by simpa using hu) fun h' st' sb=> ?_
  have I1:Inv X pins σ H {s with heap:=h'}:=I.turned (t':=s.toks) (fun b o hb e=>(sb.2 b hb).trans e) f0 f1 f3 f4 f5
  obtain ⟨o,e,c,d⟩:=id st'
  exact ⟨u,rfl,go_of (s:= {s with heap:=h'}) e c d (by decide) ⟨x,H,I1,ru,⟨rfl,fun ys hy=>by rw [I.tuple_inj hy hq];exact hx⟩,st',fun b hb=>(hf b hb).1⟩⟩
 done:=by
  intro X hP hw hK hc i pins s σ H E I hf st hg
  subst hP hw hK
  obtain ⟨xs,hq,hx⟩:=hg
  obtain ⟨its,rv,p,hz⟩:=I.tuple hq
  obtain ⟨f0,f1,f2,f3,f4,f5⟩:=hf it (by simp)
  have hl:=rv.length
  exact wpAny_pyNext_tuple_end (I.ok.hd hc) st (show s.heap.IsTuple a its.toArray from p) (by simp;omega) fun h' eb=>⟨rfl,I.turned (t':=s.toks) (fun b o hb e=>eb b o hb e) f0 f1 f3 f4 f5⟩
 self:=fun _ _ _ _ _ st h=>wpAny_pyIter_tupleiter st h
theorem turn_range {P:Program} {w:World} {K:PySem.W.Frag} {tg:Expr} (it:Addr) (lo:Int) (n:Nat):Turn P w K tg (Itr lo n) [it] it (fun i h=>IsRangeIter h it (lo+(i:Nat)*1) ((n:Int)-(i:Nat)) 1) where
 mem:=by simp
 obj:=fun i h st b hb=>by
  have e:b=it:=by simpa using hb
  subst e
  exact ⟨_,st,fun v z=>by
   have z':Data.fields _=Data.cell v:=z
   cases z'⟩
 keep:=fun i h h' st k=>k it (by simp) _ st
 item:=by
  intro X hP hw hK hc i pins s σ H E I hf st hg
  subst hP hw hK
  obtain ⟨f0,f1,f2,f3,f4,f5⟩:=hf it (by simp)
  have W:=Walks.range (prog:=X.prog) (w:=X.w) (I.ok.hd hc) it lo 1 n
  refine W.item i s _ _ hg st fun v h' tk hv st' kk=> ?_
  obtain ⟨t,rfl⟩:=hv
  have I1:Inv X pins σ H {s with heap:=h',toks:=tk}:=I.turned (fun b o hb e=>kk b o (by simpa using hb) e) f0 f1 f3 f4 f5
  refine ⟨_,rfl,go_of (s:= {s with heap:=h',toks:=tk}) (n:="range_iterator") st' rfl rfl (by decide) ⟨.int (lo+i),H,I1,⟨t,?_⟩,⟨rfl,rfl⟩,st',fun b hb=>(hf b hb).1⟩⟩
  rw [Int.mul_one]
 done:=by
  intro X hP hw hK hc i pins s σ H E I hf st hg
  subst hP hw hK
  obtain ⟨f0,f1,f2,f3,f4,f5⟩:=hf it (by simp)
  exact wpAny_pyNext_range_end (I.ok.hd hc) st (by have:n≤i:=hg;omega) fun h' eb=>⟨rfl,I.turned (t':=s.toks) (fun b o hb e=>eb b o hb e) f0 f1 f3 f4 f5⟩
 self:=fun _ _ _ _ _ st h=>wpAny_pyIter_rangeiter st h
end L2
namespace L2
open PySem PySem.Spec PyProof.Rows
section
variable {X:Cx} {tg:Expr}
def iList (K:PySem.W.Frag) (tl:TE):TI:=fun σ H R=>tl σ H fun x H1=>∃ a,x= .ref a∧(∃ xs,SqL K H1 a xs)∧R (Itl K a) H1
theorem pi_list {l:Expr} {tl:TE} (hl:PE X l tl):PI X tg l (iList X.K tl):=by
 intro pins s σ H R I h
 refine thn (hl pins s σ H _ I h) fun v s1 ⟨x,H1,I1,r1,q1⟩=> ?_
 obtain ⟨a,e,⟨xs,hq⟩,q⟩:=q1
 subst e
 cases r1
 obtain ⟨its,rv,p,hz⟩:=I1.list hq
 refine wpAny_pyIter_list p.isList ?_
 refine ⟨s1.heap.objs.size,[s1.heap.objs.size],_,_,H1,rfl,I1.kept (t':=s1.toks) fun b o e=>Heap.get?_push_of_some _ e,turn_list a _,⟨_,Heap.get?_push_size _ rfl,rfl,rfl⟩,fun b hb=> ?_,q⟩
 have e:b=s1.heap.objs.size:=by simpa using hb
 subst e
 exact I1.fpOk (Nat.le_refl _) (I1.hok.fresh (Nat.le_refl _))
theorem range_it {pins:List (Addr×Obj)} {σ:St} {H:Hp} {s:Shared} {R:It→Hp→Prop} {E:Value→Shared→Prop} {lo hi:Int} {t u v:Tok} {tk:Nat} (I:Inv X pins σ H s) (h1: -(2^62)≤lo) (h2:lo<2^62) (h3: -(2^62)≤hi) (h4:hi<2^62)
  (q:R (Itr lo (hi-lo).toNat) H):wpAny (model X.prog X.w) X.A (pyIter (.ref s.heap.objs.size)) (PIE X pins σ tg R) E {s with heap:=s.heap.push {cls:= .type "range",data:= .fields #[.int lo t, .int hi u, .int 1 v]},toks:=tk}:=by
 refine wpAny_pyIter_range (IsRange.new ..) (small_one h1 h2 h3 h4) ?_
 have I1:Inv X pins σ H {s with heap:=s.heap.push {cls:= .type "range",data:= .fields #[.int lo t, .int hi u, .int 1 v]},toks:=tk}:=I.kept fun b o e=>Heap.get?_push_of_some _ e
 refine ⟨(s.heap.push {cls:= .type "range",data:= .fields #[.int lo t, .int hi u, .int 1 v]}).objs.size,[(s.heap.push {cls:= .type "range",data:= .fields #[.int lo t, .int hi u, .int 1 v]}).objs.size],_,_,H,rfl,
  I1.kept (t':=tk) fun b o e=>Heap.get?_push_of_some _ e,turn_range _ lo (hi-lo).toNat,?_,fun b hb=> ?_,q⟩
 ·have e1:lo+((0:Nat):Int)*1=lo:=by simp
  have e2:(((hi-lo).toNat:Nat):Int)-((0:Nat):Int)=Builtin.Range.rangeSize lo hi 1:=by rw [rangeSize_one];split<;>omega
  show IsRangeIter _ _ (lo+((0:Nat):Int)*1) ((((hi-lo).toNat:Nat):Int)-((0:Nat):Int)) 1
  rw [e1,e2]
  exact Heap.get?_push_size _ rfl
 ·have e:b=(s.heap.push {cls:= .type "range",data:= .fields #[.int lo t, .int hi u, .int 1 v]}).objs.size:=by simpa using hb
  subst e
  exact I1.fpOk (Nat.le_refl _) (I1.hok.fresh (Nat.le_refl _))
def iRng1 (ta:TA):TI:=fun σ H R=>ta σ H fun vs H1=>∃ j:Int,vs= [.int j]∧ -(2^62)≤j∧j<2^62∧R (Itr 0 j.toNat) H1
theorem pi_range1 {a:Expr} {ta:TA} {p pos:Pos} (hg:Gl X "range") (hm:X.mg "range"=none) (ha:PA X [a] ta) (hs:starEach [a] X.env= [(false,eval a X.env)]:=by rfl):PI X tg (.Call (.Name "range" p) [a] [] pos) (iRng1 ta):=by
 intro pins s σ H R I h
 refine Call_ (ld_blt I hg hm boot_range (PyProof.Rows.callWith_type1 (thn (ha pos pins s σ H _ I h) fun us s1 ⟨vs,H1,I1,r1,q1⟩=> ?_) hs rfl))
 obtain ⟨j,e,q1,q2,q⟩:=q1
 subst e
 cases r1 with
 |cons r rr=>
  cases rr
  obtain ⟨t,rfl⟩:=r
  exact call_range_1 (range_it I1 (by omega) (by omega) q1 q2 (by simpa using q))
def tFor (wi:TI) (g:TG) (tb:TS):TS:=fun D σ H=>wi σ H fun J H1=>∃ W:Nat→Nat→St→Hp→Prop,(∃ m,W 0 m σ H1)∧∀ i m σ H,W i m σ H→
 (J.stop i H∧D.nx σ H)∨(J.go i H∧∃ N:St→Hp→Prop,(∀ σ' H',N σ' H'→∃ m',m'<m∧W (i+1) m' σ' H')∧∀ x H',J.yld i H x H'→g x σ H' fun σ2 H2=>tb {D with nx:=N,ct:=N,bk:=D.nx} σ2 H2)
def pinsAt (fp:List Addr) (h:Heap):List (Addr×Obj):=fp.filterMap fun b=>(h.get? b).map fun o=>(b,o)
theorem mem_pinsAt {fp:List Addr} {h:Heap} {b:Addr} {o:Obj} (hb:b∈fp) (e:h.get? b=some o):(b,o)∈pinsAt fp h:=List.mem_filterMap.mpr ⟨b,hb,by rw [e];rfl⟩
theorem of_pinsAt {fp:List Addr} {h:Heap} {p:Addr×Obj} (hp:p∈pinsAt fp h):p.1∈fp∧h.get? p.1=some p.2:=by
 obtain ⟨b,hb,e⟩:=List.mem_filterMap.mp hp
 cases q:h.get? b with
 |none=>rw [q] at e;cases e
 |some o=>
  rw [q] at e
  have e':(b,o)=p:=Option.some.inj e
  subst e'
  exact ⟨hb,q⟩
theorem Inv.pinned {pins:List (Addr×Obj)} {σ:St} {H:Hp} {s:Shared} {fp:List Addr} (I:Inv X pins σ H s) (hf:∀ b∈fp,FpOk X pins H b) (ho:∀ b∈fp,∃ o,s.heap.get? b=some o∧∀ v,o.data≠ .cell v):Inv X (pins++pinsAt fp s.heap) σ H s:=
 I.pins_of fun p hp=>(List.mem_append.mp hp).elim (fun z=>I.pin p (List.mem_append_right _ z)) fun z=>by
  obtain ⟨hb,e⟩:=of_pinsAt z
  obtain ⟨f0,f1,f2,_⟩:=hf p.1 hb
  obtain ⟨o,e',d⟩:=ho p.1 hb
  rw [e] at e';cases e'
  exact ⟨e,f0,f1,f2,d⟩
theorem Inv.unpinned {pins pl:List (Addr×Obj)} {σ:St} {H:Hp} {s:Shared} (I:Inv X (pins++pl) σ H s):Inv X pins σ H s:=I.pins_of fun p hp=>I.pin p (List.mem_append_right _ (List.mem_append_left _ hp))
theorem ps_for {iter:Expr} {body:List Stmt} {wi:TI} {g:TG} {tb:TS} {pos:Pos} (hp:PassesOwn (model X.prog X.w) X.A X.env X.xe) (hc:X.calm=true) (hi:PI X tg iter wi) (hg:PG X tg g) (hb:PSs X body tb)
  (hs:∀ x,foldedSetIterable iter X.env x=pure x:=by intro _;rfl):PS X (.For tg iter body [] pos) (tFor wi g tb):=by
 intro pins s σ H D I h
 refine wpAny_For (thn (hi pins s σ H _ I h) fun v s1 h1=>thn h1 fun itv s2 h2=> ?_) hs
 obtain ⟨it,fp,tn,J,H2,e,I2,T,st2,f2,W,⟨m0,w0⟩,turn⟩:=h2
 subst e
 have stat:∀ {H':Hp},(∀ b∈fp,H' b=none)→∀ b∈fp,FpOk X pins H' b:=fun hn b hb=>⟨hn b hb,(f2 b hb).2⟩
 refine codeAny_forLoop_any (fun n s'=>∃ i σ' H',Inv X pins σ' H' s'∧tn i s'.heap∧(∀ b∈fp,H' b=none)∧W i n σ' H') ?_ m0 ⟨0,σ,H2,I2,st2,fun b hb=>(f2 b hb).1,w0⟩
 rintro n s3 ⟨i,σ3,H3,I3,st3,fr3,w3⟩
 rcases turn i n σ3 H3 w3 with ⟨stop,qn⟩|⟨go,N,hN,step⟩
 ·refine wpAny_passesOwn hp (thn (T.done X rfl rfl rfl hc i pins s3 σ3 H3 X.xe I3 (stat fr3) st3 stop) fun r s4 ⟨hr,I4⟩=> ?_)
  subst hr
  exact wpAny_execs_nil ⟨σ3,H3,I4,qn⟩
 ·refine wpAny_passesOwn hp (thn (T.item X rfl rfl rfl hc i pins s3 σ3 H3 X.xe I3 (stat fr3) st3 go) fun r s4 ⟨u,hr,h4⟩=> ?_)
  subst hr
  refine wpAny_passesOwn hp (thn h4 fun _ s5 ⟨x,H5,I5,r5,y5,st5,fr5⟩=> ?_)
  have I5':=I5.pinned (stat fr5) (T.obj _ _ st5)
  refine wpAny_passesOwn hp (thn (hg _ s5 σ3 H5 x u _ I5' r5 (step x H5 y5)) fun _ s6 ⟨σ6,H6,I6,q6⟩=> ?_)
  refine wpAny_passesOwn hp (thn (hb _ s6 σ6 H6 _ I6 q6) fun f s7 q7=> ?_)
  have again:∀ {σ7:St} {H7:Hp},Inv X (pins++pinsAt fp s5.heap) σ7 H7 s7→N σ7 H7→∃ m,m<n∧∃ i σ' H',Inv X pins σ' H' s7∧tn i s7.heap∧(∀ b∈fp,H' b=none)∧W i m σ' H':=fun {σ7 H7} I7 n7=>by
   obtain ⟨m',hm,w7⟩:=hN σ7 H7 n7
   refine ⟨m',hm,i+1,σ7,H7,I7.unpinned,T.keep _ _ _ st5 fun b hb o e=>(I7.pin (b,o) (List.mem_append_right _ (List.mem_append_right _ (mem_pinsAt hb e)))).1,fun b hb=> ?_,w7⟩
   obtain ⟨o,e,d⟩:=T.obj _ _ st5 b hb
   exact (I7.pin (b,o) (List.mem_append_right _ (List.mem_append_right _ (mem_pinsAt hb e)))).2.1
  cases f with
  |next=>obtain ⟨σ7,H7,I7,n7⟩:=q7;exact again I7 n7
  |cont=>obtain ⟨σ7,H7,I7,n7⟩:=q7;exact again I7 n7
  |brk=>obtain ⟨σ7,H7,I7,q7⟩:=q7;exact ⟨σ7,H7,I7.unpinned,q7⟩
  |ret v=>obtain ⟨x7,σ7,H7,I7,r7,q7⟩:=q7;exact ⟨x7,σ7,H7,I7.unpinned,r7,q7⟩
end
end L2
namespace L2
open PySem PySem.Spec PyProof.Rows
abbrev R2:=V→V→Hp→VK→Prop
def OpR (X:Cx) (f:Value→Value→Sem Value) (r:R2):Prop:=
 ∀ (pins:List (Addr×Obj)) (s:Shared) (σ:St) (H:Hp) (x y:V) (v u:Value) (Q:VK),Inv X pins σ H s→RelV x v→RelV y u→r x y H Q→
  wpAny (model X.prog X.w) X.A (f v u) (EP X pins σ Q) X.xe s
def UnR (X:Cx) (f:Value→Sem Value) (r:V→Hp→VK→Prop):Prop:=
 ∀ (pins:List (Addr×Obj)) (s:Shared) (σ:St) (H:Hp) (x:V) (v:Value) (Q:VK),Inv X pins σ H s→RelV x v→r x H Q→
  wpAny (model X.prog X.w) X.A (f v) (EP X pins σ Q) X.xe s
def CallR (X:Cx) (f:Value) (r:List V→Hp→VK→Prop):Prop:=
 ∀ (pins:List (Addr×Obj)) (s:Shared) (σ:St) (H:Hp) (xs:List V) (us:List Value) (Q:VK),Inv X pins σ H s→Vals xs us→r xs H Q→
  wpAny (model X.prog X.w) X.A (call f us) (EP X pins σ Q) X.xe s
def tOp (r:R2) (ta tb:TE):TE:=fun σ H Q=>ta σ H fun x H1=>tb σ H1 fun y H2=>r x y H2 Q
def tUn (r:V→Hp→VK→Prop) (ta:TE):TE:=fun σ H Q=>ta σ H fun x H1=>r x H1 Q
def rI (C:Int→Int→Prop) (g:Int→Int→V):R2:=fun x y H Q=>∃ i j,x= .int i∧y= .int j∧C i j∧Q (g i j) H
def rI0 (g:Int→Int→V):R2:=fun x y H Q=>∃ i j,x= .int i∧y= .int j∧Q (g i j) H
def rU (g:Int→V):V→Hp→VK→Prop:=fun x H Q=>∃ i,x= .int i∧Q (g i) H
section
variable {X:Cx} {a b c:Expr} {ta tb tc:TE} {pos:Pos}
theorem binT (ha:PE X a ta) (hb:PE X b tb) {pins:List (Addr×Obj)} {s:Shared} {σ:St} {H:Hp} {R:V→V→Hp→Prop} (I:Inv X pins σ H s)
  (h:ta σ H fun x H1=>tb σ H1 fun y H2=>R x y H2) {Q:Value→Shared→Prop} {f:Value→Value→Sem Value}
  (hf:∀ v u s2 x y H2,Inv X pins σ H2 s2→RelV x v→RelV y u→R x y H2→wpAny (model X.prog X.w) X.A (f v u) Q X.xe s2):
  wpAny (model X.prog X.w) X.A (eval a X.env) (fun v s₁=>wpAny (model X.prog X.w) X.A (eval b X.env) (fun u s₂=>wpAny (model X.prog X.w) X.A (f v u) Q X.xe s₂) X.xe s₁) X.xe s:=by
 refine thn (ha pins s σ H _ I h) fun v s1 ⟨x,H1,I1,r1,q1⟩=> ?_
 refine thn (hb pins s1 σ H1 _ I1 q1) fun u s2 ⟨y,H2,I2,r2,q2⟩=> ?_
 exact hf v u s2 x y H2 I2 r1 r2 q2
theorem pe_op {op:Operator} {r:R2} (ho:OpR X (binaryOp op) r) (ha:PE X a ta) (hb:PE X b tb):PE X (.BinOp a op b pos) (tOp r ta tb):=by
 intro pins s σ H Q I h
 exact wpAny_BinOp (binT ha hb I h fun v u s2 x y H2 I2 rx ry q=>ho pins s2 σ H2 x y v u Q I2 rx ry q)
theorem pe_un {op:UnaryOp} {r:V→Hp→VK→Prop} (ho:UnR X (unaryOp op) r) (ha:PE X a ta):PE X (.UnaryOp op a pos) (tUn r ta):=by
 intro pins s σ H Q I h
 exact UnaryOp_ (thn (ha pins s σ H _ I h) fun v s1 ⟨x,H1,I1,r1,q1⟩=>ho pins s1 σ H1 x v Q I1 r1 q1)
theorem opI {f:Value→Value→Sem Value} {C:Int→Int→Prop} {g:Int→Int→Int}
  (rule:∀ (i j:Int) (t u:Tok) (s:Shared) (Q:Value→Shared→Prop) (E:Value→Shared→Prop),C i j→Q (.int (g i j) s.toks) {s with toks:=s.toks+1}→wpAny (model X.prog X.w) X.A (f (.int i t) (.int j u)) Q E s):
  OpR X f (rI C fun i j=> .int (g i j)):=by
 intro pins s σ H x y v u Q I rx ry h
 obtain ⟨i,j,rfl,rfl,hc,q⟩:=h
 obtain ⟨t,rfl⟩:=rx
 obtain ⟨t',rfl⟩:=ry
 exact rule i j t t' s _ _ hc ⟨.int (g i j),H,I.tok _,⟨_,rfl⟩,q⟩
theorem opI0 {f:Value→Value→Sem Value} {g:Int→Int→Int}
  (rule:∀ (i j:Int) (t u:Tok) (s:Shared) (Q:Value→Shared→Prop) (E:Value→Shared→Prop),Q (.int (g i j) s.toks) {s with toks:=s.toks+1}→wpAny (model X.prog X.w) X.A (f (.int i t) (.int j u)) Q E s):
  OpR X f (rI0 fun i j=> .int (g i j)):=by
 intro pins s σ H x y v u Q I rx ry h
 obtain ⟨i,j,rfl,rfl,q⟩:=h
 obtain ⟨t,rfl⟩:=rx
 obtain ⟨t',rfl⟩:=ry
 exact rule i j t t' s _ _ ⟨.int (g i j),H,I.tok _,⟨_,rfl⟩,q⟩
theorem opB0 {f:Value→Value→Sem Value} {g:Int→Int→Bool}
  (rule:∀ (i j:Int) (t u:Tok) (s:Shared) (Q:Value→Shared→Prop) (E:Value→Shared→Prop),Q (.bool (g i j)) s→wpAny (model X.prog X.w) X.A (f (.int i t) (.int j u)) Q E s):
  OpR X f (rI0 fun i j=> .bl (g i j)):=by
 intro pins s σ H x y v u Q I rx ry h
 obtain ⟨i,j,rfl,rfl,q⟩:=h
 obtain ⟨t,rfl⟩:=rx
 obtain ⟨t',rfl⟩:=ry
 exact rule i j t t' s _ _ ⟨.bl (g i j),H,I,rfl,q⟩
def CDiv (i j:Int):Prop:=0<j∧j<1073741824
def CPow (i j:Int):Prop:=0≤j∧j≤1000000∧i.natAbs<2^64
def CMul (i j:Int):Prop:=(-(2^64)<i∧i<2^64)∨(-(2^64)<j∧j<2^64)
theorem CMul.ok {i j:Int} (h:CMul i j):IntMulOk i j:=by
 rcases h with ⟨h1,h2⟩|⟨h1,h2⟩
 ·exact .of_left (intBits_le_64 h1 h2)
 ·exact .of_right (intBits_le_64 h1 h2)
theorem op_add:OpR X (binaryOp .Add) (rI0 fun i j=> .int (i+j)):=opI0 fun _ _ _ _ _ _ _ q=>add_int q
theorem op_sub:OpR X (binaryOp .Sub) (rI0 fun i j=> .int (i-j)):=opI0 fun _ _ _ _ _ _ _ q=>sub_int q
theorem op_mul:OpR X (binaryOp .Mult) (rI CMul fun i j=> .int (i*j)):=opI fun _ _ _ _ _ _ _ hc q=>mul_int q hc.ok
theorem op_fdiv:OpR X (binaryOp .FloorDiv) (rI CDiv fun i j=> .int (i / j)):=opI fun i j _ _ _ _ _ hc q=>by
 have h1:(0:Int)<j:=hc.1
 have h2:j<1073741824:=hc.2
 exact floordiv_int (by omega) (by rw [Int.fdiv_eq_ediv_of_nonneg i (by omega)];exact q) (.inl (PyProof.noPylong_small (by omega)))
theorem op_mod:OpR X (binaryOp .Mod) (rI (fun _ j=>0<j) fun i j=> .int (i%j)):=opI fun i j _ _ _ _ _ hc q=>by
 have h1:(0:Int)<j:=hc
 exact mod_int' (by omega) (by rw [Int.fmod_eq_emod_of_nonneg i (by omega)];exact q)
theorem op_pow:OpR X (binaryOp .Pow) (rI CPow fun i j=> .int (i^j.toNat)):=opI fun _ _ _ _ _ _ _ hc q=>pow_int_small hc.1 hc.2.1 hc.2.2 q
theorem unI {f:Value→Sem Value} {g:Int→Int}
  (rule:∀ (i:Int) (t:Tok) (s:Shared) (Q:Value→Shared→Prop) (E:Value→Shared→Prop),Q (.int (g i) s.toks) {s with toks:=s.toks+1}→wpAny (model X.prog X.w) X.A (f (.int i t)) Q E s):
  UnR X f (rU fun i=> .int (g i)):=by
 intro pins s σ H x v Q I rx h
 obtain ⟨i,rfl,q⟩:=h
 obtain ⟨t,rfl⟩:=rx
 exact rule i t s _ _ ⟨.int (g i),H,I.tok _,⟨_,rfl⟩,q⟩
theorem un_neg:UnR X (unaryOp .USub) (rU fun i=> .int (-i)):=unI fun _ _ _ _ _ q=>neg_int q
end
section
variable {X:Cx} {a b c:Expr} {ta tb tc:TE} {pos:Pos}
theorem fin_bl {pins:List (Addr×Obj)} {σ:St} {H:Hp} {s:Shared} {Q:VK} {k k':Bool} (I:Inv X pins σ H s) (q:Q (.bl k) H) (e:k=k'):EP X pins σ Q (.bool k') s:=by
 subst e
 exact ⟨.bl k,H,I,rfl,q⟩
theorem op_lt:OpR X (compareOp .Lt) (rI0 fun i j=> .bl (decide (i<j))):=opB0 fun _ _ _ _ _ _ _ q=>lt_int q
theorem op_gt:OpR X (compareOp .Gt) (rI0 fun i j=> .bl (decide (j<i))):=opB0 fun _ _ _ _ _ _ _ q=>gt_int q
theorem op_ge:OpR X (compareOp .GtE) (rI0 fun i j=> .bl (decide (j≤i))):=opB0 fun _ _ _ _ _ _ _ q=>ge_int q
theorem op_in_str:OpR X (compareOp .In) (fun x y H Q=>∃ i j,x= .str i∧y= .str j∧Q (.bl (!(Builtin.Str.occurrences j i 0 j.length 1).isEmpty)) H):=by
 intro pins s σ H x y v u Q I rx ry h
 obtain ⟨i,j,rfl,rfl,q⟩:=h
 obtain ⟨t,rfl⟩:=rx
 obtain ⟨t',rfl⟩:=ry
 exact in_str (fin_bl I q rfl)
theorem OpR.or {f:Value→Value→Sem Value} {r r':R2} (h:OpR X f r) (h':OpR X f r'):OpR X f (fun x y H Q=>r x y H Q∨r' x y H Q):=by
 intro pins s σ H x y v u Q I rx ry q
 rcases q with q|q
 ·exact h pins s σ H x y v u Q I rx ry q
 ·exact h' pins s σ H x y v u Q I rx ry q
theorem nomark (b:Expr) {op:CmpOp} (h:op≠ .In:=by decide) (h2:op≠ .NotIn:=by decide):behindInMarks op b=false:=by
 have e1:(op==CmpOp.In)=false:=by cases op<;>first|rfl|exact absurd rfl h
 have e2:(op==CmpOp.NotIn)=false:=by cases op<;>first|rfl|exact absurd rfl h2
 cases b<;>simp [behindInMarks,e1,e2]
theorem pe_cmpR {op:CmpOp} {r:R2} (ho:OpR X (compareOp op) r) (ha:PE X a ta) (hb:PE X b tb) (hm:behindInMarks op b=false):PE X (.Compare a [op] [b] pos) (tOp r ta tb):=by
 intro pins s σ H Q I h
 exact wpAny_Compare1 (binT ha hb I h fun v u s2 x y H2 I2 rx ry q=>ho pins s2 σ H2 x y v u Q I2 rx ry q) hm
def tTest (t:TE):TT:=fun σ H Q=>t σ H fun x H'=>∃ k,x= .bl k∧Q k H'
theorem pt_cmpR {op:CmpOp} {r:R2} (ho:OpR X (compareOp op) r) (ha:PE X a ta) (hb:PE X b tb) (hm:behindInMarks op b=false):PT X (.Compare a [op] [b] pos) (tTest (tOp r ta tb)):=by
 intro pins s σ H Q I h
 refine wpAny_isTrue_Compare1 (thn (ha pins s σ H _ I h) fun v s1 ⟨x,H1,I1,r1,q1⟩=>thn (hb pins s1 σ H1 _ I1 q1) fun u s2 ⟨y,H2,I2,r2,q2⟩=>
  thn (ho pins s2 σ H2 x y v u _ I2 r1 r2 q2) fun c s3 ⟨z,H3,I3,r3,k,e,q3⟩=> ?_) hm
 subst e
 cases r3
 exact wpAny_truthy_bool ⟨H3,I3,q3⟩
theorem line63:(sizeLine:Nat)<2^63:=by rw [sizeLine_eq];decide
theorem op_add_str:OpR X (binaryOp .Add) (fun x y H Q=>∃ i j,x= .str i∧y= .str j∧i.length+j.length≤sizeLine∧Q (.str (i++j)) H):=by
 intro pins s σ H x y v u Q I rx ry h
 obtain ⟨i,j,rfl,rfl,hz,q⟩:=h
 obtain ⟨t,rfl⟩:=rx
 obtain ⟨t',rfl⟩:=ry
 exact add_str (fun t' tk=>⟨.str (i++j),H,I.tok _,⟨_,rfl⟩,q⟩) hz
theorem vals1 {x:V} {us:List Value} (r:Vals [x] us):∃ u,us= [u]∧RelV x u:=by
 cases r with
 |cons r1 r2=>cases r2;exact ⟨_,rfl,r1⟩
theorem call_str_int:CallR X (.type "str") (fun xs H Q=>∃ i,xs= [.int i]∧i.natAbs.log2<1920∧Q (.str (toString i)) H):=by
 intro pins s σ H xs us Q I r h
 obtain ⟨i,rfl,hz,q⟩:=h
 obtain ⟨u,rfl,t,rfl⟩:=vals1 r
 exact PySem.P.str_of_int hz ⟨.str _,H,I.tok _,⟨_,rfl⟩,q⟩
def LenV (K:PySem.W.Frag) (x:V) (H:Hp) (n:Nat):Prop:=
 match x with
 | .str y=>y.length≤sizeLine∧n=y.length
 | .byt y=>y.size≤sizeLine∧n=y.size
 | .ref p=>(∃ xs,SqL K H p xs∧n=xs.length)∨∃ xs,SqT K H p xs∧n=xs.length
 |_=>False
theorem call_len:CallR X (.builtin "len") (fun xs H Q=>∃ x n,xs= [x]∧LenV X.K x H n∧Q (.int n) H):=by
 intro pins s σ H xs us Q I r h
 obtain ⟨x,n,rfl,e,q⟩:=h
 obtain ⟨u,rfl,rx⟩:=vals1 r
 have hl:=line63
 have hs:sizeLine=16777216:=sizeLine_eq
 cases x with
 |str y=>
  obtain ⟨t,rfl⟩:=rx
  obtain ⟨hy,e'⟩:y.length≤sizeLine∧n=y.length:=e
  subst e'
  exact len_str (by omega) ⟨.int _,H,I.tok _,⟨_,rfl⟩,q⟩
 |byt y=>
  obtain ⟨t,rfl⟩:=rx
  obtain ⟨hy,e'⟩:y.size≤sizeLine∧n=y.size:=e
  subst e'
  exact PySem.W.len_bytes (by omega) ⟨.int _,H,I.tok _,⟨_,rfl⟩,q⟩
 |ref p=>
  cases rx
  have e':(∃ xs,SqL X.K H p xs∧n=xs.length)∨∃ xs,SqT X.K H p xs∧n=xs.length:=e
  rcases e' with ⟨xs,hx,e'⟩|⟨xs,hx,e'⟩
  ·subst e'
   obtain ⟨its,r',pl,hz⟩:=I.list hx
   have hlen:=r'.length
   exact Calls.call_len_list pl.isList (by simp only [List.size_toArray];omega) ⟨.int xs.length,H,I.tok _,⟨_,by simp only [List.size_toArray];rw [hlen]⟩,q⟩
  ·subst e'
   obtain ⟨its,r',pl,hz⟩:=I.tuple hx
   have hlen:=r'.length
   exact len_tuple pl (by simp only [List.size_toArray];omega) ⟨.int xs.length,H,I.tok _,⟨_,by simp only [List.size_toArray];rw [hlen]⟩,q⟩
 |_=>exact (show False from e).elim
end
end L2
namespace L2
open PySem PySem.Spec PyProof.Rows
structure ObjM (h:Heap) (x dx C:Addr) (mA:Str→Option Value):Prop where
 obj:h.get? x=some (PySem.W.instObj C dx)
 ns:h.Ns1 dx mA
 ne:dx≠x
theorem lookIn_ns {h:Heap} {dx:Addr} {mA:Str→Option Value} (n:h.Ns1 dx mA):∃ od,h.get? dx=some od∧∀ name,PySem.W.lookIn name od=some (mA name):=by
 obtain ⟨o,es,ep,ho,hd,hk,_,hm⟩:=n
 refine ⟨o,ho,fun name=> ?_⟩
 have e:=hm name
 unfold nsFind findBy at e
 rw [←Array.find?_toList] at e
 unfold PySem.W.lookIn
 rw [hd]
 dsimp only
 split
 ·rename_i y q
  rw [q] at e
  exact congrArg some e
 ·rename_i q
  rw [q] at e
  have a:es.toList.any (·.refKey)=false:=by
   rw [List.any_eq_false]
   intro y hy
   obtain ⟨z,t,hkey⟩:=hk y (Array.mem_toList_iff.mp hy)
   simp [DictEntry.refKey,hkey]
  have a':¬ es.toList.any (·.refKey)=true:=by rw [a];exact Bool.false_ne_true
  rw [if_neg a']
  exact congrArg some e
theorem ObjM.look {h:Heap} {x dx C:Addr} {mA:Str→Option Value} (I:ObjM h x dx C mA):∃ od,PySem.W.InstAt h x (PySem.W.instObj C dx) C (some od)∧∀ name,PySem.W.lookIn name od=some (mA name):=
 let ⟨od,ho,hl⟩:=lookIn_ns I.ns
 ⟨od,⟨I.obj,rfl,rfl,ho⟩,hl⟩
section
variable {prog:Program} {w:World} {A:Around} {E:Value→Shared→Prop} {s:Shared} {K:PySem.W.Frag} {x dx C f:Addr} {mA:Str→Option Value} {name:Str} {v:Value}
theorem get_map {expr:Bool} {Q:Value→Shared→Prop} (X:K.In s.heap) (I:ObjM s.heap x dx C mA) (hg:PySem.W.plainGet K C name=true) (hh:PySem.W.hasDictIn K C=true)
  (ha:PySem.W.findIn K (.ref C) name=some none) (hv:mA name=some v) (hv':PySem.W.handedIn v=true) (h:Q v {s with toks:=s.toks+1}):
  wpAny (model prog w) A (getAttr (.ref x) name expr) Q E s:=by
 obtain ⟨od,J,hl⟩:=I.look
 exact PySem.W.get_value X J (PySem.W.plainGet_of hg).1 (PySem.W.findObj_own hh ha rfl (by rw [hl,hv])) hv' h
theorem get_meth {pl:Sem Bool} {Q:Value×List Value→Shared→Prop} (X:K.In s.heap) (I:ObjM s.heap x dx C mA) (hg:PySem.W.plainGet K C name=true)
  (hf:PySem.W.findIn K (.ref C) name=some (some (.ref f))) (ht:PySem.W.isFn K (.ref f)=true) (hv:mA name=none) (h:Q (.ref f,[.ref x]) s):
  wpAny (model prog w) A (getMethod (.ref x) name pl) Q E s:=by
 obtain ⟨od,J,hl⟩:=I.look
 exact PySem.W.method_fn X J (PySem.W.plainGet_of hg).1 (PySem.W.plainGet_of hg).2 hf (beq_iff_eq.mp ht) (by show (PySem.W.lookIn name od).map (·.isSome)=some false;rw [hl,hv];rfl) h
theorem set_map {ns:List Str} {Q:Unit→Shared→Prop} (X:K.In s.heap) (I:ObjM s.heap x dx C mA)
  (hs:PySem.W.findIn K (.ref C) "__setattr__"=some (some (.builtin "object.__setattr__"))) (hp:PySem.W.plainOver K C=true) (ht:PySem.W.takerIn K C name=some none) (hh:PySem.W.hasDictIn K C=true)
  (hw:PySem.Within mA ns) (hsz:ns.length≤sizeLine)
  (h:∀ h',ObjM h' x dx C (fun y=>if y=name then some v else mA y)→Heap.SameBut dx s.heap h'→Q () {s with heap:=h',toks:=s.toks+2}):
  wpAny (model prog w) A (setAttr (.ref x) name v) Q E s:=by
 obtain ⟨od,J,hl⟩:=I.look
 refine PySem.W.set_plain X J hs (PySem.W.osa_open (s:= {s with toks:=s.toks+1}) (r:=none) X J hp ht fun b=> ?_)
 obtain ⟨cd,hc,hd'⟩:=PySem.W.any_some hh
 have hx:s.heap.get? x=some ⟨.ref C,some dx, .plain,#[]⟩:=I.obj
 refine wpAny_bind (wpAny_pure (wpAny_bind (wpAny_bind (wpAny_loadPart hx (wpAny_bind (PySem.W.Looks.here (s:= {s with toks:=s.toks+1}) (PySem.W.looks_clsIn X hc) ?_))))))
 rw [hd']
 refine wpAny_pure (a:=some dx) (wpAny_bind (wpAny_pure (wpAny_bind ?_)))
 refine wpAny_nsSet1 (s:= {s with toks:=s.toks+1}) I.ns fun h' hn2 hs2=> ?_
 obtain ⟨oD,esD,epD,hoD,hdD,hcD⟩:=hn2.count (PySem.Within.cons name v hw)
 refine wpAny_bind (wpAny_lookBehind hoD (by rw [hdD];exact pastItsLine_dict (Nat.le_trans hcD (by rw [List.length_cons];omega))) ?_)
 exact wpAny_pure (h _ ⟨(hs2.2 _ (Ne.symm I.ne)).trans I.obj,hn2,I.ne⟩ hs2)
theorem make_map {R:Result→Shared→Prop} {vs:List Value} {kw:List (Str×Value)} (X:K.In s.heap) (hm:PySem.W.makesIn K C=true)
  (hi:PySem.W.findIn K (.ref C) "__init__"=some (some (.ref f))) (hf:PySem.W.typeIn K (.ref f)=some (.type "function"))
  (h:codeAny (model prog w) (A.under (.builtin "type.__call__" ⟨.ref C::vs,kw⟩)) (.call (.ref f) ⟨.ref (s.heap.objs.size+1)::vs,kw⟩) (PySem.W.InitBack (s.heap.objs.size+1) R)
   {s with heap:=(s.heap.push PySem.W.emptyDict).push (PySem.W.instObj C s.heap.objs.size)}):
  codeAny (model prog w) A (.call (.ref C) ⟨vs,kw⟩) R s:=by
 obtain ⟨hh,g,d,t,os⟩:=s
 exact PySem.W.make_core (PySem.W.makes_of X hm) (PySem.W.looks_findIn X hi) (fun self=>PySem.W.bind_fn X self hf) (.inl rfl) h
end
def putF (f:Str) (v:V):List (Str×V)→List (Str×V)
 | []=> [(f,v)]
 |(g,x)::r=>if g=f then (g,v)::r else (g,x)::putF f v r
theorem lookup_putF (f g:Str) (v:V):∀ fs:List (Str×V),(putF f v fs).lookup g=if g=f then some v else fs.lookup g
 | []=>by
  show List.lookup g [(f,v)]=_
  by_cases h:g=f
  ·have hb:(g==f)=true:=beq_iff_eq.mpr h
   simp only [List.lookup,hb,if_pos h]
  ·have hb:(g==f)=false:=beq_eq_false_iff_ne.mpr h
   simp only [List.lookup,hb,if_neg h]
 |(k,x)::r=>by
  have ih:=lookup_putF f g v r
  rw [show putF f v ((k,x)::r)=(if k=f then (k,v)::r else (k,x)::putF f v r) from rfl]
  by_cases hk:k=f
  ·rw [if_pos hk]
   by_cases h:g=k
   ·have hb:(g==k)=true:=beq_iff_eq.mpr h
    simp only [List.lookup,hb,if_pos (h.trans hk)]
   ·have hb:(g==k)=false:=beq_eq_false_iff_ne.mpr h
    simp only [List.lookup,hb,if_neg (fun e:g=f=>h (e.trans hk.symm))]
  ·rw [if_neg hk]
   by_cases h:g=k
   ·have hb:(g==k)=true:=beq_iff_eq.mpr h
    simp only [List.lookup,hb,if_neg (fun e:g=f=>hk (h.symm.trans e))]
   ·have hb:(g==k)=false:=beq_eq_false_iff_ne.mpr h
    simp only [List.lookup,hb]
    exact ih
theorem keys_putF (f:Str) (v:V):∀ fs:List (Str×V),f∈(putF f v fs).map (·.1)∧∀ g,g∈fs.map (·.1)→g∈(putF f v fs).map (·.1)
 | []=>⟨by simp [putF],fun g h=>by simp at h⟩
 |(k,x)::r=>by
  obtain ⟨i1,i2⟩:=keys_putF f v r
  rw [show putF f v ((k,x)::r)=(if k=f then (k,v)::r else (k,x)::putF f v r) from rfl]
  by_cases hk:k=f
  ·rw [if_pos hk]
   subst hk
   exact ⟨by simp,fun g h=>by simpa using h⟩
  ·rw [if_neg hk]
   refine ⟨?_,fun g h=> ?_⟩
   ·rw [List.map_cons]
    exact List.mem_cons_of_mem _ i1
   ·rw [List.map_cons] at h ⊢
    rcases List.mem_cons.mp h with e|e
    ·exact List.mem_cons.mpr (.inl e)
    ·exact List.mem_cons_of_mem _ (i2 g e)
theorem length_putF (f:Str) (v:V):∀ fs:List (Str×V),(putF f v fs).length≤fs.length+1
 | []=>by simp [putF]
 |(k,x)::r=>by
  have ih:=length_putF f v r
  rw [show putF f v ((k,x)::r)=(if k=f then (k,v)::r else (k,x)::putF f v r) from rfl]
  by_cases hk:k=f
  ·rw [if_pos hk,List.length_cons,List.length_cons];omega
  ·rw [if_neg hk,List.length_cons,List.length_cons];omega
theorem RelO.some_of {v:V} {o:Option Value} (r:RelO (some v) o):∃ u,o=some u∧RelV v u:=by
 cases o with
 |none=>exact (show False from r).elim
 |some u=>exact ⟨u,rfl,r⟩
theorem RelO.none_of {o:Option Value} (r:RelO none o):o=none:=by
 cases o with
 |none=>rfl
 |some u=>exact (show False from r).elim
theorem handed_of {v:V} {u:Value} (r:RelV v u):PySem.W.handedIn u=true:=by
 cases v with
 |non=>cases (show u=Value.none from r);rfl
 |bl b=>cases (show u=Value.bool b from r);rfl
 |int i=>obtain ⟨t,e⟩:=(show ∃ t,u=Value.int i t from r);cases e;rfl
 |str x=>obtain ⟨t,e⟩:=(show ∃ t,u=Value.str x t from r);cases e;rfl
 |byt b=>obtain ⟨t,e⟩:=(show ∃ t,u=Value.bytes b t from r);cases e;rfl
 |flt b=>obtain ⟨t,e⟩:=(show ∃ t,u=Value.float b t from r);cases e;rfl
 |ref a=>cases (show u=Value.ref a from r);rfl
 |ty n=>cases (show u=Value.type n from r);rfl
section
variable {P:Program} {w:World} {H H':Hp} {h h':Heap} {a C dx:Addr} {fs fs':List (Str×V)}
theorem ins_get (hok:HOk P w H h) (e:H a=some (.ins C dx fs)):∃ mA,ObjM h a dx C mA∧(∀ f,RelO (fs.lookup f) (mA f))∧PySem.Within mA (fs.map (·.1))∧fs.length≤1000∧H dx=some (.own a):=by
 obtain ⟨d,z,ne,ob,mA,n,r,q⟩:=(show ObjOk P w H h a (.ins C dx fs) from hok a _ e)
 exact ⟨mA,⟨ob,n,ne⟩,r,q,z,d⟩
end
structure Cls (K:PySem.W.Frag) (C:Addr):Prop where
 pg:PySem.W.plainGet K C Str.empty=true
 hd:PySem.W.hasDictIn K C=true
 po:PySem.W.plainOver K C=true
 sa:PySem.W.findIn K (.ref C) "__setattr__"=some (some (.builtin "object.__setattr__"))
theorem Cls.get {K:PySem.W.Frag} {C:Addr} (c:Cls K C) (f:Str):PySem.W.plainGet K C f=true:=c.pg
def NoAttr (K:PySem.W.Frag) (C:Addr) (f:Str):Prop:=PySem.W.findIn K (.ref C) f=some none
theorem NoAttr.taker {K:PySem.W.Frag} {C:Addr} {f:Str} (n:NoAttr K C f):PySem.W.takerIn K C f=some none:=by
 unfold PySem.W.takerIn
 rw [show PySem.W.findIn K (.ref C) f=some none from n]
 rfl
structure Con (K:PySem.W.Frag) (C:Addr) (f:Str) (v:V) (u:Value):Prop where
 at_:PySem.W.findIn K (.ref C) f=some (some u)
 rel:RelV v u
 get:PySem.W.specialIn K u "__get__"=some none
 cp:PySem.W.copiedNames.contains f=false
structure Meth (K:PySem.W.Frag) (C:Addr) (m:Str) (f:Addr):Prop where
 at_:PySem.W.findIn K (.ref C) m=some (some (.ref f))
 fn:PySem.W.isFn K (.ref f)=true
 kp:PySem.W.keepIn K (.ref f)=true
section
variable {X:Cx} {pins:List (Addr×Obj)} {σ:St} {H:Hp} {s:Shared} {a C dx:Addr} {fs:List (Str×V)} {f:Str} {v:V} {A:Around} {E:Value→Shared→Prop}
theorem getattr_ok {b:Bool} {Q:Value→Shared→Prop} (I:Inv X pins σ H s) (e:H a=some (.ins C dx fs)) (c:Cls X.K C) (n:NoAttr X.K C f) (l:fs.lookup f=some v)
  (h:∀ u s',Inv X pins σ H s'→RelV v u→Q u s'):wpAny (model X.prog X.w) A (getAttr (.ref a) f b) Q E s:=by
 obtain ⟨mA,O,r,_,_,_⟩:=ins_get I.hok e
 obtain ⟨u,hu,ru⟩:=RelO.some_of (v:=v) (o:=mA f) (by rw [←l];exact r f)
 exact get_map I.kIn O (c.get f) c.hd n hu (handed_of ru) (h u _ (I.tok _) ru)
theorem getmeth_ok {m:Str} {g:Addr} {pl:Sem Bool} {Q:Value×List Value→Shared→Prop} (I:Inv X pins σ H s) (e:H a=some (.ins C dx fs)) (c:Cls X.K C) (k:Meth X.K C m g) (l:fs.lookup m=none)
  (h:Q (.ref g,[.ref a]) s):wpAny (model X.prog X.w) A (getMethod (.ref a) m pl) Q E s:=by
 obtain ⟨mA,O,r,_,_,_⟩:=ins_get I.hok e
 have hn:mA m=none:=RelO.none_of (by rw [←l];exact r m)
 exact get_meth I.kIn O (c.get m) k.at_ k.fn hn h
theorem setattr_ok {y:V} {u:Value} {Q:Unit→Shared→Prop} (I:Inv X pins σ H s) (e:H a=some (.ins C dx fs)) (c:Cls X.K C) (n:NoAttr X.K C f) (hl:fs.length<1000) (ry:RelV y u)
  (h:∀ s',Inv X pins σ (upd H a (.ins C dx (putF f y fs))) s'→Q () s'):wpAny (model X.prog X.w) A (setAttr (.ref a) f u) Q E s:=by
 obtain ⟨mA,O,r,wi,_,ho⟩:=ins_get I.hok e
 have hz:(fs.map (·.1)).length≤sizeLine:=by rw [List.length_map,sizeLine_eq];omega
 refine set_map I.kIn O c.sa c.po n.taker c.hd wi hz fun h' O' sb=>h _ ?_
 have hd:∃ o,h'.get? dx=some o:=let ⟨o,_,_,e',_⟩:=O'.ns;⟨o,e'⟩
 refine I.write (x:=a) (e:=dx) (by rw [e];exact True.intro) (.inr ho) (fun b q hb z=>(sb.2 b hb).trans z) hd ?_
 refine ⟨by rw [upd_ne O.ne];exact ho,?_,O.ne,O'.obj,_,O'.ns,fun g=> ?_,fun g hg=> ?_⟩
 ·have:=length_putF f y fs;omega
 ·show RelO ((putF f y fs).lookup g) (if g=f then some u else mA g)
  rw [lookup_putF]
  by_cases q:g=f
  ·rw [if_pos q,if_pos q];exact ry
  ·rw [if_neg q,if_neg q];exact r g
 ·by_cases q:g=f
  ·rw [q];exact (keys_putF f y fs).1
  ·refine (keys_putF f y fs).2 g (wi g fun z=>hg ?_)
   show (if g=f then some u else mA g)=none
   rw [if_neg q];exact z
theorem Inv.made (I:Inv X pins σ H s):Inv X pins σ (upd (upd H s.heap.objs.size (.own (s.heap.objs.size+1))) (s.heap.objs.size+1) (.ins C s.heap.objs.size []))
  {s with heap:=(s.heap.push PySem.W.emptyDict).push (PySem.W.instObj C s.heap.objs.size)}:=by
 have e1:(s.heap.push PySem.W.emptyDict).get? s.heap.objs.size=some PySem.W.emptyDict:=Heap.get?_push_size s.heap rfl
 have e2:((s.heap.push PySem.W.emptyDict).push (PySem.W.instObj C s.heap.objs.size)).get? (s.heap.objs.size+1)=some (PySem.W.instObj C s.heap.objs.size):=by
  have:=Heap.get?_push_size (s.heap.push PySem.W.emptyDict) (o:=PySem.W.instObj C s.heap.objs.size) rfl
  rwa [Heap.size_push] at this
 have e3:(s.heap.push PySem.W.emptyDict).Ns s.heap.objs.size (fun _=>none):=⟨PySem.W.emptyDict,#[],_,e1,rfl,(fun e he=>absurd he (by simp)),fun _=>rfl⟩
 have I1:=I.laid (a:=s.heap.objs.size) (o:= .own (s.heap.objs.size+1)) (h':=s.heap.push PySem.W.emptyDict) (t':=s.toks) (fun b u q=>Heap.get?_push_of_some _ q) (Nat.le_refl _) ⟨_,e1⟩
 refine I1.laid (a:=s.heap.objs.size+1) (o:= .ins C s.heap.objs.size []) (t':=s.toks) (fun b u q=>Heap.get?_push_of_some _ q) (Nat.le_of_eq (Heap.size_push _ _)) ?_
 have ne:s.heap.objs.size≠s.heap.objs.size+1:=Nat.ne_of_lt (Nat.lt_succ_self _)
 refine ⟨by rw [upd_ne ne,upd_same],Nat.zero_le _,ne,e2,fun _=>none,(Heap.Ns1.of_empty e3).at fun o q=>Heap.get?_push_of_some _ q,fun _=>True.intro,fun y hy=>absurd rfl hy⟩
theorem attr_of {prog:Program} {w:World} {env:Env} {e:Expr} {f:Str} {pos:Pos} {s:Shared} {Q:Value→Shared→Prop} (hb:attributeBase e f env (eval e env)=eval e env)
  (h:wpAny (model prog w) A (eval e env) (fun o s₁=>wpAny (model prog w) A (getAttr o f true) Q E s₁) E s):wpAny (model prog w) A (eval (.Attribute e f pos) env) Q E s:=
 Attribute_any_ h (by rw [arm_eval_Attribute,hb])
end
def tFld (K:PySem.W.Frag) (ta:TE) (f:Str):TE:=fun σ H Q=>ta σ H fun x H1=>∃ a C dx fs v,x= .ref a∧H1 a=some (.ins C dx fs)∧Cls K C∧NoAttr K C f∧fs.lookup f=some v∧Q v H1
def sFld (K:PySem.W.Frag) (ta tv:TE) (f:Str):TS:=fun D σ H=>tv σ H fun y H1=>ta σ H1 fun x H2=>∃ a C dx fs,x= .ref a∧H2 a=some (.ins C dx fs)∧Cls K C∧NoAttr K C f∧fs.length<1000∧
 D.nx σ (upd H2 a (.ins C dx (putF f y fs)))
section
variable {X:Cx} {o e value:Expr} {f:Str} {pos pos' tpos:Pos} {ta tv:TE}
theorem pe_fld (he:PE X e ta) (hb:attributeBase e f X.env (eval e X.env)=eval e X.env):PE X (.Attribute e f pos) (tFld X.K ta f):=by
 intro pins s σ H Q I h
 refine attr_of hb (thn (he pins s σ H _ I h) fun u s1 ⟨x,H1,I1,rx,a,C,dx,fs,v,ex,ea,c,n,l,q⟩=> ?_)
 subst ex
 obtain rfl:u=Value.ref a:=rx
 exact getattr_ok I1 ea c n l fun u' s2 I2 ru=>⟨v,H1,I2,ru,q⟩
theorem ps_fld (ha:PE X o ta) (hv:PE X value tv) (hs:swapsWith value (some (.Attribute o f pos')) pos.line X.env=pure false):PS X (.Assign [.Attribute o f pos'] value pos) (sFld X.K ta tv f):=by
 intro pins s σ H D I h
 refine plainObj_wpAny_Assign_Attribute (thn (hv pins s σ H _ I h) fun u s1 ⟨y,H1,I1,ry,q⟩=>thn (ha pins s1 σ H1 _ I1 q) fun ov s2 ⟨x,H2,I2,rx,a,C,dx,fs,ex,ea,c,n,l,q2⟩=> ?_) hs
 subst ex
 obtain rfl:ov=Value.ref a:=rx
 exact setattr_ok I2 ea c n l ry fun s3 I3=>⟨σ,_,I3,q2⟩
end
section
variable {X:Cx} {pins:List (Addr×Obj)} {σ:St} {H:Hp} {s:Shared} {A:Around} {E:Value→Shared→Prop} {Q:Value→Shared→Prop} {c:Value} {b:Bool}
inductive TyOf (K:PySem.W.Frag) (H:Hp):V→Value→Prop where
 |non:TyOf K H .non (.type "NoneType")
 |bl (x:Bool):TyOf K H (.bl x) (.type "bool")
 |int (i:Int):TyOf K H (.int i) (.type "int")
 |str (x:Str):TyOf K H (.str x) (.type "str")
 |flt (x:UInt64):TyOf K H (.flt x) (.type "float")
 |lst {a:Addr} {xs:List V} (e:H a=some (.lst xs)):TyOf K H (.ref a) (.type "list")
 |frz {a:Addr} {o:Obj} {xs:List V} (e:H a=some (.frz o (.lst xs))):TyOf K H (.ref a) (.type "list")
 |tup {a:Addr} {xs:List V} (e:H a=some (.tup xs)):TyOf K H (.ref a) (.type "tuple")
 |dK {a:Addr} {kvs:List (Key×V)} (e:H a=some (.dK kvs)):TyOf K H (.ref a) (.type "dict")
 |dT {a:Addr} {kvs:List (List Key×V)} (e:H a=some (.dT kvs)):TyOf K H (.ref a) (.type "dict")
 |ins {a C dx:Addr} {fs:List (Str×V)} (e:H a=some (.ins C dx fs)) (cl:Cls K C) (ha:PySem.W.findIn K (.ref C) "__class__"=some (some (.builtin "object.__class__")))
   (hn:PySem.W.specialIn K (.builtin "object.__class__") "__get__"=some (some (.builtin "getset_descriptor.__get__"))) (htk:PySem.W.takesIn K (.builtin "object.__class__")=some true)
   (hm:PySem.W.mroIn K C (.type "object")=some true):TyOf K H (.ref a) (.ref C)
end
end L2
namespace L2
open PySem PySem.Spec PyProof.Rows
structure Room (k:Nat) (A:Around):Prop where
 hd:A.handled=none
 dp:A.depth+3*k+5<recursionLimit
 un:A.units+16*k+200<cLine
 gd:A.guards=some []
theorem Room.mono {j k:Nat} {A:Around} (r:Room k A) (h:j≤k):Room j A:=⟨r.hd,by have:=r.dp;omega,by have:=r.un;omega,r.gd⟩
theorem Room.deeper {k:Nat} {A:Around} (r:Room (k+1) A) (env:Env):Room k (A.deeper env):=
 ⟨r.hd,by have:=r.dp;show A.depth+1+3*k+5<_;omega,by have:=r.un;show A.units+3+16*k+200<_;omega,r.gd⟩
theorem Room.in1 {k:Nat} {A:Around} (r:Room (k+1) A):Room k A.in1:=
 ⟨r.hd,by have:=r.dp;show A.depth+3*k+5<_;omega,by have:=r.un;show A.units+1+16*k+200<_;omega,r.gd⟩
theorem make_depth {A:Around} {C:Addr} {us:List Value} {kw:List (Str×Value)}:(A.under (.builtin "type.__call__" ⟨.ref C::us,kw⟩)).depth=A.depth+1:=by
 first|rfl|simp [Around.under,Code.weight,Code.isCreation,Code.isGuard,Code.isCaller,Code.frames,Code.isFrame,guardIds]
theorem make_units {A:Around} {C:Addr} {us:List Value} {kw:List (Str×Value)}:(A.under (.builtin "type.__call__" ⟨.ref C::us,kw⟩)).units=A.units+1:=by
 first|rfl|simp [Around.under,Code.cUnits,Code.frames,Code.isFrame]
theorem Room.make {k:Nat} {A:Around} (r:Room (k+1) A) (C:Addr) (us:List Value) (kw:List (Str×Value)):Room k (A.under (.builtin "type.__call__" ⟨.ref C::us,kw⟩)):=
 ⟨r.hd,by have:=r.dp;rw [make_depth];omega,by have:=r.un;rw [make_units];omega,by first|exact r.gd|(simpa [Around.under,Code.guards,pushGuards] using r.gd)⟩
theorem Room.depth {k:Nat} {A:Around} (r:Room k A):A.depth<recursionLimit:=by have:=r.dp;omega
theorem Room.units {k:Nat} {A:Around} (r:Room k A):A.units+64<cLine:=by have:=r.un;omega
def tNil:TA:=fun _ H Q=>Q [] H
def tCons (ta:TE) (tr:TA):TA:=fun σ H Q=>ta σ H fun x H1=>tr σ H1 fun xs H2=>Q (x::xs) H2
section
variable {X:Cx} {e:Expr} {es:List Expr} {te:TE} {t:TA} {pos:Pos}
theorem pa_nil:PA X [] tNil:=fun _ _ _ _ H Q I h=>Calls.spliced_nil ⟨[],H,I, .nil,h⟩
theorem pa_cons (ha:PE X e te) (hr:PA X es t) (hs:starEach (e::es) X.env=(false,eval e X.env)::starEach es X.env:=by rfl):PA X (e::es) (tCons te t):=by
 intro pos pins s σ H Q I h
 rw [hs]
 show wpAny _ _ (spliced ((false,eval e X.env)::backTo pos (starEach es X.env))) _ _ s
 refine Calls.spliced_cons (thn (ha pins s σ H _ I h) fun u s1 ⟨x,H1,I1,r1,q1⟩=> ?_)
 exact thn (hr pos pins s1 σ H1 _ I1 q1) fun us s2 ⟨xs,H2,I2,r2,q2⟩=>⟨x::xs,H2,I2, .cons r1 r2,q2⟩
def tTup (t:TA):TE:=fun σ H Q=>t σ H fun xs H1=>xs.length≤sizeLine∧∀ p,H1 p=none→Q (.ref p) (upd H1 p (.tup xs))
def tLst (t:TA):TE:=fun σ H Q=>t σ H fun xs H1=>xs.length≤sizeLine∧∀ p,H1 p=none→Q (.ref p) (upd H1 p (.lst xs))
theorem pe_tup {x1} (h:PA X es t):PE X (.Tuple es x1 pos) (tTup t):=by
 intro pins s σ H Q I hq
 refine wpAny_Tuple_spliced (thn (h pos pins s σ H _ I hq) fun us s1 ⟨xs,H1,I1,r,z,q⟩=>⟨by rw [←r.length];exact z,?_⟩)
 have hf:H1 s1.heap.objs.size=none:=I1.hok.fresh (Nat.le_refl _)
 refine ⟨.ref s1.heap.objs.size,upd H1 s1.heap.objs.size (.tup xs),I1.laid (t':=s1.toks) (fun b u e=>Heap.get?_push_of_some _ e) (Nat.le_refl _) ?_,rfl,q _ hf⟩
 exact ⟨z,us,r,⟨_,Heap.get?_push_size _ rfl,rfl,_,rfl⟩⟩
theorem pe_lst (h:PA X es t):PE X (.List es pos) (tLst t):=by
 intro pins s σ H Q I hq
 refine wpAny_List_spliced (thn (h pos pins s σ H _ I hq) fun us s1 ⟨xs,H1,I1,r,z,q⟩=>⟨by rw [←r.length];exact z,?_⟩)
 have hf:H1 s1.heap.objs.size=none:=I1.hok.fresh (Nat.le_refl _)
 refine ⟨.ref s1.heap.objs.size,upd H1 s1.heap.objs.size (.lst xs),I1.laid (t':=s1.toks) (fun b u e=>Heap.get?_push_of_some _ e) (Nat.le_refl _) ?_,rfl,q _ hf⟩
 exact ⟨z,us,0,r,Heap.get?_push_size _ rfl⟩
end
abbrev Sp:=List V→Hp→VK→XK→Prop
abbrev CXT:=List Env→Hp→Shared→XK→Value→Shared→Prop
structure Env0 (P:Program) (w:World) (K:PySem.W.Frag) (mg:Str→Option Value) (base:Heap) (A:Around) (outer:List Env) (s:Shared) (H:Hp):Prop where
 frames:A.frames=some outer
 mod:Mod K mg base
 bs:∀ b o,base.get? b=some o→s.heap.get? b=some o∧H b=none
 bsz:base.objs.size≤s.heap.objs.size
 funs:s.heap.FunFrames base outer
 frf:∀ b∈frs outer,H b=none
 hok:HOk P w H s.heap
 bare:AllBare s.gens
def CE (outer:List Env) (P:Program) (w:World) (H:Hp) (s:Shared) (Q:VK) (u:Value) (s':Shared):Prop:=
 ∃ v H',s'.os=s.os∧AllBare s'.gens∧Un (frs outer) [] H H' s.heap s'.heap∧HOk P w H' s'.heap∧RelV v u∧Q v H'
def CR (CX:CXT) (outer:List Env) (P:Program) (w:World) (H:Hp) (s:Shared) (Q:VK) (E:XK) (r:Result) (s':Shared):Prop:=
 match r with
 | .ok (.ret u)=>CE outer P w H s Q u s'
 | .ok _=>False
 | .error e=>CX outer H s E e s'
structure FnOk (P:Program) (w:World) (K:PySem.W.Frag) (mg:Str→Option Value) (base:Heap) (CX:CXT) (k:Nat) (f:Addr) (fd:FuncData) (ps:List Str) (sp:Sp):Prop where
 len:∀ vs H Q E,sp vs H Q E→vs.length=ps.length
 run:∀ (A:Around) (outer:List Env) (s:Shared) (H:Hp) (args:Args) (us:List Value) (vs:List V) (Q:VK) (E:XK),Room k A→Env0 P w K mg base A outer s H→BindsTo s fd args (ps.zip us)→Vals vs us→sp vs H Q E→
  codeAny (model P w) A (.call (.ref f) args) (CR CX outer P w H s Q E) s
theorem FnOk.mono {P:Program} {w:World} {K:PySem.W.Frag} {mg:Str→Option Value} {base:Heap} {CX:CXT} {j k:Nat} {f:Addr} {fd:FuncData} {ps:List Str} {sp:Sp} (F:FnOk P w K mg base CX j f fd ps sp) (h:j≤k):
  FnOk P w K mg base CX k f fd ps sp:=⟨F.len,fun A outer s H args us vs Q E hr=>F.run A outer s H args us vs Q E (hr.mono h)⟩
theorem FnOk.imp {P:Program} {w:World} {K:PySem.W.Frag} {mg:Str→Option Value} {base:Heap} {CX:CXT} {k:Nat} {f:Addr} {fd:FuncData} {ps:List Str} {sp sp':Sp} (F:FnOk P w K mg base CX k f fd ps sp)
  (h:∀ vs H Q E,sp' vs H Q E→sp vs H Q E):FnOk P w K mg base CX k f fd ps sp':=
 ⟨fun vs H Q E q=>F.len vs H Q E (h _ _ _ _ q),fun A outer s H args us vs Q E hr he hb hv hs=>F.run A outer s H args us vs Q E hr he hb hv (h _ _ _ _ hs)⟩
theorem Env0.make {P:Program} {w:World} {K:PySem.W.Frag} {mg:Str→Option Value} {base:Heap} {A:Around} {outer:List Env} {s:Shared} {H:Hp} (e:Env0 P w K mg base A outer s H) (C:Addr) (us:List Value) (kw:List (Str×Value)):
  Env0 P w K mg base (A.under (.builtin "type.__call__" ⟨.ref C::us,kw⟩)) outer s H:=⟨by first|exact e.frames|(simpa [Around.under,Code.envs,Code.isFrame,pushEnvs] using e.frames),e.mod,e.bs,e.bsz,e.funs,e.frf,e.hok,e.bare⟩
theorem Env0.in1 {P:Program} {w:World} {K:PySem.W.Frag} {mg:Str→Option Value} {base:Heap} {A:Around} {outer:List Env} {s:Shared} {H:Hp} (e:Env0 P w K mg base A outer s H):
  Env0 P w K mg base A.in1 outer s H:=⟨e.frames,e.mod,e.bs,e.bsz,e.funs,e.frf,e.hok,e.bare⟩
section
variable {X:Cx} {pins:List (Addr×Obj)} {σ:St} {H:Hp} {s s':Shared}
theorem Inv.env0 (I:Inv X pins σ H s):Env0 X.prog X.w X.K X.mg X.base X.A X.stack s H:=
 ⟨I.ok.frames,I.ok.mod,I.bs,Nat.le_trans I.ok.bsz I.sz,I.stack,I.stkFree,I.hok,I.bare⟩
theorem Inv.after {Q:VK} {u:Value} (I:Inv X pins σ H s) (h:CE X.stack X.prog X.w H s Q u s'):EP X pins σ Q u s':=by
 obtain ⟨v,H',os,bare,un,hok,r,q⟩:=h
 obtain ⟨hh,g,d,t,os'⟩:=s'
 obtain rfl:os'=s.os:=os
 exact ⟨v,H',I.call (h':=hh) (g':=g) (d':=d) (t':=t) (ch:= []) un hok bare (fun b z=>absurd z (by simp)),r,q⟩
end
def tCall (sp:Sp) (dvs:List V) (E:XK) (t:TA):TE:=fun σ H Q=>t σ H fun vs H1=>sp (vs++dvs) H1 Q E
def tMake (C:Addr) (sp:Sp) (dvs:List V) (E:XK) (t:TA):TE:=fun σ H Q=>t σ H fun vs H1=>∀ x dx,H1 x=none→H1 dx=none→dx≠x→
 sp (.ref x::(vs++dvs)) (upd (upd H1 dx (.own x)) x (.ins C dx [])) (fun v H2=>v= .non∧Q (.ref x) H2) E
def Binds (K:PySem.W.Frag) (fd:FuncData) (ps:List Str) (ds:List Value):Prop:=
 ∀ (s:Shared) (us:List Value),K.In s.heap→(us++ds).length=ps.length→BindsTo s fd ⟨us,[]⟩ (ps.zip (us++ds))
theorem Binds.all {K:PySem.W.Frag} {fd:FuncData} {ps:List Str} (h:∀ us:List Value,us.length=ps.length→bindArgs fd ⟨us,[]⟩=pure (ps.zip us)):Binds K fd ps []:=fun s us _ hl=>by
 rw [List.append_nil] at hl ⊢
 exact .of_eq (h us hl)
def Passes (CX:CXT) (X:Cx) (E:XK):Prop:=∀ (pins:List (Addr×Obj)) (σ:St) (H:Hp) (s:Shared) (e:Value) (s':Shared),Inv X pins σ H s→CX X.stack H s E e s'→X.xe e s'
section
variable {X:Cx} {CX:CXT} {k:Nat} {f C:Addr} {fd:FuncData} {ps:List Str} {sp:Sp} {dvs:List V} {ds:List Value} {E:XK} {x m:Str} {p pos apos:Pos} {e o:Expr} {es:List Expr} {ta:TE} {t:TA}
theorem run_fn {pins:List (Addr×Obj)} {σ:St} {H:Hp} {s:Shared} {Q:VK} {us:List Value} {vs:List V} (F:FnOk X.prog X.w X.K X.mg X.base CX k f fd ps sp) (hr:Room k X.A) (hb:Binds X.K fd ps ds) (hd:Vals dvs ds) (hx:Passes CX X E)
  (I:Inv X pins σ H s) (r:Vals vs us) (h:sp (vs++dvs) H Q E):wpAny (model X.prog X.w) X.A (call (.ref f) us) (EP X pins σ Q) X.xe s:=by
 have r2:Vals (vs++dvs) (us++ds):=r.append hd
 have hl:(us++ds).length=ps.length:=by rw [←r2.length];exact F.len _ _ _ _ h
 refine wpAny_call (codeAny_mono (F.run X.A X.stack s H ⟨us,[]⟩ (us++ds) (vs++dvs) Q E hr I.env0 (hb s us I.kIn hl) r2 h) fun r s' hq=> ?_)
 cases r with
 |error e=>exact hx pins σ H s e s' I hq
 |ok fl=>
  cases fl with
  |ret u=>exact I.after hq
  |next=>exact False.elim hq
  |brk=>exact False.elim hq
  |cont=>exact False.elim hq
theorem pe_call (F:FnOk X.prog X.w X.K X.mg X.base CX k f fd ps sp) (hr:Room k X.A) (hg:Gl X x) (hm:X.mg x=some (.ref f)) (hk:PySem.W.keepIn X.K (.ref f)=true) (hb:Binds X.K fd ps ds) (hd:Vals dvs ds) (hx:Passes CX X E)
  (ha:PA X (e::es) t) (hdb:(x==("__debug__":Str))=false:=by decide) (he:starEach (e::es) X.env=(false,eval e X.env)::starEach es X.env:=by rfl) (hpl:(backTo pos (starEach es X.env)).any (·.1)=false:=by rfl):
  PE X (.Call (.Name x p) (e::es) [] pos) (tCall sp dvs E t):=by
 intro pins s σ H Q I h
 refine wpAny_Call_Name_kw (ld_glob I hg hm ?_ hdb)
 refine PySem.W.callWith_K (h₀:=X.base) I.ok.mod.kin hk (thn (ha pos pins s σ H _ I h) fun us s1 ⟨vs,H1,I1,r,q⟩=>⟨I1.kIn,?_⟩) he hpl
 exact run_fn F hr hb hd hx I1 r q
structure Mk (K:PySem.W.Frag) (C f:Addr):Prop where
 makes:PySem.W.makesIn K C=true
 init:PySem.W.findIn K (.ref C) "__init__"=some (some (.ref f))
 fn:PySem.W.isFn K (.ref f)=true
 kp:PySem.W.keepIn K (.ref C)=true
theorem run_make {pins:List (Addr×Obj)} {σ:St} {H:Hp} {s:Shared} {Q:VK} {us:List Value} {vs:List V} (M:Mk X.K C f) (F:FnOk X.prog X.w X.K X.mg X.base CX k f fd ps sp) (hr:Room (k+1) X.A) (hb:Binds X.K fd ps ds) (hd:Vals dvs ds)
  (hx:Passes CX X E) (I:Inv X pins σ H s) (r:Vals vs us)
  (h:∀ x dx,H x=none→H dx=none→dx≠x→sp (.ref x::(vs++dvs)) (upd (upd H dx (.own x)) x (.ins C dx [])) (fun v H2=>v= .non∧Q (.ref x) H2) E):
  wpAny (model X.prog X.w) X.A (call (.ref C) us) (EP X pins σ Q) X.xe s:=by
 have hq:=h (s.heap.objs.size+1) s.heap.objs.size (I.hok.fresh (Nat.le_succ _)) (I.hok.fresh (Nat.le_refl _)) (Nat.ne_of_lt (Nat.lt_succ_self _))
 have I2:=Inv.made (C:=C) I
 have r2:Vals (V.ref (s.heap.objs.size+1)::(vs++dvs)) (Value.ref (s.heap.objs.size+1)::(us++ds)):= .cons rfl (r.append hd)
 have hl:(Value.ref (s.heap.objs.size+1)::us++ds).length=ps.length:=by
  have e:=r2.length
  rw [F.len _ _ _ _ hq] at e
  exact e.symm
 refine wpAny_call (make_map (f:=f) I.kIn M.makes M.init (beq_iff_eq.mp M.fn) (codeAny_mono (F.run _ X.stack _ _ ⟨Value.ref (s.heap.objs.size+1)::us,[]⟩ (Value.ref (s.heap.objs.size+1)::(us++ds)) _ _ E (hr.make C us [])
  (I2.env0.make C us []) (hb _ (Value.ref (s.heap.objs.size+1)::us) I2.kIn hl) r2 hq) fun r s' hq'=> ?_))
 cases r with
 |error e=>exact hx pins σ _ _ e s' I2 hq'
 |ok fl=>
  cases fl with
  |ret u=>
   obtain ⟨v,H',I3,rv,ev,q3⟩:=I2.after hq'
   subst ev
   exact ⟨rv,⟨V.ref (s.heap.objs.size+1),H',I3,rfl,q3⟩⟩
  |next=>exact False.elim hq'
  |brk=>exact False.elim hq'
  |cont=>exact False.elim hq'
theorem pe_make (M:Mk X.K C f) (F:FnOk X.prog X.w X.K X.mg X.base CX k f fd ps sp) (hr:Room (k+1) X.A) (hg:Gl X x) (hm:X.mg x=some (.ref C)) (hb:Binds X.K fd ps ds) (hd:Vals dvs ds) (hx:Passes CX X E)
  (ha:PA X (e::es) t) (hdb:(x==("__debug__":Str))=false:=by decide) (he:starEach (e::es) X.env=(false,eval e X.env)::starEach es X.env:=by rfl) (hpl:(backTo pos (starEach es X.env)).any (·.1)=false:=by rfl):
  PE X (.Call (.Name x p) (e::es) [] pos) (tMake C sp dvs E t):=by
 intro pins s σ H Q I h
 refine wpAny_Call_Name_kw (ld_glob I hg hm ?_ hdb)
 refine PySem.W.callWith_K (h₀:=X.base) I.ok.mod.kin M.kp (thn (ha pos pins s σ H _ I h) fun us s1 ⟨vs,H1,I1,r,q⟩=>⟨I1.kIn,?_⟩) he hpl
 exact run_make M F hr hb hd hx I1 r q
end
section
variable {X:Cx} {CX:CXT} {k:Nat} {f C:Addr} {fd:FuncData} {ps ks:List Str} {sp:Sp} {E:XK} {x m:Str} {p pos apos kpos:Pos} {e o:Expr} {es:List Expr} {kws:List Keyword} {te ta:TE} {t tk:TA} {nm:Option Str}
structure KBinds (K:PySem.W.Frag) (fd:FuncData) (ps ks:List Str) (g:List Value→List Value→List Value) (gV:List V→List V→List V):Prop where
 to:∀ (s:Shared) (us ws:List Value),K.In s.heap→(g us ws).length=ps.length→BindsTo s fd ⟨us,ks.zip ws⟩ (ps.zip (g us ws))
 rel:∀ {vs:List V} {us:List Value} {zs:List V} {ws:List Value},Vals vs us→Vals zs ws→Vals (gV vs zs) (g us ws)
variable {g:List Value→List Value→List Value} {gV:List V→List V→List V}
end
structure FnScope (N P:List Str) (sc:Scope):Prop where
 kind:sc.kind= .function
 co:sc.isCoroutine=false
 gen:sc.isGenerator=false
 nd:N.Nodup
 pre:N.take P.length=P
 par:∀ x∈P,sc.names.lookup x=some .local∨sc.names.lookup x=some .cell
 nofree:∀ y∈sc.names,y.2≠ .free
theorem bindL_out {kindOf:Str→Option NameKind} {x:Str}:∀ {binds:List (Str×Value)} {m:Str→Option Value},(∀ v,(x,v)∉binds)→bindL kindOf binds m x=m x
 | [],_,_=>rfl
 |(n,v)::r,m,h=>by
  unfold bindL
  rw [bindL_out fun w hw=>h w (List.mem_cons_of_mem _ hw)]
  split
  ·have:x≠n:=by rintro rfl;exact h v List.mem_cons_self
   simp [this]
  ·rfl
theorem bindC_out {kindOf:Str→Option NameKind} {x:Str}:∀ {binds:List (Str×Value)} {m:Str→Option Value},(∀ v,(x,v)∉binds)→bindC kindOf binds m x=m x
 | [],_,_=>rfl
 |(n,v)::r,m,h=>by
  unfold bindC
  rw [bindC_out fun w hw=>h w (List.mem_cons_of_mem _ hw)]
  split
  ·rfl
  ·have:x≠n:=by rintro rfl;exact h v List.mem_cons_self
   simp [this]
theorem bindL_get {kindOf:Str→Option NameKind} {x:Str} {v:Value}:∀ {P:List Str} {vs:List Value} {i:Nat} {m:Str→Option Value},P.Nodup→P[i]? =some x→vs[i]? =some v→kindOf x=some .local→
  bindL kindOf (P.zip vs) m x=some v
 | [],_,_,_,_,h,_,_=>by simp at h
 |_::_,[],_,_,_,_,h,_=>by simp at h
 |p::P,w::vs,0,m,nd,h1,h2,hk=>by
  simp at h1 h2;subst h1;subst h2
  show bindL kindOf ((p,w)::P.zip vs) m p=_
  unfold bindL
  rw [bindL_out fun v hv=>(List.nodup_cons.mp nd).1 (List.of_mem_zip hv).1,if_pos hk]
  simp
 |p::P,w::vs,i+1,m,nd,h1,h2,hk=>by
  show bindL kindOf ((p,w)::P.zip vs) m x=_
  unfold bindL
  exact bindL_get (i:=i) (List.nodup_cons.mp nd).2 (by simpa using h1) (by simpa using h2) hk
theorem bindC_get {kindOf:Str→Option NameKind} {x:Str} {v:Value}:∀ {P:List Str} {vs:List Value} {i:Nat} {m:Str→Option Value},P.Nodup→P[i]? =some x→vs[i]? =some v→kindOf x≠some .local→
  bindC kindOf (P.zip vs) m x=some v
 | [],_,_,_,_,h,_,_=>by simp at h
 |_::_,[],_,_,_,_,h,_=>by simp at h
 |p::P,w::vs,0,m,nd,h1,h2,hk=>by
  simp at h1 h2;subst h1;subst h2
  show bindC kindOf ((p,w)::P.zip vs) m p=_
  unfold bindC
  rw [bindC_out fun v hv=>(List.nodup_cons.mp nd).1 (List.of_mem_zip hv).1,if_neg hk]
  simp
 |p::P,w::vs,i+1,m,nd,h1,h2,hk=>by
  show bindC kindOf ((p,w)::P.zip vs) m x=_
  unfold bindC
  exact bindC_get (i:=i) (List.nodup_cons.mp nd).2 (by simpa using h1) (by simpa using h2) hk
def start (N:List Str) (vs:List V):St:=vs.map some++List.replicate (N.length-vs.length) none
def cxOf (CX:CXT) (P:Program) (w:World) (K:PySem.W.Frag) (mg:Str→Option Value) (base:Heap) (N:List Str) (qual:Str) (scope:Scope) (f:Addr) (cd:Value) (A:Around) (outer:List Env) (s:Shared) (H:Hp) (E:XK):Cx where
 prog:=P
 w:=w
 K:=K
 mg:=mg
 base:=base
 A:=A.deeper (envOfC qual scope s.heap.objs.size f cd)
 N:=N
 s₀:=s
 H₀:=H
 env:=envOfC qual scope s.heap.objs.size f cd
 outer:=outer
 stack:=envOfC qual scope s.heap.objs.size f cd::outer
 ex:= []
 calm:=true
 fn:=fun _=>true
 pn:= []
 xe:=fun e s'=>wpAny (model P w) (A.deeper (envOfC qual scope s.heap.objs.size f cd)) (leaving (envOfC qual scope s.heap.objs.size f cd) e) (fun _ s''=>CX outer H s E e s'') (fun e' s''=>CX outer H s E e' s'') s'
theorem cell_has {sc:Scope} {n:Nat} {x:Str} (h:sc.names.lookup x=some .cell):∃ c,(cellsFrom n sc.names []).lookup x=some c:=by
 have q:=PySem.W.cellsFrom_some sc.names n [] (.inl h)
 exact Option.isSome_iff_exists.mp q
theorem inv_start {CX:CXT} {P:Program} {w:World} {K:PySem.W.Frag} {mg:Str→Option Value} {base:Heap} {N ps:List Str} {qual:Str} {scope:Scope} {f:Addr} {cd:Value} {A:Around} {outer:List Env} {s s1:Shared} {H:Hp} {E:XK} {us:List Value} {vs:List V}
  (S:FnScope N ps scope) (hd:A.handled=none) (e0:Env0 P w K mg base A outer s H) (hl:vs.length=ps.length) (r:Vals vs us)
  (x:InCallC s s.heap.objs.size (bindL (envOfC qual scope s.heap.objs.size f cd).kindOf (ps.zip us) fun _=>none) (cellsFrom (s.heap.objs.size+1) scope.names []) (bindC (envOfC qual scope s.heap.objs.size f cd).kindOf (ps.zip us) fun _=>none) s1):
  Inv (cxOf CX P w K mg base N qual scope f cd A outer s H E) [] (start N vs) H s1:=by
 have hpl:ps.length≤N.length:=by have:=congrArg List.length S.pre;rw [List.length_take] at this;omega
 obtain ⟨h1,tk,rfl,hk⟩:=x.done
 have noA:∀ b:Addr,b∉(cxOf CX P w K mg base N qual scope f cd A outer s H E).ex:=fun b z=>absurd (show b∈([]:List Addr) from z) (by simp)
 refine ⟨⟨e0.mod,S.kind,rfl,rfl,Nat.le_refl _,fun y z c h1 h2=> ?_,fun y hy=> ?_,fun y c _ h=> ?_,fun _=>hd,Around.frames_deeper e0.frames, .inr ⟨rfl,rfl⟩,fun b z=>absurd z (noA b),e0.bs,e0.bsz,fun b _ _=>noA b,fun b z=>absurd z (noA b),e0.funs,e0.frf⟩,
  rfl,e0.bare,Un.kept hk,⟨_,x.toInCall.ns,fun i y v h1 h2 h3=> ?_⟩,fun y c h=>⟨_,x.cell y c h⟩,e0.hok.fresh (Nat.le_refl _),fun y c h=> ?_,fun p hp=>absurd (show p∈([]:List (Addr×Obj)) from hp) (by simp),e0.hok.kept hk,?_⟩
 ·exact name_of_addr x.apart (PySem.mem_of_lookup h1) (PySem.mem_of_lookup h2)
 ·have hy:scope.names.lookup y=some .cell∨scope.names.lookup y=some .free:=hy
  rcases hy with hy|hy
  ·exact cell_has hy
  ·exact absurd rfl (S.nofree _ (PySem.mem_of_lookup hy))
 ·exact Nat.le_of_lt (x.above y c (PySem.mem_of_lookup h))
 ·have hi:i<vs.length:=by
   unfold start at h2
   by_cases hi:i<vs.length
   ·exact hi
   ·rw [List.getElem?_append_right (by simpa using hi)] at h2
    rw [List.getElem?_replicate] at h2
    split at h2<;>cases h2
  have ha:vs[i]? =some v:=by
   unfold start at h2
   rw [List.getElem?_append_left (by simpa using hi),List.getElem?_map] at h2
   cases e:vs[i]? with
   |none=>rw [e] at h2;cases h2
   |some a=>rw [e] at h2;cases h2;rfl
  obtain ⟨u,hu,rv⟩:=r.get ha
  have hp:ps[i]? =some y:=by
   rw [←S.pre,List.getElem?_take_of_lt (by omega)];exact h1
  have ndP:ps.Nodup:=by rw [←S.pre];exact S.nd.sublist (List.take_sublist _ _)
  refine ⟨u,rv,?_⟩
  rcases S.par y (List.mem_of_getElem? hp) with k|k
  ·exact .inl ⟨k,bindL_get ndP hp hu k⟩
  ·obtain ⟨c,e⟩:=cell_has (n:=s.heap.objs.size+1) k
   refine .inr ⟨.inl k,c,e,?_⟩
   have q:=x.cell y c e
   rw [bindC_get ndP hp hu (by show scope.names.lookup y≠_;rw [k];decide)] at q
   exact q
 ·exact e0.hok.fresh (Nat.le_of_lt (x.above y c (PySem.mem_of_lookup h)))
 ·unfold start
  show _=N.length
  rw [List.length_append,List.length_map,List.length_replicate]
  omega
theorem fn_of {CX:CXT} {P:Program} {w:World} {K:PySem.W.Frag} {mg:Str→Option Value} {base:Heap} {k:Nat} {f:Addr} {name qual:Str} {params:Arguments} {body:List Stmt} {scope:Scope} {dV kV doc pm cdv ct oc:Value} {an od:Option Addr}
  {osl:Array (Option Value)} {N ps:List Str} {sp:Sp} (lk:K.lookup f=some ⟨oc,od, .func (PySem.W.fnOf name qual params body scope dV kV doc pm an cdv ct),osl⟩) (hcd:PySem.W.codeIn K cdv qual=true) (S:FnScope N ps scope)
  (len:∀ vs H Q E,sp vs H Q E→vs.length=ps.length)
  (hbody:∀ (A:Around) (outer:List Env) (s:Shared) (H:Hp) (vs:List V) (Q:VK) (E:XK),Room k (A.deeper (envOfC qual scope s.heap.objs.size f cdv))→sp vs H Q E→
   ∃ t,PSs (cxOf CX P w K mg base N qual scope f cdv A outer s H E) body t∧t {nx:=fun _ H'=>Q .non H',rt:=Q} (start N vs) H):
  FnOk P w K mg base CX (k+1) f (PySem.W.fnOf name qual params body scope dV kV doc pm an cdv ct) ps sp:=by
 refine ⟨len,fun A outer s H args us vs Q E hr e0 hb r hsp=> ?_⟩
 have hl:=len _ _ _ _ hsp
 have KX:K.In s.heap:=e0.mod.kin.keeps fun b o e=>(e0.bs b o e).1
 have lim:s.heap.NoLimit:=e0.mod.nolimit.keeps fun b o e=>(e0.bs b o e).1
 have hkind:∀ y∈ps.zip us,scope.names.lookup y.1=some .local∨(scope.names.lookup y.1=some .cell∧((cellsFrom (s.heap.objs.size+1) scope.names []).lookup y.1).isSome=true):=fun ⟨n,v⟩ hy=>by
  rcases S.par n (List.of_mem_zip hy).1 with q|q
  ·exact .inl q
  ·exact .inr ⟨q,PySem.W.cellsFrom_some _ _ _ (.inl q)⟩
 refine codeAny_call_function hr.depth (KX _ _ lk) rfl S.co S.gen rfl (PySem.W.codeRec_of KX hcd) (hb _ _ _ _ ?_)
 refine wpAny_newFunctionEnv_cells S.kind hkind fun env he s1 x=> ?_
 subst he
 refine ⟨lim.keeps x.toInCall.keep,codeAny_func ?_⟩
 obtain ⟨t,ht,hq⟩:=hbody A outer s H vs Q E (hr.deeper _) hsp
 have I:Inv (cxOf CX P w K mg base N qual scope f cdv A outer s H E) [] (start N vs) H s1:=inv_start S hr.hd e0 hl r x
 refine wpAny_mono (ht [] s1 (start N vs) H _ I hq) (fun fl s' hs=> ?_) fun e s' hs=>hs
 have fin:∀ {σ':St} {H':Hp} {v:V} {u:Value},Inv (cxOf CX P w K mg base N qual scope f cdv A outer s H E) [] σ' H' s'→RelV v u→Q v H'→CE outer P w H s Q u s':=
  fun {σ' H' v u} J rv q=>⟨v,H',J.os,J.bare,J.base,J.hok,rv,q⟩
 cases fl with
 |ret u=>
  obtain ⟨v,σ',H',J,rv,q⟩:=hs
  exact fin J rv q
 |next=>
  obtain ⟨σ',H',J,q⟩:=hs
  exact fin (v:=V.non) (u:=Value.none) J rfl q
 |brk=>
  obtain ⟨_,_,_,q⟩:=hs
  exact False.elim q
 |cont=>
  obtain ⟨_,_,_,q⟩:=hs
  exact False.elim q
end L2
namespace L2
open PySem PySem.Spec PyProof.Rows
section
variable {X:Cx} {x:Str} {p pos:Pos} {e:Expr} {es:List Expr} {t:TA} {id T:String} {r:List V→Hp→VK→Prop}
def tCB (r:List V→Hp→VK→Prop) (t:TA):TE:=fun σ H Q=>t σ H fun vs H1=>r vs H1 Q
theorem pe_callB (hc:CallR X (.builtin id) r) (hg:Gl X x) (hm:X.mg x=none) (hv:bootBuiltins x=some (.builtin id)) (ha:PA X (e::es) t) (hn:x≠"__name__":=by decide) (hdb:(x==("__debug__":Str))=false:=by decide)
  (he:starEach (e::es) X.env=(false,eval e X.env)::starEach es X.env:=by rfl) (hpl:(backTo pos (starEach es X.env)).any (·.1)=false:=by rfl):PE X (.Call (.Name x p) (e::es) [] pos) (tCB r t):=by
 intro pins s σ H Q I h
 refine wpAny_Call_Name_kw (ld_blt I hg hm hv ?_ hn hdb)
 exact PyProof.Rows.callWith_builtin1 (thn (ha pos pins s σ H _ I h) fun us s1 ⟨vs,H1,I1,r1,q1⟩=>hc pins s1 σ H1 vs us Q I1 r1 q1) he hpl
theorem pe_callTy (hc:CallR X (.type T) r) (hg:Gl X x) (hm:X.mg x=none) (hv:bootBuiltins x=some (.type T)) (ha:PA X (e::es) t) (hn:x≠"__name__":=by decide) (hdb:(x==("__debug__":Str))=false:=by decide)
  (he:starEach (e::es) X.env=(false,eval e X.env)::starEach es X.env:=by rfl) (hpl:(backTo pos (starEach es X.env)).any (·.1)=false:=by rfl):PE X (.Call (.Name x p) (e::es) [] pos) (tCB r t):=by
 intro pins s σ H Q I h
 refine wpAny_Call_Name_kw (ld_blt I hg hm hv ?_ hn hdb)
 exact PyProof.Rows.callWith_type1 (thn (ha pos pins s σ H _ I h) fun us s1 ⟨vs,H1,I1,r1,q1⟩=>hc pins s1 σ H1 vs us Q I1 r1 q1) he hpl
end
end L2
namespace HT
open PySem PyProof.Rows
section
open PySem.SeqAt
open PySem.AutoSeq1 (wpAny_loadPart')
open PySem.MeetsSeq PySem.MeetsSeq2 PySem.MeetsSeq3
end
section
variable {prog:Program} {w:World} {A:Around} {E:Value→Shared→Prop} {s:Shared}
theorem cat_tup {t b:Addr} {vs ws:List Value} {Q:Value→Shared→Prop} (ht:IsTup s.heap t vs.toArray) (hb:IsTup s.heap b ws.toArray) (hv:vs≠ [])
  (h1:ws= []→Q (.ref t) s) (h2:ws≠ []→Q (.ref s.heap.objs.size) {s with heap:=s.heap.push {cls:= .type "tuple",data:= .seq (vs++ws).toArray}})
  (hsz:vs.length+ws.length≤sizeLine):wpAny (model prog w) A (binaryOp .Add (.ref t) (.ref b)) Q E s:=by
 obtain ⟨⟨cls,dd,data,sl⟩,ho,hc,n,hd⟩:=id ht
 obtain ⟨⟨cls2,dd2,data2,sl2⟩,ho2,hc2,n2,hd2⟩:=id hb
 simp only at hc hd hc2 hd2
 subst hc hd hc2 hd2
 have e:vs.toArray++ws.toArray=(vs++ws).toArray:=by simp
 by_cases hw:ws= []
 ·exact concat_meets ⟨_,ho,rfl⟩ ⟨_,ho2,rfl⟩ noFill_tuple_add seq_tuple_add PySem.F.slot_tuple_add PySem.F.entry_tuple_add (PySem.F.args_tuple_add_2 _ _)
   (tuple_addW1 t b vs.toArray ws.toArray n n2 dd dd2 sl sl2 (by simpa using hv) (by simp [hw])) ⟨ho,ho2,h1 hw⟩
 ·refine concat_meets ⟨_,ho,rfl⟩ ⟨_,ho2,rfl⟩ noFill_tuple_add seq_tuple_add PySem.F.slot_tuple_add PySem.F.entry_tuple_add (PySem.F.args_tuple_add_2 _ _)
   (tuple_addW2 t b vs.toArray ws.toArray n n2 dd dd2 sl sl2 (by simpa using hv) (by simpa using hw) (by rw [List.size_toArray,List.size_toArray];exact hsz)) ⟨ho,ho2,?_⟩
  rw [e]
  exact h2 hw
def sIx (n d:Nat):Option Int→Nat
 |none=>d
 |some v=>if v<0 then (v+(n:Int)).toNat else min v.toNat n
end
end HT
namespace L2
open PySem PySem.Spec PyProof.Rows
abbrev TO:=St→Hp→(Option Int→Hp→Prop)→Prop
def PO (X:Cx) (e:Option Expr) (t:TO):Prop:=
 ∀ (pins:List (Addr×Obj)) (s:Shared) (σ:St) (H:Hp) (Q:Option Int→Hp→Prop),Inv X pins σ H s→t σ H Q→
  wpAny (model X.prog X.w) X.A (evalPart e X.env) (fun u s'=>∃ o H',Inv X pins σ H' s'∧IsPart u o∧Q o H') X.xe s
def tNoPart:TO:=fun _ H Q=>Q none H
def tPart (t:TE):TO:=fun σ H Q=>t σ H fun x H1=>∃ i,x= .int i∧Q (some i) H1
theorem intsAre_of {ns:List Int}:∀ {us:List Value},Vals (ns.map V.int) us→IntsAre us ns:=by
 induction ns with
 |nil=>intro us r;rw [List.map_nil] at r;cases r;exact .nil
 |cons n ns ih=>
  intro us r
  rw [List.map_cons] at r
  cases r with
  |cons r1 r2=>
   obtain ⟨t,e⟩:=r1
   subst e
   exact .cons n t (ih r2)
section
variable {X:Cx} {e:Expr} {te:TE} {lo hi:Option Expr} {tl th:TO} {pos p2:Pos}
theorem po_none:PO X none tNoPart:=by
 intro pins s σ H Q I h
 rw [evalPart_none]
 exact wpAny_pure ⟨none,H,I, .none,h⟩
theorem po_some (h:PE X e te):PO X (some e) (tPart te):=by
 intro pins s σ H Q I hw
 rw [evalPart_some]
 refine thn (h pins s σ H _ I hw) fun u s1 ⟨x,H1,I1,r1,q1⟩=> ?_
 obtain ⟨i,rfl,q⟩:=q1
 obtain ⟨t,rfl⟩:=r1
 exact ⟨some i,H1,I1, .int i t,q⟩
def SlR (X:Cx) (r:V→Option Int→Option Int→Hp→VK→Prop):Prop:=
 ∀ (pins:List (Addr×Obj)) (s:Shared) (σ:St) (H:Hp) (x:V) (v vl vu:Value) (lo hi:Option Int) (sl:Addr) (Q:VK),Inv X pins σ H s→RelV x v→s.heap.IsSliceOf sl vl vu .none→IsPart vl lo→IsPart vu hi→r x lo hi H Q→
  ∃ T id,typeLookup (.type T) "__getitem__"=pure (some (.builtin id))∧s.TypeIs v T∧wpAny (model X.prog X.w) X.A (getItem v (.ref sl)) (EP X pins σ Q) X.xe s
theorem SlR.or {r r':V→Option Int→Option Int→Hp→VK→Prop} (h:SlR X r) (h':SlR X r'):SlR X (fun x lo hi H Q=>r x lo hi H Q∨r' x lo hi H Q):=by
 intro pins s σ H x v vl vu lo hi sl Q I rx hs pl pu q
 rcases q with q|q
 ·exact h pins s σ H x v vl vu lo hi sl Q I rx hs pl pu q
 ·exact h' pins s σ H x v vl vu lo hi sl Q I rx hs pl pu q
def tSl (r:V→Option Int→Option Int→Hp→VK→Prop) (te:TE) (tl th:TO):TE:=fun σ H Q=>te σ H fun x H1=>tl σ H1 fun l H2=>th σ H2 fun u H3=>r x l u H3 Q
theorem pe_slice {r:V→Option Int→Option Int→Hp→VK→Prop} (hr:SlR X r) (he:PE X e te) (hl:PO X lo tl) (hu:PO X hi th):PE X (.Subscript e (.Slice lo hi none p2) pos) (tSl r te tl th):=by
 intro pins s σ H Q I h
 refine Subscript_ (thn (he pins s σ H _ I h) fun v s1 ⟨x,H1,I1,r1,q1⟩=> ?_)
 refine wpAny_Slice (thn (hl pins s1 σ H1 _ I1 q1) fun vl s2 ⟨l,H2,I2,pl,q2⟩=>thn (hu pins s2 σ H2 _ I2 q2) fun vu s3 ⟨u,H3,I3,pu,q3⟩=> ?_)
 rw [evalPart_none]
 refine wpAny_pure ?_
 have I4:Inv X pins σ H3 {s3 with heap:=s3.heap.push {cls:= .type "slice",data:= .fields #[vl,vu, .none]}}:=I3.kept (t':=s3.toks) fun b ob q=>Heap.get?_push_of_some _ q
 obtain ⟨T,id,hT,ht,hg⟩:=hr pins {s3 with heap:=s3.heap.push {cls:= .type "slice",data:= .fields #[vl,vu, .none]}} σ H3 x v vl vu l u s3.heap.objs.size Q I4 r1 (Heap.IsSliceOf.new ..) pl pu q3
 show wpAny (model X.prog X.w) X.A (subscriptTail e (.Slice lo hi none p2) v (.ref s3.heap.objs.size)) (EP X pins σ Q) X.xe {s3 with heap:=s3.heap.push {cls:= .type "slice",data:= .fields #[vl,vu, .none]}}
 exact tail_any (ops:= [.ref s3.heap.objs.size,v]) ht hT hg (by with_unfolding_all rfl)
def cutV (xs:List V) (lo hi:Option Int):List V:=(xs.drop (HT.sIx xs.length 0 lo)).take (HT.sIx xs.length xs.length hi-HT.sIx xs.length 0 lo)
theorem cutV_length (xs:List V) (lo hi:Option Int):(cutV xs lo hi).length≤xs.length:=by
 unfold cutV
 rw [List.length_take,List.length_drop]
 omega
def rCatT (K:PySem.W.Frag):R2:=fun x y H Q=>∃ a b xs ys,x= .ref a∧y= .ref b∧SqT K H a xs∧SqT K H b ys∧xs≠ []∧xs.length+ys.length≤sizeLine∧
 (ys= []→Q (.ref a) H)∧(ys≠ []→∀ p,H p=none→Q (.ref p) (upd H p (.tup (xs++ys))))
theorem Vals.nil_iff {xs:List V} {us:List Value} (r:Vals xs us):us= []↔xs= []:=by
 cases r with
 |nil=>simp
 |cons _ _=>simp
theorem op_catT:OpR X (binaryOp .Add) (rCatT X.K):=by
 intro pins s σ H x y v u Q I rx ry h
 obtain ⟨a,b,xs,ys,rfl,rfl,ha,hb,hx,hz,q1,q2⟩:=h
 cases rx
 cases ry
 obtain ⟨its,r1,p1,_⟩:=I.tuple ha
 obtain ⟨its2,r2,p2,_⟩:=I.tuple hb
 refine HT.cat_tup p1 p2 (fun z=>hx (r1.nil_iff.mp z)) (fun z=>⟨.ref a,H,I,rfl,q1 (r2.nil_iff.mp z)⟩) (fun z=> ?_) (by rw [←r1.length,←r2.length];exact hz)
 refine ⟨.ref s.heap.objs.size,_,I.laid (t':=s.toks) (o:= .tup (xs++ys)) (fun b ob q=>Heap.get?_push_of_some _ q) (Nat.le_refl _) ?_,rfl,q2 (fun w=>z (r2.nil_iff.mpr w)) _ (I.hok.fresh (Nat.le_refl _))⟩
 exact ⟨by rw [List.length_append];exact hz,_,r1.append r2,IsTup.new _ _⟩
end
end L2
namespace L2
open PySem PySem.Spec PyProof.Rows
def ixN (n:Nat) (i:Int):Option Nat:=if 0≤i then (if i<n then some i.toNat else none) else if -(n:Int)≤i then some (i+n).toNat else none
def atI {α:Type} (xs:List α) (i:Int):Option α:=(ixN xs.length i).bind fun j=>xs[j]?
theorem ixN_seq {n:Nat} {i:Int} {j:Nat} (h:ixN n i=some j):seqIndex? i n=some j∧j<n∧ -(n:Int)≤i∧i<n:=by
 unfold ixN at h
 by_cases h0:0≤i
 ·rw [if_pos h0] at h
  by_cases h1:i<n
  ·rw [if_pos h1] at h
   have e:i.toNat=j:=Option.some.inj h
   exact ⟨by rw [seqIndex_of h0 h1,e],by omega,by omega,h1⟩
  ·rw [if_neg h1] at h;cases h
 ·rw [if_neg h0] at h
  by_cases h1: -(n:Int)≤i
  ·rw [if_pos h1] at h
   have e:(i+n).toNat=j:=Option.some.inj h
   exact ⟨by rw [seqIndex_neg (by omega) h1,e],by omega,h1,by omega⟩
  ·rw [if_neg h1] at h;cases h
theorem atI_get {α:Type} {xs:List α} {i:Int} {v:α} (h:atI xs i=some v):∃ j,seqIndex? i xs.length=some j∧xs[j]? =some v∧j<xs.length∧ -(xs.length:Int)≤i∧i<xs.length:=by
 unfold atI at h
 cases e:ixN xs.length i with
 |none=>rw [e] at h;cases h
 |some j=>
  rw [e] at h
  obtain ⟨h1,h2,h3,h4⟩:=ixN_seq e
  exact ⟨j,h1,h,h2,h3,h4⟩
def PlainIx (b:Expr):Prop:=∀ o i,subscripted b false o i=operate [o,i] (getItem o i)
def IxR (X:Cx) (r:R2):Prop:=
 ∀ (value slice:Expr) (pins:List (Addr×Obj)) (s:Shared) (σ:St) (H:Hp) (x y:V) (v u:Value) (Q:VK),Inv X pins σ H s→RelV x v→RelV y u→r x y H Q→
  subscripted slice false v u=operate [v,u] (getItem v u)→wpAny (model X.prog X.w) X.A (subscriptTail value slice v u) (EP X pins σ Q) X.xe s
def MtR (X:Cx) (id:String) (r:V→List V→Hp→VK→Prop):Prop:=
 ∀ (pins:List (Addr×Obj)) (s:Shared) (σ:St) (H:Hp) (x:V) (xs:List V) (v:Value) (us:List Value) (Q:VK),Inv X pins σ H s→RelV x v→Vals xs us→r x xs H Q→
  wpAny (model X.prog X.w) X.A (call (.builtin id) (v::us)) (EP X pins σ Q) X.xe s
section
variable {X:Cx} {a b:Expr} {ta tb:TE} {pos:Pos}
theorem IxR.or {r r':R2} (h:IxR X r) (h':IxR X r'):IxR X (fun x y H Q=>r x y H Q∨r' x y H Q):=by
 intro value slice pins s σ H x y v u Q I rx ry q hs
 rcases q with q|q
 ·exact h value slice pins s σ H x y v u Q I rx ry q hs
 ·exact h' value slice pins s σ H x y v u Q I rx ry q hs
theorem MtR.or {id:String} {r r':V→List V→Hp→VK→Prop} (h:MtR X id r) (h':MtR X id r'):MtR X id (fun x xs H Q=>r x xs H Q∨r' x xs H Q):=by
 intro pins s σ H x xs v us Q I rx rs q
 rcases q with q|q
 ·exact h pins s σ H x xs v us Q I rx rs q
 ·exact h' pins s σ H x xs v us Q I rx rs q
theorem pe_ix {r:R2} (hr:IxR X r) (ha:PE X a ta) (hb:PE X b tb) (hs:PlainIx b):PE X (.Subscript a b pos) (tOp r ta tb):=by
 intro pins s σ H Q I h
 exact Subscript_ (binT ha hb I h fun v u s2 x y H2 I2 rx ry q=>hr a b pins s2 σ H2 x y v u Q I2 rx ry q (hs _ _))
def rIxL (K:PySem.W.Frag):R2:=fun x y H Q=>∃ p xs i v,x= .ref p∧y= .int i∧SqL K H p xs∧atI xs i=some v∧Q v H
def rIxT (K:PySem.W.Frag):R2:=fun x y H Q=>∃ p xs i v,x= .ref p∧y= .int i∧SqT K H p xs∧atI xs i=some v∧Q v H
def rIxS:R2:=fun x y H Q=>∃ z i c,x= .str z∧y= .int i∧z.length≤sizeLine∧atI z.cps.toList i=some c∧Q (.str ⟨#[c]⟩) H
theorem ix_list:IxR X (rIxL X.K):=by
 intro value slice pins s σ H x y v u Q I rx ry h hs
 obtain ⟨p,xs,i,z,rfl,rfl,hq,he,q⟩:=h
 cases rx
 obtain ⟨t,rfl⟩:=ry
 obtain ⟨its,r,pl,hz⟩:=I.list hq
 obtain ⟨j,h1,h2,h3,h4,h5⟩:=atI_get he
 obtain ⟨w,ew,rw'⟩:=r.get h2
 have hl:=r.length
 have hn:=line63
 have fin:EP X pins σ Q w s:=⟨z,H,I,rw',q⟩
 by_cases h0:0≤i
 ·have hj:i.toNat=j:=by
   rw [seqIndex_of h0 h5] at h1
   exact Option.some.inj h1
  exact item_listR pl.isList h0 (by omega) (by rw [hj];simpa using ew) fin hs
 ·have hj:(i+(its.toArray.size:Int)).toNat=j:=by
   rw [seqIndex_neg (by omega) h4] at h1
   rw [List.size_toArray,←hl]
   exact Option.some.inj h1
  exact subscriptTail_builtinR (x:=w) pl.isList.typeIs slot_list_getitem.lookup
   (wpAny_getItem_list_neg (Q:=fun r s'=>r=w∧EP X pins σ Q r s') pl.isList (by omega) (by rw [List.size_toArray]<;>omega) (by omega) (by rw [hj];simpa using ew) ⟨rfl,fin⟩) hs
theorem ix_tup:IxR X (rIxT X.K):=by
 intro value slice pins s σ H x y v u Q I rx ry h hs
 obtain ⟨p,xs,i,z,rfl,rfl,hq,he,q⟩:=h
 cases rx
 obtain ⟨t,rfl⟩:=ry
 obtain ⟨its,r,pl,hz⟩:=I.tuple hq
 obtain ⟨j,h1,h2,h3,h4,h5⟩:=atI_get he
 obtain ⟨w,ew,rw'⟩:=r.get h2
 have hl:=r.length
 have hn:=line63
 have fin:EP X pins σ Q w s:=⟨z,H,I,rw',q⟩
 exact subscriptTail_builtinR (x:=w) pl.typeIs slot_tuple_getitem.lookup
  (getItem_tuple (j:=j) (Q:=fun r s'=>r=w∧EP X pins σ Q r s') pl (by omega) (by omega) (by rw [List.size_toArray,←hl];exact h1) (by simpa using ew) ⟨rfl,fin⟩) hs
theorem ix_str:IxR X rIxS:=by
 intro value slice pins s σ H x y v u Q I rx ry h hs
 obtain ⟨z,i,c,rfl,rfl,hz,he,q⟩:=h
 obtain ⟨t,rfl⟩:=rx
 obtain ⟨t',rfl⟩:=ry
 obtain ⟨j,h1,h2,h3,h4,h5⟩:=atI_get he
 have hl:z.cps.toList.length=z.length:=by simp [Str.length]
 rw [hl] at h1 h4 h5
 have hn:=line63
 exact tail_any (typeIs_str s z t) slot_str_getitem.lookup (getItem_str (c:=c) (by
  have e1:decide (i< -(2^63:Int))=false:=decide_eq_false (by omega)
  have e2:decide (i≥2^63)=false:=decide_eq_false (by omega)
  rw [e1,e2,Bool.or_false]) (by rw [h1];simpa using h2) ⟨.str ⟨#[c]⟩,H,I.tok _,⟨_,rfl⟩,q⟩) hs
def rIx (K:PySem.W.Frag):R2:=fun x y H Q=>rIxL K x y H Q∨rIxT K x y H Q∨rIxS x y H Q
theorem ix_seq:IxR X (rIx X.K):=ix_list.or (ix_tup.or ix_str)
theorem Inv.lst {pins:List (Addr×Obj)} {σ:St} {H:Hp} {s:Shared} {p:Addr} {xs:List V} (I:Inv X pins σ H s) (h:H p=some (.lst xs)):
  ∃ (its:List Value) (n:Nat),Vals xs its∧s.heap.get? p=some {cls:= .type "list",data:= .seq its.toArray n}∧xs.length≤sizeLine:=by
 obtain ⟨z,its,n,r,e⟩:=I.hok p _ h
 exact ⟨its,n,r,e,z⟩
theorem slice_bounds (lo hi:Option Int) (n:Nat):(sliceBounds lo hi none n).1=((HT.sIx n 0 lo:Nat):Int)∧(sliceBounds lo hi none n).2.1=((HT.sIx n n hi:Nat):Int)∧(sliceBounds lo hi none n).2.2=1:=by
 refine ⟨?_,?_,rfl⟩
 ·cases lo with
  |none=>simp [sliceBounds,HT.sIx]
  |some i=>
   simp only [sliceBounds,HT.sIx,Option.getD_none,show (1:Int)>0 by decide,if_true]
   by_cases h:i<0
   ·simp only [h,if_true]<;>omega
   ·simp only [h,if_false]<;>omega
 ·cases hi with
  |none=>simp [sliceBounds,HT.sIx]
  |some i=>
   simp only [sliceBounds,HT.sIx,Option.getD_none,show (1:Int)>0 by decide,if_true]
   by_cases h:i<0
   ·simp only [h,if_true]<;>omega
   ·simp only [h,if_false]<;>omega
theorem slicePick_cut (its:List Value) (lo hi:Option Int):slicePick its.toArray lo hi none=((its.drop (HT.sIx its.length 0 lo)).take (HT.sIx its.length its.length hi-HT.sIx its.length 0 lo)).toArray:=by
 obtain ⟨h1,h2,h3⟩:=slice_bounds lo hi its.toArray.size
 unfold slicePick
 rw [h1,h2,h3]
 simp only [sliceRange_one,pick_run,List.size_toArray]<;>rfl
def rSlL (K:PySem.W.Frag):V→Option Int→Option Int→Hp→VK→Prop:=fun x lo hi H Q=>∃ a xs,x= .ref a∧SqL K H a xs∧∀ p,H p=none→Q (.ref p) (upd H p (.lst (cutV xs lo hi)))
theorem sl_list:SlR X (rSlL X.K):=by
 intro pins s σ H x v vl vu lo hi sl Q I rx hs pl pu h
 obtain ⟨a,xs,rfl,hx,q⟩:=h
 cases rx
 obtain ⟨its,r,ht,hz⟩:=I.list hx
 have hlen:=r.length
 refine ⟨"list",_,slot_list_getitem.lookup,ht.isList.typeIs,?_⟩
 refine wpAny_getItem_list_slice ht.isList hs pl pu .none (by simp) ?_ (by rw [List.size_toArray]<;>omega)
 rw [slicePick_cut,←hlen]
 refine ⟨.ref s.heap.objs.size,_,I.laid (t':=s.toks) (o:= .lst (cutV xs lo hi)) (fun b ob q=>Heap.get?_push_of_some _ q) (Nat.le_refl _) ?_,rfl,q _ (I.hok.fresh (Nat.le_refl _))⟩
 exact ⟨Nat.le_trans (cutV_length xs lo hi) hz,_,0,(r.drop (HT.sIx xs.length 0 lo)).take (HT.sIx xs.length xs.length hi-HT.sIx xs.length 0 lo),Heap.get?_push_size _ rfl⟩
def flatV:V→Bool
 | .non=>true
 | .bl _=>true
 | .int _=>true
 | .str _=>true
 |_=>false
def eqV:V→V→Bool
 | .non, .non=>true
 | .bl a, .bl b=>a==b
 | .bl a, .int b=>(if a then 1 else 0)==b
 | .int a, .bl b=>a==(if b then 1 else 0)
 | .int a, .int b=>a==b
 | .str a, .str b=>a==b
 |_,_=>false
theorem eqAt_V {A:Around} {s:Shared} {y x:V} {u v:Value} (ry:RelV y u) (rx:RelV x v) (fy:flatV y=true) (fx:flatV x=true):SeqAt.EqAt A s u v (eqV y x):=by
 cases y with
 |non=>
  cases ry
  cases x with
  |non=>cases rx;exact SeqAt.EqAt.same _
  |bl b=>cases rx;exact SeqAt.EqAt.none_bool b
  |int b=>obtain ⟨t,rfl⟩:=rx;exact SeqAt.EqAt.none_int b t
  |str b=>obtain ⟨t,rfl⟩:=rx;exact SeqAt.EqAt.none_str b t
  |_=>exact absurd (show false=true from fx) Bool.false_ne_true
 |bl a=>
  cases ry
  cases x with
  |non=>cases rx;exact SeqAt.EqAt.bool_none a
  |bl b=>cases rx;exact SeqAt.EqAt.bool_bool a b
  |int b=>obtain ⟨t,rfl⟩:=rx;exact SeqAt.EqAt.bool_int a b t
  |str b=>obtain ⟨t,rfl⟩:=rx;exact SeqAt.EqAt.bool_str a b t
  |_=>exact absurd (show false=true from fx) Bool.false_ne_true
 |int a=>
  obtain ⟨t',rfl⟩:=ry
  cases x with
  |non=>cases rx;exact SeqAt.EqAt.int_none a t'
  |bl b=>cases rx;exact SeqAt.EqAt.int_bool a t' b
  |int b=>obtain ⟨t,rfl⟩:=rx;exact SeqAt.EqAt.int_int a t' b t
  |str b=>obtain ⟨t,rfl⟩:=rx;exact SeqAt.EqAt.int_str a t' b t
  |_=>exact absurd (show false=true from fx) Bool.false_ne_true
 |str a=>
  obtain ⟨t',rfl⟩:=ry
  cases x with
  |non=>cases rx;exact SeqAt.EqAt.str_none a t'
  |bl b=>cases rx;exact SeqAt.EqAt.str_bool a t' b
  |int b=>obtain ⟨t,rfl⟩:=rx;exact SeqAt.EqAt.str_int a t' b t
  |str b=>obtain ⟨t,rfl⟩:=rx;exact SeqAt.EqAt.str_str a t' b t
  |_=>exact absurd (show false=true from fx) Bool.false_ne_true
 |_=>exact absurd (show false=true from fy) Bool.false_ne_true
def eqU (x:V) (u:Value):Bool:=match u with
 | .none=>eqV .non x
 | .bool b=>eqV (.bl b) x
 | .int i _=>eqV (.int i) x
 | .str z _=>eqV (.str z) x
 |_=>false
theorem eqU_of {x y:V} {u:Value} (r:RelV y u) (f:flatV y=true):eqU x u=eqV y x:=by
 cases y with
 |non=>cases r;rfl
 |bl b=>cases r;rfl
 |int i=>obtain ⟨t,rfl⟩:=r;rfl
 |str z=>obtain ⟨t,rfl⟩:=r;rfl
 |_=>exact absurd (show false=true from f) Bool.false_ne_true
theorem any_eqU {x:V}:∀ {xs:List V} {us:List Value},Vals xs us→xs.all flatV=true→us.any (eqU x)=xs.any fun y=>eqV y x
 |_,_, .nil,_=>rfl
 |y::xs,u::us, .cons r t,f=>by
  rw [List.all_cons,Bool.and_eq_true] at f
  rw [List.any_cons,List.any_cons,eqU_of r f.1,any_eqU t f.2]
theorem mem_eqAt {A:Around} {s:Shared} {x:V} {v:Value} (rx:RelV x v) (fx:flatV x=true):∀ {xs:List V} {us:List Value},Vals xs us→xs.all flatV=true→∀ u∈us,SeqAt.EqAt A s u v (eqU x u)
 |_,_, .nil,_=>fun u hu=>by cases hu
 |y::xs,u::us, .cons r t,f=>fun u' hu=>by
  rw [List.all_cons,Bool.and_eq_true] at f
  rcases List.mem_cons.mp hu with rfl|hu
  ·rw [eqU_of r f.1];exact eqAt_V r rx f.1 fx
  ·exact mem_eqAt rx fx t f.2 u' hu
def inV (x:V) (xs:List V):Bool:=xs.any fun y=>eqV y x
def rIn (K:PySem.W.Frag) (neg:Bool):R2:=fun x y H Q=>∃ p xs,y= .ref p∧(SqL K H p xs∨SqT K H p xs)∧flatV x=true∧xs.all flatV=true∧Q (.bl (if neg then !inV x xs else inV x xs)) H
theorem op_in_seq:OpR X (compareOp .In) (rIn X.K false):=by
 intro pins s σ H x y v u Q I rx ry h
 obtain ⟨p,xs,rfl,hq,fx,fs,q⟩:=h
 cases ry
 rcases hq with hq|hq
 ·obtain ⟨its,r,pl,hz⟩:=I.list hq
  refine SeqAt.in_listAt (eqU x) pl.isList (fun w hw=>mem_eqAt rx fx r fs w (by simpa using hw)) ⟨.bl _,H,I,rfl,?_⟩
  rw [show its.toArray.any (eqU x)=its.any (eqU x) by simp,any_eqU r fs]
  exact q
 ·obtain ⟨its,r,pl,hz⟩:=I.tuple hq
  refine SeqAt.in_tupleAt (eqU x) pl (fun w hw=>mem_eqAt rx fx r fs w (by simpa using hw)) ⟨.bl _,H,I,rfl,?_⟩
  rw [show its.toArray.any (eqU x)=its.any (eqU x) by simp,any_eqU r fs]
  exact q
theorem CallR.or {f:Value} {r r':List V→Hp→VK→Prop} (h:CallR X f r) (h':CallR X f r'):CallR X f (fun xs H Q=>r xs H Q∨r' xs H Q):=by
 intro pins s σ H xs us Q I rs q
 rcases q with q|q
 ·exact h pins s σ H xs us Q I rs q
 ·exact h' pins s σ H xs us Q I rs q
theorem call_tuple_of:CallR X (.type "tuple") (fun xs H Q=>∃ p ys,xs= [.ref p]∧((SqL X.K H p ys∧∀ l,H l=none→Q (.ref l) (upd H l (.tup ys)))∨(SqT X.K H p ys∧Q (.ref p) H))):=by
 intro pins s σ H xs us Q I r h
 obtain ⟨p,ys,rfl,h⟩:=h
 obtain ⟨u,rfl,rx⟩:=vals1 r
 cases rx
 rcases h with ⟨hq,q⟩|⟨hq,q⟩
 ·obtain ⟨its,r',pl,hz⟩:=I.list hq
  have hlen:=r'.length
  refine call_tuple_list pl.isList (fun h' kp=> ?_) (by simp only [List.size_toArray]<;>omega)
  have I1:Inv X pins σ H {s with heap:=h'}:=I.kept (t':=s.toks) kp
  have I2:Inv X pins σ (upd H h'.objs.size (.tup ys)) {s with heap:=h'.push {cls:= .type "tuple",data:= .seq its.toArray}}:=
   I1.laid (t':=s.toks) (fun b o e=>Heap.get?_push_of_some _ e) (Nat.le_refl _) (show ObjOk X.prog X.w _ _ _ (.tup ys) from ⟨hz,its,r',IsTup.new _ _⟩)
  exact ⟨.ref h'.objs.size,_,I2,rfl,q _ (I1.hok.fresh (Nat.le_refl _))⟩
 ·obtain ⟨its,r',pl,hz⟩:=I.tuple hq
  exact call_tuple_same pl ⟨.ref p,H,I,rfl,q⟩
def tyV (K:PySem.W.Frag) (T:String) (x:V) (H:Hp):Prop:=match x with
 | .str _=>T="str"
 | .int _=>T="int"
 | .ref p=>(T="list"∧∃ xs,SqL K H p xs)∨(T="tuple"∧∃ o,K.lookup p=some o∧o.cls= .type "tuple"∧o.dict=none)∨
   (T="dict"∧((∃ kvs,H p=some (.dK kvs))∨∃ kvs,H p=some (.dT kvs)))∨(T="set"∧∃ S n,H p=some (.set S n))
 |_=>False
theorem tyV_is {pins:List (Addr×Obj)} {σ:St} {H:Hp} {s:Shared} {T:String} {x:V} {v:Value} (I:Inv X pins σ H s) (r:RelV x v) (ty:tyV X.K T x H):
  s.TypeIs v T∧∀ a,v= .ref a→∃ ob,s.heap.get? a=some ob∧ob.dict=none:=by
 cases x with
 |str z=>
  obtain ⟨t,rfl⟩:=r
  cases (show T="str" from ty)
  exact ⟨typeIs_str s z t,fun _ e=>nomatch e⟩
 |int i=>
  obtain ⟨t,rfl⟩:=r
  cases (show T="int" from ty)
  exact ⟨typeIs_int s i t,fun _ e=>nomatch e⟩
 |ref p=>
  cases r
  rcases ty with ⟨rfl,xs,hq⟩|⟨rfl,o,hk,hc,hd⟩|⟨rfl,hk⟩|⟨rfl,S,n,hk⟩
  ·obtain ⟨its,_,pl,_⟩:=I.list hq
   refine ⟨pl.isList.typeIs,fun a e=> ?_⟩
   cases e
   obtain ⟨o,n,e,c,hd,_⟩:=pl
   exact ⟨o,e,hd⟩
  ·refine ⟨⟨o,I.kIn p o hk,hc⟩,fun a e=> ?_⟩
   cases e
   exact ⟨o,I.kIn _ o hk,hd⟩
  ·have z:∃ o,s.heap.get? p=some o∧o.ExactDict:=by
    rcases hk with ⟨kvs,hk⟩|⟨kvs,hk⟩
    ·obtain ⟨_,_,_,_,o,_,_,e,ex,_⟩:=I.hok p _ hk
     exact ⟨o,e,ex⟩
    ·obtain ⟨_,_,_,_,o,_,_,e,ex,_⟩:=I.hok p _ hk
     exact ⟨o,e,ex⟩
   obtain ⟨o,e,ex⟩:=z
   refine ⟨⟨o,e,ex.1⟩,fun a e2=> ?_⟩
   cases e2
   exact ⟨o,e,ex.2.1⟩
  ·obtain ⟨o,_,_,_,e,ex,_⟩:=I.hok p _ hk
   refine ⟨⟨o,e,ex.1⟩,fun a e2=> ?_⟩
   cases e2
   exact ⟨o,e,ex.2.1⟩
 |_=>exact False.elim ty
def tBM (K:PySem.W.Frag) (T:String) (r:V→List V→Hp→VK→Prop) (to:TE) (t:TA):TE:=fun σ H Q=>to σ H fun x H1=>tyV K T x H1∧t σ H1 fun xs H2=>r x xs H2 Q
variable {o e:Expr} {es:List Expr} {to:TE} {t:TA} {name:Str} {apos cpos:Pos} {T id:String} {r:V→List V→Hp→VK→Prop}
theorem pe_bm (pa:PlainAttrs T) (slot:Slot T name id) (hty:typeOf (.builtin id)=pure (.type "method_descriptor")) (hm:MtR X id r) (ho:PE X o to) (ha:PA X (e::es) t)
  (hbase:attributeBase o name X.env (eval o X.env)=eval o X.env:=by rfl)
  (hfew:((backTo cpos (starEach (e::es) X.env)).all (fun x=> !x.1)&&(backToKw cpos (keywordEach [] X.env)).all (fun x=>x.1.isSome)
   &&decide ((e::es).length+([]:List Keyword).length+(if ([]:List Keyword).isEmpty then 0 else 1)<30))=true:=by rfl)
  (hline:(apos.endLine==cpos.line)=true:=by rfl) (hs:starEach (e::es) X.env=(false,eval e X.env)::starEach es X.env:=by rfl) (hplain:(backTo cpos (starEach es X.env)).any (·.1)=false:=by rfl):
  PE X (.Call (.Attribute o name apos) (e::es) [] cpos) (tBM X.K T r to t):=by
 intro pins s σ H Q I h
 refine wpAny_Call_method_late hbase hfew hline rfl (thn (ho pins s σ H _ I h) fun v s1 ⟨x,H1,I1,r1,ty,q1⟩=> ?_)
 obtain ⟨h1,h2⟩:=tyV_is I1 r1 ty
 refine ⟨T,id,pa,slot,hty,h1,h2,?_⟩
 have hA:=ha cpos pins s1 σ H1 _ I1 q1
 rw [hs] at hA ⊢
 refine Calls.callWith_builtin (by show (false||(backTo cpos (starEach es X.env)).any (·.1))=false;rw [hplain]<;>rfl) (Calls.evalArgs_plain ?_)
 exact thn hA fun us s2 ⟨vs,H2,I2,r2,q2⟩=>hm pins s2 σ H2 x vs v us Q I2 r1 r2 q2
/- xs.append(e),list.index on a module's tuple .. are MtR facts of 06m -/
end
end L2
namespace L2
open PySem PySem.Spec PyProof.Rows
def MtM (X:Cx) (id:String) (r:V→List V→Hp→VK→Prop):Prop:=
 ∀ (pins:List (Addr×Obj)) (s:Shared) (σ:St) (H:Hp) (x:V) (xs:List V) (v:Value) (us:List Value) (Q:VK),Inv X pins σ H s→RelV x v→Vals xs us→r x xs H Q→
  wpAny (model X.prog X.w) X.A (call (.builtin id) (v::us)) (EP X pins σ Q) X.xe s
theorem Vals.one:∀ {x:V} {us:List Value},Vals [x] us→∃ u,us= [u]∧RelV x u
 |_,_, .cons r .nil=>⟨_,rfl,r⟩
theorem Vals.two:∀ {x y:V} {us:List Value},Vals [x,y] us→∃ u v,us= [u,v]∧RelV x u∧RelV y v
 |_,_,_, .cons r (.cons q .nil)=>⟨_,_,rfl,r,q⟩
theorem Vals.reverse {xs:List V} {us:List Value} (h:Vals xs us):Vals xs.reverse us.reverse:=by
 induction h with
 |nil=>exact .nil
 |cons r t ih=>rw [List.reverse_cons,List.reverse_cons];exact Vals.append ih (.cons r .nil)
theorem Vals.rep {xs:List V} {us:List Value} (h:Vals xs us):∀ k:Nat,Vals (List.replicate k xs).flatten (List.replicate k us).flatten
 |0=> .nil
 |k+1=>by
  rw [List.replicate_succ,List.replicate_succ,List.flatten_cons,List.flatten_cons]
  exact Vals.append h (Vals.rep h k)
theorem foldl_rep (its:List Value):∀ (k:Nat) (acc:List Value),
  List.foldl (fun x1 x2=>x1++x2) acc.toArray (List.replicate k its.toArray)=(acc++(List.replicate k its).flatten).toArray
 |0,acc=>by simp
 |k+1,acc=>by
  have e:acc.toArray++its.toArray=(acc++its).toArray:=by simp
  have e2:(acc++its)++(List.replicate k its).flatten=acc++(List.replicate (k+1) its).flatten:=by
   rw [List.replicate_succ,List.flatten_cons,List.append_assoc]
  rw [←e2,←foldl_rep its k (acc++its),←e,List.replicate_succ,List.foldl_cons]
section
variable {X:Cx} {pins:List (Addr×Obj)} {σ:St} {H:Hp} {s:Shared} {l b:Addr} {xs ys zs:List V}
theorem Inv.lset {its its':List Value} {n:Nat} {f:Array Value→Array Value} {t':Nat} (I:Inv X pins σ H s) (hH:H l=some (.lst xs))
  (e:s.heap.get? l=some {cls:= .type "list",data:= .seq its.toArray n}) (hf:f its.toArray=its'.toArray) (hv:Vals ys its') (hz:ys.length≤sizeLine):
  Inv X pins σ (upd H l (.lst ys)) {s with heap:=s.heap.update l (Obj.mapSeq f),toks:=t'}:=by
 have q:=PySem.IsL.update e f
 rw [hf] at q
 refine I.write (x:=l) (e:=l) (by rw [hH];exact trivial) (.inl rfl) (fun b' u hb hu=>(Heap.get?_update_other s.heap (Obj.mapSeq f) (Ne.symm hb)).trans hu) ⟨_,q⟩ ?_
 exact ⟨hz,its',_,hv,q⟩
theorem Inv.lnew {its:List Value} {t':Nat} (I:Inv X pins σ H s) (hv:Vals ys its) (hz:ys.length≤sizeLine):
  Inv X pins σ (upd H s.heap.objs.size (.lst ys)) {s with heap:=s.heap.push {cls:= .type "list",data:= .seq its.toArray},toks:=t'}:=
 I.laid (fun _ _ q=>Heap.get?_push_of_some _ q) (Nat.le_refl _) ⟨hz,its,0,hv,Heap.get?_push_size _ rfl⟩
theorem Inv.fresh (I:Inv X pins σ H s):H s.heap.objs.size=none:=I.hok.fresh (Nat.le_refl _)
theorem Inv.lstM (I:Inv X pins σ H s) (hH:H l=some (.lst xs)):xs.length≤sizeLine∧∃ (its:List Value) (n:Nat),Vals xs its∧xs.length=its.length∧s.heap.get? l=some {cls:= .type "list",data:= .seq its.toArray n}:=by
 obtain ⟨z,its,n,r,e⟩:=I.hok l _ hH
 exact ⟨z,its,n,r,r.length,e⟩
theorem notLongL {n:Nat} (h:n≤sizeLine):Builtin.List.listTooLong n=false:=by
 unfold Builtin.List.listTooLong
 exact decide_eq_false (by omega)
end
section
variable {X:Cx}
def rAppend:V→List V→Hp→VK→Prop:=fun x vs H Q=>∃ l xs y,x= .ref l∧vs= [y]∧H l=some (.lst xs)∧xs.length<sizeLine∧Q .non (upd H l (.lst (xs++ [y])))
theorem mt_append:MtM X "list.append" rAppend:=by
 intro pins s σ H x vs v us Q I rx rv h
 obtain ⟨l,xs,y,rfl,rfl,hH,hz,q⟩:=h
 cases rx
 obtain ⟨u,rfl,ru⟩:=rv.one
 obtain ⟨z,its,n,r,hl,e⟩:=I.lstM hH
 refine call_meets F.slot_list_append ⟨_,e,rfl⟩ F.entry_list_append (F.args_list_append_2 _ _) (PySem.list_append l its.toArray n u (by rw [List.size_toArray];omega)) ⟨e,?_⟩
 refine ⟨.non,_,I.lset (its':=its++ [u]) hH e (by simp) (r.append (.cons ru .nil)) ?_,rfl,q⟩
 rw [List.length_append,List.length_singleton]
 omega
theorem len_rep {α:Type} (xs:List α) (k:Nat):(List.replicate k xs).flatten.length=k*xs.length:=by
 induction k with
 |zero=>simp
 |succ k ih=>rw [List.replicate_succ,List.flatten_cons,List.length_append,ih,Nat.succ_mul,Nat.add_comm]
end
section
variable {prog:Program} {w:World} {A:Around} {E:Value→Shared→Prop} {s:Shared}
end
section
variable {X:Cx}
end
end L2
namespace Att
open PySem PySem.W PySem.Calls PyProof.Rows
theorem ints_of_wellAll {P:Params} {h:Heap}:∀ (ns:List Int) (vs:List Value),WellAll P h vs (ns.map WData.int)→IntsAre vs ns:=by
 intro ns
 induction ns with
 |nil=>
  intro vs w
  rw [List.map_nil] at w
  cases w
  exact .nil
 |cons n ns ih=>
  intro vs w
  rw [List.map_cons] at w
  cases w with
  |cons a b=>
   cases a
   exact .cons _ _ (ih _ b)
theorem script_of {l:OpenLaw} {n:Nat} (hn:l.most=some n) {P:Params} {h:Heap} {args:List WData} {vals:List Value}
  (hpre:l.row.toRowW.claim.pre args=true) (hwl:WellAll P h vals args):
  ∃ a vs ns,vals= [Value.ref a]∧args= [WData.list (ns.map WData.int)]∧h.get? a=some {cls:= .type "list",data:= .seq vs.toArray}∧IntsAre vs ns∧ns.length≤n:=by
 have hsh:WShape.hasAll [] args [.list .int]=true:=(pre_splitW hpre).1
 have hc:l.pre.holds [] {args:=args}=true:=(pre_splitW hpre).2
 obtain ⟨d,r,rfl,h1,h2⟩:=hasAllW_cons hsh
 obtain rfl:=hasAllW_nil h2
 obtain ⟨xs,rfl,h3⟩:=hasW_list h1
 obtain ⟨ns,rfl⟩:=items_int h3
 have hlen:ns.length≤n:=by
  unfold OpenLaw.pre at hc
  have h4:(WTm.not (.lt (.lit (.int (n:Int))) (.len (.arg 0)))).holds [] {args:= [.list (ns.map .int)]}=true:=by
   have h4:=(holds_andW hc).1
   rw [hn] at h4
   exact h4
  have h5:=condW_of h4 (w_not (w_lt w_lit (w_len_list (w_arg rfl))))
  rw [List.length_map] at h5
  refine Nat.le_of_not_lt fun q=> ?_
  have q':(n:Int)<((ns.length:Nat):Int):=by omega
  first
   |(rw [decide_eq_true q'] at h5;exact absurd h5 (by decide))
   |(simp at h5;omega)
 cases hwl with
 |cons w1 w2=>
  cases w2
  cases w1 with
  |list ho hall=>exact ⟨_,_,ns,rfl,rfl,ho,ints_of_wellAll ns _ hall,hlen⟩
theorem post_true (l:OpenLaw) (args:List WData):l.row.toRowW.claim.post args (.bool true) args=true:=
 postW_of (r:=l.row.toRowW) (X:=(true==true))
  (show WShape.has [] (.bool true) .bool=true by first|rfl|decide|simp [WShape.has,WShape.arms,WShape.armsAll])
  (show (WTm.eq .res (.lit (.bool true))).value [] {args:=args,res:=some (.bool true),after:=args}=some (.bool (true==true)) from w_eq_bool (w_res rfl) w_lit) rfl
theorem attach_call {l:OpenLaw} {n:Nat} {q:Program} {loose:List Str} {XP:(Str→Option Value)→Heap→Prop} {YP:World→Heap→Prop} {d:DefRec}
  (hn:l.most=some n) (hdf:d.params.defaults= [])
  (call:∀ (w:World) (s₀ s₁:Shared) (mg mb:Str→Option Value) (fa:Addr) (o:Obj) (pm cd doc:Value) (a:Addr) (vs:List Value) (ns:List Int),
   Ground q loose [] XP w s₀ mg mb s₁.heap→YP w s₁.heap→
   s₁.heap.get? fa=some o→o.data= .func (docDef d.name d.params d.body d.scope pm cd doc)→s₁.heap.CodeRec cd d.name→mg d.name=some (.ref fa)→
   s₁.heap.get? a=some {cls:= .type "list",data:= .seq vs.toArray}→IntsAre vs ns→ns.length≤n→s₁.gens= #[]→
   codeAny (model l.prog w) callerA (.call (.ref fa) ⟨[.ref a],[]⟩) (fun r s'=>r= .ok (.ret (.bool true))∧OldK s₁.heap s'.heap∧s'.os=s₁.os∧AllBare s'.gens) s₁):
  WalkO q loose XP YP l.row.toRowW d [] (fun f vs=>PySem.call f vs):=by
 intro w s₀ s₁ mg mb G Y fa o pm cd doc dV kV ho hd hcd hD hmg hg args vals as hpre hlay hrd hwl hlo
 obtain rfl:dV= .none:=Dflts.none hD hdf
 obtain rfl:kV= .none:=Dflts.noKw hD
 obtain ⟨a,vs,ns,rfl,rfl,hobj,hints,hlen⟩:=script_of hn hpre hwl
 refine enter_call (codeAny_mono (call w s₀ s₁ mg mb fa o pm cd doc a vs ns G Y ho (fd_plain hd) hcd hmg hobj hints hlen hg) fun r s' hq=> ?_)
 obtain ⟨rfl,h2,h3,h4⟩:=hq
 exact ⟨.inl ⟨.bool true, .bool true,[],rfl,fun _=>rfl, .bool true,post_true l _,fun _=>⟨List.Pairwise.nil,fun _ hm=>(nomatch hm)⟩⟩,h2,h3,h4⟩
section
variable {prog:Program} {w:World} {A:Around} {E:Value→Shared→Prop} {s:Shared} {K:Frag}
end
end Att
namespace L2
open PySem PySem.Spec PyProof.Rows
theorem vals_ints:∀ {vs:List Value} {ns:List Int},IntsAre vs ns→Vals (ns.map V.int) vs
 |_,_, .nil=> .nil
 |_,_, .cons n t h=> .cons ⟨t,rfl⟩ (vals_ints h)
def Only (H:Hp):Prop:=∀ b,H b=none∨∃ o xs,H b=some (.frz o (.lst xs))
theorem law_call {P:Program} {w:World} {K:PySem.W.Frag} {mg mb:Str→Option Value} {CX:CXT} {k:Nat} {fa a:Addr} {fd:FuncData} {x:Str} {sp:Sp} {s₁:Shared} {vs:List Value} {ns:List Int}
  (KX:K.In s₁.heap) (hns:s₁.heap.Ns mainGlobals mg) (hb:s₁.heap.Ns builtinsNs mb) (hbb:∀ x:Str,x≠"__name__"→mb x=bootBuiltins x) (hlim:s₁.heap.NoLimit) (hg:s₁.gens= #[])
  (ha:s₁.heap.get? a=some {cls:= .type "list",data:= .seq vs.toArray}) (hi:IntsAre vs ns) (hl:ns.length≤sizeLine) (hr:Room k callerA)
  (F:∀ base:Heap,K.In base→base.Ns mainGlobals mg→FnOk P w K mg base CX k fa fd [x] sp) (hbind:∀ (s:Shared) (u:Value),BindsTo s fd ⟨[u],[]⟩ [(x,u)])
  (hsp:∀ H:Hp,Only H→SqL K H a (ns.map V.int)→sp [.ref a] H (fun v _=>v= .bl true) fun _ _ _=>False)
  (hCX:∀ H e s',CX [] H s₁ (fun _ _ _=>False) e s'→False):
  codeAny (model P w) callerA (.call (.ref fa) ⟨[.ref a],[]⟩) (fun r s'=>r= .ok (.ret (.bool true))∧OldK s₁.heap s'.heap∧s'.os=s₁.os∧AllBare s'.gens) s₁:=by
 have rv:=vals_ints hi
 have lenV:=hi.length
 have core:∀ H:Hp,Only H→SqL K H a (ns.map V.int)→HOk P w H s₁.heap→(∀ b,H b≠none→b=a)→(H a≠none→K.lookup a=none)→
   codeAny (model P w) callerA (.call (.ref fa) ⟨[.ref a],[]⟩) (fun r s'=>r= .ok (.ret (.bool true))∧OldK s₁.heap s'.heap∧s'.os=s₁.os∧AllBare s'.gens) s₁:=by
  intro H hO hS hok hA hK
  have base_of:∀ {b:Addr} {o:Obj},s₁.heap.get? b=some o→H b=none→(hidT s₁.heap H).get? b=some o:=fun e n=>hidT_get e n
  have noA:∀ {b:Addr} {o:Obj} {es:Array DictEntry} {ep:Nat},s₁.heap.get? b=some o→o.data= .dict es ep→H b=none:=fun {b o es ep} e d=>by
   cases q:H b with
   |none=>rfl
   |some u=>
    have e':b=a:=hA b (by rw [q];simp)
    subst e'
    rw [ha] at e;cases e
    have d':Data.seq vs.toArray _=Data.dict es ep:=d
    cases d'
  have nsK:∀ {b:Addr} {m:Str→Option Value},s₁.heap.Ns b m→(hidT s₁.heap H).Ns b m:=fun {b m} ⟨o,es,ep,e,d,r⟩=>⟨o,es,ep,base_of e (noA e d),d,r⟩
  have hKb:K.In (hidT s₁.heap H):=fun b o e=>base_of (KX b o e) (by
   cases q:H b with
   |none=>rfl
   |some u=>
    have e':b=a:=hA b (by rw [q];simp)
    subst e'
    rw [hK (by rw [q];simp)] at e;cases e)
  have hM:Mod K mg (hidT s₁.heap H):=⟨hKb,nsK hns,⟨mb,nsK hb,hbb⟩,let ⟨mc,h1,h2⟩:=hlim;⟨mc,nsK h1,h2⟩⟩
  have e0:Env0 P w K mg (hidT s₁.heap H) callerA [] s₁ H:=⟨rfl,hM,fun b o e=>of_hidT e,Nat.le_of_eq (hidT_size _ _),trivial,fun b hb=>absurd (show b∈([]:List Addr) from hb) (by simp),hok, .of_eq hg⟩
  refine codeAny_mono ((F _ hKb (nsK hns)).run callerA [] s₁ H ⟨[.ref a],[]⟩ [.ref a] [.ref a] _ _ hr e0 (hbind s₁ (.ref a)) (.cons rfl .nil) (hsp H hO hS)) fun r s' h=> ?_
  cases r with
  |error e=>exact (hCX H e s' h).elim
  |ok fl=>
   cases fl with
   |next=>exact False.elim h
   |brk=>exact False.elim h
   |cont=>exact False.elim h
   |ret u=>
    obtain ⟨v,H',os,bare,un,hok',r',q⟩:=h
    have q':v= .bl true:=q
    subst q'
    obtain rfl:u=Value.bool true:=r'
    refine ⟨rfl,OldK.of_keep fun b o e=> ?_,os,bare⟩
    cases q:H b with
    |none=>exact un.keep b o e q (by intro z;exact absurd (show b∈([]:List Addr) from z) (by simp)) (by simp)
    |some u=>
     rcases hO b with z|⟨ob,xs,z⟩
     ·rw [q] at z;cases z
     ·have z2:=un.frzs b ob _ z
      obtain ⟨e1,_⟩:=hok b _ z
      obtain ⟨e2,_⟩:=hok' b _ z2
      rw [e] at e1;cases e1
      exact e2
 cases hk:K.lookup a with
 |some o=>
  have e:=KX a o hk
  rw [ha] at e
  cases e
  refine core (fun _=>none) (fun _=> .inl rfl) (.inr ⟨_,vs.toArray,_,hk,rfl,rfl,rfl,by rw [List.size_toArray,lenV];exact hl,by simpa using rv⟩) (fun b u z=>by have z':(none:Option HO)=some u:=z;cases z') (fun b z=>absurd rfl z) fun z=>absurd rfl z
 |none=>
  refine core (fun b=>if b=a then some (.frz {cls:= .type "list",data:= .seq vs.toArray} (.lst (ns.map V.int))) else none) (fun b=> ?_) (.inl (.inr ⟨{cls:= .type "list",data:= .seq vs.toArray},if_pos rfl⟩)) (fun b u z=> ?_) (fun b z=> ?_) fun _=>hk
  ·by_cases hb:b=a
   ·exact .inr ⟨_,_,if_pos hb⟩
   ·exact .inl (if_neg hb)
  ·by_cases hb:b=a
   ·have z':=(if_pos hb).symm.trans z
    cases z'
    subst hb
    exact ⟨ha,by rw [List.length_map];exact hl,vs,_,rv,ha⟩
   ·have z':=(if_neg hb).symm.trans z
    cases z'
  ·by_cases hb:b=a
   ·exact hb
   ·exact absurd (if_neg hb) z
end L2
namespace L2
open PySem PySem.Spec PyProof.Rows
theorem walk_of {l:PySem.W.OpenLaw} {n k:Nat} {q:Program} {loose:List Str} {XP:(Str→Option Value)→Heap→Prop} {YP:World→Heap→Prop} {d:DefRec} {K:Params→PySem.W.Frag} {CX:World→CXT} {sp:World→Sp} {x:Str}
  (hn:l.most=some n) (hn2:n≤sizeLine) (hdf:d.params.defaults= []) (hr:Room k callerA)
  (hY:∀ (w:World) (h:Heap),YP w h→(K w.params).In h)
  (F:∀ (w:World) (mg:Str→Option Value) (fa:Addr) (h:Heap),(K w.params).In h→h.Ns mainGlobals mg→mg d.name=some (.ref fa)→
   ∃ fd:FuncData,(∀ (s:Shared) (u:Value),BindsTo s fd ⟨[u],[]⟩ [(x,u)])∧
    ∀ base:Heap,(K w.params).In base→base.Ns mainGlobals mg→FnOk l.prog w (K w.params) mg base (CX w) k fa fd [x] (sp w))
  (hsp:∀ (w:World) (H:Hp) (a:Addr) (ns:List Int),ns.length≤n→Only H→SqL (K w.params) H a (ns.map V.int)→sp w [.ref a] H (fun v _=>v= .bl true) fun _ _ _=>False)
  (hCX:∀ (w:World) (H:Hp) (s:Shared) (e:Value) (s':Shared),CX w [] H s (fun _ _ _=>False) e s'→False):
  PySem.W.WalkO q loose XP YP l.row.toRowW d [] (fun f vs=>PySem.call f vs):=by
 refine Att.attach_call hn hdf fun w s₀ s₁ mg mb fa o pm cd doc a vs ns G Y ho hd hcd hmg hobj hints hlen hg=> ?_
 have KX:=hY w _ Y
 obtain ⟨fd,hb,hF⟩:=F w mg fa _ KX G.T.g hmg
 exact law_call KX G.T.g G.T.b G.T.builtins G.T.nolimit hg hobj hints (Nat.le_trans hlen hn2) hr hF hb (fun H hO hS=>hsp w H a ns hlen hO hS) fun H e s'=>hCX w H s₁ e s'
end L2
/- THE LAST THEOREM (shape; LID, My.* are yours):
   My.Adr: a structure of the addresses that your layer names (classes, functions); My.Txt K t: a structure (Prop) of the equations over K;
   My.txt_mk : {K} {implicit addresses ..} (e1 : nsIn K mainGlobals "law" = some (some (.ref f))) (e2 : K.lookup f = some ⟨oc, od, .func (fnOf "law" "law" params body scope dV kV doc pm an cdv ct), sl⟩) (e3 : codeIn K cdv "law" = true) .. : ∃ t, My.Txt K t
(the tactic k_is has no namespace: write k_is) -/
namespace L2
open PySem PySem.Spec PyProof.Rows
def inClass (s:Stmt) (j:Nat):Stmt:=match s with
 | .ClassDef _ _ _ body _ _ _ _ _ _ _=>body.getD j (.Pass ⟨0,0,0,0⟩)
 |_=> .Pass ⟨0,0,0,0⟩
def defArgs (s:Stmt):Arguments:=match s with
 | .FunctionDef _ a _ _ _ _ _ _ _ _=>a
 |_=> {posonlyargs:= [],args:= [],vararg:=none,kwonlyargs:= [],kw_defaults:= [],kwarg:=none,defaults:= []}
def defBody (s:Stmt):List Stmt:=match s with
 | .FunctionDef _ _ b _ _ _ _ _ _ _=>b
 |_=> []
def defScope (s:Stmt):Scope:=match s with
 | .FunctionDef _ _ _ _ _ _ sc _ _ _=>sc
 |_=> {kind:= .function,names:= [],isGenerator:=false,isCoroutine:=false}
abbrev CX0:CXT:=fun _ _ _ _ _ _=>False
abbrev E0:XK:=fun _ _ _=>False
theorem pass0 {X:Cx}:Passes CX0 X E0:=fun _ _ _ _ _ _ _ h=>h.elim
structure Fun (K:PySem.W.Frag) (x qual:Str) (st:Stmt) (f:Addr) (fd:FuncData):Prop where
 ex:∃ (oc:Value) (od:Option Addr) (kV doc pm:Value) (an:Option Addr) (cdv ct:Value) (osl:Array (Option Value)),
  fd=PySem.W.fnOf x qual (defArgs st) (defBody st) (defScope st) .none kV doc pm an cdv ct∧K.lookup f=some ⟨oc,od, .func fd,osl⟩∧PySem.W.codeIn K cdv qual=true
 kp:PySem.W.keepIn K (.ref f)=true
section
variable {P:Program} {w:World} {K:PySem.W.Frag} {mg:Str→Option Value} {base:Heap}
theorem Fun.ok {x qual:Str} {st:Stmt} {f:Addr} {fd:FuncData} {N ps:List Str} {k:Nat} {sp:Sp} (F:Fun K x qual st f fd) (S:FnScope N ps (defScope st)) (len:∀ vs H Q E,sp vs H Q E→vs.length=ps.length)
  (hbody:∀ (cdv:Value) (A:Around) (outer:List Env) (s:Shared) (H:Hp) (vs:List V) (Q:VK) (E:XK),Room k (A.deeper (envOfC qual (defScope st) s.heap.objs.size f cdv))→sp vs H Q E→
   ∃ t,PSs (cxOf CX0 P w K mg base N qual (defScope st) f cdv A outer s H E).nox (defBody st) t∧t {nx:=fun _ H'=>Q .non H',rt:=Q} (start N vs) H):FnOk P w K mg base CX0 (k+1) f fd ps sp:=by
 obtain ⟨oc,od,kV,doc,pm,an,cdv,ct,osl,rfl,lk,hcd⟩:=F.ex
 refine fn_of lk hcd S len fun A outer s H vs Q E hr hsp=> ?_
 obtain ⟨t,h,q⟩:=hbody cdv A outer s H vs Q E hr hsp
 exact ⟨t,h.nox,q⟩
theorem Fun.binds {x qual:Str} {st:Stmt} {f:Addr} {fd:FuncData} {ps:List Str} (F:Fun K x qual st f fd)
  (h:∀ (kV doc pm:Value) (an:Option Addr) (cdv ct:Value) (us:List Value),us.length=ps.length→bindArgs (PySem.W.fnOf x qual (defArgs st) (defBody st) (defScope st) .none kV doc pm an cdv ct) ⟨us,[]⟩=pure (ps.zip us)):Binds K fd ps []:=by
 obtain ⟨oc,od,kV,doc,pm,an,cdv,ct,osl,rfl,lk,hcd⟩:=F.ex
 exact .all (h kV doc pm an cdv ct)
theorem fun_mk {x qual:Str} {st:Stmt} {f:Addr} {oc:Value} {od an:Option Addr} {osl:Array (Option Value)} {kV doc pm cdv ct:Value} (l:K.lookup f=some ⟨oc,od, .func (PySem.W.fnOf x qual (defArgs st) (defBody st) (defScope st) .none kV doc pm an cdv ct),osl⟩)
  (c:PySem.W.codeIn K cdv qual=true) (k:PySem.W.keepIn K (.ref f)=true):Fun K x qual st f (PySem.W.fnOf x qual (defArgs st) (defBody st) (defScope st) .none kV doc pm an cdv ct):=⟨⟨oc,od,kV,doc,pm,an,cdv,ct,osl,rfl,l,c⟩,k⟩
end
section
variable {X:Cx}
end
def Same (H H':Hp):Prop:=∀ b o,H b=some o→H' b=some o
theorem Same.refl (H:Hp):Same H H:=fun _ _ h=>h
theorem Same.trans {H H1 H2:Hp} (a:Same H H1) (b:Same H1 H2):Same H H2:=fun c o h=>b c o (a c o h)
theorem Same.free {H H':Hp} (e:Same H H') {l:Addr} (h:H' l=Option.none):H l=Option.none:=by
 cases q:H l with
 |none=>rfl
 |some o=>
  rw [e l o q] at h
  cases h
theorem Same.seq {K:PySem.W.Frag} {H H':Hp} {a:Addr} {xs:List V} (e:Same H H') (h:SqL K H a xs):SqL K H' a xs:=by
 rcases h with (h|⟨o,h⟩)|h
 ·exact .inl (.inl (e _ _ h))
 ·exact .inl (.inr ⟨o,e _ _ h⟩)
 ·exact .inr h
end L2
set_option maxHeartbeats 4000000
namespace L3
open PySem PySem.Spec PyProof.Rows L2
inductive D where
 |non|bl (b:Bool)|int (i:Int)|str (x:Str)|tup (ds:List D)|lst (ds:List D)|dct (ks:List Key) (ds:List D)|exc (c:Str) (ds:List D)|obj (c:Str) (ks:List Str) (ds:List D)
inductive Res (α:Type) where
 |ok (a:α)|ex (c:Str) (fs:List D)|stuck
def Res.bind {α β:Type} (r:Res α) (k:α→Res β):Res β:=match r with
 | .ok a=>k a
 | .ex c fs=> .ex c fs
 | .stuck=> .stuck
theorem Res.bind_ok {α β:Type} (a:α) (k:α→Res β):(Res.ok a).bind k=k a:=rfl
theorem Res.bind_ex {α β:Type} (c:Str) (fs:List D) (k:α→Res β):(Res.ex c fs).bind k= .ex c fs:=rfl
theorem Res.bind_stuck {α β:Type} (k:α→Res β):(Res.stuck:Res α).bind k= .stuck:=rfl
inductive S where
 |d (x:D)|o (ds:List D)|q (ks:List Key) (ds:List D)|w (dss:List (List D))
def Ow:S→Prop
 | .d _=>False
 |_=>True
def MutO:HO→Prop
 | .lst _=>True
 | .dK _=>True
 | .ins _ _ _=>True
 |_=>False
abbrev DSt:=List (Option S)
abbrev Dx:=Option Addr×Bool
def ExcAt (a:Addr) (C:Value) (dx:Dx):Heap→Prop:=fun h=>∃ o vs,h.get? a=some o∧o.cls=C∧o.dict=dx.1∧o.data= .fields vs∧(dx.2=true→vs[2]? =some .none)
def sclV:D→Option V
 | .non=>some .non
 | .bl b=>some (.bl b)
 | .int i=>some (.int i)
 | .str x=>some (.str x)
 |_=>none
def ExV (H:Hp) (x:D) (v:V):Prop:=sclV x=some v∨∃ ds a o xs,x= .lst ds∧v= .ref a∧H a=some (.frz o (.lst xs))∧ds.map sclV=xs.map some
def ExVs (H:Hp):List D→List V→Prop
 | [],[]=>True
 |x::ds,v::vs=>ExV H x v∧ExVs H ds vs
 |_,_=>False
def ExD (H:Hp) (dx:Option Addr) (ns vs:List D):Prop:=∃ d kvs,dx=some d∧H d=some (.xd kvs)∧ns=kvs.map (fun p=>D.str p.1)∧ExVs H vs (kvs.map (·.2))
def ExF0 (H:Hp) (dx:Dx):List D→Prop
 | []=>True
 | .tup ns::vs=>ExD H dx.1 ns vs
 |_=>False
def ExF (H:Hp) (dx:Dx):List D→Prop
 | .non::fs=>ExF0 H dx fs
 |fs=>dx.2=true∧ExF0 H dx fs
theorem ExVs.to {H H':Hp} (k:∀ b o u,H b=some (.frz o u)→H' b=some (.frz o u)):∀ {ds:List D} {vs:List V},ExVs H ds vs→ExVs H' ds vs
 | [],[],h=>h
 |_::_,_::_,⟨h,t⟩=>⟨by
   rcases h with h|⟨ds,a,o,xs,e1,e2,e3,e4⟩
   ·exact .inl h
   ·exact .inr ⟨ds,a,o,xs,e1,e2,k _ _ _ e3,e4⟩,t.to k⟩
 | [],_::_,h=>h.elim
 |_::_,[],h=>h.elim
theorem ExD.to {H H':Hp} {dx:Option Addr} {ns vs:List D} (k:∀ b o u,H b=some (.frz o u)→H' b=some (.frz o u)) (k2:∀ b kvs,H b=some (.xd kvs)→H' b=some (.xd kvs)) (h:ExD H dx ns vs):ExD H' dx ns vs:=
 let ⟨d,kvs,e1,e2,e3,e4⟩:=h
 ⟨d,kvs,e1,k2 _ _ e2,e3,e4.to k⟩
theorem ExF0.to {H H':Hp} {dx:Dx} (k:∀ b o u,H b=some (.frz o u)→H' b=some (.frz o u)) (k2:∀ b kvs,H b=some (.xd kvs)→H' b=some (.xd kvs)) {fs:List D} (h:ExF0 H dx fs):ExF0 H' dx fs:=by
 cases fs with
 |nil=>trivial
 |cons y vs=>
  cases y with
  |tup ns=>exact ExD.to k k2 h
  |_=>exact h.elim
theorem ExF.to {H H':Hp} {dx:Dx} (k:∀ b o u,H b=some (.frz o u)→H' b=some (.frz o u)) (k2:∀ b kvs,H b=some (.xd kvs)→H' b=some (.xd kvs)) {fs:List D} (h:ExF H dx fs):ExF H' dx fs:=by
 cases fs with
 |nil=>exact h
 |cons y vs=>
  cases y with
  |non=>exact ExF0.to (fs:=vs) k k2 h
  |tup ns=>exact ⟨h.1,ExF0.to (fs:= .tup ns::vs) k k2 h.2⟩
  |_=>exact h.2.elim
abbrev WS:=Addr→Prop
section
variable (K:PySem.W.Frag) (W:WS) (H:Hp)
def LR (a:Addr) (xs:List V):Prop:=(H a=some (.lst xs)∧¬ W a)∨((∃ o,H a=some (.frz o (.lst xs)))∨∃ (o:Obj) (its:Array Value) (n:Nat),K.lookup a=some o∧o.cls= .type "list"∧o.dict=none∧o.data= .seq its n∧its.size≤sizeLine∧Vals xs its.toList)
mutual
def Has:D→V→Prop
 | .non,v=>v= .non
 | .bl b,v=>v= .bl b
 | .int i,v=>v= .int i
 | .str x,v=>v= .str x
 | .tup ds,v=>∃ a xs,v= .ref a∧SqT K H a xs∧HasL ds xs
 | .lst ds,v=>∃ a xs,v= .ref a∧LR K W H a xs∧HasL ds xs
 | .dct ks ds,v=>∃ a kvs,v= .ref a∧(∃ o,H a=some (.frz o (.dK kvs)))∧kvs.map (·.1)=ks∧HasL ds (kvs.map (·.2))
 | .exc c fs,v=>∃ a C dx,v= .ref a∧PySem.W.nsIn K mainGlobals c=some (some C)∧H a=some (.ext (ExcAt a C dx))∧ExF H dx fs
 | .obj c ks ds,v=>∃ a C dx fs,v= .ref a∧PySem.W.nsIn K mainGlobals c=some (some (.ref C))∧H a=some (.ins C dx fs)∧¬ W a∧fs.map (·.1)=ks∧HasL ds (fs.map (·.2))
def HasL:List D→List V→Prop
 | [],xs=>xs= []
 |d::ds,xs=>∃ x r,xs=x::r∧Has d x∧HasL ds r
end
end
theorem LR.sq {K:PySem.W.Frag} {W:WS} {H:Hp} {a:Addr} {xs:List V} (h:LR K W H a xs):SqL K H a xs:=by
 rcases h with ⟨h,_⟩|⟨o,h⟩|h
 ·exact .inl (.inl h)
 ·exact .inl (.inr ⟨o,h⟩)
 ·exact .inr h
def Keep (W:WS) (H H':Hp):Prop:=∀ b o,H b=some o→¬ W b→H' b=some o
def WL (W:WS) (H:Hp):Prop:=∀ b,W b→∃ o,H b=some o∧MutO o
theorem Same.keep {W:WS} {H H':Hp} (h:Same H H'):Keep W H H':=fun b o e _=>h b o e
theorem Keep.trans {W:WS} {H H1 H2:Hp} (a:Keep W H H1) (b:Keep W H1 H2):Keep W H H2:=fun c o e n=>b c o (a c o e n) n
theorem sqT_keep {K:PySem.W.Frag} {W:WS} {H H':Hp} {a:Addr} {xs:List V} (k:Keep W H H') (w:WL W H) (h:SqT K H a xs):SqT K H' a xs:=by
 have nw:∀ o,H a=some o→¬ MutO o→¬ W a:=fun o e n z=>by
  obtain ⟨o',e',m⟩:=w a z
  rw [e] at e'
  cases e'
  exact n m
 rcases h with (h|⟨o,h⟩)|h
 ·exact .inl (.inl (k _ _ h (nw _ h fun z=>z)))
 ·exact .inl (.inr ⟨o,k _ _ h (nw _ h fun z=>z)⟩)
 ·exact .inr h
theorem LR.keep {K:PySem.W.Frag} {W W':WS} {H H':Hp} {a:Addr} {xs:List V} (k:Keep W H H') (w:WL W H) (hw:∀ b,W' b→W b∨H b=none) (h:LR K W H a xs):LR K W' H' a xs:=by
 rcases h with ⟨h,n⟩|⟨o,h⟩|h
 ·refine .inl ⟨k _ _ h n,fun z=> ?_⟩
  rcases hw a z with z|z
  ·exact n z
  ·rw [h] at z;cases z
 ·refine .inr (.inl ⟨o,k _ _ h fun z=> ?_⟩)
  obtain ⟨o',e',m⟩:=w a z
  rw [h] at e';cases e';exact m
 ·exact .inr (.inr h)
section
variable {K:PySem.W.Frag} {W W':WS} {H H':Hp}
mutual
theorem Has.keep (k:Keep W H H') (w:WL W H) (hw:∀ b,W' b→W b∨H b=none):∀ {d:D} {v:V},Has K W H d v→Has K W' H' d v
 | .non,_,h=>by rw [Has] at h ⊢;exact h
 | .bl _,_,h=>by rw [Has] at h ⊢;exact h
 | .int _,_,h=>by rw [Has] at h ⊢;exact h
 | .str _,_,h=>by rw [Has] at h ⊢;exact h
 | .tup ds,_,h=>by
  rw [Has] at h ⊢
  obtain ⟨a,xs,e,q,r⟩:=h
  exact ⟨a,xs,e,sqT_keep k w q,HasL.keep k w hw r⟩
 | .lst ds,_,h=>by
  rw [Has] at h ⊢
  obtain ⟨a,xs,e,q,r⟩:=h
  exact ⟨a,xs,e,q.keep k w hw,HasL.keep k w hw r⟩
 | .dct ks ds,_,h=>by
  rw [Has] at h ⊢
  obtain ⟨a,kvs,e,⟨o,q⟩,m,r⟩:=h
  refine ⟨a,kvs,e,⟨o,k _ _ q fun z=> ?_⟩,m,HasL.keep k w hw r⟩
  obtain ⟨o',e',m'⟩:=w a z
  rw [q] at e';cases e';exact m'
 | .exc _ _,_,h=>by
  rw [Has] at h ⊢
  obtain ⟨a,C,dx,e,n,q,f⟩:=h
  have nw:∀ b o,H b=some o→¬ MutO o→¬ W b:=fun b o q n z=>by
   obtain ⟨o',e',m'⟩:=w b z
   rw [q] at e';cases e';exact n m'
  exact ⟨a,C,dx,e,n,k _ _ q (nw _ _ q fun z=>z),f.to (fun b o u q=>k _ _ q (nw _ _ q fun z=>z)) fun b kvs q=>k _ _ q (nw _ _ q fun z=>z)⟩
 | .obj _ _ ds,_,h=>by
  rw [Has] at h ⊢
  obtain ⟨a,C,dx,fs,e,n,q,nw,m,r⟩:=h
  refine ⟨a,C,dx,fs,e,n,k _ _ q nw,fun z=> ?_,m,HasL.keep k w hw r⟩
  rcases hw a z with z|z
  ·exact nw z
  ·rw [q] at z;cases z
theorem HasL.keep (k:Keep W H H') (w:WL W H) (hw:∀ b,W' b→W b∨H b=none):∀ {ds:List D} {xs:List V},HasL K W H ds xs→HasL K W' H' ds xs
 | [],_,h=>by rw [HasL] at h ⊢;exact h
 |d::ds,_,h=>by
  rw [HasL] at h ⊢
  obtain ⟨x,r,e,q,t⟩:=h
  exact ⟨x,r,e,Has.keep k w hw q,HasL.keep k w hw t⟩
end
theorem Has.same {d:D} {v:V} (h:Has K W H d v) (k:Same H H') (w:WL W H):Has K W H' d v:=Has.keep (Same.keep k) w (fun _ z=> .inl z) h
theorem HasL.same {d:List D} {v:List V} (h:HasL K W H d v) (k:Same H H') (w:WL W H):HasL K W H' d v:=HasL.keep (Same.keep k) w (fun _ z=> .inl z) h
theorem HasL.length:∀ {ds:List D} {xs:List V},HasL K W H ds xs→ds.length=xs.length
 | [],_,h=>by rw [HasL] at h;rw [h];rfl
 |d::ds,_,h=>by
  rw [HasL] at h
  obtain ⟨x,r,e,q,t⟩:=h
  rw [e,List.length_cons,List.length_cons,HasL.length t]
theorem HasL.get:∀ {ds:List D} {xs:List V} {i:Nat} {d:D},HasL K W H ds xs→ds[i]? =some d→∃ x,xs[i]? =some x∧Has K W H d x
 | [],_,_,_,_,e=>by simp at e
 |d::ds,_,0,_,h,e=>by
  rw [HasL] at h
  obtain ⟨x,r,rfl,q,t⟩:=h
  simp at e;subst e
  exact ⟨x,rfl,q⟩
 |d::ds,_,i+1,_,h,e=>by
  rw [HasL] at h
  obtain ⟨x,r,rfl,q,t⟩:=h
  obtain ⟨y,h1,h2⟩:=HasL.get (i:=i) t (by simpa using e)
  exact ⟨y,by simpa using h1,h2⟩
theorem HasL.at' {ds:List D} {xs:List V} {i:Nat} {x:V} (h:HasL K W H ds xs) (e:xs[i]? =some x):∃ d,ds[i]? =some d∧Has K W H d x:=by
 have hl:=h.length
 have hi:i<ds.length:=by rw [hl];exact (List.getElem?_eq_some_iff.mp e).1
 obtain ⟨y,h1,h2⟩:=h.get (List.getElem?_eq_getElem hi)
 rw [e] at h1;cases h1
 exact ⟨_,List.getElem?_eq_getElem hi,h2⟩
theorem HasL.nil:HasL K W H [] []:=by rw [HasL]
theorem HasL.cons {d:D} {ds:List D} {x:V} {xs:List V} (h:Has K W H d x) (t:HasL K W H ds xs):HasL K W H (d::ds) (x::xs):=by rw [HasL];exact ⟨x,xs,rfl,h,t⟩
theorem HasL.append:∀ {ds es:List D} {xs ys:List V},HasL K W H ds xs→HasL K W H es ys→HasL K W H (ds++es) (xs++ys)
 | [],_,_,_,h,t=>by rw [HasL] at h;subst h;exact t
 |d::ds,_,_,_,h,t=>by
  rw [HasL] at h
  obtain ⟨x,r,rfl,q,s⟩:=h
  exact HasL.cons q (HasL.append s t)
theorem HasL.take:∀ {ds:List D} {xs:List V} (n:Nat),HasL K W H ds xs→HasL K W H (ds.take n) (xs.take n)
 | [],_,n,h=>by rw [HasL] at h;subst h;simp [HasL]
 |d::ds,_,0,h=>by simp [HasL]
 |d::ds,_,n+1,h=>by
  rw [HasL] at h
  obtain ⟨x,r,rfl,q,s⟩:=h
  exact HasL.cons q (HasL.take n s)
theorem HasL.drop:∀ {ds:List D} {xs:List V} (n:Nat),HasL K W H ds xs→HasL K W H (ds.drop n) (xs.drop n)
 | [],_,n,h=>by rw [HasL] at h;subst h;simp [HasL]
 |d::ds,_,0,h=>h
 |d::ds,_,n+1,h=>by
  rw [HasL] at h
  obtain ⟨x,r,rfl,q,s⟩:=h
  exact HasL.drop n s
theorem HasL.snoc {ds:List D} {xs:List V} {d:D} {x:V} (h:HasL K W H ds xs) (t:Has K W H d x):HasL K W H (ds++ [d]) (xs++ [x]):=h.append (HasL.cons t HasL.nil)
theorem HasL.set:∀ {ds:List D} {xs:List V} (i:Nat) {d:D} {x:V},HasL K W H ds xs→Has K W H d x→HasL K W H (ds.set i d) (xs.set i x)
 | [],_,n,_,_,h,_=>by rw [HasL] at h;subst h;simp [HasL]
 |e::ds,_,0,_,_,h,t=>by
  rw [HasL] at h
  obtain ⟨y,r,rfl,q,s⟩:=h
  exact HasL.cons t s
 |e::ds,_,i+1,_,_,h,t=>by
  rw [HasL] at h
  obtain ⟨y,r,rfl,q,s⟩:=h
  exact HasL.cons q (HasL.set i s t)
theorem HasL.ints {ns:List Int}:HasL K W H (ns.map D.int) (ns.map V.int):=by
 induction ns with
 |nil=>exact HasL.nil
 |cons n ns ih=>exact HasL.cons (by rw [Has]) ih
end
structure FrOk (W₀:WS) (H₀:Hp) (W:WS) (H:Hp):Prop where
 ext:Same H₀ H
 sub:∀ b,W₀ b→W b
 wl:WL W H
 wl0:WL W₀ H₀
def SlotHas (K:PySem.W.Frag) (W₀:WS) (H₀:Hp) (W:WS) (H:Hp):S→V→Prop
 | .d x,v=>Has K W H x v
 | .o ds,v=>∃ a xs,v= .ref a∧W a∧H₀ a=none∧H a=some (.lst xs)∧HasL K W H ds xs
 | .q ks ds,v=>∃ a kvs,v= .ref a∧W a∧H₀ a=none∧H a=some (.dK kvs)∧kvs.map (·.1)=ks∧HasL K W H ds (kvs.map (·.2))
 | .w dss,v=>∃ (a:Addr) (bs:List Addr),v= .ref a∧W a∧H₀ a=none∧H a=some (.lst (bs.map V.ref))∧bs.Nodup∧a∉bs∧bs.length=dss.length∧∀ (k:Nat) (b:Addr) (ds:List D),bs[k]? =some b→dss[k]? =some ds→W b∧H₀ b=none∧∃ xs,H b=some (.lst xs)∧HasL K W H ds xs
def Owns (H:Hp):S→V→Addr→Prop
 | .d _,_,_=>False
 | .w _,v,b=>v= .ref b∨∃ (a:Addr) (bs:List Addr),v= .ref a∧H a=some (.lst (bs.map V.ref))∧b∈bs
 |_,v,b=>v= .ref b
structure StHas (K:PySem.W.Frag) (W₀:WS) (H₀:Hp) (W:WS) (H:Hp) (σ:L2.St) (δ:DSt):Prop where
 fr:FrOk W₀ H₀ W H
 len:σ.length=δ.length
 at':∀ (i:Nat) (s:S),δ[i]? =some (some s)→∃ v,σ[i]? =some (some v)∧SlotHas K W₀ H₀ W H s v
 ap:∀ (i j:Nat) (s t:S) (u v:V) (b:Addr),i≠j→δ[i]? =some (some s)→δ[j]? =some (some t)→σ[i]? =some (some u)→σ[j]? =some (some v)→Owns H s u b→¬ Owns H t v b
section
variable {K:PySem.W.Frag} {W₀ W:WS} {H₀ H H':Hp} {σ:L2.St} {δ:DSt}
theorem WL.same (w:WL W H) (k:Same H H'):WL W H':=fun b z=>let ⟨xs,e,m⟩:=w b z;⟨xs,k _ _ e,m⟩
theorem FrOk.same (f:FrOk W₀ H₀ W H) (k:Same H H'):FrOk W₀ H₀ W H':=⟨f.ext.trans k,f.sub,f.wl.same k,f.wl0⟩
theorem SlotHas.same {s:S} {v:V} (w:WL W H) (k:Same H H') (h:SlotHas K W₀ H₀ W H s v):SlotHas K W₀ H₀ W H' s v:=by
 cases s with
 |d x=>exact Has.same h k w
 |o ds=>
  obtain ⟨a,xs,e,h1,h2,h3,h4⟩:=h
  exact ⟨a,xs,e,h1,h2,k _ _ h3,h4.same k w⟩
 |q ks ds=>
  obtain ⟨a,xs,e,h1,h2,h3,h4,h5⟩:=h
  exact ⟨a,xs,e,h1,h2,k _ _ h3,h4,h5.same k w⟩
 |w dss=>
  obtain ⟨a,bs,e,h1,h2,h3,h4,h5,h6,h7⟩:=h
  exact ⟨a,bs,e,h1,h2,k _ _ h3,h4,h5,h6,fun j b ds e1 e2=>let ⟨g1,g2,xs,g3,g4⟩:=h7 j b ds e1 e2;⟨g1,g2,xs,k _ _ g3,g4.same k w⟩⟩
theorem refs_inj:∀ {bs cs:List Addr},bs.map V.ref=cs.map V.ref→bs=cs
 | [],[],_=>rfl
 | [],_::_,h=>by cases h
 |_::_,[],h=>by cases h
 |b::bs,c::cs,h=>by
  rw [List.map_cons,List.map_cons] at h
  injection h with h1 h2
  injection h1 with h1
  rw [h1,refs_inj h2]
theorem Owns.back {s:S} {v:V} {b:Addr} (h:SlotHas K W₀ H₀ W H s v) (k:∀ a xs,v= .ref a→H a=some (.lst xs)→H' a=some (.lst xs)) (o:Owns H' s v b):Owns H s v b:=by
 cases s with
 |d x=>exact o
 |o ds=>exact o
 |q ks ds=>exact o
 |w dss=>
  rcases o with o|⟨a,bs,e,hb,m⟩
  ·exact .inl o
  ·obtain ⟨a',bs',e',_,_,h3,_⟩:=h
   rw [e] at e';cases e'
   have:=k a _ e h3
   rw [hb] at this
   injection this with this
   injection this with this
   rw [refs_inj this] at m
   exact .inr ⟨a,bs',e,h3,m⟩
theorem owo (ds:List D):Ow (.o ds):=trivial
theorem owq (ks:List Key) (ds:List D):Ow (.q ks ds):=trivial
theorem SlotHas.mv {W':WS} {s:S} {v:V} (w:WL W H) (kk:Keep W H H') (hw:∀ b,W' b→W b∨H b=none) (hq:∀ b o,Owns H s v b→W b→H₀ b=none→H b=some o→MutO o→W' b∧H' b=some o) (h:SlotHas K W₀ H₀ W H s v):SlotHas K W₀ H₀ W' H' s v:=by
 cases s with
 |d x=>exact Has.keep kk w hw h
 |o ds=>
  obtain ⟨a,xs,e,h1,h2,h3,h4⟩:=h
  obtain ⟨g1,g2⟩:=hq a _ e h1 h2 h3 trivial
  exact ⟨a,xs,e,g1,h2,g2,HasL.keep kk w hw h4⟩
 |q ks ds=>
  obtain ⟨a,xs,e,h1,h2,h3,h4,h5⟩:=h
  obtain ⟨g1,g2⟩:=hq a _ e h1 h2 h3 trivial
  exact ⟨a,xs,e,g1,h2,g2,h4,HasL.keep kk w hw h5⟩
 |w dss=>
  obtain ⟨a,bs,e,h1,h2,h3,h4,h5,h6,h7⟩:=h
  obtain ⟨g1,g2⟩:=hq a _ (.inl e) h1 h2 h3 trivial
  refine ⟨a,bs,e,g1,h2,g2,h4,h5,h6,fun j b ds e1 e2=> ?_⟩
  obtain ⟨f1,f2,xs,f3,f4⟩:=h7 j b ds e1 e2
  obtain ⟨g3,g4⟩:=hq b _ (.inr ⟨a,bs,e,h3,List.mem_of_getElem? e1⟩) f1 f2 f3 trivial
  exact ⟨g3,f2,xs,g4,HasL.keep kk w hw f4⟩
theorem SlotHas.own {s:S} {v:V} (h:SlotHas K W₀ H₀ W H s v) (o:Ow s):∃ a ob,v= .ref a∧W a∧H₀ a=none∧H a=some ob∧MutO ob:=by
 cases s with
 |d x=>exact o.elim
 |o ds=>
  obtain ⟨a,xs,e,h1,h2,h3,h4⟩:=h
  exact ⟨a,_,e,h1,h2,h3,trivial⟩
 |q ks ds=>
  obtain ⟨a,xs,e,h1,h2,h3,h4,h5⟩:=h
  exact ⟨a,_,e,h1,h2,h3,trivial⟩
 |w dss=>
  obtain ⟨a,bs,e,h1,h2,h3,_⟩:=h
  exact ⟨a,_,e,h1,h2,h3,trivial⟩
theorem SlotHas.owns {s:S} {v:V} {b:Addr} (h:SlotHas K W₀ H₀ W H s v) (o:Owns H s v b):W b∧H₀ b=none∧∃ ob,H b=some ob∧MutO ob:=by
 cases s with
 |d x=>exact o.elim
 |o ds=>
  obtain ⟨a,xs,e,h1,h2,h3,h4⟩:=h
  have o':v= .ref b:=o
  rw [e] at o';cases o'
  exact ⟨h1,h2,_,h3,trivial⟩
 |q ks ds=>
  obtain ⟨a,xs,e,h1,h2,h3,h4⟩:=h
  have o':v= .ref b:=o
  rw [e] at o';cases o'
  exact ⟨h1,h2,_,h3,trivial⟩
 |w dss=>
  obtain ⟨a,bs,e,h1,h2,h3,h4,h5,h6,h7⟩:=h
  rcases o with o|⟨a',bs',e',hb,m⟩
  ·rw [e] at o;cases o
   exact ⟨h1,h2,_,h3,trivial⟩
  ·rw [e] at e';cases e'
   rw [h3] at hb
   injection hb with hb
   injection hb with hb
   rw [←refs_inj hb] at m
   obtain ⟨k,hk⟩:=List.mem_iff_getElem?.mp m
   have hl:k<dss.length:=by rw [←h6];exact (List.getElem?_eq_some_iff.mp hk).1
   obtain ⟨f1,f2,xs,f3,f4⟩:=h7 k b _ hk (List.getElem?_eq_getElem hl)
   exact ⟨f1,f2,_,f3,trivial⟩
theorem Ow.owns {s:S} {a:Addr} (o:Ow s):Owns H s (.ref a) a:=by
 cases s with
 |d x=>exact o.elim
 |o ds=>exact rfl
 |q ks ds=>exact rfl
 |w dss=>exact .inl rfl
theorem StHas.same (h:StHas K W₀ H₀ W H σ δ) (k:Same H H'):StHas K W₀ H₀ W H' σ δ:=
 ⟨h.fr.same k,h.len,fun i s e=>let ⟨v,h1,h2⟩:=h.at' i s e;⟨v,h1,h2.same h.fr.wl k⟩,fun i j s t u v b ij e1 e2 e3 e4 o1 o2=>by
  obtain ⟨u',f1,f2⟩:=h.at' i s e1
  obtain ⟨v',f3,f4⟩:=h.at' j t e2
  rw [e3] at f1;cases f1
  rw [e4] at f3;cases f3
  exact h.ap i j s t u v b ij e1 e2 e3 e4 (Owns.back f2 (fun a xs _ z=>k _ _ z) o1) (Owns.back f4 (fun a xs _ z=>k _ _ z) o2)⟩
theorem StHas.set {i:Nat} {x:D} {v:V} (h:StHas K W₀ H₀ W H σ δ) (q:Has K W H x v):StHas K W₀ H₀ W H (σ.set i (some v)) (δ.set i (some (.d x))):=by
 refine ⟨h.fr,by simp [h.len],fun j s e=> ?_,fun j k s1 s2 u u' a hjk e1 e2 e3 e4 os ot=> ?_⟩
 ·by_cases hj:i=j
  ·subst hj
   rw [List.getElem?_set_self'] at e ⊢
   cases q':δ[i]? with
   |none=>rw [q'] at e;cases e
   |some z=>
    rw [q'] at e
    have e':some (S.d x)=some s:=Option.some.inj e
    cases e'
    have hi:i<σ.length:=by rw [h.len];exact (List.getElem?_eq_some_iff.mp q').1
    exact ⟨v,by rw [List.getElem?_eq_getElem hi];rfl,q⟩
  ·rw [List.getElem?_set_ne hj] at e ⊢
   exact h.at' j s e
 ·have hj:i≠j:=by
   rintro rfl
   rw [List.getElem?_set_self'] at e1
   cases q':δ[i]? with
   |none=>rw [q'] at e1;cases e1
   |some z=>rw [q'] at e1;cases e1;exact os
  have hk:i≠k:=by
   rintro rfl
   rw [List.getElem?_set_self'] at e2
   cases q':δ[i]? with
   |none=>rw [q'] at e2;cases e2
   |some z=>rw [q'] at e2;cases e2;exact ot
  rw [List.getElem?_set_ne hj] at e1 e3
  rw [List.getElem?_set_ne hk] at e2 e4
  exact h.ap j k s1 s2 u u' a hjk e1 e2 e3 e4 os ot
theorem StHas.ownS {N:WS} {i:Nat} {sl:S} {a:Addr} (h:StHas K W₀ H₀ W H σ δ) (k:Same H H') (hn:∀ b,N b→H b=none∧∃ ob,H' b=some ob∧MutO ob) (q:SlotHas K W₀ H₀ (fun b=>W b∨N b) H' sl (.ref a)) (nw:∀ b,Owns H' sl (.ref a) b→H b=none):
  StHas K W₀ H₀ (fun b=>W b∨N b) H' (σ.set i (some (.ref a))) (δ.set i (some sl)):=by
 have hw:∀ b,(W b∨N b)→W b∨H b=none:=fun b z=>z.elim .inl fun z=> .inr (hn b z).1
 have kk:Keep W H H':=Same.keep k
 have fr':FrOk W₀ H₀ (fun b=>W b∨N b) H':=⟨h.fr.ext.trans k,fun b z=> .inl (h.fr.sub b z),fun b z=>z.elim (h.fr.wl.same k b) fun z=>(hn b z).2,h.fr.wl0⟩
 have slot:∀ {s:S} {v:V},SlotHas K W₀ H₀ W H s v→SlotHas K W₀ H₀ (fun b=>W b∨N b) H' s v:=fun {s v} z=>z.mv h.fr.wl kk hw fun b o e h1 h2 h3 h4=>⟨.inl h1,k _ _ h3⟩
 have old:∀ (j:Nat) (t:S) (v:V) (b:Addr),δ[j]? =some (some t)→σ[j]? =some (some v)→Owns H' t v b→Owns H t v b∧H b≠none:=fun j t v b e z o=>by
  obtain ⟨v',h1,h2⟩:=h.at' j _ e
  rw [z] at h1;cases h1
  have o':=Owns.back h2 (fun a xs _ z=>k _ _ z) o
  obtain ⟨_,_,ob,h3,_⟩:=h2.owns o'
  exact ⟨o',fun z=>by rw [h3] at z;cases z⟩
 refine ⟨fr',by simp [h.len],fun j s e=> ?_,fun j l s1 s2 u u' b hjl e1 e2 e3 e4 os ot=> ?_⟩
 ·by_cases hj:i=j
  ·subst hj
   rw [List.getElem?_set_self'] at e ⊢
   cases q':δ[i]? with
   |none=>rw [q'] at e;cases e
   |some z=>
    rw [q'] at e
    have e':some sl=some s:=Option.some.inj e
    cases e'
    have hi:i<σ.length:=by rw [h.len];exact (List.getElem?_eq_some_iff.mp q').1
    exact ⟨.ref a,by rw [List.getElem?_eq_getElem hi];rfl,q⟩
  ·rw [List.getElem?_set_ne hj] at e ⊢
   obtain ⟨v,h1,h2⟩:=h.at' j s e
   exact ⟨v,h1,slot h2⟩
 ·have get:∀ m:Nat,m≠i→∀ {α:Type} (l:List α) (z:α),(l.set i z)[m]? =l[m]? :=fun m hm α l z=>List.getElem?_set_ne (Ne.symm hm)
  have self:∀ {α:Type} (l:List (Option α)) (z y:α),(l.set i (some z))[i]? =some (some y)→y=z:=fun l z y e=>by
   rw [List.getElem?_set_self'] at e
   cases q':l[i]? with
   |none=>rw [q'] at e;cases e
   |some x=>rw [q'] at e;cases e;rfl
  by_cases hj:j=i
  ·have hl:l≠i:=fun z=>hjl (hj.trans z.symm)
   rw [get l hl] at e2 e4
   subst hj
   have z1:=self _ _ _ e1
   have z2:=self _ _ _ e3
   subst z1;subst z2
   exact (old l s2 u' b e2 e4 ot).2 (nw b os)
  ·rw [get j hj] at e1 e3
   by_cases hl:l=i
   ·subst hl
    have z1:=self _ _ _ e2
    have z2:=self _ _ _ e4
    subst z1;subst z2
    exact (old j s1 u b e1 e3 os).2 (nw b ot)
   ·rw [get l hl] at e2 e4
    exact h.ap j l s1 s2 u u' b hjl e1 e2 e3 e4 (old j s1 u b e1 e3 os).1 (old l s2 u' b e2 e4 ot).1
theorem StHas.ownG {W':WS} {i:Nat} {sl:S} {ob:HO} {a:Addr} (h:StHas K W₀ H₀ W H σ δ) (k:Same H H') (ha:H a=none) (ha':H' a=some ob) (mo:MutO ob) (q:SlotHas K W₀ H₀ (fun b=>W b∨b=a) H' sl (.ref a)) (nw:∀ b,Owns H' sl (.ref a) b→H b=none:=by intro b z;cases z;assumption):
  StHas K W₀ H₀ (fun b=>W b∨b=a) H' (σ.set i (some (.ref a))) (δ.set i (some sl)):=
 h.ownS (N:=fun b=>b=a) k (fun b z=>by rw [z];exact ⟨ha,ob,ha',mo⟩) q nw
theorem StHas.own {i:Nat} {ds:List D} {a:Addr} {xs:List V} (h:StHas K W₀ H₀ W H σ δ) (ha:H a=none) (q:HasL K W H ds xs):
  StHas K W₀ H₀ (fun b=>W b∨b=a) (upd H a (.lst xs)) (σ.set i (some (.ref a))) (δ.set i (some (.o ds))):=by
 have k:Same H (upd H a (.lst xs)):=fun b o e=>by rw [upd_ne (ne_of_none e ha)];exact e
 exact h.ownG (W':=W) k ha upd_same trivial ⟨a,xs,rfl, .inr rfl,Same.free h.fr.ext ha,upd_same,HasL.keep (Same.keep k) h.fr.wl (fun b z=>z.elim .inl fun z=> .inr (by rw [z];exact ha)) q⟩
theorem StHas.ownQ {i:Nat} {ks:List Key} {ds:List D} {a:Addr} {kvs:List (Key×V)} (h:StHas K W₀ H₀ W H σ δ) (ha:H a=none) (e:kvs.map (·.1)=ks) (q:HasL K W H ds (kvs.map (·.2))):
  StHas K W₀ H₀ (fun b=>W b∨b=a) (upd H a (.dK kvs)) (σ.set i (some (.ref a))) (δ.set i (some (.q ks ds))):=by
 have k:Same H (upd H a (.dK kvs)):=fun b o e=>by rw [upd_ne (ne_of_none e ha)];exact e
 exact h.ownG (W':=W) k ha upd_same trivial ⟨a,kvs,rfl, .inr rfl,Same.free h.fr.ext ha,upd_same,e,HasL.keep (Same.keep k) h.fr.wl (fun b z=>z.elim .inl fun z=> .inr (by rw [z];exact ha)) q⟩
theorem StHas.changeS {i:Nat} {so sl:S} {w:V} {ob:HO} {a:Addr} (h:StHas K W₀ H₀ W H σ δ) (hi:δ[i]? =some (some so)) (hs:σ[i]? =some (some w)) (oc:Owns H so w a) (mo:MutO ob) (q:H₀ a=none→Keep W H (upd H a ob)→SlotHas K W₀ H₀ W (upd H a ob) sl w)
  (nw:∀ b,Owns (upd H a ob) sl w b→∀ (j:Nat) (t:S) (v:V),i≠j→δ[j]? =some (some t)→σ[j]? =some (some v)→¬ Owns H t v b):
  StHas K W₀ H₀ W (upd H a ob) σ (δ.set i (some sl)):=by
 obtain ⟨v,h1,h2⟩:=h.at' i _ hi
 rw [hs] at h1
 cases h1
 obtain ⟨hW,h0,_⟩:=h2.owns oc
 have kk:Keep W H (upd H a ob):=fun b o e n=>by
  rw [upd_ne (fun z=>n (by rw [z];exact hW))];exact e
 have hw:∀ b,W b→W b∨H b=none:=fun b z=> .inl z
 have fr':FrOk W₀ H₀ W (upd H a ob):=⟨fun b o e=>by rw [upd_ne (ne_of_none e h0)];exact h.fr.ext _ _ e,h.fr.sub,fun b z=>by
  by_cases hb:b=a
  ·rw [hb];exact ⟨ob,upd_same,mo⟩
  ·rw [upd_ne hb];exact h.fr.wl b z,h.fr.wl0⟩
 have hl:i<δ.length:=(List.getElem?_eq_some_iff.mp hi).1
 have ne:∀ (j:Nat) (s:S) (v:V) (b:Addr),i≠j→δ[j]? =some (some s)→σ[j]? =some (some v)→Owns H s v b→b≠a:=fun j s v b hj e e' o z=>by
  subst z
  exact h.ap i j _ _ _ _ b hj hi e hs e' oc o
 refine ⟨fr',by simp [h.len],fun j s e=> ?_,fun j l s1 s2 u u' b hjl e1 e2 e3 e4 os ot=> ?_⟩
 ·by_cases hj:i=j
  ·subst hj
   rw [List.getElem?_set_self hl] at e
   cases e
   exact ⟨w,hs,q h0 kk⟩
  ·rw [List.getElem?_set_ne hj] at e
   obtain ⟨v,h1,h2⟩:=h.at' j s e
   exact ⟨v,h1,h2.mv h.fr.wl kk hw fun b o e1 h1' _ h3' _=>⟨h1',by rw [upd_ne (ne j s v b hj e h1 e1)];exact h3'⟩⟩
 ·have own:∀ (m:Nat) (t:S) (x:V),i≠m→(δ.set i (some sl))[m]? =some (some t)→σ[m]? =some (some x)→Owns (upd H a ob) t x b→δ[m]? =some (some t)∧Owns H t x b:=fun m t x hm e e' o=>by
   rw [List.getElem?_set_ne hm] at e
   obtain ⟨v,h1,h2⟩:=h.at' m t e
   rw [e'] at h1;cases h1
   refine ⟨e,Owns.back h2 (fun c xs ec z=> ?_) o⟩
   subst ec
   cases t with
   |d y=>exact o.elim
   |o ds=>rw [upd_ne (ne m _ _ c hm e e' rfl)];exact z
   |q ks ds=>rw [upd_ne (ne m _ _ c hm e e' rfl)];exact z
   |w dss=>rw [upd_ne (ne m _ _ c hm e e' (.inl rfl))];exact z
  by_cases hj:i=j
  ·subst hj
   rw [List.getElem?_set_self hl] at e1;cases e1
   rw [hs] at e3;cases e3
   obtain ⟨g2,o2⟩:=own l s2 u' hjl e2 e4 ot
   exact nw b os l s2 u' hjl g2 e4 o2
  ·obtain ⟨g1,o1⟩:=own j s1 u hj e1 e3 os
   by_cases hm:i=l
   ·subst hm
    rw [List.getElem?_set_self hl] at e2;cases e2
    rw [hs] at e4;cases e4
    exact nw b ot j s1 u hj g1 e3 o1
   ·obtain ⟨g2,o2⟩:=own l s2 u' hm e2 e4 ot
    exact h.ap j l s1 s2 u u' b hjl g1 g2 e3 e4 o1 o2
theorem StHas.changeG {i:Nat} {so sl:S} {ob:HO} {a:Addr} (h:StHas K W₀ H₀ W H σ δ) (oo:Ow so) (hi:δ[i]? =some (some so)) (hs:σ[i]? =some (some (.ref a))) (mo:MutO ob) (hW:W a) (q:H₀ a=none→Keep W H (upd H a ob)→SlotHas K W₀ H₀ W (upd H a ob) sl (.ref a)) (ol:Ow sl) (nw:∀ b,Owns (upd H a ob) sl (.ref a) b→Owns H so (.ref a) b:=by intro b z;exact z):
  StHas K W₀ H₀ W (upd H a ob) σ (δ.set i (some sl)):=
 h.changeS hi hs oo.owns mo q fun b o j t v hj e e'=>h.ap i j _ _ _ _ b hj hi e hs e' (nw b o)
theorem StHas.change {i:Nat} {ds es:List D} {a:Addr} {xs ys:List V} (h:StHas K W₀ H₀ W H σ δ) (hi:δ[i]? =some (some (.o ds))) (hs:σ[i]? =some (some (.ref a))) (ha:H a=some (.lst xs)) (hW:W a) (q:HasL K W H es ys):
  StHas K W₀ H₀ W (upd H a (.lst ys)) σ (δ.set i (some (.o es))):=
 h.changeG (owo ds) hi hs trivial hW (fun h0 kk=>⟨a,ys,rfl,hW,h0,upd_same,HasL.keep kk h.fr.wl (fun b z=> .inl z) q⟩) (owo es)
theorem StHas.changeQ {i:Nat} {ks ks':List Key} {ds es:List D} {a:Addr} {kvs':List (Key×V)} (h:StHas K W₀ H₀ W H σ δ) (hi:δ[i]? =some (some (.q ks ds))) (hs:σ[i]? =some (some (.ref a))) (hW:W a) (e:kvs'.map (·.1)=ks') (q:HasL K W H es (kvs'.map (·.2))):
  StHas K W₀ H₀ W (upd H a (.dK kvs')) σ (δ.set i (some (.q ks' es))):=
 h.changeG (owq ks ds) hi hs trivial hW (fun h0 kk=>⟨a,kvs',rfl,hW,h0,upd_same,e,HasL.keep kk h.fr.wl (fun b z=> .inl z) q⟩) (owq ks' es)
theorem StHas.freezeS {N:WS} {i:Nat} {so:S} {x:D} {w:V} (h:StHas K W₀ H₀ W H σ δ) (hi:δ[i]? =some (some so)) (hs:σ[i]? =some (some w)) (oN:∀ b,N b→Owns H so w b)
  (hd:Has K (fun b=>W b∧¬ N b) H x w):StHas K W₀ H₀ (fun b=>W b∧¬ N b) H σ (δ.set i (some (.d x))):=by
 obtain ⟨v,h1,h2⟩:=h.at' i _ hi
 rw [hs] at h1
 cases h1
 have kk:Keep W H H:=fun _ _ e _=>e
 have hw:∀ b,(W b∧¬ N b)→W b∨H b=none:=fun b z=> .inl z.1
 have hl:i<δ.length:=(List.getElem?_eq_some_iff.mp hi).1
 refine ⟨⟨h.fr.ext,fun b z=>⟨h.fr.sub b z,fun e=> ?_⟩,fun b z=>h.fr.wl b z.1,h.fr.wl0⟩,by simp [h.len],fun j s e=> ?_,fun j l s1 s2 u u' b hjl e1 e2 e3 e4 os ot=> ?_⟩
 ·obtain ⟨ys,z',_⟩:=h.fr.wl0 _ z
  rw [(h2.owns (oN _ e)).2.1] at z';cases z'
 ·by_cases hj:i=j
  ·subst hj
   rw [List.getElem?_set_self hl] at e
   cases e
   exact ⟨_,hs,hd⟩
  ·rw [List.getElem?_set_ne hj] at e
   obtain ⟨v,g1,g2⟩:=h.at' j s e
   refine ⟨v,g1,?_⟩
   by_cases ow:Ow s
   ·exact g2.mv h.fr.wl kk hw fun b o e1 h1' _ h3' _=>⟨⟨h1',fun z=>h.ap i j _ _ _ _ b hj hi e hs g1 (oN b z) e1⟩,h3'⟩
   ·cases s with
    |d x=>exact Has.keep kk h.fr.wl hw g2
    |_=>exact (ow trivial).elim
 ·have hj:i≠j:=by
   rintro rfl
   rw [List.getElem?_set_self hl] at e1;cases e1;exact os
  have hk:i≠l:=by
   rintro rfl
   rw [List.getElem?_set_self hl] at e2;cases e2;exact ot
  rw [List.getElem?_set_ne hj] at e1
  rw [List.getElem?_set_ne hk] at e2
  exact h.ap j l s1 s2 u u' b hjl e1 e2 e3 e4 os ot
theorem StHas.freezeG {i:Nat} {so:S} {x:D} {a:Addr} (h:StHas K W₀ H₀ W H σ δ) (oo:Ow so) (hi:δ[i]? =some (some so)) (hs:σ[i]? =some (some (.ref a)))
  (hd:Has K (fun b=>W b∧b≠a) H x (.ref a)):StHas K W₀ H₀ (fun b=>W b∧b≠a) H σ (δ.set i (some (.d x))):=
 h.freezeS (N:=fun b=>b=a) hi hs (fun b z=>by rw [z];exact oo.owns) hd
theorem StHas.freezeH {i:Nat} {so:S} {x:D} {a:Addr} {ob:HO} (h:StHas K W₀ H₀ W H σ δ) (oo:Ow so) (hi:δ[i]? =some (some so)) (hs:σ[i]? =some (some (.ref a)))
  (hd:Has K (fun b=>W b∧b≠a) (upd H a ob) x (.ref a)):StHas K W₀ H₀ (fun b=>W b∧b≠a) (upd H a ob) σ (δ.set i (some (.d x))):=by
 obtain ⟨v,h1,h2⟩:=h.at' i _ hi
 obtain ⟨b,o1,e',hW,h0,h3,_⟩:=h2.own oo
 rw [hs] at h1
 cases h1
 cases e'
 have kk:Keep W H (upd H a ob):=fun b o e n=>by rw [upd_ne (fun z=>n (by rw [z];exact hW))];exact e
 have hw:∀ b,(W b∧b≠a)→W b∨H b=none:=fun b z=> .inl z.1
 have hl:i<δ.length:=(List.getElem?_eq_some_iff.mp hi).1
 refine ⟨⟨fun b o e=>by rw [upd_ne (ne_of_none e h0)];exact h.fr.ext _ _ e,fun b z=>⟨h.fr.sub b z,fun e=> ?_⟩,fun b z=>by rw [upd_ne z.2];exact h.fr.wl b z.1,h.fr.wl0⟩,by simp [h.len],fun j s e=> ?_,fun j l s1 s2 u u' b hjl e1 e2 e3 e4 os ot=> ?_⟩
 ·subst e
  obtain ⟨ys,z',_⟩:=h.fr.wl0 _ z
  rw [h0] at z';cases z'
 ·by_cases hj:i=j
  ·subst hj
   rw [List.getElem?_set_self hl] at e
   cases e
   exact ⟨.ref a,hs,hd⟩
  ·rw [List.getElem?_set_ne hj] at e
   obtain ⟨v,g1,g2⟩:=h.at' j s e
   refine ⟨v,g1,?_⟩
   by_cases ow:Ow s
   ·exact g2.mv h.fr.wl kk hw fun b o e1 h1' _ h3' _=>(fun hba=>⟨⟨h1',hba⟩,by rw [upd_ne hba];exact h3'⟩) (fun z=>by subst z;exact h.ap i j _ _ _ _ b hj hi e hs g1 oo.owns e1)
   ·cases s with
    |d x=>exact Has.keep kk h.fr.wl hw g2
    |_=>exact (ow trivial).elim
 ·have hj:i≠j:=by
   rintro rfl
   rw [List.getElem?_set_self hl] at e1;cases e1;exact os
  have hk:i≠l:=by
   rintro rfl
   rw [List.getElem?_set_self hl] at e2;cases e2;exact ot
  rw [List.getElem?_set_ne hj] at e1
  rw [List.getElem?_set_ne hk] at e2
  have back:∀ (m:Nat) (t:S) (x:V),i≠m→δ[m]? =some (some t)→σ[m]? =some (some x)→Owns (upd H a ob) t x b→Owns H t x b:=fun m t x hm e e' o=>by
   obtain ⟨v,h1,h2⟩:=h.at' m t e
   rw [e'] at h1;cases h1
   refine Owns.back h2 (fun c xs ec z=> ?_) o
   subst ec
   have hc:Ow t→c≠a:=fun ow z=>by
    subst z
    exact h.ap i m _ _ _ _ c hm hi e hs e' oo.owns ow.owns
   cases t with
   |d y=>exact o.elim
   |_=>rw [upd_ne (hc trivial)];exact z
  exact h.ap j l s1 s2 u u' b hjl e1 e2 e3 e4 (back j s1 u hj e1 e3 os) (back l s2 u' hk e2 e4 ot)
end
abbrev XW:=Str→List D→Hp→Prop
section
variable (K:PySem.W.Frag) (xw:XW)
def RE (W:WS) (H:Hp) (r:Res D) (Q:VK):Prop:=match r with
 | .ok d=>∀ v H',Same H H'→Has K W H' d v→Q v H'
 | .ex c fs=>∀ H',Same H H'→xw c fs H'
 | .stuck=>False
def HasT (W:WS) (H:Hp) (d:D) (v:V):Prop:=Has K W H d v∨∃ ds a xs,d= .lst ds∧v= .ref a∧H a=some (.lst xs)∧HasL K W H ds xs
def RP (W:WS) (H:Hp) (r:Res D) (Q:VK):Prop:=match r with
 | .ok d=>∀ v H',Same H H'→HasT K W H' d v→Q v H'
 | .ex c fs=>∀ H',Same H H'→xw c fs H'
 | .stuck=>False
def RF (W:WS) (H:Hp) (r:Res (List D)) (Q:VK):Prop:=match r with
 | .ok ds=>∀ a xs H1,Same H H1→H1 a=none→HasL K W H1 ds xs→Q (.ref a) (upd H1 a (.lst xs))
 | .ex c fs=>∀ H',Same H H'→xw c fs H'
 | .stuck=>False
def RT (H:Hp) (r:Res Bool) (Q:Bool→Hp→Prop):Prop:=match r with
 | .ok b=>∀ H',Same H H'→Q b H'
 | .ex c fs=>∀ H',Same H H'→xw c fs H'
 | .stuck=>False
def RA (W:WS) (H:Hp) (r:Res (List D)) (Q:List V→Hp→Prop):Prop:=match r with
 | .ok ds=>∀ vs H',Same H H'→HasL K W H' ds vs→Q vs H'
 | .ex c fs=>∀ H',Same H H'→xw c fs H'
 | .stuck=>False
def tDE (f:DSt→Res D):TE:=fun σ H Q=>∃ W₀ H₀ W δ,StHas K W₀ H₀ W H σ δ∧RE K xw W H (f δ) Q
def tDP (f:DSt→Res D):TE:=fun σ H Q=>∃ W₀ H₀ W δ,StHas K W₀ H₀ W H σ δ∧RP K xw W H (f δ) Q
def tDF (f:DSt→Res (List D)):TE:=fun σ H Q=>∃ W₀ H₀ W δ,StHas K W₀ H₀ W H σ δ∧RF K xw W H (f δ) Q
def tDT (f:DSt→Res Bool):TT:=fun σ H Q=>∃ W₀ H₀ W δ,StHas K W₀ H₀ W H σ δ∧RT xw H (f δ) Q
def tDA (f:DSt→Res (List D)):TA:=fun σ H Q=>∃ W₀ H₀ W δ,StHas K W₀ H₀ W H σ δ∧RA K xw W H (f δ) Q
end
def DE (X:Cx) (xw:XW) (e:Expr) (f:DSt→Res D):Prop:=PE X e (tDE X.K xw f)
def DP (X:Cx) (xw:XW) (e:Expr) (f:DSt→Res D):Prop:=PE X e (tDP X.K xw f)
def DF (X:Cx) (xw:XW) (e:Expr) (f:DSt→Res (List D)):Prop:=PE X e (tDF X.K xw f)
def DT (X:Cx) (xw:XW) (e:Expr) (f:DSt→Res Bool):Prop:=PT X e (tDT X.K xw f)
def DW (X:Cx) (xw:XW) (e:Expr) (f:DSt→Res Bool):Prop:=PW X e (tDT X.K xw f)
def DA (X:Cx) (xw:XW) (es:List Expr) (f:DSt→Res (List D)):Prop:=PA X es (tDA X.K xw f)
theorem PE.weak {X:Cx} {e:Expr} {t t':TE} (h:PE X e t) (k:∀ σ H Q,t' σ H Q→t σ H Q):PE X e t':=fun pins s σ H Q I q=>h pins s σ H Q I (k σ H Q q)
theorem PT.weak {X:Cx} {e:Expr} {t t':TT} (h:PT X e t) (k:∀ σ H Q,t' σ H Q→t σ H Q):PT X e t':=fun pins s σ H Q I q=>h pins s σ H Q I (k σ H Q q)
theorem PW.weak {X:Cx} {e:Expr} {t t':TT} (h:PW X e t) (k:∀ σ H Q,t' σ H Q→t σ H Q):PW X e t':=fun wh pins s σ H Q I q=>h wh pins s σ H Q I (k σ H Q q)
theorem PA.weak {X:Cx} {e:List Expr} {t t':TA} (h:PA X e t) (k:∀ σ H Q,t' σ H Q→t σ H Q):PA X e t':=fun ps pins s σ H Q I q=>h ps pins s σ H Q I (k σ H Q q)
section
variable {K:PySem.W.Frag} {xw:XW} {W:WS} {H H':Hp} {Q:VK}
theorem RE.same {r:Res D} (h:RE K xw W H r Q) (k:Same H H'):RE K xw W H' r Q:=by
 cases r with
 |ok d=>exact fun v H2 k2 q=>h v H2 (k.trans k2) q
 |ex c fs=>exact fun H2 k2=>h H2 (k.trans k2)
 |stuck=>exact h
theorem RF.same {r:Res (List D)} (h:RF K xw W H r Q) (k:Same H H'):RF K xw W H' r Q:=by
 cases r with
 |ok d=>exact fun a xs H1 k1 n q=>h a xs H1 (k.trans k1) n q
 |ex c fs=>exact fun H2 k2=>h H2 (k.trans k2)
 |stuck=>exact h
theorem RT.same {r:Res Bool} {Q:Bool→Hp→Prop} (h:RT xw H r Q) (k:Same H H'):RT xw H' r Q:=by
 cases r with
 |ok d=>exact fun H2 k2=>h H2 (k.trans k2)
 |ex c fs=>exact fun H2 k2=>h H2 (k.trans k2)
 |stuck=>exact h
theorem RA.same {r:Res (List D)} {Q:List V→Hp→Prop} (h:RA K xw W H r Q) (k:Same H H'):RA K xw W H' r Q:=by
 cases r with
 |ok d=>exact fun v H2 k2 q=>h v H2 (k.trans k2) q
 |ex c fs=>exact fun H2 k2=>h H2 (k.trans k2)
 |stuck=>exact h
theorem HasT.same {d:D} {v:V} (h:HasT K W H d v) (k:Same H H') (w:WL W H):HasT K W H' d v:=by
 rcases h with h|⟨ds,a,xs,h1,h2,h3,h4⟩
 ·exact .inl (h.same k w)
 ·exact .inr ⟨ds,a,xs,h1,h2,k _ _ h3,h4.same k w⟩
theorem HasT.int {i:Int} {v:V} (h:HasT K W H (.int i) v):v= .int i:=by
 rcases h with h|⟨ds,a,xs,h1,_⟩
 ·rw [Has] at h;exact h
 ·cases h1
theorem HasT.bl {i:Bool} {v:V} (h:HasT K W H (.bl i) v):v= .bl i:=by
 rcases h with h|⟨ds,a,xs,h1,_⟩
 ·rw [Has] at h;exact h
 ·cases h1
theorem HasT.str {i:Str} {v:V} (h:HasT K W H (.str i) v):v= .str i:=by
 rcases h with h|⟨ds,a,xs,h1,_⟩
 ·rw [Has] at h;exact h
 ·cases h1
theorem HasT.non {v:V} (h:HasT K W H .non v):v= .non:=by
 rcases h with h|⟨ds,a,xs,h1,_⟩
 ·rw [Has] at h;exact h
 ·cases h1
theorem HasT.tup {ds:List D} {v:V} (h:HasT K W H (.tup ds) v):∃ a xs,v= .ref a∧SqT K H a xs∧HasL K W H ds xs:=by
 rcases h with h|⟨ds,a,xs,h1,_⟩
 ·rw [Has] at h;exact h
 ·cases h1
theorem HasT.lst {ds:List D} {v:V} (h:HasT K W H (.lst ds) v):∃ a xs,v= .ref a∧SqL K H a xs∧HasL K W H ds xs:=by
 rcases h with h|⟨ds,a,xs,h1,h2,h3,h4⟩
 ·rw [Has] at h
  obtain ⟨a,xs,e,q,r⟩:=h
  exact ⟨a,xs,e,q.sq,r⟩
 ·cases h1
  exact ⟨a,xs,h2, .of h3,h4⟩
end
end L3
namespace L3
open PySem PySem.Spec PyProof.Rows L2
def clOf (scope:Scope) (env:Env):List (Str×Addr):=scope.names.foldl (fun cs y=>if y.2== .free then (match env.cells.lookup y.1 with|some a=>(y.1,a)::cs|none=>cs) else cs) []
theorem clOf_go {env:Env} (names:List (Str×NameKind)):∀ (cs:List (Str×Addr)),(∀ y∈names,y.2= .free→∃ c,env.cells.lookup y.1=some c)→
  (forIn names cs (fun (y:Str×NameKind) (r:List (Str×Addr))=>(do
   if (y.2==NameKind.free)=true then do
    let a ←cellOf env y.1
    pure (ForInStep.yield ((y.1,a)::r))
   else pure (ForInStep.yield r):Sem (ForInStep (List (Str×Addr))))))=(pure (names.foldl (fun cs y=>if y.2== .free then (match env.cells.lookup y.1 with|some a=>(y.1,a)::cs|none=>cs) else cs) cs):Sem _):=by
 induction names with
 |nil=>intro cs _;rfl
 |cons y r ih=>
  intro cs h
  have h':∀ y∈r,y.2= .free→∃ c,env.cells.lookup y.1=some c:=fun z hz=>h z (List.mem_cons_of_mem _ hz)
  rw [List.forIn_cons,List.foldl_cons]
  by_cases hk:y.2= .free
  ·obtain ⟨c,hc⟩:=h y List.mem_cons_self hk
   have hb:(y.2==NameKind.free)=true:=by rw [hk];rfl
   simp only [hb,if_true,cellOf,hc,pure_bind]
   exact ih _ h'
  ·have hb:(y.2==NameKind.free)=false:=by simpa using hk
   simp only [hb,Bool.false_eq_true,if_false,pure_bind]
   exact ih _ h'
theorem clOf_eq {scope:Scope} {env:Env} (h:∀ y∈scope.names,y.2= .free→∃ c,env.cells.lookup y.1=some c):closureFor scope env=pure (clOf scope env):=by
 unfold closureFor clOf
 exact (congrArg (fun z=>z >>= fun r=>pure r) (clOf_go scope.names [] h)).trans (by simp)
theorem clOf_sub {env:Env} (names:List (Str×NameKind)):∀ (cs:List (Str×Addr)),(∀ x c,cs.lookup x=some c→env.cells.lookup x=some c)→
  ∀ x c,(names.foldl (fun cs y=>if y.2== .free then (match env.cells.lookup y.1 with|some a=>(y.1,a)::cs|none=>cs) else cs) cs).lookup x=some c→env.cells.lookup x=some c:=by
 induction names with
 |nil=>intro cs h;exact h
 |cons y r ih=>
  intro cs h
  rw [List.foldl_cons]
  refine ih _ ?_
  split
  ·split
   ·rename_i a ha
    intro x c e
    rw [List.lookup_cons] at e
    by_cases hx:x=y.1
    ·have:(x==y.1)=true:=by rw [hx];simp
     rw [this] at e
     have e':a=c:=Option.some.inj e
     rw [hx,ha,e']
    ·have:(x==y.1)=false:=by simpa using hx
     rw [this] at e
     exact h x c e
   ·exact h
  ·exact h
theorem clOf_has {env:Env} (names:List (Str×NameKind)):∀ (cs:List (Str×Addr)) (x:Str),((∃ c,cs.lookup x=some c)∨((x,NameKind.free)∈names∧∃ c,env.cells.lookup x=some c))→
  ∃ c,(names.foldl (fun cs y=>if y.2== .free then (match env.cells.lookup y.1 with|some a=>(y.1,a)::cs|none=>cs) else cs) cs).lookup x=some c:=by
 induction names with
 |nil=>
  intro cs x h
  rcases h with h|⟨h,_⟩
  ·exact h
  ·simp at h
 |cons y r ih=>
  intro cs x h
  rw [List.foldl_cons]
  refine ih _ x ?_
  rcases h with ⟨c,h⟩|⟨h,c,hc⟩
  ·left
   split
   ·split
    ·rename_i a ha
     rw [List.lookup_cons]
     cases hx:x==y.1 with
     |true=>exact ⟨a,rfl⟩
     |false=>exact ⟨c,h⟩
    ·exact ⟨c,h⟩
   ·exact ⟨c,h⟩
  ·rcases List.mem_cons.mp h with h|h
   ·left
    subst h
    simp only [beq_self_eq_true,if_true,hc]
    exact ⟨c,by rw [List.lookup_cons];simp⟩
   ·exact .inr ⟨h,c,hc⟩
theorem lookup_mapKey {g:Str→NameKind→NameKind}:∀ (l:List (Str×NameKind)) (x:Str),(l.map fun y=>(y.1,g y.1 y.2)).lookup x=(l.lookup x).map (g x)
 | [],_=>rfl
 |y::r,x=>by
  rw [List.map_cons,List.lookup_cons,List.lookup_cons]
  cases hx:x==y.1 with
  |true=>
   have:x=y.1:=by simpa using hx
   rw [this];rfl
  |false=>exact lookup_mapKey r x
theorem relabel_lookup (scope:Scope) (env:Env) (x:Str):(relabel scope env).names.lookup x=(scope.names.lookup x).map fun k=>if (k== .free&&env.scope.kind== .function&&env.kindOf x==some .cell) then .cell else k:=by
 have e:(relabel scope env).names=scope.names.map fun y=>(y.1,(fun n k=>if (k==NameKind.free&&env.scope.kind== .function&&env.kindOf n==some .cell) then NameKind.cell else k) y.1 y.2):=by
  unfold relabel
  refine List.map_congr_left fun y _=> ?_
  obtain ⟨n,k⟩:=y
  dsimp only
  split<;>rfl
 rw [e]
 exact lookup_mapKey (g:=fun n k=>if (k==NameKind.free&&env.scope.kind== .function&&env.kindOf n==some .cell) then NameKind.cell else k) scope.names x
theorem clOf_mem {env:Env} (names:List (Str×NameKind)):∀ (cs:List (Str×Addr)) (x:Str) (c:Addr),(names.foldl (fun cs y=>if y.2== .free then (match env.cells.lookup y.1 with|some a=>(y.1,a)::cs|none=>cs) else cs) cs).lookup x=some c→cs.lookup x=some c∨(x,NameKind.free)∈names:=by
 induction names with
 |nil=>intro cs x c h;exact .inl h
 |cons y r ih=>
  intro cs x c h
  rw [List.foldl_cons] at h
  rcases ih _ x c h with h|h
  ·by_cases hf:y.2= .free
   ·by_cases hx:x=y.1
    ·right;subst hx;rw [←hf];exact List.mem_cons_self
    ·left
     have hb:(y.2==NameKind.free)=true:=by rw [hf];rfl
     have hxb:(x==y.1)=false:=by simpa using hx
     simp only [hb,if_true] at h
     split at h
     ·rw [List.lookup_cons,hxb] at h;exact h
     ·exact h
   ·left
    have hb:(y.2==NameKind.free)=false:=by simpa using hf
    simp only [hb,Bool.false_eq_true,if_false] at h
    exact h
  ·exact .inr (List.mem_cons_of_mem _ h)
theorem cf_or:∀ (names:List (Str×NameKind)) (n:Nat) (acc:List (Str×Addr)) (x:Str) (c:Addr),(cellsFrom n names acc).lookup x=some c→acc.lookup x=some c∨(n≤c∧(x,NameKind.cell)∈names)
 | [],_,_,_,_,h=> .inl h
 |(y,k)::r,n,acc,x,c,h=>by
  unfold cellsFrom at h
  by_cases hk:(k== .cell)=true
  ·rw [if_pos hk] at h
   have hk':k= .cell:=by simpa using hk
   rcases cf_or r (n+1) _ x c h with h|⟨h1,h2⟩
   ·rw [List.lookup_cons] at h
    cases hx:x==y with
    |true=>
     rw [hx] at h
     have e:n=c:=Option.some.inj h
     have ex:x=y:=by simpa using hx
     subst ex;subst hk'
     exact .inr ⟨by omega,List.mem_cons_self⟩
    |false=>rw [hx] at h;exact .inl h
   ·exact .inr ⟨by omega,List.mem_cons_of_mem _ h2⟩
  ·rw [if_neg hk] at h
   rcases cf_or r n acc x c h with h|⟨h1,h2⟩
   ·exact .inl h
   ·exact .inr ⟨h1,List.mem_cons_of_mem _ h2⟩
theorem cf_old:∀ (names:List (Str×NameKind)) (n:Nat) (acc:List (Str×Addr)) (x:Str),(x,NameKind.cell)∉names→(cellsFrom n names acc).lookup x=acc.lookup x
 | [],_,_,_,_=>rfl
 |(y,k)::r,n,acc,x,h=>by
  have hr:(x,NameKind.cell)∉r:=fun z=>h (List.mem_cons_of_mem _ z)
  unfold cellsFrom
  by_cases hk:(k== .cell)=true
  ·rw [if_pos hk,cf_old r (n+1) _ x hr,List.lookup_cons]
   have hk':k= .cell:=by simpa using hk
   have hx:(x==y)=false:=by
    cases hx:x==y with
    |false=>rfl
    |true=>
     have ex:x=y:=by simpa using hx
     subst ex;subst hk'
     exact absurd List.mem_cons_self h
   rw [hx]
  ·rw [if_neg hk];exact cf_old r n acc x hr
theorem cf_inj:∀ (names:List (Str×NameKind)) (n:Nat) (acc:List (Str×Addr)),(∀ x y c,acc.lookup x=some c→acc.lookup y=some c→x=y)→(∀ x c,acc.lookup x=some c→c<n)→
  ∀ x y c,(cellsFrom n names acc).lookup x=some c→(cellsFrom n names acc).lookup y=some c→x=y
 | [],_,_,h,_=>h
 |(z,k)::r,n,acc,h,hb=>by
  unfold cellsFrom
  by_cases hk:(k== .cell)=true
  ·rw [if_pos hk]
   refine cf_inj r (n+1) _ (fun x y c e1 e2=> ?_) fun x c e=> ?_
   ·rw [List.lookup_cons] at e1 e2
    cases hx:x==z with
    |true=>
     rw [hx] at e1
     have ec:n=c:=Option.some.inj e1
     have ex:x=z:=by simpa using hx
     cases hy:y==z with
     |true=>
      have ey:y=z:=by simpa using hy
      rw [ex,ey]
     |false=>
      rw [hy] at e2
      have:=hb y c e2
      rw [←ec] at this
      exact absurd this (Nat.lt_irrefl _)
    |false=>
     rw [hx] at e1
     cases hy:y==z with
     |true=>
      rw [hy] at e2
      have ec:n=c:=Option.some.inj e2
      have:=hb x c e1
      rw [←ec] at this
      exact absurd this (Nat.lt_irrefl _)
     |false=>rw [hy] at e2;exact h x y c e1 e2
   ·rw [List.lookup_cons] at e
    cases hx:x==z with
    |true=>
     rw [hx] at e
     have ec:n=c:=Option.some.inj e
     rw [←ec]
     exact Nat.lt_succ_self _
    |false=>rw [hx] at e;exact Nat.lt_succ_of_lt (hb x c e)
  ·rw [if_neg hk];exact cf_inj r n acc h hb
theorem cf_cell:∀ (names:List (Str×NameKind)) (h:Heap) (acc:List (Str×Addr)),(∀ x c,acc.lookup x=some c→∃ v,h.IsCell c v)→∀ x c,(cellsFrom h.objs.size names acc).lookup x=some c→∃ v,(pushCells h names).IsCell c v
 | [],_,_,hc=>hc
 |(z,k)::r,h,acc,hc=>by
  unfold cellsFrom pushCells
  by_cases hk:(k== .cell)=true
  ·rw [if_pos hk,if_pos hk]
   have:=cf_cell r (h.push {cls:= .type "cell",data:= .cell none}) ((z,h.objs.size)::acc) fun x c e=>by
    rw [List.lookup_cons] at e
    cases hx:x==z with
    |true=>
     rw [hx] at e
     have ec:h.objs.size=c:=Option.some.inj e
     subst ec
     exact ⟨none,_,Heap.get?_push_size _ rfl,rfl⟩
    |false=>
     rw [hx] at e
     obtain ⟨v,q⟩:=hc x c e
     exact ⟨v,q.keeps fun b o e=>Heap.get?_push_of_some _ e⟩
   rw [Heap.size_push] at this
   exact this
  ·rw [if_neg hk,if_neg hk];exact cf_cell r h acc hc
def ccOf (scope:Scope) (env:Env) (C:Addr):List (Str×Addr):=cellsFrom (C+1) scope.names (clOf scope env)
theorem wpAny_newCompEnv {M:Model} {A:Around} {E:Value→Shared→Prop} {s:Shared} {scope:Scope} {globals:Addr} {cl:List (Str×Addr)} {qual:Str} {env:Env} {Q:Env→Shared→Prop}
  (hQ:Q {scope:=scope,locals:=s.heap.objs.size,globals:=globals,cells:=cellsFrom (s.heap.objs.size+1) scope.names cl,qual:=qual,func:=none,code:=env.code,frame:=env.frame,builtins:=env.builtins}
   {s with heap:=pushCells (s.heap.push {cls:= .type "dict",data:= .dict #[]}) scope.names}):
  wpAny M A (newFunctionEnv scope globals cl [] qual none .none (some env)) Q E s:=by
 simp only [newFunctionEnv,Option.isSome_some,if_true]
 refine wpAny_bind (wpAny_alloc ?_)
 refine wpAny_bind (wpAny_layCells _ (fun name kind cells=>by cases hkc:kind==NameKind.cell<;>simp [hkc]) _ _ _ _ ?_)
 rw [show ({s with heap:=s.heap.push {cls:= .type "dict",data:= .dict #[]}}:Shared).heap.objs.size=s.heap.objs.size+1 from Heap.size_push ..]
 refine wpAny_bind ?_
 rw [List.forIn_nil]
 exact wpAny_pure (wpAny_pure hQ)
theorem ns_newDict {h:Heap} {names:List (Str×NameKind)}:(pushCells (h.push {cls:= .type "dict",data:= .dict #[]}) names).Ns h.objs.size fun _=>none:=(Heap.Ns.new h (.type "dict")).keeps (pushCells_keeps _ _)
def compCx (X:Cx) (scope:Scope) (Nc Nx:List Str) (C:Addr) (fp:List Addr) (pins:List (Addr×Obj)) (s:Shared) (H:Hp):Cx:=
 {X with N:=Nc++Nx,s₀:=s,H₀:=H,env:=compEnvC scope (ccOf scope X.env C) C X.env,outer:=X.stack,stack:=X.stack,ex:=fp,fn:=fun x=>scope.names.lookup x==some .cell,pn:=X.pn++pins,xe:=fun _ _=>False}
structure CompOk (X:Cx) (scope:Scope) (Nc Nx:List Str):Prop where
 kind:scope.kind= .function
 one:∀ y∈scope.names,scope.names.lookup y.1=some y.2
 free:∀ y∈scope.names,y.2= .free→X.env.kindOf y.1=some .cell∨X.env.kindOf y.1=some .free
 same:Nx.length=X.N.length
 dis:∀ p∈Nx.zip X.N,(p.1=p.2∧scope.names.lookup p.2≠some .local∧scope.names.lookup p.2≠some .cell)∨scope.names.lookup p.1=none
section
variable {X:Cx} {scope:Scope} {Nc Nx:List Str}
theorem CompOk.loc (c:CompOk X scope Nc Nx):∀ y∈scope.names,y.2= .local→scope.names.lookup y.1=some .local:=fun y hy h=>by rw [c.one y hy,h]
theorem CompOk.old (c:CompOk X scope Nc Nx) {x:Str} {k:NameKind} (h:scope.names.lookup x=some k) (hk:k≠ .cell):(x,NameKind.cell)∉scope.names:=fun z=>by
 have:=c.one _ z
 rw [h] at this
 exact hk (Option.some.inj this)
theorem CompOk.cells (c:CompOk X scope Nc Nx) (ok:X.Ok):∀ y∈scope.names,y.2= .free→∃ a,X.env.cells.lookup y.1=some a:=fun y hy hf=>ok.has y.1 (c.free y hy hf)
theorem compCl_sub {x:Str} {a:Addr} (h:(clOf scope X.env).lookup x=some a):X.env.cells.lookup x=some a:=clOf_sub scope.names [] (fun _ _ e=>by simp at e) x a h
theorem ccOf_or (C:Addr) {x:Str} {a:Addr} (h:(ccOf scope X.env C).lookup x=some a):X.env.cells.lookup x=some a∨(C<a∧(x,NameKind.cell)∈scope.names):=by
 rcases cf_or _ _ _ x a h with h|⟨h1,h2⟩
 ·exact .inl (compCl_sub h)
 ·exact .inr ⟨h1,h2⟩
theorem ccOf_new (c:CompOk X scope Nc Nx) (C:Addr) {x:Str} {a:Addr} (hx:scope.names.lookup x=some .cell) (h:(ccOf scope X.env C).lookup x=some a):C<a:=by
 rcases cf_or _ _ _ x a h with h|⟨h1,_⟩
 ·rcases clOf_mem scope.names [] x a h with h|h
  ·simp at h
  ·have:=c.one _ h
   rw [hx] at this
   cases this
 ·exact h1
theorem ccOf_old (c:CompOk X scope Nc Nx) (C:Addr) {x:Str} {k:NameKind} (hx:scope.names.lookup x=some k) (hk:k≠ .cell):(ccOf scope X.env C).lookup x=(clOf scope X.env).lookup x:=cf_old _ _ _ x (c.old hx hk)
theorem inv_comp {pins:List (Addr×Obj)} {σ:L2.St} {H:Hp} {s:Shared} {fp:List Addr} {tk:Nat} (c:CompOk X scope Nc Nx) (I:Inv X pins σ H s) (hf:∀ b∈fp,FpOk X pins H b∧b<s.heap.objs.size):
  Inv (compCx X scope Nc Nx s.heap.objs.size fp pins s H) [] (List.replicate Nc.length none++σ) H {s with heap:=pushCells (s.heap.push {cls:= .type "dict",data:= .dict #[]}) scope.names,toks:=tk}:=by
 have hn:(pushCells (s.heap.push {cls:= .type "dict",data:= .dict #[]}) scope.names).Ns s.heap.objs.size fun _=>none:=ns_newDict
 have hk:∀ b o,s.heap.get? b=some o→(pushCells (s.heap.push {cls:= .type "dict",data:= .dict #[]}) scope.names).get? b=some o:=fun b o e=>pushCells_keeps _ _ _ _ (Heap.get?_push_of_some _ e)
 have cellLt:∀ x a,X.env.cells.lookup x=some a→a<s.heap.objs.size:=fun x a e=>by
  obtain ⟨v,q⟩:=I.cell x a e
  exact q.lt
 have hokind:(compEnvC scope (ccOf scope X.env s.heap.objs.size) s.heap.objs.size X.env).scope.kind= .function:=c.kind
 have kinds:∀ x,((relabel scope X.env).names.lookup x=some .cell∨(relabel scope X.env).names.lookup x=some .free)→scope.names.lookup x=some .cell∨scope.names.lookup x=some .free:=fun x hx'=>by
  rw [relabel_lookup] at hx'
  cases q:scope.names.lookup x with
  |none=>rw [q] at hx';simp at hx'
  |some k=>
   rw [q] at hx'
   by_cases hkf:k= .free
   ·rw [hkf];exact .inr rfl
   ·have hb:(k==NameKind.free)=false:=by simpa using hkf
    simp only [Option.map_some,hb,Bool.false_and,Bool.false_eq_true,if_false] at hx'
    exact hx'
 refine ⟨⟨I.ok.mod,hokind,I.ok.glob,I.ok.blt,Nat.le_refl _,?_,fun x hx=> ?_,fun x a hx e=> ?_,I.ok.hd,I.ok.frames, .inl rfl,fun b hb=>⟨?_,fun x a e=> ?_⟩,I.bs,Nat.le_trans I.ok.bsz I.sz,fun b o e hb=> ?_,fun b hb=> ?_,I.stack,I.stkFree⟩,
  rfl,I.bare,Un.kept hk,⟨_,hn,fun i x v h1 h2 h3=> ?_⟩,?_,I.hok.fresh (Nat.le_refl _),fun x a e=> ?_,fun p hp=> ?_,I.hok.kept hk,?_⟩
 ·exact cf_inj scope.names _ _ (fun x y a h1 h2=>I.ok.inj x y a (compCl_sub h1) (compCl_sub h2)) fun x a h=>Nat.lt_succ_of_lt (cellLt x a (compCl_sub h))
 ·rcases kinds x hx with hc|hfree
  ·exact Option.isSome_iff_exists.mp (PySem.W.cellsFrom_some scope.names _ _ (.inl hc))
  ·have hm:=PySem.mem_of_lookup hfree
   obtain ⟨a,e⟩:=clOf_has (env:=X.env) scope.names [] x (.inr ⟨hm,c.cells I.ok _ hm rfl⟩)
   exact ⟨a,(ccOf_old c _ hfree (by decide)).trans e⟩
 ·have hx':(scope.names.lookup x==some NameKind.cell)=true:=hx
  exact Nat.le_of_lt (ccOf_new c _ (by simpa using hx') e)
 ·exact Nat.ne_of_lt (hf b hb).2
 ·rcases ccOf_or _ e with e|⟨e,_⟩
  ·exact (hf b hb).1.2.2.2.2.1 x a e
  ·have:=(hf b hb).2
   exact Nat.ne_of_gt (Nat.lt_trans this e)
 ·obtain ⟨_,hb2⟩:=I.bs b o e
  rcases (hf b hb).1.2.2.2.1 with z|z
  ·exact I.ok.noex b o e z
  ·exact absurd (Nat.lt_of_lt_of_le (Heap.lt_size e) (Nat.le_trans I.ok.bsz z)) (Nat.lt_irrefl _)
 ·intro z
  rcases List.mem_cons.mp (I.stkSub b z) with q|q
  ·exact (hf b hb).1.2.1 q
  ·exact (hf b hb).1.2.2.1 q
 ·have hi:Nc.length≤i:=by
   refine Nat.le_of_not_lt fun q=> ?_
   rw [List.getElem?_append_left (by simpa using q),List.getElem?_replicate] at h2
   split at h2<;>cases h2
  have h1':Nx[i-Nc.length]? =some x:=by
   have z:(Nc++Nx)[i]? =some x:=h1
   rw [List.getElem?_append_right hi] at z;exact z
  have h2':σ[i-Nc.length]? =some (some v):=by
   rw [List.getElem?_append_right (by simpa using hi),List.length_replicate] at h2;exact h2
  have h3':(relabel scope X.env).names.lookup x=some .local∨(relabel scope X.env).names.lookup x=some .cell∨(relabel scope X.env).names.lookup x=some .free:=h3
  have hz:i-Nc.length<X.N.length:=by
   rw [←c.same]
   refine Nat.lt_of_not_le fun q=> ?_
   rw [List.getElem?_eq_none q] at h1';cases h1'
  have hd2:=c.dis (x,X.N[i-Nc.length]'hz) (List.mem_of_getElem? (i:=i-Nc.length) (by
   rw [List.getElem?_zip_eq_some]
   exact ⟨h1',List.getElem?_eq_getElem hz⟩))
  have hd3:X.N[i-Nc.length]? =some x∧scope.names.lookup x≠some .local∧scope.names.lookup x≠some .cell:=by
   rcases hd2 with ⟨q1,q2⟩|q
   ·have q1':x=X.N[i-Nc.length]'hz:=q1
    have q2':scope.names.lookup (X.N[i-Nc.length]'hz)≠some .local∧scope.names.lookup (X.N[i-Nc.length]'hz)≠some .cell:=q2
    rw [←q1'] at q2'
    exact ⟨by rw [List.getElem?_eq_getElem hz,←q1'],q2'⟩
   ·exfalso
    have q':scope.names.lookup x=none:=q
    rw [relabel_lookup,q'] at h3'
    simp at h3'
  obtain ⟨h1',hnl,hnc⟩:=hd3
  have hfree:scope.names.lookup x=some .free:=by
   rcases h3' with z|z
   ·rw [relabel_lookup] at z
    cases q:scope.names.lookup x with
    |none=>rw [q] at z;simp at z
    |some k=>
     rw [q] at z
     by_cases hkf:k= .free
     ·rw [hkf]
     ·have hb:(k==NameKind.free)=false:=by simpa using hkf
      simp only [Option.map_some,hb,Bool.false_and,Bool.false_eq_true,if_false] at z
      rw [q] at hnl;exact absurd z hnl
   ·rcases kinds x z with z|z
    ·exact absurd z hnc
    ·exact z
  have hm:=PySem.mem_of_lookup hfree
  have hkx:=c.free _ hm rfl
  obtain ⟨mX,hnX,hl⟩:=I.loc
  obtain ⟨u,r,l⟩:=hl _ x v h1' h2' (hkx.elim (fun z=> .inr (.inl z)) fun z=> .inr (.inr z))
  refine ⟨u,r,?_⟩
  rcases l with ⟨z,_⟩|⟨_,a,e,z⟩
  ·have z':X.env.kindOf x=some .local:=z
   rcases hkx with q|q<;> · rw [z'] at q;cases q
  ·obtain ⟨a',e'⟩:=clOf_has (env:=X.env) scope.names [] x (.inr ⟨hm,c.cells I.ok _ hm rfl⟩)
   have ea:a'=a:=by
    have:=compCl_sub (X:=X) e'
    rw [e] at this
    exact (Option.some.inj this).symm
   subst ea
   refine .inr ⟨?_,a',(ccOf_old c _ hfree (by decide)).trans e',?_⟩
   ·show (relabel scope X.env).names.lookup x=some .cell∨(relabel scope X.env).names.lookup x=some .free
    rw [relabel_lookup,hfree]
    simp only [Option.map_some]
    split
    ·exact .inl rfl
    ·exact .inr rfl
   ·obtain ⟨o,ho,hd⟩:=z
    exact ⟨o,hk _ _ ho,hd⟩
 ·have q:=cf_cell scope.names (s.heap.push {cls:= .type "dict",data:= .dict #[]}) (clOf scope X.env) fun x a e=>by
   obtain ⟨v,z⟩:=I.cell x a (compCl_sub e)
   exact ⟨v,z.keeps fun b o e=>Heap.get?_push_of_some _ e⟩
  rw [Heap.size_push] at q
  exact q
 ·rcases ccOf_or _ e with e|⟨e,_⟩
  ·exact I.freeC x a e
  ·exact I.hok.fresh (Nat.le_of_lt e)
 ·have hp':p∈X.pn++pins:=by
   have z:p∈(X.pn++pins)++ []:=hp
   rwa [List.append_nil] at z
  obtain ⟨e,n,ne,nf,d⟩:=I.pin p hp'
  refine ⟨hk _ _ e,n,Nat.ne_of_lt (Heap.lt_size e),fun z=> ?_,d⟩
  rcases List.mem_cons.mp (I.stkSub p.1 z) with q|q
  ·exact ne q
  ·exact nf q
 ·show _=(Nc++Nx).length
  rw [List.length_append,List.length_append,List.length_replicate,I.len,c.same]
theorem inv_back {pins:List (Addr×Obj)} {σ σ':L2.St} {H H':Hp} {s s':Shared} {fp:List Addr} {h'':Heap} (I:Inv X pins σ H s) (hf:∀ b∈fp,FpOk X pins H b)
  (J:Inv (compCx X scope Nc Nx s.heap.objs.size fp pins s H) [] σ' H' s') (hs:Heap.SameBut s.heap.objs.size s'.heap h''):Inv X pins σ H' {s' with heap:=h''}:=by
 have u:Un (frs X.stack) fp H H' s.heap s'.heap:=J.base
 have hC:H' s.heap.objs.size=none:=J.free
 have keep:∀ b o,b≠s.heap.objs.size→s'.heap.get? b=some o→h''.get? b=some o:=fun b o hb e=>by rw [hs.2 b hb];exact e
 have lt:∀ b o,s.heap.get? b=some o→b≠s.heap.objs.size:=fun b o e=>Nat.ne_of_lt (Heap.lt_size e)
 refine I.call' (s':= {s' with heap:=h''}) (ch:=fp) J.os ⟨fun b o e n h1 h2=>keep b o (lt b o e) (u.keep b o e n h1 h2),fun b o e n h1 h2=> ?_,u.free,fun b o e h1=> ?_,u.tups,u.frzs,u.tbls⟩ (fun b o e=> ?_) J.bare fun b hb=> ?_
 ·obtain ⟨sl,q⟩:=u.slot b o e n h1 h2
  exact ⟨sl,keep b _ (lt b o e) q⟩
 ·obtain ⟨o',q⟩:=u.there b o e h1
  exact ⟨o',keep b _ (lt b o e) q⟩
 ·refine (J.hok b o e).stay (fun c v hc q=>keep c v (fun z=> ?_) q) (fun _ q=>q) fun _ _ q=>q
  subst z
  rcases hc with z|z
  ·rw [←z,hC] at e;cases e
  ·rw [hC] at z;cases z
 ·exact ⟨(hf b hb).2.2.2.1,(hf b hb).2.1,(hf b hb).2.2.2.2.1,(hf b hb).2.2.2.2.2⟩
end
end L3
namespace L3
open PySem PySem.Spec PyProof.Rows L2
theorem compLoop_go {prog:Program} {w:World} {A:Around} {R:Result→Shared→Prop} {s:Shared} {elt target iter:Expr} {ifs:List Expr} {scope:Scope} {pos:Pos} {it acc:Value} {env:Env} (I:Nat→Shared→Prop)
  (turn:∀ n s,I n s→wpAny (model prog w) A (pyNext it) (fun r s₁=>match r with
   |none=>R (.ok .next) s₁
   |some v=>wpAny (model prog w) A (letOwnedTupleGo target it v) (fun _ s₁'=>wpAny (model prog w) A (assign target env v) (fun _ s₂=>
     wpAny (model prog w) A (forIn ifs true fun c r=>if r=true then do let ok ←isTrue c env (eval c env);pure (ForInStep.yield ok) else pure (ForInStep.yield r)) (fun ok s₃=>
      if ok=true then wpAny (model prog w) A (eval elt env) (fun x s₄=>
       wpAny (model prog w) A (call (.builtin "list.append") [acc,x]) (fun _ s₅=>∃ m,m<n∧I m s₅) (fun _ _=>False) s₄) (fun _ _=>False) s₃
      else ∃ m,m<n∧I m s₃) (fun _ _=>False) s₂) (fun _ _=>False) s₁') (fun _ _=>False) s₁) (fun _ _=>False) s)
  (n:Nat) (h:I n s):
  codeAny (model prog w) A (.compLoop (.ListComp elt [⟨target,iter,ifs,0⟩] scope pos) 0 it acc env) R s:=by
 refine codeAny_loop rfl I (fun n s hI=> ?_) n h
 show wpAny _ A ((compTurn (.ListComp elt [⟨target,iter,ifs,0⟩] scope pos) 0 it acc env).onRaise (fun x=>do noteFrame x env;theTreesLotGoes x)) _ _ s
 refine wpAny_noted ?_
 rw [compTurn_list]
 refine wpAny_bind (wpAny_standAt (wpAny_bind (wpAny_mono (turn n s hI) (fun r s₁ h₁=> ?_) fun _ _ h'=>h'.elim)))
 cases r with
 |none=>exact wpAny_pure h₁
 |some v=>
  refine wpAny_bind (wpAny_mono h₁ (fun _ s₁' h₁'=>wpAny_bind (wpAny_mono h₁' (fun _ s₂ h₂=>wpAny_bind (wpAny_mono h₂ (fun ok s₃ h₃=> ?_) fun _ _ h'=>h'.elim)) fun _ _ h'=>h'.elim)) fun _ _ h'=>h'.elim)
  cases ok with
  |false=>exact wpAny_pure ⟨rfl,h₃⟩
  |true=>
   exact wpAny_bind (wpAny_bind (wpAny_mono h₃ (fun x s₄ h₄=>wpAny_bind (wpAny_mono h₄ (fun _ s₅ h₅=>wpAny_pure (wpAny_pure ⟨rfl,h₅⟩)) fun _ _ h'=>h'.elim)) fun _ _ h'=>h'.elim))
def PTs (X:Cx) (ifs:List Expr) (t:TT):Prop:=
 ∀ (pins:List (Addr×Obj)) (s:Shared) (σ:L2.St) (H:Hp) (Q:Bool→Hp→Prop),Inv X pins σ H s→t σ H Q→
  wpAny (model X.prog X.w) X.A (forIn ifs true fun c r=>if r=true then do let ok ←isTrue c X.env (eval c X.env);pure (ForInStep.yield ok) else pure (ForInStep.yield r)) (TP X pins σ Q) X.xe s
def tYes:TT:=fun _ H Q=>Q true H
theorem pts_nil {X:Cx}:PTs X [] tYes:=fun _ s σ H Q I h=>wpAny_tests_nil ⟨H,I,h⟩
theorem pts_one {X:Cx} {c:Expr} {t:TT} (h:PT X c t):PTs X [c] t:=fun pins s σ H Q I q=>wpAny_tests_one (h pins s σ H Q I q)
def tComp (n:Nat) (wi:TI) (g:TG) (tt:TT) (te:TE):TE:=fun σ H Q=>wi σ H fun J H1=>∀ a,H1 a=none→∃ W:Nat→Nat→List V→L2.St→Hp→Prop,(∃ m,W 0 m [] (List.replicate n none++σ) (upd H1 a (.lst [])))∧
 ∀ i m xs σ' H,W i m xs σ' H→H a=some (.lst xs)∧((J.stop i H∧Q (.ref a) H)∨(J.go i H∧∀ x H',J.yld i H x H'→g x σ' H' fun σ2 H2=>tt σ2 H2 fun b H3=>
  if b=true then te σ2 H3 fun y H4=>H4 a=some (.lst xs)∧xs.length<sizeLine∧∃ m',m'<m∧W (i+1) m' (xs++ [y]) σ2 (upd H4 a (.lst (xs++ [y]))) else ∃ m',m'<m∧W (i+1) m' xs σ2 H3))
section
variable {X:Cx} {scope:Scope} {Nc Nx:List Str} {elt tg iter:Expr} {ifs:List Expr} {pos:Pos} {wi:TI} {g:TG} {tt:TT} {te:TE}
theorem comp_block (c:CompOk X scope Nc Nx) (hcalm:X.calm=true)
  (hY:∀ (C:Addr) (fp:List Addr) (pins:List (Addr×Obj)) (s:Shared) (H:Hp),PG (compCx X scope Nc Nx C fp pins s H) tg g∧PTs (compCx X scope Nc Nx C fp pins s H) ifs tt∧PE (compCx X scope Nc Nx C fp pins s H) elt te)
  {pins:List (Addr×Obj)} {σ:L2.St} {s2:Shared} {it:Addr} {fp:List Addr} {tn:Nat→Heap→Prop} {J:It} {H1:Hp} {Q:V→Hp→Prop} {RR:Value→Addr→Result→Shared→Prop} {E:Value→Shared→Prop}
  (I:Inv X pins σ H1 s2) (T:Turn X.prog X.w X.K tg J fp it tn) (st:tn 0 s2.heap) (hf:∀ b∈fp,FpOk X pins H1 b)
  (h:∀ a,H1 a=none→∃ W:Nat→Nat→List V→L2.St→Hp→Prop,(∃ m,W 0 m [] (List.replicate Nc.length none++σ) (upd H1 a (.lst [])))∧
 ∀ i m xs σ' H,W i m xs σ' H→H a=some (.lst xs)∧((J.stop i H∧Q (.ref a) H)∨(J.go i H∧∀ x H',J.yld i H x H'→g x σ' H' fun σ2 H2=>tt σ2 H2 fun b H3=>
  if b=true then te σ2 H3 fun y H4=>H4 a=some (.lst xs)∧xs.length<sizeLine∧∃ m',m'<m∧W (i+1) m' (xs++ [y]) σ2 (upd H4 a (.lst (xs++ [y]))) else ∃ m',m'<m∧W (i+1) m' xs σ2 H3)))
  (hRR:∀ a H' σ' s' s3,Inv X pins σ (upd H1 a (.lst [])) s3→(∀ b∈fp,FpOk X pins (upd H1 a (.lst [])) b)→Inv (compCx X scope Nc Nx s3.heap.objs.size fp pins s3 (upd H1 a (.lst []))) [] σ' H' s'→Q (.ref a) H'→RR (.ref a) s3.heap.objs.size (.ok .next) s'):
  wpAny (model X.prog X.w) X.A (newList []) (fun acc s₃=>wpAny (model X.prog X.w) X.A (newFunctionEnv scope X.env.globals (clOf scope X.env) [] X.env.qual none .none (some X.env)) (fun cenv s₄=>
   codeAny (model X.prog X.w) X.A (.compStart (.ListComp elt [⟨tg,iter,ifs,0⟩] scope pos) 0 (.ref it) acc {cenv with scope:=relabel scope X.env}) (RR acc cenv.locals) s₄) E s₃) E s2:=by
 have hfree:H1 s2.heap.objs.size=none:=I.hok.fresh (Nat.le_refl _)
 refine wpAny_newObj_type (wpAny_newCompEnv ?_)
 dsimp only
 generalize ea:s2.heap.objs.size=a at hfree
 have I3:Inv X pins σ (upd H1 a (.lst [])) {s2 with heap:=s2.heap.push {cls:= .type "list",dict:=none,data:= .seq ([]:List Value).toArray},toks:=s2.toks}:=by
  subst ea
  exact I.laid (t':=s2.toks) (fun b u e=>Heap.get?_push_of_some _ e) (Nat.le_refl _) ⟨Nat.zero_le _,[],_, .nil,Heap.get?_push_size _ rfl⟩
 generalize eS:({s2 with heap:=s2.heap.push {cls:= .type "list",dict:=none,data:= .seq ([]:List Value).toArray},toks:=s2.toks}:Shared)=s3 at I3
 have e3h:s3.heap=s2.heap.push {cls:= .type "list",dict:=none,data:= .seq ([]:List Value).toArray}:=by rw [←eS]
 have obj0:=T.obj 0 _ st
 have hf3:∀ b∈fp,FpOk X pins (upd H1 a (.lst [])) b:=fun b hb=>by
  obtain ⟨o,e,_⟩:=obj0 b hb
  have:b≠a:=by rw [←ea];exact Nat.ne_of_lt (Heap.lt_size e)
  exact ⟨by rw [upd_ne this];exact (hf b hb).1,(hf b hb).2⟩
 have up:∀ b o,s2.heap.get? b=some o→s3.heap.get? b=some o:=fun b o e=>by rw [e3h];exact Heap.get?_push_of_some _ e
 have hf3':∀ b∈fp,FpOk X pins (upd H1 a (.lst [])) b∧b<s3.heap.objs.size:=fun b hb=>⟨hf3 b hb,by
  obtain ⟨o,e,_⟩:=obj0 b hb
  exact Heap.lt_size (up b o e)⟩
 have eC:(s2.heap.push {cls:= .type "list",dict:=none,data:= .seq ([]:List Value).toArray}).objs.size=s3.heap.objs.size:=by rw [e3h]
 generalize eh:pushCells ((s2.heap.push {cls:= .type "list",dict:=none,data:= .seq ([]:List Value).toArray}).push {cls:= .type "dict",data:= .dict #[]}) scope.names=h₁
 have hk4:∀ b o,s3.heap.get? b=some o→h₁.get? b=some o:=fun b o e=>by
  rw [←eh,←e3h]
  exact pushCells_keeps _ _ _ _ (Heap.get?_push_of_some _ e)
 have I4:=inv_comp (tk:=s2.toks) c I3 hf3'
 have e4:({s3 with heap:=pushCells (s3.heap.push {cls:= .type "dict",data:= .dict #[]}) scope.names,toks:=s2.toks}:Shared)= {s2 with heap:=h₁}:=by rw [←eh,←eS]
 rw [e4] at I4
 obtain ⟨W,⟨m0,w0⟩,turn⟩:=h a hfree
 obtain ⟨hg,htt,hte⟩:=hY s3.heap.objs.size fp pins s3 (upd H1 a (.lst []))
 have loop:codeAny (model X.prog X.w) X.A (.compLoop (.ListComp elt [⟨tg,iter,ifs,0⟩] scope pos) 0 (.ref it) (.ref a) (compEnvC scope (ccOf scope X.env s3.heap.objs.size) s3.heap.objs.size X.env)) (RR (.ref a) s3.heap.objs.size) {s2 with heap:=h₁}:=by
  refine compLoop_go (fun n s'=>∃ i xs σ' H',Inv (compCx X scope Nc Nx s3.heap.objs.size fp pins s3 (upd H1 a (.lst []))) [] σ' H' s'∧tn i s'.heap∧(∀ b∈fp,H' b=none)∧W i n xs σ' H') ?_ m0
   ⟨0,[],_,_,I4,T.keep _ _ _ st fun b _ o e=>hk4 b o (up b o e),fun b hb=>(hf3 b hb).1,w0⟩
  rintro n s5 ⟨i,xs,σ5,H5,I5,st5,fr5,w5⟩
  have stat:∀ {H':Hp},(∀ b∈fp,H' b=none)→∀ b∈fp,FpOk (compCx X scope Nc Nx s3.heap.objs.size fp pins s3 (upd H1 a (.lst []))) [] H' b:=fun {H'} hn b hb=>by
   obtain ⟨_,f1,f2,f3,f4,f5⟩:=hf3 b hb
   refine ⟨hn b hb,Nat.ne_of_lt (hf3' b hb).2,fun z=> ?_, .inl hb,fun x cc e=>(ccOf_or _ e).elim (fun e=>f4 x cc e) fun e=>Nat.ne_of_gt (Nat.lt_trans (hf3' b hb).2 e.1),fun p hp=>f5 p ?_⟩
   ·rcases List.mem_cons.mp (I3.stkSub b z) with q|q
    ·exact f1 q
    ·exact f2 q
   ·have z:p∈(X.pn++pins)++ []:=hp
    rwa [List.append_nil] at z
  obtain ⟨hxs,alt⟩:=turn i n xs σ5 H5 w5
  rcases alt with ⟨stop,qn⟩|⟨go,step⟩
  ·refine wpAny_mono (T.done (compCx X scope Nc Nx s3.heap.objs.size fp pins s3 (upd H1 a (.lst []))) rfl rfl rfl hcalm i [] s5 σ5 H5 (fun _ _=>False) I5 (stat fr5) st5 stop) (fun r s6 ⟨hr,I6⟩=> ?_) fun _ _ z=>z
   subst hr
   exact hRR a H5 σ5 s6 s3 I3 hf3 I6 qn
  ·refine wpAny_mono (T.item (compCx X scope Nc Nx s3.heap.objs.size fp pins s3 (upd H1 a (.lst []))) rfl rfl rfl hcalm i [] s5 σ5 H5 (fun _ _=>False) I5 (stat fr5) st5 go) (fun r s6 ⟨u,hr,h6⟩=> ?_) fun _ _ z=>z
   subst hr
   refine wpAny_mono h6 (fun _ s7 ⟨x,H7,I7,r7,y7,st7,fr7⟩=> ?_) fun _ _ z=>z
   have I7':=I7.pinned (stat fr7) (T.obj _ _ st7)
   have fin:∀ {σ9:L2.St} {H9:Hp} {s9:Shared},Inv (compCx X scope Nc Nx s3.heap.objs.size fp pins s3 (upd H1 a (.lst []))) ([]++pinsAt fp s7.heap) σ9 H9 s9→Inv (compCx X scope Nc Nx s3.heap.objs.size fp pins s3 (upd H1 a (.lst []))) [] σ9 H9 s9∧tn (i+1) s9.heap∧(∀ b∈fp,H9 b=none):=fun {σ9 H9 s9} I9=>by
    refine ⟨I9.unpinned,T.keep _ _ _ st7 fun b hb o e=>(I9.pin (b,o) (List.mem_append_right _ (List.mem_append_right _ (mem_pinsAt hb e)))).1,fun b hb=> ?_⟩
    obtain ⟨o,e,d⟩:=T.obj _ _ st7 b hb
    exact (I9.pin (b,o) (List.mem_append_right _ (List.mem_append_right _ (mem_pinsAt hb e)))).2.1
   refine wpAny_mono (hg _ s7 σ5 H7 x u _ I7' r7 (step x H7 y7)) (fun _ s8 ⟨σ8,H8,I8,q8⟩=> ?_) fun _ _ z=>z
   refine wpAny_mono (htt _ s8 σ8 H8 _ I8 q8) (fun b s9 ⟨H9,I9,q9⟩=> ?_) fun _ _ z=>z
   cases b with
   |false=>
    obtain ⟨m',hm,w9⟩:=q9
    obtain ⟨J1,J2,J3⟩:=fin I9
    exact ⟨m',hm,i+1,xs,σ8,H9,J1,J2,J3,w9⟩
   |true=>
    refine wpAny_mono (hte _ s9 σ8 H9 _ I9 q9) (fun y s10 ⟨v,H10,I10,r10,q10⟩=> ?_) fun _ _ z=>z
    obtain ⟨e10,hl10,m',hm,w10⟩:=q10
    refine wpAny_mono (mt_append (X:=compCx X scope Nc Nx s3.heap.objs.size fp pins s3 (upd H1 a (.lst []))) _ s10 σ8 H10 (.ref a) [v] (.ref a) [y] (fun _ H'=>H'=upd H10 a (.lst (xs++ [v]))) I10 rfl (.cons r10 .nil) ⟨a,xs,v,rfl,rfl,e10,hl10,rfl⟩) (fun _ s11 ⟨_,H11,I11,_,q11⟩=> ?_) fun _ _ z=>z
    subst q11
    obtain ⟨J1,J2,J3⟩:=fin I11
    exact ⟨m',hm,i+1,xs++ [v],σ8,_,J1,J2,J3,w10⟩
 have st4:tn 0 h₁:=T.keep _ _ _ st fun b _ o e=>hk4 b o (up b o e)
 rw [e3h] at loop
 subst ea
 exact codeAny_compStart_list loop (T.self _ 0 _ _ _ st4 loop)
theorem pe_comp (c:CompOk X scope Nc Nx) (hcalm:X.calm=true) (hi:PI X tg iter wi)
  (hY:∀ (C:Addr) (fp:List Addr) (pins:List (Addr×Obj)) (s:Shared) (H:Hp),PG (compCx X scope Nc Nx C fp pins s H) tg g∧PTs (compCx X scope Nc Nx C fp pins s H) ifs tt∧PE (compCx X scope Nc Nx C fp pins s H) elt te)
  (hs:∀ x,foldedSetIterable iter X.env x=pure x:=by intro _;rfl):
  PE X (.ListComp elt [⟨tg,iter,ifs,0⟩] scope pos) (tComp Nc.length wi g tt te):=by
 intro pins s σ H Q I h
 rw [eval_ListComp]
 refine wpAny_comprehension_free (use:=none) rfl hs (clOf_eq (c.cells I.ok)) c.kind c.loc (thn (hi pins s σ H _ I h) fun v s1 h1=>thn h1 fun itv s2 h2=> ?_)
 obtain ⟨it,fp,tn,J,H2,rfl,I2,T,st2,f2,q⟩:=h2
 refine comp_block (Q:=Q) (RR:=fun acc C=>compPost (model X.prog X.w) X.A X.xe none (EP X pins σ Q) acc C) c hcalm hY I2 T st2 f2 q ?_
 intro a H' σ' s' s3 I3 hf3 IY qa
 obtain ⟨m,hn,_⟩:=IY.loc
 exact ⟨m,hn,fun h' hs'=>⟨.ref a,H',inv_back I3 hf3 IY hs',rfl,qa⟩⟩
end
end L3
namespace L3
open PySem PySem.Spec PyProof.Rows L2 SeqAt
mutual
def eqD:D→D→Bool
 | .non, .non=>true
 | .bl a, .bl b=>a==b
 | .int a, .int b=>a==b
 | .str a, .str b=>a==b
 | .bl a, .int b=>(if a then 1 else 0)==b
 | .int a, .bl b=>a==(if b then 1 else 0)
 | .tup a, .tup b=>eqL a b
 | .lst a, .lst b=>eqL a b
 |_,_=>false
def eqL:List D→List D→Bool
 | [],[]=>true
 |a::as,b::bs=>eqD a b&&eqL as bs
 |_,_=>false
end
def shal:Nat→D→Bool
 |_, .non=>true
 |_, .bl _=>true
 |_, .int _=>true
 |_, .str _=>true
 |n+1, .tup ds=>ds.all (shal n)
 |n+1, .lst ds=>ds.all (shal n)
 |_,_=>false
theorem eqL_range:∀ (as bs:List D),as.length=bs.length→eqL as bs=(List.range as.length).all fun j=>eqD (as.getD j .non) (bs.getD j .non)
 | [],[],_=>by simp [eqL]
 |a::as,b::bs,h=>by
  rw [eqL,List.length_cons,List.range_succ_eq_map,List.all_cons,List.all_map,eqL_range as bs (by simpa using h)]
  rfl
 | [],_::_,h=>by simp at h
 |_::_,[],h=>by simp at h
theorem eqL_len:∀ (as bs:List D),as.length≠bs.length→eqL as bs=false
 | [],[],h=>absurd rfl h
 |a::as,b::bs,h=>by rw [eqL,eqL_len as bs (by simpa using h),Bool.and_false]
 | [],_::_,h=>by simp [eqL]
 |_::_,[],h=>by simp [eqL]
section
variable {X:Cx} {pins:List (Addr×Obj)} {σ:L2.St} {W:WS} {H:Hp} {s:Shared}
theorem Has.notup {W:WS} {H:Hp} {K:PySem.W.Frag} (I:Inv X pins σ H s) {a:Addr} {xs ys:List V} (h1:SqL X.K H a xs) (h2:SqT X.K H a ys):False:=by
 obtain ⟨its,_,⟨o,n,e,c,_⟩,_⟩:=I.list h1
 obtain ⟨its',_,⟨o',e',c',_⟩,_⟩:=I.tuple h2
 rw [e] at e';cases e'
 rw [c] at c'
 exact absurd c' (by simp)
theorem HasT.ref {K:PySem.W.Frag} {d:D} {x:V} {n:Nat} (h:HasT K W H d x) (hs:shal n d=true):
  (d= .non∧x= .non)∨(∃ b,d= .bl b∧x= .bl b)∨(∃ b,d= .int b∧x= .int b)∨(∃ b,d= .str b∧x= .str b)∨
  (∃ ds a xs m,n=m+1∧d= .tup ds∧x= .ref a∧SqT K H a xs∧HasL K W H ds xs∧∀ y∈ds,shal m y=true)∨
  (∃ ds a xs m,n=m+1∧d= .lst ds∧x= .ref a∧SqL K H a xs∧HasL K W H ds xs∧∀ y∈ds,shal m y=true):=by
 cases d with
 |non=>exact .inl ⟨rfl,h.non⟩
 |bl b=>exact .inr (.inl ⟨b,rfl,h.bl⟩)
 |int b=>exact .inr (.inr (.inl ⟨b,rfl,h.int⟩))
 |str b=>exact .inr (.inr (.inr (.inl ⟨b,rfl,h.str⟩)))
 |tup ds=>
  obtain ⟨a,xs,e,q,r⟩:=h.tup
  cases n with
  |zero=>simp [shal] at hs
  |succ m=>
   rw [shal,List.all_eq_true] at hs
   exact .inr (.inr (.inr (.inr (.inl ⟨ds,a,xs,m,rfl,rfl,e,q,r,hs⟩))))
 |lst ds=>
  obtain ⟨a,xs,e,q,r⟩:=h.lst
  cases n with
  |zero=>simp [shal] at hs
  |succ m=>
   rw [shal,List.all_eq_true] at hs
   exact .inr (.inr (.inr (.inr (.inr ⟨ds,a,xs,m,rfl,rfl,e,q,r,hs⟩))))
 |dct k ds=>cases n<;>simp [shal] at hs
 |exc k ds=>cases n<;>simp [shal] at hs
 |obj c k ds=>cases n<;>simp [shal] at hs
theorem eqD_same (I:Inv X pins σ H s):∀ (n:Nat) {d e:D} {x:V},HasT X.K W H d x→HasT X.K W H e x→shal n d=true→shal n e=true→eqD d e=true:=by
 intro n
 induction n with
 |zero=>
  intro d e x h1 h2 s1 s2
  rcases h1.ref s1 with ⟨rfl,rfl⟩|⟨b,rfl,rfl⟩|⟨b,rfl,rfl⟩|⟨b,rfl,rfl⟩|⟨_,_,_,m,z,_⟩|⟨_,_,_,m,z,_⟩<;>
  rcases h2.ref s2 with ⟨rfl,e2⟩|⟨c,rfl,e2⟩|⟨c,rfl,e2⟩|⟨c,rfl,e2⟩|⟨_,_,_,m',z',_⟩|⟨_,_,_,m',z',_⟩<;>first|(cases z;done)|(cases z';done)|(cases e2;done)|(cases e2;simp [eqD])
 |succ n ih=>
  have lists:∀ {ds es:List D} {xs:List V},HasL X.K W H ds xs→HasL X.K W H es xs→(∀ y∈ds,shal n y=true)→(∀ y∈es,shal n y=true)→eqL ds es=true:=by
   intro ds
   induction ds with
   |nil=>
    intro es xs h1 h2 _ _
    have e1:=h1.length
    have e2:=h2.length
    cases es with
    |nil=>simp [eqL]
    |cons=>simp at e1 e2;omega
   |cons d ds ih2=>
    intro es xs h1 h2 g1 g2
    rw [HasL] at h1
    obtain ⟨x,r,rfl,q,t⟩:=h1
    cases es with
    |nil=>rw [HasL] at h2;cases h2
    |cons e es=>
     rw [HasL] at h2
     obtain ⟨x',r',ee,q',t'⟩:=h2
     cases ee
     rw [eqL,ih (.inl q) (.inl q') (g1 d List.mem_cons_self) (g2 e List.mem_cons_self),ih2 t t' (fun y hy=>g1 y (List.mem_cons_of_mem _ hy)) fun y hy=>g2 y (List.mem_cons_of_mem _ hy)]
     rfl
  intro d e x h1 h2 s1 s2
  rcases h1.ref s1 with ⟨rfl,rfl⟩|⟨b,rfl,rfl⟩|⟨b,rfl,rfl⟩|⟨b,rfl,rfl⟩|⟨ds,a,xs,m,z,rfl,rfl,q,r,g⟩|⟨ds,a,xs,m,z,rfl,rfl,q,r,g⟩<;>
  rcases h2.ref s2 with ⟨rfl,e2⟩|⟨c,rfl,e2⟩|⟨c,rfl,e2⟩|⟨c,rfl,e2⟩|⟨es,a',ys,m',z',rfl,e2,q',r',g'⟩|⟨es,a',ys,m',z',rfl,e2,q',r',g'⟩<;>first|(cases e2;done)|(cases e2;simp [eqD];done)|skip
  ·cases e2
   cases z;cases z'
   have:=I.tuple_inj q q'
   subst this
   rw [eqD];exact lists r r' g g'
  ·cases e2
   exact (Has.notup (K:=X.K) (W:=W) (H:=H) I q' q).elim
  ·cases e2
   exact (Has.notup (K:=X.K) (W:=W) (H:=H) I q q').elim
  ·cases e2
   cases z;cases z'
   have:=I.list_inj q q'
   subst this
   rw [eqD];exact lists r r' g g'
theorem getD_of {ds:List D} {j:Nat} (h:j<ds.length):ds[j]? =some (ds.getD j .non):=by
 rw [List.getD_eq_getElem?_getD,List.getElem?_eq_getElem h];rfl
theorem vals_at {xs:List V} {its:List Value} (r:Vals xs its) {j:Nat} {x:V} (e:xs[j]? =some x) (h:j<its.toArray.size):RelV x its.toArray[j]:=by
 obtain ⟨u,h1,h2⟩:=r.get e
 have:its.toArray[j]? =some u:=by simpa using h1
 rw [Array.getElem?_eq_getElem h] at this
 cases this
 exact h2
theorem items_eqAt {A:Around} (n:Nat) (ih:∀ {d e:D} {x y:V} {v u:Value},HasT X.K W H d x→HasT X.K W H e y→RelV x v→RelV y u→shal n d=true→shal n e=true→EqAt A s v u (eqD d e))
  {ds es:List D} {xs ys:List V} {its its':List Value} (r:HasL X.K W H ds xs) (r':HasL X.K W H es ys) (v:Vals xs its) (v':Vals ys its') (g:∀ y∈ds,shal n y=true) (g':∀ y∈es,shal n y=true):
  ∀ j (h1:j<its.toArray.size) (h2:j<its'.toArray.size),EqAt A s its.toArray[j] its'.toArray[j] (eqD (ds.getD j .non) (es.getD j .non)):=by
 intro j h1 h2
 have l1:j<ds.length:=by rw [r.length,v.length];simpa using h1
 have l2:j<es.length:=by rw [r'.length,v'.length];simpa using h2
 obtain ⟨x,e1,q1⟩:=r.get (getD_of l1)
 obtain ⟨y,e2,q2⟩:=r'.get (getD_of l2)
 exact ih (.inl q1) (.inl q2) (vals_at v e1 h1) (vals_at v' e2 h2) (g _ (List.mem_of_getElem? (getD_of l1))) (g' _ (List.mem_of_getElem? (getD_of l2)))
theorem HasT.view (I:Inv X pins σ H s) {d:D} {x:V} {v:Value} {n:Nat} (h:HasT X.K W H d x) (rx:RelV x v) (hs:shal n d=true):
  (d= .non∧v= .none)∨(∃ b,d= .bl b∧v= .bool b)∨(∃ b t,d= .int b∧v= .int b t)∨(∃ b t,d= .str b∧v= .str b t)∨
  (∃ ds a xs its m,n=m+1∧d= .tup ds∧x= .ref a∧v= .ref a∧HasL X.K W H ds xs∧Vals xs its∧s.heap.IsTuple a its.toArray∧∀ y∈ds,shal m y=true)∨
  (∃ ds a xs its m,n=m+1∧d= .lst ds∧x= .ref a∧v= .ref a∧HasL X.K W H ds xs∧Vals xs its∧s.heap.IsList a its.toArray∧∀ y∈ds,shal m y=true):=by
 rcases h.ref hs with ⟨rfl,rfl⟩|⟨b,rfl,rfl⟩|⟨b,rfl,rfl⟩|⟨b,rfl,rfl⟩|⟨ds,a,xs,m,z,rfl,rfl,q,r,g⟩|⟨ds,a,xs,m,z,rfl,rfl,q,r,g⟩
 ·exact .inl ⟨rfl,rx⟩
 ·exact .inr (.inl ⟨b,rfl,rx⟩)
 ·obtain ⟨t,e⟩:=rx
  exact .inr (.inr (.inl ⟨b,t,rfl,e⟩))
 ·obtain ⟨t,e⟩:=rx
  exact .inr (.inr (.inr (.inl ⟨b,t,rfl,e⟩)))
 ·obtain ⟨its,rv,p,_⟩:=I.tuple q
  exact .inr (.inr (.inr (.inr (.inl ⟨ds,a,xs,its,m,z,rfl,rfl,rx,r,rv,p,g⟩))))
 ·obtain ⟨its,rv,p,_⟩:=I.list q
  exact .inr (.inr (.inr (.inr (.inr ⟨ds,a,xs,its,m,z,rfl,rfl,rx,r,rv,p.isList,g⟩))))
theorem eqAt_D (I:Inv X pins σ H s):∀ (n:Nat) (A:Around) {d e:D} {x y:V} {v u:Value},A.units+n<cLine→HasT X.K W H d x→HasT X.K W H e y→RelV x v→RelV y u→shal n d=true→shal n e=true→
  EqAt A s v u (eqD d e)∧RcAt A s v u (eqD d e)∧RcNeAt A s v u (!eqD d e):=by
 intro n
 induction n with
 |zero=>
  intro A d e x y v u hu h1 h2 rx ry s1 s2
  rcases h1.view I rx s1 with ⟨rfl,rfl⟩|⟨b,rfl,rfl⟩|⟨b,t,rfl,rfl⟩|⟨b,t,rfl,rfl⟩|⟨_,_,_,_,m,z,_⟩|⟨_,_,_,_,m,z,_⟩<;>
  rcases h2.view I ry s2 with ⟨rfl,rfl⟩|⟨c,rfl,rfl⟩|⟨c,t',rfl,rfl⟩|⟨c,t',rfl,rfl⟩|⟨_,_,_,_,m',z',_⟩|⟨_,_,_,_,m',z',_⟩<;>first|(cases z;done)|(cases z';done)|skip
  ·exact ⟨EqAt.same _,RcAt.none_none,RcNeAt.none_none⟩
  ·exact ⟨EqAt.none_bool _,RcAt.none_bool _,RcNeAt.none_bool _⟩
  ·exact ⟨EqAt.none_int _ _,RcAt.none_int _ _,RcNeAt.none_int _ _⟩
  ·exact ⟨EqAt.none_str _ _,RcAt.none_str _ _,RcNeAt.none_str _ _⟩
  ·exact ⟨EqAt.bool_none _,RcAt.bool_none _,RcNeAt.bool_none _⟩
  ·exact ⟨EqAt.bool_bool _ _,RcAt.bool_bool _ _,RcNeAt.bool_bool _ _⟩
  ·exact ⟨EqAt.bool_int _ _ _,RcAt.bool_int _ _ _,RcNeAt.bool_int _ _ _⟩
  ·exact ⟨EqAt.bool_str _ _ _,RcAt.bool_str _ _ _,RcNeAt.bool_str _ _ _⟩
  ·exact ⟨EqAt.int_none _ _,RcAt.int_none _ _,RcNeAt.int_none _ _⟩
  ·exact ⟨EqAt.int_bool _ _ _,RcAt.int_bool _ _ _,RcNeAt.int_bool _ _ _⟩
  ·exact ⟨EqAt.int_int _ _ _ _,RcAt.int_int _ _ _ _,RcNeAt.int_int _ _ _ _⟩
  ·exact ⟨EqAt.int_str _ _ _ _,RcAt.int_str _ _ _ _,RcNeAt.int_str _ _ _ _⟩
  ·exact ⟨EqAt.str_none _ _,RcAt.str_none _ _,RcNeAt.str_none _ _⟩
  ·exact ⟨EqAt.str_bool _ _ _,RcAt.str_bool _ _ _,RcNeAt.str_bool _ _ _⟩
  ·exact ⟨EqAt.str_int _ _ _ _,RcAt.str_int _ _ _ _,RcNeAt.str_int _ _ _ _⟩
  ·exact ⟨EqAt.str_str _ _ _ _,RcAt.str_str _ _ _ _,RcNeAt.str_str _ _ _ _⟩
 |succ n ih=>
  intro A d e x y v u hu h1 h2 rx ry s1 s2
  have hu0:A.units<cLine:=by omega
  have hu1:A.in1.units+n<cLine:=by show A.units+1+n<cLine;omega
  have same:=fun (ee:x=y)=>eqD_same I (n+1) h1 (ee▸h2) s1 s2
  rcases h1.view I rx s1 with ⟨rfl,rfl⟩|⟨b,rfl,rfl⟩|⟨b,t,rfl,rfl⟩|⟨b,t,rfl,rfl⟩|⟨ds,a,xs,its,m,z,rfl,rfl,rfl,r,rv,p,g⟩|⟨ds,a,xs,its,m,z,rfl,rfl,rfl,r,rv,p,g⟩<;>
  rcases h2.view I ry s2 with ⟨rfl,rfl⟩|⟨c,rfl,rfl⟩|⟨c,t',rfl,rfl⟩|⟨c,t',rfl,rfl⟩|⟨es,a',ys,its',m',z',rfl,rfl,rfl,r',rv',p2,g'⟩|⟨es,a',ys,its',m',z',rfl,rfl,rfl,r',rv',p2,g'⟩
  all_goals first|cases z|skip
  all_goals first|cases z'|skip
  ·exact ⟨EqAt.same _,RcAt.none_none,RcNeAt.none_none⟩
  ·exact ⟨EqAt.none_bool _,RcAt.none_bool _,RcNeAt.none_bool _⟩
  ·exact ⟨EqAt.none_int _ _,RcAt.none_int _ _,RcNeAt.none_int _ _⟩
  ·exact ⟨EqAt.none_str _ _,RcAt.none_str _ _,RcNeAt.none_str _ _⟩
  ·exact ⟨EqAt.none_tuple p2 hu0,RcAt.none_tuple p2 hu0,RcNeAt.none_tuple p2 hu0⟩
  ·exact ⟨EqAt.none_list p2 hu0,RcAt.none_list p2 hu0,RcNeAt.none_list p2 hu0⟩
  ·exact ⟨EqAt.bool_none _,RcAt.bool_none _,RcNeAt.bool_none _⟩
  ·exact ⟨EqAt.bool_bool _ _,RcAt.bool_bool _ _,RcNeAt.bool_bool _ _⟩
  ·exact ⟨EqAt.bool_int _ _ _,RcAt.bool_int _ _ _,RcNeAt.bool_int _ _ _⟩
  ·exact ⟨EqAt.bool_str _ _ _,RcAt.bool_str _ _ _,RcNeAt.bool_str _ _ _⟩
  ·exact ⟨EqAt.bool_tuple _ p2 hu0,RcAt.bool_tuple _ p2 hu0,RcNeAt.bool_tuple _ p2 hu0⟩
  ·exact ⟨EqAt.bool_list _ p2 hu0,RcAt.bool_list _ p2 hu0,RcNeAt.bool_list _ p2 hu0⟩
  ·exact ⟨EqAt.int_none _ _,RcAt.int_none _ _,RcNeAt.int_none _ _⟩
  ·exact ⟨EqAt.int_bool _ _ _,RcAt.int_bool _ _ _,RcNeAt.int_bool _ _ _⟩
  ·exact ⟨EqAt.int_int _ _ _ _,RcAt.int_int _ _ _ _,RcNeAt.int_int _ _ _ _⟩
  ·exact ⟨EqAt.int_str _ _ _ _,RcAt.int_str _ _ _ _,RcNeAt.int_str _ _ _ _⟩
  ·exact ⟨EqAt.int_tuple _ _ p2 hu0,RcAt.int_tuple _ _ p2 hu0,RcNeAt.int_tuple _ _ p2 hu0⟩
  ·exact ⟨EqAt.int_list _ _ p2 hu0,RcAt.int_list _ _ p2 hu0,RcNeAt.int_list _ _ p2 hu0⟩
  ·exact ⟨EqAt.str_none _ _,RcAt.str_none _ _,RcNeAt.str_none _ _⟩
  ·exact ⟨EqAt.str_bool _ _ _,RcAt.str_bool _ _ _,RcNeAt.str_bool _ _ _⟩
  ·exact ⟨EqAt.str_int _ _ _ _,RcAt.str_int _ _ _ _,RcNeAt.str_int _ _ _ _⟩
  ·exact ⟨EqAt.str_str _ _ _ _,RcAt.str_str _ _ _ _,RcNeAt.str_str _ _ _ _⟩
  ·exact ⟨EqAt.str_tuple _ _ p2 hu0,RcAt.str_tuple _ _ p2 hu0,RcNeAt.str_tuple _ _ p2 hu0⟩
  ·exact ⟨EqAt.str_list _ _ p2 hu0,RcAt.str_list _ _ p2 hu0,RcNeAt.str_list _ _ p2 hu0⟩
  ·exact ⟨EqAt.tuple_none p hu0,RcAt.tuple_none p hu0,RcNeAt.tuple_none p hu0⟩
  ·exact ⟨EqAt.tuple_bool _ p hu0,RcAt.tuple_bool _ p hu0,RcNeAt.tuple_bool _ p hu0⟩
  ·exact ⟨EqAt.tuple_int _ _ p hu0,RcAt.tuple_int _ _ p hu0,RcNeAt.tuple_int _ _ p hu0⟩
  ·exact ⟨EqAt.tuple_str _ _ p hu0,RcAt.tuple_str _ _ p hu0,RcNeAt.tuple_str _ _ p hu0⟩
  ·have he:=items_eqAt (A:=A.in1) n (fun h1 h2 rx ry s1 s2=>(ih A.in1 hu1 h1 h2 rx ry s1 s2).1) r r' rv rv' g g'
   have l1:its.toArray.size=ds.length:=by rw [List.size_toArray,←rv.length,r.length]
   have l2:its'.toArray.size=es.length:=by rw [List.size_toArray,←rv'.length,r'.length]
   have ee:((List.range (min its.toArray.size its'.toArray.size)).all (fun j=>eqD (ds.getD j .non) (es.getD j .non))&&its.toArray.size==its'.toArray.size)=eqD (.tup ds) (.tup es):=by
    rw [eqD,l1,l2]
    by_cases hl:ds.length=es.length
    ·rw [eqL_range ds es hl,←hl];simp
    ·rw [eqL_len ds es hl];simp [hl]
   have rc:=RcAt.tuples p p2 hu0 he
   rw [ee] at rc
   refine ⟨?_,rc,?_⟩
   ·by_cases ha:a=a'
    ·subst ha
     rw [same rfl]
     exact EqAt.same _
    ·exact EqAt.of_refs ha rc
   ·have rn:=RcNeAt.tuples p p2 hu0 he
    rw [ee] at rn
    exact rn
  ·exact ⟨EqAt.tuple_list p p2 hu0,RcAt.tuple_list p p2 hu0,RcNeAt.tuple_list p p2 hu0⟩
  ·exact ⟨EqAt.list_none p hu0,RcAt.list_none p hu0,RcNeAt.list_none p hu0⟩
  ·exact ⟨EqAt.list_bool _ p hu0,RcAt.list_bool _ p hu0,RcNeAt.list_bool _ p hu0⟩
  ·exact ⟨EqAt.list_int _ _ p hu0,RcAt.list_int _ _ p hu0,RcNeAt.list_int _ _ p hu0⟩
  ·exact ⟨EqAt.list_str _ _ p hu0,RcAt.list_str _ _ p hu0,RcNeAt.list_str _ _ p hu0⟩
  ·exact ⟨EqAt.list_tuple p p2 hu0,RcAt.list_tuple p p2 hu0,RcNeAt.list_tuple p p2 hu0⟩
  ·have he:=items_eqAt (A:=A.in1) n (fun h1 h2 rx ry s1 s2=>(ih A.in1 hu1 h1 h2 rx ry s1 s2).1) r r' rv rv' g g'
   have l1:its.toArray.size=ds.length:=by rw [List.size_toArray,←rv.length,r.length]
   have l2:its'.toArray.size=es.length:=by rw [List.size_toArray,←rv'.length,r'.length]
   have both:RcAt A s (.ref a) (.ref a') (eqD (.lst ds) (.lst es))∧RcNeAt A s (.ref a) (.ref a') (!eqD (.lst ds) (.lst es)):=by
    by_cases hl:ds.length=es.length
    ·have hsz:its.toArray.size=its'.toArray.size:=by rw [l1,l2,hl]
     have rc:=RcAt.lists p p2 hsz hu0 he
     have rn:=RcNeAt.lists p p2 hsz hu0 he
     rw [l1,←eqL_range ds es hl] at rc rn
     rw [eqD]
     exact ⟨rc,rn⟩
    ·have hsz:(its.toArray.size != its'.toArray.size)=true:=by rw [l1,l2];simpa using hl
     rw [eqD,eqL_len ds es hl]
     exact ⟨RcAt.lists_lengths p p2 hsz hu0,RcNeAt.lists_lengths p p2 hsz hu0⟩
   refine ⟨?_,both⟩
   by_cases ha:a=a'
   ·subst ha
    rw [same rfl]
    exact EqAt.same _
   ·exact EqAt.of_refs ha both.1
end
end L3
namespace L3
open PySem PySem.Spec PyProof.Rows L2 SeqAt
section
variable {K:PySem.W.Frag} {xw:XW} {W:WS} {H:Hp} {Q:VK}
theorem RE.int {i:Int} (h:RE K xw W H (.ok (.int i)) Q):Q (.int i) H:=h _ H (Same.refl H) (by rw [Has])
theorem RE.bl {i:Bool} (h:RE K xw W H (.ok (.bl i)) Q):Q (.bl i) H:=h _ H (Same.refl H) (by rw [Has])
theorem RE.str {i:Str} (h:RE K xw W H (.ok (.str i)) Q):Q (.str i) H:=h _ H (Same.refl H) (by rw [Has])
theorem RE.non (h:RE K xw W H (.ok .non) Q):Q .non H:=h _ H (Same.refl H) (by rw [Has])
theorem same_upd {a:Addr} {o:HO} (h:H a=none):Same H (upd H a o):=fun b u e=>by rw [upd_ne (ne_of_none e h)];exact e
theorem RE.newT {ds:List D} {xs:List V} {p:Addr} (h:RE K xw W H (.ok (.tup ds)) Q) (w:WL W H) (hp:H p=none) (q:HasL K W H ds xs):Q (.ref p) (upd H p (.tup xs)):=
 h _ _ (same_upd hp) (by rw [Has];exact ⟨p,xs,rfl, .of upd_same,q.same (same_upd hp) w⟩)
theorem not_new {a:Addr} (w:WL W H) (h:H a=none):¬ W a:=fun z=>by
 obtain ⟨xs,e,_⟩:=w a z
 rw [h] at e;cases e
end
section
variable {X:Cx} {xw:XW} {a b c e:Expr} {fa fb fc f:DSt→Res D} {pos:Pos}
theorem DE.p (h:DE X xw e f):DP X xw e f:=PE.weak h fun σ H Q ⟨W₀,H₀,W,δ,st,q⟩=>⟨W₀,H₀,W,δ,st,by
 cases hf:f δ with
 |ok d=>rw [hf] at q;exact fun v H' k h=>q v H' k (.inl h)
 |ex c fs=>rw [hf] at q;exact q
 |stuck=>rw [hf] at q;exact q⟩
theorem DF.de {f:DSt→Res (List D)} (h:DF X xw e f):DE X xw e (fun δ=>(f δ).bind fun ds=> .ok (.lst ds)):=PE.weak h fun σ H Q ⟨W₀,H₀,W,δ,st,q⟩=>⟨W₀,H₀,W,δ,st,by
 dsimp only at q
 cases hf:f δ with
 |ok d=>
  rw [hf] at q
  refine fun a xs H1 k n r=>q _ _ (k.trans (same_upd n)) ?_
  have w1:=st.fr.wl.same k
  rw [Has]
  exact ⟨a,xs,rfl, .inl ⟨upd_same,not_new w1 n⟩,r.same (same_upd n) w1⟩
 |ex c fs=>rw [hf] at q;exact q
 |stuck=>rw [hf] at q;exact q⟩
def slotD (i:Nat) (δ:DSt):Res D:=match δ[i]? with
 |some (some (.d x))=> .ok x
 |_=> .stuck
def slotP (i:Nat) (δ:DSt):Res D:=match δ[i]? with
 |some (some (.d x))=> .ok x
 |some (some (.o ds))=> .ok (.lst ds)
 |_=> .stuck
theorem de_var (i:Nat) {x:Str} (hN:X.N[i]? =some x:=by rfl) (hv:Vis X.env.scope x:=by first|exact Or.inl rfl|exact Or.inr (Or.inl rfl)|exact Or.inr (Or.inr rfl)) (hd:(x==("__debug__":Str))=false:=by decide)
  (hcd:(x==("__classdict__":Str))=false:=by decide):DE X xw (.Name x pos) (slotD i):=PE.weak (pe_var hN hv hd hcd) fun σ H Q ⟨W₀,H₀,W,δ,st,q⟩=>by
 unfold slotD at q
 split at q
 ·rename_i d h
  obtain ⟨v,e,r⟩:=st.at' i _ h
  exact ⟨v,e,q v H (Same.refl H) r⟩
 ·exact q.elim
theorem dp_var (i:Nat) {x:Str} (hN:X.N[i]? =some x:=by rfl) (hv:Vis X.env.scope x:=by first|exact Or.inl rfl|exact Or.inr (Or.inl rfl)|exact Or.inr (Or.inr rfl)) (hd:(x==("__debug__":Str))=false:=by decide)
  (hcd:(x==("__classdict__":Str))=false:=by decide):DP X xw (.Name x pos) (slotP i):=PE.weak (pe_var hN hv hd hcd) fun σ H Q ⟨W₀,H₀,W,δ,st,q⟩=>by
 unfold slotP at q
 split at q
 ·rename_i d h
  obtain ⟨v,e,r⟩:=st.at' i _ h
  exact ⟨v,e,q v H (Same.refl H) (.inl r)⟩
 ·rename_i ds h
  obtain ⟨v,e,a,xs,r1,r2,r3,r4,r5⟩:=st.at' i _ h
  exact ⟨v,e,q v H (Same.refl H) (.inr ⟨ds,a,xs,rfl,r1,r4,r5⟩)⟩
 ·exact q.elim
theorem de_int {i:Int} {j}:DE X xw (.Constant (.int i) j pos) (fun _=> .ok (.int i)):=PE.weak pe_int fun σ H Q ⟨_,_,_,_,_,q⟩=>q.int
theorem de_bl {i:Bool} {j}:DE X xw (.Constant (.bool i) j pos) (fun _=> .ok (.bl i)):=PE.weak pe_bl fun σ H Q ⟨_,_,_,_,_,q⟩=>q.bl
theorem de_str {i:Str} {j}:DE X xw (.Constant (.str i) j pos) (fun _=> .ok (.str i)):=PE.weak pe_str fun σ H Q ⟨_,_,_,_,_,q⟩=>q.str
theorem de_non {j}:DE X xw (.Constant .none j pos) (fun _=> .ok .non):=PE.weak pe_non fun σ H Q ⟨_,_,_,_,_,q⟩=>q.non
def Op2 (X:Cx) (xw:XW) (r:R2) (op:D→D→Res D):Prop:=∀ (W:WS) (H:Hp) (d e:D) (v u:V) (Q:VK),WL W H→HasT X.K W H d v→HasT X.K W H e u→RE X.K xw W H (op d e) Q→r v u H Q
theorem two_read {σ:L2.St} {H:Hp} {W₀ W:WS} {H₀:Hp} {δ:DSt} {op:D→D→Res D} {Q:VK} {R:V→V→Hp→Prop} (st:StHas X.K W₀ H₀ W H σ δ)
  (q:RE X.K xw W H ((fa δ).bind fun x=>(fb δ).bind fun y=>op x y) Q)
  (h:∀ H2 d e v u,Same H H2→WL W H2→HasT X.K W H2 d v→HasT X.K W H2 e u→fa δ= .ok d→fb δ= .ok e→RE X.K xw W H2 (op d e) Q→R v u H2):
  tDP X.K xw fa σ H fun x H1=>tDP X.K xw fb σ H1 fun y H2=>R x y H2:=by
 refine ⟨W₀,H₀,W,δ,st,?_⟩
 cases h1:fa δ with
 |stuck=>rw [h1] at q;exact q
 |ex c fs=>rw [h1] at q;exact q
 |ok d=>
  rw [h1] at q
  intro v H1 k1 hv
  refine ⟨W₀,H₀,W,δ,st.same k1,?_⟩
  have q':RE X.K xw W H ((fb δ).bind fun y=>op d y) Q:=q
  cases h2:fb δ with
  |stuck=>rw [h2] at q';exact q'
  |ex c fs=>rw [h2] at q';exact fun H2 k2=>q' H2 (k1.trans k2)
  |ok e=>
   rw [h2] at q'
   intro u H2 k2 hu
   have q2:RE X.K xw W H (op d e) Q:=q'
   exact h H2 d e v u (k1.trans k2) (st.fr.wl.same (k1.trans k2)) (hv.same k2 (st.fr.wl.same k1)) hu h1 h2 (q2.same (k1.trans k2))
theorem de_op2 {o:Operator} {r:R2} {op:D→D→Res D} (ho:OpR X (binaryOp o) r) (hr:Op2 X xw r op) (ha:DP X xw a fa) (hb:DP X xw b fb):
  DE X xw (.BinOp a o b pos) (fun δ=>(fa δ).bind fun x=>(fb δ).bind fun y=>op x y):=
 PE.weak (pe_op ho ha hb) fun σ H Q ⟨W₀,H₀,W,δ,st,q⟩=>two_read st q fun H2 d e v u k w hv hu _ _ q2=>hr W H2 d e v u Q w hv hu q2
theorem op_catT0:OpR X (binaryOp .Add) (fun x y H Q=>∃ a b ys,x= .ref a∧y= .ref b∧SqT X.K H a []∧SqT X.K H b ys∧Q (.ref b) H):=by
 intro pins s σ H x y v u Q I rx ry h
 obtain ⟨a,b,ys,rfl,rfl,ha,hb,q⟩:=h
 cases rx
 cases ry
 obtain ⟨its,r1,p1,_⟩:=I.tuple ha
 obtain ⟨its2,r2,p2,_⟩:=I.tuple hb
 have e0:its= []:=r1.nil_iff.mpr rfl
 subst e0
 obtain ⟨⟨cls,dd,data,sl⟩,ho,hc,n,hd⟩:=id p1
 obtain ⟨⟨cls2,dd2,data2,sl2⟩,ho2,hc2,n2,hd2⟩:=id p2
 simp only at hc hd hc2 hd2
 subst hc hd hc2 hd2
 exact concat_meets ⟨_,ho,rfl⟩ ⟨_,ho2,rfl⟩ noFill_tuple_add seq_tuple_add PySem.F.slot_tuple_add PySem.F.entry_tuple_add (PySem.F.args_tuple_add_2 _ _)
   (tuple_addW0 a b _ its2.toArray n n2 dd dd2 sl sl2 (by simp)) ⟨ho,ho2,⟨.ref b,H,I,rfl,q⟩⟩
noncomputable def addD:D→D→Res D
 | .int i, .int j=> .ok (.int (i+j))
 | .str x, .str y=>@ite (Res D) (x.length+y.length≤sizeLine) (Classical.propDecidable _) (.ok (.str (x++y))) .stuck
 | .tup xs, .tup ys=>@ite (Res D) (xs.length+ys.length≤sizeLine) (Classical.propDecidable _) (.ok (.tup (xs++ys))) .stuck
 |_,_=> .stuck
theorem de_add (ha:DP X xw a fa) (hb:DP X xw b fb):DE X xw (.BinOp a .Add b pos) (fun δ=>(fa δ).bind fun x=>(fb δ).bind fun y=>addD x y):=by
 refine de_op2 ((op_add.or op_add_str).or (op_catT0.or op_catT)) (fun W H d e v u Q w hv hu q=> ?_) ha hb
 unfold addD at q
 split at q
 ·exact .inl (.inl ⟨_,_,hv.int,hu.int,q.int⟩)
 ·split at q
  ·rename_i hz
   exact .inl (.inr ⟨_,_,hv.str,hu.str,hz,q.str⟩)
  ·exact q.elim
 ·rename_i ds es
  split at q
  ·rename_i hz
   obtain ⟨a1,xs,e1,s1,r1⟩:=hv.tup
   obtain ⟨a2,ys,e2,s2,r2⟩:=hu.tup
   by_cases hx:xs= []
   ·subst hx
    have hd:ds= []:=by
     have:=r1.length
     exact List.eq_nil_of_length_eq_zero (by simpa using this)
    subst hd
    refine .inr (.inl ⟨a1,a2,ys,e1,e2,s1,s2,q _ H (Same.refl H) ?_⟩)
    rw [Has];exact ⟨a2,ys,rfl,s2,r2⟩
   ·refine .inr (.inr ⟨a1,a2,xs,ys,e1,e2,s1,s2,hx,by rw [←r1.length,←r2.length];exact hz,fun hy=> ?_,fun _ p hp=>q.newT w hp (r1.append r2)⟩)
    subst hy
    have he:es= []:=by
     have:=r2.length
     exact List.eq_nil_of_length_eq_zero (by simpa using this)
    subst he
    refine q _ H (Same.refl H) ?_
    rw [Has,List.append_nil];exact ⟨a1,xs,rfl,s1,r1⟩
  ·exact q.elim
 ·exact q.elim
def subD:D→D→Res D
 | .int i, .int j=> .ok (.int (i-j))
 |_,_=> .stuck
theorem de_sub (ha:DP X xw a fa) (hb:DP X xw b fb):DE X xw (.BinOp a .Sub b pos) (fun δ=>(fa δ).bind fun x=>(fb δ).bind fun y=>subD x y):=by
 refine de_op2 op_sub (fun W H d e v u Q w hv hu q=> ?_) ha hb
 unfold subD at q
 split at q
 ·exact ⟨_,_,hv.int,hu.int,q.int⟩
 ·exact q.elim
noncomputable def modD:D→D→Res D
 | .int i, .int j=>@ite (Res D) (0<j) (Classical.propDecidable _) (.ok (.int (i%j))) .stuck
 |_,_=> .stuck
theorem de_mod (ha:DP X xw a fa) (hb:DP X xw b fb):DE X xw (.BinOp a .Mod b pos) (fun δ=>(fa δ).bind fun x=>(fb δ).bind fun y=>modD x y):=by
 refine de_op2 op_mod (fun W H d e v u Q w hv hu q=> ?_) ha hb
 unfold modD at q
 split at q
 ·split at q
  ·rename_i hj
   exact ⟨_,_,hv.int,hu.int,hj,q.int⟩
  ·exact q.elim
 ·exact q.elim
noncomputable def fdivD:D→D→Res D
 | .int i, .int j=>@ite (Res D) (0<j∧j<1073741824) (Classical.propDecidable _) (.ok (.int (i / j))) .stuck
 |_,_=> .stuck
theorem de_fdiv (ha:DP X xw a fa) (hb:DP X xw b fb):DE X xw (.BinOp a .FloorDiv b pos) (fun δ=>(fa δ).bind fun x=>(fb δ).bind fun y=>fdivD x y):=by
 refine de_op2 op_fdiv (fun W H d e v u Q w hv hu q=> ?_) ha hb
 unfold fdivD at q
 split at q
 ·split at q
  ·rename_i hj
   exact ⟨_,_,hv.int,hu.int,hj,q.int⟩
  ·exact q.elim
 ·exact q.elim
noncomputable def powD:D→D→Res D
 | .int i, .int j=>@ite (Res D) (0≤j∧j≤1000∧i.natAbs<2^64) (Classical.propDecidable _) (.ok (.int (i^j.toNat))) .stuck
 |_,_=> .stuck
theorem de_pow (ha:DP X xw a fa) (hb:DP X xw b fb):DE X xw (.BinOp a .Pow b pos) (fun δ=>(fa δ).bind fun x=>(fb δ).bind fun y=>powD x y):=by
 refine de_op2 op_pow (fun W H d e v u Q w hv hu q=> ?_) ha hb
 unfold powD at q
 split at q
 ·split at q
  ·rename_i hj
   exact ⟨_,_,hv.int,hu.int,⟨hj.1,by omega,hj.2.2⟩,q.int⟩
  ·exact q.elim
 ·exact q.elim
noncomputable def mulD:D→D→Res D
 | .int i, .int j=>@ite (Res D) ((-(2^64)<i∧i<2^64)∨(-(2^64)<j∧j<2^64)) (Classical.propDecidable _) (.ok (.int (i*j))) .stuck
 |_,_=> .stuck
def negD:D→Res D
 | .int i=> .ok (.int (-i))
 |_=> .stuck
theorem one_read {σ:L2.St} {H:Hp} {W₀ W:WS} {H₀:Hp} {δ:DSt} {op:D→Res D} {Q:VK} {R:V→Hp→Prop} (st:StHas X.K W₀ H₀ W H σ δ)
  (q:RE X.K xw W H ((fa δ).bind op) Q)
  (h:∀ H2 d v,Same H H2→WL W H2→StHas X.K W₀ H₀ W H2 σ δ→HasT X.K W H2 d v→fa δ= .ok d→RE X.K xw W H2 (op d) Q→R v H2):
  tDP X.K xw fa σ H fun x H1=>R x H1:=by
 refine ⟨W₀,H₀,W,δ,st,?_⟩
 cases h1:fa δ with
 |stuck=>rw [h1] at q;exact q
 |ex c fs=>rw [h1] at q;exact q
 |ok d=>
  rw [h1] at q
  intro v H1 k1 hv
  exact h H1 d v k1 (st.fr.wl.same k1) (st.same k1) hv h1 (RE.same (r:=op d) q k1)
theorem de_neg (ha:DP X xw a fa):DE X xw (.UnaryOp .USub a pos) (fun δ=>(fa δ).bind negD):=
 PE.weak (pe_un un_neg ha) fun σ H Q ⟨W₀,H₀,W,δ,st,q⟩=>one_read st q fun H2 d v k w st2 hv _ q2=>by
  unfold negD at q2
  split at q2
  ·exact ⟨_,hv.int,q2.int⟩
  ·exact q2.elim
def eqR (d e:D):Res D:=if (shal 40 d&&shal 40 e)=true then .ok (.bl (eqD d e)) else .stuck
def neR (d e:D):Res D:=if (shal 40 d&&shal 40 e)=true then .ok (.bl (!eqD d e)) else .stuck
def ltR:D→D→Res D
 | .int i, .int j=> .ok (.bl (decide (i<j)))
 |_,_=> .stuck
def leR:D→D→Res D
 | .int i, .int j=> .ok (.bl (decide (i≤j)))
 |_,_=> .stuck
def gtR:D→D→Res D
 | .int i, .int j=> .ok (.bl (decide (j<i)))
 |_,_=> .stuck
def geR:D→D→Res D
 | .int i, .int j=> .ok (.bl (decide (j≤i)))
 |_,_=> .stuck
structure CmpR (X:Cx) (xw:XW) (o:CmpOp) (op:D→D→Res D):Prop where
 ex:∃ r,OpR X (compareOp o) r∧Op2 X xw r op
 bl:∀ d e z,op d e= .ok z→∃ k,z= .bl k
 nm:o≠ .In∧o≠ .NotIn
theorem op_eqD (hu:X.A.units+40<cLine):OpR X (compareOp .Eq) (fun x y H Q=>∃ W d e,HasT X.K W H d x∧HasT X.K W H e y∧shal 40 d=true∧shal 40 e=true∧Q (.bl (eqD d e)) H):=by
 intro pins s σ H x y v u Q I rx ry h
 obtain ⟨W,d,e,h1,h2,s1,s2,q⟩:=h
 exact (eqAt_D I 40 X.A hu h1 h2 rx ry s1 s2).2.1 _ _ _ _ ⟨.bl _,H,I,rfl,q⟩
theorem op_neD (hu:X.A.units+40<cLine):OpR X (compareOp .NotEq) (fun x y H Q=>∃ W d e,HasT X.K W H d x∧HasT X.K W H e y∧shal 40 d=true∧shal 40 e=true∧Q (.bl (!eqD d e)) H):=by
 intro pins s σ H x y v u Q I rx ry h
 obtain ⟨W,d,e,h1,h2,s1,s2,q⟩:=h
 exact (eqAt_D I 40 X.A hu h1 h2 rx ry s1 s2).2.2 _ _ _ _ ⟨.bl _,H,I,rfl,q⟩
theorem c_eq (hu:X.A.units+40<cLine):CmpR X xw .Eq eqR:=⟨⟨_,op_eqD hu,fun W H d e v u Q w hv hu q=>by
  unfold eqR at q
  split at q
  ·rename_i hs
   rw [Bool.and_eq_true] at hs
   exact ⟨W,d,e,hv,hu,hs.1,hs.2,q.bl⟩
  ·exact q.elim⟩,fun d e z h=>by unfold eqR at h;split at h<;>cases h;exact ⟨_,rfl⟩,by decide,by decide⟩
theorem c_ne (hu:X.A.units+40<cLine):CmpR X xw .NotEq neR:=⟨⟨_,op_neD hu,fun W H d e v u Q w hv hu q=>by
  unfold neR at q
  split at q
  ·rename_i hs
   rw [Bool.and_eq_true] at hs
   exact ⟨W,d,e,hv,hu,hs.1,hs.2,q.bl⟩
  ·exact q.elim⟩,fun d e z h=>by unfold neR at h;split at h<;>cases h;exact ⟨_,rfl⟩,by decide,by decide⟩
theorem c_lt:CmpR X xw .Lt ltR:=⟨⟨_,op_lt,fun W H d e v u Q w hv hu q=>by
  unfold ltR at q
  split at q
  ·exact ⟨_,_,hv.int,hu.int,q.bl⟩
  ·exact q.elim⟩,fun d e z h=>by unfold ltR at h;split at h<;>cases h;exact ⟨_,rfl⟩,by decide,by decide⟩
theorem c_gt:CmpR X xw .Gt gtR:=⟨⟨_,op_gt,fun W H d e v u Q w hv hu q=>by
  unfold gtR at q
  split at q
  ·exact ⟨_,_,hv.int,hu.int,q.bl⟩
  ·exact q.elim⟩,fun d e z h=>by unfold gtR at h;split at h<;>cases h;exact ⟨_,rfl⟩,by decide,by decide⟩
theorem c_ge:CmpR X xw .GtE geR:=⟨⟨_,op_ge,fun W H d e v u Q w hv hu q=>by
  unfold geR at q
  split at q
  ·exact ⟨_,_,hv.int,hu.int,q.bl⟩
  ·exact q.elim⟩,fun d e z h=>by unfold geR at h;split at h<;>cases h;exact ⟨_,rfl⟩,by decide,by decide⟩
def isNR (d:D):Res D:=match d with
 | .non=> .ok (.bl true)
 |_=> .ok (.bl false)
theorem HasT.isN {K:PySem.W.Frag} {W:WS} {H:Hp} {d:D} {v:V} (h:HasT K W H d v) (hd:d≠ .non):v≠ .non:=by
 rintro rfl
 rcases h with h|⟨ds,a,xs,h1,h2,_⟩
 ·cases d with
  |non=>exact hd rfl
  |bl b=>rw [Has] at h;cases h
  |int b=>rw [Has] at h;cases h
  |str b=>rw [Has] at h;cases h
  |tup b=>rw [Has] at h;obtain ⟨_,_,z,_⟩:=h;cases z
  |lst b=>rw [Has] at h;obtain ⟨_,_,z,_⟩:=h;cases z
  |dct k b=>rw [Has] at h;obtain ⟨_,_,z,_⟩:=h;cases z
  |exc k b=>rw [Has] at h;obtain ⟨_,_,_,z,_⟩:=h;cases z
  |obj c k b=>rw [Has] at h;obtain ⟨_,_,_,_,z,_⟩:=h;cases z
 ·cases h2
theorem de_cmp {o:CmpOp} {op:D→D→Res D} (hc:CmpR X xw o op) (ha:DP X xw a fa) (hb:DP X xw b fb):DE X xw (.Compare a [o] [b] pos) (fun δ=>(fa δ).bind fun x=>(fb δ).bind fun y=>op x y):=by
 obtain ⟨⟨r,ho,hr⟩,_,h1,h2⟩:=hc
 exact PE.weak (pe_cmpR ho ha hb (nomark b h1 h2)) fun σ H Q ⟨W₀,H₀,W,δ,st,q⟩=>two_read st q fun H2 d e v u k w hv hu _ _ q2=>hr W H2 d e v u Q w hv hu q2
def boolR:D→Res Bool
 | .bl k=> .ok k
 |_=> .stuck
theorem DE.t_of (ht:PT X e (tB (tDE X.K xw f))):DT X xw e (fun δ=>(f δ).bind boolR):=PT.weak ht fun σ H Q ⟨W₀,H₀,W,δ,st,q⟩=>by
 dsimp only at q
 refine ⟨W₀,H₀,W,δ,st,?_⟩
 cases h1:f δ with
 |stuck=>rw [h1] at q;exact q
 |ex c fs=>rw [h1] at q;exact q
 |ok d=>
  rw [h1] at q
  intro v H1 k1 hv
  have q':RT xw H (boolR d) Q:=q
  unfold boolR at q'
  split at q'
  ·rw [Has] at hv
   exact ⟨_,hv,q' H1 k1⟩
  ·exact q'.elim
theorem DE.t (h:DE X xw e f) (he:∀ whole,isTrue e X.env whole=(do let v ←whole;standAt e.pos;holding [v] (truthy v)):=by intro _;rfl):DT X xw e (fun δ=>(f δ).bind boolR):=DE.t_of (pt_val h he)
theorem dt_cmp {o:CmpOp} {op:D→D→Res D} (hc:CmpR X xw o op) (ha:DP X xw a fa) (hb:DP X xw b fb):DT X xw (.Compare a [o] [b] pos) (fun δ=>((fa δ).bind fun x=>(fb δ).bind fun y=>op x y).bind boolR):=by
 obtain ⟨⟨r,ho,hr⟩,_,h1,h2⟩:=hc
 refine DE.t_of (f:=fun δ=>(fa δ).bind fun x=>(fb δ).bind fun y=>op x y) (PT.weak (pt_cmpR ho ha hb (nomark b h1 h2)) fun σ H Q q=> ?_)
 obtain ⟨W₀,H₀,W,δ,st,q⟩:=q
 exact two_read st q fun H2 d e v u k w hv hu _ _ q2=>hr W H2 d e v u _ w hv hu q2
theorem dt_isN {j pos'} (ha:DP X xw a fa):DT X xw (.Compare a [.Is] [.Constant .none j pos'] pos) (fun δ=>((fa δ).bind isNR).bind boolR):=
 DE.t_of (f:=fun δ=>(fa δ).bind isNR) (PT.weak (pt_cmp (pc_isN ha)) fun σ H Q q=>by
  obtain ⟨W₀,H₀,W,δ,st,q⟩:=q
  exact one_read st q fun H2 d v k w st2 hv _ q2=>by
   unfold isNR at q2
   split at q2
   ·rw [hv.non];exact q2.bl
   ·rename_i hd
    rw [decide_eq_false (hv.isN hd)];exact q2.bl)
theorem DW.t {g:DSt→Res Bool} (h:DW X xw e g):DT X xw e g:=PW.pt h
def chainR (op op':D→D→Res D) (x y:D) (z:Res D):Res D:=(op x y).bind fun k=>match k with
 | .bl true=>z.bind fun w=>op' y w
 | .bl false=> .ok (.bl false)
 |_=> .stuck
def andB (x:Res Bool) (y:Res Bool):Res Bool:=x.bind fun k=>if k=true then y else .ok false
def orB (x:Res Bool) (y:Res Bool):Res Bool:=x.bind fun k=>if k=true then .ok true else y
variable {ga gb:DSt→Res Bool} {rest:List Expr}
theorem test_read {σ:L2.St} {H:Hp} {W₀ W:WS} {H₀:Hp} {δ:DSt} {k:Bool→Res Bool} {Q:Bool→Hp→Prop} {R:Bool→Hp→Prop} (st:StHas X.K W₀ H₀ W H σ δ) (q:RT xw H ((ga δ).bind k) Q)
  (h:∀ H2 c,Same H H2→StHas X.K W₀ H₀ W H2 σ δ→ga δ= .ok c→RT xw H2 (k c) Q→R c H2):tDT X.K xw ga σ H R:=by
 refine ⟨W₀,H₀,W,δ,st,?_⟩
 cases h1:ga δ with
 |stuck=>rw [h1] at q;exact q
 |ex c fs=>rw [h1] at q;exact q
 |ok c=>
  rw [h1] at q
  exact fun H1 k1=>h H1 c k1 (st.same k1) h1 (RT.same (r:=k c) q k1)
theorem dw_and1 (ha:DT X xw a ga):DW X xw (.BoolOp .And [a] pos) ga:=pw_and1 ha
theorem dw_or1 (ha:DT X xw a ga):DW X xw (.BoolOp .Or [a] pos) ga:=pw_or1 ha
theorem dw_and (ha:DT X xw a ga) (hb:DW X xw (.BoolOp .And (b::rest) pos) gb):DW X xw (.BoolOp .And (a::b::rest) pos) (fun δ=>andB (ga δ) (gb δ)):=
 PW.weak (pw_and ha hb) fun σ H Q ⟨W₀,H₀,W,δ,st,q⟩=>test_read st q fun H2 c k st2 _ q2=>by
  cases c with
  |true=>rw [if_pos rfl] at q2 ⊢;exact ⟨W₀,H₀,W,δ,st2,q2⟩
  |false=>rw [if_neg Bool.false_ne_true] at q2 ⊢;exact q2 H2 (Same.refl _)
theorem dw_or (ha:DT X xw a ga) (hb:DW X xw (.BoolOp .Or (b::rest) pos) gb):DW X xw (.BoolOp .Or (a::b::rest) pos) (fun δ=>orB (ga δ) (gb δ)):=
 PW.weak (pw_or ha hb) fun σ H Q ⟨W₀,H₀,W,δ,st,q⟩=>test_read st q fun H2 c k st2 _ q2=>by
  cases c with
  |true=>rw [if_pos rfl] at q2 ⊢;exact q2 H2 (Same.refl _)
  |false=>rw [if_neg Bool.false_ne_true] at q2 ⊢;exact ⟨W₀,H₀,W,δ,st2,q2⟩
theorem dt_not (ha:DT X xw a ga):DT X xw (.UnaryOp .Not a pos) (fun δ=>(ga δ).bind fun k=> .ok (!k)):=
 PT.weak (pt_not ha) fun σ H Q ⟨W₀,H₀,W,δ,st,q⟩=>test_read st q fun H2 c k st2 _ q2=>q2 H2 (Same.refl _)
def andD (x:Res D) (y:Res D):Res D:=x.bind fun k=>match k with
 | .bl true=>y
 | .bl false=> .ok (.bl false)
 |_=> .stuck
def orD (x:Res D) (y:Res D):Res D:=x.bind fun k=>match k with
 | .bl true=> .ok (.bl true)
 | .bl false=>y
 |_=> .stuck
def notD:D→Res D
 | .bl k=> .ok (.bl (!k))
 |_=> .stuck
theorem one_readE {σ:L2.St} {H:Hp} {W₀ W:WS} {H₀:Hp} {δ:DSt} {op:D→Res D} {Q:VK} {R:V→Hp→Prop} (st:StHas X.K W₀ H₀ W H σ δ)
  (q:RE X.K xw W H ((fa δ).bind op) Q)
  (h:∀ H2 d v,Same H H2→WL W H2→StHas X.K W₀ H₀ W H2 σ δ→Has X.K W H2 d v→fa δ= .ok d→RE X.K xw W H2 (op d) Q→R v H2):
  tDE X.K xw fa σ H fun x H1=>R x H1:=by
 refine ⟨W₀,H₀,W,δ,st,?_⟩
 cases h1:fa δ with
 |stuck=>rw [h1] at q;exact q
 |ex c fs=>rw [h1] at q;exact q
 |ok d=>
  rw [h1] at q
  intro v H1 k1 hv
  exact h H1 d v k1 (st.fr.wl.same k1) (st.same k1) hv h1 (RE.same (r:=op d) q k1)
theorem de_if (hc:DT X xw c ga) (ha:DE X xw a fa) (hb:DE X xw b fb):DE X xw (.IfExp c a b pos) (fun δ=>(ga δ).bind fun k=>if k=true then fa δ else fb δ):=
 PE.weak (pe_ifExp hc ha hb) fun σ H Q ⟨W₀,H₀,W,δ,st,q⟩=>by
  dsimp only at q
  refine ⟨W₀,H₀,W,δ,st,?_⟩
  cases h1:ga δ with
  |stuck=>rw [h1] at q;exact q
  |ex c fs=>rw [h1] at q;exact q
  |ok k=>
   rw [h1] at q
   intro H1 k1
   have q':RE X.K xw W H (if k=true then fa δ else fb δ) Q:=q
   cases k with
   |true=>rw [if_pos rfl] at q' ⊢;exact ⟨W₀,H₀,W,δ,st.same k1,q'.same k1⟩
   |false=>rw [if_neg Bool.false_ne_true] at q' ⊢;exact ⟨W₀,H₀,W,δ,st.same k1,q'.same k1⟩
variable {es:List Expr} {fs:DSt→Res (List D)}
theorem da_nil:DA X xw [] (fun _=> .ok []):=PA.weak pa_nil fun σ H Q ⟨W₀,H₀,W,δ,st,q⟩=>q [] H (Same.refl H) HasL.nil
def consR (x:Res D) (r:Res (List D)):Res (List D):=x.bind fun d=>r.bind fun ds=> .ok (d::ds)
theorem da_cons (ha:DE X xw a fa) (hr:DA X xw es fs) (hs:starEach (a::es) X.env=(false,eval a X.env)::starEach es X.env:=by rfl):DA X xw (a::es) (fun δ=>consR (fa δ) (fs δ)):=
 PA.weak (pa_cons ha hr hs) fun σ H Q ⟨W₀,H₀,W,δ,st,q⟩=>by
  refine ⟨W₀,H₀,W,δ,st,?_⟩
  unfold consR at q
  dsimp only at q
  cases h1:fa δ with
  |stuck=>rw [h1] at q;exact q
  |ex c fs=>rw [h1] at q;exact q
  |ok d=>
   rw [h1] at q
   intro v H1 k1 hv
   refine ⟨W₀,H₀,W,δ,st.same k1,?_⟩
   have q':RA X.K xw W H ((fs δ).bind fun ds=> .ok (d::ds)) Q:=q
   cases h2:fs δ with
   |stuck=>rw [h2] at q';exact q'
   |ex c gs=>rw [h2] at q';exact fun H2 k2=>q' H2 (k1.trans k2)
   |ok ds=>
    rw [h2] at q'
    intro vs H2 k2 hvs
    have q2:RA X.K xw W H (.ok (d::ds)) Q:=q'
    exact q2 (v::vs) H2 (k1.trans k2) (HasL.cons (hv.same k2 (st.fr.wl.same k1)) hvs)
theorem args_read {σ:L2.St} {H:Hp} {W₀ W:WS} {H₀:Hp} {δ:DSt} {op:List D→Res D} {Q:VK} {R:List V→Hp→Prop} (st:StHas X.K W₀ H₀ W H σ δ)
  (q:RE X.K xw W H ((fs δ).bind op) Q)
  (h:∀ H2 ds vs,Same H H2→WL W H2→StHas X.K W₀ H₀ W H2 σ δ→HasL X.K W H2 ds vs→fs δ= .ok ds→RE X.K xw W H2 (op ds) Q→R vs H2):
  tDA X.K xw fs σ H fun x H1=>R x H1:=by
 refine ⟨W₀,H₀,W,δ,st,?_⟩
 cases h1:fs δ with
 |stuck=>rw [h1] at q;exact q
 |ex c gs=>rw [h1] at q;exact q
 |ok d=>
  rw [h1] at q
  intro v H1 k1 hv
  exact h H1 d v k1 (st.fr.wl.same k1) (st.same k1) hv h1 (RE.same (r:=op d) q k1)
noncomputable def tupR (ds:List D):Res D:=@ite (Res D) (ds.length≤1000) (Classical.propDecidable _) (.ok (.tup ds)) .stuck
theorem k1000:(1000:Nat)≤sizeLine:=by rw [sizeLine_eq];decide
theorem de_tup {x1} (h:DA X xw es fs):DE X xw (.Tuple es x1 pos) (fun δ=>(fs δ).bind tupR):=
 PE.weak (pe_tup h) fun σ H Q ⟨W₀,H₀,W,δ,st,q⟩=>args_read st q fun H2 ds vs k w st2 hv _ q2=>by
  unfold tupR at q2
  split at q2
  ·rename_i hz
   exact ⟨by rw [←hv.length];exact Nat.le_trans hz k1000,fun p hp=>q2.newT w hp hv⟩
  ·exact q2.elim
noncomputable def lstR (ds:List D):Res (List D):=@ite (Res (List D)) (ds.length≤1000) (Classical.propDecidable _) (.ok ds) .stuck
theorem df_lst (h:DA X xw es fs):DF X xw (.List es pos) (fun δ=>(fs δ).bind lstR):=
 PE.weak (pe_lst h) fun σ H Q ⟨W₀,H₀,W,δ,st,q⟩=>by
  dsimp only at q
  refine ⟨W₀,H₀,W,δ,st,?_⟩
  cases h1:fs δ with
  |stuck=>rw [h1] at q;exact q
  |ex c gs=>rw [h1] at q;exact q
  |ok ds=>
   rw [h1] at q
   intro vs H1 k1 hv
   have q':RF X.K xw W H (lstR ds) Q:=q
   unfold lstR at q'
   split at q'
   ·rename_i hz
    exact ⟨by rw [←hv.length];exact Nat.le_trans hz k1000,fun p hp=>q' p vs H1 k1 hp hv⟩
   ·exact q'.elim
noncomputable def ixR:D→D→Res D
 | .tup ds, .int i=>match atI ds i with
  |some d=> .ok d
  |none=> .stuck
 | .lst ds, .int i=>match atI ds i with
  |some d=> .ok d
  |none=> .stuck
 | .str z, .int i=>@ite (Res D) (z.length≤sizeLine) (Classical.propDecidable _) (match atI z.cps.toList i with
  |some c=> .ok (.str ⟨#[c]⟩)
  |none=> .stuck) .stuck
 |_,_=> .stuck
theorem atI_has {K:PySem.W.Frag} {W:WS} {H:Hp} {ds:List D} {xs:List V} {i:Int} {d:D} (r:HasL K W H ds xs) (h:atI ds i=some d):∃ x,atI xs i=some x∧Has K W H d x:=by
 unfold atI at h ⊢
 rw [r.length] at h
 cases e:ixN xs.length i with
 |none=>rw [e] at h;cases h
 |some j=>
  rw [e] at h
  obtain ⟨x,h1,h2⟩:=r.get (show ds[j]? =some d from h)
  exact ⟨x,h1,h2⟩
theorem de_ix (ha:DP X xw a fa) (hb:DP X xw b fb) (hs:PlainIx b:=by intro _ _;rfl):DE X xw (.Subscript a b pos) (fun δ=>(fa δ).bind fun x=>(fb δ).bind fun y=>ixR x y):=
 PE.weak (pe_ix ix_seq ha hb hs) fun σ H Q ⟨W₀,H₀,W,δ,st,q⟩=>two_read st q fun H2 d e v u k w hv hu _ _ q2=>by
  unfold ixR at q2
  split at q2
  ·split at q2
   ·rename_i d' hd
    obtain ⟨p,xs,e1,sq,r⟩:=hv.tup
    obtain ⟨x,h1,h2⟩:=atI_has r hd
    exact .inr (.inl ⟨p,xs,_,x,e1,hu.int,sq,h1,q2 x H2 (Same.refl _) h2⟩)
   ·exact q2.elim
  ·split at q2
   ·rename_i d' hd
    obtain ⟨p,xs,e1,sq,r⟩:=hv.lst
    obtain ⟨x,h1,h2⟩:=atI_has r hd
    exact .inl ⟨p,xs,_,x,e1,hu.int,sq,h1,q2 x H2 (Same.refl _) h2⟩
   ·exact q2.elim
  ·split at q2
   ·rename_i hz
    split at q2
    ·rename_i cc hc
     exact .inr (.inr ⟨_,_,cc,hv.str,hu.int,hz,hc,q2.str⟩)
    ·exact q2.elim
   ·exact q2.elim
  ·exact q2.elim
def DO (X:Cx) (xw:XW) (e:Option Expr) (f:DSt→Res (Option Int)):Prop:=PO X e (fun σ H Q=>∃ W₀ H₀ W δ,StHas X.K W₀ H₀ W H σ δ∧match f δ with
 | .ok o=>∀ H',Same H H'→Q o H'
 | .ex c fs=>∀ H',Same H H'→xw c fs H'
 | .stuck=>False)
theorem PO.weak {X:Cx} {e:Option Expr} {t t':TO} (h:PO X e t) (k:∀ σ H Q,t' σ H Q→t σ H Q):PO X e t':=fun pins s σ H Q I q=>h pins s σ H Q I (k σ H Q q)
theorem do_none:DO X xw none (fun _=> .ok none):=PO.weak po_none fun σ H Q ⟨_,_,_,_,_,q⟩=>q H (Same.refl H)
def partR:D→Res (Option Int)
 | .int i=> .ok (some i)
 |_=> .stuck
theorem do_some (h:DE X xw e f):DO X xw (some e) (fun δ=>(f δ).bind partR):=PO.weak (po_some h) fun σ H Q ⟨W₀,H₀,W,δ,st,q⟩=>by
 dsimp only at q
 refine ⟨W₀,H₀,W,δ,st,?_⟩
 cases h1:f δ with
 |stuck=>rw [h1] at q;exact q
 |ex c fs=>rw [h1] at q;exact q
 |ok d=>
  rw [h1] at q
  intro v H1 k1 hv
  cases d with
  |int i=>rw [Has] at hv;exact ⟨i,hv,q H1 k1⟩
  |_=>exact q.elim
def cutD (xs:List D) (lo hi:Option Int):List D:=(xs.drop (HT.sIx xs.length 0 lo)).take (HT.sIx xs.length xs.length hi-HT.sIx xs.length 0 lo)
theorem cut_has {K:PySem.W.Frag} {W:WS} {H:Hp} {ds:List D} {xs:List V} (r:HasL K W H ds xs) (lo hi:Option Int):HasL K W H (cutD ds lo hi) (cutV xs lo hi):=by
 unfold cutD cutV
 rw [r.length]
 exact (r.drop _).take _
variable {lo hi:Option Expr} {fl fh:DSt→Res (Option Int)} {p2:Pos}
def whole (n:Nat) (lo hi:Option Int):Prop:=HT.sIx n 0 lo=0∧HT.sIx n n hi=n
instance {n:Nat} {lo hi:Option Int}:Decidable (whole n lo hi):=inferInstanceAs (Decidable (_∧_))
theorem sl_read {σ:L2.St} {H:Hp} {W₀ W:WS} {H₀:Hp} {δ:DSt} {α:Type} {op:D→Option Int→Option Int→Res α} {R:V→Option Int→Option Int→Hp→Prop} {G:Hp→Res α→Prop} (st:StHas X.K W₀ H₀ W H σ δ)
  (hex:∀ H c gs,G H (.ex c gs)→∀ H',Same H H'→xw c gs H') (hst:∀ H,G H .stuck→False) (hG:∀ H H' r,Same H H'→G H r→G H' r)
  (q:G H ((fa δ).bind fun x=>(fl δ).bind fun l=>(fh δ).bind fun u=>op x l u))
  (h:∀ H2 d v l u,Same H H2→WL W H2→HasT X.K W H2 d v→G H2 (op d l u)→R v l u H2):
  tDP X.K xw fa σ H fun x H1=>(fun σ H Q=>∃ W₀ H₀ W δ,StHas X.K W₀ H₀ W H σ δ∧match fl δ with
 | .ok o=>∀ H',Same H H'→Q o H'
 | .ex c fs=>∀ H',Same H H'→xw c fs H'
 | .stuck=>False:TO) σ H1 fun l H2=>(fun σ H Q=>∃ W₀ H₀ W δ,StHas X.K W₀ H₀ W H σ δ∧match fh δ with
 | .ok o=>∀ H',Same H H'→Q o H'
 | .ex c fs=>∀ H',Same H H'→xw c fs H'
 | .stuck=>False:TO) σ H2 fun u H3=>R x l u H3:=by
 refine ⟨W₀,H₀,W,δ,st,?_⟩
 cases h1:fa δ with
 |stuck=>rw [h1] at q;exact hst _ q
 |ex c fs=>rw [h1] at q;exact hex _ _ _ q
 |ok d=>
  rw [h1] at q
  intro v H1 k1 hv
  refine ⟨W₀,H₀,W,δ,st.same k1,?_⟩
  have q':G H ((fl δ).bind fun l=>(fh δ).bind fun u=>op d l u):=q
  cases h2:fl δ with
  |stuck=>rw [h2] at q';exact hst _ q'
  |ex c fs=>rw [h2] at q';exact fun H2 k2=>hex _ _ _ q' H2 (k1.trans k2)
  |ok l=>
   rw [h2] at q'
   intro H2 k2
   refine ⟨W₀,H₀,W,δ,(st.same k1).same k2,?_⟩
   have q2:G H ((fh δ).bind fun u=>op d l u):=q'
   cases h3:fh δ with
   |stuck=>rw [h3] at q2;exact hst _ q2
   |ex c fs=>rw [h3] at q2;exact fun H3 k3=>hex _ _ _ q2 H3 ((k1.trans k2).trans k3)
   |ok u=>
    rw [h3] at q2
    intro H3 k3
    have w1:=st.fr.wl.same k1
    exact h H3 d v l u ((k1.trans k2).trans k3) (st.fr.wl.same ((k1.trans k2).trans k3)) (hv.same (k2.trans k3) w1) (hG _ _ _ ((k1.trans k2).trans k3) q2)
def slL (d:D) (lo hi:Option Int):Res (List D):=match d with
 | .lst ds=> .ok (cutD ds lo hi)
 |_=> .stuck
theorem df_slL (ha:DP X xw a fa) (hl:DO X xw lo fl) (hh:DO X xw hi fh):DF X xw (.Subscript a (.Slice lo hi none p2) pos) (fun δ=>(fa δ).bind fun x=>(fl δ).bind fun l=>(fh δ).bind fun u=>slL x l u):=
 PE.weak (pe_slice sl_list ha hl hh) fun σ H Q ⟨W₀,H₀,W,δ,st,q⟩=>sl_read (G:=fun H r=>RF X.K xw W H r Q) st (fun _ _ _ q=>q) (fun _ q=>q) (fun _ _ _ k q=>RF.same q k) q fun H2 d v l u k w hv q2=>by
  unfold slL at q2
  split at q2
  ·obtain ⟨a1,xs,e1,sq,r⟩:=hv.lst
   exact ⟨a1,xs,e1,sq,fun p hp=>q2 p _ H2 (Same.refl _) hp (cut_has r l u)⟩
  ·exact q2.elim
end
end L3
namespace L3
open PySem PySem.Spec PyProof.Rows L2 SeqAt
inductive Out where
 |nx (δ:DSt)|rt (d:D)|bk (δ:DSt)|ct (δ:DSt)|ex (c:Str) (fs:List D)|stuck
structure Step (W:WS) (H:Hp) (W':WS) (H':Hp):Prop where
 keep:Keep W H H'
 new:∀ b,W' b→W b∨H b=none
section
variable {W W1 W2:WS} {H H1 H2:Hp}
theorem Step.refl:Step W H W H:=⟨fun _ _ e _=>e,fun _ z=> .inl z⟩
theorem Step.same (k:Same H H1):Step W H W H1:=⟨Same.keep k,fun _ z=> .inl z⟩
theorem Step.trans (a:Step W H W1 H1) (b:Step W1 H1 W2 H2):Step W H W2 H2:=by
 refine ⟨fun c o e n=>b.keep c o (a.keep c o e n) fun z=> ?_,fun c z=> ?_⟩
 ·rcases a.new c z with q|q
  ·exact n q
  ·rw [e] at q;cases q
 ·rcases b.new c z with q|q
  ·exact a.new c q
  ·by_cases hw:W c
   ·exact .inl hw
   ·right
    cases e:H c with
    |none=>rfl
    |some o=>rw [a.keep c o e hw] at q;cases q
end
section
variable (K:PySem.W.Frag) (xw:XW)
def RS (W₀:WS) (H₀:Hp) (W:WS) (H:Hp) (o:Out) (Dn:Ends):Prop:=match o with
 | .nx δ=>∀ W' H' σ,Step W H W' H'→StHas K W₀ H₀ W' H' σ δ→Dn.nx σ H'
 | .bk δ=>∀ W' H' σ,Step W H W' H'→StHas K W₀ H₀ W' H' σ δ→Dn.bk σ H'
 | .ct δ=>∀ W' H' σ,Step W H W' H'→StHas K W₀ H₀ W' H' σ δ→Dn.ct σ H'
 | .rt d=>∀ v H',Same H₀ H'→Has K W₀ H' d v→Dn.rt v H'
 | .ex c fs=>∀ H',Same H₀ H'→xw c fs H'
 | .stuck=>False
def tDS (g:DSt→Out):TS:=fun Dn σ H=>∃ W₀ H₀ W δ,StHas K W₀ H₀ W H σ δ∧RS K xw W₀ H₀ W H (g δ) Dn
end
def DS (X:Cx) (xw:XW) (st:Stmt) (g:DSt→Out):Prop:=PS X st (tDS X.K xw g)
def DSs (X:Cx) (xw:XW) (sts:List Stmt) (g:DSt→Out):Prop:=PSs X sts (tDS X.K xw g)
theorem PS.weak {X:Cx} {st:Stmt} {t t':TS} (h:PS X st t) (k:∀ Dn σ H,t' Dn σ H→t Dn σ H):PS X st t':=fun pins s σ H Dn I q=>h pins s σ H Dn I (k Dn σ H q)
theorem PSs.weak {X:Cx} {st:List Stmt} {t t':TS} (h:PSs X st t) (k:∀ Dn σ H,t' Dn σ H→t Dn σ H):PSs X st t':=fun pins s σ H Dn I q=>h pins s σ H Dn I (k Dn σ H q)
section
variable {K:PySem.W.Frag} {xw:XW} {W₀ W W1:WS} {H₀ H H1:Hp} {o:Out} {Dn:Ends}
theorem RS.step (h:RS K xw W₀ H₀ W H o Dn) (k:Step W H W1 H1):RS K xw W₀ H₀ W1 H1 o Dn:=by
 cases o with
 |nx δ=>exact fun W' H' σ k' st=>h W' H' σ (k.trans k') st
 |bk δ=>exact fun W' H' σ k' st=>h W' H' σ (k.trans k') st
 |ct δ=>exact fun W' H' σ k' st=>h W' H' σ (k.trans k') st
 |rt d=>exact h
 |ex c fs=>exact h
 |stuck=>exact h
end
def ofR {α:Type} (r:Res α) (k:α→Out):Out:=match r with
 | .ok a=>k a
 | .ex c fs=> .ex c fs
 | .stuck=> .stuck
def seqO (o:Out) (g:DSt→Out):Out:=match o with
 | .nx δ=>g δ
 |o=>o
section
variable {X:Cx} {xw:XW} {e:Expr} {f:DSt→Res D} {pos:Pos} {st:Stmt} {sts:List Stmt} {g g1 g2:DSt→Out}
theorem dss_nil:DSs X xw [] .nx:=PSs.weak pss_nil fun Dn σ H ⟨W₀,H₀,W,δ,st,q⟩=>q W H σ Step.refl st
theorem dss_cons (h1:DS X xw st g1) (h2:DSs X xw sts g2):DSs X xw (st::sts) (fun δ=>seqO (g1 δ) g2):=PSs.weak (pss_cons h1 h2) fun Dn σ H ⟨W₀,H₀,W,δ,st,q⟩=>by
 refine ⟨W₀,H₀,W,δ,st,?_⟩
 dsimp only at q
 cases h:g1 δ with
 |nx δ'=>
  rw [h] at q
  exact fun W' H' σ' k st'=>⟨W₀,H₀,W',δ',st',RS.step (o:=g2 δ') q k⟩
 |bk δ'=>rw [h] at q;exact q
 |ct δ'=>rw [h] at q;exact q
 |rt d=>rw [h] at q;exact q
 |ex c fs=>rw [h] at q;exact q
 |stuck=>rw [h] at q;exact q
theorem dss_one (h1:DS X xw st g1):DSs X xw [st] g1:=pss_one h1
theorem val_read {σ:L2.St} {H:Hp} {W₀ W:WS} {H₀:Hp} {δ:DSt} {k:D→Out} {Dn:Ends} {R:V→Hp→Prop} (st:StHas X.K W₀ H₀ W H σ δ) (q:RS X.K xw W₀ H₀ W H (ofR (f δ) k) Dn)
  (h:∀ H2 d v,StHas X.K W₀ H₀ W H2 σ δ→Has X.K W H2 d v→RS X.K xw W₀ H₀ W H2 (k d) Dn→R v H2):tDE X.K xw f σ H R:=by
 refine ⟨W₀,H₀,W,δ,st,?_⟩
 cases h1:f δ with
 |stuck=>rw [h1] at q;exact q
 |ex c fs=>rw [h1] at q;exact fun H' k'=>q H' (st.fr.ext.trans k')
 |ok d=>
  rw [h1] at q
  exact fun v H1 k1 hv=>h H1 d v (st.same k1) hv (RS.step (o:=k d) q (Step.same k1))
theorem ds_ret (he:DE X xw e f):DS X xw (.Return (some e) pos) (fun δ=>ofR (f δ) fun d=> .rt d):=PS.weak (ps_ret he) fun Dn σ H ⟨W₀,H₀,W,δ,st,q⟩=>
 val_read st q fun H2 d v st2 hv q2=>q2 v H2 st2.fr.ext (Has.keep (fun _ _ e _=>e) st2.fr.wl (fun b z=> .inl (st2.fr.sub b z)) hv)
theorem ds_retV (i:Nat) {x:Str} {pos':Pos} (hN:X.N[i]? =some x:=by rfl) (hv:Vis X.env.scope x:=by first|exact Or.inl rfl|exact Or.inr (Or.inl rfl)|exact Or.inr (Or.inr rfl)) (hd:(x==("__debug__":Str))=false:=by decide)
  (hcd:(x==("__classdict__":Str))=false:=by decide):DS X xw (.Return (some (.Name x pos')) pos) (fun δ=>ofR (slotP i δ) fun d=> .rt d):=PS.weak (ps_ret (pe_var hN hv hd hcd)) fun Dn σ H ⟨W₀,H₀,W,δ,st,q⟩=>by
 have up:∀ b,W₀ b→W b∨H b=none:=fun b z=> .inl (st.fr.sub b z)
 unfold slotP at q
 dsimp only at q
 split at q
 ·rename_i d h
  obtain ⟨v,e,r⟩:=st.at' i _ h
  exact ⟨v,e,q v H st.fr.ext (Has.keep (fun _ _ e _=>e) st.fr.wl up r)⟩
 ·rename_i ds h
  obtain ⟨v,e,a,xs,r1,r2,r3,r4,r5⟩:=st.at' i _ h
  refine ⟨v,e,q v H st.fr.ext ?_⟩
  rw [Has]
  refine ⟨a,xs,r1, .inl ⟨r4,fun z=> ?_⟩,HasL.keep (fun _ _ e _=>e) st.fr.wl up r5⟩
  obtain ⟨ys,z',_⟩:=st.fr.wl0 a z
  rw [r3] at z';cases z'
 ·exact q.elim
theorem ds_set (i:Nat) {x:Str} {pos':Pos} (hN:X.N.Nodup) (he:DE X xw e f) (hi:X.N[i]? =some x:=by rfl) (hx:Loc X.env.scope x:=by first|exact Or.inl rfl|exact Or.inr rfl) (hs:swapsWith e (some (.Name x pos')) pos.line X.env=pure false:=by rfl)
  (hf:X.fn x=true∨X.env.scope.names.lookup x=some .local:=by first|exact .inl rfl|exact .inr rfl|assumption):DS X xw (.Assign [.Name x pos'] e pos) (fun δ=>ofR (f δ) fun d=> .nx (δ.set i (some (.d d)))):=
 PS.weak (ps_set hN hi hx he hs hf) fun Dn σ H ⟨W₀,H₀,W,δ,st,q⟩=>val_read st q fun H2 d v st2 hv q2=>q2 W H2 _ Step.refl (st2.set hv)
theorem new_read {σ:L2.St} {H:Hp} {W₀ W:WS} {H₀:Hp} {δ:DSt} {ff:DSt→Res (List D)} {i:Nat} {Dn:Ends} (st:StHas X.K W₀ H₀ W H σ δ) (q:RS X.K xw W₀ H₀ W H (ofR (ff δ) fun ds=> .nx (δ.set i (some (.o ds)))) Dn):
  tDF X.K xw ff σ H fun x H1=>gName i x σ H1 Dn.nx:=by
 refine ⟨W₀,H₀,W,δ,st,?_⟩
 cases h1:ff δ with
 |stuck=>rw [h1] at q;exact q
 |ex c fs=>rw [h1] at q;exact fun H' k'=>q H' (st.fr.ext.trans k')
 |ok ds=>
  rw [h1] at q
  intro a xs H1 k n r
  have st1:=(st.same k).own (i:=i) n r
  refine q _ _ _ ⟨fun b o e nb=> ?_,fun b z=>z.elim .inl fun z=> .inr (by rw [z];exact Same.free k n)⟩ st1
  rw [upd_ne (ne_of_none (k b o e) n)];exact k b o e
theorem ds_own (i:Nat) {x:Str} {pos':Pos} {ff:DSt→Res (List D)} (hN:X.N.Nodup) (he:DF X xw e ff) (hi:X.N[i]? =some x:=by rfl) (hx:Loc X.env.scope x:=by first|exact Or.inl rfl|exact Or.inr rfl) (hs:swapsWith e (some (.Name x pos')) pos.line X.env=pure false:=by rfl)
  (hf:X.fn x=true∨X.env.scope.names.lookup x=some .local:=by first|exact .inl rfl|exact .inr rfl|assumption):DS X xw (.Assign [.Name x pos'] e pos) (fun δ=>ofR (ff δ) fun ds=> .nx (δ.set i (some (.o ds)))):=
 PS.weak (ps_set hN hi hx he hs hf) fun Dn σ H ⟨W₀,H₀,W,δ,st,q⟩=>new_read st q
def ifO (c:Res Bool) (a b:Out):Out:=ofR c fun k=>if k=true then a else b
variable {c:Expr} {ga:DSt→Res Bool} {as bs:List Stmt}
theorem ds_if (hc:DT X xw c ga) (ha:DSs X xw as g1) (hb:DSs X xw bs g2):DS X xw (.If c as bs pos) (fun δ=>ifO (ga δ) (g1 δ) (g2 δ)):=PS.weak (ps_if hc ha hb) fun Dn σ H ⟨W₀,H₀,W,δ,st,q⟩=>by
 refine ⟨W₀,H₀,W,δ,st,?_⟩
 unfold ifO at q
 dsimp only at q
 cases h1:ga δ with
 |stuck=>rw [h1] at q;exact q
 |ex c fs=>rw [h1] at q;exact fun H' k'=>q H' (st.fr.ext.trans k')
 |ok k=>
  rw [h1] at q
  intro H1 k1
  have q':RS X.K xw W₀ H₀ W H (if k=true then g1 δ else g2 δ) Dn:=q
  cases k with
  |true=>rw [if_pos rfl] at q' ⊢;exact ⟨W₀,H₀,W,δ,st.same k1,q'.step (Step.same k1)⟩
  |false=>rw [if_neg Bool.false_ne_true] at q' ⊢;exact ⟨W₀,H₀,W,δ,st.same k1,q'.step (Step.same k1)⟩
def tDG (K:PySem.W.Frag) (t:D→DSt→Res DSt):TG:=fun v σ H Q=>∃ W₀ H₀ W δ d,StHas K W₀ H₀ W H σ δ∧Has K W H d v∧match t d δ with
 | .ok δ'=>∀ σ',StHas K W₀ H₀ W H σ' δ'→Q σ' H
 |_=>False
def DG (X:Cx) (tg:Expr) (t:D→DSt→Res DSt):Prop:=PG X tg (tDG X.K t)
theorem PG.weak {X:Cx} {tg:Expr} {t t':TG} (h:PG X tg t) (k:∀ v σ H Q,t' v σ H Q→t v σ H Q):PG X tg t':=fun pins s σ H v u Q I r q=>h pins s σ H v u Q I r (k v σ H Q q)
def setI (i:Nat) (d:D) (δ:DSt):Res DSt:= .ok (δ.set i (some (.d d)))
theorem dg_name (i:Nat) {x:Str} (hN:X.N.Nodup) (hi:X.N[i]? =some x:=by rfl) (hx:Loc X.env.scope x:=by first|exact Or.inl rfl|exact Or.inr rfl) (hf:X.fn x=true∨X.env.scope.names.lookup x=some .local:=by first|exact .inl rfl|exact .inr rfl|assumption):
  DG X (.Name x pos) (setI i):=PG.weak (pg_name hN hi hx hf) fun v σ H Q ⟨W₀,H₀,W,δ,d,st,hv,q⟩=>q _ (st.set hv)
def tDGs (K:PySem.W.Frag) (t:List D→DSt→Res DSt):TGs:=fun vs σ H Q=>∃ W₀ H₀ W δ ds,StHas K W₀ H₀ W H σ δ∧HasL K W H ds vs∧match t ds δ with
 | .ok δ'=>∀ σ',StHas K W₀ H₀ W H σ' δ'→Q σ' H
 |_=>False
def DGs (X:Cx) (tgs:List Expr) (t:List D→DSt→Res DSt):Prop:=PGs X tgs (tDGs X.K t)
theorem PGs.weak {X:Cx} {tg:List Expr} {t t':TGs} (h:PGs X tg t) (k:∀ v σ H Q,t' v σ H Q→t v σ H Q):PGs X tg t':=fun pins s σ H v u Q I r q=>h pins s σ H v u Q I r (k v σ H Q q)
def unNil (ds:List D) (δ:DSt):Res DSt:=match ds with
 | []=> .ok δ
 |_=> .stuck
def unCons (t:D→DSt→Res DSt) (r:List D→DSt→Res DSt) (ds:List D) (δ:DSt):Res DSt:=match ds with
 |d::ds=>(t d δ).bind fun δ'=>r ds δ'
 | []=> .stuck
variable {tg:Expr} {tgs:List Expr} {t:D→DSt→Res DSt} {ts:List D→DSt→Res DSt}
theorem dgs_nil:DGs X [] unNil:=PGs.weak pgs_nil fun vs σ H Q ⟨W₀,H₀,W,δ,ds,st,hv,q⟩=>by
 unfold unNil at q
 cases ds with
 |nil=>rw [HasL] at hv;exact ⟨hv,q σ st⟩
 |cons=>exact q.elim
theorem dgs_cons (h1:DG X tg t) (h2:DGs X tgs ts) (hs:(assignEach (tg::tgs) X.env).map (·.2)=assign tg X.env::(assignEach tgs X.env).map (·.2):=by rfl):DGs X (tg::tgs) (unCons t ts):=
 PGs.weak (pgs_cons h1 h2 hs) fun vs σ H Q ⟨W₀,H₀,W,δ,ds,st,hv,q⟩=>by
  unfold unCons at q
  cases ds with
  |nil=>exact q.elim
  |cons d ds=>
   rw [HasL] at hv
   obtain ⟨x,r,e,h,hr⟩:=hv
   refine ⟨x,r,e,W₀,H₀,W,δ,d,st,h,?_⟩
   dsimp only at q
   cases h1:t d δ with
   |stuck=>rw [h1] at q;exact q
   |ex c fs=>rw [h1] at q;exact q
   |ok δ'=>
    rw [h1] at q
    exact fun σ' st'=>⟨W₀,H₀,W,δ',ds,st',hr,q⟩
def unTup (n:Nat) (ts:List D→DSt→Res DSt) (d:D) (δ:DSt):Res DSt:=match d with
 | .tup ds=>if ds.length=n then ts ds δ else .stuck
 |_=> .stuck
theorem dg_tup {k:Nat} {n:Nat} (hc:X.calm=true) (h:DGs X tgs ts) (hn:(assignEach tgs X.env).length=n:=by rfl) (hst:(assignEach tgs X.env).findIdx? (·.1)=none:=by rfl):DG X (.Tuple tgs k pos) (unTup n ts):=
 PG.weak (pg_tup hc h hn hst) fun v σ H Q ⟨W₀,H₀,W,δ,d,st,hv,q⟩=>by
  unfold unTup at q
  cases d with
  |tup ds=>
   dsimp only at q
   split at q
   ·rename_i hl
    split at hl
    ·rename_i hl'
     rw [Has] at hv
     obtain ⟨a,xs,e,sq,r⟩:=hv
     refine ⟨a,xs,e,sq,by rw [←r.length];exact hl',W₀,H₀,W,δ,ds,st,r,?_⟩
     rw [hl]
     exact q
    ·cases hl
   ·exact q.elim
  |_=>exact q.elim
theorem ds_asg (he:DE X xw e f) (hg:DG X tg t) (hs:swapsWithSole [tg] e pos.line X.env=pure false:=by rfl) (hw:swappedStores [tg] e X.env=pure none:=by rfl)
  (h1:(assignEach [tg] X.env).map (·.2)= [assign tg X.env]:=by rfl):DS X xw (.Assign [tg] e pos) (fun δ=>ofR (f δ) fun d=>match t d δ with| .ok δ'=> .nx δ'|_=> .stuck):=
 PS.weak (ps_asg he hg hs hw h1) fun Dn σ H ⟨W₀,H₀,W,δ,st,q⟩=>val_read st q fun H2 d v st2 hv q2=>by
  refine ⟨W₀,H₀,W,δ,d,st2,hv,?_⟩
  split at q2
  ·exact fun σ' st'=>q2 W H2 σ' Step.refl st'
  ·exact q2.elim
def ItOk (K:PySem.W.Frag) (W:WS) (H:Hp) (J:It) (ds:List D):Prop:=∀ W' H2,Step W H W' H2→WL W' H2→
 (∀ i d,ds[i]? =some d→J.go i H2∧∀ x H3,J.yld i H2 x H3→Same H2 H3∧Has K W' H3 d x)∧J.stop ds.length H2
def tDI (K:PySem.W.Frag) (xw:XW) (f:DSt→Res (List D)):TI:=fun σ H R=>∃ W₀ H₀ W δ,StHas K W₀ H₀ W H σ δ∧match f δ with
 | .ok ds=>∀ J H',Same H H'→ItOk K W H' J ds→R J H'
 | .ex c fs=>∀ H',Same H H'→xw c fs H'
 | .stuck=>False
def DI (X:Cx) (xw:XW) (tg iter:Expr) (f:DSt→Res (List D)):Prop:=PI X tg iter (tDI X.K xw f)
theorem PI.weak {X:Cx} {tg iter:Expr} {t t':TI} (h:PI X tg iter t) (k:∀ σ H R,t' σ H R→t σ H R):PI X tg iter t':=fun pins s σ H R I q=>h pins s σ H R I (k σ H R q)
theorem SqL.lr {K:PySem.W.Frag} {W W':WS} {H H2:Hp} {a:Addr} {xs:List V} (h:LR K W H a xs) (k:Step W H W' H2) (w:WL W H):LR K W' H2 a xs:=h.keep k.keep w k.new
theorem itl_ok {K:PySem.W.Frag} {W:WS} {H:Hp} {a:Addr} {xs:List V} {ds:List D} (w:WL W H) (h:LR K W H a xs) (r:HasL K W H ds xs):ItOk K W H (Itl K a) ds:=by
 intro W' H2 k w2
 have h2:=(SqL.lr h k w).sq
 refine ⟨fun i d e=> ?_,xs,h2,by rw [r.length];exact Nat.le_refl _⟩
 obtain ⟨x,e1,hx⟩:=r.get e
 refine ⟨⟨xs,x,h2,e1⟩,fun y H3 z=> ?_⟩
 obtain ⟨rfl,z⟩:=z
 have:y=x:=by
  have q:=z xs h2
  rw [e1] at q;exact (Option.some.inj q).symm
 subst this
 exact ⟨Same.refl _,Has.keep k.keep w k.new hx⟩
theorem itt_ok {K:PySem.W.Frag} {W:WS} {H:Hp} {a:Addr} {xs:List V} {ds:List D} (w:WL W H) (h:SqT K H a xs) (r:HasL K W H ds xs):ItOk K W H (Itt K a) ds:=by
 intro W' H2 k w2
 have h2:=sqT_keep k.keep w h
 refine ⟨fun i d e=> ?_,xs,h2,by rw [r.length];exact Nat.le_refl _⟩
 obtain ⟨x,e1,hx⟩:=r.get e
 refine ⟨⟨xs,x,h2,e1⟩,fun y H3 z=> ?_⟩
 obtain ⟨rfl,z⟩:=z
 have:y=x:=by
  have q:=z xs h2
  rw [e1] at q;exact (Option.some.inj q).symm
 subst this
 exact ⟨Same.refl _,Has.keep k.keep w k.new hx⟩
def rngD (lo:Int) (n:Nat):List D:=(List.range n).map fun (i:Nat)=>D.int (lo+i)
theorem itr_ok {K:PySem.W.Frag} {W:WS} {H:Hp} (lo:Int) (n:Nat):ItOk K W H (Itr lo n) (rngD lo n):=by
 intro W' H2 k w2
 unfold rngD
 refine ⟨fun i d e=> ?_,by simp [Itr]⟩
 rw [List.getElem?_map] at e
 have hi:i<n:=by
  refine Nat.lt_of_not_le fun z=> ?_
  rw [List.getElem?_eq_none (by simpa using z)] at e;cases e
 rw [List.getElem?_range hi] at e
 have e':D.int (lo+(i:Nat))=d:=Option.some.inj e
 subst e'
 refine ⟨hi,fun x H3 z=> ?_⟩
 obtain ⟨rfl,rfl⟩:=z
 exact ⟨Same.refl _,by rw [Has]⟩
noncomputable def rng1R (ds:List D):Res (List D):=match ds with
 | [.int j]=>@ite (Res (List D)) (-(2^62)≤j∧j<2^62) (Classical.propDecidable _) (.ok (rngD 0 j.toNat)) .stuck
 |_=> .stuck
theorem HasL.one {K:PySem.W.Frag} {W:WS} {H:Hp} {i:Int} {vs:List V} (h:HasL K W H [.int i] vs):vs= [.int i]:=by
 rw [HasL] at h
 obtain ⟨x,r,rfl,h1,h2⟩:=h
 rw [HasL] at h2
 rw [Has] at h1
 rw [h1,h2]
theorem HasL.two {K:PySem.W.Frag} {W:WS} {H:Hp} {i j:Int} {vs:List V} (h:HasL K W H [.int i, .int j] vs):vs= [.int i, .int j]:=by
 rw [HasL] at h
 obtain ⟨x,r,rfl,h1,h2⟩:=h
 rw [Has] at h1
 rw [h1,h2.one]
variable {a b:Expr} {fs:DSt→Res (List D)} {p:Pos}
theorem di_range1 (hm:X.mg "range"=none) (ha:DA X xw [a] fs) (hg:Gl X "range":=by rfl) (hs:starEach [a] X.env= [(false,eval a X.env)]:=by rfl):DI X xw tg (.Call (.Name "range" p) [a] [] pos) (fun δ=>(fs δ).bind rng1R):=
 PI.weak (pi_range1 hg hm ha hs) fun σ H R ⟨W₀,H₀,W,δ,st,q⟩=>by
  refine ⟨W₀,H₀,W,δ,st,?_⟩
  dsimp only at q
  cases h1:fs δ with
  |stuck=>rw [h1] at q;exact q
  |ex c fs=>rw [h1] at q;exact q
  |ok ds=>
   rw [h1] at q
   intro vs H1 k1 hv
   dsimp only [Res.bind] at q
   unfold rng1R at q
   split at q
   ·rename_i ds' hq
    split at hq
    ·rename_i j
     split at hq
     ·rename_i hj
      have e':rngD 0 j.toNat=ds':=by cases hq;rfl
      subst e'
      exact ⟨j,hv.one,hj.1,hj.2,q _ H1 k1 (itr_ok 0 _)⟩
     ·cases hq
    ·cases hq
   ·rename_i hq
    split at hq
    ·split at hq<;>cases hq
    ·cases hq
   ·exact q.elim
def forD (t:D→DSt→Res DSt) (body:DSt→Out):List D→DSt→Out
 | [],δ=> .nx δ
 |d::ds,δ=>match t d δ with
  | .ok δ'=>match body δ' with
   | .nx δ2=>forD t body ds δ2
   | .ct δ2=>forD t body ds δ2
   | .bk δ2=> .nx δ2
   | .rt d=> .rt d
   | .ex c fs=> .ex c fs
   | .stuck=> .stuck
  |_=> .stuck
theorem ds_for {iter:Expr} {fi:DSt→Res (List D)} (hp:PassesOwn (model X.prog X.w) X.A X.env X.xe) (hc:X.calm=true) (hi:DI X xw tg iter fi) (hg:DG X tg t) (hb:DSs X xw sts g)
  (hs:∀ x,foldedSetIterable iter X.env x=pure x:=by intro _;rfl):DS X xw (.For tg iter sts [] pos) (fun δ=>ofR (fi δ) fun ds=>forD t g ds δ):=
 PS.weak (ps_for hp hc hi hg hb hs) fun Dn σ H ⟨W₀,H₀,W,δ,st,q⟩=>by
  refine ⟨W₀,H₀,W,δ,st,?_⟩
  dsimp only at q
  cases h1:fi δ with
  |stuck=>rw [h1] at q;exact q
  |ex c fs=>rw [h1] at q;exact fun H' k'=>q H' (st.fr.ext.trans k')
  |ok ds=>
   rw [h1] at q
   intro J H1 k1 it
   have q1:RS X.K xw W₀ H₀ W H1 (forD t g ds δ) Dn:=RS.step (o:=forD t g ds δ) q (Step.same k1)
   refine ⟨fun i m σ' H'=>∃ W' δ',m=ds.length-i∧i≤ds.length∧StHas X.K W₀ H₀ W' H' σ' δ'∧Step W H1 W' H'∧RS X.K xw W₀ H₀ W' H' (forD t g (ds.drop i) δ') Dn,
    ⟨_,W,δ,rfl,Nat.zero_le _,st.same k1,Step.refl,q1⟩,?_⟩
   rintro i m σ' H' ⟨W',δ',rfl,hi,st',k',q'⟩
   obtain ⟨items,stop⟩:=it W' H' k' st'.fr.wl
   by_cases hl:i<ds.length
   ·right
    have e:ds[i]? =some ds[i]:=List.getElem?_eq_getElem hl
    obtain ⟨go,yld⟩:=items i _ e
    have ed:ds.drop i=ds[i]::ds.drop (i+1):=List.drop_eq_getElem_cons hl
    rw [ed] at q'
    unfold forD at q'
    refine ⟨go,fun σ2 H2=>∃ W2 δ2,StHas X.K W₀ H₀ W2 H2 σ2 δ2∧Step W H1 W2 H2∧RS X.K xw W₀ H₀ W2 H2 (forD t g (ds.drop (i+1)) δ2) Dn,fun σ2 H2 ⟨W2,δ2,a1,a2,a3⟩=>⟨ds.length-(i+1),by omega,W2,δ2,rfl,hl,a1,a2,a3⟩,fun x H3 z=> ?_⟩
    obtain ⟨k3,hx⟩:=yld x H3 z
    refine ⟨W₀,H₀,W',δ',ds[i],st'.same k3,hx,?_⟩
    cases h2:t ds[i] δ' with
    |stuck=>rw [h2] at q';exact q'
    |ex c fs=>rw [h2] at q';exact q'
    |ok δ2=>
     rw [h2] at q'
     intro σ2 st2
     refine ⟨W₀,H₀,W',δ2,st2,?_⟩
     dsimp only at q'
     have kk:Step W' H' W' H3:=Step.same k3
     cases h3:g δ2 with
     |nx δ3=>rw [h3] at q';exact fun W3 H4 σ3 k4 st3=>⟨W3,δ3,st3,(k'.trans kk).trans k4,RS.step (o:=forD t g (ds.drop (i+1)) δ3) q' (kk.trans k4)⟩
     |ct δ3=>rw [h3] at q';exact fun W3 H4 σ3 k4 st3=>⟨W3,δ3,st3,(k'.trans kk).trans k4,RS.step (o:=forD t g (ds.drop (i+1)) δ3) q' (kk.trans k4)⟩
     |bk δ3=>rw [h3] at q';exact fun W3 H4 σ3 k4 st3=>q' W3 H4 σ3 (kk.trans k4) st3
     |rt d=>rw [h3] at q';exact q'
     |ex c fs=>rw [h3] at q';exact q'
     |stuck=>rw [h3] at q';exact q'
   ·left
    have ei:i=ds.length:=by omega
    subst ei
    rw [List.drop_length] at q'
    exact ⟨stop,q' W' H' σ' Step.refl st'⟩
def whileD (c:DSt→Res Bool) (body:DSt→Out):Nat→DSt→Out
 |0,_=> .stuck
 |n+1,δ=>match c δ with
  | .ok true=>match body δ with
   | .nx δ2=>whileD c body n δ2
   | .ct δ2=>whileD c body n δ2
   | .bk δ2=> .nx δ2
   | .rt d=> .rt d
   | .ex c fs=> .ex c fs
   | .stuck=> .stuck
  | .ok false=> .nx δ
  | .ex c fs=> .ex c fs
  | .stuck=> .stuck
end
end L3
namespace L3
open PySem PySem.Spec PyProof.Rows L2 SeqAt
def noex {α:Type}:Res α→Res α
 | .ok a=> .ok a
 |_=> .stuck
def compD (t:D→DSt→Res DSt) (c:DSt→Res Bool) (fe:DSt→Res D):List D→DSt→Res (List D)
 | [],_=> .ok []
 |d::ds,δ=>match t d δ with
  | .ok δ'=>(noex (c δ')).bind fun k=>if k=true then (noex (fe δ')).bind fun x=>(compD t c fe ds δ').bind fun r=> .ok (x::r) else compD t c fe ds δ'
  |_=> .stuck
abbrev xwF:XW:=fun _ _ _=>False
section
variable {K:PySem.W.Frag} {W₀ W:WS} {H₀ H:Hp} {σ:L2.St} {δ:DSt} {a:Addr}
theorem StHas.acc {xs ys:List V} (h:StHas K W₀ (upd H₀ a (.lst xs)) W H σ δ) (ha:H a=some (.lst xs)) (hW:W a):StHas K W₀ (upd H₀ a (.lst ys)) W (upd H a (.lst ys)) σ δ:=by
 have kk:Keep W H (upd H a (.lst ys)):=fun b o e n=>by
  rw [upd_ne (fun z=>n (by rw [z];exact hW))];exact e
 have hw:∀ b,W b→W b∨H b=none:=fun b z=> .inl z
 have fr':FrOk W₀ (upd H₀ a (.lst ys)) W (upd H a (.lst ys)):=by
  refine ⟨fun b o e=> ?_,h.fr.sub,fun b z=> ?_,fun b z=> ?_⟩
  ·by_cases hb:b=a
   ·subst hb;rw [upd_same] at e ⊢;exact e
   ·rw [upd_ne hb] at e ⊢
    exact h.fr.ext b o (by rw [upd_ne hb];exact e)
  ·by_cases hb:b=a
   ·rw [hb];exact ⟨_,upd_same,trivial⟩
   ·rw [upd_ne hb];exact h.fr.wl b z
  ·by_cases hb:b=a
   ·rw [hb];exact ⟨_,upd_same,trivial⟩
   ·have:=h.fr.wl0 b z
    rw [upd_ne hb] at this ⊢;exact this
 have na:∀ (j:Nat) (s:S) (v:V) (b:Addr),δ[j]? =some (some s)→σ[j]? =some (some v)→Owns H s v b→b≠a:=fun j s v b e e' o z=>by
  obtain ⟨v',h1,h2⟩:=h.at' j s e
  rw [e'] at h1;cases h1
  obtain ⟨_,g,_⟩:=h2.owns o
  rw [z,upd_same] at g;cases g
 have bk:∀ (j:Nat) (s:S) (v:V) (b:Addr),δ[j]? =some (some s)→σ[j]? =some (some v)→Owns (upd H a (.lst ys)) s v b→Owns H s v b:=fun j s v b e e' o=>by
  obtain ⟨v',h1,h2⟩:=h.at' j s e
  rw [e'] at h1;cases h1
  refine Owns.back h2 (fun c xs ec z=> ?_) o
  subst ec
  cases s with
  |d y=>exact o.elim
  |o ds=>rw [upd_ne (na j _ _ c e e' rfl)];exact z
  |q ks ds=>rw [upd_ne (na j _ _ c e e' rfl)];exact z
  |w dss=>rw [upd_ne (na j _ _ c e e' (.inl rfl))];exact z
 refine ⟨fr',h.len,fun j s e=> ?_,fun i j s t u v b ij e1 e2 e3 e4 o1 o2=>h.ap i j s t u v b ij e1 e2 e3 e4 (bk i s u b e1 e3 o1) (bk j t v b e2 e4 o2)⟩
 obtain ⟨v,h1,h2⟩:=h.at' j s e
 refine ⟨v,h1,?_⟩
 cases s with
 |d x=>exact Has.keep kk h.fr.wl hw h2
 |o ds'=>
  obtain ⟨b,zs,e',g1,g2,g3,g4⟩:=h2
  have hb:b≠a:=fun z=>by
   rw [z,upd_same] at g2;cases g2
  rw [upd_ne hb] at g2
  exact ⟨b,zs,e',g1,by rw [upd_ne hb];exact g2,by rw [upd_ne hb];exact g3,HasL.keep kk h.fr.wl hw g4⟩
 |q ks' ds'=>
  obtain ⟨b,zs,e',g1,g2,g3,g4,g5⟩:=h2
  have hb:b≠a:=fun z=>by
   rw [z,upd_same] at g2;cases g2
  rw [upd_ne hb] at g2
  exact ⟨b,zs,e',g1,by rw [upd_ne hb];exact g2,by rw [upd_ne hb];exact g3,g4,HasL.keep kk h.fr.wl hw g5⟩
 |w dss=>
  obtain ⟨b,bs,e',g1,g2,g3,g4,g5,g6,g7⟩:=h2
  have hb:b≠a:=fun z=>by
   rw [z,upd_same] at g2;cases g2
  rw [upd_ne hb] at g2
  refine ⟨b,bs,e',g1,by rw [upd_ne hb];exact g2,by rw [upd_ne hb];exact g3,g4,g5,g6,fun i c ds e1 e2=> ?_⟩
  obtain ⟨f1,f2,xs',f3,f4⟩:=g7 i c ds e1 e2
  have hc:c≠a:=fun z=>by
   rw [z,upd_same] at f2;cases f2
  rw [upd_ne hc] at f2
  exact ⟨f1,by rw [upd_ne hc];exact f2,xs',by rw [upd_ne hc];exact f3,HasL.keep kk h.fr.wl hw f4⟩
theorem StHas.block (n:Nat) (h:StHas K W₀ H₀ W H σ δ) (ha:H a=none):StHas K W₀ (upd H₀ a (.lst [])) (fun b=>W b∨b=a) (upd H a (.lst [])) (List.replicate n none++σ) (List.replicate n none++δ):=by
 have hw:∀ b,(W b∨b=a)→W b∨H b=none:=fun b z=>z.elim .inl fun z=> .inr (by rw [z];exact ha)
 have k:Same H (upd H a (.lst [])):=same_upd ha
 have kk:Keep W H (upd H a (.lst [])):=Same.keep k
 have ha0:H₀ a=none:=Same.free h.fr.ext ha
 have fr':FrOk W₀ (upd H₀ a (.lst [])) (fun b=>W b∨b=a) (upd H a (.lst [])):=by
  refine ⟨fun b o e=> ?_,fun b z=> .inl (h.fr.sub b z),fun b z=>z.elim (h.fr.wl.same k b) fun z=>by rw [z];exact ⟨_,upd_same,trivial⟩,h.fr.wl0.same (same_upd ha0)⟩
  by_cases hb:b=a
  ·subst hb;rw [upd_same] at e ⊢;exact e
  ·rw [upd_ne hb] at e ⊢
   exact h.fr.ext b o e
 have idx:∀ {α:Type} (l:List (Option α)) (j:Nat) (x:α),(List.replicate n none++l)[j]? =some (some x)→n≤j∧l[j-n]? =some (some x):=fun l j x e=>by
  by_cases hj:j<n
  ·rw [List.getElem?_append_left (by simpa using hj),List.getElem?_replicate] at e
   split at e<;>cases e
  ·refine ⟨Nat.le_of_not_lt hj,?_⟩
   rw [List.getElem?_append_right (by simpa using hj),List.length_replicate] at e;exact e
 have back:∀ {α:Type} (l:List (Option α)) (j:Nat) (x:Option α),n≤j→l[j-n]? =some x→(List.replicate n none++l)[j]? =some x:=fun l j x hj e=>by
  rw [List.getElem?_append_right (by simpa using hj),List.length_replicate];exact e
 refine ⟨fr',by simp [h.len],fun j s e=> ?_,fun i j s1 s2 u u' b hij e1 e2 e3 e4 os ot=> ?_⟩
 ·obtain ⟨hj,e⟩:=idx _ _ _ e
  obtain ⟨v,h1,h2⟩:=h.at' _ s e
  refine ⟨v,back _ _ _ hj h1,?_⟩
  cases s with
  |d x=>exact Has.keep kk h.fr.wl hw h2
  |o ds'=>
   obtain ⟨b,ys,e',g1,g2,g3,g4⟩:=h2
   have hb:b≠a:=ne_of_none g3 ha
   exact ⟨b,ys,e', .inl g1,by rw [upd_ne hb];exact g2,k _ _ g3,HasL.keep kk h.fr.wl hw g4⟩
  |q ks' ds'=>
   obtain ⟨b,ys,e',g1,g2,g3,g4,g5⟩:=h2
   have hb:b≠a:=ne_of_none g3 ha
   exact ⟨b,ys,e', .inl g1,by rw [upd_ne hb];exact g2,k _ _ g3,g4,HasL.keep kk h.fr.wl hw g5⟩
  |w dss=>
   obtain ⟨b,bs,e',g1,g2,g3,g4,g5,g6,g7⟩:=h2
   have hb:b≠a:=ne_of_none g3 ha
   refine ⟨b,bs,e', .inl g1,by rw [upd_ne hb];exact g2,k _ _ g3,g4,g5,g6,fun i c ds e1 e2=> ?_⟩
   obtain ⟨f1,f2,xs',f3,f4⟩:=g7 i c ds e1 e2
   have hc:c≠a:=ne_of_none f3 ha
   exact ⟨.inl f1,by rw [upd_ne hc];exact f2,xs',k _ _ f3,HasL.keep kk h.fr.wl hw f4⟩
 ·obtain ⟨hi,e1⟩:=idx _ _ _ e1
  obtain ⟨hj,e2⟩:=idx _ _ _ e2
  obtain ⟨_,e3⟩:=idx _ _ _ e3
  obtain ⟨_,e4⟩:=idx _ _ _ e4
  have bk:∀ (j:Nat) (s:S) (v:V),δ[j]? =some (some s)→σ[j]? =some (some v)→Owns _ s v b→Owns H s v b:=fun j s v e e' o=>by
   obtain ⟨v',h1,h2⟩:=h.at' j s e
   rw [e'] at h1;cases h1
   exact Owns.back h2 (fun c xs _ z=>k _ _ z) o
  exact h.ap (i-n) (j-n) s1 s2 u u' b (by omega) e1 e2 e3 e4 (bk _ _ _ e1 e3 os) (bk _ _ _ e2 e4 ot)
end
section
variable {X:Cx} {xw:XW} {scope:Scope} {elt tg iter e:Expr} {ifs:List Expr} {pos:Pos} {fi:DSt→Res (List D)} {t:D→DSt→Res DSt} {gc:DSt→Res Bool} {fe f:DSt→Res D}
noncomputable def compR (n:Nat) (t:D→DSt→Res DSt) (gc:DSt→Res Bool) (fe:DSt→Res D) (δ:DSt) (ds:List D):Res (List D):=@ite (Res (List D)) (ds.length≤100000) (Classical.propDecidable _) (noex (compD t gc fe ds (List.replicate n none++δ))) .stuck
def DTs (X:Cx) (ifs:List Expr) (g:DSt→Res Bool):Prop:=PTs X ifs (tDT X.K xwF g)
theorem dts_nil:DTs X [] (fun _=> .ok true):=fun pins s σ H Q I ⟨_,_,_,_,_,q⟩=>pts_nil pins s σ H Q I (q H (Same.refl H))
theorem dts_one {c:Expr} (h:DT X xwF c gc):DTs X [c] gc:=pts_one h
theorem comp_read {Nc:Nat} {σ:L2.St} {H:Hp} {Q:VK} (q:tDF X.K xw (fun δ=>(fi δ).bind fun ds=>compR Nc t gc fe δ ds) σ H Q):
  tComp Nc (tDI X.K xw fi) (tDG X.K t) (tDT X.K xwF gc) (tDE X.K xwF fe) σ H Q:=by
 obtain ⟨W₀,H₀,W,δ,st,q⟩:=q
 refine ⟨W₀,H₀,W,δ,st,?_⟩
 dsimp only at q
 cases h1:fi δ with
 |stuck=>rw [h1] at q;exact q
 |ex c fs=>rw [h1] at q;exact q
 |ok ds=>
  rw [h1] at q
  intro J H1 k1 it a ha
  have q1:RF X.K xw W H (compR Nc t gc fe δ ds) Q:=q
  unfold compR at q1
  split at q1
  case isFalse=>exact q1.elim
  rename_i hlen
  have st1:=st.same k1
  cases hc:compD t gc fe ds (List.replicate Nc none++δ) with
  |stuck=>rw [hc] at q1;exact q1.elim
  |ex c fs=>rw [hc] at q1;exact q1.elim
  |ok all=>
  rw [hc] at q1
  have q2:∀ a xs H1,Same H H1→H1 a=none→HasL X.K W H1 all xs→Q (.ref a) (upd H1 a (.lst xs)):=q1
  refine ⟨fun i m xs σ' H'=>∃ δ' acc rest,m=ds.length-i∧i≤ds.length∧StHas X.K W₀ (upd H₀ a (.lst xs)) (fun b=>W b∨b=a) H' σ' δ'∧H' a=some (.lst xs)∧(∀ b o,H1 b=some o→H' b=some o)∧
    HasL X.K (fun b=>W b∨b=a) H' acc xs∧compD t gc fe (ds.drop i) δ'= .ok rest∧acc++rest=all∧xs.length≤i,
   ⟨_,List.replicate Nc none++δ,[],all,rfl,Nat.zero_le _,st1.block Nc ha,upd_same,fun b o e=>by rw [upd_ne (ne_of_none e ha)];exact e,HasL.nil,hc,rfl,Nat.zero_le _⟩,?_⟩
  rintro i m xs σ' H' ⟨δ',acc,rest,rfl,hi,st',hxs,ks,hacc,hrest,hall,hxl⟩
  refine ⟨hxs,?_⟩
  have k':Step W H1 (fun b=>W b∨b=a) H':=⟨fun b o e _=>ks b o e,fun b z=>z.elim .inl fun z=> .inr (by rw [z];exact ha)⟩
  obtain ⟨items,stop⟩:=it _ H' k' st'.fr.wl
  by_cases hl:i<ds.length
  ·right
   have e:ds[i]? =some ds[i]:=List.getElem?_eq_getElem hl
   obtain ⟨go,yld⟩:=items i _ e
   have ed:ds.drop i=ds[i]::ds.drop (i+1):=List.drop_eq_getElem_cons hl
   rw [ed] at hrest
   unfold compD at hrest
   refine ⟨go,fun x H3 z=> ?_⟩
   obtain ⟨k3,hx⟩:=yld x H3 z
   refine ⟨W₀,_,_,δ',ds[i],st'.same k3,hx,?_⟩
   cases h2:t ds[i] δ' with
   |stuck=>rw [h2] at hrest;cases hrest
   |ex c fs=>rw [h2] at hrest;cases hrest
   |ok δ2=>
    rw [h2] at hrest
    dsimp only at hrest
    intro σ2 st2
    refine ⟨W₀,_,_,δ2,st2,?_⟩
    cases h3:gc δ2 with
    |stuck=>rw [h3] at hrest;cases hrest
    |ex c fs=>rw [h3] at hrest;cases hrest
    |ok k=>
     rw [h3] at hrest
     intro H4 k4
     cases k with
     |false=>
      rw [if_neg Bool.false_ne_true]
      have hr':compD t gc fe (ds.drop (i+1)) δ2= .ok rest:=hrest
      exact ⟨ds.length-(i+1),by omega,δ2,acc,rest,rfl,hl,st2.same k4,k4 _ _ (k3 _ _ hxs),fun b o e=>k4 _ _ (k3 _ _ (ks b o e)),(hacc.same k3 st'.fr.wl).same k4 (st'.fr.wl.same k3),hr',hall,by omega⟩
     |true=>
      rw [if_pos rfl]
      have hr':(noex (fe δ2)).bind (fun x=>(compD t gc fe (ds.drop (i+1)) δ2).bind fun r=> .ok (x::r))= .ok rest:=hrest
      refine ⟨W₀,_,_,δ2,st2.same k4,?_⟩
      cases h5:fe δ2 with
      |stuck=>rw [h5] at hr';cases hr'
      |ex c fs=>rw [h5] at hr';cases hr'
      |ok y=>
       rw [h5] at hr'
       intro v H5 k5 hv
       have hr2:(compD t gc fe (ds.drop (i+1)) δ2).bind (fun r=> .ok (y::r))= .ok rest:=hr'
       cases h6:compD t gc fe (ds.drop (i+1)) δ2 with
       |stuck=>rw [h6] at hr2;cases hr2
       |ex c fs=>rw [h6] at hr2;cases hr2
       |ok r=>
        rw [h6] at hr2
        have er:y::r=rest:=by cases hr2;rfl
        have h5a:H5 a=some (.lst xs):=k5 _ _ (k4 _ _ (k3 _ _ hxs))
        have w3:=st'.fr.wl.same k3
        have w4:=w3.same k4
        have w5:=w4.same k5
        have acc5:=((hacc.same k3 st'.fr.wl).same k4 w3).same k5 w4
        have kk:Keep (fun b=>W b∨b=a) H5 (upd H5 a (.lst (xs++ [v]))):=fun b o e n=>by
         rw [upd_ne (fun z=>n (.inr z))];exact e
        have sz:sizeLine=16777216:=sizeLine_eq
        refine ⟨h5a,by omega,ds.length-(i+1),by omega,δ2,acc++ [y],r,rfl,hl,((st2.same k4).same k5).acc h5a (.inr rfl),upd_same,fun b o e=> ?_,HasL.keep kk w5 (fun b z=> .inl z) (acc5.snoc hv),h6,?_,?_⟩
        ·rw [upd_ne (ne_of_none e ha)];exact k5 _ _ (k4 _ _ (k3 _ _ (ks b o e)))
        ·rw [List.append_assoc];show acc++(y::r)=all;rw [er];exact hall
        ·rw [List.length_append,List.length_singleton];omega
  ·left
   have ei:i=ds.length:=by omega
   subst ei
   rw [List.drop_length] at hrest
   unfold compD at hrest
   have er:rest= []:=by cases hrest;rfl
   subst er
   rw [List.append_nil] at hall
   subst hall
   refine ⟨stop,?_⟩
   have hm:(fun b=>if b=a then none else H' b:Hp) a=none:=if_pos rfl
   have eu:upd (fun b=>if b=a then none else H' b:Hp) a (.lst xs)=H':=by
    funext b
    by_cases hb:b=a
    ·rw [hb,upd_same,hxs]
    ·rw [upd_ne hb,if_neg hb]
   have r:=q2 a xs (fun b=>if b=a then none else H' b) (fun b o e=>by
    have e1:=k1 b o e
    show (if b=a then none else H' b)=some o
    rw [if_neg (ne_of_none e1 ha)];exact ks b o e1) hm (HasL.keep (W:=fun b=>W b∨b=a) (W':=W) (fun b o e n=>by show (if b=a then none else H' b)=some o;rw [if_neg (fun z=>n (.inr z))];exact e) st'.fr.wl (fun b z=> .inl (.inl z)) hacc)
   rw [eu] at r
   exact r
theorem df_comp (Nc Nx:List Str) (c:CompOk X scope Nc Nx) (hcalm:X.calm=true) (hi:DI X xw tg iter fi)
  (hY:∀ (C:Addr) (fp:List Addr) (pins:List (Addr×Obj)) (s:Shared) (H:Hp),DG (compCx X scope Nc Nx C fp pins s H) tg t∧DTs (compCx X scope Nc Nx C fp pins s H) ifs gc∧DE (compCx X scope Nc Nx C fp pins s H) xwF elt fe)
  (hs:∀ x,foldedSetIterable iter X.env x=pure x:=by intro _;rfl):
  DF X xw (.ListComp elt [⟨tg,iter,ifs,0⟩] scope pos) (fun δ=>(fi δ).bind fun ds=>compR Nc.length t gc fe δ ds):=
 PE.weak (pe_comp (g:=tDG X.K t) (tt:=tDT X.K xwF gc) (te:=tDE X.K xwF fe) c hcalm hi hY hs) fun σ H Q q=>comp_read q
noncomputable def appO (i:Nat) (δ:DSt) (r:Res D):Out:=match δ[i]? with
 |some (some (.o ds))=>@ite Out (ds.length≤100000) (Classical.propDecidable _) (ofR r fun d=> .nx (δ.set i (some (.o (ds++ [d]))))) .stuck
 |_=> .stuck
theorem ds_append (i:Nat) {x:Str} {p1 p2 p3:Pos} (he:DE X xw e f) (hN:X.N[i]? =some x:=by rfl) (hv:Vis X.env.scope x:=by first|exact Or.inl rfl|exact Or.inr (Or.inl rfl)|exact Or.inr (Or.inr rfl)) (hd:(x==("__debug__":Str))=false:=by decide)
  (hcd:(x==("__classdict__":Str))=false:=by decide)
  (hsE:starEach [e] X.env=(false,eval e X.env)::starEach [] X.env:=by rfl)
  (hbase:attributeBase (.Name x p1) "append" X.env (eval (.Name x p1) X.env)=eval (.Name x p1) X.env:=by rfl)
  (hfew:((backTo p3 (starEach [e] X.env)).all (fun x=> !x.1)&&(backToKw p3 (keywordEach [] X.env)).all (fun x=>x.1.isSome)
   &&decide (([e]:List Expr).length+([]:List Keyword).length+(if ([]:List Keyword).isEmpty then 0 else 1)<30))=true:=by rfl)
  (hline:(p2.endLine==p3.line)=true:=by rfl) (hplain:(backTo p3 (starEach [] X.env)).any (·.1)=false:=by rfl)
  (hsw:swapsWith (.Call (.Attribute (.Name x p1) "append" p2) [e] [] p3) none pos.line X.env=pure false:=by rfl):
  DS X xw (.Expr (.Call (.Attribute (.Name x p1) "append" p2) [e] [] p3) pos) (fun δ=>appO i δ (f δ)):=
 PS.weak (ps_expr (pe_bm PySem.F.plainAttrs_list PySem.F.slot_list_append PySem.F.type_list_append mt_append (pe_var hN hv hd hcd) (pa_cons he pa_nil hsE) hbase hfew hline hsE hplain) hsw) fun Dn σ H ⟨W₀,H₀,W,δ,st,q⟩=>by
  unfold appO at q
  dsimp only at q
  split at q
  ·rename_i ds h
   split at q
   ·rename_i hlen
    obtain ⟨v,e1,a,xs,rfl,r2,r3,r4,r5⟩:=st.at' i _ h
    refine ⟨_,e1, .inl ⟨rfl,xs, .of r4⟩,?_⟩
    refine val_read st q fun H2 d u st2 hu q2=> ?_
    obtain ⟨v',e1',a',ys,e',r2',r3',r4',r5'⟩:=st2.at' i _ h
    rw [e1] at e1'
    cases e1'
    cases e'
    have sz:sizeLine=16777216:=sizeLine_eq
    refine ⟨a,ys,u,rfl,rfl,r4',?_,?_⟩
    ·rw [←r5'.length];omega
    ·refine q2 W _ σ ⟨fun b o e n=> ?_,fun _ z=> .inl z⟩ (st2.change h e1 r4' r2' (r5'.snoc hu))
     rw [upd_ne (fun z=>n (by rw [z];exact r2'))];exact e
   ·exact q.elim
  ·exact q.elim
def spD (K:PySem.W.Frag) (n:Nat) (m:List D→Res D):Sp:=fun vs H Q _=>vs.length=n∧∃ W ds,WL W H∧HasL K W H ds vs∧match m ds with
 | .ok d=>∀ v H',Same H H'→Has K W H' d v→Q v H'
 |_=>False
structure Fn (P:Program) (w:World) (K:PySem.W.Frag) (mg:Str→Option Value) (base:Heap) (k:Nat) (x:Str) (n:Nat) (m:List D→Res D):Prop where
 ex:∃ f fd ps,FnOk P w K mg base CX0 k f fd ps (spD K n m)∧mg x=some (.ref f)∧PySem.W.keepIn K (.ref f)=true∧Binds K fd ps []
theorem Fn.mono {P:Program} {w:World} {K:PySem.W.Frag} {mg:Str→Option Value} {base:Heap} {j k n:Nat} {x:Str} {m:List D→Res D} (F:Fn P w K mg base j x n m) (h:j≤k):Fn P w K mg base k x n m:=by
 obtain ⟨f,fd,ps,a,b⟩:=F.ex
 exact ⟨f,fd,ps,a.mono h,b⟩
def startD (n:Nat) (ds:List D):DSt:=ds.map (fun d=>some (.d d))++List.replicate (n-ds.length) none
def runD (n:Nat) (g:DSt→Out) (ds:List D):Res D:=match g (startD n ds) with
 | .rt d=> .ok d
 | .nx _=> .ok .non
 |_=> .stuck
theorem start_has {K:PySem.W.Frag} {W:WS} {H:Hp} {N:List Str} {ds:List D} {vs:List V} (w:WL W H) (r:HasL K W H ds vs):StHas K W H W H (L2.start N vs) (startD N.length ds):=by
 have hl:=r.length
 have idx:∀ {α:Type} (l:List α) (j:Nat) (x:α) (m:Nat),(l.map some++List.replicate m none)[j]? =some (some x)→l[j]? =some x:=fun l j x m e=>by
  by_cases hj:j<l.length
  ·rw [List.getElem?_append_left (by simpa using hj),List.getElem?_map] at e
   cases q:l[j]? with
   |none=>rw [q] at e;cases e
   |some z=>rw [q] at e;cases e;rfl
  ·rw [List.getElem?_append_right (by simpa using hj),List.getElem?_replicate] at e
   split at e<;>cases e
 have eS:startD N.length ds=(ds.map S.d).map some++List.replicate (N.length-ds.length) none:=by
  unfold startD;rw [List.map_map];rfl
 refine ⟨⟨Same.refl _,fun _ z=>z,w,w⟩,?_,fun i s e=> ?_,fun i j s1 s2 u u' a _ e1 _ _ _ os _=> ?_⟩
 ·unfold L2.start startD;simp [hl]
 ·rw [eS] at e
  have e':=idx _ _ _ _ e
  rw [List.getElem?_map] at e'
  cases q:ds[i]? with
  |none=>rw [q] at e';cases e'
  |some d=>
   rw [q] at e'
   cases e'
   obtain ⟨x,h1,h2⟩:=r.get q
   refine ⟨x,?_,h2⟩
   unfold L2.start
   have hi:i<vs.length:=(List.getElem?_eq_some_iff.mp h1).1
   rw [List.getElem?_append_left (by simpa using hi),List.getElem?_map,h1];rfl
 ·rw [eS] at e1
  have e':=idx _ _ _ _ e1
  rw [List.getElem?_map] at e'
  cases q:ds[i]? with
  |none=>rw [q] at e';cases e'
  |some d=>rw [q] at e';cases e';exact os
theorem fn_body {P:Program} {w:World} {K:PySem.W.Frag} {mg:Str→Option Value} {base:Heap} {k:Nat} {x qual:Str} {st:Stmt} {fa:Addr} {fd:FuncData} {N ps:List Str} {g:DSt→Out} (F:Fun K x qual st fa fd) (S:FnScope N ps (defScope st))
  (hm:mg x=some (.ref fa)) (hb:Binds K fd ps [])
  (body:∀ (cdv:Value) (A:Around) (outer:List Env) (s:Shared) (H:Hp) (E:XK),Room k (A.deeper (envOfC qual (defScope st) s.heap.objs.size fa cdv))→
   DSs (cxOf CX0 P w K mg base N qual (defScope st) fa cdv A outer s H E).nox xwF (defBody st) g):Fn P w K mg base (k+1) x ps.length (runD N.length g):=by
 refine ⟨fa,fd,ps,F.ok S (fun vs H Q E h=>h.1) (fun cdv A outer s H vs Q E hr h=> ?_),hm,F.kp,hb⟩
 obtain ⟨hl,W,ds,hw,hd,q⟩:=h
 refine ⟨_,body cdv A outer s H E hr,W,H,W,startD N.length ds,start_has hw hd,?_⟩
 unfold runD at q
 cases h:g (startD N.length ds) with
 |rt d=>rw [h] at q;exact fun v H' k hv=>q v H' k hv
 |nx δ=>rw [h] at q;exact fun W' H' σ' k st'=>q .non H' st'.fr.ext (by rw [Has])
 |bk δ=>rw [h] at q;exact q.elim
 |ct δ=>rw [h] at q;exact q.elim
 |ex c fs=>rw [h] at q;exact q.elim
 |stuck=>rw [h] at q;exact q.elim
def callR (n:Nat) (m:List D→Res D) (ds:List D):Res D:=if ds.length=n then noex (m ds) else .stuck
theorem de_call {a:Expr} {es:List Expr} {k n:Nat} {x:Str} {m:List D→Res D} {fs:DSt→Res (List D)} {p:Pos} (F:Fn X.prog X.w X.K X.mg X.base k x n m) (hr:Room k X.A) (ha:DA X xw (a::es) fs) (hg:Gl X x:=by rfl)
  (hdb:(x==("__debug__":Str))=false:=by decide) (he:starEach (a::es) X.env=(false,eval a X.env)::starEach es X.env:=by rfl) (hpl:(backTo pos (starEach es X.env)).any (·.1)=false:=by rfl):
  DE X xw (.Call (.Name x p) (a::es) [] pos) (fun δ=>(fs δ).bind fun ds=>callR n m ds):=by
 obtain ⟨fa,fd,ps,G,hm,hk,hb⟩:=F.ex
 refine PE.weak (pe_call G hr hg hm hk hb .nil pass0 ha hdb he hpl) fun σ H Q ⟨W₀,H₀,W,δ,st,q⟩=> ?_
 refine args_read st q fun H2 ds vs k w st2 hv _ q2=> ?_
 unfold callR at q2
 split at q2
 ·rename_i hn
  rw [List.append_nil]
  refine ⟨by rw [←hv.length];exact hn,W,ds,w,hv,?_⟩
  cases h:m ds with
  |ok d=>rw [h] at q2;exact q2
  |ex c fs=>rw [h] at q2;exact q2
  |stuck=>rw [h] at q2;exact q2
 ·exact q2.elim
theorem de_callB1 {a:Expr} {fa:DSt→Res D} {x:Str} {id:String} {r:List V→Hp→VK→Prop} {op:D→Res D} {p:Pos} (hc:CallR X (.builtin id) r) (hop:∀ W H d v Q,WL W H→HasT X.K W H d v→RE X.K xw W H (op d) Q→r [v] H Q)
  (hm:X.mg x=none) (hv:bootBuiltins x=some (.builtin id)) (ha:DP X xw a fa) (hg:Gl X x) (hn:x≠"__name__") (hdb:(x==("__debug__":Str))=false)
  (he:starEach [a] X.env=(false,eval a X.env)::starEach [] X.env) (hpl:(backTo pos (starEach [] X.env)).any (·.1)=false):DE X xw (.Call (.Name x p) [a] [] pos) (fun δ=>(fa δ).bind op):=
 PE.weak (pe_callB hc hg hm hv (pa_cons ha pa_nil he) hn hdb he hpl) fun σ H Q ⟨W₀,H₀,W,δ,st,q⟩=>one_read st q fun H2 d v k w st2 hv _ q2=>hop W H2 d v Q w hv q2
theorem de_callT1 {a:Expr} {fa:DSt→Res D} {x:Str} {id:String} {r:List V→Hp→VK→Prop} {op:D→Res D} {p:Pos} (hc:CallR X (.type id) r) (hop:∀ W H d v Q,WL W H→HasT X.K W H d v→RE X.K xw W H (op d) Q→r [v] H Q)
  (hm:X.mg x=none) (hv:bootBuiltins x=some (.type id)) (ha:DP X xw a fa) (hg:Gl X x) (hn:x≠"__name__") (hdb:(x==("__debug__":Str))=false)
  (he:starEach [a] X.env=(false,eval a X.env)::starEach [] X.env) (hpl:(backTo pos (starEach [] X.env)).any (·.1)=false):DE X xw (.Call (.Name x p) [a] [] pos) (fun δ=>(fa δ).bind op):=
 PE.weak (pe_callTy hc hg hm hv (pa_cons ha pa_nil he) hn hdb he hpl) fun σ H Q ⟨W₀,H₀,W,δ,st,q⟩=>one_read st q fun H2 d v k w st2 hv _ q2=>hop W H2 d v Q w hv q2
noncomputable def lenR:D→Res D
 | .tup ds=> .ok (.int ds.length)
 | .lst ds=> .ok (.int ds.length)
 | .str z=>@ite (Res D) (z.length≤sizeLine) (Classical.propDecidable _) (.ok (.int z.length)) .stuck
 |_=> .stuck
variable {a b:Expr} {fa fb:DSt→Res D} {p:Pos}
theorem de_len (hm:X.mg "len"=none) (ha:DP X xw a fa) (hg:Gl X "len":=by rfl) (he:starEach [a] X.env=(false,eval a X.env)::starEach [] X.env:=by rfl) (hpl:(backTo pos (starEach [] X.env)).any (·.1)=false:=by rfl):
  DE X xw (.Call (.Name "len" p) [a] [] pos) (fun δ=>(fa δ).bind lenR):=
 de_callB1 call_len (fun W H d v Q w hv q=>by
  unfold lenR at q
  split at q
  ·obtain ⟨p,xs,e,sq,r⟩:=hv.tup
   rw [e]
   exact ⟨_,xs.length,rfl, .inr ⟨xs,sq,rfl⟩,by rw [←r.length];exact q.int⟩
  ·obtain ⟨p,xs,e,sq,r⟩:=hv.lst
   rw [e]
   exact ⟨_,xs.length,rfl, .inl ⟨xs,sq,rfl⟩,by rw [←r.length];exact q.int⟩
  ·split at q
   ·rename_i hz
    rw [hv.str]
    exact ⟨_,_,rfl,⟨hz,rfl⟩,q.int⟩
   ·exact q.elim
  ·exact q.elim) hm PySem.boot_len ha hg (by decide) (by decide) he hpl
def tyD:D→Option String
 | .non=>some "NoneType"
 | .bl _=>some "bool"
 | .int _=>some "int"
 | .str _=>some "str"
 | .tup _=>some "tuple"
 | .lst _=>some "list"
 | .dct _ _=>some "dict"
 | .exc _ _=>none
 | .obj _ _ _=>none
def isiB (T C:String):Bool:=T==C||(T=="bool"&&C=="int")
def isiR (C:String) (d:D):Res D:=match tyD d with
 |some T=> .ok (.bl (isiB T C))
 |none=> .stuck
def isiOk (C:String):Prop:=∀ (K:PySem.W.Frag),∀ T∈ ["NoneType","bool","int","str","tuple","list","dict"],PySem.W.kitOne K (.type T) (.type C)=some (isiB T C)
theorem isi_str:isiOk "str":=by intro K T hT;simp only [List.mem_cons,List.not_mem_nil,or_false] at hT;rcases hT with rfl|rfl|rfl|rfl|rfl|rfl|rfl<;>kernel_rfl
theorem isi_list:isiOk "list":=by intro K T hT;simp only [List.mem_cons,List.not_mem_nil,or_false] at hT;rcases hT with rfl|rfl|rfl|rfl|rfl|rfl|rfl<;>kernel_rfl
theorem call_isi {C:String} (hC:isiOk C):CallR X (.builtin "isinstance") (fun xs H Q=>∃ W d x T,xs= [x, .ty C]∧HasT X.K W H d x∧tyD d=some T∧Q (.bl (isiB T C)) H):=by
 intro pins s σ H xs us Q I r h
 obtain ⟨W,d,x,T,rfl,hd,ht,q⟩:=h
 obtain ⟨u,u2,rfl,rx,rc⟩:=r.two
 obtain rfl:u2=Value.type C:=rc
 have hk:=hC X.K T (by cases d<;>cases ht<;>simp)
 have fin:∀ tk,EP X pins σ Q (.bool (isiB T C)) {s with toks:=tk}:=fun tk=>⟨.bl _,H,I.tok tk,rfl,q⟩
 cases d with
 |non=>
  cases ht
  have:=hd.non;subst this
  cases (show u=Value.none from rx)
  exact PySem.W.kia_one PySem.W.kitx_none I.kIn True.intro hk (fun z=>nomatch z) fin
 |bl b=>
  cases ht
  have:=hd.bl;subst this
  cases (show u=Value.bool b from rx)
  exact PySem.W.kia_one PySem.W.kitx_bool I.kIn True.intro hk (fun z=>nomatch z) fin
 |int b=>
  cases ht
  have:=hd.int;subst this
  obtain ⟨t,rfl⟩:=(show ∃ t,u=Value.int b t from rx)
  exact PySem.W.kia_one PySem.W.kitx_int I.kIn True.intro hk (fun z=>nomatch z) fin
 |str b=>
  cases ht
  have:=hd.str;subst this
  obtain ⟨t,rfl⟩:=(show ∃ t,u=Value.str b t from rx)
  exact PySem.W.kia_one PySem.W.kitx_str I.kIn True.intro hk (fun z=>nomatch z) fin
 |tup ds=>
  cases ht
  obtain ⟨a,xs,rfl,sq,_⟩:=hd.tup
  cases (show u=Value.ref a from rx)
  obtain ⟨its,_,⟨o,h1,h2,_⟩,_⟩:=I.tuple sq
  exact PySem.W.kia_one PySem.W.kitx_tuple I.kIn ⟨o,h1,h2⟩ hk (fun z=>nomatch z) fin
 |lst ds=>
  cases ht
  obtain ⟨a,xs,rfl,sq,_⟩:=hd.lst
  cases (show u=Value.ref a from rx)
  obtain ⟨its,_,⟨o,n,h1,h2,_⟩,_⟩:=I.list sq
  exact PySem.W.kia_one PySem.W.kitx_list I.kIn ⟨o,h1,h2⟩ hk (fun z=>nomatch z) fin
 |dct ks ds=>
  cases ht
  rcases hd with hd|⟨_,_,_,z,_⟩
  ·rw [Has] at hd
   obtain ⟨a,kvs,rfl,⟨ob,ea⟩,_⟩:=hd
   cases (show u=Value.ref a from rx)
   obtain ⟨_,_,_,vs,_,p⟩:=(show ObjOk X.prog X.w H s.heap a (.frz ob (.dK kvs)) from I.hok a _ ea)
   obtain ⟨o,es,ep,h1,h2,_⟩:=p
   exact PySem.W.kia_one PySem.W.kitx_dict I.kIn ⟨o,h1,h2.1⟩ hk (fun z=>nomatch z) fin
  ·cases z
 |exc c ds=>cases ht
 |obj c k ds=>cases ht
theorem de_isi {C:String} {c:Str} {p2:Pos} (hC:isiOk C) (hbc:bootBuiltins c=some (.type C)) (hm:X.mg "isinstance"=none) (hmc:X.mg c=none) (ha:DP X xw a fa) (hg:Gl X "isinstance":=by rfl) (hgc:Gl X c:=by rfl) (hcn:c≠"__name__":=by decide)
  (hcd:(c==("__debug__":Str))=false:=by decide)
  (he:starEach [a, .Name c p2] X.env=(false,eval a X.env)::starEach [.Name c p2] X.env:=by rfl) (he2:starEach [.Name c p2] X.env=(false,eval (.Name c p2) X.env)::starEach [] X.env:=by rfl)
  (hpl:(backTo pos (starEach [.Name c p2] X.env)).any (·.1)=false:=by rfl):
  DE X xw (.Call (.Name "isinstance" p) [a, .Name c p2] [] pos) (fun δ=>(fa δ).bind (isiR C)):=
 PE.weak (pe_callB (call_isi hC) hg hm (by decide +kernel) (pa_cons ha (pa_cons (pe_bltn (v:= .ty C) hgc hmc hbc rfl hcn hcd) pa_nil he2) he) (by decide) (by decide) he hpl) fun σ H Q ⟨W₀,H₀,W,δ,st,q⟩=>one_read st q fun H2 d v k w st2 hv _ q2=>by
  unfold isiR at q2
  split at q2
  ·rename_i T hT
   exact ⟨W,d,v,T,rfl,hv,hT,q2.bl⟩
  ·exact q2.elim
def asBools:List D→Option (List Bool)
 | []=>some []
 | .bl b::r=>(asBools r).map (b:: ·)
 |_=>none
def allR:D→Res D
 | .lst ds=>match asBools ds with
  |some bs=> .ok (.bl (bs.all id))
  |none=> .stuck
 |_=> .stuck
theorem asBools_get:∀ {ds:List D} {bs:List Bool} {i:Nat} {d:D},asBools ds=some bs→ds[i]? =some d→∃ b,d= .bl b∧bs[i]? =some b
 | [],_,_,_,_,e=>by simp at e
 | .bl b::r,bs,i,d,h,e=>by
  rw [asBools] at h
  obtain ⟨bs',h1,rfl⟩:=Option.map_eq_some_iff.mp h
  cases i with
  |zero=>simp at e;subst e;exact ⟨b,rfl,rfl⟩
  |succ i=>
   obtain ⟨b',e1,e2⟩:=asBools_get h1 (by simpa using e)
   exact ⟨b',e1,by simpa using e2⟩
 | .non::_,_,_,_,h,_=>by simp [asBools] at h
 | .int _::_,_,_,_,h,_=>by simp [asBools] at h
 | .str _::_,_,_,_,h,_=>by simp [asBools] at h
 | .tup _::_,_,_,_,h,_=>by simp [asBools] at h
 | .lst _::_,_,_,_,h,_=>by simp [asBools] at h
 | .dct _ _::_,_,_,_,h,_=>by simp [asBools] at h
 | .exc _ _::_,_,_,_,h,_=>by simp [asBools] at h
 | .obj _ _ _::_,_,_,_,h,_=>by simp [asBools] at h
theorem asBools_len:∀ {ds:List D} {bs:List Bool},asBools ds=some bs→bs.length=ds.length
 | [],_,h=>by rw [asBools] at h;cases h;rfl
 | .bl b::r,bs,h=>by
  rw [asBools] at h
  obtain ⟨bs',h1,rfl⟩:=Option.map_eq_some_iff.mp h
  rw [List.length_cons,List.length_cons,asBools_len h1]
 | .non::_,_,h=>by simp [asBools] at h
 | .int _::_,_,h=>by simp [asBools] at h
 | .str _::_,_,h=>by simp [asBools] at h
 | .tup _::_,_,h=>by simp [asBools] at h
 | .lst _::_,_,h=>by simp [asBools] at h
 | .dct _ _::_,_,h=>by simp [asBools] at h
 | .exc _ _::_,_,h=>by simp [asBools] at h
 | .obj _ _ _::_,_,h=>by simp [asBools] at h
theorem range_all (bs:List Bool):(List.range bs.length).all (fun i=>bs.getD i false)=bs.all id:=by
 induction bs with
 |nil=>rfl
 |cons b bs ih=>
  rw [List.length_cons,List.range_succ_eq_map,List.all_cons,List.all_map,List.all_cons,←ih]
  rfl
theorem call_allL (hc:X.calm=true):CallR X (.builtin "all") (fun xs H Q=>∃ W ds bs v,xs= [v]∧HasT X.K W H (.lst ds) v∧asBools ds=some bs∧Q (.bl (bs.all id)) H):=by
 intro pins s σ H xs us Q I r h
 obtain ⟨W,ds,bs,v,rfl,hd,hb,q⟩:=h
 obtain ⟨u,rfl,rx⟩:=vals1 r
 obtain ⟨a,ys,rfl,sq,rl⟩:=hd.lst
 cases (show u=Value.ref a from rx)
 obtain ⟨its,rv,pl,hz⟩:=I.list sq
 have hlt:a<s.heap.objs.size:=by obtain ⟨_,e,_⟩:=pl.isList;exact Heap.lt_size e
 have hh:X.A.in1.handled=none:=I.ok.hd hc
 refine call_all_walk (wpAny_pyIter_list pl.isList ?_)
 refine ⟨s.heap.objs.size,_,_,_,_,_,fun i=>bs.getD i false,rfl,Walks.list hh s.heap.objs.size a (Nat.ne_of_lt hlt) its.toArray,⟨⟨_,Heap.get?_push_size _ rfl,rfl,rfl⟩,pl.isList.push _⟩,fun i v s' Q' E' hP hQ'=> ?_,fun h' tk hk=> ?_⟩
 ·have hi:its[i]? =some v:=by simpa using hP
  have hil:i<ys.length:=by rw [rv.length];exact (List.getElem?_eq_some_iff.mp hi).1
  obtain ⟨x,e1⟩:∃ x,ys[i]? =some x:=⟨_,List.getElem?_eq_getElem hil⟩
  obtain ⟨d,e2,hx⟩:=rl.at' e1
  obtain ⟨b,rfl,e3⟩:=asBools_get hb e2
  rw [Has] at hx
  subst hx
  obtain ⟨w',e4,rw'⟩:=rv.get e1
  rw [hi] at e4;cases e4
  cases (show v=Value.bool b from rw')
  refine wpAny_truthy_bool ?_
  have:bs.getD i false=b:=by rw [List.getD_eq_getElem?_getD,e3];rfl
  dsimp only at hQ'
  rw [this] at hQ'
  exact hQ'
 ·have e:its.toArray.size=bs.length:=by rw [List.size_toArray,asBools_len hb,rl.length,rv.length]
  rw [e,range_all]
  refine ⟨.bl _,H,?_,rfl,q⟩
  refine I.kept (fun b o e=>hk b o ?_ (Heap.get?_push_of_some _ e))
  intro z
  have:b=s.heap.objs.size:=by simpa using z
  exact absurd (Heap.lt_size e) (by rw [this];exact Nat.lt_irrefl _)
theorem de_all (hc:X.calm=true) (hm:X.mg "all"=none) (ha:DP X xw a fa) (hg:Gl X "all":=by rfl) (he:starEach [a] X.env=(false,eval a X.env)::starEach [] X.env:=by rfl) (hpl:(backTo pos (starEach [] X.env)).any (·.1)=false:=by rfl):
  DE X xw (.Call (.Name "all" p) [a] [] pos) (fun δ=>(fa δ).bind allR):=
 de_callB1 (call_allL hc) (fun W H d v Q w hv q=>by
  unfold allR at q
  split at q
  ·split at q
   ·rename_i hb
    exact ⟨W,_,_,v,rfl,hv,hb,q.bl⟩
   ·exact q.elim
  ·exact q.elim) hm PyProof.Rows.boot_all ha hg (by decide) (by decide) he hpl
end
end L3
namespace L3
open PySem PySem.Spec PyProof.Rows L2 SeqAt
def kD (d:D):DSt→Res D:=fun _=> .ok d
def b1 {α β:Type} (op:α→Res β) (f:DSt→Res α):DSt→Res β:=fun δ=>(f δ).bind op
def b2 (op:D→D→Res D) (f g:DSt→Res D):DSt→Res D:=fun δ=>(f δ).bind fun x=>(g δ).bind fun y=>op x y
def b3 {β:Type} (op:D→Option Int→Option Int→Res β) (f:DSt→Res D) (g h:DSt→Res (Option Int)):DSt→Res β:=fun δ=>(f δ).bind fun x=>(g δ).bind fun l=>(h δ).bind fun u=>op x l u
def bCh (op op':D→D→Res D) (fa fb fc:DSt→Res D):DSt→Res D:=fun δ=>(fa δ).bind fun x=>(fb δ).bind fun y=>chainR op op' x y (fc δ)
def tR (f:DSt→Res D):DSt→Res Bool:=fun δ=>(f δ).bind boolR
def tAnd2 (a b:DSt→Res Bool):DSt→Res Bool:=fun δ=>andB (a δ) (b δ)
def tOr2 (a b:DSt→Res Bool):DSt→Res Bool:=fun δ=>orB (a δ) (b δ)
def tNot1 (a:DSt→Res Bool):DSt→Res Bool:=fun δ=>(a δ).bind fun k=> .ok (!k)
def vAnd (a b:DSt→Res D):DSt→Res D:=fun δ=>andD (a δ) (b δ)
def vOr (a b:DSt→Res D):DSt→Res D:=fun δ=>orD (a δ) (b δ)
def vIf (c:DSt→Res Bool) (a b:DSt→Res D):DSt→Res D:=fun δ=>(c δ).bind fun k=>if k=true then a δ else b δ
def aNil:DSt→Res (List D):=fun _=> .ok []
def aCons (f:DSt→Res D) (fs:DSt→Res (List D)):DSt→Res (List D):=fun δ=>consR (f δ) (fs δ)
def oNone:DSt→Res (Option Int):=fun _=> .ok none
def asD (f:DSt→Res (List D)):DSt→Res D:=fun δ=>(f δ).bind fun ds=> .ok (.lst ds)
noncomputable def vComp (n:Nat) (t:D→DSt→Res DSt) (gc:DSt→Res Bool) (fe:DSt→Res D) (fi:DSt→Res (List D)):DSt→Res (List D):=fun δ=>(fi δ).bind fun ds=>compR n t gc fe δ ds
def sSeq (g1 g2:DSt→Out):DSt→Out:=fun δ=>seqO (g1 δ) g2
def sSet (i:Nat) (f:DSt→Res D):DSt→Out:=fun δ=>ofR (f δ) fun d=> .nx (δ.set i (some (.d d)))
def sOwn (i:Nat) (f:DSt→Res (List D)):DSt→Out:=fun δ=>ofR (f δ) fun ds=> .nx (δ.set i (some (.o ds)))
def sIf (c:DSt→Res Bool) (a b:DSt→Out):DSt→Out:=fun δ=>ifO (c δ) (a δ) (b δ)
def sFor (t:D→DSt→Res DSt) (g:DSt→Out) (fi:DSt→Res (List D)):DSt→Out:=fun δ=>ofR (fi δ) fun ds=>forD t g ds δ
def sWhile (n:Nat) (c:DSt→Res Bool) (g:DSt→Out):DSt→Out:=fun δ=>whileD c g n δ
noncomputable def sApp (i:Nat) (f:DSt→Res D):DSt→Out:=fun δ=>appO i δ (f δ)
def sRet (f:DSt→Res D):DSt→Out:=fun δ=>ofR (f δ) fun d=> .rt d
def sRetN:DSt→Out:=fun _=> .rt .non
def sExpr (f:DSt→Res D):DSt→Out:=fun δ=>ofR (f δ) fun _=> .nx δ
def asgO (t:D→DSt→Res DSt) (δ:DSt) (d:D):Out:=match t d δ with
 | .ok δ'=> .nx δ'
 |_=> .stuck
def sAsg (t:D→DSt→Res DSt) (f:DSt→Res D):DSt→Out:=fun δ=>ofR (f δ) (asgO t δ)
section
variable {X:Cx} {xw:XW} {e a b c:Expr} {f fa fb:DSt→Res D} {pos p:Pos} {st:Stmt} {tg:Expr} {t:D→DSt→Res DSt} {fs:DSt→Res (List D)}
theorem ds_asg' (he:DE X xw e f) (hg:DG X tg t) (hs:swapsWithSole [tg] e pos.line X.env=pure false:=by rfl) (hw:swappedStores [tg] e X.env=pure none:=by rfl)
  (h1:(assignEach [tg] X.env).map (·.2)= [assign tg X.env]:=by rfl):DS X xw (.Assign [tg] e pos) (sAsg t f):=
 PS.weak (ds_asg he hg hs hw h1) fun Dn σ H ⟨W₀,H₀,W,δ,st,q⟩=>⟨W₀,H₀,W,δ,st,by
  change RS X.K xw W₀ H₀ W H (ofR (f δ) (asgO t δ)) Dn at q
  dsimp only
  cases hf:f δ with
  |stuck=>rw [hf] at q;exact q
  |ex c fs=>rw [hf] at q;exact q
  |ok d=>
   rw [hf] at q
   have q':RS X.K xw W₀ H₀ W H (asgO t δ d) Dn:=q
   unfold asgO at q'
   show RS X.K xw W₀ H₀ W H (match t d δ with| .ok δ'=> .nx δ'|_=> .stuck) Dn
   cases ht:t d δ with
   |ok δ'=>rw [ht] at q';exact q'
   |ex c fs=>rw [ht] at q';exact q'
   |stuck=>rw [ht] at q';exact q'⟩
def seqR:D→Res (List D)
 | .tup ds=> .ok ds
 | .lst ds=> .ok ds
 |_=> .stuck
def tupofR:D→Res D
 | .tup ds=> .ok (.tup ds)
 | .lst ds=> .ok (.tup ds)
 |_=> .stuck
theorem de_tupof (hm:X.mg "tuple"=none) (ha:DP X xw a fa) (hg:Gl X "tuple":=by rfl) (he:starEach [a] X.env=(false,eval a X.env)::starEach [] X.env:=by rfl) (hpl:(backTo pos (starEach [] X.env)).any (·.1)=false:=by rfl):
  DE X xw (.Call (.Name "tuple" p) [a] [] pos) (b1 tupofR fa):=
 de_callT1 call_tuple_of (fun W H d v Q w hv q2=>by
  unfold tupofR at q2
  split at q2
  ·obtain ⟨p,xs,e,sq,r⟩:=hv.tup
   rw [e]
   exact ⟨p,xs,rfl, .inr ⟨sq,q2 _ H (Same.refl _) (by rw [Has];exact ⟨p,xs,rfl,sq,r⟩)⟩⟩
  ·obtain ⟨p,xs,e,sq,r⟩:=hv.lst
   rw [e]
   exact ⟨p,xs,rfl, .inl ⟨sq,fun l hl=>q2.newT w hl r⟩⟩
  ·exact q2.elim) hm (by decide +kernel) ha hg (by decide) (by decide) he hpl
def maxR:List D→Res D
 | [.int i, .int j]=> .ok (.int (max i j))
 |_=> .stuck
def minR:List D→Res D
 | [.int i, .int j]=> .ok (.int (min i j))
 |_=> .stuck
def absR:D→Res D
 | .int i=> .ok (.int (if i<0 then -i else i))
 |_=> .stuck
variable {lo hi:Option Expr} {fl fh:DSt→Res (Option Int)} {p2:Pos}
def slD (d:D) (lo hi:Option Int):Res D:=match d with
 | .tup ds=>if whole ds.length lo hi then .stuck else .ok (.tup (cutD ds lo hi))
 | .lst ds=> .ok (.lst (cutD ds lo hi))
 |_=> .stuck
def iSeq (K:PySem.W.Frag) (tl:TE):TI:=fun σ H R=>tl σ H fun x H1=>∃ a,x= .ref a∧(((∃ xs,SqL K H1 a xs)∧R (Itl K a) H1)∨((∃ xs,SqT K H1 a xs)∧R (Itt K a) H1))
theorem pi_seq {l:Expr} {tl:TE} (hl:PE X l tl):PI X tg l (iSeq X.K tl):=by
 intro pins s σ H R I h
 refine thn (hl pins s σ H _ I h) fun v s1 ⟨x,H1,I1,r1,q1⟩=> ?_
 obtain ⟨a,e,q1⟩:=q1
 subst e
 cases r1
 rcases q1 with ⟨⟨xs,hq⟩,q⟩|⟨⟨xs,hq⟩,q⟩
 ·obtain ⟨its,rv,p,hz⟩:=I1.list hq
  refine wpAny_pyIter_list p.isList ?_
  refine ⟨s1.heap.objs.size,[s1.heap.objs.size],_,_,H1,rfl,I1.kept (t':=s1.toks) fun b o e=>Heap.get?_push_of_some _ e,turn_list a _,⟨_,Heap.get?_push_size _ rfl,rfl,rfl⟩,fun b hb=> ?_,q⟩
  have e:b=s1.heap.objs.size:=by simpa using hb
  subst e
  exact I1.fpOk (Nat.le_refl _) (I1.hok.fresh (Nat.le_refl _))
 ·obtain ⟨its,rv,p,hz⟩:=I1.tuple hq
  refine wpAny_pyIter_tuple (show s1.heap.IsTuple a its.toArray from p) ?_
  refine ⟨s1.heap.objs.size,[s1.heap.objs.size],_,_,H1,rfl,I1.kept (t':=s1.toks) fun b o e=>Heap.get?_push_of_some _ e,turn_tuple a _,⟨_,Heap.get?_push_size _ rfl,rfl,rfl⟩,fun b hb=> ?_,q⟩
  have e:b=s1.heap.objs.size:=by simpa using hb
  subst e
  exact I1.fpOk (Nat.le_refl _) (I1.hok.fresh (Nat.le_refl _))
theorem di_seq (h:DE X xw e f):DI X xw tg e (b1 seqR f):=PI.weak (pi_seq h) fun σ H R ⟨W₀,H₀,W,δ,st,q⟩=>by
 refine ⟨W₀,H₀,W,δ,st,?_⟩
 simp only [b1] at q
 cases h1:f δ with
 |stuck=>rw [h1] at q;exact q
 |ex c fs=>rw [h1] at q;exact q
 |ok d=>
  rw [h1] at q
  intro v H1 k1 hv
  cases d with
  |lst ds=>
   rw [Has] at hv
   obtain ⟨a,xs,e,sq,r⟩:=hv
   exact ⟨a,e, .inl ⟨⟨xs,sq.sq⟩,q _ H1 k1 (itl_ok (st.fr.wl.same k1) sq r)⟩⟩
  |tup ds=>
   rw [Has] at hv
   obtain ⟨a,xs,e,sq,r⟩:=hv
   exact ⟨a,e, .inr ⟨⟨xs,sq⟩,q _ H1 k1 (itt_ok (st.fr.wl.same k1) sq r)⟩⟩
  |_=>exact q.elim
theorem dk_empty {P:Program} {w:World} {H:Hp} (h:Heap) (hb:sysModules<h.objs.size):ObjOk P w H (h.push {cls:= .type "dict",data:= .dict #[]}) h.objs.size (.dK []):=
 ⟨Nat.zero_le _,beq_eq_false_iff_ne.mpr (Ne.symm (Nat.ne_of_lt hb)),[], .nil,Heap.DictOf.new h⟩
end
def notNR (d:D):Res D:=match d with
 | .non=> .ok (.bl false)
 |_=> .ok (.bl true)
section
variable {X:Cx} {xw:XW} {a:Expr} {fa:DSt→Res D} {pos:Pos}
theorem dt_notN' {j pos'} (ha:DP X xw a fa):DT X xw (.Compare a [.IsNot] [.Constant .none j pos'] pos) (tR (b1 notNR fa)):=
 DE.t_of (f:=b1 notNR fa) (PT.weak (pt_cmp (pc_notN ha)) fun σ H Q q=>by
  obtain ⟨W₀,H₀,W,δ,st,q⟩:=q
  exact one_read st q fun H2 d v k w st2 hv _ q2=>by
   unfold notNR at q2
   split at q2
   ·rw [hv.non];exact q2.bl
   ·rename_i hd
    rw [decide_eq_false (hv.isN hd)];exact q2.bl)
end
theorem hu40 {A:Around} {k:Nat} (hr:Room k A):A.units+40<cLine:=by have:=hr.units;omega
theorem fn_bodyO {P:Program} {w:World} {K:PySem.W.Frag} {mg:Str→Option Value} {base:Heap} {k:Nat} {x qual:Str} {st:Stmt} {fa:Addr} {fd:FuncData} {N ps:List Str} {g:DSt→Out} (F:Fun K x qual st fa fd) (S:FnScope N ps (defScope st))
  (body:∀ (cdv:Value) (A:Around) (outer:List Env) (s:Shared) (H:Hp) (E:XK),Room k (A.deeper (envOfC qual (defScope st) s.heap.objs.size fa cdv))→
   DSs (cxOf CX0 P w K mg base N qual (defScope st) fa cdv A outer s H E).nox xwF (defBody st) g):FnOk P w K mg base CX0 (k+1) fa fd ps (spD K ps.length (runD N.length g)):=by
 refine F.ok S (fun vs H Q E h=>h.1) (fun cdv A outer s H vs Q E hr h=> ?_)
 obtain ⟨hl,W,ds,hw,hd,q⟩:=h
 refine ⟨_,body cdv A outer s H E hr,W,H,W,startD N.length ds,start_has hw hd,?_⟩
 unfold runD at q
 cases h:g (startD N.length ds) with
 |rt d=>rw [h] at q;exact fun v H' k hv=>q v H' k hv
 |nx δ=>rw [h] at q;exact fun W' H' σ' k st'=>q .non H' st'.fr.ext (by rw [Has])
 |bk δ=>rw [h] at q;exact q.elim
 |ct δ=>rw [h] at q;exact q.elim
 |ex c fs=>rw [h] at q;exact q.elim
 |stuck=>rw [h] at q;exact q.elim
def spLaw (K:PySem.W.Frag):Sp:=fun vs H Q _=>∃ (a:Addr) (ns:List Int),vs= [.ref a]∧SqL K H a (ns.map V.int)∧ns.length≤63∧∀ H',Q (.bl true) H'
theorem law_of {P:Program} {w:World} {K:PySem.W.Frag} {mg:Str→Option Value} {base:Heap} {k:Nat} {f:Addr} {fd:FuncData} {ps:List Str} {m:List D→Res D} (G:FnOk P w K mg base CX0 k f fd ps (spD K 1 m))
  (h:∀ ns:List Int,ns.length≤63→m [.lst (ns.map D.int)]= .ok (.bl true)):FnOk P w K mg base CX0 k f fd ps (spLaw K):=by
 refine G.imp fun vs H Q E q=> ?_
 obtain ⟨a,ns,rfl,sq,hl,q⟩:=q
 refine ⟨rfl,fun _=>False,[.lst (ns.map D.int)],fun b z=>z.elim,HasL.cons ?_ HasL.nil,?_⟩
 ·rw [Has]
  refine ⟨a,_,rfl,?_,HasL.ints⟩
  rcases sq with (z|z)|z
  ·exact .inl ⟨z,fun z=>z⟩
  ·exact .inr (.inl z)
  ·exact .inr (.inr z)
 ·rw [h ns hl]
  intro v H' k hv
  rw [Has] at hv
  rw [hv]
  exact q H'
end L3
namespace L3
open PySem
section
variable {prog:Program} {w:World} {A:Around} {E:Value→Shared→Prop} {s:Shared}
theorem nextT_item {it t:Addr} {i:Nat} {items:Array Value} {x:Value} {Q:Value→Shared→Prop} (hi:s.heap.IsTupleIter it t i) (ht:s.heap.IsTuple t items) (hx:items[i]? =some x)
  (hQ:∀ h',h'.IsTupleIter it t (i+1)→Heap.SameBut it s.heap h'→Q x {s with heap:=h'}):wpAny (model prog w) A (Builtin.SmallTypes.nextOf (.ref it)) Q E s:=by
 obtain ⟨o,h1,h2,h3⟩:=id hi
 obtain ⟨u,g1,g2,m,g3⟩:=ht
 unfold Builtin.SmallTypes.nextOf
 refine wpAny_bind (wpAny_callSpecial?_slot (name:=Str.ofString "__next__") hi.typeIs F.slot_tuple_iterator_next (wpAny_call_entry F.slot_tuple_iterator_next hi.typeIs F.entry_tuple_iterator_next ?_ (F.args_tuple_iterator_next_1 _)))
 show wpAny _ _ (field (.ref it) 0 >>= _) _ _ s;refine wpAny_bind (wpAny_field h1 h3 (x:= .ref t) rfl ?_)
 show wpAny _ _ (if (Value.ref t==Value.none)=true then _ else _) _ _ s;rw [if_neg (show ¬ ((Value.ref t==Value.none)=true) from Bool.false_ne_true)]
 show wpAny _ _ (field (.ref it) 1 >>= _) _ _ s;refine wpAny_bind (wpAny_field h1 h3 (x:= .int i 0) rfl ?_)
 show wpAny _ _ (seqItems? (.ref t) >>= _) _ _ s;refine wpAny_bind (wpAny_seqItems g1 g3 ?_)
 simp only [Int.toNat_natCast,hx]
 refine wpAny_bind (wpAny_setField h1 h3 (by simp) (wpAny_pure ⟨x,rfl,wpAny_pure (hQ _ ⟨_,Heap.get?_update_self _ h1 (Obj.isFreed_of_fields (Obj.data_mapFields h3 _)),(Obj.cls_mapFields ..).trans h2,?_⟩ (Heap.SameBut.update ..))⟩))
 rw [Obj.data_mapFields h3];simp [rawInt]
theorem nextT_end {it t:Addr} {i:Nat} {items:Array Value} {Q:Value→Shared→Prop} (hh:A.handled=none) (hi:s.heap.IsTupleIter it t i) (ht:s.heap.IsTuple t items) (hx:items[i]? =none)
  (hE:∀ h' e,Heap.ExtBut it s.heap h'→(∃ o,h'.get? e=some o∧o.cls= .type "StopIteration")→E (.ref e) {s with heap:=h'}):wpAny (model prog w) A (Builtin.SmallTypes.nextOf (.ref it)) Q E s:=by
 obtain ⟨o,h1,h2,h3⟩:=id hi
 obtain ⟨u,g1,g2,m,g3⟩:=ht
 unfold Builtin.SmallTypes.nextOf
 refine wpAny_bind (wpAny_callSpecial?_slot (name:=Str.ofString "__next__") hi.typeIs F.slot_tuple_iterator_next (wpAny_call_entry F.slot_tuple_iterator_next hi.typeIs F.entry_tuple_iterator_next ?_ (F.args_tuple_iterator_next_1 _)))
 show wpAny _ _ (field (.ref it) 0 >>= _) _ _ s;refine wpAny_bind (wpAny_field h1 h3 (x:= .ref t) rfl ?_)
 show wpAny _ _ (if (Value.ref t==Value.none)=true then _ else _) _ _ s;rw [if_neg (show ¬ ((Value.ref t==Value.none)=true) from Bool.false_ne_true)]
 show wpAny _ _ (field (.ref it) 1 >>= _) _ _ s;refine wpAny_bind (wpAny_field h1 h3 (x:= .int i 0) rfl ?_)
 show wpAny _ _ (seqItems? (.ref t) >>= _) _ _ s;refine wpAny_bind (wpAny_seqItems g1 g3 ?_)
 simp only [Int.toNat_natCast,hx]
 refine wpAny_bind (wpAny_rule (wpAny_bind (wpAny_setField h1 h3 (by simp) ?_)));show wpAny _ _ (newExc (.type "StopIteration") [] >>= _) _ _ _
 refine wpAny_bind ?_;simp only [newExc,newTuple]
 refine wpAny_bind (wpAny_newObj_type ?_ (by size_fits));refine wpAny_bind (m:=firstArgMember _ _) (wpAny_of_eq (a:=Value.none) (by first|rfl|(simp only [firstArgMember];rfl)) ?_)
 refine wpAny_newObj_type ?_ (by size_fits);simp only [raiseNew]
 refine wpAny_bind (wpAny_handled ?_);first|rw [show A.in1.handled=none from hh]|rw [hh]
 refine wpAny_bind (wpAny_pure (wpAny_throw (hE _ _ (((Heap.SameBut.update ..).extBut.push _).push _) ⟨_,Heap.get?_push_size _ rfl,rfl⟩)))
end
theorem drawsT {prog:Program} {w:World} {A:Around} (hh:A.handled=none) (it t:Addr) (hne:t≠it) (items:Array Value):Draws prog w A it [it,t] items.size (fun i v=>items[i]? =some v) (fun i h=>h.IsTupleIter it t i∧h.IsTuple t items) where
 live:=fun _ _ st=>let ⟨o,ho,_⟩:=st.1;⟨o,ho⟩
 frame:=fun _ _ _ st hk=>⟨let ⟨o,e,r⟩:=st.1;⟨o,hk it (by simp) o e,r⟩,let ⟨o,e,r⟩:=st.2;⟨o,hk t (by simp) o e,r⟩⟩
 item:=fun i s Q E hi st hQ=>nextT_item st.1 st.2 (x:=items[i]) (by simp [hi]) fun h' z hs=>hQ _ h' s.toks (by simp [hi]) ⟨z,let ⟨o,e,r⟩:=st.2;⟨o,hs.extBut _ _ hne e,r⟩⟩ hs
 done:=fun s Q E st hE=>nextT_end hh st.1 st.2 (by simp) hE
structure ZA (z TI TO i1 i2:Addr) (f1 f2:List Addr):Prop where
 a1:TI≠z
 a2:TO≠z
 a3:TI≠TO
 m1:i1∈f1
 m2:i2∈f2
 z1:z∉f1
 z2:z∉f2
 o1:TO∉f1
 o2:TO∉f2
 t1:TI∉f1
 t2:TI∉f2
 x1:i2∉f1
 x2:i1∉f2
section
variable {prog:Program} {w:World} {A:Around} {E:Value→Shared→Prop} {s:Shared} {z TI TO i1 i2:Addr} {f1 f2:List Addr} {n1 n2 k:Nat} {P1 P2:Nat→Value→Prop} {S1 S2:Nat→Heap→Prop} {a b:Value}
theorem zipN_item (D1:Draws prog w A i1 f1 n1 P1 S1) (D2:Draws prog w A i2 f2 n2 P2 S2) (Z:ZA z TI TO i1 i2 f1 f2) (hz:IsZip s.heap z TI TO .none) (hTI:IsPair s.heap TI (.ref i1) (.ref i2)) (hTO:IsPair s.heap TO a b)
  (s1:S1 k s.heap) (s2:S2 k s.heap) (hk1:k<n1) (hk2:k<n2) {Q:Value→Shared→Prop}
  (hQ:∀ x y h' tk,P1 k x→P2 k y→IsZip h' z TI TO (rawInt s.heap.objs.size)→IsPair h' TO x y→S1 (k+1) h'→S2 (k+1) h'→IsPair h' s.heap.objs.size x y→h'.objs.size=s.heap.objs.size+1→
   (∀ c o,c≠z→c≠TO→c≠i1→c≠i2→s.heap.get? c=some o→h'.get? c=some o)→Q (.ref s.heap.objs.size) {s with heap:=h',toks:=tk}):
  wpAny (model prog w) A (Builtin.«zip.__next__» ⟨[.ref z],[]⟩) (fun fin s'=>∃ v,fin= .done (.ret v)∧Q v s') E s:=by
 have ne1:∀ {c},c∉f1→c≠i1:=fun h e=>h (e▸Z.m1)
 have ne2:∀ {c},c∉f2→c≠i2:=fun h e=>h (e▸Z.m2)
 have out1:∀ {c d},c∉f1→d∈f1→d≠c:=fun h m e=>h (e▸m)
 have out2:∀ {c d},c∉f2→d∈f2→d≠c:=fun h m e=>h (e▸m)
 show wpAny _ _ (field (.ref z) 2 >>= _) _ _ _;refine wpAny_bind (wpAny_field hz rfl (x:= .bool false) rfl ?_)
 show wpAny _ _ (field (.ref z) 3 >>= _) _ _ _;refine wpAny_bind (wpAny_field hz rfl (x:= .ref TI) rfl (wpAny_bind (wpAny_seqItems hTI rfl ?_)))
 show wpAny _ _ (Builtin.SmallTypes.ownedTupleIsFree (.ref z) >>= _) _ _ _
 refine wpAny_bind ?_;unfold Builtin.SmallTypes.ownedTupleIsFree
 refine wpAny_bind (wpAny_field hz rfl (x:= .none) rfl (wpAny_pure ?_));simp only [if_true]
 refine wpAny_bind (wpAny_rule (wpAny_bind (wpAny_field hz rfl (x:= .ref TO) rfl (wpAny_bind (wpAny_setField_rec hz (by simp) fun g1 z1 c1=> ?_)))))
 replace z1:IsZip g1 z TI TO .ellipsis:=z1
 refine wpAny_bind ?_;simp only [List.zipIdx_cons,List.zipIdx_nil,List.forIn_cons,List.forIn_nil]
 have s11:S1 k g1:=D1.frame _ _ _ s1 fun c hc o e=>c1.extBut _ _ (out1 Z.z1 hc) e
 have s21:S2 k g1:=D2.frame _ _ _ s2 fun c hc o e=>c1.extBut _ _ (out2 Z.z2 hc) e
 refine wpAny_bind (wpAny_bind (wpAny_onRaise ?_));show wpAny _ _ (Builtin.SmallTypes.nextOf (.ref i1) >>= _) _ _ _
 refine wpAny_bind (D1.item k _ _ _ hk1 s11 fun x g2 tk2 px s12 c2=>wpAny_pure ?_)
 have s22:S2 k g2:=D2.frame _ _ _ s21 fun c hc o e=>c2.extBut _ _ (fun q=>Z.x2 (q▸hc)) e
 have T2:IsPair g2 TO a b:=c2.extBut _ _ (ne1 Z.o1) (c1.extBut _ _ Z.a2 hTO)
 refine wpAny_bind (wpAny_seqItems T2 rfl (wpAny_bind (wpAny_updateSeq_pair T2 fun g3 T3 c3=> ?_)))
 replace T3:IsPair g3 TO x b:=T3
 have s13:S1 (k+1) g3:=D1.frame _ _ _ s12 fun c hc o e=>c3.extBut _ _ (out1 Z.o1 hc) e
 have s23:S2 k g3:=D2.frame _ _ _ s22 fun c hc o e=>c3.extBut _ _ (out2 Z.o2 hc) e
 refine wpAny_bind (wpAny_letGo (wpAny_pure (wpAny_bind (wpAny_bind (wpAny_onRaise ?_)))));show wpAny _ _ (Builtin.SmallTypes.nextOf (.ref i2) >>= _) _ _ _
 refine wpAny_bind (D2.item k _ _ _ hk2 s23 fun y g4 tk4 py s24 c4=>wpAny_pure ?_)
 have s14:S1 (k+1) g4:=D1.frame _ _ _ s13 fun c hc o e=>c4.extBut _ _ (fun q=>Z.x1 (q▸hc)) e
 have T4:IsPair g4 TO x b:=c4.extBut _ _ (ne2 Z.o2) T3
 refine wpAny_bind (wpAny_seqItems T4 rfl (wpAny_bind (wpAny_updateSeq_pair T4 fun g5 T5 c5=> ?_)))
 replace T5:IsPair g5 TO x y:=T5
 have s15:S1 (k+1) g5:=D1.frame _ _ _ s14 fun c hc o e=>c5.extBut _ _ (out1 Z.o1 hc) e
 have s25:S2 (k+1) g5:=D2.frame _ _ _ s24 fun c hc o e=>c5.extBut _ _ (out2 Z.o2 hc) e
 refine wpAny_bind (wpAny_letGo (wpAny_pure (wpAny_pure (wpAny_bind (wpAny_seqItems T5 rfl (wpAny_bind (wpAny_newTuple ?_)))))))
 have hsz:g5.objs.size=s.heap.objs.size:=by rw [c5.1,c4.1,c3.1,c2.1,c1.1]
 have z5:IsZip g5 z TI TO .ellipsis:=c5.extBut _ _ Z.a2.symm (c4.extBut _ _ (ne2 Z.z2) (c3.extBut _ _ Z.a2.symm (c2.extBut _ _ (ne1 Z.z1) z1)))
 have kk:∀ c o,c≠z→c≠TO→c≠i1→c≠i2→s.heap.get? c=some o→g5.get? c=some o:=fun c o e1 e2 e3 e4 e=>c5.extBut _ _ e2 (c4.extBut _ _ e4 (c3.extBut _ _ e2 (c2.extBut _ _ e3 (c1.extBut _ _ e1 e))))
 have lz:z<g5.objs.size:=Heap.lt_size z5
 show wpAny _ _ (Builtin.SmallTypes.ownedTupleHandOut (.ref z) (.ref g5.objs.size) >>= _) _ _ _
 refine wpAny_bind ?_;unfold Builtin.SmallTypes.ownedTupleHandOut
 have z6:IsZip (g5.push {cls:= .type "tuple",data:= .seq #[x,y]}) z TI TO .ellipsis:=Heap.get?_push_of_some _ z5
 refine wpAny_bind (wpAny_setField_rec z6 (by simp) fun g7 z7 c7=> ?_)
 replace z7:IsZip g7 z TI TO (rawInt g5.objs.size):=z7
 refine wpAny_setField_rec z7 (by simp) fun g8 z8 c8=> ?_
 replace z8:IsZip g8 z TI TO (rawInt g5.objs.size):=z8
 have up:∀ c o,c≠z→g5.get? c=some o→g8.get? c=some o:=fun c o e1 e=>c8.extBut _ _ e1 (c7.extBut _ _ e1 (Heap.get?_push_of_some _ e))
 have N8:IsPair g8 g5.objs.size x y:=c8.extBut _ _ (Nat.ne_of_gt lz) (c7.extBut _ _ (Nat.ne_of_gt lz) (Heap.get?_push_size _ rfl))
 have sz8:g8.objs.size=g5.objs.size+1:=by rw [c8.1,c7.1,Heap.size_push]
 rw [hsz] at z8 N8 sz8
 refine wpAny_pure ⟨_,rfl,?_⟩
 show Q (.ref g5.objs.size) _
 rw [hsz]
 exact hQ x y g8 _ px py z8 (up _ _ Z.a2 T5) (D1.frame _ _ _ s15 fun c hc o e=>up _ _ (out1 Z.z1 hc) e) (D2.frame _ _ _ s25 fun c hc o e=>up _ _ (out2 Z.z2 hc) e) N8 sz8 fun c o e1 e2 e3 e4 e=>up c o e1 (kk c o e1 e2 e3 e4 e)
theorem zipN_end (hh:A.handled=none) (D1:Draws prog w A i1 f1 n1 P1 S1) (D2:Draws prog w A i2 f2 n2 P2 S2) (Z:ZA z TI TO i1 i2 f1 f2) (hz:IsZip s.heap z TI TO .none) (hTI:IsPair s.heap TI (.ref i1) (.ref i2)) (hTO:IsPair s.heap TO a b)
  (s1:S1 k s.heap) (s2:S2 k s.heap) (hend:k=n1∨(k<n1∧k=n2)) {Q:Fin→Shared→Prop}
  (hE:∀ h' e tk,(∀ c o,c≠z→c≠TO→c≠i1→c≠i2→s.heap.get? c=some o→h'.get? c=some o)→(∃ o,h'.get? e=some o∧o.cls= .type "StopIteration")→E (.ref e) {s with heap:=h',toks:=tk}):
  wpAny (model prog w) A (Builtin.«zip.__next__» ⟨[.ref z],[]⟩) Q E s:=by
 have ne1:∀ {c},c∉f1→c≠i1:=fun h e=>h (e▸Z.m1)
 have ne2:∀ {c},c∉f2→c≠i2:=fun h e=>h (e▸Z.m2)
 have out1:∀ {c d},c∉f1→d∈f1→d≠c:=fun h m e=>h (e▸m)
 have out2:∀ {c d},c∉f2→d∈f2→d≠c:=fun h m e=>h (e▸m)
 show wpAny _ _ (field (.ref z) 2 >>= _) _ _ _;refine wpAny_bind (wpAny_field hz rfl (x:= .bool false) rfl ?_)
 show wpAny _ _ (field (.ref z) 3 >>= _) _ _ _;refine wpAny_bind (wpAny_field hz rfl (x:= .ref TI) rfl (wpAny_bind (wpAny_seqItems hTI rfl ?_)))
 show wpAny _ _ (Builtin.SmallTypes.ownedTupleIsFree (.ref z) >>= _) _ _ _
 refine wpAny_bind ?_;unfold Builtin.SmallTypes.ownedTupleIsFree
 refine wpAny_bind (wpAny_field hz rfl (x:= .none) rfl (wpAny_pure ?_));simp only [if_true]
 refine wpAny_bind (wpAny_rule (wpAny_bind (wpAny_field hz rfl (x:= .ref TO) rfl (wpAny_bind (wpAny_setField_rec hz (by simp) fun g1 z1 c1=> ?_)))))
 replace z1:IsZip g1 z TI TO .ellipsis:=z1
 refine wpAny_bind ?_;simp only [List.zipIdx_cons,List.zipIdx_nil,List.forIn_cons,List.forIn_nil]
 have s11:S1 k g1:=D1.frame _ _ _ s1 fun c hc o e=>c1.extBut _ _ (out1 Z.z1 hc) e
 have s21:S2 k g1:=D2.frame _ _ _ s2 fun c hc o e=>c1.extBut _ _ (out2 Z.z2 hc) e
 refine wpAny_bind (wpAny_bind (wpAny_onRaise ?_));show wpAny _ _ (Builtin.SmallTypes.nextOf (.ref i1) >>= _) _ _ _
 rcases hend with rfl|⟨hk1,rfl⟩
 ·refine wpAny_bind (D1.done _ _ _ s11 fun g2 e c2 he=> ?_)
  obtain ⟨oe,q1,q2⟩:=he
  have z2:IsZip g2 z TI TO .ellipsis:=c2 _ _ (ne1 Z.z1) z1
  have ez:e≠z:=fun q=>by subst q;rw [z2] at q1;cases q1;simp at q2
  refine wpAny_setField_rec z2 (by simp) fun g3 _ c3=>hE g3 e _ (fun c o e1 _ e3 _ q=>c3.extBut _ _ e1 (c2 _ _ e3 (c1.extBut _ _ e1 q))) ⟨oe,c3.extBut _ _ ez q1,q2⟩
 ·refine wpAny_bind (D1.item k _ _ _ hk1 s11 fun x g2 tk2 px s12 c2=>wpAny_pure ?_)
  have s22:S2 k g2:=D2.frame _ _ _ s21 fun c hc o e=>c2.extBut _ _ (fun q=>Z.x2 (q▸hc)) e
  have T2:IsPair g2 TO a b:=c2.extBut _ _ (ne1 Z.o1) (c1.extBut _ _ Z.a2 hTO)
  refine wpAny_bind (wpAny_seqItems T2 rfl (wpAny_bind (wpAny_updateSeq_pair T2 fun g3 T3 c3=> ?_)))
  have s23:S2 k g3:=D2.frame _ _ _ s22 fun c hc o e=>c3.extBut _ _ (out2 Z.o2 hc) e
  refine wpAny_bind (wpAny_letGo (wpAny_pure (wpAny_bind (wpAny_bind (wpAny_onRaise ?_)))));show wpAny _ _ (Builtin.SmallTypes.nextOf (.ref i2) >>= _) _ _ _
  refine wpAny_bind (D2.done _ _ _ s23 fun g4 e c4 he=> ?_)
  obtain ⟨oe,q1,q2⟩:=he
  have z4:IsZip g4 z TI TO .ellipsis:=c4 _ _ (ne2 Z.z2) (c3.extBut _ _ Z.a2.symm (c2.extBut _ _ (ne1 Z.z1) z1))
  have ez:e≠z:=fun q=>by subst q;rw [z4] at q1;cases q1;simp at q2
  refine wpAny_setField_rec z4 (by simp) fun g5 _ c5=>hE g5 e _ (fun c o e1 e2 e3 e4 q=>c5.extBut _ _ e1 (c4 _ _ e4 (c3.extBut _ _ e2 (c2.extBut _ _ e3 (c1.extBut _ _ e1 q))))) ⟨oe,c5.extBut _ _ ez q1,q2⟩
end
end L3
namespace L3
open PySem
def IsSq (tup:Bool) (h:Heap) (l:Addr) (xs:Array Value):Prop:=match tup with
 |true=>h.IsTuple l xs
 |false=>h.IsList l xs
def itO (tup:Bool) (l:Addr):Obj:=match tup with
 |true=> {cls:= .type "tuple_iterator",data:= .fields #[.ref l, .int 0 0]}
 |false=> {cls:= .type "list_iterator",data:= .fields #[.ref l, .int 0 0]}
def SqI (tup:Bool) (h:Heap) (i l:Addr) (k:Nat):Prop:=match tup with
 |true=>h.IsTupleIter i l k
 |false=>h.IsListIter i l k
theorem IsSq.at' {tup:Bool} {h h':Heap} {l:Addr} {xs:Array Value} (q:IsSq tup h l xs) (k:∀ o,h.get? l=some o→h'.get? l=some o):IsSq tup h' l xs:=by
 cases tup with
 |true=>obtain ⟨o,e,r⟩:=q;exact ⟨o,k o e,r⟩
 |false=>exact Heap.IsList.at q k
theorem SqI.at' {tup:Bool} {h h':Heap} {i l:Addr} {k:Nat} (q:SqI tup h i l k) (f:∀ o,h.get? i=some o→h'.get? i=some o):SqI tup h' i l k:=by
 cases tup with
 |true=>obtain ⟨o,e,r⟩:=q;exact ⟨o,f o e,r⟩
 |false=>obtain ⟨o,e,r⟩:=q;exact ⟨o,f o e,r⟩
theorem SqI.rec {tup:Bool} {h:Heap} {i l:Addr} {k:Nat} (q:SqI tup h i l k):∃ o vs,h.get? i=some o∧o.data= .fields vs:=by
 cases tup with
 |true=>obtain ⟨o,e,_,r⟩:=q;exact ⟨o,_,e,r⟩
 |false=>obtain ⟨o,e,_,r⟩:=q;exact ⟨o,_,e,r⟩
theorem IsSq.lt {tup:Bool} {h:Heap} {l:Addr} {xs:Array Value} (q:IsSq tup h l xs):l<h.objs.size:=by
 cases tup with
 |true=>obtain ⟨o,e,_⟩:=q;exact Heap.lt_size e
 |false=>obtain ⟨o,e,_⟩:=q;exact Heap.lt_size e
theorem drawsS {prog:Program} {w:World} {A:Around} (hh:A.handled=none) (tup:Bool) (it l:Addr) (hne:l≠it) (xs:Array Value):Draws prog w A it [it,l] xs.size (fun i v=>xs[i]? =some v) (fun i h=>SqI tup h it l i∧IsSq tup h l xs):=by
 cases tup with
 |true=>exact drawsT hh it l hne xs
 |false=>exact Draws.list hh it l hne xs
theorem sq_iter {prog:Program} {w:World} {A:Around} {E:Value→Shared→Prop} {s:Shared} {tup:Bool} {l:Addr} {xs:Array Value} {Q:Value→Shared→Prop} (q:IsSq tup s.heap l xs) (h:Q (.ref s.heap.objs.size) {s with heap:=s.heap.push (itO tup l)}):
  wpAny (model prog w) A (pyIter (.ref l)) Q E s:=by
 cases tup with
 |true=>exact wpAny_pyIter_tuple q h
 |false=>exact wpAny_pyIter_list q h
abbrev zh1 (t1:Bool) (h:Heap) (l1:Addr):Heap:=h.push (itO t1 l1)
abbrev zh2 (t1 t2:Bool) (h:Heap) (l1 l2:Addr):Heap:=(zh1 t1 h l1).push (itO t2 l2)
abbrev zh3 (t1 t2:Bool) (h:Heap) (l1 l2:Addr):Heap:=(zh2 t1 t2 h l1 l2).push {cls:= .type "tuple",data:= .seq #[.ref h.objs.size, .ref (zh1 t1 h l1).objs.size]}
abbrev zh4 (t1 t2:Bool) (h:Heap) (l1 l2:Addr):Heap:=(zh3 t1 t2 h l1 l2).push {cls:= .type "tuple",data:= .seq #[.none, .none]}
abbrev zh5 (t1 t2:Bool) (h:Heap) (l1 l2:Addr):Heap:=(zh4 t1 t2 h l1 l2).push {cls:= .type "zip",data:= .fields #[.none, .bool false, .bool false, .ref (zh2 t1 t2 h l1 l2).objs.size, .ref (zh3 t1 t2 h l1 l2).objs.size]}
theorem zipN_new (t1 t2:Bool) (l1 l2:Addr) (xs ys:Array Value):Meets (Builtin.«zip.__new__» ⟨[.type "zip", .ref l1, .ref l2],[]⟩) (fun _ R s=>IsSq t1 s.heap l1 xs∧IsSq t2 s.heap l2 ys∧
   R (.ok (.ret (.ref (zh4 t1 t2 s.heap l1 l2).objs.size))) {s with heap:=zh5 t1 t2 s.heap l1 l2}):=
 .of_wp fun prog w A R s h=>by
  obtain ⟨hp,g,d,tk,os⟩:=s;obtain ⟨q1,q2,h⟩:=h
  have hsub:=sub_zip
  have e1:IsSq t1 (Shared.heap ⟨hp,g,d,tk,os⟩) l1 xs:=q1
  have e2:IsSq t2 (Shared.heap ⟨hp.push (itO t1 l1),g,d,tk,os⟩) l2 ys:=IsSq.at' q2 fun o e=>Heap.get?_push_of_some _ e
  wp_walk using sq_iter e1,sq_iter e2
  exact ⟨_,rfl,h⟩
theorem zipN_call {prog:Program} {w:World} {A:Around} {E:Value→Shared→Prop} {s:Shared} {t1 t2:Bool} {l1 l2:Addr} {xs ys:Array Value} {Q:Value→Shared→Prop} (q1:IsSq t1 s.heap l1 xs) (q2:IsSq t2 s.heap l2 ys)
  (h:∀ n h',n=s.heap.objs.size→IsZip h' (n+4) (n+2) (n+3) .none→IsPair h' (n+2) (.ref n) (.ref (n+1))→IsPair h' (n+3) .none .none→SqI t1 h' n l1 0→SqI t2 h' (n+1) l2 0→
   (∀ c o,s.heap.get? c=some o→h'.get? c=some o)→Q (.ref (n+4)) {s with heap:=h'}):wpAny (model prog w) A (call (.type "zip") [.ref l1, .ref l2]) Q E s:=by
 refine callType_new F.called_zip (by decide) (F.typeCall_zip_2 _ _) (F.newCall_zip_2 _ _) (fun obj=>F.args_object_init_3 obj _ _) F.entry_zip_new (zipN_new t1 t2 l1 l2 xs ys) ⟨q1,q2,?_⟩
 have z1:(zh1 t1 s.heap l1).objs.size=s.heap.objs.size+1:=Heap.size_push ..
 have z2:(zh2 t1 t2 s.heap l1 l2).objs.size=s.heap.objs.size+2:=by rw [Heap.size_push,z1]
 have z3:(zh3 t1 t2 s.heap l1 l2).objs.size=s.heap.objs.size+3:=by rw [Heap.size_push,z2]
 have z4:(zh4 t1 t2 s.heap l1 l2).objs.size=s.heap.objs.size+4:=by rw [Heap.size_push,z3]
 have k5:∀ {c o},(zh4 t1 t2 s.heap l1 l2).get? c=some o→(zh5 t1 t2 s.heap l1 l2).get? c=some o:=fun e=>Heap.get?_push_of_some _ e
 have k4:∀ {c o},(zh3 t1 t2 s.heap l1 l2).get? c=some o→(zh5 t1 t2 s.heap l1 l2).get? c=some o:=fun e=>k5 (Heap.get?_push_of_some _ e)
 have k3:∀ {c o},(zh2 t1 t2 s.heap l1 l2).get? c=some o→(zh5 t1 t2 s.heap l1 l2).get? c=some o:=fun e=>k4 (Heap.get?_push_of_some _ e)
 have k2:∀ {c o},(zh1 t1 s.heap l1).get? c=some o→(zh5 t1 t2 s.heap l1 l2).get? c=some o:=fun e=>k3 (Heap.get?_push_of_some _ e)
 have f1:∀ t l,(itO t l).isFreed=false:=fun t l=>by cases t<;>rfl
 have g5:(zh5 t1 t2 s.heap l1 l2).get? (zh4 t1 t2 s.heap l1 l2).objs.size=some _:=Heap.get?_push_size _ rfl
 have g4:(zh5 t1 t2 s.heap l1 l2).get? (zh3 t1 t2 s.heap l1 l2).objs.size=some _:=k5 (Heap.get?_push_size _ rfl)
 have g3:(zh5 t1 t2 s.heap l1 l2).get? (zh2 t1 t2 s.heap l1 l2).objs.size=some _:=k4 (Heap.get?_push_size _ rfl)
 have g2:(zh5 t1 t2 s.heap l1 l2).get? (zh1 t1 s.heap l1).objs.size=some (itO t2 l2):=k3 (Heap.get?_push_size _ (f1 _ _))
 have g1:(zh5 t1 t2 s.heap l1 l2).get? s.heap.objs.size=some (itO t1 l1):=k2 (Heap.get?_push_size _ (f1 _ _))
 show _∧_
 rw [z2,z3,z4] at g5
 rw [z1,z2] at g3
 rw [z3] at g4
 rw [z1] at g2
 rw [z4]
 have sq:∀ {t:Bool} {i l:Addr},(zh5 t1 t2 s.heap l1 l2).get? i=some (itO t l)→SqI t (zh5 t1 t2 s.heap l1 l2) i l 0:=fun {t i l} e=>by
  cases t with
  |true=>exact ⟨_,e,rfl,rfl⟩
  |false=>exact ⟨_,e,rfl,rfl⟩
 exact ⟨⟨_,g5,rfl⟩,h _ _ rfl g5 g3 g4 (sq g1) (sq g2) fun c o e=>k2 (Heap.get?_push_of_some _ e)⟩
theorem zipN_iter {prog:Program} {w:World} {A:Around} {E:Value→Shared→Prop} {s:Shared} {z TI TO:Addr} {f0:Value} {Q:Value→Shared→Prop} (hz:IsZip s.heap z TI TO f0) (h:Q (.ref z) s):wpAny (model prog w) A (pyIter (.ref z)) Q E s:=wpAny_pyIter_zip hz h
section
variable {prog:Program} {w:World} {A:Around} {E:Value→Shared→Prop} {s:Shared} {z TI TO i1 i2 l1 l2:Addr} {t1 t2:Bool} {xs ys:Array Value} {k:Nat} {a b x y:Value}
theorem ZA.of (h1:TI≠z) (h2:TO≠z) (h3:TI≠TO) (h:∀ c,c=i1∨c=i2∨c=l1∨c=l2→c≠z∧c≠TO∧c≠TI) (e1:i1≠i2) (e2:l1≠i2) (e3:l2≠i1):ZA z TI TO i1 i2 [i1,l1] [i2,l2]:=by
 obtain ⟨a1,a2,a3⟩:=h i1 (by simp)
 obtain ⟨b1,b2,b3⟩:=h i2 (by simp)
 obtain ⟨c1,c2,c3⟩:=h l1 (by simp)
 obtain ⟨d1,d2,d3⟩:=h l2 (by simp)
 have no:∀ {c p q:Addr},p≠c→q≠c→c∉ [p,q]:=fun u v m=>by
  rcases List.mem_cons.mp m with m|m
  ·exact u m.symm
  ·exact v (List.mem_singleton.mp m).symm
 exact ⟨h1,h2,h3,by simp,by simp,no a1 c1,no b1 d1,no a2 c2,no b2 d2,no a3 c3,no b3 d3,no e1 e2,no e1.symm e3⟩
theorem zipS_item (hh:A.handled=none) (Z:ZA z TI TO i1 i2 [i1,l1] [i2,l2]) (n1:l1≠i1) (n2:l2≠i2) (hz:IsZip s.heap z TI TO .none) (hTI:IsPair s.heap TI (.ref i1) (.ref i2)) (hTO:IsPair s.heap TO a b)
  (s1:SqI t1 s.heap i1 l1 k) (s2:SqI t2 s.heap i2 l2 k) (q1:IsSq t1 s.heap l1 xs) (q2:IsSq t2 s.heap l2 ys) (hx:xs[k]? =some x) (hy:ys[k]? =some y) {Q:Option Value→Shared→Prop}
  (hQ:∀ h' tk,IsZip h' z TI TO (rawInt s.heap.objs.size)→IsPair h' TO x y→SqI t1 h' i1 l1 (k+1)→SqI t2 h' i2 l2 (k+1)→IsPair h' s.heap.objs.size x y→h'.objs.size=s.heap.objs.size+1→
   (∀ c o,c≠z→c≠TO→c≠i1→c≠i2→s.heap.get? c=some o→h'.get? c=some o)→Q (some (.ref s.heap.objs.size)) {s with heap:=h',toks:=tk}):
  wpAny (model prog w) A (pyNext (.ref z)) Q E s:=by
 have hT:s.TypeIs (.ref z) "zip":=⟨_,hz,rfl⟩
 have k1:k<xs.size:=by
  refine Nat.lt_of_not_le fun q=> ?_
  rw [Array.getElem?_eq_none q] at hx;cases hx
 have k2:k<ys.size:=by
  refine Nat.lt_of_not_le fun q=> ?_
  rw [Array.getElem?_eq_none q] at hy;cases hy
 unfold pyNext
 refine wpAny_bind (wpAny_attempt (wpAny_callSpecial?_slot (name:=Str.ofString "__next__") hT F.slot_zip_next (wpAny_call_entry F.slot_zip_next hT F.entry_zip_next (zipN_item (drawsS (by exact hh) t1 i1 l1 n1 xs) (drawsS (by exact hh) t2 i2 l2 n2 ys) Z hz hTI hTO ⟨s1,q1⟩ ⟨s2,q2⟩ k1 k2
  fun x' y' h' tk e1 e2 z' o' p1 p2 nw sz kk=> ?_) (F.args_zip_next_1 _))))
 have e1':xs[k]? =some x':=e1
 have e2':ys[k]? =some y':=e2
 rw [hx] at e1';rw [hy] at e2'
 cases e1';cases e2'
 exact wpAny_pure (hQ h' tk z' o' p1.1 p2.1 nw sz kk)
theorem zipS_end (hh:A.handled=none) (Z:ZA z TI TO i1 i2 [i1,l1] [i2,l2]) (n1:l1≠i1) (n2:l2≠i2) (hz:IsZip s.heap z TI TO .none) (hTI:IsPair s.heap TI (.ref i1) (.ref i2)) (hTO:IsPair s.heap TO a b)
  (s1:SqI t1 s.heap i1 l1 k) (s2:SqI t2 s.heap i2 l2 k) (q1:IsSq t1 s.heap l1 xs) (q2:IsSq t2 s.heap l2 ys) (hend:k=xs.size∨(k<xs.size∧k=ys.size)) {Q:Option Value→Shared→Prop}
  (hQ:∀ h' tk,(∀ c o,c≠z→c≠TO→c≠i1→c≠i2→s.heap.get? c=some o→h'.get? c=some o)→Q none {s with heap:=h',toks:=tk}):wpAny (model prog w) A (pyNext (.ref z)) Q E s:=by
 have hT:s.TypeIs (.ref z) "zip":=⟨_,hz,rfl⟩
 unfold pyNext
 refine wpAny_bind (wpAny_attempt (wpAny_callSpecial?_slot (name:=Str.ofString "__next__") hT F.slot_zip_next (wpAny_call_entry F.slot_zip_next hT F.entry_zip_next (zipN_end (by exact hh) (drawsS (by exact hh) t1 i1 l1 n1 xs) (drawsS (by exact hh) t2 i2 l2 n2 ys) Z hz hTI hTO ⟨s1,q1⟩ ⟨s2,q2⟩ hend
  fun h' e tk kk he=> ?_) (F.args_zip_next_1 _))))
 obtain ⟨o,ho,hc⟩:=he
 exact wpAny_bind (wpAny_isInstance (T:="StopIteration") (b:=true) ⟨o,ho,hc⟩ isSubtype_stop (wpAny_pure (hQ _ tk kk)))
end
end L3
namespace L3
open PySem PySem.Spec PyProof.Rows L2
def SqK (t:Bool) (K:PySem.W.Frag) (H:Hp) (l:Addr) (xs:List V):Prop:=match t with
 |true=>SqT K H l xs
 |false=>SqL K H l xs
section
variable {X:Cx} {pins:List (Addr×Obj)} {σ:L2.St} {H:Hp} {s:Shared} {h':Heap}
theorem inv_sq (I:Inv X pins σ H s) {t:Bool} {l:Addr} {xs:List V} (h:SqK t X.K H l xs):∃ its:List Value,Vals xs its∧IsSq t s.heap l its.toArray∧xs.length≤sizeLine:=by
 cases t with
 |true=>obtain ⟨its,r,p,z⟩:=I.tuple h;exact ⟨its,r,p,z⟩
 |false=>obtain ⟨its,r,p,z⟩:=I.list h;exact ⟨its,r,p.isList,z⟩
theorem inv_sq_inj (I:Inv X pins σ H s) {t:Bool} {l:Addr} {xs ys:List V} (h:SqK t X.K H l xs) (h':SqK t X.K H l ys):xs=ys:=by
 cases t with
 |true=>exact I.tuple_inj h h'
 |false=>exact I.list_inj h h'
theorem inv_turnT {t':Nat} {ch:List Addr} {n:Addr} {xs:List V} {its:List Value} (I:Inv X pins σ H s) (hf:∀ b∈ch,FpOk X pins H b) (k:∀ b o,b∉ch→s.heap.get? b=some o→h'.get? b=some o)
  (hn:s.heap.objs.size≤n) (r:Vals xs its) (hz:xs.length≤sizeLine) (new:IsTup h' n its.toArray):Inv X pins σ (upd H n (.tup xs)) {s with heap:=h',toks:=t'}:=by
 have hfree:=I.hok.fresh hn
 have nch:∀ b u,H b=some u→b∉ch:=fun b u e m=>by rw [(hf b m).1] at e;cases e
 have nn:∀ b o,s.heap.get? b=some o→b≠n:=fun b o e=>Nat.ne_of_lt (Nat.lt_of_lt_of_le (Heap.lt_size e) hn)
 refine I.step (g':=s.gens) (d':=s.drawn) (ch:=ch) (fun b hb=>⟨(hf b hb).2.2.2.1,(hf b hb).2.1,(hf b hb).2.2.2.2.1,(hf b hb).2.2.2.2.2⟩) (fun b o _ _ hc e _=>k b o hc e) (fun b o _ _ hc e _=>⟨o.slots,k b o hc e⟩)
  (fun b o hc e q=>by rw [upd_ne (nn b o e)];exact q) (fun b o hc e=>⟨o,k b o hc e⟩) (fun b ys e=>by rw [upd_ne (ne_of_none e hfree)];exact e) (fun b o u e=>by rw [upd_ne (ne_of_none e hfree)];exact e)
  (fun b ps e=>⟨#[],by rw [upd_ne (ne_of_none e hfree),e];simp⟩) (fun m hm=> ?_) (fun b u e=> ?_) I.bare
 ·obtain ⟨o,es,ep,ho,q⟩:=hm
  exact ⟨o,es,ep,k _ o (fun z=>(hf _ z).2.1 rfl) ho,q⟩
 ·by_cases hb:b=n
  ·subst hb
   rw [upd_same] at e;cases e
   exact ⟨hz,its,r,new⟩
  ·rw [upd_ne hb] at e
   refine (I.hok b u e).stay (fun c v hc q=>k c v ?_ q) (fun c q=>by rw [upd_ne (ne_of_none q hfree)];exact q) fun c ys q=>by rw [upd_ne (ne_of_none q hfree)];exact q
   rcases hc with z|z
   ·rw [z];exact nch b u e
   ·exact nch c _ z
theorem inv_turns {t':Nat} {ch:List Addr} (I:Inv X pins σ H s) (hf:∀ b∈ch,FpOk X pins H b) (k:∀ b o,b∉ch→s.heap.get? b=some o→h'.get? b=some o):Inv X pins σ H {s with heap:=h',toks:=t'}:=by
 have nch:∀ b u,H b=some u→b∉ch:=fun b u e m=>by rw [(hf b m).1] at e;cases e
 refine I.step (g':=s.gens) (d':=s.drawn) (ch:=ch) (fun b hb=>⟨(hf b hb).2.2.2.1,(hf b hb).2.1,(hf b hb).2.2.2.2.1,(hf b hb).2.2.2.2.2⟩) (fun b o _ _ hc e _=>k b o hc e) (fun b o _ _ hc e _=>⟨o.slots,k b o hc e⟩)
  (fun _ _ _ _ q=>q) (fun b o hc e=>⟨o,k b o hc e⟩) (fun _ _ e=>e) (fun _ _ _ e=>e) (fun b ps e=>⟨#[],by rw [e];simp⟩) (fun m hm=> ?_) (fun b u e=> ?_) I.bare
 ·obtain ⟨o,es,ep,ho,q⟩:=hm
  exact ⟨o,es,ep,k _ o (fun z=>(hf _ z).2.1 rfl) ho,q⟩
 ·refine (I.hok b u e).stay (fun c v hc q=>k c v ?_ q) (fun _ q=>q) fun _ _ q=>q
  rcases hc with z|z
  ·rw [z];exact nch b u e
  ·exact nch c _ z
end
def Itz (K : PySem.W.Frag) (t1 t2 : Bool) (l1 l2 : Addr) : It :=
  ⟨fun i H => ∃ xs ys x y, SqK t1 K H l1 xs ∧ SqK t2 K H l2 ys ∧ xs[i]? = some x ∧ ys[i]? = some y,
   fun i H v H' => ∃ p x y, v = .ref p ∧ H p = none ∧ H' = upd H p (.tup [x, y]) ∧ (∀ xs, SqK t1 K H l1 xs → xs[i]? = some x) ∧ ∀ ys, SqK t2 K H l2 ys → ys[i]? = some y,
   fun i H => ∃ xs ys, SqK t1 K H l1 xs ∧ SqK t2 K H l2 ys ∧ (i = xs.length ∨ (i < xs.length ∧ i = ys.length))⟩
theorem turn_zip {P:Program} {w:World} {K:PySem.W.Frag} {elts:List Expr} {kt:Nat} {pt:Pos} {t1 t2:Bool} {z TI TO i1 i2 l1 l2:Addr} (Z:ZA z TI TO i1 i2 [i1,l1] [i2,l2]) (n1:l1≠i1) (n2:l2≠i2):
  Turn P w K (.Tuple elts kt pt) (Itz K t1 t2 l1 l2) [z,TI,TO,i1,i2] z (fun i h=>IsZip h z TI TO .none∧IsPair h TI (.ref i1) (.ref i2)∧(∃ a b,IsPair h TO a b)∧SqI t1 h i1 l1 i∧SqI t2 h i2 l2 i) where
 mem:=by simp
 obj:=fun i h st b hb=>by
  obtain ⟨hz,hTI,⟨a,c,hTO⟩,s1,s2⟩:=st
  simp only [List.mem_cons,List.not_mem_nil,or_false] at hb
  rcases hb with rfl|rfl|rfl|rfl|rfl
  ·exact ⟨_,hz,fun v q=>nomatch q⟩
  ·exact ⟨_,hTI,fun v q=>nomatch q⟩
  ·exact ⟨_,hTO,fun v q=>nomatch q⟩
  ·obtain ⟨o,vs,e,d⟩:=s1.rec
   exact ⟨o,e,fun v q=>by rw [d] at q;cases q⟩
  ·obtain ⟨o,vs,e,d⟩:=s2.rec
   exact ⟨o,e,fun v q=>by rw [d] at q;cases q⟩
 keep:=fun i h h' st k=>by
  obtain ⟨hz,hTI,⟨a,c,hTO⟩,s1,s2⟩:=st
  exact ⟨k z (by simp) _ hz,k TI (by simp) _ hTI,⟨a,c,k TO (by simp) _ hTO⟩,s1.at' fun o e=>k i1 (by simp) o e,s2.at' fun o e=>k i2 (by simp) o e⟩
 item:=by
  intro X hP hw hK hc i pins s σ H E I hf st hg
  subst hP hw hK
  obtain ⟨hz,hTI,⟨a,c,hTO⟩,s1,s2⟩:=st
  obtain ⟨xs,ys,x,y,q1,q2,e1,e2⟩:=hg
  obtain ⟨it1,r1,p1,_⟩:=inv_sq I q1
  obtain ⟨it2,r2,p2,_⟩:=inv_sq I q2
  obtain ⟨u1,hu1,ru1⟩:=r1.get e1
  obtain ⟨u2,hu2,ru2⟩:=r2.get e2
  refine zipS_item (I.ok.hd hc) Z n1 n2 hz hTI hTO s1 s2 p1 p2 (x:=u1) (y:=u2) (by simpa using hu1) (by simpa using hu2) fun h1 tk z1 o1 s11 s21 nw sz kk=>⟨_,rfl,?_⟩
  refine wpAny_letOwnedTupleGo_zip (s:= {s with heap:=h1,toks:=tk}) z1 fun h2 z2 c2=> ?_
  have lz:z<s.heap.objs.size:=Heap.lt_size hz
  have up:∀ b o,b≠z→h1.get? b=some o→h2.get? b=some o:=fun b o ne e=>c2.extBut _ _ ne e
  have i1z:i1≠z:=fun q=>Z.z1 (by simp [q])
  have i2z:i2≠z:=fun q=>Z.z2 (by simp [q])
  have TIi1:TI≠i1:=fun q=>Z.t1 (by simp [q])
  have TIi2:TI≠i2:=fun q=>Z.t2 (by simp [q])
  refine ⟨.ref s.heap.objs.size,upd H s.heap.objs.size (.tup [x,y]),?_,rfl,⟨_,x,y,rfl,I.hok.fresh (Nat.le_refl _),rfl,fun zs hs=>by rw [inv_sq_inj I hs q1];exact e1,fun zs hs=>by rw [inv_sq_inj I hs q2];exact e2⟩,
   ⟨z2,up _ _ Z.a1 (kk _ _ Z.a1 Z.a3 TIi1 TIi2 hTI),⟨_,_,up _ _ Z.a2 o1⟩,s11.at' fun o e=>up _ _ i1z e,s21.at' fun o e=>up _ _ i2z e⟩,fun b hb=> ?_⟩
  ·show Inv X pins σ (upd H s.heap.objs.size (.tup [x,y])) {s with heap:=h2,toks:=tk}
   refine inv_turnT (ch:= [z,TI,TO,i1,i2]) (t':=tk) I hf (fun b o hb e=> ?_) (Nat.le_refl _) (.cons ru1 (.cons ru2 .nil)) (show (2:Nat)≤sizeLine by rw [sizeLine_eq];decide) ⟨_,up _ _ (Nat.ne_of_gt lz) nw,rfl,_,rfl⟩
   simp only [List.mem_cons,List.not_mem_nil,or_false,not_or] at hb
   exact up _ _ hb.1 (kk b o hb.1 hb.2.2.1 hb.2.2.2.1 hb.2.2.2.2 e)
  ·have hb1:=(hf b hb).1
   have:b<s.heap.objs.size:=by
    simp only [List.mem_cons,List.not_mem_nil,or_false] at hb
    rcases hb with rfl|rfl|rfl|rfl|rfl
    ·exact lz
    ·exact Heap.lt_size hTI
    ·exact Heap.lt_size hTO
    ·obtain ⟨o,_,e,_⟩:=s1.rec;exact Heap.lt_size e
    ·obtain ⟨o,_,e,_⟩:=s2.rec;exact Heap.lt_size e
   rw [upd_ne (Nat.ne_of_lt this)];exact hb1
 done:=by
  intro X hP hw hK hc i pins s σ H E I hf st hg
  subst hP hw hK
  obtain ⟨hz,hTI,⟨a,c,hTO⟩,s1,s2⟩:=st
  obtain ⟨xs,ys,q1,q2,he⟩:=hg
  obtain ⟨it1,r1,p1,_⟩:=inv_sq I q1
  obtain ⟨it2,r2,p2,_⟩:=inv_sq I q2
  refine zipS_end (I.ok.hd hc) Z n1 n2 hz hTI hTO s1 s2 p1 p2 (by simpa [←r1.length,←r2.length] using he) fun h1 tk kk=>⟨rfl,?_⟩
  refine inv_turns (ch:= [z,TI,TO,i1,i2]) (t':=tk) I hf fun b o hb e=> ?_
  simp only [List.mem_cons,List.not_mem_nil,or_false,not_or] at hb
  exact kk b o hb.1 hb.2.2.1 hb.2.2.2.1 hb.2.2.2.2 e
 self:=fun _ _ _ _ _ st h=>zipN_iter st.1 h
theorem za_new (n l1 l2:Nat) (h1:l1<n) (h2:l2<n):ZA (n+4) (n+2) (n+3) n (n+1) [n,l1] [n+1,l2]:=by
 refine ZA.of (show ¬ (n+2:Nat)=n+4 by omega) (show ¬ (n+3:Nat)=n+4 by omega) (show ¬ (n+2:Nat)=n+3 by omega) (fun c hc=> ?_) (show ¬ (n:Nat)=n+1 by omega) (show ¬ (l1:Nat)=n+1 by omega) (show ¬ (l2:Nat)=n by omega)
 have hc':(c:Nat)=n∨(c:Nat)=n+1∨(c:Nat)=l1∨(c:Nat)=l2:=hc
 show ¬ (c:Nat)=n+4∧¬ (c:Nat)=n+3∧¬ (c:Nat)=n+2
 have:∀ m:Nat,(m=n∨m=n+1∨m=l1∨m=l2)→¬ m=n+4∧¬ m=n+3∧¬ m=n+2:=fun m hm=>by omega
 exact this c hc'
theorem za_ge (n c:Nat) (h:c=n+4∨c=n+2∨c=n+3∨c=n∨c=n+1):n≤c:=by omega
section
variable {X:Cx} {xw:XW} {elts:List Expr} {kt:Nat} {pt p pos:Pos} {a b:Expr} {fs:DSt→Res (List D)}
def iZip (K:PySem.W.Frag) (ta:TA):TI:=fun σ H R=>ta σ H fun vs H1=>∃ t1 t2 l1 l2 xs ys,vs= [.ref l1, .ref l2]∧SqK t1 K H1 l1 xs∧SqK t2 K H1 l2 ys∧R (Itz K t1 t2 l1 l2) H1
theorem pi_zip {ta:TA} (hg:Gl X "zip") (hm:X.mg "zip"=none) (ha:PA X [a,b] ta) (hs:starEach [a,b] X.env= [(false,eval a X.env),(false,eval b X.env)]) (hs2:starEach [b] X.env= [(false,eval b X.env)]):
  PI X (.Tuple elts kt pt) (.Call (.Name "zip" p) [a,b] [] pos) (iZip X.K ta):=by
 intro pins s σ H R I h
 refine Call_ (ld_blt I hg hm (show bootBuiltins "zip"=some (.type "zip") by decide +kernel) (PyProof.Rows.callWith_type1 (thn (ha pos pins s σ H _ I h) fun us s1 ⟨vs,H1,I1,r1,q1⟩=> ?_) (by rw [hs,hs2]) (by rw [hs2];rfl)))
 obtain ⟨t1,t2,l1,l2,xs,ys,e,q1,q2,q⟩:=q1
 subst e
 obtain ⟨u1,u2,rfl,ru1,ru2⟩:=r1.two
 cases (show u1=Value.ref l1 from ru1)
 cases (show u2=Value.ref l2 from ru2)
 obtain ⟨it1,v1,p1,_⟩:=inv_sq I1 q1
 obtain ⟨it2,v2,p2,_⟩:=inv_sq I1 q2
 have a1:=p1.lt
 have a2:=p2.lt
 refine zipN_call p1 p2 fun n h' hn hz hTI hTO s1' s2' kk=>zipN_iter hz ?_
 subst hn
 have Z:=za_new s1.heap.objs.size l1 l2 a1 a2
 have J:Inv X pins σ H1 {s1 with heap:=h'}:=I1.kept (t':=s1.toks) fun c o e=>kk c o e
 refine ⟨s1.heap.objs.size+4,[s1.heap.objs.size+4,s1.heap.objs.size+2,s1.heap.objs.size+3,s1.heap.objs.size,s1.heap.objs.size+1],_,_,H1,rfl,J,turn_zip (t1:=t1) (t2:=t2) Z (Nat.ne_of_lt a1) (Nat.ne_of_lt (Nat.lt_succ_of_lt a2)),⟨hz,hTI,⟨_,_,hTO⟩,s1',s2'⟩,fun c hc=> ?_,q⟩
 have hcs:s1.heap.objs.size≤c:=by
  simp only [List.mem_cons,List.not_mem_nil,or_false] at hc
  exact za_ge _ _ hc
 exact I1.fpOk hcs (I1.hok.fresh hcs)
def zipD:List D→List D→List D
 |x::xs,y::ys=> .tup [x,y]::zipD xs ys
 |_,_=> []
theorem zipD_get:∀ {xs ys:List D} {i:Nat} {d:D},(zipD xs ys)[i]? =some d→∃ x y,xs[i]? =some x∧ys[i]? =some y∧d= .tup [x,y]
 | [],_,_,_,e=>by simp [zipD] at e
 |_::_,[],_,_,e=>by simp [zipD] at e
 |x::xs,y::ys,0,d,e=>by
  rw [zipD] at e
  simp at e
  exact ⟨x,y,rfl,rfl,e.symm⟩
 |x::xs,y::ys,i+1,d,e=>by
  rw [zipD] at e
  obtain ⟨u,v,h1,h2,h3⟩:=zipD_get (xs:=xs) (ys:=ys) (i:=i) (by simpa using e)
  exact ⟨u,v,by simpa using h1,by simpa using h2,h3⟩
theorem zipD_len:∀ (xs ys:List D),(zipD xs ys).length=min xs.length ys.length
 | [],ys=>by simp [zipD]
 |_::_,[]=>by simp [zipD]
 |x::xs,y::ys=>by rw [zipD,List.length_cons,zipD_len,List.length_cons,List.length_cons];omega
def itemsD:D→Option (List D)
 | .tup ds=>some ds
 | .lst ds=>some ds
 |_=>none
def zipR (ds:List D):Res (List D):=match ds with
 | [x,y]=>match itemsD x,itemsD y with
  |some xs,some ys=> .ok (zipD xs ys)
  |_,_=> .stuck
 |_=> .stuck
theorem sqk_of {K:PySem.W.Frag} {W:WS} {H:Hp} {d:D} {v:V} {ds:List D} (w:WL W H) (h:Has K W H d v) (e:itemsD d=some ds):
  ∃ t l xs,v= .ref l∧HasL K W H ds xs∧∀ W' H2,Step W H W' H2→SqK t K H2 l xs:=by
 cases d with
 |tup es=>
  cases e
  rw [Has] at h
  obtain ⟨a,xs,e1,sq,r⟩:=h
  exact ⟨true,a,xs,e1,r,fun W' H2 k=>sqT_keep k.keep w sq⟩
 |lst es=>
  cases e
  rw [Has] at h
  obtain ⟨a,xs,e1,sq,r⟩:=h
  exact ⟨false,a,xs,e1,r,fun W' H2 k=>(sq.keep k.keep w k.new).sq⟩
 |_=>cases e
theorem di_zip (hm:X.mg "zip"=none) (ha:DA X xw [a,b] fs) (hg:Gl X "zip":=by rfl) (hs:starEach [a,b] X.env= [(false,eval a X.env),(false,eval b X.env)]:=by rfl) (hs2:starEach [b] X.env= [(false,eval b X.env)]:=by rfl):
  DI X xw (.Tuple elts kt pt) (.Call (.Name "zip" p) [a,b] [] pos) (b1 zipR fs):=
 PI.weak (pi_zip hg hm ha hs hs2) fun σ H R ⟨W₀,H₀,W,δ,st,q⟩=>by
  refine ⟨W₀,H₀,W,δ,st,?_⟩
  simp only [b1] at q
  cases h1:fs δ with
  |stuck=>rw [h1] at q;exact q
  |ex c gs=>rw [h1] at q;exact q
  |ok ds=>
   rw [h1] at q
   intro vs H1 k1 hv
   dsimp only [Res.bind] at q
   unfold zipR at q
   split at q
   ·rename_i ds' hq
    split at hq
    ·rename_i x y
     split at hq
     ·rename_i xs ys ex ey
      have e':zipD xs ys=ds':=by cases hq;rfl
      subst e'
      rw [HasL] at hv
      obtain ⟨v1,r1,rfl,g1,hv⟩:=hv
      rw [HasL] at hv
      obtain ⟨v2,r2,rfl,g2,hv⟩:=hv
      rw [HasL] at hv
      subst hv
      have w1:=st.fr.wl.same k1
      obtain ⟨t1,l1,xs1,rfl,r1,f1⟩:=sqk_of w1 g1 ex
      obtain ⟨t2,l2,xs2,rfl,r2,f2⟩:=sqk_of w1 g2 ey
      refine ⟨t1,t2,l1,l2,xs1,xs2,rfl,f1 W H1 Step.refl,f2 W H1 Step.refl,q _ H1 k1 ?_⟩
      intro W' H2 k2 w2
      have c1:=f1 W' H2 k2
      have c2:=f2 W' H2 k2
      refine ⟨fun i d e=> ?_,xs1,xs2,c1,c2,?_⟩
      ·obtain ⟨x0,y0,e1,e2,rfl⟩:=zipD_get e
       obtain ⟨x1,o1,hx1⟩:=r1.get e1
       obtain ⟨y1,o2,hy1⟩:=r2.get e2
       refine ⟨⟨xs1,xs2,x1,y1,c1,c2,o1,o2⟩,fun u H3 z=> ?_⟩
       obtain ⟨p0,x2,y2,rfl,hp,rfl,z1,z2⟩:=z
       have:=z1 xs1 c1
       rw [o1] at this;cases this
       have:=z2 xs2 c2
       rw [o2] at this;cases this
       refine ⟨same_upd hp,?_⟩
       rw [Has]
       have hx2:=(Has.keep k2.keep w1 k2.new hx1).same (same_upd (o:= .tup [x1,y1]) hp) w2
       have hy2:=(Has.keep k2.keep w1 k2.new hy1).same (same_upd (o:= .tup [x1,y1]) hp) w2
       exact ⟨p0,[x1,y1],rfl, .of upd_same,HasL.cons hx2 (HasL.cons hy2 HasL.nil)⟩
      ·rw [zipD_len,r1.length,r2.length]
       omega
     ·cases hq
    ·cases hq
   ·rename_i hq
    split at hq
    ·split at hq<;>cases hq
    ·cases hq
   ·exact q.elim
end
end L3
namespace L3
open PySem PySem.Spec PyProof.Rows L2
section
variable {α β:Type}
theorem ofR_ok (a:α) (k:α→Out):ofR (.ok a) k=k a:=rfl
theorem ofR_ex (c:Str) (fs:List D) (k:α→Out):ofR (.ex c fs) k= .ex c fs:=rfl
theorem ofR_stuck (k:α→Out):ofR .stuck k= .stuck:=rfl
theorem seqO_nx (δ:DSt) (g:DSt→Out):seqO (.nx δ) g=g δ:=rfl
theorem seqO_rt (d:D) (g:DSt→Out):seqO (.rt d) g= .rt d:=rfl
theorem seqO_stuck (g:DSt→Out):seqO .stuck g= .stuck:=rfl
theorem ifO_ok (c:Bool) (a b:Out):ifO (.ok c) a b=if c=true then a else b:=rfl
theorem andB_ok (c:Bool) (y:Res Bool):andB (.ok c) y=if c=true then y else .ok false:=rfl
theorem orB_ok (c:Bool) (y:Res Bool):orB (.ok c) y=if c=true then .ok true else y:=rfl
theorem andD_bl (c:Bool) (y:Res D):andD (.ok (.bl c)) y=if c=true then y else .ok (.bl false):=by cases c<;>rfl
theorem orD_bl (c:Bool) (y:Res D):orD (.ok (.bl c)) y=if c=true then .ok (.bl true) else y:=by cases c<;>rfl
theorem boolR_bl (c:Bool):boolR (.bl c)= .ok c:=rfl
theorem notD_bl (c:Bool):notD (.bl c)= .ok (.bl (!c)):=rfl
theorem eqR_ii (i j:Int):eqR (.int i) (.int j)= .ok (.bl (i==j)):=by simp [eqR,shal,eqD]
theorem neR_ii (i j:Int):neR (.int i) (.int j)= .ok (.bl (!(i==j))):=by simp [neR,shal,eqD]
theorem eqR_bb (i j:Bool):eqR (.bl i) (.bl j)= .ok (.bl (i==j)):=by simp [eqR,shal,eqD]
theorem ltR_ii (i j:Int):ltR (.int i) (.int j)= .ok (.bl (decide (i<j))):=rfl
theorem leR_ii (i j:Int):leR (.int i) (.int j)= .ok (.bl (decide (i≤j))):=rfl
theorem gtR_ii (i j:Int):gtR (.int i) (.int j)= .ok (.bl (decide (j<i))):=rfl
theorem geR_ii (i j:Int):geR (.int i) (.int j)= .ok (.bl (decide (j≤i))):=rfl
theorem addD_ii (i j:Int):addD (.int i) (.int j)= .ok (.int (i+j)):=rfl
theorem addD_tt (xs ys:List D):addD (.tup xs) (.tup ys)=@ite (Res D) (xs.length+ys.length≤sizeLine) (Classical.propDecidable _) (.ok (.tup (xs++ys))) .stuck:=rfl
theorem addD_small (xs ys:List D) (h:xs.length+ys.length≤1000):addD (.tup xs) (.tup ys)= .ok (.tup (xs++ys)):=by
 rw [addD_tt,if_pos (Nat.le_trans h k1000)]
theorem subD_ii (i j:Int):subD (.int i) (.int j)= .ok (.int (i-j)):=rfl
theorem negD_i (i:Int):negD (.int i)= .ok (.int (-i)):=rfl
theorem modD_ii (i j:Int):modD (.int i) (.int j)=@ite (Res D) (0<j) (Classical.propDecidable _) (.ok (.int (i%j))) .stuck:=rfl
theorem fdivD_ii (i j:Int):fdivD (.int i) (.int j)=@ite (Res D) (0<j∧j<1073741824) (Classical.propDecidable _) (.ok (.int (i / j))) .stuck:=rfl
theorem maxR_ii (i j:Int):maxR [.int i, .int j]= .ok (.int (max i j)):=rfl
theorem minR_ii (i j:Int):minR [.int i, .int j]= .ok (.int (min i j)):=rfl
theorem absR_i (i:Int):absR (.int i)= .ok (.int (if i<0 then -i else i)):=rfl
theorem lenR_t (ds:List D):lenR (.tup ds)= .ok (.int ds.length):=rfl
theorem lenR_l (ds:List D):lenR (.lst ds)= .ok (.int ds.length):=rfl
theorem seqR_t (ds:List D):seqR (.tup ds)= .ok ds:=rfl
theorem seqR_l (ds:List D):seqR (.lst ds)= .ok ds:=rfl
theorem tupofR_t (ds:List D):tupofR (.tup ds)= .ok (.tup ds):=rfl
theorem tupofR_l (ds:List D):tupofR (.lst ds)= .ok (.tup ds):=rfl
theorem partR_i (i:Int):partR (.int i)= .ok (some i):=rfl
theorem consR_ok (d:D) (ds:List D):consR (.ok d) (.ok ds)= .ok (d::ds):=rfl
theorem noex_ok (a:α):noex (.ok a)= .ok a:=rfl
theorem slD_l (ds:List D) (lo hi:Option Int):slD (.lst ds) lo hi= .ok (.lst (cutD ds lo hi)):=rfl
theorem slotD_0 (x:D) (l:DSt):slotD 0 (some (.d x)::l)= .ok x:=rfl
theorem slotD_s (n:Nat) (a:Option S) (l:DSt):slotD (n+1) (a::l)=slotD n l:=by simp [slotD]
theorem slotP_0 (x:D) (l:DSt):slotP 0 (some (.d x)::l)= .ok x:=rfl
theorem slotP_0o (x:List D) (l:DSt):slotP 0 (some (.o x)::l)= .ok (.lst x):=rfl
theorem slotP_s (n:Nat) (a:Option S) (l:DSt):slotP (n+1) (a::l)=slotP n l:=by simp [slotP]
theorem callR_eq (n:Nat) (m:List D→Res D) (ds:List D) (d:D) (h:m ds= .ok d) (hn:ds.length=n):callR n m ds= .ok d:=by
 unfold callR;rw [if_pos hn,h];rfl
theorem ixR_t (ds:List D) (i:Int) (d:D) (h:atI ds i=some d):ixR (.tup ds) (.int i)= .ok d:=by show (match atI ds i with|some d=>Res.ok d|none=>Res.stuck)=_;rw [h]
theorem ixR_l (ds:List D) (i:Int) (d:D) (h:atI ds i=some d):ixR (.lst ds) (.int i)= .ok d:=by show (match atI ds i with|some d=>Res.ok d|none=>Res.stuck)=_;rw [h]
theorem atI_pos {xs:List α} {i:Int} {d:α} (h0:0≤i) (h:xs[i.toNat]? =some d):atI xs i=some d:=by
 have hl:=(List.getElem?_eq_some_iff.mp h).1
 unfold atI ixN
 rw [if_pos h0,if_pos (by omega)]
 exact h
theorem atI_in {xs:List α} {i:Int} (h0:0≤i) (h1:i<xs.length):∃ d,atI xs i=some d∧d∈xs:=by
 have hl:i.toNat<xs.length:=by omega
 exact ⟨xs[i.toNat],atI_pos h0 (List.getElem?_eq_getElem hl),List.getElem_mem hl⟩
end
section
variable {t:D→DSt→Res DSt} {body:DSt→Out}
theorem forD_cons (d:D) (ds:List D) (δ δ':DSt) (h:t d δ= .ok δ'):forD t body (d::ds) δ=(match body δ' with
   | .nx δ2=>forD t body ds δ2
   | .ct δ2=>forD t body ds δ2
   | .bk δ2=> .nx δ2
   | .rt d=> .rt d
   | .ex c fs=> .ex c fs
   | .stuck=> .stuck):=by
 rw [forD,h]
 first|done|rfl|dsimp only
end
section
variable {fe:DSt→Res D} {c:DSt→Res Bool}
theorem compD_cons (t:D→DSt→Res DSt) (d:D) (ds:List D) (δ δ':DSt) (h:t d δ= .ok δ'):compD t c fe (d::ds) δ=((noex (c δ')).bind fun k=>if k=true then (noex (fe δ')).bind fun x=>(compD t c fe ds δ').bind fun r=> .ok (x::r) else compD t c fe ds δ'):=by
 rw [compD]
 rw [h]
theorem comp_filter (p:D→Bool) (f:D→D) (δ:DSt):∀ (ds:List D) (x:Option S),(∀ d∈ds,c (some (.d d)::δ)= .ok (p d)∧(p d=true→fe (some (.d d)::δ)= .ok (f d)))→compD (setI 0) c fe ds (x::δ)= .ok ((ds.filter p).map f)
 | [],_,_=>rfl
 |d::ds,x,h=>by
  obtain ⟨h1,h2⟩:=h d List.mem_cons_self
  rw [compD_cons (setI 0) d ds (x::δ) (some (.d d)::δ) rfl,h1]
  have ih:=comp_filter p f δ ds (some (.d d)) fun y hy=>h y (List.mem_cons_of_mem _ hy)
  rw [ih]
  cases hp:p d with
  |false=>rw [List.filter_cons_of_neg (by rw [hp];exact Bool.false_ne_true)];rfl
  |true=>rw [List.filter_cons_of_pos hp,h2 hp];rfl
theorem comp_map (f:D→D) (δ:DSt) (ds:List D) (x:Option S) (h:∀ d∈ds,fe (some (.d d)::δ)= .ok (f d)):compD (setI 0) (fun _=> .ok true) fe ds (x::δ)= .ok (ds.map f):=by
 rw [comp_filter (fun _=>true) f δ ds x fun d hd=>⟨rfl,fun _=>h d hd⟩]
 rw [List.filter_eq_self.mpr fun _ _=>rfl]
end
theorem asBools_map {α:Type} (f:α→Bool) (xs:List α):asBools (xs.map fun x=>D.bl (f x))=some (xs.map f):=by
 induction xs with
 |nil=>rfl
 |cons x xs ih=>simp [asBools,ih]
theorem allR_map {α:Type} (f:α→Bool) (xs:List α):allR (.lst (xs.map fun x=>D.bl (f x)))= .ok (.bl (xs.all f)):=by
 show (match asBools (xs.map fun x=>D.bl (f x)) with|some bs=>Res.ok (D.bl (bs.all id))|none=>Res.stuck)=_
 rw [asBools_map]
 simp [List.all_map]
end L3
namespace L3
open PySem PySem.Spec PyProof.Rows L2
theorem chain_le (i j k:Int):chainR leR leR (.int i) (.int j) (.ok (.int k))= .ok (.bl (decide (i≤j∧j≤k))):=by
 unfold chainR
 rw [leR_ii]
 by_cases h:i≤j
 ·rw [decide_eq_true h]
  show leR (.int j) (.int k)=_
  rw [leR_ii];simp [h]
 ·rw [decide_eq_false h]
  simp [h,Res.bind]
theorem chain_lelt (i j k:Int):chainR leR ltR (.int i) (.int j) (.ok (.int k))= .ok (.bl (decide (i≤j∧j<k))):=by
 unfold chainR
 rw [leR_ii]
 by_cases h:i≤j
 ·rw [decide_eq_true h]
  show ltR (.int j) (.int k)=_
  rw [ltR_ii];simp [h]
 ·rw [decide_eq_false h]
  simp [h,Res.bind]
def finO:Out→Res D
 | .rt d=> .ok d
 | .nx _=> .ok .non
 |_=> .stuck
theorem runD_eq (n:Nat) (g:DSt→Out) (ds:List D):runD n g ds=finO (g (startD n ds)):=by
 unfold runD finO
 cases g (startD n ds)<;>rfl
theorem finO_rt (d:D):finO (.rt d)= .ok d:=rfl
theorem finO_nx (δ:DSt):finO (.nx δ)= .ok .non:=rfl
theorem shal_ints (ns:List Int):shal 40 (.lst (ns.map D.int))=true:=by simp [shal]
end L3
namespace L3
open PySem PySem.Spec PyProof.Rows L2 SeqAt
structure XE (X:Cx) (xw:XW) (e:Expr) (f:DSt→Res D):Prop where
 h:DE X xw e f
structure XP (X:Cx) (xw:XW) (e:Expr) (f:DSt→Res D):Prop where
 h:DP X xw e f
structure XF (X:Cx) (xw:XW) (e:Expr) (f:DSt→Res (List D)):Prop where
 h:DF X xw e f
structure XT (X:Cx) (xw:XW) (e:Expr) (f:DSt→Res Bool):Prop where
 h:DT X xw e f
structure XW' (X:Cx) (xw:XW) (e:Expr) (f:DSt→Res Bool):Prop where
 h:DW X xw e f
structure XA (X:Cx) (xw:XW) (e:List Expr) (f:DSt→Res (List D)):Prop where
 h:DA X xw e f
structure XO (X:Cx) (xw:XW) (e:Option Expr) (f:DSt→Res (Option Int)):Prop where
 h:DO X xw e f
structure XG (X:Cx) (e:Expr) (f:D→DSt→Res DSt):Prop where
 h:DG X e f
structure XGs (X:Cx) (e:List Expr) (f:List D→DSt→Res DSt):Prop where
 h:DGs X e f
structure XTs (X:Cx) (e:List Expr) (f:DSt→Res Bool):Prop where
 h:DTs X e f
structure XS (X:Cx) (xw:XW) (e:Stmt) (f:DSt→Out):Prop where
 h:DS X xw e f
structure XSs (X:Cx) (xw:XW) (e:List Stmt) (f:DSt→Out):Prop where
 h:DSs X xw e f
structure XI (X:Cx) (xw:XW) (tg e:Expr) (f:DSt→Res (List D)):Prop where
 h:DI X xw tg e f
section
variable {X:Cx} {xw:XW} {e a b c:Expr} {f fa fb fc:DSt→Res D} {pos p p2:Pos} {st:Stmt} {sts as bs:List Stmt} {tg iter elt:Expr} {t:D→DSt→Res DSt} {fs:DSt→Res (List D)} {es rest:List Expr} {ga gb gc:DSt→Res Bool} {g g1 g2:DSt→Out}
 {lo hi:Option Expr} {fl fh:DSt→Res (Option Int)} {fi:DSt→Res (List D)} {scope:Scope} {ifs:List Expr} {fe:DSt→Res D}
theorem x_var (i:Nat) {x:Str} (hN:X.N[i]? =some x:=by rfl) (hv:Vis X.env.scope x:=by first|exact Or.inl rfl|exact Or.inr (Or.inl rfl)|exact Or.inr (Or.inr rfl)) (hd:(x==("__debug__":Str))=false:=by decide)
  (hcd:(x==("__classdict__":Str))=false:=by decide):XE X xw (.Name x pos) (slotD i):=⟨de_var i hN hv hd hcd⟩
theorem p_var (i:Nat) {x:Str} (hN:X.N[i]? =some x:=by rfl) (hv:Vis X.env.scope x:=by first|exact Or.inl rfl|exact Or.inr (Or.inl rfl)|exact Or.inr (Or.inr rfl)) (hd:(x==("__debug__":Str))=false:=by decide)
  (hcd:(x==("__classdict__":Str))=false:=by decide):XP X xw (.Name x pos) (slotP i):=⟨dp_var i hN hv hd hcd⟩
theorem p_of (h:XE X xw e f):XP X xw e f:=⟨DE.p h.h⟩
theorem w_and1 (ha:XT X xw a ga):XW' X xw (.BoolOp .And [a] pos) ga:=⟨dw_and1 ha.h⟩
theorem w_or1 (ha:XT X xw a ga):XW' X xw (.BoolOp .Or [a] pos) ga:=⟨dw_or1 ha.h⟩
theorem y_w (h:XW' X xw e ga):XT X xw e ga:=⟨DW.t h.h⟩
theorem y_notN {j pos'} (ha:XP X xw a fa):XT X xw (.Compare a [.IsNot] [.Constant .none j pos'] pos) (tR (b1 notNR fa)):=⟨dt_notN' ha.h⟩
theorem x_tuple (hm:X.mg "tuple"=none) (ha:XP X xw a fa) (hg:Gl X "tuple":=by rfl) (he:starEach [a] X.env=(false,eval a X.env)::starEach [] X.env:=by rfl) (hpl:(backTo pos (starEach [] X.env)).any (·.1)=false:=by rfl):
  XE X xw (.Call (.Name "tuple" p) [a] [] pos) (b1 tupofR fa):=⟨de_tupof hm ha.h hg he hpl⟩
theorem i_seq (h:XE X xw e f):XI X xw tg e (b1 seqR f):=⟨di_seq h.h⟩
theorem i_zip {elts:List Expr} {kt:Nat} {pt:Pos} (hm:X.mg "zip"=none) (ha:XA X xw [a,b] fs) (hg:Gl X "zip":=by rfl) (hs:starEach [a,b] X.env= [(false,eval a X.env),(false,eval b X.env)]:=by rfl) (hs2:starEach [b] X.env= [(false,eval b X.env)]:=by rfl):
  XI X xw (.Tuple elts kt pt) (.Call (.Name "zip" p) [a,b] [] pos) (b1 zipR fs):=⟨di_zip hm ha.h hg hs hs2⟩
theorem g_name (i:Nat) {x:Str} (hN:X.N.Nodup) (hi:X.N[i]? =some x:=by rfl) (hx:Loc X.env.scope x:=by first|exact Or.inl rfl|exact Or.inr rfl) (hf:X.fn x=true∨X.env.scope.names.lookup x=some .local:=by first|exact .inl rfl|exact .inr rfl|assumption):
  XG X (.Name x pos) (setI i):=⟨dg_name i hN hi hx hf⟩
theorem g_nil:XGs X [] unNil:=⟨dgs_nil⟩
theorem g_cons {tgs:List Expr} {ts:List D→DSt→Res DSt} (h1:XG X tg t) (h2:XGs X tgs ts) (hs:(assignEach (tg::tgs) X.env).map (·.2)=assign tg X.env::(assignEach tgs X.env).map (·.2):=by rfl):XGs X (tg::tgs) (unCons t ts):=⟨dgs_cons h1.h h2.h hs⟩
theorem g_tup {tgs:List Expr} {ts:List D→DSt→Res DSt} {k:Nat} {n:Nat} (hc:X.calm=true) (h:XGs X tgs ts) (hn:(assignEach tgs X.env).length=n:=by rfl) (hst:(assignEach tgs X.env).findIdx? (·.1)=none:=by rfl):XG X (.Tuple tgs k pos) (unTup n ts):=⟨dg_tup hc h.h hn hst⟩
theorem t_nil:XTs X [] (fun _=> .ok true):=⟨dts_nil⟩
theorem t_one (h:XT X xwF c gc):XTs X [c] gc:=⟨dts_one h.h⟩
theorem s_asg (he:XE X xw e f) (hg:XG X tg t) (hs:swapsWithSole [tg] e pos.line X.env=pure false:=by rfl) (hw:swappedStores [tg] e X.env=pure none:=by rfl)
  (h1:(assignEach [tg] X.env).map (·.2)= [assign tg X.env]:=by rfl):XS X xw (.Assign [tg] e pos) (sAsg t f):=⟨ds_asg' he.h hg.h hs hw h1⟩
theorem ss_nil:XSs X xw [] .nx:=⟨dss_nil⟩
theorem ss_one (h1:XS X xw st g1):XSs X xw [st] g1:=⟨dss_one h1.h⟩
theorem x_int {i:Int} {j}:XE X xw (.Constant (.int i) j pos) (kD (.int i)):=⟨de_int⟩
theorem x_bl {i:Bool} {j}:XE X xw (.Constant (.bool i) j pos) (kD (.bl i)):=⟨de_bl⟩
theorem x_str {i:Str} {j}:XE X xw (.Constant (.str i) j pos) (kD (.str i)):=⟨de_str⟩
theorem x_non {j}:XE X xw (.Constant .none j pos) (kD .non):=⟨de_non⟩
theorem x_add (ha:XP X xw a fa) (hb:XP X xw b fb):XE X xw (.BinOp a .Add b pos) (b2 addD fa fb):=⟨de_add ha.h hb.h⟩
theorem x_sub (ha:XP X xw a fa) (hb:XP X xw b fb):XE X xw (.BinOp a .Sub b pos) (b2 subD fa fb):=⟨de_sub ha.h hb.h⟩
theorem x_mod (ha:XP X xw a fa) (hb:XP X xw b fb):XE X xw (.BinOp a .Mod b pos) (b2 modD fa fb):=⟨de_mod ha.h hb.h⟩
theorem x_fdiv (ha:XP X xw a fa) (hb:XP X xw b fb):XE X xw (.BinOp a .FloorDiv b pos) (b2 fdivD fa fb):=⟨de_fdiv ha.h hb.h⟩
theorem x_pow (ha:XP X xw a fa) (hb:XP X xw b fb):XE X xw (.BinOp a .Pow b pos) (b2 powD fa fb):=⟨de_pow ha.h hb.h⟩
theorem x_neg (ha:XP X xw a fa):XE X xw (.UnaryOp .USub a pos) (b1 negD fa):=⟨de_neg ha.h⟩
theorem x_cmp {o:CmpOp} {op:D→D→Res D} (hc:CmpR X xw o op) (ha:XP X xw a fa) (hb:XP X xw b fb):XE X xw (.Compare a [o] [b] pos) (b2 op fa fb):=⟨de_cmp hc ha.h hb.h⟩
theorem y_cmp {o:CmpOp} {op:D→D→Res D} (hc:CmpR X xw o op) (ha:XP X xw a fa) (hb:XP X xw b fb):XT X xw (.Compare a [o] [b] pos) (tR (b2 op fa fb)):=⟨dt_cmp hc ha.h hb.h⟩
theorem y_isN {j pos'} (ha:XP X xw a fa):XT X xw (.Compare a [.Is] [.Constant .none j pos'] pos) (tR (b1 isNR fa)):=⟨dt_isN ha.h⟩
theorem y_val (h:XE X xw e f) (he:∀ whole,isTrue e X.env whole=(do let v ←whole;standAt e.pos;holding [v] (truthy v)):=by intro _;rfl):XT X xw e (tR f):=⟨DE.t h.h he⟩
theorem y_not (ha:XT X xw a ga):XT X xw (.UnaryOp .Not a pos) (tNot1 ga):=⟨dt_not ha.h⟩
theorem w_and (ha:XT X xw a ga) (hb:XW' X xw (.BoolOp .And (b::rest) pos) gb):XW' X xw (.BoolOp .And (a::b::rest) pos) (tAnd2 ga gb):=⟨dw_and ha.h hb.h⟩
theorem w_or (ha:XT X xw a ga) (hb:XW' X xw (.BoolOp .Or (b::rest) pos) gb):XW' X xw (.BoolOp .Or (a::b::rest) pos) (tOr2 ga gb):=⟨dw_or ha.h hb.h⟩
theorem x_if (hc:XT X xw c ga) (ha:XE X xw a fa) (hb:XE X xw b fb):XE X xw (.IfExp c a b pos) (vIf ga fa fb):=⟨de_if hc.h ha.h hb.h⟩
theorem a_nil:XA X xw [] aNil:=⟨da_nil⟩
theorem a_cons (ha:XE X xw a fa) (hr:XA X xw es fs) (hs:starEach (a::es) X.env=(false,eval a X.env)::starEach es X.env:=by rfl):XA X xw (a::es) (aCons fa fs):=⟨da_cons ha.h hr.h hs⟩
theorem x_tup {x1} (h:XA X xw es fs):XE X xw (.Tuple es x1 pos) (b1 tupR fs):=⟨de_tup h.h⟩
theorem f_lst (h:XA X xw es fs):XF X xw (.List es pos) (b1 lstR fs):=⟨df_lst h.h⟩
theorem x_new (h:XF X xw e fs):XE X xw e (asD fs):=⟨DF.de h.h⟩
theorem x_ix (ha:XP X xw a fa) (hb:XP X xw b fb) (hs:PlainIx b:=by intro _ _;rfl):XE X xw (.Subscript a b pos) (b2 ixR fa fb):=⟨de_ix ha.h hb.h hs⟩
theorem o_none:XO X xw none oNone:=⟨do_none⟩
theorem o_some (h:XE X xw e f):XO X xw (some e) (b1 partR f):=⟨do_some h.h⟩
theorem f_slL (ha:XP X xw a fa) (hl:XO X xw lo fl) (hh:XO X xw hi fh):XF X xw (.Subscript a (.Slice lo hi none p2) pos) (b3 slL fa fl fh):=⟨df_slL ha.h hl.h hh.h⟩
theorem x_len (hm:X.mg "len"=none) (ha:XP X xw a fa) (hg:Gl X "len":=by rfl) (he:starEach [a] X.env=(false,eval a X.env)::starEach [] X.env:=by rfl) (hpl:(backTo pos (starEach [] X.env)).any (·.1)=false:=by rfl):
  XE X xw (.Call (.Name "len" p) [a] [] pos) (b1 lenR fa):=⟨de_len hm ha.h hg he hpl⟩
theorem x_all (hc:X.calm=true) (hm:X.mg "all"=none) (ha:XP X xw a fa) (hg:Gl X "all":=by rfl) (he:starEach [a] X.env=(false,eval a X.env)::starEach [] X.env:=by rfl) (hpl:(backTo pos (starEach [] X.env)).any (·.1)=false:=by rfl):
  XE X xw (.Call (.Name "all" p) [a] [] pos) (b1 allR fa):=⟨de_all hc hm ha.h hg he hpl⟩
theorem x_isi {C:String} {c:Str} {p2:Pos} (hC:isiOk C) (hbc:bootBuiltins c=some (.type C)) (hm:X.mg "isinstance"=none) (hmc:X.mg c=none) (ha:XP X xw a fa) (hg:Gl X "isinstance":=by rfl) (hgc:Gl X c:=by rfl) (hcn:c≠"__name__":=by decide)
  (hcd:(c==("__debug__":Str))=false:=by decide)
  (he:starEach [a, .Name c p2] X.env=(false,eval a X.env)::starEach [.Name c p2] X.env:=by rfl) (he2:starEach [.Name c p2] X.env=(false,eval (.Name c p2) X.env)::starEach [] X.env:=by rfl)
  (hpl:(backTo pos (starEach [.Name c p2] X.env)).any (·.1)=false:=by rfl):
  XE X xw (.Call (.Name "isinstance" p) [a, .Name c p2] [] pos) (b1 (isiR C) fa):=⟨de_isi hC hbc hm hmc ha.h hg hgc hcn hcd he he2 hpl⟩
theorem x_call {k n:Nat} {x:Str} {m:List D→Res D} (F:Fn X.prog X.w X.K X.mg X.base k x n m) (hr:Room k X.A) (ha:XA X xw (a::es) fs) (hg:Gl X x:=by rfl)
  (hdb:(x==("__debug__":Str))=false:=by decide) (he:starEach (a::es) X.env=(false,eval a X.env)::starEach es X.env:=by rfl) (hpl:(backTo pos (starEach es X.env)).any (·.1)=false:=by rfl):
  XE X xw (.Call (.Name x p) (a::es) [] pos) (b1 (callR n m) fs):=⟨de_call F hr ha.h hg hdb he hpl⟩
theorem f_comp (Nc Nx:List Str) (c:CompOk X scope Nc Nx) (hcalm:X.calm=true) (hi:XI X xw tg iter fi)
  (hY:∀ (C:Addr) (fp:List Addr) (pins:List (Addr×Obj)) (s:Shared) (H:Hp),XG (compCx X scope Nc Nx C fp pins s H) tg t∧XTs (compCx X scope Nc Nx C fp pins s H) ifs gc∧XE (compCx X scope Nc Nx C fp pins s H) xwF elt fe)
  (hs:∀ x,foldedSetIterable iter X.env x=pure x:=by intro _;rfl):
  XF X xw (.ListComp elt [⟨tg,iter,ifs,0⟩] scope pos) (vComp Nc.length t gc fe fi):=⟨df_comp Nc Nx c hcalm hi.h (fun C fp pins s H=>⟨(hY C fp pins s H).1.h,(hY C fp pins s H).2.1.h,(hY C fp pins s H).2.2.h⟩) hs⟩
theorem i_range1 (hm:X.mg "range"=none) (ha:XA X xw [a] fs) (hg:Gl X "range":=by rfl) (hs:starEach [a] X.env= [(false,eval a X.env)]:=by rfl):XI X xw tg (.Call (.Name "range" p) [a] [] pos) (b1 rng1R fs):=⟨di_range1 hm ha.h hg hs⟩
theorem ss_cons (h1:XS X xw st g1) (h2:XSs X xw sts g2):XSs X xw (st::sts) (sSeq g1 g2):=⟨dss_cons h1.h h2.h⟩
theorem s_ret (he:XE X xw e f):XS X xw (.Return (some e) pos) (sRet f):=⟨ds_ret he.h⟩
theorem s_retV (i:Nat) {x:Str} {pos':Pos} (hN:X.N[i]? =some x:=by rfl) (hv:Vis X.env.scope x:=by first|exact Or.inl rfl|exact Or.inr (Or.inl rfl)|exact Or.inr (Or.inr rfl)) (hd:(x==("__debug__":Str))=false:=by decide)
  (hcd:(x==("__classdict__":Str))=false:=by decide):XS X xw (.Return (some (.Name x pos')) pos) (sRet (slotP i)):=⟨ds_retV i hN hv hd hcd⟩
theorem s_set (i:Nat) {x:Str} {pos':Pos} (hN:X.N.Nodup) (he:XE X xw e f) (hi:X.N[i]? =some x:=by rfl) (hx:Loc X.env.scope x:=by first|exact Or.inl rfl|exact Or.inr rfl) (hs:swapsWith e (some (.Name x pos')) pos.line X.env=pure false:=by rfl)
  (hf:X.fn x=true∨X.env.scope.names.lookup x=some .local:=by first|exact .inl rfl|exact .inr rfl|assumption):XS X xw (.Assign [.Name x pos'] e pos) (sSet i f):=⟨ds_set i hN he.h hi hx hs hf⟩
theorem s_own (i:Nat) {x:Str} {pos':Pos} {ff:DSt→Res (List D)} (hN:X.N.Nodup) (he:XF X xw e ff) (hi:X.N[i]? =some x:=by rfl) (hx:Loc X.env.scope x:=by first|exact Or.inl rfl|exact Or.inr rfl) (hs:swapsWith e (some (.Name x pos')) pos.line X.env=pure false:=by rfl)
  (hf:X.fn x=true∨X.env.scope.names.lookup x=some .local:=by first|exact .inl rfl|exact .inr rfl|assumption):XS X xw (.Assign [.Name x pos'] e pos) (sOwn i ff):=⟨ds_own i hN he.h hi hx hs hf⟩
theorem s_if (hc:XT X xw c ga) (ha:XSs X xw as g1) (hb:XSs X xw bs g2):XS X xw (.If c as bs pos) (sIf ga g1 g2):=⟨ds_if hc.h ha.h hb.h⟩
theorem s_for (hp:PassesOwn (model X.prog X.w) X.A X.env X.xe) (hc:X.calm=true) (hi:XI X xw tg iter fi) (hg:XG X tg t) (hb:XSs X xw sts g)
  (hs:∀ x,foldedSetIterable iter X.env x=pure x:=by intro _;rfl):XS X xw (.For tg iter sts [] pos) (sFor t g fi):=⟨ds_for hp hc hi.h hg.h hb.h hs⟩
theorem s_append (i:Nat) {x:Str} {p1 p2 p3:Pos} (he:XE X xw e f) (hN:X.N[i]? =some x:=by rfl) (hv:Vis X.env.scope x:=by first|exact Or.inl rfl|exact Or.inr (Or.inl rfl)|exact Or.inr (Or.inr rfl)) (hd:(x==("__debug__":Str))=false:=by decide)
  (hcd:(x==("__classdict__":Str))=false:=by decide)
  (hsE:starEach [e] X.env=(false,eval e X.env)::starEach [] X.env:=by rfl)
  (hbase:attributeBase (.Name x p1) "append" X.env (eval (.Name x p1) X.env)=eval (.Name x p1) X.env:=by rfl)
  (hfew:((backTo p3 (starEach [e] X.env)).all (fun x=> !x.1)&&(backToKw p3 (keywordEach [] X.env)).all (fun x=>x.1.isSome)
   &&decide (([e]:List Expr).length+([]:List Keyword).length+(if ([]:List Keyword).isEmpty then 0 else 1)<30))=true:=by rfl)
  (hline:(p2.endLine==p3.line)=true:=by rfl) (hplain:(backTo p3 (starEach [] X.env)).any (·.1)=false:=by rfl)
  (hsw:swapsWith (.Call (.Attribute (.Name x p1) "append" p2) [e] [] p3) none pos.line X.env=pure false:=by rfl):
  XS X xw (.Expr (.Call (.Attribute (.Name x p1) "append" p2) [e] [] p3) pos) (sApp i f):=⟨ds_append i he.h hN hv hd hcd hsE hbase hfew hline hplain hsw⟩
end
theorem fn_def {P:Program} {w:World} {K:PySem.W.Frag} {mg:Str→Option Value} {base:Heap} {k:Nat} {x qual:Str} {st:Stmt} {fa:Addr} {fd:FuncData} {N ps:List Str} {g:DSt→Out} (F:Fun K x qual st fa fd) (S:FnScope N ps (defScope st))
  (hm:mg x=some (.ref fa)) (hb:Binds K fd ps [])
  (body:∀ (cdv:Value) (A:Around) (outer:List Env) (s:Shared) (H:Hp) (E:XK),Room k (A.deeper (envOfC qual (defScope st) s.heap.objs.size fa cdv))→
   XSs (cxOf CX0 P w K mg base N qual (defScope st) fa cdv A outer s H E).nox xwF (defBody st) g):Fn P w K mg base (k+1) x ps.length (runD N.length g):=
 fn_body F S hm hb fun cdv A outer s H E hr=>(body cdv A outer s H E hr).h
theorem fn_law {P:Program} {w:World} {K:PySem.W.Frag} {mg:Str→Option Value} {base:Heap} {k:Nat} {x qual:Str} {st:Stmt} {fa:Addr} {fd:FuncData} {N ps:List Str} {g:DSt→Out} (F:Fun K x qual st fa fd) (S:FnScope N ps (defScope st))
  (body:∀ (cdv:Value) (A:Around) (outer:List Env) (s:Shared) (H:Hp) (E:XK),Room k (A.deeper (envOfC qual (defScope st) s.heap.objs.size fa cdv))→
   XSs (cxOf CX0 P w K mg base N qual (defScope st) fa cdv A outer s H E).nox xwF (defBody st) g):FnOk P w K mg base CX0 (k+1) fa fd ps (spD K ps.length (runD N.length g)):=
 fn_bodyO F S fun cdv A outer s H E hr=>(body cdv A outer s H E hr).h
end L3
namespace L3
open PySem PySem.Spec PyProof.Rows L2
section
variable {t:D→DSt→Res DSt} {body:DSt→Out}
theorem forD_ix (I:Nat→DSt→Prop) (ds:List D) (δ:DSt) (hb:∀ i d δ,ds[i]? =some d→I i δ→∃ δ',t d δ= .ok δ'∧∃ δ2,(body δ'= .nx δ2∨body δ'= .ct δ2)∧I (i+1) δ2) (h:I 0 δ):∃ δ2,forD t body ds δ= .nx δ2∧I ds.length δ2:=by
 induction ds generalizing I δ with
 |nil=>exact ⟨δ,rfl,h⟩
 |cons d ds ih=>
  obtain ⟨δ',e1,δ2,e2,h2⟩:=hb 0 d δ rfl h
  obtain ⟨δ3,e3,h3⟩:=ih (fun i=>I (i+1)) δ2 (fun i x δ hx hI=>hb (i+1) x δ (by simpa using hx) hI) h2
  refine ⟨δ3,?_,h3⟩
  rw [forD_cons d ds δ δ' e1]
  rcases e2 with e2|e2<;> · rw [e2];exact e3
end
section
variable {fe:DSt→Res D} {c:DSt→Res Bool}
abbrev un2:D→DSt→Res DSt:=unTup 2 (unCons (setI 0) (unCons (setI 1) unNil))
theorem comp_zip (f:D→D→D) (δ:DSt):∀ (xs ys:List D) (x y:Option S),(∀ (i:Nat) (a b:D),xs[i]? =some a→ys[i]? =some b→fe (some (.d a)::some (.d b)::δ)= .ok (f a b))→compD un2 (fun _=> .ok true) fe (zipD xs ys) (x::y::δ)= .ok (List.zipWith f xs ys)
 | [],_,_,_,_=>by simp [zipD,compD]
 |_::_,[],_,_,_=>by simp [zipD,compD]
 |a::xs,b::ys,x,y,h=>by
  rw [zipD,compD_cons un2 (.tup [a,b]) (zipD xs ys) (x::y::δ) (some (.d a)::some (.d b)::δ) rfl,comp_zip f δ xs ys _ _ fun i p q h1 h2=>h (i+1) p q (by simpa using h1) (by simpa using h2),h 0 a b rfl rfl]
  rfl
theorem compR_ok {n:Nat} {t:D→DSt→Res DSt} {δ:DSt} {ds r:List D} (h:compD t c fe ds (List.replicate n none++δ)= .ok r) (hl:ds.length≤100000):compR n t c fe δ ds= .ok r:=by
 unfold compR
 rw [if_pos hl,h];rfl
end
theorem rng1_i (j:Int) (h0:0≤j) (h:j<100000):rng1R [.int j]= .ok (rngD 0 j.toNat):=by
 unfold rng1R
 simp only
 rw [if_pos (by omega)]
theorem rngD_get {lo:Int} {n i:Nat} {d:D} (h:(rngD lo n)[i]? =some d):i<n∧d= .int (lo+i):=by
 unfold rngD at h
 rw [List.getElem?_map] at h
 have hi:i<n:=by
  refine Nat.lt_of_not_le fun z=> ?_
  rw [List.getElem?_eq_none (by simpa using z)] at h;cases h
 rw [List.getElem?_range hi] at h
 exact ⟨hi,(Option.some.inj h).symm⟩
theorem rngD_len (lo:Int) (n:Nat):(rngD lo n).length=n:=by simp [rngD]
theorem appO_eq (i:Nat) (δ:DSt) (ds:List D) (d:D) (h:δ[i]? =some (some (.o ds))) (hl:ds.length≤100000):appO i δ (.ok d)= .nx (δ.set i (some (.o (ds++ [d])))):=by
 unfold appO
 rw [h]
 show (@ite Out (ds.length≤100000) (Classical.propDecidable _) _ _)=_
 rw [if_pos hl];rfl
end L3
namespace L3
open PySem
theorem tm_fill:fillsNumberSlot (.type "tuple") "mul"=pure false:=fillsNumberSlot_seq (id:="tuple.__mul__") (r:=some (.builtin "tuple.__rmul__")) F.slot_tuple_mul.lookup (by decide +kernel) F.slot_tuple_rmul.lookup (by decide +kernel)
theorem tm_rep:seqRepeat? (.type "tuple")=pure (some (.builtin "tuple.__mul__")):=by
 unfold seqRepeat?
 rw [seqSlot_of (T:="tuple") (name:="__mul__") (id:="tuple.__mul__") F.slot_tuple_mul.lookup (by decide +kernel),seqSlot_of (T:="tuple") (name:="__rmul__") (id:="tuple.__rmul__") F.slot_tuple_rmul.lookup (by decide +kernel)];rfl
theorem tm_no (a:Int) (t:Tok) (l:Addr) (items:Array Value) (n:Nat) (dd:Option Addr) (sl:Array (Option Value)):
  Meets (Builtin.«int.__rmul__» ⟨[.int a t, .ref l],[]⟩) (fun _ R s=>s.heap.get? l=some {cls:= .type "tuple",dict:=dd,data:= .seq items n,slots:=sl}∧R (.ok (.ret Value.notImplemented)) s):=
 .of_wp fun prog w A R s h=>by
  obtain ⟨hp,g,d,tk,os⟩:=s
  obtain ⟨hl,h⟩:=h
  wp_walk
  exact ⟨_,rfl,h⟩
theorem tm_one (l:Addr) (items:Array Value) (n:Nat) (dd:Option Addr) (sl:Array (Option Value)) (u:Tok):
  Meets (Builtin.«tuple.__mul__» ⟨[.ref l, .int 1 u],[]⟩) (fun _ R s=>s.heap.get? l=some {cls:= .type "tuple",dict:=dd,data:= .seq items n,slots:=sl}∧R (.ok (.ret (Value.ref l))) s):=
 .of_wp fun prog w A R s h=>by
  obtain ⟨hp,g,d,tk,os⟩:=s
  obtain ⟨hl,h⟩:=h
  wp_walk
  exact ⟨_,rfl,h⟩
theorem tm_many (l:Addr) (items:Array Value) (n:Nat) (dd:Option Addr) (sl:Array (Option Value)) (k:Int) (u:Tok) (h0:(decide (k< -2^63)||decide (k≥2^63))=false) (h1:(items.isEmpty||k==1)=false) (h2:(decide (k≤0)||items.isEmpty)=false) (h3:¬ (items.size*k>(2^63-1) / 8)) (h4:Builtin.Tuple.tupleTooMany (items.size*k)=false) (h5:((List.replicate k.toNat items).foldl (· ++ ·) #[]).size≤sizeLine):
  Meets (Builtin.«tuple.__mul__» ⟨[.ref l, .int k u],[]⟩) (fun _ R s=>s.heap.get? l=some {cls:= .type "tuple",dict:=dd,data:= .seq items n,slots:=sl}∧R (.ok (.ret (Value.ref s.heap.objs.size))) {s with heap:=s.heap.push {cls:= .type "tuple",data:= .seq ((List.replicate k.toNat items).foldl (· ++ ·) #[])}}):=
 .of_wp fun prog w A R s h=>by
  obtain ⟨hp,g,d,tk,os⟩:=s
  obtain ⟨hl,h⟩:=h
  wp_walk
  refine wpAny_ite_false (by rw [h0];rfl) ?_
  wp_walk
  refine wpAny_ite_false (decide_eq_false h3) ?_
  wp_walk
  exact ⟨_,rfl,h⟩
end L3
namespace L3
open PySem PySem.Spec PyProof.Rows L2 SeqAt
section
variable {X:Cx} {xw:XW} {a b:Expr} {fa fb:DSt→Res D} {pos p:Pos}
theorem op_repT:OpR X (binaryOp .Mult) (fun x y H Q=>∃ l k xs,x= .ref l∧y= .int k∧SqT X.K H l xs∧xs≠ []∧1≤k∧k≤1000∧xs.length≤1000∧(k=1→Q (.ref l) H)∧(k≠1→∀ p,H p=none→Q (.ref p) (upd H p (.tup (List.replicate k.toNat xs).flatten)))):=by
 intro pins s σ H x y v u Q I rx ry h
 obtain ⟨l,k,xs,rfl,rfl,sq,hne,h1,h2,hl,q1,q2⟩:=h
 cases rx
 obtain ⟨t,rfl⟩:=ry
 obtain ⟨its,r,⟨⟨cls,dd,data,sl⟩,ho,hc,n,hd⟩,hz⟩:=I.tuple sq
 simp only at hc hd
 subst hc hd
 have hlen:=r.length
 have hi:its≠ []:=fun e=>hne (by rw [e] at hlen;exact List.eq_nil_of_length_eq_zero hlen)
 have he:its.toArray.isEmpty=false:=by cases its with
  |nil=>exact absurd rfl hi
  |cons=>simp
 have hsz:(its.toArray.size:Int)*k≤1000000:=by
  rw [List.size_toArray,←hlen]
  have h3:(xs.length:Int)*k≤1000*1000:=Int.mul_le_mul (by omega) h2 (by omega) (by decide)
  omega
 have hsz':(its.length:Int)*k≤1000000:=by simpa using hsz
 refine wpAny_binaryOp_repeat_ref (T:="tuple") (U:="int") (by decide) ⟨_,ho,rfl⟩ (fun s'=>typeIs_int s' k t) tm_fill F.fills_int_mul F.slot_int_rmul tm_rep F.slot_int_index.lookup
  (call_meets F.slot_int_rmul (typeIs_int s k t) F.entry_int_rmul (F.args_int_rmul_2 _ _) (tm_no k t l its.toArray n dd sl) ⟨ho,rfl,⟨_,ho,rfl⟩,?_⟩)
 by_cases hk:k=1
 ·subst hk
  exact call_meets F.slot_tuple_mul ⟨_,ho,rfl⟩ F.entry_tuple_mul (F.args_tuple_mul_2 _ _) (tm_one l its.toArray n dd sl t) ⟨ho,⟨.ref l,H,I,rfl,q1 rfl⟩⟩
 ·have hfl:(List.replicate k.toNat its.toArray).foldl (fun x1 x2=>x1++x2) #[]=(List.replicate k.toNat its).flatten.toArray:=by
   have:=foldl_rep its k.toNat []
   rw [List.nil_append] at this
   exact this
  have hfz:(List.replicate k.toNat its).flatten.length≤sizeLine:=by
   rw [len_rep,sizeLine_eq]
   have h3:its.length*k.toNat≤1000*1000:=Nat.mul_le_mul (by omega) (by omega)
   rw [Nat.mul_comm];omega
  refine call_meets F.slot_tuple_mul ⟨_,ho,rfl⟩ F.entry_tuple_mul (F.args_tuple_mul_2 _ _) (tm_many l its.toArray n dd sl k t ?_ ?_ ?_ ?_ ?_ ?_) ⟨ho,?_⟩
  ·simp only [Bool.or_eq_false_iff,decide_eq_false_iff_not];omega
  ·rw [he];simpa using hk
  ·rw [he];simp;omega
  ·omega
  ·unfold Builtin.Tuple.tupleTooMany
   have:((sizeLine:Nat):Int)=16777216:=by rw [sizeLine_eq];rfl
   rw [this];simp;omega
  ·rw [hfl,List.size_toArray];exact hfz
  ·rw [hfl]
   refine ⟨.ref s.heap.objs.size,_,I.laid (a:=s.heap.objs.size) (o:= .tup (List.replicate k.toNat xs).flatten) (t':=s.toks) (fun _ _ e=>Heap.get?_push_of_some _ e) (Nat.le_refl _) ⟨?_,_,r.rep k.toNat,IsTup.new _ _⟩,rfl,q2 hk _ I.fresh⟩
   rw [len_rep,sizeLine_eq]
   have h3:xs.length*k.toNat≤1000*1000:=Nat.mul_le_mul (by omega) (by omega)
   rw [Nat.mul_comm];omega
noncomputable def mulE:D→D→Res D
 | .int i, .int j=>mulD (.int i) (.int j)
 | .tup xs, .int k=>@ite (Res D) (xs≠ []∧1≤k∧k≤1000∧xs.length≤1000) (Classical.propDecidable _) (.ok (.tup (List.replicate k.toNat xs).flatten)) .stuck
 |_,_=> .stuck
theorem mulE_ii (i j:Int):mulE (.int i) (.int j)=@ite (Res D) ((-18446744073709551616<i∧i<18446744073709551616)∨(-18446744073709551616<j∧j<18446744073709551616)) (Classical.propDecidable _) (.ok (.int (i*j))) .stuck:=rfl
theorem mulE_t (xs:List D) (k:Int) (h:xs≠ []∧1≤k∧k≤1000∧xs.length≤1000):mulE (.tup xs) (.int k)= .ok (.tup (List.replicate k.toNat xs).flatten):=if_pos h
theorem HasL.rep {K:PySem.W.Frag} {W:WS} {H:Hp} {ds:List D} {xs:List V} (h:HasL K W H ds xs):∀ k:Nat,HasL K W H (List.replicate k ds).flatten (List.replicate k xs).flatten
 |0=>by simp [HasL]
 |k+1=>by
  rw [List.replicate_succ,List.flatten_cons,List.replicate_succ,List.flatten_cons]
  exact h.append (HasL.rep h k)
theorem x_mulE (ha:XP X xw a fa) (hb:XP X xw b fb):XE X xw (.BinOp a .Mult b pos) (b2 mulE fa fb):=⟨by
 refine de_op2 (op_mul.or op_repT) (fun W H d e v u Q w hv hu q=> ?_) ha.h hb.h
 unfold mulE at q
 split at q
 ·unfold mulD at q
  dsimp only at q
  split at q
  ·rename_i hj
   exact .inl ⟨_,_,hv.int,hu.int,hj,q.int⟩
  ·exact q.elim
 ·split at q
  ·rename_i xs k hj
   obtain ⟨l,ys,e,sq,r⟩:=hv.tup
   refine .inr ⟨l,k,ys,e,hu.int,sq,?_,hj.2.1,hj.2.2.1,by rw [←r.length];exact hj.2.2.2,fun hk=> ?_,fun _ p hp=>q.newT w hp (r.rep _)⟩
   ·intro z
    subst z
    exact hj.1 (List.eq_nil_of_length_eq_zero (by simpa using r.length))
   ·subst hk
    refine q _ H (Same.refl _) ?_
    rw [Has]
    exact ⟨l,ys,rfl,sq,by simpa using r⟩
  ·exact q.elim
 ·exact q.elim⟩
def intsOf:List D→Option (List Int)
 | []=>some []
 | .int i::r=>(intsOf r).map (i:: ·)
 |_=>none
theorem intsOf_eq:∀ {ds:List D} {ns:List Int},intsOf ds=some ns→ds=ns.map D.int
 | [],ns,h=>by rw [intsOf] at h;cases h;rfl
 | .int i::r,ns,h=>by
  rw [intsOf] at h
  obtain ⟨ms,h1,rfl⟩:=Option.map_eq_some_iff.mp h
  rw [List.map_cons,intsOf_eq h1]
 | .non::_,_,h=>by simp [intsOf] at h
 | .bl _::_,_,h=>by simp [intsOf] at h
 | .str _::_,_,h=>by simp [intsOf] at h
 | .tup _::_,_,h=>by simp [intsOf] at h
 | .lst _::_,_,h=>by simp [intsOf] at h
 | .dct _ _::_,_,h=>by simp [intsOf] at h
 | .exc _ _::_,_,h=>by simp [intsOf] at h
 | .obj _ _ _::_,_,h=>by simp [intsOf] at h
def tupT (ns:List Int):Str:=(PyData.tuple (ns.map PyData.int)).shown
theorem readsAll_ints {h:Heap}:∀ {us:List Value} {ns:List Int},IntsAre us ns→ReadsAll h us (ns.map PyData.int) []
 |_,_, .nil=> .nil
 |_,_, .cons n t r=> .cons (.int n t) (readsAll_ints r)
theorem call_strT {k:Nat} (hr:Room k X.A):CallR X (.type "str") (fun xs H Q=>∃ a ns,xs= [.ref a]∧SqT X.K H a (ns.map V.int)∧(PyData.tuple (ns.map PyData.int)).showable=true∧(tupT ns).length≤sizeLine∧Q (.str (tupT ns)) H):=by
 intro pins s σ H xs us Q I r h
 obtain ⟨a,ns,rfl,sq,hs,hz,q⟩:=h
 obtain ⟨u,rfl,rx⟩:=vals1 r
 cases (show u=Value.ref a from rx)
 obtain ⟨its,rv,⟨o,ho,hc,n,hd⟩,_⟩:=I.tuple sq
 have hI:IntsAre its ns:=intsAre_of rv
 have rd:Reads s.heap (.ref a) (.tuple (ns.map PyData.int)) []:= .tuple ho hc hd (by simpa using readsAll_ints hI)
 have hdict:∀ ms:List Int,PyData.hasDictAll (ms.map PyData.int)=false:=fun ms=>by
  induction ms with
  |nil=>rfl
  |cons m ms ih=>rw [List.map_cons,PyData.hasDictAll,ih];rfl
 have hdep:∀ ms:List Int,PyData.depthAll (ms.map PyData.int)≤1:=fun ms=>by
  induction ms with
  |nil=>simp [PyData.depthAll]
  |cons m ms ih=>rw [List.map_cons,PyData.depthAll];simp [PyData.depth];omega
 refine str_of_reads rd hs (fun z=>by rw [PyData.hasDict,hdict] at z;cases z) hr.gd ?_ (fun _ _ e=>e) (fun h' u tk hk=>⟨.str (tupT ns),H,I.kept (t':=tk) hk,⟨u,rfl⟩,q⟩) hz
 have:=hr.units
 have:=hdep ns
 rw [PyData.depth]
 omega
noncomputable def strR:D→Res D
 | .int i=>@ite (Res D) (i.natAbs.log2<1920) (Classical.propDecidable _) (.ok (.str (toString i))) .stuck
 | .tup ds=>match intsOf ds with
  |some ns=>@ite (Res D) ((PyData.tuple (ns.map PyData.int)).showable=true∧(tupT ns).length≤sizeLine) (Classical.propDecidable _) (.ok (.str (tupT ns))) .stuck
  |none=> .stuck
 |_=> .stuck
theorem x_strof {k:Nat} (hr:Room k X.A) (hm:X.mg "str"=none) (ha:XP X xw a fa) (hg:Gl X "str":=by rfl) (he:starEach [a] X.env=(false,eval a X.env)::starEach [] X.env:=by rfl) (hpl:(backTo pos (starEach [] X.env)).any (·.1)=false:=by rfl):
  XE X xw (.Call (.Name "str" p) [a] [] pos) (b1 strR fa):=⟨
 de_callT1 (call_str_int.or (call_strT hr)) (fun W H d v Q w hv q=>by
  unfold strR at q
  split at q
  ·split at q
   ·rename_i i hi
    exact .inl ⟨i,by rw [hv.int],hi,q.str⟩
   ·exact q.elim
  ·split at q
   ·rename_i ns hn
    split at q
    ·rename_i hz
     obtain ⟨a,xs,e,sq,r⟩:=hv.tup
     rw [intsOf_eq hn] at r
     have ex:xs=ns.map V.int:=by
      clear sq q hz hn
      induction ns generalizing xs with
      |nil=>rw [List.map_nil,HasL] at r;exact r
      |cons n ns ih=>
       rw [List.map_cons,HasL] at r
       obtain ⟨x,r',rfl,h1,h2⟩:=r
       rw [Has] at h1
       rw [h1,ih _ h2];rfl
     rw [ex] at sq
     exact .inr ⟨a,ns,by rw [e],sq,hz.1,hz.2,q.str⟩
    ·exact q.elim
   ·exact q.elim
  ·exact q.elim) hm (by decide +kernel) ha.h hg (by decide) (by decide) he hpl⟩
end
end L3
namespace L3
open PySem PySem.Spec PyProof.Rows L2 SeqAt
section
variable {K:PySem.W.Frag} {W₀ W:WS} {H₀ H H':Hp} {σ:L2.St} {δ:DSt}
theorem StHas.freeze {i:Nat} {ds:List D} {a:Addr} (h:StHas K W₀ H₀ W H σ δ) (hi:δ[i]? =some (some (.o ds))) (hs:σ[i]? =some (some (.ref a))):
  StHas K W₀ H₀ (fun b=>W b∧b≠a) H σ (δ.set i (some (.d (.lst ds))))∧Has K (fun b=>W b∧b≠a) H (.lst ds) (.ref a):=by
 obtain ⟨v,h1,b,xs,e',hW,h0,h3,h4⟩:=h.at' i _ hi
 rw [hs] at h1
 cases h1
 cases e'
 have hd:Has K (fun b=>W b∧b≠a) H (.lst ds) (.ref a):=by
  rw [Has]
  exact ⟨a,xs,rfl, .inl ⟨h3,fun z=>z.2 rfl⟩,HasL.keep (fun _ _ e _=>e) h.fr.wl (fun b z=> .inl z.1) h4⟩
 exact ⟨h.freezeG (owo ds) hi hs hd,hd⟩
end
section
variable {X:Cx} {xw:XW} {pos p p2:Pos} {tg a b c:Expr} {fa fb:DSt→Res D} {fs:DSt→Res (List D)}
def b2F (op:D→D→Res (List D)) (f g:DSt→Res D):DSt→Res (List D):=fun δ=>(f δ).bind fun x=>(g δ).bind fun y=>op x y
noncomputable def catR:D→D→Res (List D)
 | .lst xs, .lst ys=>@ite (Res (List D)) (xs.length+ys.length≤sizeLine) (Classical.propDecidable _) (.ok (xs++ys)) .stuck
 |_,_=> .stuck
theorem op_catL:OpR X (binaryOp .Add) (fun x y H Q=>∃ l b xs zs,x= .ref l∧y= .ref b∧SqL X.K H l xs∧SqL X.K H b zs∧xs.length+zs.length≤sizeLine∧∀ p,H p=none→Q (.ref p) (upd H p (.lst (xs++zs)))):=by
 intro pins s σ H x y v u Q I rx ry h
 obtain ⟨l,b,xs,zs,rfl,rfl,hH,hB,hz,q⟩:=h
 cases rx
 cases ry
 obtain ⟨its,r,⟨⟨cls,dd,data,sl⟩,n,e,hc,hd,hs⟩,hz1⟩:=I.list hH
 obtain ⟨its2,r2,⟨⟨cls2,dd2,data2,sl2⟩,n2,e2,hc2,hd2,hs2⟩,hz2⟩:=I.list hB
 simp only at hc hd hs hc2 hd2 hs2
 subst hc hd hs hc2 hd2 hs2
 have hl:=r.length
 have hl2:=r2.length
 refine concat_meets ⟨_,e,rfl⟩ ⟨_,e2,rfl⟩ noFill_list_add seq_list_add PySem.F.slot_list_add PySem.F.entry_list_add (PySem.F.args_list_add_2 _ _) (list_addW l b its.toArray its2.toArray n n2 none none sl sl2 (by rw [List.size_toArray,List.size_toArray];omega)) ⟨e,e2,?_⟩
 have ea:its.toArray++its2.toArray=(its++its2).toArray:=by simp
 rw [ea]
 exact ⟨.ref _,_,I.lnew (t':=s.toks) (r.append r2) (by rw [List.length_append];omega),rfl,q _ I.fresh⟩
theorem two_readF {σ:L2.St} {H:Hp} {W₀ W:WS} {H₀:Hp} {δ:DSt} {op:D→D→Res (List D)} {Q:VK} {R:V→V→Hp→Prop} (st:StHas X.K W₀ H₀ W H σ δ)
  (q:RF X.K xw W H ((fa δ).bind fun x=>(fb δ).bind fun y=>op x y) Q)
  (h:∀ H2 d e v u,Same H H2→WL W H2→HasT X.K W H2 d v→HasT X.K W H2 e u→RF X.K xw W H2 (op d e) Q→R v u H2):
  tDP X.K xw fa σ H fun x H1=>tDP X.K xw fb σ H1 fun y H2=>R x y H2:=by
 refine ⟨W₀,H₀,W,δ,st,?_⟩
 cases h1:fa δ with
 |stuck=>rw [h1] at q;exact q
 |ex c fs=>rw [h1] at q;exact q
 |ok d=>
  rw [h1] at q
  intro v H1 k1 hv
  refine ⟨W₀,H₀,W,δ,st.same k1,?_⟩
  have q':RF X.K xw W H ((fb δ).bind fun y=>op d y) Q:=q
  cases h2:fb δ with
  |stuck=>rw [h2] at q';exact q'
  |ex c fs=>rw [h2] at q';exact fun H2 k2=>q' H2 (k1.trans k2)
  |ok e=>
   rw [h2] at q'
   intro u H2 k2 hu
   have q2:RF X.K xw W H (op d e) Q:=q'
   exact h H2 d e v u (k1.trans k2) (st.fr.wl.same (k1.trans k2)) (hv.same k2 (st.fr.wl.same k1)) hu (RF.same q2 (k1.trans k2))
theorem f_cat (ha:XP X xw a fa) (hb:XP X xw b fb):XF X xw (.BinOp a .Add b pos) (b2F catR fa fb):=
 ⟨PE.weak (pe_op op_catL ha.h hb.h) fun σ H Q ⟨W₀,H₀,W,δ,st,q⟩=>two_readF st q fun H2 d e v u k w hv hu q2=>by
  unfold catR at q2
  split at q2
  ·split at q2
   ·rename_i hz
    obtain ⟨a1,xs,e1,s1,r1⟩:=hv.lst
    obtain ⟨a2,ys,e2,s2,r2⟩:=hu.lst
    exact ⟨a1,a2,xs,ys,e1,e2,s1,s2,by rw [←r1.length,←r2.length];exact hz,fun p hp=>q2 p _ H2 (Same.refl _) hp (r1.append r2)⟩
   ·exact q2.elim
  ·exact q2.elim⟩
end
end L3
namespace L3
open PySem PySem.Spec PyProof.Rows L2 SeqAt
def flatD:D→Bool
 | .non=>true
 | .bl _=>true
 | .int _=>true
 | .str _=>true
 |_=>false
section
variable {K:PySem.W.Frag} {W:WS} {H:Hp}
theorem flat_has {d:D} {v:V} (h:Has K W H d v) (f:flatD d=true):flatV v=true:=by
 cases d with
 |non=>rw [Has] at h;subst h;rfl
 |bl b=>rw [Has] at h;subst h;rfl
 |int i=>rw [Has] at h;subst h;rfl
 |str x=>rw [Has] at h;subst h;rfl
 |_=>cases f
theorem eq_has {d e:D} {v u:V} (h:Has K W H d v) (g:Has K W H e u) (f:flatD d=true) (f2:flatD e=true):eqV v u=eqD d e:=by
 cases d with
 |non=>rw [Has] at h;subst h;cases e<;>first|exact absurd (show false=true from f2) Bool.false_ne_true|(rw [Has] at g;subst g;simp [eqV,eqD])
 |bl b=>rw [Has] at h;subst h;cases e<;>first|exact absurd (show false=true from f2) Bool.false_ne_true|(rw [Has] at g;subst g;simp [eqV,eqD])
 |int i=>rw [Has] at h;subst h;cases e<;>first|exact absurd (show false=true from f2) Bool.false_ne_true|(rw [Has] at g;subst g;simp [eqV,eqD])
 |str x=>rw [Has] at h;subst h;cases e<;>first|exact absurd (show false=true from f2) Bool.false_ne_true|(rw [Has] at g;subst g;simp [eqV,eqD])
 |_=>cases f
theorem in_has {d:D} {v:V} (h:Has K W H d v) (f:flatD d=true):∀ {ds:List D} {xs:List V},HasL K W H ds xs→ds.all flatD=true→xs.all flatV=true∧inV v xs=ds.any (fun y=>eqD y d)
 | [],_,r,_=>by rw [HasL] at r;subst r;exact ⟨rfl,rfl⟩
 |e::ds,_,r,fs=>by
  rw [HasL] at r
  obtain ⟨x,q,rfl,hx,hq⟩:=r
  rw [List.all_cons,Bool.and_eq_true] at fs
  obtain ⟨h1,h2⟩:=in_has h f hq fs.2
  refine ⟨by rw [List.all_cons,flat_has hx fs.1,h1];rfl,?_⟩
  show (eqV x v||inV v q)=(eqD e d||ds.any fun y=>eqD y d)
  rw [eq_has hx h fs.1 f,h2]
end
def subS (i j:Str):Bool:= !(Builtin.Str.occurrences j i 0 j.length 1).isEmpty
def inB (d:D) (ds:List D):Bool:=ds.any fun y=>eqD y d
def inR:D→D→Res D
 | .str i, .str j=> .ok (.bl (subS i j))
 |d, .tup ds=>if (flatD d&&ds.all flatD)=true then .ok (.bl (inB d ds)) else .stuck
 |d, .lst ds=>if (flatD d&&ds.all flatD)=true then .ok (.bl (inB d ds)) else .stuck
 |_,_=> .stuck
section
variable {X:Cx} {xw:XW} {pos p p2:Pos} {tg a b c e:Expr} {f fa fb:DSt→Res D} {fs:DSt→Res (List D)}
theorem flatT {K:PySem.W.Frag} {W:WS} {H:Hp} {d:D} {v:V} (h:HasT K W H d v) (f:flatD d=true):Has K W H d v:=by
 rcases h with h|⟨ds,_,_,rfl,_⟩
 ·exact h
 ·cases f
theorem op2_in:Op2 X xw (fun x y H Q=>(∃ i j,x= .str i∧y= .str j∧Q (.bl (!(Builtin.Str.occurrences j i 0 j.length 1).isEmpty)) H)∨rIn X.K false x y H Q) inR:=by
 intro W H d e v u Q w hv hu q
 unfold inR at q
 split at q
 ·exact .inl ⟨_,_,hv.str,hu.str,q.bl⟩
 ·split at q
  ·rename_i hf
   rw [Bool.and_eq_true] at hf
   obtain ⟨a1,xs,e1,sq,r⟩:=hu.tup
   obtain ⟨h1,h2⟩:=in_has (flatT hv hf.1) hf.1 r hf.2
   exact .inr ⟨a1,xs,e1, .inr sq,flat_has (flatT hv hf.1) hf.1,h1,by rw [if_neg Bool.false_ne_true,h2];exact q.bl⟩
  ·exact q.elim
 ·split at q
  ·rename_i hf
   rw [Bool.and_eq_true] at hf
   obtain ⟨a1,xs,e1,sq,r⟩:=hu.lst
   obtain ⟨h1,h2⟩:=in_has (flatT hv hf.1) hf.1 r hf.2
   exact .inr ⟨a1,xs,e1, .inl sq,flat_has (flatT hv hf.1) hf.1,h1,by rw [if_neg Bool.false_ne_true,h2];exact q.bl⟩
  ·exact q.elim
 ·exact q.elim
theorem y_in (ha:XP X xw a fa) (hb:XP X xw b fb) (hm:behindInMarks .In b=false:=by rfl):XT X xw (.Compare a [.In] [b] pos) (tR (b2 inR fa fb)):=
 ⟨DE.t_of (f:=b2 inR fa fb) (PT.weak (pt_cmpR (op_in_str.or op_in_seq) ha.h hb.h hm) fun σ H Q ⟨W₀,H₀,W,δ,st,q⟩=>two_read st q fun H2 d e v u k w hv hu _ _ q2=>op2_in W H2 d e v u _ w hv hu q2)⟩
def rSlS:V→Option Int→Option Int→Hp→VK→Prop:=fun x lo hi H Q=>∃ z,x= .str z∧z.length≤sizeLine∧Q (.str (PySem.Txt.slice z lo hi)) H
theorem part_of {v:Value} {o:Option Int} (h:IsPart v o):∃ l:Option (Int×Tok),v=partValue l∧l.map (·.1)=o:=by
 cases h with
 |none=>exact ⟨none,rfl,rfl⟩
 |int i t=>exact ⟨some (i,t),rfl,rfl⟩
theorem sl_str:SlR X rSlS:=by
 intro pins s σ H x v vl vu lo hi sl Q I rx hs pl pu h
 obtain ⟨z,rfl,hz,q⟩:=h
 obtain ⟨t,rfl⟩:=rx
 obtain ⟨l,rfl,rfl⟩:=part_of pl
 obtain ⟨u,rfl,rfl⟩:=part_of pu
 refine ⟨"str",_,F.slot_str_getitem.lookup,typeIs_str _ _ _,wpAny_getItem_str_slice (l:=l) (u:=u) (st:=none) hs rfl ?_⟩
 exact post_val_or_str ⟨Nat.le_trans (PySem.Txt.slice_le z _ _) hz,fun t' k=>⟨.str _,H,I.tok _,⟨t',rfl⟩,q⟩⟩
noncomputable def slS (d:D) (lo hi:Option Int):Res D:=match d with
 | .str z=>@ite (Res D) (z.length≤sizeLine) (Classical.propDecidable _) (.ok (.str (PySem.Txt.slice z lo hi))) .stuck
 |_=> .stuck
variable {lo hi:Option Expr} {fl fh:DSt→Res (Option Int)}
theorem x_slS (ha:XP X xw a fa) (hl:XO X xw lo fl) (hh:XO X xw hi fh):XE X xw (.Subscript a (.Slice lo hi none p2) pos) (b3 slS fa fl fh):=
 ⟨PE.weak (pe_slice sl_str ha.h hl.h hh.h) fun σ H Q ⟨W₀,H₀,W,δ,st,q⟩=>sl_read (G:=fun H r=>RE X.K xw W H r Q) st (fun _ _ _ q=>q) (fun _ q=>q) (fun _ _ _ k q=>RE.same q k) q fun H2 d v l u k w hv q2=>by
  unfold slS at q2
  split at q2
  ·split at q2
   ·rename_i hz
    exact ⟨_,hv.str,hz,q2.str⟩
   ·exact q2.elim
  ·exact q2.elim⟩
structure GlobT (K:PySem.W.Frag) (mg:Str→Option Value) (x:Str) (xs:List Str):Prop where
 h:∃ (ad:Addr) (o:Obj) (its:Array Value) (n:Nat),mg x=some (.ref ad)∧K.lookup ad=some o∧o.cls= .type "tuple"∧o.data= .seq its n∧its.size≤sizeLine∧Vals (xs.map V.str) its.toList
theorem rel_key {P:Program} {w:World} {k:Key} {u:Value} (r:RelV (kV k) u):(mixKind P w).is k u=true:=by
 cases k with
 |inl i=>obtain ⟨t,rfl⟩:=r;exact mixKind_int P w i t
 |inr x=>obtain ⟨t,rfl⟩:=r;exact mixKind_str P w x t
def keyD:D→Option Key
 | .str x=>some (.inr x)
 | .int i=>some (.inl i)
 |_=>none
end
end L3
namespace L3
open PySem PySem.Spec PyProof.Rows L2 SeqAt
open Builtin Builtin.Str
section
variable {X:Cx} {xw:XW} {pos p p2 apos cpos:Pos} {tg a b c e o:Expr} {es:List Expr} {f fa fb:DSt→Res D} {fs:DSt→Res (List D)}
def bM {α:Type} (op:Str→List D→Res α) (f:DSt→Res D) (g:DSt→Res (List D)):DSt→Res α:=fun δ=>(f δ).bind fun x=>match x with
 | .str z=>(g δ).bind (op z)
 |_=> .stuck
theorem strs_list:∀ {xs:List Str} {us:List Value},Vals (xs.map V.str) us→∃ l:List (Str×Tok),us=strValues l∧l.map (·.1)=xs
 | [],_, .nil=>⟨[],rfl,rfl⟩
 |x::xs,_, .cons ⟨t,h⟩ r=>by
  obtain ⟨l,e1,e2⟩:=strs_list r
  refine ⟨(x,t)::l,?_,by rw [List.map_cons,e2]⟩
  rw [h,e1];rfl
def rJoin (K:PySem.W.Frag):V→List V→Hp→VK→Prop:=fun x vs H Q=>∃ z p xs,x= .str z∧vs= [.ref p]∧SqL K H p (xs.map V.str)∧JoinOk z xs=true∧Q (.str (PySem.Txt.join z xs)) H
theorem mt_join:MtR X "str.join" (rJoin X.K):=by
 intro pins s σ H x vs v us Q I rx rv h
 obtain ⟨z,p,xs,rfl,rfl,hq,hok,q⟩:=h
 obtain ⟨t,rfl⟩:=rx
 obtain ⟨u',rfl,ru⟩:=rv.one
 cases ru
 obtain ⟨its,r,pl,_⟩:=I.list hq
 obtain ⟨l,e1,e2⟩:=strs_list r
 subst e1
 exact PySem.SC.join pl.isList e2 hok fun t' k=>⟨.str _,H,I.tok _,⟨t',rfl⟩,q⟩
def strsOf:List D→Option (List Str)
 | []=>some []
 | .str x::ds=>(strsOf ds).map (x:: ·)
 |_=>none
theorem strsOf_has {K:PySem.W.Frag} {W:WS} {H:Hp}:∀ {ds:List D} {xs:List Str} {vs:List V},strsOf ds=some xs→HasL K W H ds vs→vs=xs.map V.str
 | [],xs,vs,h,r=>by cases h;rw [HasL] at r;exact r
 |d::ds,xs,vs,h,r=>by
  cases d with
  |str x=>
   obtain ⟨ys,h1,rfl⟩:=Option.map_eq_some_iff.mp (show (strsOf ds).map (x:: ·)=some xs from h)
   rw [HasL] at r
   obtain ⟨v,q,rfl,hv,hq⟩:=r
   rw [Has] at hv
   rw [hv,strsOf_has h1 hq];rfl
  |_=>cases h
def joinR (z:Str):List D→Res D
 | [.lst ds]=>match strsOf ds with
  |some xs=>if JoinOk z xs=true then .ok (.str (PySem.Txt.join z xs)) else .stuck
  |none=> .stuck
 |_=> .stuck
theorem x_join (ho:XE X xw o f) (ha:XA X xw [e] fs)
  (hbase:attributeBase o "join" X.env (eval o X.env)=eval o X.env:=by rfl)
  (hfew:((backTo cpos (starEach [e] X.env)).all (fun x=> !x.1)&&(backToKw cpos (keywordEach [] X.env)).all (fun x=>x.1.isSome)
   &&decide (([e]:List Expr).length+([]:List Keyword).length+(if ([]:List Keyword).isEmpty then 0 else 1)<30))=true:=by rfl)
  (hline:(apos.endLine==cpos.line)=true:=by rfl) (hs:starEach [e] X.env=(false,eval e X.env)::starEach [] X.env:=by rfl) (hplain:(backTo cpos (starEach [] X.env)).any (·.1)=false:=by rfl):
  XE X xw (.Call (.Attribute o "join" apos) [e] [] cpos) (bM joinR f fs):=
 ⟨PE.weak (pe_bm (T:="str") F.plainAttrs_str F.slot_str_join F.type_str_join mt_join ho.h ha.h hbase hfew hline hs hplain) fun σ H Q ⟨W₀,H₀,W,δ,st,q⟩=>by
  unfold bM at q
  refine ⟨W₀,H₀,W,δ,st,?_⟩
  cases h1:f δ with
  |stuck=>rw [h1] at q;exact q
  |ex c fs=>rw [h1] at q;exact q
  |ok d=>
   rw [h1] at q
   intro v H1 k1 hv
   cases d with
   |str z=>
    rw [Has] at hv
    subst hv
    have q':RE X.K xw W H ((fs δ).bind (joinR z)) Q:=q
    refine ⟨rfl,W₀,H₀,W,δ,st.same k1,?_⟩
    cases h2:fs δ with
    |stuck=>rw [h2] at q';exact q'
    |ex c gs=>rw [h2] at q';exact fun H2 k2=>q' H2 (k1.trans k2)
    |ok ds=>
     rw [h2] at q'
     intro vs H2 k2 hvs
     have q2:RE X.K xw W H2 (joinR z ds) Q:=RE.same (r:=joinR z ds) q' (k1.trans k2)
     unfold joinR at q2
     split at q2
     ·rename_i es
      split at q2
      ·rename_i xs hx
       split at q2
       ·rename_i hok
        rw [HasL] at hvs
        obtain ⟨x,r,rfl,hv,hr⟩:=hvs
        rw [HasL] at hr
        subst hr
        rw [Has] at hv
        obtain ⟨p,ys,rfl,sq,r⟩:=hv
        have:=strsOf_has hx r
        subst this
        exact ⟨z,p,xs,rfl,rfl,sq.sq,hok,q2.str⟩
       ·exact q2.elim
      ·exact q2.elim
     ·exact q2.elim
   |_=>exact False.elim q⟩
end
end L3
namespace L3
open PySem PySem.Spec PyProof.Rows L2 SeqAt
section
variable {X:Cx} {xw:XW} {pos p p2 apos cpos:Pos} {tg a b c e o ie:Expr} {es:List Expr} {f fi fa fb:DSt→Res D} {fs:DSt→Res (List D)}
def setJ (i:Nat) (δ:DSt) (ds:List D) (d ix:D):Out:=match ix with
 | .int k=>match ixN ds.length k with
  |some j=> .nx (δ.set i (some (.o (ds.set j d))))
  |none=> .stuck
 |_=> .stuck
def setO (i:Nat) (fi:DSt→Res D) (δ:DSt) (d:D):Out:=match δ[i]? with
 |some (some (.o ds))=>ofR (fi δ) (setJ i δ ds d)
 |_=> .stuck
def sSetI (i:Nat) (fi f:DSt→Res D):DSt→Out:=fun δ=>ofR (f δ) (setO i fi δ)
end
end L3
namespace L3
open PySem PySem.Spec PyProof.Rows L2 SeqAt
section
variable {X:Cx} {xw:XW} {pos p:Pos} {a:Expr} {fa:DSt→Res D}
end
end L3
namespace HT
open PySem PyProof.Rows
section
open PySem.SeqAt
open PySem.AutoSeq1 (wpAny_loadPart')
open PySem.MeetsSeq PySem.MeetsSeq2 PySem.MeetsSeq3
end
section
variable {prog:Program} {w:World} {A:Around} {E:Value→Shared→Prop} {s:Shared}
end
end HT
namespace L3
open PySem PySem.Spec PyProof.Rows L2 SeqAt
section
variable {X:Cx} {xw:XW}
end
end L3
namespace L3
open PySem
def Rise (xs:Array Nat):Prop:=xs.toList.Pairwise (fun a b=>a<b)
theorem Rise.lt {xs:Array Nat} (r:Rise xs) {i j:Nat} {a b:Nat} (h:i<j) (ha:xs[i]? =some a) (hb:xs[j]? =some b):a<b:=by
 unfold Rise at r;rw [List.pairwise_iff_getElem] at r
 rw [←Array.getElem?_toList] at ha hb
 obtain ⟨p,e⟩:=List.getElem?_eq_some_iff.mp ha
 obtain ⟨q,f⟩:=List.getElem?_eq_some_iff.mp hb
 have z:=r i j p q h
 rw [e,f] at z;exact z
structure TOk (txt:Bool) (t:SetTable):Prop where
 led:t.led= !txt
 ok:t.plain=true→Rise t.place∧t.dummies= #[]
end L3
namespace L3
open PySem
def nv:Value→Int
 | .int n _=>n
 |_=>0
def ddp (σ:List Int) (k:Int):List Int:=if k∈σ then σ else σ++ [k]
section
variable {prog:Program} {w:World} {A:Around} {E:Value→Shared→Prop} {s:Shared}
def SI (prog:Program) (w:World) (h:Heap) (a:Addr) (σ:List Int):Prop:=
 ∃ o es ep t,h.get? a=some o∧o.ExactSet∧o.data= .set es ep t∧ElemsOf (intKind prog w) es.toList∧(es.toList.map fun e=>nv e.2).Perm σ∧es.size<scanBound∧t.fits es.size=true∧TOk (w.params.followText "set-order") t
theorem SI.at' {h h':Heap} {a:Addr} {σ:List Int} (x:SI prog w h a σ) (k:∀ o,h.get? a=some o→h'.get? a=some o):SI prog w h' a σ:=by
 obtain ⟨o,es,ep,t,ho,r⟩:=x;exact ⟨o,es,ep,t,k o ho,r⟩
end
end L3
namespace L3
open PySem
namespace F
end F
section
variable {prog:Program} {w:World} {A:Around} {E:Value→Shared→Prop} {s:Shared} {S I:Addr} {o:Obj} {es:Array (Int×Value)} {ep:Nat} {t:SetTable}
end
end L3
namespace L3
open PySem
namespace F
end F
section
variable {prog:Program} {w:World} {A:Around} {E:Value→Shared→Prop} {s:Shared} {S I T:Addr} {o:Obj} {es:Array (Int×Value)} {ep:Nat} {t:SetTable} {first:Value} {i:Nat}
end
structure SW (prog:Program) (w:World) (A:Around) (I:Addr) (fp:List Addr) (ord:List Value) (St:Nat→Heap→Prop):Prop where
 W:Walks prog w A I fp [I] ord.length (fun i v=>ord[i]? =some v) St
 mem:I∈fp
end L3
namespace L3
open PySem
section
variable {prog:Program} {w:World} {A:Around} {E:Value→Shared→Prop} {s:Shared} {S I T:Addr} {o:Obj} {es:Array (Int×Value)} {ep:Nat} {t:SetTable} {first:Value} {i:Nat} {σ:List Int}
end
end L3
namespace L3
open PySem
open Sem (wp)
section
variable {prog:Program} {w:World} {A:Around} {E:Value→Shared→Prop} {s:Shared} {S:Addr} {σ:List Int}
end
end L3
namespace L3
open PySem
open Sem (wp)
def met (ns:List Int):List Int:=ns.foldl ddp []
section
variable {prog:Program} {w:World} {A:Around} {R:Result→Shared→Prop} {I:Addr} {fp wr:List Addr} {G:Array GenState→Array GenState→Prop} {n:Nat} {P:Nat→Value→Prop} {St:Nat→Shared→Prop} {E:Value→Shared→Prop} {s:Shared}
def Itr (prog:Program) (w:World) (l:Addr) (ol:Obj) (items:Array Value):Prop:=∀ (A:Around) (s':Shared) (Q:Value→Shared→Prop) (E:Value→Shared→Prop),s'.heap.get? l=some ol→
 (∀ I St h',(∀ A':Around,A'.handled=none→Walks prog w A' I [I,l] [I] items.size (fun i v=>items[i]? =some v) St)→St 0 h'→I=s'.heap.objs.size→(∀ b o,s'.heap.get? b=some o→h'.get? b=some o)→Q (.ref I) {s' with heap:=h'})→
 wpAny (model prog w) A (pyIter (.ref l)) Q E s'
end
end L3
namespace L3
open PySem
open Sem (wp)
section
variable {prog:Program} {w:World} {A:Around} {E:Value→Shared→Prop} {s:Shared}
end
end L3
namespace L3
open PySem PyProof.Rows
section
variable {prog:Program} {w:World} {A:Around} {E:Value→Shared→Prop} {s:Shared}
end
end L3
namespace L3
end L3
namespace L3
open PySem PySem.Spec PyProof.Rows L2
abbrev eh1 (t:Bool) (h:Heap) (l:Addr):Heap:=h.push (itO t l)
abbrev eh2 (t:Bool) (h:Heap) (l:Addr):Heap:=(eh1 t h l).push {cls:= .type "enumerate",data:= .fields #[.none, .bool false, .ref h.objs.size,rawInt 0, .none, .none]}
theorem enumN_new (t:Bool) (l:Addr) (xs:Array Value):Meets (Builtin.«enumerate.__new__» ⟨[.type "enumerate", .ref l],[]⟩) (fun _ R s=>IsSq t s.heap l xs∧
   R (.ok (.ret (.ref (eh1 t s.heap l).objs.size))) {s with heap:=eh2 t s.heap l}):=
 .of_wp fun prog w A R s h=>by
  obtain ⟨hp,g,d,tk,os⟩:=s;obtain ⟨q,h⟩:=h
  have hsub:=sub_enumerate
  have e1:IsSq t (Shared.heap ⟨hp,g,d,tk,os⟩) l xs:=q
  wp_walk
  refine wpAny_stack_any fun st=>wpAny_pure ?_
  split
  ·rename_i c _ _ _ _ _
   cases (c==Value.type "enumerate")
   ·wp_walk using sq_iter e1
    exact ⟨_,rfl,h⟩
   ·wp_walk using sq_iter e1
    exact ⟨_,rfl,h⟩
  ·wp_walk using sq_iter e1
   exact ⟨_,rfl,h⟩
theorem enumN_call {prog:Program} {w:World} {A:Around} {E:Value→Shared→Prop} {s:Shared} {t:Bool} {l:Addr} {xs:Array Value} {Q:Value→Shared→Prop} (q:IsSq t s.heap l xs)
  (h:∀ n h',n=s.heap.objs.size→IsEnum h' (n+1) n ((0:Nat):Int) .none→SqI t h' n l 0→(∀ c o,s.heap.get? c=some o→h'.get? c=some o)→Q (.ref (n+1)) {s with heap:=h'}):
  wpAny (model prog w) A (call (.type "enumerate") [.ref l]) Q E s:=by
 refine callType_new F.called_enumerate (by decide) (F.typeCall_enumerate_1 _) (F.newCall_enumerate_1 _) (fun obj=>F.args_object_init_2 obj _) F.entry_enumerate_new (enumN_new t l xs) ⟨q,?_⟩
 have z1:(eh1 t s.heap l).objs.size=s.heap.objs.size+1:=Heap.size_push ..
 have g2:(eh2 t s.heap l).get? (eh1 t s.heap l).objs.size=some _:=Heap.get?_push_size _ rfl
 have f1:(itO t l).isFreed=false:=by cases t<;>rfl
 have g1:(eh2 t s.heap l).get? s.heap.objs.size=some (itO t l):=Heap.get?_push_of_some _ (Heap.get?_push_size _ f1)
 show _∧_
 rw [z1] at g2 ⊢
 refine ⟨⟨_,g2,rfl⟩,h _ _ rfl g2 ?_ fun c o e=>Heap.get?_push_of_some _ (Heap.get?_push_of_some _ e)⟩
 cases t with
 |true=>exact ⟨_,g1,rfl,rfl⟩
 |false=>exact ⟨_,g1,rfl,rfl⟩
def Ite (K : PySem.W.Frag) (t : Bool) (l : Addr) : It :=
  ⟨fun i H => ∃ xs x, SqK t K H l xs ∧ xs[i]? = some x,
   fun i H v H' => ∃ p x, v = .ref p ∧ H p = none ∧ H' = upd H p (.tup [.int i, x]) ∧ ∀ xs, SqK t K H l xs → xs[i]? = some x,
   fun i H => ∃ xs, SqK t K H l xs ∧ i = xs.length⟩
theorem turn_enum {P:Program} {w:World} {K:PySem.W.Frag} {elts:List Expr} {kt:Nat} {pt:Pos} {t:Bool} {e it l:Addr} (n1:l≠it) (n2:e≠it) (n3:e≠l):
  Turn P w K (.Tuple elts kt pt) (Ite K t l) [e,it] e (fun i h=>(∃ old,IsEnum h e it i old)∧SqI t h it l i) where
 mem:=by simp
 obj:=fun i h st b hb=>by
  obtain ⟨⟨old,he⟩,s1⟩:=st
  simp only [List.mem_cons,List.not_mem_nil,or_false] at hb
  rcases hb with rfl|rfl
  ·exact ⟨_,he,fun v q=>nomatch q⟩
  ·obtain ⟨o,vs,e,d⟩:=s1.rec
   exact ⟨o,e,fun v q=>by rw [d] at q;cases q⟩
 keep:=fun i h h' st k=>by
  obtain ⟨⟨old,he⟩,s1⟩:=st
  exact ⟨⟨old,k e (by simp) _ he⟩,s1.at' fun o q=>k it (by simp) o q⟩
 item:=by
  intro X hP hw hK hc i pins s σ H E I hf st hg
  subst hP hw hK
  obtain ⟨⟨old,he⟩,s1⟩:=st
  obtain ⟨xs,x,q1,e1⟩:=hg
  obtain ⟨it1,r1,p1,_⟩:=inv_sq I q1
  obtain ⟨u1,hu1,ru1⟩:=r1.get e1
  have hef:e∉ [it,l]:=by simp only [List.mem_cons,List.not_mem_nil,or_false,not_or];exact ⟨n2,n3⟩
  have hlt:i<it1.toArray.size:=by
   rcases Nat.lt_or_ge i it1.length with z|z
   ·simpa using z
   ·rw [List.getElem?_eq_none z] at hu1;cases hu1
  refine wpAny_pyNext_enum_itemD (drawsS (show X.A.in1.handled=none from I.ok.hd hc) t it l n1 it1.toArray) he ⟨s1,p1⟩ hlt n2 hef fun x' h1 tk px eo st1 nw sz kk=>⟨_,rfl,?_⟩
  have px':it1[i]? =some x':=by simpa using px
  rw [hu1] at px';cases px'
  refine wpAny_letOwnedTupleGo_enum (s:= {s with heap:=h1,toks:=tk+1}) eo fun h2 e2 c2=> ?_
  have le:e<s.heap.objs.size:=Heap.lt_size he
  have lit:it<s.heap.objs.size:=by obtain ⟨o,_,q,_⟩:=s1.rec;exact Heap.lt_size q
  have up:∀ b o,b≠e→h1.get? b=some o→h2.get? b=some o:=fun b o ne q=>c2.extBut _ _ ne q
  refine ⟨.ref s.heap.objs.size,upd H s.heap.objs.size (.tup [.int i,x]),?_,rfl,⟨_,x,rfl,I.hok.fresh (Nat.le_refl _),rfl,fun zs hs=>by rw [inv_sq_inj I hs q1];exact e1⟩,⟨⟨_,e2⟩,st1.1.at' fun o q=>up _ _ (Ne.symm n2) q⟩,fun b hb=> ?_⟩
  ·show Inv X pins σ (upd H s.heap.objs.size (.tup [.int i,x])) {s with heap:=h2,toks:=tk+1}
   refine inv_turnT (ch:= [e,it]) (t':=tk+1) I hf (fun b o hb q=> ?_) (Nat.le_refl _) (.cons (by exact ⟨tk,rfl⟩) (.cons ru1 .nil)) (show (2:Nat)≤sizeLine by rw [sizeLine_eq];decide) ⟨_,up _ _ (Nat.ne_of_gt le) nw,rfl,_,rfl⟩
   simp only [List.mem_cons,List.not_mem_nil,or_false,not_or] at hb
   exact up _ _ hb.1 (kk b o hb.1 hb.2 q)
  ·have hb1:=(hf b hb).1
   have:b<s.heap.objs.size:=by
    simp only [List.mem_cons,List.not_mem_nil,or_false] at hb
    rcases hb with rfl|rfl
    ·exact le
    ·exact lit
   rw [upd_ne (Nat.ne_of_lt this)];exact hb1
 done:=by
  intro X hP hw hK hc i pins s σ H E I hf st hg
  subst hP hw hK
  obtain ⟨⟨old,he⟩,s1⟩:=st
  obtain ⟨xs,q1,rfl⟩:=hg
  obtain ⟨it1,r1,p1,_⟩:=inv_sq I q1
  have hsz:xs.length=it1.toArray.size:=by simp [r1.length]
  rw [hsz] at s1 he
  refine wpAny_pyNext_enum_endD (drawsS (show X.A.in1.handled=none from I.ok.hd hc) t it l n1 it1.toArray) he ⟨s1,p1⟩ fun h1 k=>⟨rfl,?_⟩
  refine inv_turns (ch:= [e,it]) (t':=s.toks) I hf fun b o hb q=> ?_
  simp only [List.mem_cons,List.not_mem_nil,or_false,not_or] at hb
  exact k b o hb.2 q
 self:=fun _ _ _ _ _ st h=>let ⟨⟨_,he⟩,_⟩:=st;wpAny_pyIter_enum he h
section
variable {X:Cx} {xw:XW} {elts:List Expr} {kt:Nat} {pt p pos:Pos} {a b:Expr} {fs:DSt→Res (List D)}
def iEnum (K:PySem.W.Frag) (ta:TA):TI:=fun σ H R=>ta σ H fun vs H1=>∃ t l xs,vs= [.ref l]∧SqK t K H1 l xs∧R (Ite K t l) H1
theorem pi_enum {ta:TA} (hg:Gl X "enumerate") (hm:X.mg "enumerate"=none) (ha:PA X [a] ta) (hs:starEach [a] X.env= [(false,eval a X.env)]):
  PI X (.Tuple elts kt pt) (.Call (.Name "enumerate" p) [a] [] pos) (iEnum X.K ta):=by
 intro pins s σ H R I h
 refine Call_ (ld_blt I hg hm (show bootBuiltins "enumerate"=some (.type "enumerate") by decide +kernel) (PyProof.Rows.callWith_type1 (thn (ha pos pins s σ H _ I h) fun us s1 ⟨vs,H1,I1,r1,q1⟩=> ?_) (by rw [hs];rfl) (by rfl)))
 obtain ⟨t,l,xs,e,q1,q⟩:=q1
 subst e
 obtain ⟨u1,rfl,ru1⟩:=r1.one
 cases (show u1=Value.ref l from ru1)
 obtain ⟨it1,v1,p1,_⟩:=inv_sq I1 q1
 have a1:=p1.lt
 refine enumN_call p1 fun n h' hn he s1' kk=>wpAny_pyIter_enum he ?_
 subst hn
 have J:Inv X pins σ H1 {s1 with heap:=h'}:=I1.kept (t':=s1.toks) fun c o e=>kk c o e
 refine ⟨s1.heap.objs.size+1,[s1.heap.objs.size+1,s1.heap.objs.size],_,_,H1,rfl,J,turn_enum (t:=t) (Nat.ne_of_lt a1) (Nat.ne_of_gt (Nat.lt_succ_self _)) (Nat.ne_of_gt (Nat.lt_succ_of_lt a1)),⟨⟨_,he⟩,s1'⟩,fun c hc=> ?_,q⟩
 have hcs:s1.heap.objs.size≤c:=by
  simp only [List.mem_cons,List.not_mem_nil,or_false] at hc
  rcases hc with rfl|rfl
  ·exact Nat.le_succ _
  ·exact Nat.le_refl _
 exact I1.fpOk hcs (I1.hok.fresh hcs)
def enumD:Nat→List D→List D
 |_,[]=> []
 |k,x::xs=> .tup [.int k,x]::enumD (k+1) xs
theorem enumD_get:∀ {xs:List D} {k i:Nat} {d:D},(enumD k xs)[i]? =some d→∃ x,xs[i]? =some x∧d= .tup [.int ((k+i:Nat):Int),x]
 | [],_,_,_,e=>by simp [enumD] at e
 |x::xs,k,0,d,e=>by
  rw [enumD] at e
  simp at e
  exact ⟨x,rfl,by simp [←e]⟩
 |x::xs,k,i+1,d,e=>by
  rw [enumD] at e
  obtain ⟨u,h1,h2⟩:=enumD_get (xs:=xs) (k:=k+1) (i:=i) (by simpa using e)
  exact ⟨u,by simpa using h1,by rw [h2,show k+1+i=k+(i+1) by omega]⟩
theorem enumD_len:∀ (k:Nat) (xs:List D),(enumD k xs).length=xs.length
 |_,[]=>rfl
 |k,x::xs=>by rw [enumD,List.length_cons,enumD_len,List.length_cons]
def enumR (ds:List D):Res (List D):=match ds with
 | [x]=>match itemsD x with
  |some xs=> .ok (enumD 0 xs)
  |_=> .stuck
 |_=> .stuck
theorem di_enum (hm:X.mg "enumerate"=none) (ha:DA X xw [a] fs) (hg:Gl X "enumerate":=by rfl) (hs:starEach [a] X.env= [(false,eval a X.env)]:=by rfl):
  DI X xw (.Tuple elts kt pt) (.Call (.Name "enumerate" p) [a] [] pos) (b1 enumR fs):=
 PI.weak (pi_enum hg hm ha hs) fun σ H R ⟨W₀,H₀,W,δ,st,q⟩=>by
  refine ⟨W₀,H₀,W,δ,st,?_⟩
  simp only [b1] at q
  cases h1:fs δ with
  |stuck=>rw [h1] at q;exact q
  |ex c gs=>rw [h1] at q;exact q
  |ok ds=>
   rw [h1] at q
   intro vs H1 k1 hv
   dsimp only [Res.bind] at q
   unfold enumR at q
   split at q
   ·rename_i ds' hq
    split at hq
    ·rename_i x
     split at hq
     ·rename_i xs ex
      have e':enumD 0 xs=ds':=by cases hq;rfl
      subst e'
      rw [HasL] at hv
      obtain ⟨v1,r1,rfl,g1,hv⟩:=hv
      rw [HasL] at hv
      subst hv
      have w1:=st.fr.wl.same k1
      obtain ⟨t1,l1,xs1,rfl,r1,f1⟩:=sqk_of w1 g1 ex
      refine ⟨t1,l1,xs1,rfl,f1 W H1 Step.refl,q _ H1 k1 ?_⟩
      intro W' H2 k2 w2
      have c1:=f1 W' H2 k2
      refine ⟨fun i d e=> ?_,xs1,c1,?_⟩
      ·obtain ⟨x0,e1,rfl⟩:=enumD_get e
       obtain ⟨x1,o1,hx1⟩:=r1.get e1
       refine ⟨⟨xs1,x1,c1,o1⟩,fun u H3 z=> ?_⟩
       obtain ⟨p0,x2,rfl,hp,rfl,z1⟩:=z
       have:=z1 xs1 c1
       rw [o1] at this;cases this
       refine ⟨same_upd hp,?_⟩
       rw [Has]
       have hx2:=(Has.keep k2.keep w1 k2.new hx1).same (same_upd (o:= .tup [.int i,x1]) hp) w2
       refine ⟨p0,[.int i,x1],rfl, .of upd_same,HasL.cons ?_ (HasL.cons hx2 HasL.nil)⟩
       rw [Has,Nat.zero_add]
      ·rw [enumD_len,r1.length]
     ·cases hq
    ·cases hq
   ·rename_i hq
    split at hq
    ·split at hq<;>cases hq
    ·cases hq
   ·exact q.elim
end
end L3
namespace L3
open PySem PySem.Spec PyProof.Rows L2 SeqAt
theorem vals_ints:∀ {us:List Value} {ns:List Int},IntsAre us ns→Vals (ns.map V.int) us
 |_,_, .nil=> .nil
 |_,_, .cons n t r=> .cons ⟨t,rfl⟩ (vals_ints r)
section
variable {X:Cx} {xw:XW} {pos p pos2 p2:Pos} {a:Expr} {fa:DSt→Res D} {pins:List (Addr×Obj)} {σ:L2.St} {H:Hp} {s:Shared}
theorem i_enum {elts:List Expr} {kt:Nat} {pt:Pos} {fs:DSt→Res (List D)} (hm:X.mg "enumerate"=none) (ha:XA X xw [a] fs) (hg:Gl X "enumerate":=by rfl) (hs:starEach [a] X.env= [(false,eval a X.env)]:=by rfl):
  XI X xw (.Tuple elts kt pt) (.Call (.Name "enumerate" p) [a] [] pos) (b1 enumR fs):=⟨di_enum hm ha.h hg hs⟩
end
end L3
namespace HT
open PySem PyProof.Rows
section
variable {prog:Program} {w:World} {A:Around} {E:Value→Shared→Prop} {s:Shared}
end
end HT
namespace L3
open PySem PySem.Spec PyProof.Rows L2 SeqAt
section
variable {X:Cx} {xw:XW} {a:Expr} {lo hi:Option Expr} {fa:DSt→Res D} {fl fh:DSt→Res (Option Int)} {pos p2:Pos}
def slW (d:D) (lo hi:Option Int):Res D:=match d with
 | .tup ds=> .ok (.tup (cutD ds lo hi))
 | .lst ds=> .ok (.lst (cutD ds lo hi))
 |_=> .stuck
end
theorem slW_l (ds:List D) (lo hi:Option Int):slW (.lst ds) lo hi= .ok (.lst (cutD ds lo hi)):=rfl
end L3
namespace HT
open PySem PyProof.Rows
section
variable {prog:Program} {w:World} {A:Around} {E:Value→Shared→Prop} {s:Shared}
end
end HT
namespace L3
open PySem PySem.Spec PyProof.Rows L2 SeqAt
section
variable {X:Cx} {xw:XW} {a st:Expr} {fa:DSt→Res D} {pos p2:Pos}
end
end L3
namespace L3
open PySem PySem.Spec PyProof.Rows L2
section
variable {K:PySem.W.Frag} {xw:XW} {W₀ W W1:WS} {H₀ H H1:Hp} {Dn:Ends}
def RSO (K:PySem.W.Frag) (xw:XW) (W₀:WS) (H₀:Hp) (W:WS) (H:Hp) (o:Out) (Dn:Ends):Prop:=match o with
 | .rt (.lst ds)=>∀ a xs H',Same H₀ H'→H₀ a=none→H' a=some (.lst xs)→HasL K (fun b=>W₀ b∨b=a) H' ds xs→Dn.rt (.ref a) H'
 |o=>RS K xw W₀ H₀ W H o Dn
theorem RSO.step {o:Out} (h:RSO K xw W₀ H₀ W H o Dn) (k:Step W H W1 H1):RSO K xw W₀ H₀ W1 H1 o Dn:=by
 cases o with
 |rt d=>cases d<;>exact h
 |nx δ=>exact RS.step (xw:=xw) (o:= .nx δ) h k
 |bk δ=>exact RS.step (xw:=xw) (o:= .bk δ) h k
 |ct δ=>exact RS.step (xw:=xw) (o:= .ct δ) h k
 |ex c fs=>exact h
 |stuck=>exact h
def tDSO (K:PySem.W.Frag) (xw:XW) (g:DSt→Out):TS:=fun Dn σ H=>∃ W₀ H₀ W δ,StHas K W₀ H₀ W H σ δ∧RSO K xw W₀ H₀ W H (g δ) Dn
end
structure NoL (g:DSt→Out):Prop where
 h:∀ δ ds,g δ≠ .rt (.lst ds)
theorem NoL.seq {a b:DSt→Out} (ha:NoL a) (hb:NoL b):NoL (sSeq a b):=⟨fun δ ds=>by
 show seqO (a δ) b≠_
 cases h:a δ with
 |nx δ'=>exact hb.h δ' ds
 |rt d=>intro e;exact ha.h δ ds (by rw [h];exact e)
 |bk δ'=>intro e;cases e
 |ct δ'=>intro e;cases e
 |ex c fs=>intro e;cases e
 |stuck=>intro e;cases e⟩
theorem ofR_no {α:Type} {r:Res α} {k:α→Out} {ds:List D} (h:∀ a,k a≠ .rt (.lst ds)):ofR r k≠ .rt (.lst ds):=by
 cases r with
 |ok a=>exact h a
 |ex c fs=>intro e;cases e
 |stuck=>intro e;cases e
theorem NoL.nx:NoL Out.nx:=⟨fun δ ds e=>by cases e⟩
theorem NoL.own {i:Nat} {f:DSt→Res (List D)}:NoL (sOwn i f):=⟨fun δ ds=>ofR_no fun k e=>by cases e⟩
theorem NoL.set {i:Nat} {f:DSt→Res D}:NoL (sSet i f):=⟨fun δ ds=>ofR_no fun k e=>by cases e⟩
theorem forD_no {t:D→DSt→Res DSt} {body:DSt→Out} (hb:NoL body):∀ (xs:List D) (δ:DSt) (ds:List D),forD t body xs δ≠ .rt (.lst ds)
 | [],δ,ds=>by intro e;cases e
 |x::xs,δ,ds=>by
  cases ht:t x δ with
  |ok δ'=>
   rw [forD_cons x xs δ δ' ht]
   cases h:body δ' with
   |nx δ2=>exact forD_no hb xs δ2 ds
   |ct δ2=>exact forD_no hb xs δ2 ds
   |bk δ2=>intro e;cases e
   |rt d=>intro e;exact hb.h δ' ds (by rw [h];exact e)
   |ex c fs=>intro e;cases e
   |stuck=>intro e;cases e
  |ex c fs=>unfold forD;rw [ht];intro e;cases e
  |stuck=>unfold forD;rw [ht];intro e;cases e
theorem NoL.for_ {t:D→DSt→Res DSt} {body:DSt→Out} {f:DSt→Res (List D)} (hb:NoL body):NoL (sFor t body f):=⟨fun δ ds=>ofR_no fun xs=>forD_no hb xs δ ds⟩
section
variable {X:Cx} {xw:XW} {st:Stmt} {sts:List Stmt} {g1 g2:DSt→Out} {pos p:Pos} {a:Expr} {es:List Expr}
structure XSO (X:Cx) (xw:XW) (sts:List Stmt) (g:DSt→Out):Prop where
 h:PSs X sts (tDSO X.K xw g)
theorem so_cons (h1:XS X xw st g1) (n:NoL g1) (h2:XSO X xw sts g2):XSO X xw (st::sts) (sSeq g1 g2):=⟨PSs.weak (pss_cons h1.h h2.h) fun Dn σ H ⟨W₀,H₀,W,δ,st,q⟩=>by
 refine ⟨W₀,H₀,W,δ,st,?_⟩
 have q':RSO X.K xw W₀ H₀ W H (seqO (g1 δ) g2) Dn:=q
 cases h:g1 δ with
 |nx δ'=>
  rw [h] at q'
  exact fun W' H' σ' k st'=>⟨W₀,H₀,W',δ',st',RSO.step (o:=g2 δ') q' k⟩
 |bk δ'=>rw [h] at q';exact q'
 |ct δ'=>rw [h] at q';exact q'
 |rt d=>
  rw [h] at q'
  cases d with
  |lst ds=>exact absurd h (n.h δ ds)
  |_=>exact q'
 |ex c fs=>rw [h] at q';exact q'
 |stuck=>rw [h] at q';exact q'⟩
def spO (K:PySem.W.Frag) (n:Nat) (m:List D→Res D):Sp:=fun vs H Q _=>vs.length=n∧∃ W ds,WL W H∧HasL K W H ds vs∧match m ds with
 | .ok (.lst fs)=>∀ a xs H',Same H H'→H a=none→H' a=some (.lst xs)→HasL K (fun b=>W b∨b=a) H' fs xs→Q (.ref a) H'
 | .ok d=>∀ v H',Same H H'→Has K W H' d v→Q v H'
 |_=>False
structure FnO (P:Program) (w:World) (K:PySem.W.Frag) (mg:Str→Option Value) (base:Heap) (k:Nat) (x:Str) (n:Nat) (m:List D→Res D):Prop where
 ex:∃ f fd ps,FnOk P w K mg base CX0 k f fd ps (spO K n m)∧mg x=some (.ref f)∧PySem.W.keepIn K (.ref f)=true∧Binds K fd ps []
theorem FnO.mono {P:Program} {w:World} {K:PySem.W.Frag} {mg:Str→Option Value} {base:Heap} {j k n:Nat} {x:Str} {m:List D→Res D} (F:FnO P w K mg base j x n m) (h:j≤k):FnO P w K mg base k x n m:=by
 obtain ⟨f,fd,ps,a,b⟩:=F.ex
 exact ⟨f,fd,ps,a.mono h,b⟩
theorem FnO.fn {P:Program} {w:World} {K:PySem.W.Frag} {mg:Str→Option Value} {base:Heap} {k n:Nat} {x:Str} {m:List D→Res D} (F:FnO P w K mg base k x n m):Fn P w K mg base k x n m:=by
 obtain ⟨f,fd,ps,a,b⟩:=F.ex
 refine ⟨f,fd,ps,a.imp fun vs H Q E ⟨hl,W,ds,hw,hd,q⟩=>⟨hl,W,ds,hw,hd,?_⟩,b⟩
 cases h:m ds with
 |ex c fs=>rw [h] at q;exact q
 |stuck=>rw [h] at q;exact q
 |ok d=>
  rw [h] at q
  cases d with
  |lst fs=>
   intro a xs H' k hn ha hx
   refine q (.ref a) H' k ?_
   rw [Has]
   refine ⟨a,xs,rfl, .inl ⟨ha,fun z=> ?_⟩,HasL.keep (fun _ _ e _=>e) (fun b z=>z.elim (hw.same k b) fun z=>by rw [z];exact ⟨_,ha,trivial⟩) (fun b z=> .inl (.inl z)) hx⟩
   obtain ⟨ys,e,_⟩:=hw a z
   rw [hn] at e;cases e
  |_=>exact q
theorem fn_defO {P:Program} {w:World} {K:PySem.W.Frag} {mg:Str→Option Value} {base:Heap} {k:Nat} {x qual:Str} {st:Stmt} {fa:Addr} {fd:FuncData} {N ps:List Str} {g:DSt→Out} (F:Fun K x qual st fa fd) (S:FnScope N ps (defScope st))
  (hm:mg x=some (.ref fa)) (hb:Binds K fd ps [])
  (body:∀ (cdv:Value) (A:Around) (outer:List Env) (s:Shared) (H:Hp) (E:XK),Room k (A.deeper (envOfC qual (defScope st) s.heap.objs.size fa cdv))→
   XSO (cxOf CX0 P w K mg base N qual (defScope st) fa cdv A outer s H E).nox xwF (defBody st) g):FnO P w K mg base (k+1) x ps.length (runD N.length g):=by
 refine ⟨fa,fd,ps,F.ok S (fun vs H Q E h=>h.1) (fun cdv A outer s H vs Q E hr h=> ?_),hm,F.kp,hb⟩
 obtain ⟨hl,W,ds,hw,hd,q⟩:=h
 refine ⟨_,(body cdv A outer s H E hr).h,W,H,W,startD N.length ds,start_has hw hd,?_⟩
 unfold runD at q
 cases h:g (startD N.length ds) with
 |rt d=>
  rw [h] at q
  cases d with
  |lst fs=>exact fun a xs H' k n e r=>q a xs H' k n e r
  |_=>exact fun v H' k hv=>q v H' k hv
 |nx δ=>rw [h] at q;exact fun W' H' σ' k st'=>q .non H' st'.fr.ext (by rw [Has])
 |bk δ=>rw [h] at q;exact q.elim
 |ct δ=>rw [h] at q;exact q.elim
 |ex c fs=>rw [h] at q;exact q.elim
 |stuck=>rw [h] at q;exact q.elim
theorem StHas.own2 {K:PySem.W.Frag} {W₀ W:WS} {H₀ H H':Hp} {σ:L2.St} {δ:DSt} {i:Nat} {ds:List D} {a:Addr} {xs:List V} (h:StHas K W₀ H₀ W H σ δ) (k:Same H H') (ha:H a=none) (ha':H' a=some (.lst xs)) (q:HasL K (fun b=>W b∨b=a) H' ds xs):
  StHas K W₀ H₀ (fun b=>W b∨b=a) H' (σ.set i (some (.ref a))) (δ.set i (some (.o ds))):=by
 exact h.ownG (W':=W) k ha ha' trivial ⟨a,xs,rfl, .inr rfl,Same.free h.fr.ext ha,ha',q⟩
def ownO (i:Nat) (δ:DSt):D→Out
 | .lst ds=> .nx (δ.set i (some (.o ds)))
 |d=> .nx (δ.set i (some (.d d)))
def sOwnR (i:Nat) (f:DSt→Res D):DSt→Out:=fun δ=>ofR (f δ) (ownO i δ)
theorem s_ownCall (i:Nat) {k n:Nat} {x f:Str} {m:List D→Res D} {fs:DSt→Res (List D)} {pos' spos:Pos} (hN:X.N.Nodup) (F:FnO X.prog X.w X.K X.mg X.base k f n m) (hr:Room k X.A) (ha:XA X xw (a::es) fs) (hg:Gl X f:=by rfl)
  (hdb:(f==("__debug__":Str))=false:=by decide) (he:starEach (a::es) X.env=(false,eval a X.env)::starEach es X.env:=by rfl) (hpl:(backTo pos (starEach es X.env)).any (·.1)=false:=by rfl)
  (hi:X.N[i]? =some x:=by rfl) (hx:Loc X.env.scope x:=by first|exact Or.inl rfl|exact Or.inr rfl) (hs:swapsWith (.Call (.Name f p) (a::es) [] pos) (some (.Name x pos')) spos.line X.env=pure false:=by rfl)
  (hf:X.fn x=true∨X.env.scope.names.lookup x=some .local:=by first|exact .inl rfl|exact .inr rfl|assumption):
  XS X xw (.Assign [.Name x pos'] (.Call (.Name f p) (a::es) [] pos) spos) (sOwnR i (b1 (callR n m) fs)):=by
 obtain ⟨fa,fd,ps,G,hm,hk,hb⟩:=F.ex
 refine ⟨PS.weak (ps_set hN hi hx (pe_call G hr hg hm hk hb .nil pass0 ha.h hdb he hpl) hs hf) fun Dn σ H ⟨W₀,H₀,W,δ,st,q⟩=> ?_⟩
 refine ⟨W₀,H₀,W,δ,st,?_⟩
 have q':RS X.K xw W₀ H₀ W H (ofR ((fs δ).bind (callR n m)) (ownO i δ)) Dn:=q
 cases h1:fs δ with
 |stuck=>rw [h1] at q';exact q'
 |ex c gs=>rw [h1] at q';exact fun H' k'=>q' H' (st.fr.ext.trans k')
 |ok ds=>
  rw [h1] at q'
  intro vs H1 k1 hv
  have q2:RS X.K xw W₀ H₀ W H (ofR (callR n m ds) (ownO i δ)) Dn:=q'
  unfold callR at q2
  split at q2
  ·rename_i hn
   rw [List.append_nil]
   have st1:=st.same k1
   refine ⟨by rw [←hv.length];exact hn,W,ds,st1.fr.wl,hv,?_⟩
   cases h:m ds with
   |ex c fs=>rw [h] at q2;exact q2.elim
   |stuck=>rw [h] at q2;exact q2.elim
   |ok d=>
    rw [h] at q2
    have plain:(∀ es,d≠ .lst es)→∀ v H',Same H1 H'→Has X.K W H' d v→gName i v σ H' Dn.nx:=fun hd v H' k' hv'=>by
     have q3:RS X.K xw W₀ H₀ W H (.nx (δ.set i (some (.d d)))) Dn:=by
      cases d with
      |lst es=>exact absurd rfl (hd es)
      |_=>exact q2
     exact q3 W H' _ (Step.same (k1.trans k')) ((st1.same k').set hv')
    cases d with
    |lst es=>
     intro a xs H' k' hn' ha' hx'
     have q3:RS X.K xw W₀ H₀ W H (.nx (δ.set i (some (.o es)))) Dn:=q2
     refine q3 _ H' _ ⟨fun b o e nb=>k' b o (k1 b o e),fun b z=>z.elim .inl fun z=> .inr (by rw [z];exact Same.free k1 hn')⟩ (st1.own2 k' hn' ha' hx')
    |_=>exact plain (fun es e=>by cases e)
  ·exact q2.elim
def HasTL (K:PySem.W.Frag) (W:WS) (H:Hp):List D→List V→Prop
 | [],xs=>xs= []
 |d::ds,xs=>∃ x r,xs=x::r∧HasT K W H d x∧HasTL K W H ds r
def RAP (K:PySem.W.Frag) (xw:XW) (W:WS) (H:Hp) (r:Res (List D)) (Q:List V→Hp→Prop):Prop:=match r with
 | .ok ds=>∀ vs H',Same H H'→HasTL K W H' ds vs→Q vs H'
 | .ex c fs=>∀ H',Same H H'→xw c fs H'
 | .stuck=>False
structure XAP (X:Cx) (xw:XW) (es:List Expr) (f:DSt→Res (List D)):Prop where
 h:PA X es fun σ H Q=>∃ W₀ H₀ W δ,StHas X.K W₀ H₀ W H σ δ∧RAP X.K xw W H (f δ) Q
end
end L3
namespace L3
open PySem PySem.Spec PyProof.Rows L2 SeqAt
section
variable {α β:Type}
def tGet (l:List (Key×α)) (k:Key):Option α:=(l.find? fun p=>decide (p.1=k)).map (·.2)
def tHas (l:List (Key×α)) (k:Key):Bool:=l.any fun p=>decide (p.1=k)
def tPut (l:List (Key×α)) (k:Key) (y:α):List (Key×α):=if tHas l k=true then l.map (fun p=>if p.1=k then (p.1,y) else p) else l++ [(k,y)]
theorem tGet_pos {p:Key×α} {r:List (Key×α)} {k:Key} (e:p.1=k):tGet (p::r) k=some p.2:=by simp [tGet,List.find?_cons,e]
theorem tGet_neg {p:Key×α} {r:List (Key×α)} {k:Key} (e:¬ p.1=k):tGet (p::r) k=tGet r k:=by simp [tGet,List.find?_cons,e]
theorem tHas_get (k:Key):∀ l:List (Key×α),tHas l k=(tGet l k).isSome
 | []=>rfl
 |p::r=>by
  by_cases e:p.1=k
  ·rw [tGet_pos e];simp [tHas,e]
  ·rw [tGet_neg e,←tHas_get k r];simp [tHas,e]
theorem tPut_len (l:List (Key×α)) (k:Key) (y:α):(tPut l k y).length≤l.length+1:=by
 unfold tPut;split
 ·rw [List.length_map];omega
 ·simp
theorem tGet_put (l:List (Key×α)) (k j:Key) (y:α):tGet (tPut l k y) j=if k=j then some y else tGet l j:=by
 unfold tPut
 have hm:∀ l:List (Key×α),tGet (l.map fun p=>if p.1=k then (p.1,y) else p) j=if k=j then (if tHas l k=true then some y else none) else tGet l j:=by
  intro l
  induction l with
  |nil=>by_cases e:k=j<;>simp [e,tGet,tHas]
  |cons p r ih=>
   rw [List.map_cons]
   by_cases h1:p.1=k
   ·rw [if_pos h1]
    by_cases h2:k=j
    ·rw [tGet_pos (p:=(p.1,y)) (h1.trans h2),if_pos h2,if_pos (by simp [tHas,h1])]
    ·rw [tGet_neg (p:=(p.1,y)) (fun z=>h2 (h1.symm.trans z)),ih,if_neg h2,if_neg h2,tGet_neg (fun z=>h2 (h1.symm.trans z))]
   ·rw [if_neg h1]
    by_cases h3:p.1=j
    ·have h2:¬ k=j:=fun z=>h1 (h3.trans z.symm)
     rw [tGet_pos h3,if_neg h2,tGet_pos h3]
    ·rw [tGet_neg h3,ih,tGet_neg h3]
     have:tHas (p::r) k=tHas r k:=by simp [tHas,h1]
     rw [this]
 split
 ·rename_i h
  rw [hm]
  by_cases e:k=j
  ·rw [if_pos e,if_pos e,if_pos h]
  ·rw [if_neg e,if_neg e]
 ·rename_i h
  have hn:tGet l k=none:=by
   cases q:tGet l k with
   |none=>rfl
   |some z=>rw [tHas_get,q] at h;exact (h rfl).elim
  have hs:∀ l:List (Key×α),tGet l k=none→tGet (l++ [(k,y)]) j=if k=j then some y else tGet l j:=by
   intro l
   induction l with
   |nil=>
    intro _
    by_cases e:k=j
    ·rw [if_pos e];exact tGet_pos (p:=(k,y)) e
    ·rw [if_neg e];exact tGet_neg (p:=(k,y)) e
   |cons p r ih=>
    intro hn
    have hk:¬ p.1=k:=fun z=>by rw [tGet_pos z] at hn;cases hn
    rw [tGet_neg hk] at hn
    rw [List.cons_append]
    by_cases e:p.1=j
    ·rw [tGet_pos e,tGet_pos e,if_neg (fun z=>hk (e.trans z.symm))]
    ·rw [tGet_neg e,tGet_neg e,ih hn]
  exact hs l hn
end
theorem kv_get {kvs:List (Key×V)} {vs:List (Key×Value)} (r:KV kvs vs) (k:Key):(∀ v,tGet kvs k=some v→∃ u,valueAt vs k=some u∧RelV v u)∧(tGet kvs k=none→valueAt vs k=none):=by
 unfold KV at r
 induction r with
 |nil=>exact ⟨(fun v e=>by cases e),fun _=>rfl⟩
 |@cons p q ps qs h t ih=>
  obtain ⟨h1,h2⟩:=h
  by_cases e:p.1=k
  ·have b:valueAt (q::qs) k=some q.2:=by simp [valueAt,List.find?_cons,h1.symm.trans e]
   rw [tGet_pos e,b]
   exact ⟨fun v z=>by cases z;exact ⟨_,rfl,h2⟩,fun z=>by cases z⟩
  ·have e':¬ q.1=k:=fun z=>e (h1.trans z)
   have b:valueAt (q::qs) k=valueAt qs k:=by simp [valueAt,List.find?_cons,e']
   rw [tGet_neg e,b];exact ih
theorem kv_has {kvs:List (Key×V)} {vs:List (Key×Value)} (r:KV kvs vs) (k:Key):tHas kvs k=vs.any fun p=>decide (p.1=k):=by
 unfold KV at r
 induction r with
 |nil=>rfl
 |cons h t ih=>unfold tHas at ih ⊢;rw [List.any_cons,List.any_cons,ih,h.1]
theorem kv_put {kvs:List (Key×V)} {vs:List (Key×Value)} (r:KV kvs vs) (k:Key) {y:V} {u:Value} (ry:RelV y u):KV (tPut kvs k y) (stored vs k u):=by
 unfold tPut stored
 rw [kv_has r k]
 by_cases e:(vs.any fun p=>decide (p.1=k))=true
 ·rw [if_pos e,if_pos e]
  unfold KV at r ⊢
  clear e
  induction r with
  |nil=>exact .nil
  |@cons p q ps qs h t ih=>
   rw [List.map_cons,List.map_cons]
   refine .cons ?_ ih
   obtain ⟨h1,h2⟩:=h
   by_cases e:p.1=k
   ·rw [if_pos e,if_pos (h1.symm.trans e)];exact ⟨h1,ry⟩
   ·rw [if_neg e,if_neg (fun z=>e (h1.trans z))];exact ⟨h1,h2⟩
 ·rw [if_neg e,if_neg e]
  unfold KV at r ⊢
  clear e
  induction r with
  |nil=>exact .cons ⟨rfl,ry⟩ .nil
  |cons h t ih=>exact .cons h ih
theorem kv_len {kvs:List (Key×V)} {vs:List (Key×Value)} (r:KV kvs vs):kvs.length=vs.length:=by
 unfold KV at r
 induction r with
 |nil=>rfl
 |cons h t ih=>rw [List.length_cons,List.length_cons,ih]
section
variable {K:PySem.W.Frag} {W:WS} {H:Hp}
def HasP (K:PySem.W.Frag) (W:WS) (H:Hp) (l:List (Key×D)) (kvs:List (Key×V)):Prop:=kvs.map (·.1)=l.map (·.1)∧HasL K W H (l.map (·.2)) (kvs.map (·.2))
theorem HasP.nil:HasP K W H [] []:=⟨rfl,HasL.nil⟩
theorem HasP.cons {p:Key×D} {l:List (Key×D)} {kvs:List (Key×V)} (h:HasP K W H (p::l) kvs):∃ v r,kvs=(p.1,v)::r∧Has K W H p.2 v∧HasP K W H l r:=by
 obtain ⟨h1,h2⟩:=h
 cases kvs with
 |nil=>cases h1
 |cons q r=>
  rw [List.map_cons,List.map_cons] at h1 h2
  rw [HasL] at h2
  obtain ⟨x,t,e,g1,g2⟩:=h2
  cases e
  have h3:=List.cons.inj h1
  exact ⟨q.2,r,by rw [←h3.1],g1,h3.2,g2⟩
theorem HasP.mk {k:Key} {d:D} {v:V} {l:List (Key×D)} {kvs:List (Key×V)} (h:Has K W H d v) (t:HasP K W H l kvs):HasP K W H ((k,d)::l) ((k,v)::kvs):=⟨by rw [List.map_cons,List.map_cons,t.1],by rw [List.map_cons,List.map_cons];exact HasL.cons h t.2⟩
theorem HasP.len {l:List (Key×D)} {kvs:List (Key×V)} (h:HasP K W H l kvs):l.length=kvs.length:=by
 have:=congrArg List.length h.1
 simpa using this.symm
theorem HasP.of {ks:List Key} {ds:List D} {kvs:List (Key×V)} (h1:kvs.map (·.1)=ks) (h2:HasL K W H ds (kvs.map (·.2))):HasP K W H (ks.zip ds) kvs∧(ks.zip ds).map (·.1)=ks∧(ks.zip ds).map (·.2)=ds:=by
 have hl:ks.length=ds.length:=by rw [←h1,h2.length,List.length_map,List.length_map]
 have e1:(ks.zip ds).map (·.1)=ks:=by rw [←List.unzip_fst,List.unzip_zip hl]
 have e2:(ks.zip ds).map (·.2)=ds:=by rw [←List.unzip_snd,List.unzip_zip hl]
 exact ⟨⟨by rw [e1,h1],by rw [e2];exact h2⟩,e1,e2⟩
theorem HasP.keep {W':WS} {H':Hp} {l:List (Key×D)} {kvs:List (Key×V)} (k:Keep W H H') (w:WL W H) (hw:∀ b,W' b→W b∨H b=none) (h:HasP K W H l kvs):HasP K W' H' l kvs:=⟨h.1,HasL.keep k w hw h.2⟩
theorem HasP.same {H':Hp} {l:List (Key×D)} {kvs:List (Key×V)} (h:HasP K W H l kvs) (k:Same H H') (w:WL W H):HasP K W H' l kvs:=⟨h.1,h.2.same k w⟩
theorem HasP.get:∀ {l:List (Key×D)} {kvs:List (Key×V)},HasP K W H l kvs→∀ (k:Key),(∀ d,tGet l k=some d→∃ v,tGet kvs k=some v∧Has K W H d v)∧(tGet l k=none→tGet kvs k=none)
 | [],kvs,h,k=>by
  obtain ⟨h1,_⟩:=h
  cases kvs with
  |nil=>exact ⟨(fun d e=>by cases e),fun _=>rfl⟩
  |cons _ _=>cases h1
 |p::l,kvs,h,k=>by
  obtain ⟨v,r,rfl,h1,h2⟩:=h.cons
  by_cases e:p.1=k
  ·rw [tGet_pos e,tGet_pos (p:=(p.1,v)) e]
   exact ⟨fun d z=>by cases z;exact ⟨v,rfl,h1⟩,fun z=>by cases z⟩
  ·rw [tGet_neg e,tGet_neg (p:=(p.1,v)) e];exact h2.get k
theorem HasP.has {l:List (Key×D)} {kvs:List (Key×V)} (h:HasP K W H l kvs) (k:Key):tHas kvs k=tHas l k:=by
 have:=h.1
 unfold tHas
 rw [show (kvs.any fun p=>decide (p.1=k))=(kvs.map (·.1)).any (fun z=>decide (z=k)) by rw [List.any_map];rfl,this,List.any_map];rfl
theorem HasP.put {l:List (Key×D)} {kvs:List (Key×V)} {d:D} {v:V} (h:HasP K W H l kvs) (k:Key) (hd:Has K W H d v):HasP K W H (tPut l k d) (tPut kvs k v):=by
 unfold tPut
 rw [h.has k]
 split
 ·rename_i hh;clear hh
  induction l generalizing kvs with
  |nil=>
   obtain ⟨h1,_⟩:=h
   cases kvs with
   |nil=>exact HasP.nil
   |cons _ _=>cases h1
  |cons p l ih=>
   obtain ⟨u,r,rfl,h1,h2⟩:=h.cons
   rw [List.map_cons,List.map_cons]
   by_cases e:p.1=k
   ·rw [if_pos e,if_pos e];exact HasP.mk hd (ih h2)
   ·rw [if_neg e,if_neg e];exact HasP.mk h1 (ih h2)
 ·rename_i hh;clear hh
  induction l generalizing kvs with
  |nil=>
   obtain ⟨h1,_⟩:=h
   cases kvs with
   |nil=>exact HasP.mk hd HasP.nil
   |cons _ _=>cases h1
  |cons p l ih=>
   obtain ⟨u,r,rfl,h1,h2⟩:=h.cons
   exact HasP.mk h1 (ih h2)
end
section
variable {X:Cx} {xw:XW} {a b e ie:Expr} {pos p p1 p2:Pos} {fa fb f fi:DSt→Res D}
theorem key_is {P:Program} {w:World} {k:Key} {u:Value} (r:RelV (kV k) u):(mixKind P w).is k u=true:=rel_key r
theorem rd_dk {P:Program} {w:World} {H:Hp} {h:Heap} {a:Addr} {kvs:List (Key×V)} (ok:HOk P w H h) (e:Rd H a (.dK kvs)):kvs.length≤sizeLine∧(a==sysModules)=false∧∃ vs,KV kvs vs∧h.DictOf (mixKind P w) a vs:=by
 rcases e with e|⟨o,e⟩
 ·exact ok a _ e
 ·exact (show _∧_ from ok a _ e).2
theorem Rd.same {H H':Hp} {a:Addr} {u:HO} (h:Rd H a u) (k:Same H H'):Rd H' a u:=h.imp (k _ _) fun ⟨o,e⟩=>⟨o,k _ _ e⟩
def rIxQ:R2:=fun x y H Q=>∃ a kvs k v,x= .ref a∧Rd H a (.dK kvs)∧y=kV k∧tGet kvs k=some v∧Q v H
theorem pe_dget {ta tb:TE} (ha:PE X a ta) (hb:PE X b tb) (hs:PlainIx b):PE X (.Subscript a b pos) (tOp rIxQ ta tb):=by
 intro pins s σ H Q I h
 refine Subscript_ (binT ha hb I h fun v u s2 x y H2 I2 rx ry q=> ?_)
 obtain ⟨d,kvs,k,z,rfl,hd,rfl,hg,q⟩:=q
 cases rx
 obtain ⟨_,hS,vs,rel,dd⟩:=rd_dk I2.hok hd
 obtain ⟨w',hw,rw'⟩:=(kv_get rel k).1 z hg
 unfold subscriptTail
 refine wpAny_bind ?_
 rw [getitemInPython_of_ne dd.typeIs.not_modules]
 refine wpAny_bind (wpAny_specialOf dd.typeIs PySem.F.slot_dict_getitem.lookup ?_)
 have fin:wpAny (model X.prog X.w) X.A (subscripted b false (.ref d) u) (fun r s₃=>wpAny (model X.prog X.w) X.A (letTemporaryGo a (.ref d) r >>= fun _=>pure r) (EP X pins σ Q) X.xe s₃) X.xe s2:=by
  rw [hs (.ref d) u]
  exact wpAny_operating (wpAny_getItem_of (key_is ry) dd.mapOf hw (wpAny_bind (wpAny_letTemporaryGo (wpAny_pure ⟨z,H2,I2.tok _,rw',q⟩))))
 first
  |exact wpAny_pure (wpAny_bind fin)
  |exact wpAny_bind (wpAny_pure (wpAny_bind fin))
  |exact wpAny_bind fin
def rSetQ:V→V→V→Hp→(Hp→Prop)→Prop:=fun o i v H Q=>∃ a kvs k,o= .ref a∧i=kV k∧H a=some (.dK kvs)∧kvs.length<sizeLine∧Q (upd H a (.dK (tPut kvs k v)))
theorem set_dict:PSet X rSetQ:=by
 intro pins s σ H o i v ov iv u Q I ro ri rv h
 obtain ⟨a,kvs,k,rfl,rfl,ha,hl,q⟩:=h
 cases ro
 obtain ⟨z,hS,vs,rel,dd⟩:=I.hok _ _ ha
 refine wpAny_setItem_pairs (hsz:=by rw [←kv_len rel];exact z) (key_is ri) dd fun h' dd' hs=>⟨_,?_,q⟩
 refine I.write (x:=a) (e:=a) (by rw [ha];exact trivial) (.inl rfl) (fun b' w hb hw=>(hs.2 b' hb).trans hw) ?_ ?_
 ·obtain ⟨ob,_,_,hq,_⟩:=dd';exact ⟨ob,hq⟩
 ·exact ⟨by have:=tPut_len kvs k v;omega,hS,_,kv_put rel k rv,dd'⟩
def RQ (K:PySem.W.Frag) (xw:XW) (W:WS) (H:Hp) (r:Res (List (Key×D))) (Q:VK):Prop:=match r with
 | .ok l=>∀ a kvs H',Same H H'→Rd H' a (.dK kvs)→HasP K W H' l kvs→Q (.ref a) H'
 | .ex c fs=>∀ H',Same H H'→xw c fs H'
 | .stuck=>False
def tDQ (K:PySem.W.Frag) (xw:XW) (f:DSt→Res (List (Key×D))):TE:=fun σ H Q=>∃ W₀ H₀ W δ,StHas K W₀ H₀ W H σ δ∧RQ K xw W H (f δ) Q
structure XQ (X:Cx) (xw:XW) (e:Expr) (f:DSt→Res (List (Key×D))):Prop where
 h:PE X e (tDQ X.K xw f)
def slotQ (i:Nat):DSt→Res (List (Key×D)):=fun δ=>match δ[i]? with
 |some (some (.q ks ds))=> .ok (ks.zip ds)
 |some (some (.d (.dct ks ds)))=> .ok (ks.zip ds)
 |_=> .stuck
theorem q_var (i:Nat) {x:Str} (hN:X.N[i]? =some x:=by rfl) (hv:Vis X.env.scope x:=by first|exact Or.inl rfl|exact Or.inr (Or.inl rfl)|exact Or.inr (Or.inr rfl)) (hd:(x==("__debug__":Str))=false:=by decide)
  (hcd:(x==("__classdict__":Str))=false:=by decide):XQ X xw (.Name x pos) (slotQ i):=
 ⟨PE.weak (pe_var hN hv hd hcd) fun σ H Q ⟨W₀,H₀,W,δ,st,q⟩=>by
  unfold slotQ at q
  split at q
  ·rename_i ks ds h
   obtain ⟨v,e1,a,kvs,rfl,r2,r3,r4,r5,r6⟩:=st.at' i _ h
   exact ⟨_,e1,q a kvs H (Same.refl H) (.inl r4) (HasP.of r5 r6).1⟩
  ·rename_i ks ds h
   obtain ⟨v,e1,r⟩:=st.at' i _ h
   have r':Has X.K W H (.dct ks ds) v:=r
   rw [Has] at r'
   obtain ⟨a,kvs,rfl,r4,r5,r6⟩:=r'
   exact ⟨_,e1,q a kvs H (Same.refl H) (.inr r4) (HasP.of r5 r6).1⟩
  ·exact q.elim⟩
theorem HasT.dct {K:PySem.W.Frag} {W:WS} {H:Hp} {ks:List Key} {ds:List D} {v:V} (h:HasT K W H (.dct ks ds) v):Has K W H (.dct ks ds) v:=by
 rcases h with h|⟨_,_,_,h1,_⟩
 ·exact h
 ·cases h1
def b1Q {α:Type} (op:D→Res α) (f:DSt→Res D):DSt→Res α:=fun δ=>(f δ).bind op
def dgetR (l:List (Key×D)) (d:D):Res D:=match keyD d with
 |some k=>match tGet l k with
  |some x=> .ok x
  |none=> .stuck
 |none=> .stuck
def b2Q {α:Type} (op:List (Key×D)→D→Res α) (f:DSt→Res (List (Key×D))) (g:DSt→Res D):DSt→Res α:=fun δ=>(f δ).bind fun l=>(g δ).bind fun d=>op l d
theorem keyD_has {K:PySem.W.Frag} {W:WS} {H:Hp} {d:D} {v:V} {k:Key} (h:HasT K W H d v) (e:keyD d=some k):v=kV k:=by
 cases d with
 |int i=>cases e;exact h.int
 |str x=>cases e;exact h.str
 |_=>cases e
theorem x_dget {fq:DSt→Res (List (Key×D))} (ha:XQ X xw a fq) (hb:XP X xw b fb) (hs:PlainIx b:=by intro _ _;rfl):XE X xw (.Subscript a b pos) (b2Q dgetR fq fb):=
 ⟨PE.weak (pe_dget ha.h hb.h hs) fun σ H Q ⟨W₀,H₀,W,δ,st,q⟩=>by
  refine ⟨W₀,H₀,W,δ,st,?_⟩
  unfold b2Q at q
  cases h1:fq δ with
  |stuck=>rw [h1] at q;exact q
  |ex c fs=>rw [h1] at q;exact q
  |ok l=>
   rw [h1] at q
   intro ad kvs H1 k1 hd hp
   refine ⟨W₀,H₀,W,δ,st.same k1,?_⟩
   have q':RE X.K xw W H ((fb δ).bind fun d=>dgetR l d) Q:=q
   cases h2:fb δ with
   |stuck=>rw [h2] at q';exact q'
   |ex c fs=>rw [h2] at q';exact fun H2 k2=>q' H2 (k1.trans k2)
   |ok d=>
    rw [h2] at q'
    intro v H2 k2 hv
    have q2:RE X.K xw W H (dgetR l d) Q:=q'
    unfold dgetR at q2
    split at q2
    ·rename_i k hk
     split at q2
     ·rename_i x hx
      have hp2:=hp.same k2 (st.fr.wl.same k1)
      obtain ⟨z,hz,hh⟩:=(hp2.get k).1 x hx
      exact ⟨ad,kvs,k,z,rfl,Rd.same hd k2,keyD_has hv hk,hz,q2 z H2 (k1.trans k2) hh⟩
     ·exact q2.elim
    ·exact q2.elim⟩
def sOwnQ (i:Nat):DSt→Out:=fun δ=> .nx (δ.set i (some (.q [] [])))
theorem pe_dnew {t:TE} (ht:∀ σ H Q,t σ H Q→∀ a,H a=none→Q (.ref a) (upd H a (.dK []))):PE X (.Dict [] [] pos) t:=by
 intro pins s σ H Q I q
 have big:sysModules<s.heap.objs.size:=by
  have h:mainGlobals<s.heap.objs.size:=(I.mod.glob.keeps I.bk).lt
  exact Nat.lt_trans (by decide) h
 exact wpAny_Dict_empty ⟨.ref s.heap.objs.size,_,I.laid (a:=s.heap.objs.size) (o:= .dK []) (t':=s.toks) (fun _ _ q=>Heap.get?_push_of_some _ q) (Nat.le_refl _) (dk_empty s.heap big),rfl,ht σ H Q q _ (I.hok.fresh (Nat.le_refl s.heap.objs.size))⟩
theorem s_ownQ (i:Nat) {x:Str} {pos' pos'':Pos} (hN:X.N.Nodup) (hi:X.N[i]? =some x:=by rfl) (hx:Loc X.env.scope x:=by first|exact Or.inl rfl|exact Or.inr rfl) (hs:swapsWith (.Dict [] [] pos'') (some (.Name x pos')) pos.line X.env=pure false:=by rfl)
  (hf:X.fn x=true∨X.env.scope.names.lookup x=some .local:=by first|exact .inl rfl|exact .inr rfl|assumption):XS X xw (.Assign [.Name x pos'] (.Dict [] [] pos'') pos) (sOwnQ i):=
 ⟨PS.weak (ps_set hN hi hx (pe_dnew (t:=fun _ H Q=>∀ a,H a=none→Q (.ref a) (upd H a (.dK []))) fun _ _ _ q=>q) hs hf) fun Dn σ H ⟨W₀,H₀,W,δ,st,q⟩=>by
  intro a ha
  have st1:=st.ownQ (i:=i) (ks:= []) (ds:= []) (kvs:= []) ha rfl HasL.nil
  have q':RS X.K xw W₀ H₀ W H (.nx (δ.set i (some (.q [] [])))) Dn:=q
  refine q' _ _ _ ⟨fun b o e nb=> ?_,fun b z=>z.elim .inl fun z=> .inr (by rw [z];exact ha)⟩ st1
  rw [upd_ne (ne_of_none e ha)];exact e⟩
def putJ (i:Nat) (δ:DSt) (l:List (Key×D)) (d ix:D):Out:=match keyD ix with
 |some k=>if l.length≤1000 then .nx (δ.set i (some (.q ((tPut l k d).map (·.1)) ((tPut l k d).map (·.2))))) else .stuck
 |none=> .stuck
def putO (i:Nat) (fi:DSt→Res D) (δ:DSt) (d:D):Out:=match δ[i]? with
 |some (some (.q ks ds))=>ofR (fi δ) (putJ i δ (ks.zip ds) d)
 |_=> .stuck
def sPutI (i:Nat) (fi f:DSt→Res D):DSt→Out:=fun δ=>ofR (f δ) (putO i fi δ)
theorem s_puti (i:Nat) {x:Str} (he:XE X xw e f) (hi:XE X xw ie fi) (hN:X.N[i]? =some x:=by rfl) (hv:Vis X.env.scope x:=by first|exact Or.inl rfl|exact Or.inr (Or.inl rfl)|exact Or.inr (Or.inr rfl)) (hd:(x==("__debug__":Str))=false:=by decide)
  (hcd:(x==("__classdict__":Str))=false:=by decide)
  (ha:∀ v,assign (.Subscript (.Name x p1) ie p2) X.env v=(do
   let ov ←holding [v] (eval (.Name x p1) X.env)
   let iv ←holding [v,ov] (eval ie X.env)
   standAt p2
   holding [v,ov,iv] (setItem ov iv v)
   release [v,ov,iv] []):=by intro _;rfl)
  (hs:swapsWithSole [.Subscript (.Name x p1) ie p2] e pos.line X.env=pure false:=by rfl) (hw:swappedStores [.Subscript (.Name x p1) ie p2] e X.env=pure none:=by rfl)
  (h1:(assignEach [.Subscript (.Name x p1) ie p2] X.env).map (·.2)= [assign (.Subscript (.Name x p1) ie p2) X.env]:=by rfl):
  XS X xw (.Assign [.Subscript (.Name x p1) ie p2] e pos) (sPutI i fi f):=
 ⟨PS.weak (ps_asg he.h (pg_sub (pe_var hN hv hd hcd) hi.h set_dict ha) hs hw h1) fun Dn σ H ⟨W₀,H₀,W,δ,st,q⟩=>by
  unfold sPutI at q
  refine val_read st q fun H2 d v st2 hv q2=> ?_
  unfold putO at q2
  split at q2
  ·rename_i ks ds h
   obtain ⟨v0,e1,a,kvs,rfl,r2,r3,r4,r5,r6⟩:=st2.at' i _ h
   refine ⟨_,e1,W₀,H₀,W,δ,st2,?_⟩
   cases hf:fi δ with
   |stuck=>rw [hf] at q2;exact q2.elim
   |ex c gs=>rw [hf] at q2;exact fun H3 k3=>q2 H3 (st2.fr.ext.trans k3)
   |ok ix=>
    rw [hf] at q2
    have q3:RS X.K xw W₀ H₀ W H2 (putJ i δ (ks.zip ds) d ix) Dn:=q2
    unfold putJ at q3
    split at q3
    ·rename_i k hk
     split at q3
     ·rename_i hlen
      intro vi H3 k3 hvi
      have hkk:=keyD_has (.inl hvi) hk
      subst hkk
      have st3:=st2.same k3
      obtain ⟨v',e1',a',kvs',e',r2',r3',r4',r5',r6'⟩:=st3.at' i _ h
      rw [e1] at e1'
      cases e1'
      cases e'
      have hp:=(HasP.of r5' r6').1
      have hp2:=hp.put k (hv.same k3 st2.fr.wl)
      refine ⟨a,kvs',k,rfl,rfl,r4',by have:=hp.len;rw [sizeLine_eq];omega,?_⟩
      refine q3 W _ σ ⟨fun b o e n=> ?_,fun _ z=> .inl z⟩ ?_
      ·rw [upd_ne (fun z=>n (by rw [z];exact r2'))];exact k3 _ _ e
      ·exact st3.changeQ h e1 r2' hp2.1 hp2.2
     ·exact q3.elim
    ·exact q3.elim
  ·exact q2.elim⟩
def frzD (i:Nat) (δ:DSt):DSt:=match δ[i]? with
 |some (some (.q ks ds))=>δ.set i (some (.d (.dct ks ds)))
 |some (some (.o ds))=>δ.set i (some (.d (.lst ds)))
 |_=>δ
theorem StHas.frzQ {K:PySem.W.Frag} {W₀ W:WS} {H₀ H:Hp} {σ:L2.St} {δ:DSt} {i:Nat} {ks:List Key} {ds:List D} {a:Addr} {kvs:List (Key×V)} (o:Obj) (h:StHas K W₀ H₀ W H σ δ) (hi:δ[i]? =some (some (.q ks ds))) (hs:σ[i]? =some (some (.ref a)))
  (hW:W a) (h4:kvs.map (·.1)=ks) (h5:HasL K W H ds (kvs.map (·.2))):StHas K W₀ H₀ (fun b=>W b∧b≠a) (upd H a (.frz o (.dK kvs))) σ (δ.set i (some (.d (.dct ks ds)))):=by
 have kk:Keep W H (upd H a (.frz o (.dK kvs))):=fun b u e n=>by rw [upd_ne (fun z=>n (by rw [z];exact hW))];exact e
 refine h.freezeH (owq ks ds) hi hs ?_
 rw [Has]
 exact ⟨a,kvs,rfl,⟨o,upd_same⟩,h4,HasL.keep kk h.fr.wl (fun b z=> .inl z.1) h5⟩
theorem Step.less {W W1 W2:WS} {H H2:Hp} (hw:∀ b,W1 b→W b) (k:Step W1 H W2 H2):Step W H W2 H2:=⟨fun b o e n=>k.keep b o e fun z=>n (hw b z),fun b z=>(k.new b z).imp (hw b) id⟩
theorem RS.less {K:PySem.W.Frag} {xw:XW} {W₀ W W1:WS} {H₀ H:Hp} {o:Out} {Dn:Ends} (hw:∀ b,W1 b→W b) (q:RS K xw W₀ H₀ W H o Dn):RS K xw W₀ H₀ W1 H o Dn:=by
 cases o with
 |nx δ=>exact fun W' H' σ k s=>q W' H' σ (k.less hw) s
 |bk δ=>exact fun W' H' σ k s=>q W' H' σ (k.less hw) s
 |ct δ=>exact fun W' H' σ k s=>q W' H' σ (k.less hw) s
 |rt d=>exact q
 |ex c fs=>exact q
 |stuck=>exact q
def sFrz (i:Nat) (g:DSt→Out):DSt→Out:=fun δ=>g (frzD i δ)
theorem RS.note {K:PySem.W.Frag} {xw:XW} {W₀ W:WS} {H₀ H:Hp} {o:Out} {Dn:Ends} {a:Addr} {ob:HO} (hW:W a) (q:RS K xw W₀ H₀ W H o Dn):RS K xw W₀ H₀ (fun b=>W b∧b≠a) (upd H a ob) o Dn:=by
 have st:∀ W' H',Step (fun b=>W b∧b≠a) (upd H a ob) W' H'→Step W H W' H':=fun W' H' k=>⟨fun b u e n=>by
   have hb:b≠a:=fun z=>n (by rw [z];exact hW)
   exact k.keep b u (by rw [upd_ne hb];exact e) fun z=>n z.1,fun b z=>by
   rcases k.new b z with z|z
   ·exact .inl z.1
   ·by_cases hb:b=a
    ·rw [hb,upd_same] at z;cases z
    ·rw [upd_ne hb] at z;exact .inr z⟩
 cases o with
 |nx δ=>exact fun W' H' σ k s=>q W' H' σ (st _ _ k) s
 |bk δ=>exact fun W' H' σ k s=>q W' H' σ (st _ _ k) s
 |ct δ=>exact fun W' H' σ k s=>q W' H' σ (st _ _ k) s
 |rt d=>exact q
 |ex c fs=>exact q
 |stuck=>exact q
theorem frz_step {i:Nat} {g:DSt→Out} {Dn:Ends} {σ:L2.St} {H:Hp} {pins:List (Addr×Obj)} {s:Shared} (I:Inv X pins σ H s) (h:tDS X.K xw (sFrz i g) Dn σ H):∃ H',Inv X pins σ H' s∧tDS X.K xw g Dn σ H':=by
 obtain ⟨W₀,H₀,W,δ,st,q⟩:=h
 have q':RS X.K xw W₀ H₀ W H (g (frzD i δ)) Dn:=q
 unfold frzD at q'
 split at q'
 ·rename_i ks ds h
  obtain ⟨v,e,a,kvs,rfl,r2,r3,r4,r5,r6⟩:=st.at' i _ h
  have ok:=I.hok _ _ r4
  obtain ⟨z,hS,vs,rel,dd⟩:=id ok
  obtain ⟨o,es,ep,ho,_⟩:=dd
  refine ⟨_,I.write (x:=a) (e:=a) (o:= .frz o (.dK kvs)) (h':=s.heap) (t':=s.toks) (by rw [r4];exact trivial) (.inl rfl) (fun b' u hb hu=>hu) ⟨_,ho⟩ ⟨ho,ok⟩,W₀,H₀,_,_,st.frzQ o h e r2 r5 r6,RS.note r2 q'⟩
 ·rename_i ds h
  obtain ⟨v,e,a,xs,rfl,_⟩:=st.at' i _ h
  exact ⟨H,I,W₀,H₀,_,_,(st.freeze h e).1,RS.less (fun b z=>z.1) q'⟩
 ·exact ⟨H,I,W₀,H₀,W,δ,st,q'⟩
theorem s_frz (i:Nat) {st:Stmt} {g:DSt→Out} (h:XS X xw st g):XS X xw st (sFrz i g):=⟨fun pins s σ H Dn I q=>let ⟨H',I',q'⟩:=frz_step I q;h.h pins s σ H' Dn I' q'⟩
end
end L3
namespace L3
open PySem PySem.Spec PyProof.Rows L2 SeqAt
theorem is_key {P:Program} {w:World} {k:Key} {u:Value} (h:(mixKind P w).is k u=true):RelV (kV k) u:=by
 rcases keyIs_shape h with ⟨i,t,rfl,rfl⟩|⟨x,t,rfl,rfl⟩
 ·exact ⟨t,rfl⟩
 ·exact ⟨t,rfl⟩
theorem frz_at {P:Program} {w:World} {H:Hp} {h:Heap} {a:Addr} {o:Obj} {kvs:List (Key×V)} {es:Array DictEntry} {ep:Nat} (ok:HOk P w H h) (e:H a=some (.frz o (.dK kvs))) (hd:o.data= .dict es ep):
  (a==sysModules)=false∧∃ vs,KV kvs vs∧h.DictAt (mixKind P w) a vs ep:=by
 obtain ⟨h1,_,h2,vs,r,o',es',ep',g1,g2,g3,g4⟩:=(show _∧_ from ok a _ e)
 rw [h1] at g1;cases g1
 rw [hd] at g3;cases g3
 exact ⟨h2,vs,r,o,es,h1,g2,hd,g4⟩
theorem kv_at {kvs:List (Key×V)} {vs:List (Key×Value)} (r:KV kvs vs) {i:Nat} {p:Key×V} (h:kvs[i]? =some p):∃ u,vs[i]? =some (p.1,u)∧RelV p.2 u:=by
 unfold KV at r
 induction r generalizing i with
 |nil=>cases h
 |@cons p' q ps qs hh t ih=>
  cases i with
  |zero=>cases h;exact ⟨q.2,by rw [List.getElem?_cons_zero,hh.1],hh.2⟩
  |succ i=>exact ih (by simpa using h)
section
variable {X:Cx} {xw:XW} {e b tg:Expr} {f:DSt→Res D} {pos apos:Pos}
def keyOf:Key→D
 | .inl i=> .int i
 | .inr x=> .str x
theorem keyOf_has {K:PySem.W.Frag} {W:WS} {H:Hp} (k:Key):Has K W H (keyOf k) (kV k):=by
 cases k with
 |inl i=>show Has K W H (.int i) (.int i);rw [Has]
 |inr x=>show Has K W H (.str x) (.str x);rw [Has]
variable {elts:List Expr} {kt:Nat} {pt:Pos}
end
end L3
namespace L3
open PySem PySem.Spec PyProof.Rows L2 SeqAt
section
variable {X:Cx} {xw:XW} {pos p pos2 apos:Pos} {a e:Expr} {fa f:DSt→Res D}
end
end L3
namespace L3
open PySem PySem.Spec PyProof.Rows L2 SeqAt
def IsRv (h:Heap) (a l:Addr) (i:Int):Prop:=∃ o,h.get? a=some o∧o.cls= .type "reversed"∧o.data= .fields #[.ref l,rawInt i]
theorem IsRv.typeIs {s:Shared} {a l:Addr} {i:Int} (x:IsRv s.heap a l i):s.TypeIs (.ref a) "reversed":=let ⟨o,ho,hc,_⟩:=x;⟨o,ho,hc⟩
theorem IsRv.at {h h':Heap} {a l:Addr} {i:Int} (x:IsRv h a l i) (e:∀ o,h.get? a=some o→h'.get? a=some o):IsRv h' a l i:=let ⟨o,ho,r⟩:=x;⟨o,e _ ho,r⟩
section
variable {prog:Program} {w:World} {A:Around} {E:Value→Shared→Prop} {s:Shared}
end
section
variable {X:Cx} {xw:XW} {tg a:Expr} {p pos:Pos} {fs:DSt→Res (List D)}
end
end L3
namespace L3
open PySem PySem.Spec PyProof.Rows L2 SeqAt
section
variable {prog:Program} {w:World} {KK:Type} [DecidableEq KK] {knd:KeyKind prog w KK} {A:Around} {R:Result→Shared→Prop} {I:Addr} {fp wr:List Addr} {G:Array GenState→Array GenState→Prop} {n:Nat} {P:Nat→Value→Prop} {St:Nat→Shared→Prop} {E:Value→Shared→Prop} {s:Shared}
end
section
variable {X:Cx} {xw:XW} {pos p:Pos} {a:Expr} {fa:DSt→Res D}
def PairsAt (K:PySem.W.Frag) (H:Hp):List V→List (Key×V)→Prop
 | [],kvs=>kvs= []
 |x::xs,kvs=>∃ t k v r,x= .ref t∧kvs=(k,v)::r∧SqT K H t [kV k,v]∧PairsAt K H xs r
theorem PairsAt.len {K:PySem.W.Frag} {H:Hp}:∀ {xs:List V} {kvs:List (Key×V)},PairsAt K H xs kvs→xs.length=kvs.length
 | [],_,h=>by rw [show _= [] from h];rfl
 |x::xs,_,h=>by
  obtain ⟨t,k,v,r,_,rfl,_,h⟩:=h
  rw [List.length_cons,List.length_cons,h.len]
end
end L3
namespace L3
open PySem PySem.Spec PyProof.Rows L2 SeqAt
section
variable {X:Cx} {xw:XW} {a b e:Expr} {pos:Pos} {fa f:DSt→Res D} {fq:DSt→Res (List (Key×D))}
end
end L3
namespace L3
open PySem PySem.Spec PyProof.Rows L2 SeqAt
structure FunD (K:PySem.W.Frag) (x qual:Str) (st:Stmt) (f:Addr) (fd:FuncData) (dV:Value):Prop where
 ex:∃ (oc:Value) (od:Option Addr) (kV doc pm:Value) (an:Option Addr) (cdv ct:Value) (osl:Array (Option Value)),
  fd=PySem.W.fnOf x qual (defArgs st) (defBody st) (defScope st) dV kV doc pm an cdv ct∧K.lookup f=some ⟨oc,od, .func fd,osl⟩∧PySem.W.codeIn K cdv qual=true
 kp:PySem.W.keepIn K (.ref f)=true
section
variable {P:Program} {w:World} {K:PySem.W.Frag} {mg:Str→Option Value} {base:Heap}
theorem FunD.ok {x qual:Str} {st:Stmt} {f:Addr} {fd:FuncData} {dV:Value} {N ps:List Str} {k:Nat} {sp:Sp} (F:FunD K x qual st f fd dV) (S:FnScope N ps (defScope st)) (len:∀ vs H Q E,sp vs H Q E→vs.length=ps.length)
  (hbody:∀ (cdv:Value) (A:Around) (outer:List Env) (s:Shared) (H:Hp) (vs:List V) (Q:VK) (E:XK),Room k (A.deeper (envOfC qual (defScope st) s.heap.objs.size f cdv))→sp vs H Q E→
   ∃ t,PSs (cxOf CX0 P w K mg base N qual (defScope st) f cdv A outer s H E).nox (defBody st) t∧t {nx:=fun _ H'=>Q .non H',rt:=Q} (start N vs) H):FnOk P w K mg base CX0 (k+1) f fd ps sp:=by
 obtain ⟨oc,od,kV,doc,pm,an,cdv,ct,osl,rfl,lk,hcd⟩:=F.ex
 refine fn_of lk hcd S len fun A outer s H vs Q E hr hsp=> ?_
 obtain ⟨t,h,q⟩:=hbody cdv A outer s H vs Q E hr hsp
 exact ⟨t,h.nox,q⟩
theorem FunD.binds {x qual:Str} {st:Stmt} {f:Addr} {fd:FuncData} {dV:Value} {ps:List Str} (F:FunD K x qual st f fd dV)
  (h:∀ (kV doc pm:Value) (an:Option Addr) (cdv ct:Value) (us:List Value),us.length=ps.length→bindArgs (PySem.W.fnOf x qual (defArgs st) (defBody st) (defScope st) dV kV doc pm an cdv ct) ⟨us,[]⟩=pure (ps.zip us)):Binds K fd ps []:=by
 obtain ⟨oc,od,kV,doc,pm,an,cdv,ct,osl,rfl,lk,hcd⟩:=F.ex
 exact .all (h kV doc pm an cdv ct)
end
end L3
namespace L3
open PySem PySem.Spec PyProof.Rows L2 SeqAt
theorem lm_no (a:Int) (t:Tok) (l:Addr) (items:Array Value) (n:Nat) (dd:Option Addr) (sl:Array (Option Value)):
  Meets (Builtin.«int.__rmul__» ⟨[.int a t, .ref l],[]⟩) (fun _ R s=>s.heap.get? l=some {cls:= .type "list",dict:=dd,data:= .seq items n,slots:=sl}∧R (.ok (.ret Value.notImplemented)) s):=
 .of_wp fun prog w A R s h=>by
  obtain ⟨hp,g,d,tk,os⟩:=s
  obtain ⟨hl,h⟩:=h
  wp_walk
  exact ⟨_,rfl,h⟩
theorem lm_many (l:Addr) (items:Array Value) (n:Nat) (dd:Option Addr) (sl:Array (Option Value)) (x:Int) (u:Tok) (hc0:¬(!Builtin.List.listFitsIndex x)=true) (hc1:¬items.size*x.toNat>(2^63-1) / 8) (hc2:¬Builtin.List.listTooLong (items.size*x.toNat)=true):
  Meets (Builtin.«list.__mul__» ⟨[.ref l, .int x u],[]⟩) (fun _ R s=>s.heap.get? l=some {cls:= .type "list",dict:=dd,data:= .seq items n,slots:=sl}∧R (.ok (.ret (Value.ref s.heap.objs.size))) {s with heap:=s.heap.push {cls:=Value.type "list",data:=Data.seq (List.foldl (fun x1 x2=>x1++x2) #[] (List.replicate (if items.isEmpty=true then 0 else x.toNat) items))},toks:=s.toks}):=
 .of_wp fun prog w A R s h=>by
  obtain ⟨hp,g,d,tk,os⟩:=s;obtain ⟨hl,h⟩:=h
  have hsz:=PySem.AutoListH.joined_fits hc2
  wp_walk;refine wpAny_ite_false (decide_eq_false (Nat.not_lt.mpr hsz)) ?_;wp_walk;exact ⟨_,rfl,h⟩
section
variable {X:Cx} {xw:XW} {a b:Expr} {fa fb:DSt→Res D} {pos p:Pos}
theorem op_repL:OpR X (binaryOp .Mult) (fun x y H Q=>∃ l k xs,x= .ref l∧y= .int k∧SqL X.K H l xs∧xs≠ []∧0≤k∧k≤1000∧xs.length≤1000∧∀ p,H p=none→Q (.ref p) (upd H p (.lst (List.replicate k.toNat xs).flatten))):=by
 intro pins s σ H x y v u Q I rx ry h
 obtain ⟨l,k,xs,rfl,rfl,hH,hne,h1,h2,hl,q⟩:=h
 cases rx
 obtain ⟨t,rfl⟩:=ry
 obtain ⟨its,r,⟨⟨cls,dd,data,sl⟩,n,e,hc,hd,hs⟩,hz1⟩:=I.list hH
 simp only at hc hd hs
 subst hc hd hs
 have hlen:=r.length
 have hi:its≠ []:=fun e=>hne (by rw [e] at hlen;exact List.eq_nil_of_length_eq_zero hlen)
 have he:its.toArray.isEmpty=false:=by cases its with
  |nil=>exact absurd rfl hi
  |cons=>simp
 have h3:its.length*k.toNat≤1000*1000:=Nat.mul_le_mul (by omega) (by omega)
 have hfl:(List.replicate k.toNat its.toArray).foldl (fun x1 x2=>x1++x2) #[]=(List.replicate k.toNat its).flatten.toArray:=by
  have:=foldl_rep its k.toNat []
  rw [List.nil_append] at this
  exact this
 refine wpAny_binaryOp_repeat_ref (T:="list") (U:="int") (by decide) ⟨_,e,rfl⟩ (fun s'=>typeIs_int s' k t) noFill_list_mul F.fills_int_mul F.slot_int_rmul repeat_list F.slot_int_index.lookup
  (call_meets F.slot_int_rmul (typeIs_int s k t) F.entry_int_rmul (F.args_int_rmul_2 _ _) (lm_no k t l its.toArray n _ _) ⟨e,rfl,⟨_,e,rfl⟩,?_⟩)
 refine call_meets F.slot_list_mul ⟨_,e,rfl⟩ F.entry_list_mul (F.args_list_mul_2 _ _) (lm_many l its.toArray n _ _ k t ?_ ?_ ?_) ⟨e,?_⟩
 ·unfold Builtin.List.listFitsIndex
  simp
  omega
 ·rw [List.size_toArray];omega
 ·unfold Builtin.List.listTooLong
  have:sizeLine=16777216:=sizeLine_eq
  rw [List.size_toArray]
  simp
  omega
 ·rw [he,if_neg (by decide),hfl]
  exact ⟨.ref _,_,I.lnew (t':=s.toks) (r.rep k.toNat) (by rw [len_rep,sizeLine_eq,Nat.mul_comm,hlen];omega),rfl,q _ I.fresh⟩
noncomputable def repR:D→D→Res (List D)
 | .lst xs, .int k=>@ite (Res (List D)) (xs≠ []∧0≤k∧k≤1000∧xs.length≤1000) (Classical.propDecidable _) (.ok (List.replicate k.toNat xs).flatten) .stuck
 |_,_=> .stuck
theorem repR_eq (xs:List D) (k:Int) (h:xs≠ []∧0≤k∧k≤1000∧xs.length≤1000):repR (.lst xs) (.int k)= .ok (List.replicate k.toNat xs).flatten:=if_pos h
theorem f_rep (ha:XP X xw a fa) (hb:XP X xw b fb):XF X xw (.BinOp a .Mult b pos) (b2F repR fa fb):=
 ⟨PE.weak (pe_op op_repL ha.h hb.h) fun σ H Q ⟨W₀,H₀,W,δ,st,q⟩=>two_readF st q fun H2 d e v u k w hv hu q2=>by
  unfold repR at q2
  split at q2
  ·split at q2
   ·rename_i hz
    obtain ⟨a1,xs,e1,s1,r1⟩:=hv.lst
    refine ⟨a1,_,xs,e1,hu.int,s1,fun z=>hz.1 ?_,hz.2.1,hz.2.2.1,by rw [←r1.length];exact hz.2.2.2,fun p hp=>q2 p _ H2 (Same.refl _) hp (r1.rep _)⟩
    subst z
    exact List.eq_nil_of_length_eq_zero (by simpa using r1.length)
   ·exact q2.elim
  ·exact q2.elim⟩
end
structure FnL (P:Program) (w:World) (K:PySem.W.Frag) (mg:Str→Option Value) (base:Heap) (k:Nat) (x:Str) (n:Nat) (m:List D→Res D) (i:Int):Prop where
 ex:∃ (fa:Addr) (fd:FuncData) (ps:List Str) (v0:Value),FnOk P w K mg base CX0 k fa fd ps (spD K n m)∧mg x=some (.ref fa)∧PySem.W.keepIn K (.ref fa)=true∧Binds K fd ps [v0]∧RelV (.int i) v0
theorem FnL.mono {P:Program} {w:World} {K:PySem.W.Frag} {mg:Str→Option Value} {base:Heap} {j k n:Nat} {x:Str} {m:List D→Res D} {i:Int} (F:FnL P w K mg base j x n m i) (h:j≤k):FnL P w K mg base k x n m i:=
 let ⟨fa,fd,ps,v0,G,hm,hk,hb,hv⟩:=F.ex
 ⟨fa,fd,ps,v0,G.mono h,hm,hk,hb,hv⟩
end L3
namespace PySem
open Sem (wp)
def D2 (o o':Obj):Prop:=o'.dict=o.dict∧∀ vs,o.data= .fields vs→∃ vs',o'.data= .fields vs'∧vs'[2]? =vs[2]?
theorem D2.refl (o:Obj):D2 o o:=⟨rfl,fun vs e=>⟨vs,e,rfl⟩⟩
theorem D2.trans {a b c:Obj} (x:D2 a b) (y:D2 b c):D2 a c:=⟨y.1.trans x.1,fun vs e=>by
 obtain ⟨v1,e1,q1⟩:=x.2 vs e
 obtain ⟨v2,e2,q2⟩:=y.2 v1 e1
 exact ⟨v2,e2,q2.trans q1⟩⟩
def DK (h h':Heap):Prop:=∀ b o,h.get? b=some o→∃ o',h'.get? b=some o'∧D2 o o'
theorem DK.refl (h:Heap):DK h h:=fun _ o e=>⟨o,e,D2.refl o⟩
theorem DK.trans {h1 h2 h3:Heap} (x:DK h1 h2) (y:DK h2 h3):DK h1 h3:=fun b o e=>
 let ⟨o1,e1,d1⟩:=x b o e
 let ⟨o2,e2,d2⟩:=y b o1 e1
 ⟨o2,e2,d1.trans d2⟩
theorem DK.push (h:Heap) (o:Obj):DK h (h.push o):=fun b u e=>⟨u,Heap.get?_push_of_some o e,D2.refl u⟩
theorem DK.upd (h:Heap) (a:Addr) (f:Obj→Obj) (hd:∀ o,h.get? a=some o→D2 o (f o)) (hf:∀ o,h.get? a=some o→(f o).isFreed=false):DK h (h.update a f):=fun b u e=>by
 by_cases hb:a=b
 ·subst hb
  exact ⟨f u,Heap.get?_update_self f e (hf u e),hd u e⟩
 ·exact ⟨u,(Heap.get?_update_other h f hb).trans e,D2.refl u⟩
structure KeepD {α:Type} (t:Sem α):Prop where
 out:∀ (M:Model) (Γ:Ctx) (P:α→Pos→Shared→Prop) (Ee:Value→Pos→Shared→Prop) (p:Pos) (s:Shared),wp M Γ t P Ee p s→wp M Γ t (fun a p' s'=>P a p' s'∧DK s.heap s'.heap) Ee p s
namespace KeepD
variable {α β:Type}
theorem now (a:α):KeepD (Pure.pure a:Sem α):=⟨fun _ _ _ _ _ _ h=>⟨h,DK.refl _⟩⟩
theorem off (w:String):KeepD (PySem.unsupported w:Sem α):=⟨fun _ _ _ _ _ _ h=>h⟩
theorem seq {m:Sem α} {f:α→Sem β} (hm:KeepD m) (hf:∀ a,KeepD (f a)):KeepD (m >>= f):=⟨fun M Γ P Ee p s h=>by
 rw [Sem.wp_bind'] at h ⊢
 refine Sem.wp_mono M Γ m (fun a p1 s1 h1=> ?_) (fun _ _ _ x=>x) p s (hm.out M Γ _ Ee p s h)
 exact Sem.wp_mono M Γ (f a) (fun b p2 s2 h2=>⟨h2.1,h1.2.trans h2.2⟩) (fun _ _ _ x=>x) p1 s1 ((hf a).out M Γ P Ee p1 s1 h1.1)⟩
theorem cond {c:Prop} [Decidable c] {t u:Sem α} (ht:KeepD t) (hu:KeepD u):KeepD (if c then t else u):=by split<;>assumption
theorem ld (a:Addr):KeepD (PySem.load a):=⟨fun M Γ P Ee p s h=>by
 unfold PySem.load at h ⊢
 rw [Sem.wp_load] at h ⊢
 obtain ⟨o,e,q⟩:=h
 rw [Sem.wp_pure] at q
 exact ⟨o,e,by rw [Sem.wp_pure];exact ⟨q,DK.refl _⟩⟩⟩
theorem up (a:Addr) (f:Obj→Obj) (hd:∀ o,(f o).dict=o.dict) (he:∀ o,(f o).data=o.data):KeepD (PySem.update a f):=⟨fun M Γ P Ee p s h=>by
 unfold PySem.update at h ⊢
 rw [Sem.wp_update] at h ⊢
 obtain ⟨e,q⟩:=h
 rw [Sem.wp_pure] at q
 refine ⟨e,?_⟩
 rw [Sem.wp_pure]
 refine ⟨q,DK.upd _ _ _ (fun o _=>⟨hd o,fun vs e=>⟨vs,(he o).trans e,rfl⟩⟩) fun o ho=> ?_⟩
 have al:=((Heap.get?_eq_some _ _ _).1 ho).2
 have h1:=he o
 revert h1
 generalize f o=u
 intro h1
 obtain ⟨c1,d1,t1,s1⟩:=u
 obtain ⟨c2,d2,t2,s2⟩:=o
 dsimp only at h1
 subst h1
 cases t1<;>first|rfl|cases al⟩
theorem stk:KeepD PySem.stack:=⟨fun M Γ P Ee p s h=>by
 unfold PySem.stack at h ⊢
 rw [Sem.wp_stack] at h ⊢
 rw [Sem.wp_pure] at h ⊢
 exact ⟨h,DK.refl _⟩⟩
theorem new (o:Obj):KeepD (PySem.alloc o):=⟨fun M Γ P Ee p s h=>by
 unfold PySem.alloc at h ⊢
 rw [Sem.wp_alloc,Sem.wp_pure] at h ⊢
 exact ⟨h,DK.push _ _⟩⟩
theorem fld (v:Value) (i:Nat):KeepD (PySem.field v i):=⟨fun M Γ P Ee p s h=>by
 rw [wp_field_iff] at h ⊢
 obtain ⟨a,o,vs,x,e1,e2,e3,e4,q⟩:=h
 exact ⟨a,o,vs,x,e1,e2,e3,e4,q,DK.refl _⟩⟩
theorem put (v:Value) (i:Nat) (x:Value) (hi:i≠2):KeepD (PySem.setField v i x):=⟨fun M Γ P Ee p s h=>by
 rw [wp_setField_iff] at h ⊢
 obtain ⟨a,o,vs,e1,e2,e3,e4,q⟩:=h
 refine ⟨a,o,vs,e1,e2,e3,e4,q,DK.upd _ _ _ (fun u hu=>⟨?_,fun ws ew=>⟨_,Obj.data_mapFields ew _,?_⟩⟩) fun u hu=> ?_⟩
 ·unfold Obj.mapFields;split<;>rfl
 ·exact Array.getElem?_setIfInBounds_ne hi
 ·rw [e2] at hu;cases hu
  exact Obj.isFreed_of_fields (Obj.data_mapFields e3 _)⟩
end KeepD
local macro_rules| `(tactic| walk_at "keepd")=> `(tactic| repeat' with_reducible first
  |assumption
  |exact KeepD.now _
  |exact KeepD.off _
  |exact KeepD.fld _ _
  |exact KeepD.put _ _ _ (by decide)
  |exact KeepD.ld _
  |exact KeepD.stk
  |exact KeepD.new _
  |exact KeepD.up _ _ (fun _=>rfl) (fun _=>rfl)
  |apply KeepD.cond
  |apply KeepD.seq
  |intro _
  |split)
theorem KeepD.anyK {α:Type} {t:Sem α} (k:KeepD t) {M:Model} {A:Around} {Q:α→Shared→Prop} {E:Value→Shared→Prop} {s:Shared} (h:wpAny M A t Q E s):wpAny M A t (fun v s'=>Q v s'∧DK s.heap s'.heap) E s:=
 fun Γ p hΓ=>k.out M Γ _ _ p s (h Γ p hΓ)
theorem KeepD.thn {α:Type} {t:Sem α} (k:KeepD t) {M:Model} {A:Around} {Q Q':α→Shared→Prop} {E:Value→Shared→Prop} {s:Shared} (h:wpAny M A t Q E s) (g:∀ v s',Q v s'→DK s.heap s'.heap→Q' v s'):wpAny M A t Q' E s:=
 wpAny_mono (KeepD.anyK k h) (fun v s' q=>g v s' q.1 q.2) fun _ _ z=>z
end PySem
namespace L3
open PySem PySem.Spec PyProof.Rows L2 SeqAt
def DcOk (dx:Dx) (o:Obj):Prop:=o.dict=dx.1∧(dx.2=true→∃ vs,o.data= .fields vs∧vs[2]? =some .none)
theorem DcOk.to {dx:Dx} {o o':Obj} (h:DcOk dx o) (d:D2 o o'):DcOk dx o':=⟨d.1.trans h.1,fun z=>by
 obtain ⟨vs,e,q⟩:=h.2 z
 obtain ⟨vs',e',q'⟩:=d.2 vs e
 exact ⟨vs',e',q'.trans q⟩⟩
structure Fly (P:Program) (w:World) (l:List Env) (H:Hp) (s:Shared) (H':Hp) (a:Addr) (cls:Value) (dx:Dx) (h:Heap):Prop where
 un:Un (frs l) [] H H' s.heap h
 hok:HOk P w H' h
 frf:∀ b∈frs l,H' b=none
 new:s.heap.get? a=none
 nh:H' a=none
 dc:∃ o,h.get? a=some o∧DcOk dx o
 fl:∃ B a0,Heap.FlyingW B l a cls a0 h∧∀ b,b∉frs l→((H' b).isSome=true∨(s.heap.get? b).isSome=true)→(B.get? b).isSome=true
section
variable {P:Program} {w:World} {l:List Env} {H H':Hp} {s:Shared} {a:Addr} {cls a0:Value} {h h' B:Heap}
end
def CXD (P:Program) (w:World):CXT:=fun l H s E e s'=>∃ a cls dx H',e= .ref a∧s'.os=s.os∧AllBare s'.gens∧Fly P w l H s H' a cls dx s'.heap∧E cls dx H'
section
variable {X:Cx} {pins:List (Addr×Obj)} {σ:L2.St} {H H':Hp} {s s':Shared} {a:Addr} {cls:Value} {dx:Dx} {M:Model} {Ex:Value→Shared→Prop}
end
end L3
namespace L3
open PySem PySem.Spec PyProof.Rows L2 SeqAt
def spX (K:PySem.W.Frag) (n:Nat) (m:List D→Res D):Sp:=fun vs H Q E=>vs.length=n∧∃ W ds,WL W H∧HasL K W H ds vs∧match m ds with
 | .ok d=>∀ v H',Same H H'→Has K W H' d v→Q v H'
 | .ex c fs=>∀ cls dx H',PySem.W.nsIn K mainGlobals c=some (some cls)→Same H H'→ExF H' dx fs→E cls dx H'
 | .stuck=>False
structure FnX (P:Program) (w:World) (K:PySem.W.Frag) (mg:Str→Option Value) (base:Heap) (k:Nat) (x:Str) (n:Nat) (m:List D→Res D):Prop where
 ex:∃ f fd ps,FnOk P w K mg base (CXD P w) k f fd ps (spX K n m)∧mg x=some (.ref f)∧PySem.W.keepIn K (.ref f)=true∧Binds K fd ps []
theorem FnX.mono {P:Program} {w:World} {K:PySem.W.Frag} {mg:Str→Option Value} {base:Heap} {j k n:Nat} {x:Str} {m:List D→Res D} (F:FnX P w K mg base j x n m) (h:j≤k):FnX P w K mg base k x n m:=by
 obtain ⟨f,fd,ps,a,b⟩:=F.ex
 exact ⟨f,fd,ps,a.mono h,b⟩
structure FnXL (P:Program) (w:World) (K:PySem.W.Frag) (mg:Str→Option Value) (base:Heap) (k:Nat) (x:Str) (n:Nat) (m:List D→Res D) (i:Int):Prop where
 ex:∃ (fa:Addr) (fd:FuncData) (ps:List Str) (v0:Value),FnOk P w K mg base (CXD P w) k fa fd ps (spX K n m)∧mg x=some (.ref fa)∧PySem.W.keepIn K (.ref fa)=true∧Binds K fd ps [v0]∧RelV (.int i) v0
theorem FnXL.mono {P:Program} {w:World} {K:PySem.W.Frag} {mg:Str→Option Value} {base:Heap} {j k n:Nat} {x:Str} {m:List D→Res D} {i:Int} (F:FnXL P w K mg base j x n m i) (h:j≤k):FnXL P w K mg base k x n m i:=
 let ⟨fa,fd,ps,v0,G,hm,hk,hb,hv⟩:=F.ex
 ⟨fa,fd,ps,v0,G.mono h,hm,hk,hb,hv⟩
section
variable {P:Program} {w:World} {K:PySem.W.Frag} {mg:Str→Option Value} {base:Heap}
end
def noexO:Out→Out
 | .ex _ _=> .stuck
 |o=>o
section
variable {X:Cx} {xw:XW} {e a:Expr} {es:List Expr} {f:DSt→Res D} {ga:DSt→Res Bool} {fs:DSt→Res (List D)} {pos p:Pos} {st:Stmt} {sts:List Stmt} {g:DSt→Out}
theorem PS.nox {st:Stmt} {t:TS} (h:PS X.nox st t):PS X st t:=fun pins s σ H D I hw=>
 wpAny_mono (h pins s σ H D (I.wish _) hw) (fun _ _ q=>q.unwish) fun _ _ z=>False.elim z
theorem PA.nox {t:TA} (h:PA X.nox es t):PA X es t:=fun ps pins s σ H Q I hw=>
 wpAny_mono (h ps pins s σ H Q (I.wish _) hw) (fun _ _ ⟨v,H',I',r,q⟩=>⟨v,H',I'.unwish,r,q⟩) fun _ _ z=>False.elim z
def noxS (g:DSt→Out):DSt→Out:=fun δ=>noexO (g δ)
end
abbrev bmV:List Value:= [.type "ValueError", .type "Exception", .type "BaseException", .type "object"]
structure ClsX (K:PySem.W.Frag) (c:Str):Prop where
 ex:∃ C,PySem.W.nsIn K mainGlobals c=some (some (.ref C))∧PySem.W.excIn K C bmV "ValueError.__new__"=true
section
variable {X:Cx} {xw:XW} {a:Expr} {es:List Expr} {fs:DSt→Res (List D)} {pos np cpos:Pos} {c:Str}
end
end L3
namespace L3
open PySem PySem.Spec PyProof.Rows L2 SeqAt
abbrev tryX (X:Cx) (pins:List (Addr×Obj)) (E:Value→Shared→Prop):Cx:= {X with pn:=X.pn++pins,xe:=E}
section
variable {X:Cx} {pins:List (Addr×Obj)} {σ:L2.St} {H H':Hp} {s s':Shared} {a:Addr} {cls:Value} {dx:Dx} {Ex:Value→Shared→Prop}
end
structure MatchX (K:PySem.W.Frag) (C c:Str):Prop where
 ex:∃ vc vC,PySem.W.nsIn K mainGlobals c=some (some vc)∧PySem.W.nsIn K mainGlobals C=some (some vC)∧PySem.W.exmOne K vc vC=some true
section
variable {X:Cx} {pins:List (Addr×Obj)} {σ:L2.St} {H H':Hp} {s s':Shared} {a:Addr} {cls vC:Value} {dx:Dx} {Ex:Value→Shared→Prop} {C n:Str} {np pos:Pos} {b₀:Stmt} {suite:List Stmt} {rest:List ExceptHandler} {Q:Flow→Shared→Prop}
end
end L3
namespace L3
open PySem PySem.Spec PyProof.Rows L2 SeqAt
section
variable {X:Cx} {CX:CXT} {k:Nat} {f:Addr} {fd:FuncData} {ps:List Str} {sp:Sp} {dvs:List V} {ds:List Value} {E:L2.St→XK} {x:Str} {p pos:Pos} {e:Expr} {es:List Expr} {t:TA}
end
structure KindX (X:Cx) (e:Expr) (st:Stmt) (gK:D→DSt→Out):Prop where
 ex:∃ cont:Ends→L2.St→VK,(∀ (pins:List (Addr×Obj)) (Ex:Value→Shared→Prop) (te:TE),PE (tryX X pins Ex) e te→PS (tryX X pins Ex) st (fun Dn σ H=>te σ H (cont Dn σ)))∧
  ∀ (xw:XW) (W₀:WS) (H₀:Hp) (W:WS) (H:Hp) (d:D) (v:V) (σ:L2.St) (δ:DSt) (Dn:Ends),StHas X.K W₀ H₀ W H σ δ→Has X.K W H d v→RS X.K xw W₀ H₀ W H (gK d δ) Dn→cont Dn σ v H
section
variable {X:Cx} {e:Expr} {pos:Pos}
end
section
variable {X:Cx} {xw:XW} {a:Expr} {es:List Expr} {fs:DSt→Res (List D)} {p pos cpos hpos tpos np:Pos} {st b₀:Stmt} {suite orelse:List Stmt} {k nn:Nat} {x C n:Str} {m:List D→Res D} {gK:D→DSt→Out} {go gsu:DSt→Out}
end
end L3
namespace L3
open PySem PySem.Spec PyProof.Rows L2 SeqAt
section
variable {X:Cx} {xw:XW} {a:Expr} {es:List Expr} {fs:DSt→Res (List D)} {p pos cpos hpos tpos np:Pos} {st b₀:Stmt} {suite orelse:List Stmt} {k nn:Nat} {x C n:Str} {m:List D→Res D} {gK:D→DSt→Out} {go gsu:DSt→Out}
end
end L3
namespace L3
open PySem PySem.Spec PySem.Calls PyProof.Rows PySem.W Builtin Builtin.ObjectAttr Builtin.Getset_descriptor
structure ExcK (K:Frag) (C:Addr):Prop where
 ga:findIn K (.ref C) "__getattribute__"=some (some (.builtin "BaseException.__getattribute__"))
 gt:findIn K (.ref C) "__getattr__"=some none
 cl:findIn K (.ref C) "__class__"=some (some (.builtin "object.__class__"))
 ob:mroIn K C (.type "object")=some true
 be:mroIn K C (.type "BaseException")=some true
section
variable {prog:Program} {w:World} {A:Around} {E:Value→Shared→Prop} {h:Heap} {g:Array GenState} {d:Drawn} {t:Nat} {os:OsState} {K:Frag} {a C:Addr} {o:Obj}
end
end L3
namespace L3
open PySem PySem.Spec PyProof.Rows L2 SeqAt
section
variable {X:Cx} {xw:XW} {a:Expr} {es:List Expr} {fa:DSt→Res D} {fs:DSt→Res (List D)} {pos p p2:Pos} {c:Str}
inductive IsC (K:PySem.W.Frag) (mg:Str→Option Value):Str→V→Prop
 |own {c:Str} {C:Addr}:mg c=some (.ref C)→IsC K mg c (.ref C)
 |blt {c:Str} {T:String}:mg c=none→bootBuiltins c=some (.type T)→c≠"__name__"→IsC K mg c (.ty T)
structure XC (X:Cx) (e:Expr) (v:V):Prop where
 h:PE X e (tC v)
structure XCs (X:Cx) (es:List Expr) (vs:List V):Prop where
 h:PA X es (fun _ H Q=>Q vs H)
def valC:V→Value
 | .ref a=> .ref a
 | .ty T=> .type T
 |_=> .none
structure IsiX (K:PySem.W.Frag) (tb:List (Str×Bool)) (vs:List V):Prop where
 cls:∀ v∈vs,(∃ a,v= .ref a)∨∃ T,v= .ty T
 ok:∀ c b,tb.lookup c=some b→∃ C,PySem.W.nsIn K mainGlobals c=some (some (.ref C))∧ExcK K C∧PySem.W.kitAny K (.ref C) (vs.map valC)=some b
end
end L3
namespace L3
open PySem PySem.Spec PyProof.Rows L2 SeqAt
section
variable {X:Cx} {xw:XW} {a b c tg:Expr} {pos p:Pos}
end
def picks {α:Type} (xs:List α) (lo st:Option Int):List α:=(sliceRange (sliceBounds lo none st xs.length).1 (sliceBounds lo none st xs.length).2.1 (sliceBounds lo none st xs.length).2.2).filterMap (xs[·]?)
theorem vals_fm {xs:List V} {us:List Value} (r:Vals xs us):∀ l:List Nat,Vals (l.filterMap (xs[·]?)) (l.filterMap (us[·]?))
 | []=> .nil
 |i::l=>by
  rw [List.filterMap_cons,List.filterMap_cons]
  have g:∀ {xs:List V} {us:List Value},Vals xs us→∀ i:Nat,(xs[i]? =none∧us[i]? =none)∨∃ x u,xs[i]? =some x∧us[i]? =some u∧RelV x u:=by
   intro xs us r
   induction r with
   |nil=>intro i;exact .inl ⟨rfl,rfl⟩
   |cons h r ih=>
    intro i
    cases i with
    |zero=>exact .inr ⟨_,_,rfl,rfl,h⟩
    |succ i=>simpa using ih i
  rcases g r i with ⟨e1,e2⟩|⟨x,u,e1,e2,h⟩
  ·rw [e1,e2];exact vals_fm r l
  ·rw [e1,e2];exact .cons h (vals_fm r l)
theorem hasL_fm {K:PySem.W.Frag} {W:WS} {H:Hp} {ds:List D} {xs:List V} (r:HasL K W H ds xs):∀ l:List Nat,HasL K W H (l.filterMap (ds[·]?)) (l.filterMap (xs[·]?))
 | []=>HasL.nil
 |i::l=>by
  rw [List.filterMap_cons,List.filterMap_cons]
  have g:∀ {ds:List D} {xs:List V},HasL K W H ds xs→∀ i:Nat,(ds[i]? =none∧xs[i]? =none)∨∃ d x,ds[i]? =some d∧xs[i]? =some x∧Has K W H d x:=by
   intro ds
   induction ds with
   |nil=>intro xs r i;rw [HasL] at r;subst r;exact .inl ⟨rfl,rfl⟩
   |cons d ds ih=>
    intro xs r i
    rw [HasL] at r
    obtain ⟨v,r',rfl,hv,hr⟩:=r
    cases i with
    |zero=>exact .inr ⟨_,_,rfl,rfl,hv⟩
    |succ i=>simpa using ih hr i
  rcases g r i with ⟨e1,e2⟩|⟨x,u,e1,e2,h⟩
  ·rw [e1,e2];exact hasL_fm r l
  ·rw [e1,e2];exact HasL.cons h (hasL_fm r l)
section
variable {X:Cx} {xw:XW} {a:Expr} {lo:Option Expr} {st:Expr} {fa:DSt→Res D} {fl fh:DSt→Res (Option Int)} {pos p2:Pos}
def tPick (K:PySem.W.Frag) (te:TE) (tl th:TO):TE:=fun σ H Q=>te σ H fun x H1=>tl σ H1 fun l H2=>th σ H2 fun u H3=>∃ a xs,x= .ref a∧SqL K H3 a xs∧u≠some 0∧∀ p,H3 p=none→Q (.ref p) (upd H3 p (.lst (picks xs l u)))
theorem pe_pick {te:TE} {tl th:TO} (he:PE X a te) (hl:PO X lo tl) (hu:PO X (some st) th):PE X (.Subscript a (.Slice lo none (some st) p2) pos) (tPick X.K te tl th):=by
 intro pins s σ H Q I h
 refine Subscript_ (thn (he pins s σ H _ I h) fun v s1 ⟨x,H1,I1,r1,q1⟩=> ?_)
 refine wpAny_Slice (thn (hl pins s1 σ H1 _ I1 q1) fun vl s2 ⟨l,H2,I2,pl,q2⟩=> ?_)
 rw [evalPart_none]
 refine wpAny_pure (thn (hu pins s2 σ H2 _ I2 q2) fun vu s3 ⟨u,H3,I3,pu,q3⟩=> ?_)
 obtain ⟨b,xs,rfl,sq,h0,q⟩:=q3
 cases (show v=Value.ref b from r1)
 have I4:Inv X pins σ H3 {s3 with heap:=s3.heap.push {cls:= .type "slice",data:= .fields #[vl, .none,vu]}}:=I3.kept (t':=s3.toks) fun b ob q=>Heap.get?_push_of_some _ q
 obtain ⟨its,r,ht,hz⟩:=I4.list sq
 have hlen:=r.length
 show wpAny (model X.prog X.w) X.A (subscriptTail a (.Slice lo none (some st) p2) (.ref b) (.ref s3.heap.objs.size)) (EP X pins σ Q) X.xe {s3 with heap:=s3.heap.push {cls:= .type "slice",data:= .fields #[vl, .none,vu]}}
 refine tail_any (ops:= [.ref b, .ref s3.heap.objs.size]) ht.isList.typeIs slot_list_getitem.lookup ?_ (by with_unfolding_all rfl)
 refine wpAny_getItem_list_slice ht.isList (Heap.IsSliceOf.new ..) pl .none pu h0 ?_ (by rw [List.size_toArray]<;>omega)
 have hsz:=slicePick_size_le its.toArray l none u
 have e:slicePick its.toArray l none u=(picks its l u).toArray:=by
  unfold slicePick picks
  simp
 rw [e] at hsz ⊢
 have rr:Vals (picks xs l u) (picks its l u):=by
  unfold picks
  rw [hlen]
  exact vals_fm r _
 exact ⟨.ref _,_,I4.laid (t':=s3.toks) (o:= .lst (picks xs l u)) (fun b ob q=>Heap.get?_push_of_some _ q) (Nat.le_refl _) ⟨by rw [rr.length];simp at hsz;omega,_,0,rr,Heap.get?_push_size _ rfl⟩,rfl,q _ (I4.hok.fresh (Nat.le_refl _))⟩
def slP (d:D) (lo st:Option Int):Res (List D):=match d with
 | .lst ds=>if st=some 0 then .stuck else .ok (picks ds lo st)
 |_=> .stuck
theorem f_slP (ha:XP X xw a fa) (hl:XO X xw lo fl) (hh:XO X xw (some st) fh):XF X xw (.Subscript a (.Slice lo none (some st) p2) pos) (b3 slP fa fl fh):=
 ⟨PE.weak (pe_pick ha.h hl.h hh.h) fun σ H Q ⟨W₀,H₀,W,δ,st,q⟩=>sl_read (G:=fun H r=>RF X.K xw W H r Q) st (fun _ _ _ q=>q) (fun _ q=>q) (fun _ _ _ k q=>RF.same q k) q fun H2 d v l u k w hv q2=>by
  unfold slP at q2
  split at q2
  ·split at q2
   ·exact q2.elim
   ·rename_i h0
    obtain ⟨a1,xs,e1,sq,r⟩:=hv.lst
    refine ⟨a1,xs,e1,sq,h0,fun p hp=>q2 p _ H2 (Same.refl _) hp ?_⟩
    unfold picks
    rw [r.length]
    exact hasL_fm r _
  ·exact q2.elim⟩
end
end L3
namespace L3
open PySem PySem.Spec PyProof.Rows L2 SeqAt
section
variable {X:Cx} {xw:XW}
def frzL (i:Nat) (δ:DSt):DSt:=match δ[i]? with
 |some (some (.o ds))=>δ.set i (some (.d (.lst ds)))
 |_=>δ
def sFrzL (i:Nat) (g:DSt→Out):DSt→Out:=fun δ=>g (frzL i δ)
end
end L3
namespace L3
open PySem PySem.Spec PyProof.Rows L2 SeqAt
theorem us1 {P:List Value→Prop} (h:∀ a0:Value,P [a0]):∀ us:List Value,us.length=1→P us
 | [a0],_=>h a0
theorem us2 {P:List Value→Prop} (h:∀ a0 a1:Value,P [a0,a1]):∀ us:List Value,us.length=2→P us
 | [a0,a1],_=>h a0 a1
theorem us3 {P:List Value→Prop} (h:∀ a0 a1 a2:Value,P [a0,a1,a2]):∀ us:List Value,us.length=3→P us
 | [a0,a1,a2],_=>h a0 a1 a2
theorem us4 {P:List Value→Prop} (h:∀ a0 a1 a2 a3:Value,P [a0,a1,a2,a3]):∀ us:List Value,us.length=4→P us
 | [a0,a1,a2,a3],_=>h a0 a1 a2 a3
theorem us5 {P:List Value→Prop} (h:∀ a0 a1 a2 a3 a4:Value,P [a0,a1,a2,a3,a4]):∀ us:List Value,us.length=5→P us
 | [a0,a1,a2,a3,a4],_=>h a0 a1 a2 a3 a4
theorem putF_new (f:Str) (v:V):∀ fs:List (Str×V),f∉fs.map (·.1)→putF f v fs=fs++ [(f,v)]
 | [],_=>rfl
 |(g,x)::r,h=>by
  rw [List.map_cons] at h
  have h1:¬ g=f:=fun z=>h (by rw [←z];exact List.mem_cons_self)
  have h2:f∉r.map (·.1):=fun z=>h (List.mem_cons_of_mem _ z)
  show (if g=f then (g,v)::r else (g,x)::putF f v r)=_
  rw [if_neg h1,putF_new f v r h2];rfl
section
variable {K:PySem.W.Frag} {W₀ W:WS} {H₀ H H':Hp} {σ:L2.St} {δ:DSt}
theorem StHas.poke {C dx x:Addr} {fl fl':List (Str×V)} (h:StHas K W₀ H₀ W H σ δ) (hW:W x) (h0:H₀ x=none) (hx:H x=some (.ins C dx fl)):StHas K W₀ H₀ W (upd H x (.ins C dx fl')) σ δ:=by
 have kk:Keep W H (upd H x (.ins C dx fl')):=fun b o e n=>by rw [upd_ne (fun z=>n (by rw [z];exact hW))];exact e
 have hw:∀ b,W b→W b∨H b=none:=fun b z=> .inl z
 have bk:∀ (j:Nat) (s:S) (v:V) (b:Addr),δ[j]? =some (some s)→σ[j]? =some (some v)→Owns (upd H x (.ins C dx fl')) s v b→Owns H s v b:=fun j s v b e e' o=>by
  obtain ⟨v',h1,h2⟩:=h.at' j s e
  rw [e'] at h1;cases h1
  refine Owns.back h2 (fun c xs ec z=> ?_) o
  rw [upd_ne (fun y=>by rw [y,hx] at z;cases z)];exact z
 refine ⟨⟨fun b o e=>by rw [upd_ne (ne_of_none e h0)];exact h.fr.ext _ _ e,h.fr.sub,fun b z=> ?_,h.fr.wl0⟩,h.len,fun i s e=> ?_,fun i j s t u v b ij e1 e2 e3 e4 o1 o2=>h.ap i j s t u v b ij e1 e2 e3 e4 (bk i s u b e1 e3 o1) (bk j t v b e2 e4 o2)⟩
 ·by_cases hb:b=x
  ·rw [hb];exact ⟨_,upd_same,trivial⟩
  ·rw [upd_ne hb];exact h.fr.wl b z
 ·obtain ⟨v,h1,h2⟩:=h.at' i s e
  refine ⟨v,h1,?_⟩
  cases s with
  |d y=>exact Has.keep kk h.fr.wl hw h2
  |o ds=>
   obtain ⟨a,xs,e,g1,g2,g3,g4⟩:=h2
   have hb:a≠x:=fun z=>by rw [z,hx] at g3;cases g3
   exact ⟨a,xs,e,g1,g2,by rw [upd_ne hb];exact g3,HasL.keep kk h.fr.wl hw g4⟩
  |q ks ds=>
   obtain ⟨a,xs,e,g1,g2,g3,g4,g5⟩:=h2
   have hb:a≠x:=fun z=>by rw [z,hx] at g3;cases g3
   exact ⟨a,xs,e,g1,g2,by rw [upd_ne hb];exact g3,g4,HasL.keep kk h.fr.wl hw g5⟩
  |w dss=>
   obtain ⟨a,bs,e,g1,g2,g3,g4,g5,g6,g7⟩:=h2
   have hb:a≠x:=fun z=>by rw [z,hx] at g3;cases g3
   refine ⟨a,bs,e,g1,g2,by rw [upd_ne hb];exact g3,g4,g5,g6,fun i c ds e1 e2=> ?_⟩
   obtain ⟨f1,f2,xs',f3,f4⟩:=g7 i c ds e1 e2
   have hc:c≠x:=fun z=>by rw [z,hx] at f3;cases f3
   exact ⟨f1,f2,xs',by rw [upd_ne hc];exact f3,HasL.keep kk h.fr.wl hw f4⟩
theorem StHas.born {C dx x:Addr} (h:StHas K W₀ H₀ W H σ δ) (hx:H x=none) (hd:H dx=none) (ne:dx≠x):
  StHas K W₀ H₀ (fun b=>W b∨b=x) (upd (upd H dx (.own x)) x (.ins C dx [])) σ δ:=by
 have sm:Same H (upd (upd H dx (.own x)) x (.ins C dx [])):=fun b o e=>by rw [upd_ne (ne_of_none e hx),upd_ne (ne_of_none e hd)];exact e
 have hw:∀ b,(W b∨b=x)→W b∨H b=none:=fun b z=>z.elim .inl fun z=> .inr (by rw [z];exact hx)
 refine ⟨⟨h.fr.ext.trans sm,fun b z=> .inl (h.fr.sub b z),fun b z=> ?_,h.fr.wl0⟩,h.len,fun i s e=> ?_,(h.same sm).ap⟩
 ·rcases z with z|z
  ·exact h.fr.wl.same sm b z
  ·rw [z];exact ⟨_,upd_same,trivial⟩
 ·obtain ⟨v,h1,h2⟩:=h.at' i s e
  exact ⟨v,h1,h2.mv h.fr.wl (Same.keep sm) hw fun b o _ h1' _ h3' _=>⟨.inl h1',sm _ _ h3'⟩⟩
theorem StHas.front {v:Option V} (h:StHas K W₀ H₀ W H σ δ):StHas K W₀ H₀ W H (v::σ) (none::δ):=by
 refine ⟨h.fr,by simp [h.len],fun i s e=> ?_,fun i j s t u v' a hij e1 e2 e3 e4 os ot=> ?_⟩
 ·cases i with
  |zero=>cases e
  |succ i=>exact h.at' i s e
 ·cases i with
  |zero=>cases e1
  |succ i=>
   cases j with
   |zero=>cases e2
   |succ j=>exact h.ap i j s t u v' a (fun z=>hij (by rw [z])) e1 e2 e3 e4 os ot
end
def fldsR:List (Str×(DSt→Res D))→DSt→Res (List D)
 | [],_=> .ok []
 |p::r,δ=>(p.2 δ).bind fun d=>(fldsR r δ).bind fun ds=> .ok (d::ds)
def makeR (n:Nat) (c:Str) (fs:List (Str×(DSt→Res D))) (ds:List D):Res D:=(fldsR fs (none::startD n ds)).bind fun es=> .ok (.obj c (fs.map (·.1)) es)
def RI (K:PySem.W.Frag) (W₀:WS) (H₀:Hp) (W:WS) (δ:DSt) (σ:L2.St) (C dx x:Addr) (ks:List Str) (ds:List D) (r:Res (List D)) (Dn:Ends):Prop:=match r with
 | .ok es=>∀ H' fl',StHas K W₀ H₀ W H' σ δ→H' x=some (.ins C dx fl')→fl'.map (·.1)=ks→HasL K W H' (ds++es) (fl'.map (·.2))→Dn.nx σ H'
 |_=>False
def tInit (K:PySem.W.Frag) (C:Addr) (fs:List (Str×(DSt→Res D))):TS:=fun Dn σ H=>∃ W₀ H₀ W δ x dx fl ds,StHas K W₀ H₀ W H σ δ∧σ[0]? =some (some (.ref x))∧W x∧H₀ x=none∧H x=some (.ins C dx fl)∧
 HasL K W H ds (fl.map (·.2))∧(fl.map (·.1)++fs.map (·.1)).Nodup∧fl.length+fs.length<1000∧RI K W₀ H₀ W δ σ C dx x (fl.map (·.1)++fs.map (·.1)) ds (fldsR fs δ) Dn
structure XIn (X:Cx) (C:Addr) (sts:List Stmt) (fs:List (Str×(DSt→Res D))):Prop where
 h:PSs X sts (tInit X.K C fs)
section
variable {X:Cx} {xw:XW} {C:Addr} {e a:Expr} {es:List Expr} {f fa fb:DSt→Res D} {fs:List (Str×(DSt→Res D))} {sts:List Stmt} {pos p p1 p2 p3:Pos} {fld c:Str}
theorem in_nil:XIn X C [] []:=⟨PSs.weak pss_nil fun Dn σ H ⟨W₀,H₀,W,δ,x,dx,fl,ds,st,_,_,_,hx,hds,_,_,q⟩=>q H fl st hx (by simp) (by rw [List.append_nil];exact hds)⟩
theorem in_cons (cl:Cls X.K C) (hn:NoAttr X.K C fld) (he:XE X xwF e f) (hr:XIn X C sts fs) {self:Str} (hN:X.N[0]? =some self:=by rfl) (hv:Vis X.env.scope self:=by first|exact Or.inl rfl|exact Or.inr (Or.inl rfl)|exact Or.inr (Or.inr rfl))
  (hd:(self==("__debug__":Str))=false:=by decide) (hcd:(self==("__classdict__":Str))=false:=by decide) (hs:swapsWith e (some (.Attribute (.Name self p1) fld p2)) pos.line X.env=pure false:=by rfl):
  XIn X C (.Assign [.Attribute (.Name self p1) fld p2] e pos::sts) ((fld,f)::fs):=⟨by
 refine PSs.weak (pss_cons (ps_fld (pe_var hN hv hd hcd) he.h hs) hr.h) fun Dn σ H ⟨W₀,H₀,W,δ,x,dx,fl,ds,st,e0,hW,h0,hx,hds,nd,ln,q⟩=> ?_
 rw [List.length_cons] at ln
 show tDE X.K xwF f σ H _
 refine ⟨W₀,H₀,W,δ,st,?_⟩
 have eq1:fldsR ((fld,f)::fs) δ=(f δ).bind fun d=>(fldsR fs δ).bind fun ds=> .ok (d::ds):=rfl
 rw [eq1] at q
 cases h1:f δ with
 |stuck=>rw [h1] at q;exact q.elim
 |ex c fs=>rw [h1] at q;exact q.elim
 |ok d=>
  rw [h1] at q
  intro v H1 k hv
  have hx1:=k _ _ hx
  have st1:=st.same k
  refine ⟨.ref x,e0,x,C,dx,fl,rfl,hx1,cl,hn,by omega,?_⟩
  have hf:fld∉fl.map (·.1):=fun z=>by
   rw [List.map_cons,List.nodup_append] at nd
   exact nd.2.2 _ z _ List.mem_cons_self rfl
  rw [putF_new _ _ _ hf]
  have kk:Keep W H1 (upd H1 x (.ins C dx (fl++ [(fld,v)]))):=fun b o e n=>by rw [upd_ne (fun z=>n (by rw [z];exact hW))];exact e
  have ek:(fl++ [(fld,v)]).map (·.1)++fs.map (·.1)=fl.map (·.1)++((fld,f)::fs).map (·.1):=by simp
  refine ⟨W₀,H₀,W,δ,x,dx,fl++ [(fld,v)],ds++ [d],st1.poke hW h0 hx1,e0,hW,h0,upd_same,?_,by rw [ek];exact nd,by rw [List.length_append,List.length_singleton];omega,?_⟩
  ·rw [List.map_append]
   exact HasL.keep kk st1.fr.wl (fun b z=> .inl z) ((hds.same k st.fr.wl).snoc hv)
  ·rw [ek]
   cases h2:fldsR fs δ with
   |stuck=>rw [h2] at q;exact q.elim
   |ex c gs=>rw [h2] at q;exact q.elim
   |ok es=>
    rw [h2] at q
    intro H' fl' g1 g2 g3 g4
    rw [List.append_assoc] at g4
    exact q H' fl' g1 g2 g3 g4⟩
end
def spI (K:PySem.W.Frag) (C:Addr) (n:Nat) (nl:Nat) (c:Str) (fs:List (Str×(DSt→Res D))):Sp:=fun vs H Q _=>∃ x dx vs' H1 W ds,vs=V.ref x::vs'∧vs'.length=n∧H=upd (upd H1 dx (.own x)) x (.ins C dx [])∧H1 x=none∧H1 dx=none∧dx≠x∧
 WL W H1∧HasL K W H1 ds vs'∧match fldsR fs (none::startD nl ds) with
  | .ok es=>∀ H' fl,Same H1 H'→H' x=some (.ins C dx fl)→fl.map (·.1)=fs.map (·.1)→HasL K W H' es (fl.map (·.2))→Q .non H'
  |_=>False
structure FnI (P:Program) (w:World) (K:PySem.W.Frag) (mg:Str→Option Value) (base:Heap) (k:Nat) (c:Str) (n nl:Nat) (fs:List (Str×(DSt→Res D))):Prop where
 ex:∃ j C f fd ps,j+1≤k∧FnOk P w K mg base CX0 j f fd ps (spI K C n nl c fs)∧Mk K C f∧mg c=some (.ref C)∧PySem.W.nsIn K mainGlobals c=some (some (.ref C))∧Binds K fd ps []
theorem FnI.mono {P:Program} {w:World} {K:PySem.W.Frag} {mg:Str→Option Value} {base:Heap} {j k n nl:Nat} {c:Str} {fs:List (Str×(DSt→Res D))} (F:FnI P w K mg base j c n nl fs) (h:j≤k):FnI P w K mg base k c n nl fs:=by
 obtain ⟨i,C,f,fd,ps,a,b⟩:=F.ex
 exact ⟨i,C,f,fd,ps,Nat.le_trans a h,b⟩
theorem fn_init {P:Program} {w:World} {K:PySem.W.Frag} {mg:Str→Option Value} {base:Heap} {k n nl:Nat} {c qual:Str} {st:Stmt} {C fa:Addr} {fd:FuncData} {N ps:List Str} {fs:List (Str×(DSt→Res D))} (F:Fun K "__init__" qual st fa fd) (S:FnScope N ps (defScope st))
  (M:Mk K C fa) (hm:mg c=some (.ref C)) (hc:PySem.W.nsIn K mainGlobals c=some (some (.ref C))) (hb:Binds K fd ps [])
  (body:∀ (cdv:Value) (A:Around) (outer:List Env) (s:Shared) (H:Hp) (E:XK),Room k (A.deeper (envOfC qual (defScope st) s.heap.objs.size fa cdv))→
   XIn (cxOf CX0 P w K mg base N qual (defScope st) fa cdv A outer s H E).nox C (defBody st) fs) (hps:ps.length=n+1:=by rfl) (hN:N.length=nl+1:=by rfl) (hnd:(fs.map (·.1)).Nodup:=by decide +kernel) (hl:fs.length<1000:=by decide):FnI P w K mg base (k+1+1) c n nl fs:=by
 refine ⟨k+1,C,fa,fd,ps,Nat.le_refl _,F.ok S (fun vs H Q E h=> ?_) (fun cdv A outer s H vs Q E hr h=> ?_),M,hm,hc,hb⟩
 ·obtain ⟨x,dx,vs',H1,W,ds,rfl,h1,_⟩:=h
  rw [List.length_cons,h1,hps]
 ·obtain ⟨x,dx,vs',H1,W,ds,rfl,h1,rfl,hx,hdx,ne,wl,hd,q⟩:=h
  have s0:=start_has (N:=List.replicate nl ("":Str)) wl hd
  rw [List.length_replicate] at s0
  have es:L2.start N (V.ref x::vs')=some (V.ref x)::L2.start (List.replicate nl ("":Str)) vs':=by
   unfold L2.start
   rw [List.length_replicate,hN,List.length_cons,List.map_cons,List.cons_append,Nat.add_sub_add_right]
  refine ⟨_,(body cdv A outer s _ E hr).h,W,H1,(fun b=>W b∨b=x),none::startD nl ds,x,dx,[],[],?_,by rw [es];rfl, .inr rfl,hx,upd_same,HasL.nil,by simpa using hnd,by simpa using hl,?_⟩
  ·rw [es]
   exact (s0.born hx hdx ne).front
  ·cases h2:fldsR fs (none::startD nl ds) with
   |stuck=>rw [h2] at q;exact q.elim
   |ex c gs=>rw [h2] at q;exact q.elim
   |ok es=>
    rw [h2] at q
    exact fun H' fl' st' g2 g3 g4=>q H' fl' st'.fr.ext g2 (by simpa using g3) (HasL.keep (fun _ _ e _=>e) st'.fr.wl (fun b z=> .inl (.inl z)) (show HasL K (fun b=>W b∨b=x) H' es (fl'.map (·.2)) from g4))
section
variable {X:Cx} {xw:XW} {e a b:Expr} {es:List Expr} {f fa fb:DSt→Res D} {gs:DSt→Res (List D)} {fs:List (Str×(DSt→Res D))} {pos p p1 p2 p3:Pos} {fld c:Str}
theorem x_make {k n nl:Nat} (F:FnI X.prog X.w X.K X.mg X.base k c n nl fs) (hr:Room k X.A) (ha:XA X xw (a::es) gs) (hg:Gl X c:=by rfl)
  (hdb:(c==("__debug__":Str))=false:=by decide) (he:starEach (a::es) X.env=(false,eval a X.env)::starEach es X.env:=by rfl) (hpl:(backTo pos (starEach es X.env)).any (·.1)=false:=by rfl):
  XE X xw (.Call (.Name c p) (a::es) [] pos) (b1 (callR n (makeR nl c fs)) gs):=⟨by
 obtain ⟨j,C,fi,fd,ps,hj,G,M,hm,hn,hb⟩:=F.ex
 refine PE.weak (pe_make M G (hr.mono hj) hg hm hb .nil pass0 ha.h hdb he hpl) fun σ H Q ⟨W₀,H₀,W,δ,st,q⟩=> ?_
 refine args_read st q fun H2 ds vs k w st2 hv _ q2=> ?_
 unfold callR at q2
 split at q2
 ·rename_i hl
  intro x dx hx hdx ne
  rw [List.append_nil]
  refine ⟨x,dx,vs,H2,W,ds,rfl,by rw [←hv.length];exact hl,rfl,hx,hdx,ne,w,hv,?_⟩
  unfold makeR at q2
  cases h:fldsR fs (none::startD nl ds) with
  |stuck=>rw [h] at q2;exact q2.elim
  |ex c gs=>rw [h] at q2;exact q2.elim
  |ok es=>
   rw [h] at q2
   exact fun H' fl k' g1 g2 g3=>⟨rfl,q2 _ _ k' (by
    rw [Has]
    exact ⟨x,C,dx,fl,rfl,hn,g1,(fun z=>by obtain ⟨o,e,_⟩:=w x z;rw [hx] at e;cases e),g2,g3⟩)⟩
 ·exact q2.elim⟩
def fldR (c fld:Str):D→Res D
 | .obj c' ks ds=>if c'=c then (match (ks.zip ds).lookup fld with|some d=> .ok d|none=> .stuck) else .stuck
 |_=> .stuck
structure FldK (K:PySem.W.Frag) (c fld:Str):Prop where
 ex:∃ C,PySem.W.nsIn K mainGlobals c=some (some (.ref C))∧Cls K C∧NoAttr K C fld
theorem fld_get {K:PySem.W.Frag} {W:WS} {H:Hp} {g:Str} {d:D}:∀ {fl:List (Str×V)} {ds:List D},HasL K W H ds (fl.map (·.2))→((fl.map (·.1)).zip ds).lookup g=some d→∃ v,fl.lookup g=some v∧Has K W H d v
 | [],ds,_,e=>by simp at e
 |(k,v)::r,[],h,e=>by simp at e
 |(k,v)::r,d'::ds,h,e=>by
  rw [HasL] at h
  obtain ⟨x,r',e1,h1,h2⟩:=h
  rw [List.map_cons] at e1
  cases e1
  rw [List.map_cons,List.zip_cons_cons,List.lookup_cons] at e
  rw [List.lookup_cons]
  cases hk:g==k with
  |true=>rw [hk] at e;cases e;exact ⟨_,rfl,h1⟩
  |false=>rw [hk] at e;exact fld_get h2 e
theorem x_fld (T:FldK X.K c fld) (he:XE X xw e f) (hb:attributeBase e fld X.env (eval e X.env)=eval e X.env:=by rfl):XE X xw (.Attribute e fld pos) (b1 (fldR c fld) f):=
 ⟨PE.weak (pe_fld he.h hb) fun σ H Q ⟨W₀,H₀,W,δ,st,q⟩=>one_readE st q fun H2 d v k w st2 hv _ q2=>by
  unfold fldR at q2
  cases d with
  |obj c' ks ds=>
   dsimp only at q2
   split at q2
   ·rename_i hc
    subst hc
    split at q2
    ·rename_i d' hd
     rw [Has] at hv
     obtain ⟨ar,C,dx,fl,rfl,hn,hH,_,rfl,hL⟩:=hv
     obtain ⟨C',hn',cl,na⟩:=T.ex
     rw [hn] at hn'
     cases hn'
     obtain ⟨u,hu,hh⟩:=fld_get hL hd
     exact ⟨ar,C,dx,fl,u,rfl,hH,cl,na,hu,q2 u H2 (Same.refl _) hh⟩
    ·exact q2.elim
   ·exact q2.elim
  |_=>exact q2.elim⟩
def EntT (w:World) (e:DictEntry) (p:Str×Str):Prop:=e.hash=keyH w (.inr p.1)∧(∃ t,e.key= .str p.1 t)∧∃ t,e.val= .str p.2 t
structure GlobQ (w:World) (K:PySem.W.Frag) (mg:Str→Option Value) (x:Str) (l:List (Str×Str)):Prop where
 h:∃ (ad:Addr) (o:Obj) (es:Array DictEntry) (n:Nat),mg x=some (.ref ad)∧K.lookup ad=some o∧o.ExactDict∧o.data= .dict es n∧Paired (EntT w) es.toList l∧(l.map (·.1)).Nodup
end
end L3
namespace L3
open PySem PySem.Spec PyProof.Rows L2 SeqAt
section
variable {X:Cx} {xw:XW} {e a b:Expr} {f fa fb:DSt→Res D} {pos pos' p p1 p2 p3:Pos}
theorem list_extendW (l b:Addr) (xs ys:Array Value) (n m:Nat) (sl:Array (Option Value)) (g0:¬(!xs.isEmpty&&Builtin.List.listTooLong (xs.size+ys.size))=true) (g1:xs.size≤sizeLine) (g2:xs.size+ys.size≤sizeLine+1):
  Meets (Builtin.«list.extend» ⟨[.ref l, .ref b],[]⟩) (fun _ R s=>s.heap.get? l=some {cls:= .type "list",data:= .seq xs n}∧s.heap.get? b=some {cls:= .type "list",data:= .seq ys m,slots:=sl}∧
   R (.ok (.ret .none)) {s with heap:=s.heap.update l (Obj.mapSeq (· ++ys))}):=
 .of_wp fun _ _ _ _ s h=>by
  obtain ⟨h0,h1,h2,h3,h4⟩:=s
  obtain ⟨el,eb,r⟩:=h
  have g3:(xs++ys).size≤sizeLine+1:=by rw [Array.size_append];exact g2
  wp_walk using (wpAny_updateSeq el rfl (hz:=g1) (_hz':=g3)),wpAny_loadPart' el,wpAny_loadPart' eb
  exact ⟨_,rfl,r⟩
def rExtS (K:PySem.W.Frag):V→List V→Hp→VK→Prop:=fun x vs H Q=>∃ l b xs zs,x= .ref l∧vs= [.ref b]∧H l=some (.lst xs)∧SqL K H b zs∧xs.length+zs.length≤sizeLine∧Q .non (upd H l (.lst (xs++zs)))
theorem mt_extS:MtR X "list.extend" (rExtS X.K):=by
 intro pins s σ H x vs v us Q I rx rv h
 obtain ⟨l,b,xs,zs,rfl,rfl,hH,hB,hz,q⟩:=h
 cases rx
 obtain ⟨u,rfl,ru⟩:=rv.one
 cases ru
 obtain ⟨z,its,n,r,hl,e⟩:=I.lstM hH
 obtain ⟨its2,r2,⟨⟨cls2,dd2,data2,sl2⟩,n2,e2,hc2,hd2,hs2⟩,hz2⟩:=I.list hB
 simp only at hc2 hd2 hs2
 subst hc2 hd2 hs2
 have k1:=r.length
 have k2:=r2.length
 have hsz:its.toArray.size+its2.toArray.size≤sizeLine:=by rw [List.size_toArray,List.size_toArray];omega
 have hlong:¬ (!its.toArray.isEmpty&&Builtin.List.listTooLong (its.toArray.size+its2.toArray.size))=true:=by rw [notLongL hsz,Bool.and_false];exact Bool.false_ne_true
 refine call_meets F.slot_list_extend ⟨_,e,rfl⟩ F.entry_list_extend (F.args_list_extend_2 _ _) (list_extendW l b its.toArray its2.toArray n n2 sl2 hlong (by rw [List.size_toArray];omega) (by omega)) ⟨e,e2,?_⟩
 refine ⟨.non,_,I.lset (its':=its++its2) hH e (by simp) (r.append r2) ?_,rfl,q⟩
 rw [List.length_append]
 omega
noncomputable def extDO (i:Nat) (δ:DSt) (r:Res D):Out:=match δ[i]? with
 |some (some (.o ds))=>ofR r fun x=>match x with
  | .lst es=>@ite Out (ds.length+es.length≤100000) (Classical.propDecidable _) (.nx (δ.set i (some (.o (ds++es))))) .stuck
  |_=> .stuck
 |_=> .stuck
noncomputable def sExtD (i:Nat) (f:DSt→Res D):DSt→Out:=fun δ=>extDO i δ (f δ)
theorem s_extD (i:Nat) {x:Str} (he:XE X xw e f) (hN:X.N[i]? =some x:=by rfl) (hv:Vis X.env.scope x:=by first|exact Or.inl rfl|exact Or.inr (Or.inl rfl)|exact Or.inr (Or.inr rfl)) (hd:(x==("__debug__":Str))=false:=by decide)
  (hcd:(x==("__classdict__":Str))=false:=by decide)
  (hsE:starEach [e] X.env=(false,eval e X.env)::starEach [] X.env:=by rfl)
  (hbase:attributeBase (.Name x p1) "extend" X.env (eval (.Name x p1) X.env)=eval (.Name x p1) X.env:=by rfl)
  (hfew:((backTo p3 (starEach [e] X.env)).all (fun x=> !x.1)&&(backToKw p3 (keywordEach [] X.env)).all (fun x=>x.1.isSome)
   &&decide (([e]:List Expr).length+([]:List Keyword).length+(if ([]:List Keyword).isEmpty then 0 else 1)<30))=true:=by rfl)
  (hline:(p2.endLine==p3.line)=true:=by rfl) (hplain:(backTo p3 (starEach [] X.env)).any (·.1)=false:=by rfl)
  (hsw:swapsWith (.Call (.Attribute (.Name x p1) "extend" p2) [e] [] p3) none pos.line X.env=pure false:=by rfl):
  XS X xw (.Expr (.Call (.Attribute (.Name x p1) "extend" p2) [e] [] p3) pos) (sExtD i f):=⟨
 PS.weak (ps_expr (pe_bm PySem.F.plainAttrs_list PySem.F.slot_list_extend PySem.F.type_list_extend mt_extS (pe_var hN hv hd hcd) (pa_cons he.h pa_nil hsE) hbase hfew hline hsE hplain) hsw) fun Dn σ H h=>by
  obtain ⟨W₀,H₀,W,δ,st,q⟩:=h
  unfold sExtD extDO at q
  split at q
  ·rename_i ds h
   obtain ⟨v,e1,a,xs,rfl,r2,r3,r4,r5⟩:=st.at' i _ h
   refine ⟨_,e1, .inl ⟨rfl,xs, .of r4⟩,?_⟩
   refine val_read st q fun H2 d u st2 hu q2=> ?_
   cases d with
   |lst es=>
    dsimp only at q2
    split at q2
    ·rename_i hlen
     obtain ⟨v',e1',a',ys,e',r2',r3',r4',r5'⟩:=st2.at' i _ h
     rw [e1] at e1'
     cases e1'
     cases e'
     rw [Has] at hu
     obtain ⟨b,zs,rfl,lr,hz⟩:=hu
     have sz:sizeLine=16777216:=sizeLine_eq
     refine ⟨a,b,ys,zs,rfl,rfl,r4',lr.sq,?_,?_⟩
     ·have:=r5'.length;have:=hz.length;omega
     ·refine q2 W _ σ ⟨fun c o e n=> ?_,fun _ z=> .inl z⟩ (st2.change h e1 r4' r2' (r5'.append hz))
      rw [upd_ne (fun z=>n (by rw [z];exact r2'))];exact e
    ·exact q2.elim
   |_=>exact q2.elim
  ·exact q.elim⟩
end
end L3
namespace L3
open PySem PySem.Spec PyProof.Rows L2 SeqAt
section
variable {X:Cx} {xw:XW} {e:Expr} {ff:DSt→Res (List D)} {pos:Pos}
def sRetF (ff:DSt→Res (List D)):DSt→Out:=fun δ=>ofR (ff δ) fun ds=> .rt (.lst ds)
theorem so_retF (he:XF X xw e ff):XSO X xw [.Return (some e) pos] (sRetF ff):=⟨PSs.weak (pss_one (ps_ret he.h)) fun Dn σ H h=>by
 obtain ⟨W₀,H₀,W,δ,st,q⟩:=h
 unfold sRetF at q
 refine ⟨W₀,H₀,W,δ,st,?_⟩
 cases h1:ff δ with
 |stuck=>rw [h1] at q;exact q
 |ex c fs=>rw [h1] at q;exact fun H' k'=>q H' (st.fr.ext.trans k')
 |ok ds=>
  rw [h1] at q
  intro a xs H1 k n r
  have sm:Same H1 (upd H1 a (.lst xs)):=fun c o e=>by rw [upd_ne (ne_of_none e n)];exact e
  refine q a xs _ ((st.fr.ext.trans k).trans sm) (Same.free (st.fr.ext.trans k) n) upd_same (HasL.keep (Same.keep sm) (st.same k).fr.wl (fun b z=> ?_) r)
  rcases z with z|z
  ·exact .inl (st.fr.sub b z)
  ·exact .inr (by rw [z];exact n)⟩
end
end L3
namespace L3
open PySem PySem.Spec PyProof.Rows L2 SeqAt
section
variable {X:Cx} {xw:XW} {a b:Expr} {fa fb:DSt→Res D} {pos:Pos}
end
end L3
namespace L2
open PySem PySem.Spec PyProof.Rows
variable {X:Cx} {pos:Pos}
end L2
namespace L3
open PySem PySem.Spec PyProof.Rows L2 SeqAt
variable {X:Cx} {pos:Pos} {tgs:List Expr} {ts:List D→DSt→Res DSt}
end L3
namespace PySem
open Sem (wp)
section
variable {prog:Program} {w:World} {A:Around} {E:Value→Shared→Prop} {h:Heap} {g:Array GenState} {d:Drawn} {t:Nat} {os:OsState}
variable {nm q:Str} {C N f:Addr} {bs bm bmB:List Value} {hdct:Bool} {sn:List Str} {sub:List Value} {ab:Bool} {col:Option Bool} {dd:Option Addr} {k0 k1 k2 k3 k5:Option Value} {B newId initId:String}
end
end PySem
namespace PySem
open Sem (wp)
open Builtin Builtin.ObjectAttr W
section
variable {prog:Program} {w:World} {A:Around} {E:Value→Shared→Prop} {h:Heap} {g:Array GenState} {d:Drawn} {t:Nat} {os:OsState} {K:Frag}
variable {nm q:Str} {C N e:Addr} {bs bm bmB:List Value} {hdct:Bool} {sn:List Str} {sub:List Value} {ab:Bool} {col:Option Bool} {dd:Option Addr} {k0 k1 k2 k3 k5:Option Value} {newId:String}
abbrev vTail:List Value:= [.type "ValueError", .type "Exception", .type "BaseException", .type "object"]
def overV:Nat→List Value→Bool
 |0,l=>l==vTail
 |n+1, .ref _::r=>overV n r
 |_+1,_=>false
end
end PySem
namespace PySem
open Sem (wp)
open W
section
variable {prog:Program} {w:World} {A:Around} {E:Value→Shared→Prop} {h:Heap} {g:Array GenState} {d:Drawn} {t:Nat} {os:OsState}
variable {nm q:Str} {C N e:Addr} {bs bm bmB:List Value} {hdct:Bool} {sn:List Str} {sub:List Value} {ab:Bool} {col:Option Bool} {dd:Option Addr} {k0 k1 k2 k3 k5:Option Value} {B newId initId:String}
end
end PySem
namespace L2
open PySem PySem.Spec PyProof.Rows
def ExcN (a C:Addr) (h:Heap):Prop:=∃ t0 sl,h.get? a=some ⟨.ref C,none, .fields #[.ref t0, .none, .none, .none, .bool false, .none],sl⟩
def ExcO (a C:Addr) (dx:Option Addr) (h:Heap):Prop:=∃ t0 sl,h.get? a=some ⟨.ref C,dx, .fields #[.ref t0, .none, .none, .none, .bool false, .none],sl⟩
structure XInit (K:PySem.W.Frag) (C S f:Addr):Prop where
 obj:∃ nm q N bs bm hdct sn sub ab col dd k0 k1 k2 k3 k5,K.lookup C=some (excClassObj nm q C N bs bm hdct sn sub ab col dd k0 k1 k2 k3 k5 "ValueError.__new__")∧PySem.W.nsOkIn K N=true∧
  PySem.W.nsIn K N "__init__"=some (some (.ref f))∧PySem.W.tailIn K vTail bm=true
 ini:PySem.W.typeIn K (.ref f)=some (.type "function")
 kpC:PySem.W.keepIn K (.ref C)=true
 sa:PySem.W.findIn K (.ref C) "__setattr__"=some (some (.builtin "object.__setattr__"))
 ob:PySem.W.mroIn K C (.type "object")=some true
 cl:∃ cd n,PySem.W.clsIn K C=some cd∧overV n cd.mro=true∧cd.hasDict=true
 bga:PySem.W.specialIn K (.ref S) "__getattribute__"=some (some (.builtin "type.__getattribute__"))
 brd:PySem.W.readsIn K S (.type "type")=true
 bfi:PySem.W.findCls K (.ref S) (.type "type") "__init__"=some (.val (.builtin "ValueError.__init__"))
section
variable {X:Cx} {pos p apos p2:Pos} {a b o e:Expr} {es:List Expr} {ta tb to:TE} {t:TA} {C S f:Addr}
end
end L2
namespace L3
open PySem PySem.Spec PyProof.Rows L2 SeqAt
def spE (C:Addr) (attr:Str):Sp:=fun vs H Q _=>∃ a i,vs= [.ref a, .int i]∧i.natAbs.log2<1920∧(toString i:Str).length≤1000∧H a=some (.ext (ExcN a C))∧∀ d,H d=none→Q .non (upd (upd H a (.ext (ExcO a C (some d)))) d (.xd [(attr, .int i)]))
structure XInE (X:Cx) (C:Addr) (attr:Str) (sts:List Stmt):Prop where
 h:PSs X sts (fun D σ H=>∃ a i,σ[0]? =some (some (.ref a))∧σ[1]? =some (some (.int i))∧i.natAbs.log2<1920∧(toString i:Str).length≤1000∧H a=some (.ext (ExcN a C))∧∀ d,H d=none→D.nx σ (upd (upd H a (.ext (ExcO a C (some d)))) d (.xd [(attr, .int i)])))
section
variable {X:Cx} {C S f:Addr} {xb self x attr c0:Str} {p1 p2 p3 p4 p5 p6 p7 p8 p9 q1 q2 q3 q4:Pos} {j:Nat}
end
end L3
namespace L3
open PySem PySem.Spec PyProof.Rows L2 SeqAt
section
variable {X:Cx} {pins:List (Addr×Obj)} {σ:L2.St} {H:Hp} {s:Shared} {a C:Addr} {dx:Option Addr} {M:Model} {Ex:Value→Shared→Prop}
end
end L3
namespace PySem
open Sem (wp)
section
variable {M:Model} {A:Around} {E:Value→Shared→Prop} {s:Shared} {env:Env}
variable {nm q:Str} {C N:Addr} {bs bm:List Value} {hdct:Bool} {sn:List Str} {sub:List Value} {ab:Bool} {col:Option Bool} {dd:Option Addr} {k0 k1 k2 k3 k5:Option Value} {newId:String}
end
end PySem
namespace L2
open PySem PySem.Spec PyProof.Rows
section
variable {X:Cx} {C S f:Addr} {fd:FuncData} {ps:List Str} {sp:Sp} {k:Nat} {x:Str} {p pos:Pos} {e:Expr} {es:List Expr} {t:TA}
end
end L2
namespace L3
open PySem PySem.Spec PyProof.Rows L2 SeqAt
structure FnE (P:Program) (w:World) (K:PySem.W.Frag) (mg:Str→Option Value) (base:Heap) (k:Nat) (c attr:Str):Prop where
 ex:∃ j C S f fd ps,j+1≤k∧FnOk P w K mg base CX0 j f fd ps (spE C attr)∧XInit K C S f∧mg c=some (.ref C)∧PySem.W.nsIn K mainGlobals c=some (some (.ref C))∧Binds K fd ps []
theorem FnE.mono {P:Program} {w:World} {K:PySem.W.Frag} {mg:Str→Option Value} {base:Heap} {j k:Nat} {c attr:Str} (F:FnE P w K mg base j c attr) (h:j≤k):FnE P w K mg base k c attr:=by
 obtain ⟨i,C,S,f,fd,ps,a,b⟩:=F.ex
 exact ⟨i,C,S,f,fd,ps,Nat.le_trans a h,b⟩
section
variable {X:Cx} {xw:XW} {C S f:Addr} {fd:FuncData} {ps:List Str} {k:Nat} {x c attr:Str} {p pos np cpos:Pos} {e a:Expr} {es:List Expr} {t:TA} {fs:DSt→Res (List D)}
end
end L3
namespace L3
open PySem PySem.Spec PyProof.Rows L2 SeqAt
section
variable {X:Cx} {xw:XW} {tg it:Expr} {f:DSt→Res (List D)}
theorem PI.nox {t:TI} (h:PI X.nox tg it t):PI X tg it t:=fun pins s σ H R I hw=>
 wpAny_mono (h pins s σ H R (I.wish _) hw) (fun v s1 q=>wpAny_mono q (fun _ _ ⟨a,fp,tn,J,H',e,I',r⟩=>⟨a,fp,tn,J,H',e,I'.unwish,r⟩) fun _ _ z=>False.elim z) fun _ _ z=>False.elim z
end
end L3
namespace L3
open PySem PySem.Spec PySem.Calls PyProof.Rows PySem.W Builtin Builtin.ObjectAttr Builtin.Getset_descriptor
section
variable {prog:Program} {w:World} {A:Around} {E:Value→Shared→Prop} {h:Heap} {g:Array GenState} {d:Drawn} {t:Nat} {os:OsState} {K:Frag} {a C:Addr} {o:Obj} {od:Option Obj} {name:Str} {v:Value}
end
end L3
namespace L3
open PySem PySem.Spec PyProof.Rows L2 SeqAt
structure FldX (K:PySem.W.Frag) (c attr:Str):Prop where
 ex:∃ C,PySem.W.nsIn K mainGlobals c=some (some (.ref C))∧ExcK K C∧PySem.W.hasDictIn K C=true∧PySem.W.findIn K (.ref C) attr=some none
theorem scl_has {K:PySem.W.Frag} {W:WS} {H:Hp} {x:D} {v:V} (h:sclV x=some v):Has K W H x v:=by
 cases x with
 |non=>cases h;rw [Has]
 |bl b=>cases h;rw [Has]
 |int i=>cases h;rw [Has]
 |str z=>cases h;rw [Has]
 |_=>cases h
theorem scl_hasL {K:PySem.W.Frag} {W:WS} {H:Hp}:∀ {ds:List D} {xs:List V},ds.map sclV=xs.map some→HasL K W H ds xs
 | [],[],_=>by rw [HasL]
 |d::ds,x::xs,h=>by
  rw [List.map_cons,List.map_cons] at h
  injection h with h1 h2
  rw [HasL]
  exact ⟨x,xs,rfl,scl_has h1,scl_hasL h2⟩
 | [],_::_,h=>by simp at h
 |_::_,[],h=>by simp at h
theorem ExV.has {K:PySem.W.Frag} {W:WS} {H:Hp} {x:D} {v:V} (h:ExV H x v):Has K W H x v:=by
 rcases h with h|⟨ds,a,o,xs,rfl,rfl,e,q⟩
 ·exact scl_has h
 ·rw [Has]
  exact ⟨a,xs,rfl, .inr (.inl ⟨o,e⟩),scl_hasL q⟩
section
variable {X:Cx} {xw:XW} {e:Expr} {f:DSt→Res D} {pos:Pos} {attr:Str} {ta:TE}
end
end L3
namespace PySem
open Sem (wp)
open Builtin Builtin.ObjectAttr W
section
variable {prog:Program} {w:World} {A:Around} {E:Value→Shared→Prop} {h:Heap} {g:Array GenState} {d:Drawn} {t:Nat} {os:OsState} {K:Frag} {C e dx:Addr} {m:Str→Option Value} {ns:List Str}
end
end PySem
namespace L2
open PySem PySem.Spec PyProof.Rows
def SmallV:V→Prop
 | .int i=>i.natAbs.log2<1920∧(toString i:Str).length≤1000
 | .str x=>(reprText x).length≤1000
 | .non=>True
 |_=>False
structure PJ (X:Cx) (parts:List Expr) (P:St→Prop) (b:Nat):Prop where
 h:∀ (pins:List (Addr×Obj)) (s:Shared) (σ:St) (H:Hp) (acc:Str) (Q:Value→Shared→Prop),Inv X pins σ H s→P σ→acc.length+b≤sizeLine→(∀ s' z tk,Inv X pins σ H s'→Q (.str z tk) s')→wpAny (model X.prog X.w) X.A (joinParts acc (evalEach parts X.env)) Q X.xe s
section
variable {X:Cx} {pos p:Pos} {parts:List Expr} {P:St→Prop} {b:Nat}
end
section
variable {X:Cx} {apos:Pos} {o:Expr} {to:TE} {C S f:Addr}
end
end L2
namespace L2
open PySem PySem.Spec PyProof.Rows
structure RoomH (k:Nat) (A:Around):Prop where
 dp:A.depth+3*k+5<recursionLimit
 un:A.units+16*k+200<cLine
 gd:A.guards=some []
theorem Room.h {k:Nat} {A:Around} (r:Room k A):RoomH k A:=⟨r.dp,r.un,r.gd⟩
theorem RoomH.mono {j k:Nat} {A:Around} (r:RoomH k A) (h:j≤k):RoomH j A:=⟨by have:=r.dp;omega,by have:=r.un;omega,r.gd⟩
theorem RoomH.deeper {k:Nat} {A:Around} (r:RoomH (k+1) A) (env:Env):RoomH k (A.deeper env):=
 ⟨by have:=r.dp;show A.depth+1+3*k+5<_;omega,by have:=r.un;show A.units+3+16*k+200<_;omega,r.gd⟩
theorem RoomH.make {k:Nat} {A:Around} (r:RoomH (k+1) A) (C:Addr) (us:List Value) (kw:List (Str×Value)):RoomH k (A.under (.builtin "type.__call__" ⟨.ref C::us,kw⟩)):=
 ⟨by have:=r.dp;rw [make_depth];omega,by have:=r.un;rw [make_units];omega,by first|exact r.gd|(simpa [Around.under,Code.guards,pushGuards] using r.gd)⟩
theorem RoomH.depth {k:Nat} {A:Around} (r:RoomH k A):A.depth<recursionLimit:=by have:=r.dp;omega
structure FnOkH (P:Program) (w:World) (K:PySem.W.Frag) (mg:Str→Option Value) (base:Heap) (CX:CXT) (k:Nat) (f:Addr) (fd:FuncData) (ps:List Str) (sp:Sp):Prop where
 len:∀ vs H Q E,sp vs H Q E→vs.length=ps.length
 run:∀ (A:Around) (outer:List Env) (s:Shared) (H:Hp) (args:Args) (us:List Value) (vs:List V) (Q:VK) (E:XK),RoomH k A→Env0 P w K mg base A outer s H→BindsTo s fd args (ps.zip us)→Vals vs us→sp vs H Q E→
  codeAny (model P w) A (.call (.ref f) args) (CR CX outer P w H s Q E) s
section
variable {X:Cx} {C S f:Addr} {fd:FuncData} {ps:List Str} {sp:Sp} {k:Nat}
end
end L2
namespace L3
open PySem PySem.Spec PyProof.Rows L2 SeqAt
def SmallK:Bool→V→Prop
 |true,v=>∃ n,v= .int n∧SmallV (.int n)
 |false,v=>SmallV v
def SmallL:List (Str×Bool)→List V→Prop
 | [],[]=>True
 |k::ks,v::vs=>SmallK k.2 v∧SmallL ks vs
 |_,_=>False
def spG (C:Addr) (ks:List (Str×Bool)):Sp:=fun vs H Q _=>∃ a xs,vs= .ref a::xs∧SmallL ks xs∧H a=some (.ext (ExcN a C))∧∀ d,H d=none→Q .non (upd (upd H a (.ext (ExcO a C (some d)))) d (.xd ((ks.map (·.1)).zip xs)))
theorem SmallL.length:∀ {ks:List (Str×Bool)} {xs:List V},SmallL ks xs→xs.length=ks.length
 | [],[],_=>rfl
 |_::_,_::_,h=>by rw [List.length_cons,List.length_cons,SmallL.length h.2]
 | [],_::_,h=>h.elim
 |_::_,[],h=>h.elim
structure XInG (X:Cx) (C:Addr) (ks:List (Str×Bool)) (sts:List Stmt):Prop where
 h:PSs X sts (fun D σ H=>∃ a xs,σ[0]? =some (some (.ref a))∧(∀ i v,xs[i]? =some v→σ[i+1]? =some (some v))∧SmallL ks xs∧H a=some (.ext (ExcN a C))∧∀ d,H d=none→D.nx σ (upd (upd H a (.ext (ExcO a C (some d)))) d (.xd ((ks.map (·.1)).zip xs))))
section
variable {X:Cx} {C S f:Addr} {xb self x y attr attr2:Str} {p1 p2 p3 p7 p8 p9 q1 q2 q3 q4 r1 r2 r3 r4:Pos} {v1 v2:Expr} {rest:List Expr} {P:L2.St→Prop} {b:Nat} {k k2:Bool}
end
structure FnG (P:Program) (w:World) (K:PySem.W.Frag) (mg:Str→Option Value) (base:Heap) (k:Nat) (c:Str) (ks:List (Str×Bool)):Prop where
 ex:∃ j C S f fd ps,j+1≤k∧FnOkH P w K mg base CX0 j f fd ps (spG C ks)∧XInit K C S f∧mg c=some (.ref C)∧PySem.W.nsIn K mainGlobals c=some (some (.ref C))∧Binds K fd ps []
theorem FnG.mono {P:Program} {w:World} {K:PySem.W.Frag} {mg:Str→Option Value} {base:Heap} {j k:Nat} {c:Str} {ks:List (Str×Bool)} (F:FnG P w K mg base j c ks) (h:j≤k):FnG P w K mg base k c ks:=by
 obtain ⟨i,C,S,f,fd,ps,a,b⟩:=F.ex
 exact ⟨i,C,S,f,fd,ps,Nat.le_trans a h,b⟩
section
variable {X:Cx} {xw:XW} {C S f:Addr} {fd:FuncData} {ps:List Str} {k:Nat} {x c:Str} {ks:List (Str×Bool)} {p pos np cpos:Pos} {e a:Expr} {es:List Expr} {t:TA} {fs:DSt→Res (List D)}
end
end L3
namespace L3
open PySem PySem.Spec PyProof.Rows L2 SeqAt
end L3
namespace PySem
open Sem (wp)
section
variable {prog:Program} {w:World} {A:Around} {E:Value→Shared→Prop} {s:Shared} {env:Env}
variable {nm q:Str} {C N:Addr} {bs bm:List Value} {hdct:Bool} {sn:List Str} {sub:List Value} {ab:Bool} {col:Option Bool} {dd:Option Addr} {k0 k1 k2 k3 k5:Option Value} {newId:String}
end
end PySem
namespace L3
open PySem PySem.Spec PyProof.Rows L2 SeqAt
section
variable {X:Cx} {pins:List (Addr×Obj)} {σ:L2.St} {H:Hp} {s s1:Shared} {b C:Addr} {cls a0:Value} {dx:Option Addr} {M:Model} {A:Around} {Ex:Value→Shared→Prop} {Q:Unit→Shared→Prop}
end
end L3
namespace L3
open PySem PySem.Spec PyProof.Rows L2 SeqAt
section
variable {X:Cx} {xw:XW} {pins:List (Addr×Obj)} {σ:L2.St} {H:Hp} {s:Shared} {ar:Addr} {Ex:Value→Shared→Prop} {k:Nat} {c:Str} {ks:List (Str×Bool)} {np cpos pos p:Pos} {j:Nat} {a:Expr} {es:List Expr} {fs:DSt→Res (List D)}
end
section
variable {X:Cx} {xw:XW} {a ea:Expr} {es eas:List Expr} {fs fa:DSt→Res (List D)} {p pos cpos hpos tpos np np2 cpos2 pos2 p2:Pos} {st:Stmt} {orelse:List Stmt} {k k2 nn jj:Nat} {x C n c2:Str} {ks:List (Str×Bool)} {m:List D→Res D} {gK:D→DSt→Out} {go:DSt→Out}
end
end L3
namespace L3
open PySem PySem.Spec PyProof.Rows L2 SeqAt
def eqT (l m:List (Key×D)):Bool:=(l.length==m.length)&&l.all fun p=>match tGet m p.1 with
 |some y=>eqD p.2 y
 |none=>false
section
variable {X:Cx} {xw:XW} {pins:List (Addr×Obj)} {σ:L2.St} {W:WS} {H:Hp} {s:Shared}
theorem hits_D (I:Inv X pins σ H s) {A:Around} (hu:A.units+39<cLine) {m:List (Key×D)} {kb:List (Key×V)} {vb:List (Key×Value)} (hm:HasP X.K W H m kb) (rb:KV kb vb) (gm:∀ p∈m,shal 39 p.2=true):
  ∀ {l:List (Key×D)} {ka:List (Key×V)} {va:List (Key×Value)},HasP X.K W H l ka→KV ka va→(∀ p∈l,shal 39 p.2=true)→
   PySem.W.KeqHits A s vb va (l.all fun p=>match tGet m p.1 with|some y=>eqD p.2 y|none=>false):=by
 intro l
 induction l with
 |nil=>
  intro ka va h r _
  obtain ⟨h1,_⟩:=h
  cases ka with
  |nil=>cases r;exact .nil
  |cons _ _=>cases h1
 |cons p l ih=>
  intro ka va h r g
  obtain ⟨v,t,rfl,h1,h2⟩:=h.cons
  cases r with
  |cons q r=>
   rename_i b u
   obtain ⟨k,d⟩:=p
   obtain ⟨kk,uu⟩:=b
   obtain ⟨q1,q2⟩:=q
   dsimp only at q1 q2
   subst q1
   rw [List.all_cons]
   cases hg:tGet m k with
   |none=>
    have:=(kv_get rb k).2 ((hm.get k).2 hg)
    exact .miss this
   |some y=>
    obtain ⟨w1,e1,hy⟩:=(hm.get k).1 y hg
    obtain ⟨u1,e2,r1⟩:=(kv_get rb k).1 w1 e1
    have gy:shal 39 y=true:=by
     have:∀ (m:List (Key×D)),tGet m k=some y→∃ p∈m,p.2=y:=by
      intro m
      induction m with
      |nil=>intro e;cases e
      |cons z m ih2=>
       intro e
       by_cases hz:z.1=k
       ·rw [tGet_pos hz] at e;cases e;exact ⟨z,List.mem_cons_self,rfl⟩
       ·rw [tGet_neg hz] at e
        obtain ⟨p,hp,ep⟩:=ih2 e
        exact ⟨p,List.mem_cons_of_mem _ hp,ep⟩
     obtain ⟨p,hp,ep⟩:=this m hg
     rw [←ep];exact gm p hp
    exact .hit e2 (eqAt_D I 39 A hu (.inl h1) (.inl hy) q2 r1 (g _ List.mem_cons_self) gy).1 (ih h2 r fun z hz=>g z (List.mem_cons_of_mem _ hz))
theorem zip_shal {l:List (Key×D)} {ds:List D} (h:l.map (·.2)=ds) (g:ds.all (shal 39)=true):∀ p∈l,shal 39 p.2=true:=fun p hp=>by
 rw [←h,List.all_eq_true] at g
 exact g _ (List.mem_map.mpr ⟨p,hp,rfl⟩)
end
end L3
namespace L3
open PySem PySem.Spec PyProof.Rows L2 SeqAt
section
variable {X:Cx} {xw:XW} {pos p pos2 p2:Pos} {a:Expr} {fa:DSt→Res D}
end
end L3
namespace L3
open PySem PySem.Spec PyProof.Rows L2 SeqAt
section
variable {K:PySem.W.Frag} {xw:XW} {W₀ W W1:WS} {H₀ H H1:Hp} {Dn:Ends}
def NewQ (K:PySem.W.Frag) (W₀:WS) (H₀:Hp) (ks:List Key) (ds:List D) (Q:V→Hp→Prop):Prop:=∀ a kvs H',Same H₀ H'→H₀ a=none→H' a=some (.dK kvs)→kvs.map (·.1)=ks→HasL K (fun b=>W₀ b∨b=a) H' ds (kvs.map (·.2))→Q (.ref a) H'
def RSQ (K:PySem.W.Frag) (xw:XW) (W₀:WS) (H₀:Hp) (W:WS) (H:Hp) (o:Out) (Dn:Ends):Prop:=match o with
 | .rt (.dct ks ds)=>NewQ K W₀ H₀ ks ds Dn.rt
 |o=>RS K xw W₀ H₀ W H o Dn
theorem RSQ.step {o:Out} (h:RSQ K xw W₀ H₀ W H o Dn) (k:Step W H W1 H1):RSQ K xw W₀ H₀ W1 H1 o Dn:=by
 cases o with
 |rt d=>cases d<;>exact h
 |nx δ=>exact RS.step (xw:=xw) (o:= .nx δ) h k
 |bk δ=>exact RS.step (xw:=xw) (o:= .bk δ) h k
 |ct δ=>exact RS.step (xw:=xw) (o:= .ct δ) h k
 |ex c fs=>exact h
 |stuck=>exact h
def tDSQ (K:PySem.W.Frag) (xw:XW) (g:DSt→Out):TS:=fun Dn σ H=>∃ W₀ H₀ W δ,StHas K W₀ H₀ W H σ δ∧RSQ K xw W₀ H₀ W H (g δ) Dn
end
structure NoQ (g:DSt→Out):Prop where
 h:∀ δ ks ds,g δ≠ .rt (.dct ks ds)
theorem ofR_noQ {α:Type} {r:Res α} {k:α→Out} {ks:List Key} {ds:List D} (h:∀ a,k a≠ .rt (.dct ks ds)):ofR r k≠ .rt (.dct ks ds):=by
 cases r with
 |ok a=>exact h a
 |ex c fs=>intro e;cases e
 |stuck=>intro e;cases e
theorem NoQ.nox {g:DSt→Out} (h:NoQ g):NoQ (noxS g):=⟨fun δ ks ds e=>by
 unfold noxS at e
 cases z:g δ with
 |rt d=>rw [z] at e;exact h.h δ ks ds (by rw [z];exact e)
 |_=>rw [z] at e;cases e⟩
theorem NoQ.ownQ {i:Nat}:NoQ (sOwnQ i):=⟨fun δ ks ds e=>by cases e⟩
theorem NoQ.put {i:Nat} {fi f:DSt→Res D}:NoQ (sPutI i fi f):=⟨fun δ ks ds=>ofR_noQ fun d=>by
 unfold putO
 split
 ·refine ofR_noQ fun z=> ?_
  unfold putJ
  split
  ·split
   ·intro e;cases e
   ·intro e;cases e
  ·intro e;cases e
 ·intro e;cases e⟩
theorem forD_noQ {t:D→DSt→Res DSt} {body:DSt→Out} (hb:NoQ body):∀ (xs:List D) (δ:DSt) (ks:List Key) (ds:List D),forD t body xs δ≠ .rt (.dct ks ds)
 | [],δ,ks,ds=>by intro e;cases e
 |x::xs,δ,ks,ds=>by
  cases ht:t x δ with
  |ok δ'=>
   rw [forD_cons x xs δ δ' ht]
   cases h:body δ' with
   |nx δ2=>exact forD_noQ hb xs δ2 ks ds
   |ct δ2=>exact forD_noQ hb xs δ2 ks ds
   |bk δ2=>intro e;cases e
   |rt d=>intro e;exact hb.h δ' ks ds (by rw [h];exact e)
   |ex c fs=>intro e;cases e
   |stuck=>intro e;cases e
  |ex c fs=>unfold forD;rw [ht];intro e;cases e
  |stuck=>unfold forD;rw [ht];intro e;cases e
theorem NoQ.for_ {t:D→DSt→Res DSt} {body:DSt→Out} {f:DSt→Res (List D)} (hb:NoQ body):NoQ (sFor t body f):=⟨fun δ ks ds=>ofR_noQ fun xs=>forD_noQ hb xs δ ks ds⟩
section
variable {X:Cx} {xw:XW} {st:Stmt} {sts:List Stmt} {g1 g2:DSt→Out} {pos p:Pos} {a:Expr} {es:List Expr}
structure XSQ (X:Cx) (xw:XW) (sts:List Stmt) (g:DSt→Out):Prop where
 h:PSs X sts (tDSQ X.K xw g)
def spQX (K:PySem.W.Frag) (n:Nat) (m:List D→Res D):Sp:=fun vs H Q E=>vs.length=n∧∃ W ds,WL W H∧HasL K W H ds vs∧match m ds with
 | .ok (.dct ks fs)=>NewQ K W H ks fs Q
 | .ok d=>∀ v H',Same H H'→Has K W H' d v→Q v H'
 | .ex c fs=>∀ cls dx H',PySem.W.nsIn K mainGlobals c=some (some cls)→Same H H'→ExF H' dx fs→E cls dx H'
 | .stuck=>False
structure FnQX (P:Program) (w:World) (K:PySem.W.Frag) (mg:Str→Option Value) (base:Heap) (k:Nat) (x:Str) (n:Nat) (m:List D→Res D):Prop where
 ex:∃ f fd ps,FnOk P w K mg base (CXD P w) k f fd ps (spQX K n m)∧mg x=some (.ref f)∧PySem.W.keepIn K (.ref f)=true∧Binds K fd ps []
theorem FnQX.mono {P:Program} {w:World} {K:PySem.W.Frag} {mg:Str→Option Value} {base:Heap} {j k n:Nat} {x:Str} {m:List D→Res D} (F:FnQX P w K mg base j x n m) (h:j≤k):FnQX P w K mg base k x n m:=by
 obtain ⟨f,fd,ps,a,b⟩:=F.ex
 exact ⟨f,fd,ps,a.mono h,b⟩
end
end L3
namespace L3
open PySem PySem.Spec PyProof.Rows L2 SeqAt
theorem vals_of:∀ {xs:List V} {us:List Value},xs.length=us.length→(∀ (i:Nat) (x:V) (u:Value),xs[i]? =some x→us[i]? =some u→RelV x u)→Vals xs us
 | [],[],_,_=> .nil
 | [],_::_,h,_=>by simp at h
 |_::_,[],h,_=>by simp at h
 |x::xs,u::us,h,r=> .cons (r 0 x u rfl rfl) (vals_of (by simpa using h) fun i y v e1 e2=>r (i+1) y v (by simpa using e1) (by simpa using e2))
section
variable {X:Cx} {xw:XW} {e:Expr} {f:DSt→Res D} {p pos:Pos}
theorem pe_listK {te:TE} (hc:X.calm=true) (hm:X.mg "list"=none) (hg:Gl X "list") (h:PE X e te)
  (he:starEach [e] X.env=(false,eval e X.env)::starEach [] X.env) (hpl:(backTo pos (starEach [] X.env)).any (·.1)=false):
  PE X (.Call (.Name "list" p) [e] [] pos) (fun σ H Q=>te σ H fun x H1=>∃ a o kvs,x= .ref a∧H1 a=some (.frz o (.dK kvs))∧kvs.length≤sizeLine∧∀ n,H1 n=none→Q (.ref n) (upd H1 n (.lst (kvs.map fun q=>kV q.1)))):=by
 intro pins s σ H Q I q
 refine wpAny_Call_Name_kw (ld_blt I hg hm (show bootBuiltins "list"=some (.type "list") by decide +kernel) ?_ (by decide) (by decide))
 refine PyProof.Rows.callWith_type1 ?_ he hpl
 rw [he]
 show wpAny _ _ (spliced ((false,eval _ X.env)::backTo pos (starEach [] X.env))) _ _ s
 refine Calls.spliced_cons (thn (h pins s σ H _ I q) fun v s1 ⟨x,H1,I1,r1,q1⟩=> ?_)
 refine Calls.spliced_nil ?_
 obtain ⟨a,o,kvs,rfl,hq,hn,qn⟩:=q1
 cases r1
 obtain ⟨h1',_,hS,vs',r',o',es,ep,g1,g2,g3,g4⟩:=(show _∧_ from I1.hok a _ hq)
 rw [h1'] at g1;cases g1
 obtain ⟨hs,vs,rel,dat⟩:=frz_at I1.hok hq g3
 refine PySem.W.kdl_call (s:=s1) (PySem.W.kdl_dict (prog:=X.prog) (w:=X.w) (d:=a) (knd:=mixKind X.prog X.w) (kvs:=vs) (ep:=ep) hs) (I1.ok.hd hc) dat (by rw [←kv_len rel];exact hn) fun h' tk acc' c' kk hS hacc=> ?_
 obtain ⟨e1,e2⟩:=hacc
 have hv:Vals (kvs.map fun q=>kV q.1) acc'.toList:=by
  refine vals_of (by have:=kv_len rel;have e9:acc'.toList.length=vs.length:=e1;rw [List.length_map,e9];exact this) fun i x u hx hu=> ?_
  rw [List.getElem?_map] at hx
  obtain ⟨q,hq',rfl⟩:=Option.map_eq_some_iff.mp hx
  rw [Array.getElem?_toList] at hu
  obtain ⟨k,y,ek,hk⟩:=e2 i u hu
  obtain ⟨y2,e3,_⟩:=kv_at rel hq'
  rw [e3] at ek
  cases ek
  exact is_key hk
 refine ⟨.ref _,_,I1.laid (t':=tk) (o:= .lst (kvs.map fun q=>kV q.1)) (fun b u e=>kk b u e) (Nat.le_refl _) ?_,rfl,qn _ I1.fresh⟩
 exact ⟨by rw [List.length_map];exact hn,acc'.toList,c',hv,hS⟩
noncomputable def klstR:D→Res (List D)
 | .dct ks _=>@ite (Res (List D)) (ks.length≤sizeLine) (Classical.propDecidable _) (.ok (ks.map keyOf)) .stuck
 |_=> .stuck
theorem keys_hasL {K:PySem.W.Frag} {W:WS} {H:Hp}:∀ ks:List Key,HasL K W H (ks.map keyOf) (ks.map kV)
 | []=>by rw [List.map_nil,List.map_nil,HasL]
 |k::ks=>by rw [List.map_cons,List.map_cons,HasL];exact ⟨_,_,rfl,keyOf_has k,keys_hasL ks⟩
theorem f_listK (hc:X.calm=true) (hm:X.mg "list"=none) (h:XE X xw e f) (hg:Gl X "list":=by rfl)
  (he:starEach [e] X.env=(false,eval e X.env)::starEach [] X.env:=by rfl) (hpl:(backTo pos (starEach [] X.env)).any (·.1)=false:=by rfl):
  XF X xw (.Call (.Name "list" p) [e] [] pos) (b1Q klstR f):=
 ⟨PE.weak (pe_listK hc hm hg h.h he hpl) fun σ H Q ⟨W₀,H₀,W,δ,st,q⟩=>by
  refine ⟨W₀,H₀,W,δ,st,?_⟩
  unfold b1Q at q
  cases h1:f δ with
  |stuck=>rw [h1] at q;exact q
  |ex c fs=>rw [h1] at q;exact q
  |ok d=>
   rw [h1] at q
   intro v H1 k1 hv
   have q':RF X.K xw W H (klstR d) Q:=q
   unfold klstR at q'
   split at q'
   ·rename_i ks ds
    split at q'
    ·rename_i hn
     rw [Has] at hv
     obtain ⟨a,kvs,rfl,⟨o,ea⟩,r5,r6⟩:=hv
     have hl:kvs.length≤sizeLine:=by rw [←r5,List.length_map] at hn;exact hn
     refine ⟨a,o,kvs,rfl,ea,hl,fun n hn=> ?_⟩
     have e3:(kvs.map fun q=>kV q.1)=ks.map kV:=by rw [←r5,List.map_map];rfl
     rw [e3]
     exact q' n _ H1 k1 hn (keys_hasL ks)
    ·exact q'.elim
   ·exact q'.elim⟩
end
end L3
namespace L3
open PySem PySem.Spec PyProof.Rows L2 SeqAt
section
variable {X:Cx} {xw:XW} {e:Expr} {f:DSt→Res D} {p pos apos pos2:Pos}
end
end L3
namespace L3
open PySem PySem.Spec PyProof.Rows L2 SeqAt
section
variable {X:Cx} {xw:XW} {a b e:Expr} {fa fb:DSt→Res (List (Key×D))} {p pos:Pos}
end
end L3
namespace L3
open PySem PySem.Spec PyProof.Rows L2 SeqAt
section
variable {K:PySem.W.Frag} {W₀ W:WS} {H₀ H H':Hp} {σ:L2.St} {δ:DSt}
end
section
variable {X:Cx} {xw:XW} {pos p p1 p2 p3:Pos} {e ie:Expr} {f fi:DSt→Res D} {ff:DSt→Res (List D)}
def tNil:TE:=fun _ H Q=>∀ a,H a=none→Q (.ref a) (upd H a (.lst []))
variable {scope:Scope} {tg iter:Expr} {fl:DSt→Res (List D)} {t:D→DSt→Res DSt}
end
end L3
namespace L3
open PySem PySem.Spec PyProof.Rows L2 SeqAt
section
variable {X:Cx} {xw:XW} {tg a:Expr} {p pos:Pos} {fs:DSt→Res (List D)}
end
end L3
namespace L3
open PySem PySem.Spec PyProof.Rows L2 SeqAt
section
variable {X:Cx} {xw:XW} {e:Expr} {f:DSt→Res D} {pos p1 p2 p3:Pos}
def mrg {α:Type} (kvs more:List (Key×α)):List (Key×α):=more.foldl (fun acc p=>tPut acc p.1 p.2) kvs
noncomputable def updJ (i:Nat) (δ:DSt) (l:List (Key×D)) (d:D):Out:=match d with
 | .dct ks ds=>@ite Out (l.length+(ks.zip ds).length≤1000) (Classical.propDecidable _) (.nx (δ.set i (some (.q ((mrg l (ks.zip ds)).map (·.1)) ((mrg l (ks.zip ds)).map (·.2)))))) .stuck
 |_=> .stuck
noncomputable def sUpd (i:Nat) (f:DSt→Res D):DSt→Out:=fun δ=>match δ[i]? with
 |some (some (.q ks ds))=>ofR (f δ) (updJ i δ (ks.zip ds))
 |_=> .stuck
end
end L3
namespace L3
open PySem PySem.Spec PyProof.Rows L2 SeqAt
structure NoR (g:DSt→Out):Prop where
 h:∀ δ d,g δ≠ .rt d
theorem NoR.l {g:DSt→Out} (h:NoR g):NoL g:=⟨fun δ _=>h.h δ _⟩
theorem NoR.q {g:DSt→Out} (h:NoR g):NoQ g:=⟨fun δ _ _=>h.h δ _⟩
theorem ofR_nr {α:Type} {r:Res α} {k:α→Out} {d:D} (h:∀ a,k a≠ .rt d):ofR r k≠ .rt d:=by
 cases r with
 |ok a=>exact h a
 |ex c fs=>intro e;cases e
 |stuck=>intro e;cases e
theorem NoR.seq {a b:DSt→Out} (ha:NoR a) (hb:NoR b):NoR (sSeq a b):=⟨fun δ d=>by
 show seqO (a δ) b≠_
 cases h:a δ with
 |nx δ'=>exact hb.h δ' d
 |rt d'=>intro e;exact ha.h δ d (by rw [h];exact e)
 |bk δ'=>intro e;cases e
 |ct δ'=>intro e;cases e
 |ex c fs=>intro e;cases e
 |stuck=>intro e;cases e⟩
theorem NoR.nx:NoR Out.nx:=⟨fun δ d e=>by cases e⟩
theorem NoR.own {i:Nat} {f:DSt→Res (List D)}:NoR (sOwn i f):=⟨fun δ d=>ofR_nr fun k e=>by cases e⟩
theorem NoR.set {i:Nat} {f:DSt→Res D}:NoR (sSet i f):=⟨fun δ d=>ofR_nr fun k e=>by cases e⟩
theorem NoR.ownQ {i:Nat}:NoR (sOwnQ i):=⟨fun δ d e=>by cases e⟩
theorem NoR.put {i:Nat} {fi f:DSt→Res D}:NoR (sPutI i fi f):=⟨fun δ d=>ofR_nr fun z=>by
 unfold putO
 split
 ·refine ofR_nr fun z=> ?_
  unfold putJ
  split
  ·split
   ·intro e;cases e
   ·intro e;cases e
  ·intro e;cases e
 ·intro e;cases e⟩
theorem NoR.extD {i:Nat} {f:DSt→Res D}:NoR (sExtD i f):=⟨fun δ d=>by
 show extDO i δ (f δ)≠_
 unfold extDO
 split
 ·refine ofR_nr fun z=> ?_
  split
  ·split
   ·intro e;cases e
   ·intro e;cases e
  ·intro e;cases e
 ·intro e;cases e⟩
theorem NoR.upd {i:Nat} {f:DSt→Res D}:NoR (sUpd i f):=⟨fun δ d=>by
 unfold sUpd
 split
 ·refine ofR_nr fun z=> ?_
  unfold updJ
  split
  ·split
   ·intro e;cases e
   ·intro e;cases e
  ·intro e;cases e
 ·intro e;cases e⟩
theorem NoR.frz {i:Nat} {g:DSt→Out} (h:NoR g):NoR (sFrz i g):=⟨fun δ d=>h.h _ d⟩
theorem forD_nr {t:D→DSt→Res DSt} {body:DSt→Out} (hb:NoR body):∀ (xs:List D) (δ:DSt) (d:D),forD t body xs δ≠ .rt d
 | [],δ,d=>by intro e;cases e
 |x::xs,δ,d=>by
  cases ht:t x δ with
  |ok δ'=>
   rw [forD_cons x xs δ δ' ht]
   cases h:body δ' with
   |nx δ2=>exact forD_nr hb xs δ2 d
   |ct δ2=>exact forD_nr hb xs δ2 d
   |bk δ2=>intro e;cases e
   |rt d'=>intro e;exact hb.h δ' d (by rw [h];exact e)
   |ex c fs=>intro e;cases e
   |stuck=>intro e;cases e
  |ex c fs=>unfold forD;rw [ht];intro e;cases e
  |stuck=>unfold forD;rw [ht];intro e;cases e
theorem NoR.for_ {t:D→DSt→Res DSt} {body:DSt→Out} {f:DSt→Res (List D)} (hb:NoR body):NoR (sFor t body f):=⟨fun δ d=>ofR_nr fun xs=>forD_nr hb xs δ d⟩
end L3
namespace L3
open PySem PySem.Spec PyProof.Rows L2 SeqAt
def Txts (xs:List Str):Prop:=xs.length≤100∧∀ x∈xs,(reprText x).length≤1000
section
variable {X:Cx} {pos p p1 p2:Pos}
end
def spR (K:PySem.W.Frag) (C:Addr) (attr:Str):Sp:=fun vs H Q _=>∃ a l xs,vs= [.ref a, .ref l]∧SqL K H l (xs.map V.str)∧Txts xs∧H a=some (.ext (ExcN a C))∧∀ n o d,H n=none→H d=none→d≠n→Q .non (upd (upd (upd H n (.frz o (.lst (xs.map V.str)))) a (.ext (ExcO a C (some d)))) d (.xd [(attr, .ref n)]))
structure XInR (X:Cx) (C:Addr) (attr:Str) (sts:List Stmt):Prop where
 h:PSs X sts (fun D σ H=>∃ a l xs,σ[0]? =some (some (.ref a))∧σ[1]? =some (some (.ref l))∧SqL X.K H l (xs.map V.str)∧Txts xs∧H a=some (.ext (ExcN a C))∧∀ n o d,H n=none→H d=none→d≠n→D.nx σ (upd (upd (upd H n (.frz o (.lst (xs.map V.str)))) a (.ext (ExcO a C (some d)))) d (.xd [(attr, .ref n)])))
section
variable {X:Cx} {C S f:Addr} {xb self x attr:Str} {p1 p2 p3 p7 p8 p9 q1 q2 q3 q4 q5 q6 r1 r2 r3:Pos} {z:Str} {k:Nat}
end
structure FnR (P:Program) (w:World) (K:PySem.W.Frag) (mg:Str→Option Value) (base:Heap) (k:Nat) (c attr:Str):Prop where
 ex:∃ j C S f fd ps,j+1≤k∧FnOkH P w K mg base CX0 j f fd ps (spR K C attr)∧XInit K C S f∧mg c=some (.ref C)∧PySem.W.nsIn K mainGlobals c=some (some (.ref C))∧Binds K fd ps []
theorem FnR.mono {P:Program} {w:World} {K:PySem.W.Frag} {mg:Str→Option Value} {base:Heap} {j k:Nat} {c attr:Str} (F:FnR P w K mg base j c attr) (h:j≤k):FnR P w K mg base k c attr:=by
 obtain ⟨i,C,S,f,fd,ps,a,b⟩:=F.ex
 exact ⟨i,C,S,f,fd,ps,Nat.le_trans a h,b⟩
section
variable {X:Cx} {xw:XW} {C S f:Addr} {fd:FuncData} {ps:List Str} {k:Nat} {x c attr:Str} {p pos np cpos:Pos} {e a:Expr} {es:List Expr} {t:TA} {fs:DSt→Res (List D)}
end
end L3
namespace L3
open PySem PySem.Spec PyProof.Rows L2 SeqAt
section
variable {X:Cx}
end
section
variable {K:PySem.W.Frag} {W:WS} {H:Hp}
end
section
variable {X:Cx} {xw:XW} {o e:Expr} {f:DSt→Res D} {fs:DSt→Res (List D)} {apos cpos:Pos}
end
end L3
namespace L3
open PySem PySem.Spec PyProof.Rows L2 SeqAt
section
variable {prog:Program} {w:World} {A:Around} {E:Value→Shared→Prop} {s:Shared} {it l:Addr} {xs:Array Value}
end
section
variable {X:Cx} {xw:XW} {a:Expr} {p p2 pos pos2:Pos}
end
end L3
namespace L3
open PySem PySem.Spec PyProof.Rows L2 SeqAt
section
variable {X:Cx} {xw:XW} {a:Expr} {es:List Expr} {pos p:Pos} {fs:DSt→Res (List D)}
end
end L3
namespace L3
open PySem
open Sem (wp)
section
variable {prog:Program} {w:World} {K:Type} [DecidableEq K] {knd:KeyKind prog w K} {A:Around} {R:Result→Shared→Prop} {I:Addr} {fp wr:List Addr} {G:Array GenState→Array GenState→Prop} {n:Nat} {P:Nat→Value→Prop} {St:Nat→Shared→Prop} {E:Value→Shared→Prop} {s:Shared}
def SB (knd:KeyKind prog w K) (h:Heap) (a:Addr) (σ:List K):Prop:=h.SetOf knd a (fun k=>decide (k∈σ)) σ.length
theorem SB.at' {h h':Heap} {a:Addr} {σ:List K} (x:SB knd h a σ) (k:∀ o,h.get? a=some o→h'.get? a=some o):SB knd h' a σ:=by
 obtain ⟨o,es,ep,t,ho,r⟩:=x;exact ⟨o,es,ep,t,k o ho,r⟩
end
end L3
namespace L3
open PySem PySem.Spec PyProof.Rows L2 SeqAt
section
variable {X:Cx} {xw:XW} {pos p pos2 p2:Pos} {a e:Expr} {fa:DSt→Res D}
def nonIs:Option Key→Value→Bool
 |none, .none=>true
 |some k,v=>keyIs k v
 |_,_=>false
def nonH (w:World):Option Key→Int
 |none=>0xFCA86420
 |some k=>keyH w k
theorem nonIs_shape {o:Option Key} {v:Value} (h:nonIs o v=true):(o=none∧v= .none)∨∃ k,o=some k∧keyIs k v=true:=by
 cases o with
 |none=>
  cases v with
  |none=>exact .inl ⟨rfl,rfl⟩
  |_=>cases h
 |some k=>exact .inr ⟨k,rfl,h⟩
theorem keyIs_non {k:Key} (h:keyIs k .none=true):False:=by
 rcases keyIs_shape h with ⟨i,t,rfl,e⟩|⟨x,t,rfl,e⟩<;>cases e
theorem wpAny_pyHash_none {prog:Program} {w:World} {A:Around} {E:Value→Shared→Prop} {s:Shared} {Q:Int→Shared→Prop} (h:Q 0xFCA86420 {s with toks:=s.toks+1}):wpAny (model prog w) A (pyHash .none) Q E s:=by
 have hT:s.TypeIs .none "NoneType":=rfl
 unfold pyHash
 have hv: [Value.none].any Value.onHeap=false:=rfl
 refine wpAny_bind ?_
 rw [cRoomFor,if_neg (by rw [hv];exact Bool.false_ne_true)];refine wpAny_pure ?_
 refine wpAny_bind (wpAny_specialOf hT F.slot_NoneType_hash.lookup ?_)
 show wpAny _ _ (if (some (Value.builtin "NoneType.__hash__")==some Value.none)=true then _ else _) Q E s
 rw [if_neg (by rw [beq_builtin_none];exact Bool.false_ne_true)]
 refine wpAny_bind (wpAny_specialOf hT F.slot_NoneType_hash.lookup ?_)
 show wpAny _ _ (callSpecialIfBoundUnlessNone? .none "__hash__" _ >>= _) Q E s
 refine wpAny_bind (wpAny_callSpecialIfBoundUnlessNone?_slot hT F.slot_NoneType_hash
  (wpAny_call_entry F.slot_NoneType_hash hT F.entry_NoneType_hash
   (show wpAny _ _ (do ret (←mkInt 0xFCA86420)) _ _ s from wpAny_ret_mkInt ?_) (F.args_NoneType_hash_1 _)))
 show wpAny _ _ (if (decide (-(2:Int)^63≤0xFCA86420)&&decide ((0xFCA86420:Int)<2^63))=true then _ else _) Q E _
 rw [if_pos (by decide)]
 exact wpAny_pure h
theorem eqBool_none {prog:Program} {w:World} {A:Around} {E:Value→Shared→Prop} {s:Shared} {Q:Bool→Shared→Prop} (h:Q true s):wpAny (model prog w) A (eqBool .none .none) Q E s:=by
 unfold eqBool
 refine wpAny_holding ?_
 rw [if_pos (by decide)]
 exact wpAny_bind (wpAny_rule (wpAny_pure h))
def nonKind (prog:Program) (w:World):PySem.KeyKind prog w (Option Key) where
 is:=nonIs
 hash:=nonH w
 inj:=fun v a b ha hb=>by
  rcases nonIs_shape ha with ⟨rfl,rfl⟩|⟨k,rfl,h1⟩
  ·rcases nonIs_shape hb with ⟨rfl,_⟩|⟨k,rfl,h2⟩
   ·rfl
   ·exact (keyIs_non h2).elim
  ·rcases nonIs_shape hb with ⟨rfl,rfl⟩|⟨k',rfl,h2⟩
   ·exact (keyIs_non h1).elim
   ·rw [(mixKind prog w).inj v k k' h1 h2]
 byValue:=fun k v h=>by
  rcases nonIs_shape h with ⟨rfl,rfl⟩|⟨k,rfl,h1⟩
  ·rfl
  ·exact (mixKind prog w).byValue k v h1
 pyHash:=fun hv h=>by
  rcases nonIs_shape hv with ⟨rfl,rfl⟩|⟨k,rfl,h1⟩
  ·exact wpAny_pyHash_none h
  ·exact (mixKind prog w).pyHash h1 h
 eqBool:=fun hu hv h=>by
  rcases nonIs_shape hu with ⟨rfl,rfl⟩|⟨k,rfl,h1⟩
  ·rcases nonIs_shape hv with ⟨rfl,rfl⟩|⟨k,rfl,h2⟩
   ·exact eqBool_none (by simpa using h)
   ·rw [decide_eq_false (by intro z;cases z)] at h
    rcases keyIs_shape h2 with ⟨i,t,rfl,rfl⟩|⟨x,t,rfl,rfl⟩
    ·exact SeqAt.EqAt.none_int i t _ _ _ _ h
    ·exact SeqAt.EqAt.none_str x t _ _ _ _ h
  ·rcases nonIs_shape hv with ⟨rfl,rfl⟩|⟨k',rfl,h2⟩
   ·rw [decide_eq_false (by intro z;cases z)] at h
    rcases keyIs_shape h1 with ⟨i,t,rfl,rfl⟩|⟨x,t,rfl,rfl⟩
    ·exact SeqAt.EqAt.int_none i t _ _ _ _ h
    ·exact SeqAt.EqAt.str_none x t _ _ _ _ h
   ·have e:decide ((some k:Option Key)=some k')=decide (k=k'):=by
     by_cases z:k=k'
     ·rw [z,decide_eq_true rfl,decide_eq_true rfl]
     ·rw [decide_eq_false z,decide_eq_false fun y=>z (Option.some.inj y)]
    rw [e] at h
    exact (mixKind prog w).eqBool h1 h2 h
 «strs» :=fun k x t v h=>by
  rcases nonIs_shape h with ⟨rfl,e⟩|⟨k',rfl,h1⟩
  ·cases e
  ·exact (mixKind prog w).strs k' x t v h1
theorem mapOf_non {prog:Program} {w:World} {h:Heap} {a:Addr} {f:Key→Option Value} (m:h.MapOf (mixKind prog w) a f):h.MapOf (nonKind prog w) a (fun o=>o.bind f):=by
 obtain ⟨o,es,ep,h1,h2,h3,h4,h5⟩:=m
 refine ⟨o,es,ep,h1,h2,h3,fun e he=> ?_,fun k=> ?_⟩
 ·obtain ⟨k,k1,k2⟩:=h4 e he
  exact ⟨some k,k1,k2⟩
 ·cases k with
  |some k=>exact h5 k
  |none=>
   show findBy nonIs es none=none
   unfold findBy
   have:es.find? (fun e=>nonIs none e.key)=none:=by
    rw [Array.find?_eq_none]
    intro e he z
    obtain ⟨k,k1,_⟩:=h4 e he
    rcases nonIs_shape z with ⟨_,e1⟩|⟨_,e1,_⟩
    ·rw [e1] at k1;exact keyIs_non k1
    ·cases e1
   simp [this]
def keyN:D→Option (Option Key)
 | .non=>some none
 | .int i=>some (some (.inl i))
 | .str x=>some (some (.inr x))
 |_=>none
def kVN:Option Key→V
 |none=> .non
 |some k=>kV k
theorem keyN_has {K:PySem.W.Frag} {W:WS} {H:Hp} {d:D} {v:V} {k:Option Key} (h:Has K W H d v) (e:keyN d=some k):v=kVN k:=by
 cases d with
 |non=>cases e;rw [Has] at h;exact h
 |int i=>cases e;rw [Has] at h;exact h
 |str x=>cases e;rw [Has] at h;exact h
 |_=>cases e
theorem non_is {prog:Program} {w:World} {k:Option Key} {v:Value} (h:RelV (kVN k) v):(nonKind prog w).is k v=true:=by
 cases k with
 |none=>cases (show v=Value.none from h);rfl
 |some k=>exact key_is (P:=prog) (w:=w) h
def rGet1:V→List V→Hp→VK→Prop:=fun x vs H Q=>∃ a kvs k,x= .ref a∧vs= [kVN k]∧Rd H a (.dK kvs)∧Q ((k.bind (tGet kvs)).getD .non) H
theorem mt_get1:MtR X "dict.get" rGet1:=by
 intro pins s σ H x vs v us Q I rx rv h
 obtain ⟨a,kvs,k,rfl,rfl,hr,q⟩:=h
 cases rx
 obtain ⟨u,rfl,ru⟩:=vals1 rv
 obtain ⟨_,hS,ws,rel,dd⟩:=rd_dk I.hok hr
 refine call_meetsIn PySem.F.slot_dict_get dd.typeIs PySem.F.entry_dict_get (PySem.F.args_dict_get_2 _ _) (meets_dict_get (nonKind X.prog X.w) a (non_is ru) hS) ⟨_,mapOf_non dd.mapOf,?_⟩
 refine ⟨_,H,I.tok _,?_,q⟩
 cases k with
 |none=>exact rfl
 |some k=>
  obtain ⟨g1,g2⟩:=kv_get rel k
  show RelV ((tGet kvs k).getD .non) _
  cases h:tGet kvs k with
  |some z=>
   obtain ⟨w',hw,rw'⟩:=g1 z h
   show RelV z (Option.getD (_) _)
   simp only [Option.bind_some]
   rw [hw];exact rw'
  |none=>
   simp only [Option.bind_some]
   rw [g2 h];exact rfl
def get1R (l:List (Key×D)) (d:D):Res D:=match keyN d with
 |some k=> .ok ((k.bind (tGet l)).getD .non)
 |none=> .stuck
def bGet1 (f:DSt→Res (List (Key×D))) (g:DSt→Res (List D)):DSt→Res D:=fun δ=>(f δ).bind fun l=>(g δ).bind fun ds=>match ds with
 | [d]=>get1R l d
 |_=> .stuck
theorem pe_get1 {o:Expr} {es:List Expr} {to:TE} {t:TA} {apos cpos:Pos} (ho:PE X o to) (ha:PA X (e::es) t)
  (hbase:attributeBase o "get" X.env (eval o X.env)=eval o X.env:=by rfl)
  (hfew:((backTo cpos (starEach (e::es) X.env)).all (fun x=> !x.1)&&(backToKw cpos (keywordEach [] X.env)).all (fun x=>x.1.isSome)
   &&decide ((e::es).length+([]:List Keyword).length+(if ([]:List Keyword).isEmpty then 0 else 1)<30))=true:=by rfl)
  (hline:(apos.endLine==cpos.line)=true:=by rfl) (hs:starEach (e::es) X.env=(false,eval e X.env)::starEach es X.env:=by rfl) (hplain:(backTo cpos (starEach es X.env)).any (·.1)=false:=by rfl):
  PE X (.Call (.Attribute o "get" apos) (e::es) [] cpos) (fun σ H Q=>to σ H fun x H1=>(∃ a kvs,x= .ref a∧Rd H1 a (.dK kvs))∧t σ H1 fun xs H2=>rGet1 x xs H2 Q):=by
 intro pins s σ H Q I h
 refine wpAny_Call_method_late hbase hfew hline rfl (thn (ho pins s σ H _ I h) fun v s1 ⟨x,H1,I1,r1,ty,q1⟩=> ?_)
 obtain ⟨a,kvs,rfl,hr⟩:=ty
 have r2:=r1
 cases r2
 obtain ⟨_,hS,ws,rel,dd⟩:=rd_dk I1.hok hr
 refine ⟨"dict","dict.get",PySem.F.plainAttrs_dict,PySem.F.slot_dict_get,PySem.F.type_dict_get,dd.typeIs,dd.mapOf.noDict,?_⟩
 have hA:=ha cpos pins s1 σ H1 _ I1 q1
 rw [hs] at hA ⊢
 refine Calls.callWith_builtin (by show (false||(backTo cpos (starEach es X.env)).any (·.1))=false;rw [hplain]<;>rfl) (Calls.evalArgs_plain ?_)
 exact thn hA fun us s2 ⟨vs,H2,I2,r3,q2⟩=>mt_get1 pins s2 σ H2 _ vs _ us Q I2 r1 r3 q2
theorem x_get1 {es:List Expr} {apos cpos:Pos} {fq:DSt→Res (List (Key×D))} {gs:DSt→Res (List D)} (ho:XQ X xw a fq) (ha:XA X xw (e::es) gs)
  (hbase:attributeBase a "get" X.env (eval a X.env)=eval a X.env:=by rfl)
  (hfew:((backTo cpos (starEach (e::es) X.env)).all (fun x=> !x.1)&&(backToKw cpos (keywordEach [] X.env)).all (fun x=>x.1.isSome)
   &&decide ((e::es).length+([]:List Keyword).length+(if ([]:List Keyword).isEmpty then 0 else 1)<30))=true:=by rfl)
  (hline:(apos.endLine==cpos.line)=true:=by rfl) (hs:starEach (e::es) X.env=(false,eval e X.env)::starEach es X.env:=by rfl) (hplain:(backTo cpos (starEach es X.env)).any (·.1)=false:=by rfl):
  XE X xw (.Call (.Attribute a "get" apos) (e::es) [] cpos) (bGet1 fq gs):=⟨
 PE.weak (pe_get1 ho.h ha.h hbase hfew hline hs hplain) fun σ H Q h=>by
  obtain ⟨W₀,H₀,W,δ,st,q⟩:=h
  unfold bGet1 at q
  refine ⟨W₀,H₀,W,δ,st,?_⟩
  cases h1:fq δ with
  |stuck=>rw [h1] at q;exact q
  |ex c fs=>rw [h1] at q;exact q
  |ok l=>
   rw [h1] at q
   intro ar kvs H1 k1 hr hp
   refine ⟨⟨ar,kvs,rfl,hr⟩,W₀,H₀,W,δ,st.same k1,?_⟩
   simp only [Res.bind_ok] at q
   cases h2:gs δ with
   |stuck=>rw [h2] at q;exact q
   |ex c fs=>rw [h2] at q;exact fun H2 k2=>q H2 (k1.trans k2)
   |ok ds=>
    rw [h2,Res.bind_ok] at q
    intro vs H2 k2 hvs
    split at q
    ·rename_i d
     unfold get1R at q
     split at q
     ·rename_i k hk
      rw [HasL] at hvs
      obtain ⟨x1,r1,rfl,g1,hvs⟩:=hvs
      rw [HasL] at hvs
      subst hvs
      have e1:=keyN_has g1 hk
      have hp2:=hp.same k2 (st.same k1).fr.wl
      refine ⟨ar,kvs,k,rfl,by rw [e1],Rd.same hr k2,q _ H2 (k1.trans k2) ?_⟩
      cases k with
      |none=>show Has _ _ _ D.non V.non;rw [Has]
      |some k=>
       obtain ⟨p1,p2⟩:=hp2.get k
       show Has _ _ _ ((tGet l k).getD .non) ((tGet kvs k).getD .non)
       cases hg:tGet l k with
       |some d'=>
        obtain ⟨v,hv,hh⟩:=p1 d' hg
        rw [hv];exact hh
       |none=>rw [p2 hg];show Has _ _ _ D.non V.non;rw [Has]
     ·exact q.elim
    ·exact q.elim⟩
end
end L3
namespace L3
open PySem PySem.Spec PyProof.Rows L2 SeqAt
section
variable {X:Cx} {xw:XW} {e a o:Expr} {es:List Expr} {f fa:DSt→Res D} {gs:DSt→Res (List D)} {pos p p2 apos:Pos} {fld m:Str} {cs:List Str}
structure OwnK (K:PySem.W.Frag) (C:Addr):Prop where
 hg:PySem.W.plainGet K C "__class__"=true
 hd:PySem.W.hasDictIn K C=true
 ha:PySem.W.findIn K (.ref C) "__class__"=some (some (.builtin "object.__class__"))
 hn:PySem.W.specialIn K (.builtin "object.__class__") "__get__"=some (some (.builtin "getset_descriptor.__get__"))
 ht:PySem.W.takesIn K (.builtin "object.__class__")=some true
 hm:PySem.W.mroIn K C (.type "object")=some true
structure IsiO (K:PySem.W.Frag) (tb:List (Str×Bool)) (vc:V):Prop where
 cls:∃ a,vc= .ref a
 ok:∀ c b,tb.lookup c=some b→∃ C,PySem.W.nsIn K mainGlobals c=some (some (.ref C))∧OwnK K C∧PySem.W.kitOne K (.ref C) (valC vc)=some b
structure MtK (P:Program) (w:World) (K:PySem.W.Frag) (mg:Str→Option Value) (base:Heap) (k:Nat) (c m:Str) (n:Nat) (g:List D→Res D):Prop where
 ex:∃ C f fd ps,PySem.W.nsIn K mainGlobals c=some (some (.ref C))∧Cls K C∧Meth K C m f∧FnOk P w K mg base CX0 k f fd ps (spD K n g)∧Binds K fd ps []
theorem MtK.mono {P:Program} {w:World} {K:PySem.W.Frag} {mg:Str→Option Value} {base:Heap} {j k n:Nat} {c m:Str} {g:List D→Res D} (F:MtK P w K mg base j c m n g) (h:j≤k):MtK P w K mg base k c m n g:=by
 obtain ⟨C,f,fd,ps,a,b,d,e,i⟩:=F.ex
 exact ⟨C,f,fd,ps,a,b,d,e.mono h,i⟩
theorem fn_meth {P:Program} {w:World} {K:PySem.W.Frag} {mg:Str→Option Value} {base:Heap} {k:Nat} {c m qual:Str} {st:Stmt} {C fa:Addr} {fd:FuncData} {N ps:List Str} {g:DSt→Out} (F:Fun K m qual st fa fd) (S:FnScope N ps (defScope st))
  (hc:PySem.W.nsIn K mainGlobals c=some (some (.ref C))) (cl:Cls K C) (hm:Meth K C m fa) (hb:Binds K fd ps [])
  (body:∀ (cdv:Value) (A:Around) (outer:List Env) (s:Shared) (H:Hp) (E:XK),Room k (A.deeper (envOfC qual (defScope st) s.heap.objs.size fa cdv))→
   XSs (cxOf CX0 P w K mg base N qual (defScope st) fa cdv A outer s H E).nox xwF (defBody st) g):MtK P w K mg base (k+1) c m ps.length (runD N.length g):=
 ⟨C,fa,fd,ps,hc,cl,hm,fn_law F S body,hb⟩
def MtKs (X:Cx) (k:Nat) (m:Str) (n:Nat) (tb:List (Str×(List D→Res D))):Prop:=∀ c g,tb.lookup c=some g→MtK X.prog X.w X.K X.mg X.base k c m n g
theorem mts_nil {k n:Nat}:MtKs X k m n []:=fun c g e=>by simp at e
theorem mts_cons {k n:Nat} {c:Str} {g:List D→Res D} {tb:List (Str×(List D→Res D))} (F:MtK X.prog X.w X.K X.mg X.base k c m n g) (t:MtKs X k m n tb):MtKs X k m n ((c,g)::tb):=fun c' g' e=>by
 rw [List.lookup_cons] at e
 cases hx:c'==c with
 |true=>
  rw [hx] at e
  have e':g=g':=Option.some.inj e
  have ec:c'=c:=by simpa using hx
  subst e';subst ec
  exact F
 |false=>rw [hx] at e;exact t c' g' e
def mthR (m:Str) (tb:List (Str×(List D→Res D))):D→Res D
 | .obj c ks ds=>if m∈ks then .stuck else match tb.lookup c with
  |some g=>(match g [.obj c ks ds] with| .ok d=> .ok d|_=> .stuck)
  |none=> .stuck
 |_=> .stuck
theorem look_none {fl:List (Str×V)} {m:Str} (h:m∉fl.map (·.1)):fl.lookup m=none:=by
 induction fl with
 |nil=>rfl
 |cons p fl ih=>
  rw [List.map_cons,List.mem_cons,not_or] at h
  obtain ⟨k,v⟩:=p
  rw [List.lookup_cons]
  have:(m==k)=false:=by simpa using h.1
  rw [this]
  exact ih h.2
theorem x_meth0 {pl:Sem Bool} {k:Nat} {tb:List (Str×(List D→Res D))} (F:MtKs X k m 1 tb) (hr:Room k X.A) (he:XE X xw o f)
  (ht:eval (.Call (.Attribute o m apos) [] [] pos) X.env=(do
   let ov ←eval o X.env
   standAt apos.atName
   let (f,first) ←holding [ov] (getMethod ov m pl)
   callWith pos f first (backTo pos (starEach [] X.env)) (backToKw pos (keywordEach [] X.env))):=by rfl):
  XE X xw (.Call (.Attribute o m apos) [] [] pos) (b1 (mthR m tb) f):=⟨by
 intro pins s σ H Q I ⟨W₀,H₀,W,δ,st,q⟩
 have hh:=he.h pins s σ H (fun x H1=>∃ a C dx fl g ff fd ps W',x= .ref a∧H1 a=some (.ins C dx fl)∧fl.lookup m=none∧Cls X.K C∧Meth X.K C m ff∧FnOk X.prog X.w X.K X.mg X.base CX0 k ff fd ps (spD X.K 1 g)∧Binds X.K fd ps []∧WL W' H1∧∃ d,Has X.K W' H1 d (.ref a)∧match g [d] with
   | .ok d=>∀ v H',Same H1 H'→Has X.K W' H' d v→Q v H'
   |_=>False) I (one_readE st q fun H2 d v k w st2 hv _ q2=>by
  unfold mthR at q2
  cases d with
  |obj c' ks ds=>
   dsimp only at q2
   split at q2
   ·exact q2.elim
   ·rename_i hks
    split at q2
    ·rename_i g hg
     have hv':=hv
     rw [Has] at hv'
     obtain ⟨ar,C,dx,fl,rfl,hn,hH,_,rfl,hL⟩:=hv'
     obtain ⟨C',ff,fd,ps,hn',cl,me,ok,bi⟩:=(F c' g hg).ex
     rw [hn] at hn'
     cases hn'
     refine ⟨ar,C,dx,fl,g,ff,fd,ps,W,rfl,hH,look_none hks,cl,me,ok,bi,w,_,hv,?_⟩
     cases hq:g [.obj c' (fl.map (·.1)) ds] with
     |ok d=>rw [hq] at q2;exact q2
     |ex c fs=>rw [hq] at q2;exact q2.elim
     |stuck=>rw [hq] at q2;exact q2.elim
    ·exact q2.elim
  |_=>exact q2.elim)
 refine PySem.W.methodCall_KW (pl:=pl) (thn hh fun u s1 ⟨x,H1,I1,rx,a,C,dx,fl,g,ff,fd,ps,W',ex,ea,l,c,hm,Fk,hb,wl,d,hd,q2⟩=> ?_) ht
 subst ex
 obtain rfl:u=Value.ref a:=rx
 refine getmeth_ok I1 ea c hm l ?_
 refine PySem.W.callWith_K0 (first:= [.ref a]) I1.kIn hm.kp (run_fn (us:= [.ref a]) (vs:= [.ref a]) (dvs:= []) (ds:= []) Fk hr hb .nil pass0 I1 (.cons rfl .nil) ?_)
 refine ⟨rfl,W',[d],wl,?_,?_⟩
 ·rw [HasL];exact ⟨.ref a,[],rfl,hd,by rw [HasL]⟩
 ·exact q2⟩
end
end L3
namespace L3
open PySem PyProof.Rows
section
variable {prog:Program} {w:World} {A:Around} {E:Value→Shared→Prop} {s:Shared} {T:String} {r d:Addr} {n:Nat} {P:Nat→Value→Prop} {OK:Heap→Prop}
theorem kd_collect {Q:List Value→Shared→Prop} (K:PySem.W.KdlSrc prog w T r d n P OK) (hh:A.handled=none) (hok:OK s.heap) (hn:n≤sizeLine)
  (h:∀ h' tk acc,(∀ b o,s.heap.get? b=some o→h'.get? b=some o)→s.heap.objs.size<h'.objs.size→ItemsOf P acc n→Q acc.toList {s with heap:=h',toks:=tk}):
  wpAny (model prog w) A (collect (.ref r)) Q E s:=by
 generalize hg:s.heap.push {cls:= .type "list",data:= .seq ([]:List Value).toArray}=h1
 have k1:∀ b o,s.heap.get? b=some o→h1.get? b=some o:=fun b o e=>by rw [←hg];exact Heap.get?_push_of_some _ e
 have n1:h1.get? s.heap.objs.size=some {cls:= .type "list",data:= .seq #[]}:=by rw [←hg];exact Heap.get?_push_size _ rfl
 have hlt:=K.there _ hok
 unfold collect
 refine wpAny_bind (wpAny_runValue (codeAny_builtin PySem.F.entry_proto_collect ?_));rw [Around.under_plainId PySem.F.plain_proto_collect _]
 show wpAny _ A.in1 (newList [] >>= fun l=>again (.builtin "list.__iadd__" ⟨[l, .ref r],[]⟩)) _ _ s
 refine wpAny_bind (wpAny_newObj_type (wpAny_pure ⟨plainId_quiet PySem.F.plain_list_iadd _,codeAny_builtin PySem.F.entry_list_iadd ?_⟩));rw [Around.under_plainId PySem.F.plain_list_iadd _,hg]
 show wpAny _ A.in1 (Builtin.List.listExtendWith (.ref s.heap.objs.size) (.ref r) (.ref s.heap.objs.size)) _ _ {s with heap:=h1}
 refine PySem.W.kdl_extend (s:= {s with heap:=h1}) (R:=fun r s'=>match r with
  | .ok (.ret v)=>wpAny (model prog w) A (match v with
   | .ref a=>(load a >>= fun o=>match o.data with
    | .seq xs _=>pure xs.toList
    |_=>unsupported "internal:collect")
   |_=>unsupported "internal:collect") Q E s'
  | .ok _=>False
  | .error e=>E e s') K hh (K.keep _ _ hok fun b _ o e=>k1 b o e) s.heap.objs.size (Nat.ne_of_gt hlt.1) (Nat.ne_of_gt hlt.2) _ _ n1 (fun h' tk acc c hk hS hacc=> ?_) hn
 show wpAny _ A (load s.heap.objs.size >>= _) _ _ _
 refine wpAny_bind (wpAny_load hS (wpAny_pure ?_))
 exact h h' tk acc (fun b o e=>hk b o (Nat.ne_of_lt (Heap.lt_size e)) (k1 b o e)) (Heap.lt_size hS) hacc
theorem sorted_src {ss:List Str} {Q:Value→Shared→Prop} (K:PySem.W.KdlSrc prog w T r d n P OK) (hh:A.handled=none) (hok:OK s.heap) (hn:n<64) (hP:∀ acc:Array Value,ItemsOf P acc n→StrsAre acc.toList ss)
  (h:∀ h' tk p (out:List Value) (ss':List Str) (e:Nat),StrsAre out ss'→ss'.Perm ss→sortedS ss'=true→h'.get? p=some (seqObj "list" out.toArray e)→s.heap.objs.size≤p→(∀ b o,s.heap.get? b=some o→h'.get? b=some o)→
   Q (.ref p) {s with heap:=h',toks:=tk}):wpAny (model prog w) A (call (.builtin "sorted") [.ref r]) Q E s:=by
 refine Calls.call_function_entry kind_sorted plain_sorted entry_sorted (args_sorted1 _) ?_
 unfold Builtin.«sorted»
 refine wpAny_bind (m:=checkCount "sorted" 1 1 _) (wpAny_pure ?_)
 refine wpAny_bind (kd_collect K (by simpa using hh) hok (by rw [sizeLine_eq];omega) fun h1 tk acc k1 z1 hacc=> ?_)
 have hS:=hP acc hacc
 have hl:acc.toList.length<64:=by rw [Array.length_toList,hacc.1];exact hn
 generalize acc.toList=vs at*
 refine wpAny_bind (wpAny_newList ?_ (by rw [sizeLine_eq];omega))
 have n1:(h1.push {cls:= .type "list",data:= .seq vs.toArray}).get? h1.objs.size=some (seqObj "list" vs.toArray 0):=Heap.get?_push_size _ rfl
 refine wpAny_bind (wpAny_holding (wpAny_call_entry slot_list_sort ⟨_,n1,rfl⟩ entry_list_sort (list_sort_treeK strKind_oneLt n1 hS.keysOf (fun v₁ v₂ rest e=>keyKind_strs (by rw [←e];exact hS)) hl fun st' hp hs=>⟨_,rfl,wpAny_pure ⟨_,rfl,?_⟩⟩) (args_list_sort _)))
 obtain ⟨ss',a1,a2,a3⟩:=sorted_out_str hS hp hs
 obtain ⟨e,he⟩:=sortedHeap_at (out:=(arrOf st').map (·.2)) n1
 have old:∀ b o,s.heap.get? b=some o→b<h1.objs.size∧b≠h1.objs.size:=fun b o q=>⟨Heap.lt_size (k1 _ _ q),Nat.ne_of_lt (Heap.lt_size (k1 _ _ q))⟩
 refine h _ tk h1.objs.size ((arrOf st').map (·.2)).toList ss' e a1 a2 a3 (by rw [Array.toArray_toList];exact he) (Nat.le_of_lt z1) fun b o q=> ?_
 rw [sortedHeap_old (old b o q).2 (by rw [size_push'];exact Nat.lt_succ_of_lt (old b o q).1)]
 exact Heap.get?_push_of_some _ (k1 _ _ q)
end
end L3
namespace L3
open PySem PySem.Spec PyProof.Rows L2 SeqAt
def leS (a b:Str):Bool:= !decide (b.cps.toList<a.cps.toList)
def srtS (xs:List Str):List Str:=xs.mergeSort leS
theorem leS_trans (a b c:Str) (h1:leS a b=true) (h2:leS b c=true):leS a c=true:=by
 unfold leS at*
 simp only [Bool.not_eq_true',decide_eq_false_iff_not] at*
 intro h
 rcases strKind.negTrans c.cps.toList b.cps.toList a.cps.toList (decide_eq_true h) with z|z
 ·exact h2 (of_decide_eq_true z)
 ·exact h1 (of_decide_eq_true z)
theorem leS_total (a b:Str):(leS a b||leS b a)=true:=by
 unfold leS
 by_cases h:b.cps.toList<a.cps.toList
 ·have:¬ a.cps.toList<b.cps.toList:=fun z=>List.lt_irrefl _ (List.lt_trans h z)
  simp [this]
 ·simp [h]
theorem leS_anti (a b:Str) (h1:leS a b=true) (h2:leS b a=true):a=b:=by
 unfold leS at*
 simp only [Bool.not_eq_true',decide_eq_false_iff_not] at*
 have e:=List.le_antisymm (List.not_lt.mp h1) (List.not_lt.mp h2)
 cases a;cases b
 congr 1
 exact Array.toList_inj.mp e
theorem srtS_pw (xs:List Str):(srtS xs).Pairwise fun a b=>leS a b=true:=List.pairwise_mergeSort leS_trans leS_total xs
theorem srtS_perm (xs:List Str):(srtS xs).Perm xs:=List.mergeSort_perm xs leS
theorem rising_pw:∀ (p:Str) (l:List Str),risingS p l=true→(p::l).Pairwise fun a b=>leS a b=true
 |p,[],_=>by simp
 |p,x::r,h=>by
  rw [risingS,Bool.and_eq_true] at h
  have ih:=rising_pw x r h.2
  have hx:leS p x=true:=by
   have:=h.1
   rw [ltCps_eq] at this
   exact this
  refine List.pairwise_cons.mpr ⟨fun y hy=> ?_,ih⟩
  rcases List.mem_cons.mp hy with rfl|hy
  ·exact hx
  ·exact leS_trans p x y hx ((List.pairwise_cons.mp ih).1 y hy)
theorem sorted_uniq {ss ss':List Str} (hp:ss'.Perm ss) (hs:sortedS ss'=true):ss'=srtS ss:=by
 have h1:ss'.Pairwise fun a b=>leS a b=true:=by
  cases ss' with
  |nil=>simp
  |cons x r=>exact rising_pw x r hs
 exact List.Perm.eq_of_pairwise (fun a b _ _=>leS_anti a b) h1 (srtS_pw ss) (hp.trans (srtS_perm ss).symm)
theorem srtS_eq {xs ys:List Str} (h:xs.Perm ys):srtS xs=srtS ys:=
 List.Perm.eq_of_pairwise (fun a b _ _=>leS_anti a b) (srtS_pw xs) (srtS_pw ys) (((srtS_perm xs).trans h).trans (srtS_perm ys).symm)
def strKs:List Key→Option (List Str)
 | []=>some []
 | .inr x::ks=>(strKs ks).map (x:: ·)
 |_=>none
theorem strKs_map:∀ {ks:List Key} {ss:List Str},strKs ks=some ss→ks=ss.map Sum.inr
 | [],ss,h=>by cases h;rfl
 | .inl i::ks,ss,h=>by cases h
 | .inr x::ks,ss,h=>by
  obtain ⟨r,hr,rfl⟩:=Option.map_eq_some_iff.mp (show (strKs ks).map (x:: ·)=some ss from h)
  rw [strKs_map hr];rfl
section
variable {X:Cx} {xw:XW} {e:Expr} {f:DSt→Res D} {p pos:Pos}
theorem strs_vals {us:List Value} {ss:List Str} (h:StrsAre us ss):Vals (ss.map V.str) us:=by
 induction h with
 |nil=>exact .nil
 |cons x t h ih=>exact .cons ⟨_,rfl⟩ ih
theorem vals_strs:∀ {us:List Value} {ss:List Str},Vals (ss.map V.str) us→StrsAre us ss
 |us,[],h=>by cases h;exact .nil
 |us,x::ss,h=>by
  cases h with
  |cons h1 t=>
   obtain ⟨tk,rfl⟩:=h1
   exact .cons _ _ (vals_strs t)
theorem pe_sortK {te:TE} (hc:X.calm=true) (hm:X.mg "sorted"=none) (hg:Gl X "sorted") (h:PE X e te)
  (he:starEach [e] X.env=(false,eval e X.env)::starEach [] X.env) (hpl:(backTo pos (starEach [] X.env)).any (·.1)=false):
  PE X (.Call (.Name "sorted" p) [e] [] pos) (fun σ H Q=>te σ H fun x H1=>∃ a o kvs ss,x= .ref a∧H1 a=some (.frz o (.dK kvs))∧kvs.map (·.1)=ss.map Sum.inr∧kvs.length<64∧∀ n,H1 n=none→Q (.ref n) (upd H1 n (.lst ((srtS ss).map V.str)))):=by
 intro pins s σ H Q I q
 refine wpAny_Call_Name_kw (ld_blt I hg hm (show bootBuiltins "sorted"=some (.builtin "sorted") by decide +kernel) ?_)
 refine PyProof.Rows.callWith_builtin1 ?_ he hpl
 rw [he]
 show wpAny _ _ (spliced ((false,eval _ X.env)::backTo pos (starEach [] X.env))) _ _ s
 refine Calls.spliced_cons (thn (h pins s σ H _ I q) fun v s1 ⟨x,H1,I1,r1,q1⟩=> ?_)
 refine Calls.spliced_nil ?_
 obtain ⟨a,o,kvs,ss,rfl,hq,hks,hn,qn⟩:=q1
 cases r1
 obtain ⟨h1',_,hS,vs',r',o',es,ep,g1,g2,g3,g4⟩:=(show _∧_ from I1.hok a _ hq)
 rw [h1'] at g1;cases g1
 obtain ⟨hs,vs,rel,dat⟩:=frz_at I1.hok hq g3
 have hl:=kv_len rel
 refine sorted_src (ss:=ss) (s:=s1) (PySem.W.kdl_dict (prog:=X.prog) (w:=X.w) (d:=a) (knd:=mixKind X.prog X.w) (kvs:=vs) (ep:=ep) hs) (I1.ok.hd hc) dat (by rw [←hl];exact hn) (fun acc hacc=> ?_) fun h' tk pp out ss' e a1 a2 a3 hget hsz kk=> ?_
 ·obtain ⟨e1,e2⟩:=hacc
  refine vals_strs ?_
  have em:ss.map V.str=kvs.map fun q=>kV q.1:=by
   have:=congrArg (List.map kV) hks
   rw [List.map_map,List.map_map] at this
   exact this.symm
  rw [em]
  refine vals_of (by have e9:acc.toList.length=vs.length:=e1;rw [List.length_map,e9];exact hl) fun i x u hx hu=> ?_
  rw [List.getElem?_map] at hx
  obtain ⟨q,hq',rfl⟩:=Option.map_eq_some_iff.mp hx
  rw [Array.getElem?_toList] at hu
  obtain ⟨k,y,ek,hk⟩:=e2 i u hu
  obtain ⟨y2,e3,_⟩:=kv_at rel hq'
  rw [e3] at ek
  cases ek
  exact is_key hk
 ·have es:=sorted_uniq a2 a3
  subst es
  refine ⟨.ref pp,_,I1.laid (t':=tk) (o:= .lst ((srtS ss).map V.str)) (fun b u e=>kk b u e) hsz ?_,rfl,qn _ (I1.hok.fresh hsz)⟩
  have lz:(srtS ss).length<64:=by
   rw [(srtS_perm ss).length_eq,←List.length_map (f:=(Sum.inr:Str→Key)),←hks,List.length_map];exact hn
  exact ⟨by rw [List.length_map,sizeLine_eq];omega,out,e,strs_vals a1,hget⟩
theorem strs_hasL {K:PySem.W.Frag} {W:WS} {H:Hp}:∀ xs:List Str,HasL K W H (xs.map D.str) (xs.map V.str)
 | []=>by rw [List.map_nil,List.map_nil,HasL]
 |x::xs=>by rw [List.map_cons,List.map_cons,HasL];exact ⟨_,_,rfl,by rw [Has],strs_hasL xs⟩
noncomputable def sortK:D→Res (List D)
 | .dct ks _=>match strKs ks with
  |some ss=>if ss.length<64 then .ok ((srtS ss).map D.str) else .stuck
  |none=> .stuck
 |_=> .stuck
theorem f_sortK (hc:X.calm=true) (hm:X.mg "sorted"=none) (h:XE X xw e f) (hg:Gl X "sorted":=by rfl)
  (he:starEach [e] X.env=(false,eval e X.env)::starEach [] X.env:=by rfl) (hpl:(backTo pos (starEach [] X.env)).any (·.1)=false:=by rfl):
  XF X xw (.Call (.Name "sorted" p) [e] [] pos) (b1Q sortK f):=
 ⟨PE.weak (pe_sortK hc hm hg h.h he hpl) fun σ H Q ⟨W₀,H₀,W,δ,st,q⟩=>by
  refine ⟨W₀,H₀,W,δ,st,?_⟩
  unfold b1Q at q
  cases h1:f δ with
  |stuck=>rw [h1] at q;exact q
  |ex c fs=>rw [h1] at q;exact q
  |ok d=>
   rw [h1] at q
   intro v H1 k1 hv
   have q':RF X.K xw W H (sortK d) Q:=q
   unfold sortK at q'
   split at q'
   ·rename_i ks ds
    split at q'
    ·rename_i ss hss
     split at q'
     ·rename_i hn
      rw [Has] at hv
      obtain ⟨a,kvs,rfl,⟨o,ho⟩,hk,_⟩:=hv
      have hks:=strKs_map hss
      have hl:kvs.length=ss.length:=by rw [←List.length_map (f:=(·.1)),hk,hks,List.length_map]
      refine ⟨a,o,kvs,ss,rfl,ho,by rw [hk,hks],by omega,fun n hn1=> ?_⟩
      exact q' n _ H1 k1 hn1 (strs_hasL (srtS ss))
     ·exact q'.elim
    ·exact q'.elim
   ·exact q'.elim⟩
theorem RSO.less {K:PySem.W.Frag} {xw:XW} {W₀ W W1:WS} {H₀ H:Hp} {o:Out} {Dn:Ends} (hw:∀ b,W1 b→W b) (q:RSO K xw W₀ H₀ W H o Dn):RSO K xw W₀ H₀ W1 H o Dn:=by
 cases o with
 |rt d=>cases d<;>exact q
 |nx δ=>exact RS.less (xw:=xw) (o:= .nx δ) hw q
 |bk δ=>exact RS.less (xw:=xw) (o:= .bk δ) hw q
 |ct δ=>exact RS.less (xw:=xw) (o:= .ct δ) hw q
 |ex c fs=>exact q
 |stuck=>exact q
theorem so_frzL (i:Nat) {sts:List Stmt} {g:DSt→Out} (h:XSO X xw sts g):XSO X xw sts (sFrzL i g):=⟨PSs.weak h.h fun Dn σ H ⟨W₀,H₀,W,δ,st,q⟩=>by
 have q':RSO X.K xw W₀ H₀ W H (g (frzL i δ)) Dn:=q
 unfold frzL at q'
 split at q'
 ·rename_i ds h
  obtain ⟨v,e,a,xs,r1,r2,r3,r4,r5⟩:=st.at' i _ h
  subst r1
  obtain ⟨st2,hd⟩:=st.freeze h e
  exact ⟨W₀,H₀,_,_,st2,RSO.less (fun b z=>z.1) q'⟩
 ·exact ⟨W₀,H₀,W,δ,st,q'⟩⟩
def sAllStr (i j:Nat):DSt→Out:=fun δ=>match δ[i]? with
 |some (some (.o ds))=>match strsOf ds with
  |some xs=>if j<δ.length then .nx (match xs.length with
   |0=>δ
   |n+1=>δ.set j (some (.d (.str (xs.getD n ""))))) else .stuck
  |none=> .stuck
 |_=> .stuck
theorem s_allStr (i j:Nat) {x L:Str} {p1 p2 p3 p4 p5 p6 p7 p8 p9:Pos} {sts:List Stmt} (hp:PassesOwn (model X.prog X.w) X.A X.env X.xe) (hc:X.calm=true) (hm:X.mg "isinstance"=none) (hm2:X.mg "str"=none) (hNd:X.N.Nodup)
  (hg:Gl X "isinstance":=by rfl) (hg2:Gl X "str":=by rfl) (hNi:X.N[i]? =some L:=by rfl) (hNj:X.N[j]? =some x:=by rfl)
  (hvi:Vis X.env.scope L:=by first|exact Or.inl rfl|exact Or.inr (Or.inl rfl)|exact Or.inr (Or.inr rfl)) (hvj:Vis X.env.scope x:=by first|exact Or.inl rfl|exact Or.inr (Or.inl rfl)|exact Or.inr (Or.inr rfl))
  (hlj:Loc X.env.scope x:=by first|exact Or.inl rfl|exact Or.inr rfl) (hf:X.fn x=true∨X.env.scope.names.lookup x=some .local:=by first|exact .inl rfl|exact .inr rfl|assumption)
  (d1:(L==("__debug__":Str))=false:=by decide) (d2:(L==("__classdict__":Str))=false:=by decide) (d3:(x==("__debug__":Str))=false:=by decide) (d4:(x==("__classdict__":Str))=false:=by decide)
  (he:starEach [.Name x p4, .Name "str" p5] X.env=(false,eval (.Name x p4) X.env)::starEach [.Name "str" p5] X.env:=by rfl) (he2:starEach [.Name "str" p5] X.env=(false,eval (.Name "str" p5) X.env)::starEach [] X.env:=by rfl)
  (hpl:(backTo p6 (starEach [.Name "str" p5] X.env)).any (·.1)=false:=by rfl) (hs:∀ z,foldedSetIterable (.Name L p2) X.env z=pure z:=by intro _;rfl)
  (ht:∀ whole,isTrue (.Call (.Name "isinstance" p3) [.Name x p4, .Name "str" p5] [] p6) X.env whole=(do let v ←whole;standAt (Expr.Call (.Name "isinstance" p3) [.Name x p4, .Name "str" p5] [] p6).pos;holding [v] (truthy v)):=by intro _;rfl):
  XS X xw (.For (.Name x p1) (.Name L p2) [.If (.UnaryOp .Not (.Call (.Name "isinstance" p3) [.Name x p4, .Name "str" p5] [] p6) p7) sts [] p8] [] p9) (sAllStr i j):=⟨by
 refine PS.weak (ps_for hp hc (pi_list (pe_var hNi hvi d1 d2)) (pg_name hNd hNj hlj hf) (pss_one (ps_if (pt_not (pt_val (pe_callB (call_isi isi_str) hg hm (by decide +kernel) (pa_cons (pe_var hNj hvj d3 d4) (pa_cons (pe_bltn (v:= .ty "str") hg2 hm2 (by decide +kernel) rfl (by decide) (by decide)) pa_nil he2) he) (by decide) (by decide) he hpl) ht)) pss_never pss_nil)) hs) fun Dn σ H ⟨W₀,H₀,W,δ,st,q⟩=> ?_
 unfold sAllStr at q
 split at q
 ·rename_i ds hδ
  split at q
  ·rename_i xs hxs
   split at q
   rotate_left
   ·exact q.elim
   rename_i hjl
   obtain ⟨v,e,a,vs,r1,r2,r3,r4,r5⟩:=st.at' i _ hδ
   subst r1
   have hv:vs=xs.map V.str:=strsOf_has hxs r5
   subst hv
   have sq:SqL X.K H a (xs.map V.str):= .inl (.inl r4)
   refine ⟨.ref a,e,a,rfl,⟨_,sq⟩,fun k m σ' H'=>H'=H∧m=xs.length-k∧k≤xs.length∧σ'=(match k with|0=>σ|n+1=>σ.set j (some (.str (xs.getD n "")))),⟨_,rfl,rfl,Nat.zero_le _,rfl⟩,?_⟩
   rintro k m σ' H' ⟨rfl,rfl,hk,hσ⟩
   by_cases hl:k<xs.length
   ·right
    have ek:(xs.map V.str)[k]? =some (.str xs[k]):=by rw [List.getElem?_map,List.getElem?_eq_getElem hl];rfl
    refine ⟨⟨_,_,sq,ek⟩,fun σ2 H2=>H2=H'∧σ2=σ.set j (some (.str (xs.getD k ""))),fun σ2 H2 ⟨a1,a2⟩=>⟨xs.length-(k+1),by omega,a1,rfl,hl,a2⟩,fun z H3 ⟨y1,y2⟩=> ?_⟩
    subst y1
    have ez:z= .str xs[k]:=by have:=y2 _ sq;rw [ek] at this;exact (Option.some.inj this).symm
    subst ez
    have es:σ'.set j (some (.str xs[k]))=σ.set j (some (.str (xs.getD k ""))):=by
     have eg:xs.getD k ""=xs[k]:=by rw [List.getD_eq_getElem?_getD,List.getElem?_eq_getElem hl];rfl
     rw [eg,hσ]
     cases k with
     |zero=>rfl
     |succ n=>exact List.set_set ..
    show gName j (.str xs[k]) σ' H3 _
    have hj:j<σ'.length:=by
     rw [hσ]
     cases k with
     |zero=>rw [st.len];exact hjl
     |succ n=>rw [List.length_set,st.len];exact hjl
    refine ⟨.str xs[k],by rw [List.getElem?_set_self hj],⟨fun _=>False, .str xs[k], .str xs[k],"str",rfl, .inl (by rw [Has]),rfl,true,rfl,?_⟩⟩
    show tNext _ _ _
    exact ⟨rfl,es⟩
   ·left
    have ek:k=xs.length:=by omega
    subst ek
    refine ⟨⟨_,sq,by rw [List.length_map];exact Nat.le_refl _⟩,?_⟩
    refine q W H' σ' Step.refl ?_
    rw [hσ]
    cases hn:xs.length with
    |zero=>exact st
    |succ n=>exact st.set (by rw [Has])
  ·exact q.elim
 ·exact q.elim⟩
end
end L3
namespace L3
open PySem PySem.SeqAt PySem.MeetsSeq PySem.MeetsSeq2 PySem.MeetsSeq3
section
variable {P:Program} {w:World}
def EqIn (P:Program) (w:World) (A:Around) (s:Shared) (y x:Value) (b:Bool):Prop:=∀ (E:Value→Shared→Prop) (Q:Bool→Shared→Prop),Q b s→wpAny (model P w) A (eqBool y x) Q E s
abbrev LAt (s:Shared) (l:Addr) (its:Array Value) (n:Nat) (dd:Option Addr) (sl:Array (Option Value)):Prop:=s.heap.get? l=some {cls:= .type "list",dict:=dd,data:= .seq its n,slots:=sl}
theorem neIn_loop {l b:Addr} {xs ys:Array Value} {n n2:Nat} {dd dd2:Option Addr} {sl sl2:Array (Option Value)} (hsz:xs.size=ys.size) (e:Nat→Bool) (k:Nat):∀ i,xs.size-i=k→
  MeetsIn P w (Builtin.«list.__eq__.loop» ⟨[.ref l, .ref b,rawInt i,rawInt 3],[]⟩) fun A R s=>LAt s l xs n dd sl∧LAt s b ys n2 dd2 sl2∧(∀ j (h1:j<xs.size) (h2:j<ys.size),EqIn P w A.in1 s xs[j] ys[j] (e j))∧
   R (.ok (.ret (.bool (!((List.range xs.size).drop i).all e)))) s:=by
 induction k with
 |zero=>
  rintro i hk A R ⟨hp,g,d,tk,os⟩ ⟨hl,hb,he,h⟩
  have g1:xs[((i:Nat):Int).toNat]? =none:=by simp;omega
  have g2:ys[((i:Nat):Int).toNat]? =none:=by simp;omega
  rw [show (List.range xs.size).drop i= [] by simp;omega] at h
  wp_walk using AutoSeq1.wpAny_loadPart' hl,AutoSeq1.wpAny_loadPart' hb
  rw [g1,g2]
  wp_walk using AutoSeq1.wpAny_loadPart' hl,AutoSeq1.wpAny_loadPart' hb
  show R (.ok (.ret (.bool (xs.size != ys.size)))) _
  rw [hsz]
  simpa using h
 |succ k ih=>
  rintro i hk A R ⟨hp,g,d,tk,os⟩ ⟨hl,hb,he,h⟩
  have z1:i<xs.size:=by omega
  have z2:i<ys.size:=by omega
  have g1:xs[((i:Nat):Int).toNat]? =some xs[i]:=by simp [z1]
  have g2:ys[((i:Nat):Int).toNat]? =some ys[i]:=by simp [z2]
  rw [show (List.range xs.size).drop i=i::(List.range xs.size).drop (i+1) by simp [List.drop_eq_getElem_cons,z1],List.all_cons] at h
  wp_walk using AutoSeq1.wpAny_loadPart' hl,AutoSeq1.wpAny_loadPart' hb
  rw [g1,g2]
  refine wpAny_bind (he i z1 z2 _ _ ?_)
  cases hc:e i with
  |true=>
   rw [hc] at h
   wp_walk
   rw [show ((i:Int)+1)=((i+1:Nat):Int) by push_cast;rfl]
   refine ⟨plainId_quiet plain_eq_loop _,codeAny_builtin entry_eq_loop ?_⟩
   rw [Around.under_plainId plain_eq_loop _]
   exact ih (i+1) (by omega) A R _ ⟨hl,hb,he,by simpa using h⟩
  |false=>
   rw [hc] at h
   wp_walk using AutoSeq1.wpAny_loadPart' hl,AutoSeq1.wpAny_loadPart' hb
   rw [g1,g2]
   wp_walk
   simpa using h
theorem neIn {l b:Addr} {xs ys:Array Value} {n n2:Nat} {dd dd2:Option Addr} {sl sl2:Array (Option Value)} (hsz:xs.size=ys.size) (e:Nat→Bool):
  MeetsIn P w (Builtin.«list.__ne__» ⟨[.ref l, .ref b],[]⟩) fun A R s=>LAt s l xs n dd sl∧LAt s b ys n2 dd2 sl2∧(∀ j (h1:j<xs.size) (h2:j<ys.size),EqIn P w A.in1 s xs[j] ys[j] (e j))∧
   R (.ok (.ret (.bool (!(List.range xs.size).all e)))) s:=by
 rintro A R ⟨hp,g,d,tk,os⟩ ⟨hl,hb,he,h⟩
 have f3:=AutoSeq1.sub_list_list
 have hne:¬ (xs.size != ys.size)=true:=by simp [hsz]
 wp_walk using AutoSeq1.wpAny_loadPart' hl,AutoSeq1.wpAny_loadPart' hb
 refine ⟨plainId_quiet plain_eq_loop _,codeAny_builtin entry_eq_loop ?_⟩
 rw [Around.under_plainId plain_eq_loop _]
 exact neIn_loop hsz e _ 0 rfl A R _ ⟨hl,hb,he,by simpa using h⟩
theorem ne_lists {A:Around} {E:Value→Shared→Prop} {s:Shared} {Q:Value→Shared→Prop} {l b:Addr} {xs ys:Array Value} {e:Nat→Bool} (hl:s.heap.IsList l xs) (hb:s.heap.IsList b ys) (hsz:xs.size=ys.size) (hu:A.units<cLine)
  (he:∀ j (h1:j<xs.size) (h2:j<ys.size),EqIn P w A.in1 s xs[j] ys[j] (e j)) (h:Q (.bool (!(List.range xs.size).all e)) s):wpAny (model P w) A (richCompare .NotEq (.ref l) (.ref b)) Q E s:=by
 obtain ⟨⟨cls,dd,data,sl⟩,ho,hc,n,hd⟩:=id hl
 obtain ⟨⟨cls2,dd2,data2,sl2⟩,ho2,hc2,n2,hd2⟩:=id hb
 simp only at hc hd hc2 hd2
 subst hc hd hc2 hd2
 exact wpAny_richCompare_same_room (op:= .NotEq) (T:="list") ⟨_,ho,rfl⟩ ⟨_,ho2,rfl⟩ F.slot_list_ne (call_meetsIn F.slot_list_ne ⟨_,ho,rfl⟩ F.entry_list_ne (F.args_list_ne_2 _ _) (neIn hsz e) ⟨ho,ho2,he,⟨(fun x=>nomatch x),h⟩⟩) hu
end
end L3
namespace L3
open PySem PySem.Spec PyProof.Rows L2 SeqAt
def tabOf:D→Option (List (Key×D))
 | .dct ks ds=>if ds.all (shal 39)=true then some (ks.zip ds) else none
 |_=>none
def eqTs:List D→List D→Option Bool
 | [],[]=>some true
 |d::ds,e::es=>match tabOf d,tabOf e,eqTs ds es with
  |some l,some m,some b=>some (eqT l m&&b)
  |_,_,_=>none
 |_,_=>none
def neLR (d e:D):Res D:=match d,e with
 | .lst ds, .lst es=>match eqTs ds es with
  |some b=> .ok (.bl (!b))
  |none=> .stuck
 |_,_=> .stuck
section
variable {X:Cx} {xw:XW} {pins:List (Addr×Obj)} {σ:L2.St} {W:WS} {H:Hp} {s:Shared}
theorem all_succ (n:Nat) (f:Nat→Bool):(List.range (n+1)).all f=(f 0&&(List.range n).all fun j=>f (j+1)):=by
 rw [List.range_succ_eq_map,List.all_cons,List.all_map];rfl
theorem eqTs_range:∀ {ds es:List D} {b:Bool},eqTs ds es=some b→ds.length=es.length∧b=(List.range ds.length).all (fun j=>match tabOf (ds.getD j .non),tabOf (es.getD j .non) with|some l,some m=>eqT l m|_,_=>false)∧∀ j,j<ds.length→∃ l m,tabOf (ds.getD j .non)=some l∧tabOf (es.getD j .non)=some m
 | [],[],b,h=>by cases h;exact ⟨rfl,rfl,fun j hj=>absurd hj (Nat.not_lt_zero _)⟩
 | [],e::es,b,h=>by cases h
 |d::ds,[],b,h=>by cases h
 |d::ds,e::es,b,h=>by
  rw [eqTs] at h
  split at h
  ·rename_i l m c h1 h2 h3
   cases h
   obtain ⟨a1,a2,a3⟩:=eqTs_range h3
   refine ⟨by rw [List.length_cons,List.length_cons,a1],?_,fun j hj=> ?_⟩
   ·rw [List.length_cons,all_succ]
    show _=((match tabOf d,tabOf e with|some l,some m=>eqT l m|_,_=>false)&&_)
    rw [h1,h2,a2]
    rfl
   ·cases j with
    |zero=>exact ⟨l,m,h1,h2⟩
    |succ j=>exact a3 j (by rw [List.length_cons] at hj;omega)
  ·cases h
theorem eqT_same (I:Inv X pins σ H s):∀ {l m:List (Key×D)} {kvs:List (Key×V)},HasP X.K W H l kvs→HasP X.K W H m kvs→(kvs.map (·.1)).Nodup→(∀ p∈l,shal 39 p.2=true)→(∀ p∈m,shal 39 p.2=true)→
  ∀ p∈l,∃ y,tGet m p.1=some y∧eqD p.2 y=true
 | [],m,kvs,h1,h2,nd,g1,g2=>fun p hp=>by cases hp
 |q::l,m,kvs,h1,h2,nd,g1,g2=>by
  obtain ⟨v,t,rfl,a1,a2⟩:=h1.cons
  cases m with
  |nil=>have:=h2.1;cases this
  |cons q' m=>
   obtain ⟨k,d⟩:=q
   obtain ⟨k',d'⟩:=q'
   obtain ⟨v',t',e,b1',b2'⟩:=h2.cons
   have ek:k'=k:=by have:=congrArg Prod.fst (List.cons.inj e).1;exact this.symm
   have ev:v'=v:=by have:=congrArg Prod.snd (List.cons.inj e).1;exact this.symm
   have et:t'=t:=(List.cons.inj e).2.symm
   subst ek;subst ev;subst et
   have ek:k'=k':=rfl
   intro p hp
   rcases List.mem_cons.mp hp with rfl|hp
   ·exact ⟨d',tGet_pos ek,eqD_same I 39 (.inl a1) (.inl b1') (g1 _ List.mem_cons_self) (g2 _ List.mem_cons_self)⟩
   ·rw [List.map_cons,List.nodup_cons] at nd
    obtain ⟨y,y1,y2⟩:=eqT_same I a2 b2' nd.2 (fun z hz=>g1 z (List.mem_cons_of_mem _ hz)) (fun z hz=>g2 z (List.mem_cons_of_mem _ hz)) p hp
    refine ⟨y,?_,y2⟩
    rw [tGet_neg (fun z=> ?_)]
    ·exact y1
    ·refine nd.1 ?_
     rw [a2.1]
     exact List.mem_map.mpr ⟨p,hp,z.symm.trans ek⟩
theorem kv_keys {kvs:List (Key×V)} {vs:List (Key×Value)} (r:KV kvs vs):kvs.map (·.1)=vs.map (·.1):=by
 unfold KV at r
 induction r with
 |nil=>rfl
 |cons h _ ih=>rw [List.map_cons,List.map_cons,ih,h.1]
theorem dct_fz {K:PySem.W.Frag} {ks:List Key} {ds:List D} {v:V} (h:Has K W H (.dct ks ds) v):∃ a kvs,v= .ref a∧(∃ o,H a=some (.frz o (.dK kvs)))∧HasP K W H (ks.zip ds) kvs∧(ks.zip ds).map (·.2)=ds:=by
 rw [Has] at h
 obtain ⟨a,kvs,rfl,e,h1,h2⟩:=h
 obtain ⟨p1,p2,p3⟩:=HasP.of h1 h2
 exact ⟨a,kvs,rfl,e,p1,p3⟩
theorem eqAt_dct (I:Inv X pins σ H s) {A:Around} (hu:A.units+41<cLine) {d e:D} {l m:List (Key×D)} {x y:V} {v u:Value} (h1:tabOf d=some l) (h2:tabOf e=some m) (hx:Has X.K W H d x) (hy:Has X.K W H e y) (rx:RelV x v) (ry:RelV y u):
  EqIn X.prog X.w A s v u (eqT l m):=by
 unfold tabOf at h1 h2
 split at h1
 ·split at h2
  ·split at h1
   ·split at h2
    ·rename_i ks1 ds1 _ ks2 ds2 g1 g2
     cases h1;cases h2
     obtain ⟨a,ka,rfl,ra,pa,za⟩:=dct_fz hx
     obtain ⟨b,kb,rfl,rb,pb,zb⟩:=dct_fz hy
     cases rx;cases ry
     obtain ⟨_,sa,va,wa,da⟩:=rd_dk I.hok (.inr ra)
     obtain ⟨_,sb,vb,wb,db⟩:=rd_dk I.hok (.inr rb)
     by_cases hab:a=b
     ·subst hab
      have ek:ka=kb:=by
       obtain ⟨o1,e1⟩:=ra
       obtain ⟨o2,e2⟩:=rb
       rw [e1] at e2
       cases e2
       rfl
      subst ek
      have nd:(ka.map (·.1)).Nodup:=by
       obtain ⟨o,es,ep,ho,ex,dat,ko,prs,nd⟩:=da
       rw [kv_keys wa];exact nd
      have:eqT (ks1.zip ds1) (ks2.zip ds2)=true:=by
       unfold eqT
       rw [pa.len,←pb.len,beq_self_eq_true,Bool.true_and,List.all_eq_true]
       intro p hp
       obtain ⟨y,y1,y2⟩:=eqT_same I pa pb nd (zip_shal za g1) (zip_shal zb g2) p hp
       rw [y1];exact y2
      rw [this]
      exact EqAt.same _ _ _
     ·intro E Q h
      unfold eqBool
      refine wpAny_holding ?_
      refine wpAny_ite_split (fun z=>absurd (by have:=eq_of_beq z;injection this) hab) (fun _=> ?_)
      refine wpAny_bind ?_
      have hits:=hits_D I (A:=A.in1) (by show A.units+1+39<cLine;omega) pb wb (zip_shal zb g2) pa wa (zip_shal za g1)
      refine PySem.W.keq_eq sa sb da db (by omega) (fun _=>hits) ?_
      rw [←kv_len wa,←kv_len wb,←pa.len,←pb.len]
      exact wpAny_truthy_bool h
    ·cases h2
   ·cases h1
  ·cases h2
 ·cases h1
theorem op_neL (hu:X.A.units+42<cLine):OpR X (compareOp .NotEq) (fun x y H Q=>∃ W ds es b,HasT X.K W H (.lst ds) x∧HasT X.K W H (.lst es) y∧eqTs ds es=some b∧Q (.bl (!b)) H):=by
 intro pins s σ H x y v u Q I rx ry h
 obtain ⟨W,ds,es,b,h1,h2,hb,q⟩:=h
 obtain ⟨a,xs,rfl,qa,ra⟩:=h1.lst
 obtain ⟨a',ys,rfl,qa',ra'⟩:=h2.lst
 cases rx;cases ry
 obtain ⟨its,rv,p,_⟩:=I.list qa
 obtain ⟨its',rv',p',_⟩:=I.list qa'
 obtain ⟨e1,e2,e3⟩:=eqTs_range hb
 have l1:its.toArray.size=ds.length:=by rw [List.size_toArray,←rv.length,ra.length]
 have l2:its'.toArray.size=es.length:=by rw [List.size_toArray,←rv'.length,ra'.length]
 have he:∀ j (h1:j<its.toArray.size) (h2:j<its'.toArray.size),EqIn X.prog X.w X.A.in1 s its.toArray[j] its'.toArray[j] (match tabOf (ds.getD j .non),tabOf (es.getD j .non) with|some l,some m=>eqT l m|_,_=>false):=by
  intro j h1 h2
  have z1:j<ds.length:=by omega
  have z2:j<es.length:=by omega
  obtain ⟨x,f1,q1⟩:=ra.get (getD_of z1)
  obtain ⟨y,f2,q2⟩:=ra'.get (getD_of z2)
  obtain ⟨l,m,t1,t2⟩:=e3 j z1
  rw [t1,t2]
  exact eqAt_dct I (by show X.A.units+1+41<cLine;omega) t1 t2 q1 q2 (vals_at rv f1 h1) (vals_at rv' f2 h2)
 refine ne_lists p.isList p'.isList (by rw [l1,l2,e1]) (by omega) he ?_
 rw [l1,←e2]
 exact ⟨.bl _,H,I,rfl,q⟩
theorem c_neL (hu:X.A.units+42<cLine):CmpR X xw .NotEq neLR:=⟨⟨_,op_neL hu,fun W H d e v u Q w hv hu q=>by
  unfold neLR at q
  split at q
  ·split at q
   ·rename_i b hb
    exact ⟨W,_,_,b,hv,hu,hb,q.bl⟩
   ·exact q.elim
  ·exact q.elim⟩,(fun d e z h=>by
   unfold neLR at h
   split at h
   ·split at h<;>cases h;exact ⟨_,rfl⟩
   ·cases h),by decide,by decide⟩
theorem hu42 {A:Around} {k:Nat} (hr:Room k A):A.units+42<cLine:=by have:=hr.units;omega
end
end L3
namespace G
open PySem PySem.Spec PyProof.Rows L2 L3
noncomputable def b__law_cell_at:DSt→Out:=(sSeq (sIf (tR (b2 ltR (slotP 1) (b1 lenR (slotP 0)))) (sRet (b2 ixR (slotP 0) (slotP 1))) Out.nx)
  (sRet (kD (.int 0))))
noncomputable def m__law_cell_at:List D→Res D:=runD 2 b__law_cell_at
noncomputable def b__law_mixed:DSt→Out:=(sSeq (sSet 2 (b2 modD (b2 mulE (b2 addD (b2 modD (slotP 0) (kD (.int 2147483647))) (kD (.int 7))) (b2 addD (kD (.int 48271)) (b2 mulE (kD (.int 2)) (slotP 1)))) (kD (.int 2147483629))))
  (sRet (b2 modD (b2 mulE (slotP 2) (slotP 2)) (kD (.int 2147483587)))))
noncomputable def m__law_mixed:List D→Res D:=runD 3 b__law_mixed
noncomputable def l__law_pin_1:DSt→Out:=(sSeq (sSet 2 (b2 addD (b2 addD (slotP 2) (kD (.int 1))) (b2 modD (b1 (callR 2 m__law_mixed) (aCons (slotD 1) (aCons (b2 addD (kD (.int 5)) (slotP 4)) aNil))) (kD (.int 3)))))
  (sIf (tR (b2 ltR (slotP 2) (b2 ixR (slotP 0) (kD (.int 1))))) (sApp 3 (slotD 2)) Out.nx))
noncomputable def b__law_pin:DSt→Out:=(sSeq (sSet 2 (b2 modD (b1 (callR 2 m__law_mixed) (aCons (slotD 1) (aCons (kD (.int 3)) aNil))) (b2 ixR (slotP 0) (kD (.int 1)))))
  (sSeq (sOwn 3 (b1 lstR (aCons (slotD 2) aNil)))
  (sSeq (sFor (setI 4) l__law_pin_1 (b1 rng1R (aCons (b2 modD (b1 (callR 2 m__law_mixed) (aCons (slotD 1) (aCons (kD (.int 4)) aNil))) (b2 ixR (slotP 0) (kD (.int 2)))) aNil)))
  (sRet (b1 tupofR (slotP 3))))))
noncomputable def m__law_pin:List D→Res D:=runD 5 b__law_pin
noncomputable def e__law_barrel_1:DSt→Res D:=(b1 (callR 2 m__law_pin) (aCons (slotD 1) (aCons (b1 (callR 2 m__law_mixed) (aCons (slotD 2) (aCons (b2 addD (kD (.int 60)) (slotP 0)) aNil))) aNil)))
noncomputable def b__law_barrel:DSt→Out:=(sRet (b1 tupofR (asD (vComp 1 (setI 0) (fun _=> .ok true) e__law_barrel_1 (b1 rng1R (aCons (b2 ixR (slotP 0) (kD (.int 0))) aNil))))))
noncomputable def m__law_barrel:List D→Res D:=runD 2 b__law_barrel
noncomputable def e__law_doors_1:DSt→Res D:=(b2 ixR (b2 ixR (slotP 8) (b2 modD (b1 (callR 2 m__law_mixed) (aCons (slotD 7) (aCons (b2 addD (kD (.int 110)) (slotP 0)) aNil))) (kD (.int 2)))) (slotP 0))
noncomputable def l__law_doors_1:DSt→Out:=(sSeq (sSet 6 (b1 (callR 2 m__law_mixed) (aCons (b1 (callR 2 m__law_cell_at) (aCons (slotD 2) (aCons (b2 addD (kD (.int 6)) (slotP 5)) aNil))) (aCons (b2 addD (kD (.int 90)) (slotP 5)) aNil))))
  (sSeq (sPutI 3 (b2 ixR (slotP 1) (slotP 5)) (b1 (callR 2 m__law_barrel) (aCons (slotD 0) (aCons (slotD 6) aNil))))
  (sSeq (sPutI 4 (b2 ixR (slotP 1) (slotP 5)) (b1 (callR 2 m__law_barrel) (aCons (slotD 0) (aCons (b1 (callR 2 m__law_mixed) (aCons (slotD 6) (aCons (kD (.int 9)) aNil))) aNil))))
  (sSeq (sIf (tR (b2 eqR (b2 modD (slotP 6) (kD (.int 2))) (kD (.int 1)))) (sSeq (sSet 7 (asD (b1 lstR (aCons (b2Q dgetR (slotQ 3) (b2 ixR (slotP 1) (slotP 5))) (aCons (b2Q dgetR (slotQ 4) (b2 ixR (slotP 1) (slotP 5))) aNil)))))
  (sPutI 4 (b2 ixR (slotP 1) (slotP 5)) (b1 tupofR (asD (vComp 1 (setI 0) (fun _=> .ok true) e__law_doors_1 (b1 rng1R (aCons (b2 ixR (slotP 0) (kD (.int 0))) aNil))))))) Out.nx)
  (sSeq (sIf (tR (b2 eqR (b2 modD (b2 fdivD (slotP 6) (kD (.int 2))) (kD (.int 4))) (kD (.int 1)))) (sPutI 3 (b2 ixR (slotP 1) (slotP 5)) (kD .non)) Out.nx)
  (sIf (tR (b2 eqR (b2 modD (b2 fdivD (slotP 6) (kD (.int 8))) (kD (.int 4))) (kD (.int 1)))) (sPutI 4 (b2 ixR (slotP 1) (slotP 5)) (kD .non)) Out.nx))))))
noncomputable def b__law_doors:DSt→Out:=(sSeq (sOwnQ 3)
  (sSeq (sOwnQ 4)
  (sSeq (sFor (setI 5) l__law_doors_1 (b1 rng1R (aCons (b2 modD (b1 (callR 2 m__law_cell_at) (aCons (slotD 2) (aCons (kD (.int 2)) aNil))) (kD (.int 4))) aNil)))
  (sFrz 4 (sFrz 3 (sRet (b1 tupR (aCons (slotD 3) (aCons (slotD 4) aNil)))))))))
noncomputable def m__law_doors:List D→Res D:=runD 8 b__law_doors
noncomputable def e__law_due_1:DSt→Res D:=(slotD 0)
noncomputable def c__law_due_1:DSt→Res Bool:=(tR (b2 gtR (b2 ixR (slotP 10) (slotP 0)) (b2 ixR (slotP 8) (slotP 0))))
noncomputable def l__law_due_1:DSt→Out:=(sIf (tR (b2 ltR (b2 ixR (slotP 8) (slotP 10)) (b2 ixR (slotP 7) (slotP 10)))) (sApp 5 (b2 addD (b2 addD (b2 addD (b2 addD (b2 addD (kD (.str "file ")) (slotP 6)) (kD (.str " "))) (b1 strR (slotP 10))) (kD (.str " "))) (b1 strR (b2 ixR (slotP 7) (slotP 10))))) Out.nx)
noncomputable def l__law_due_2:DSt→Out:=(sSeq (sSet 7 (b2Q dgetR (slotQ 3) (slotP 6)))
  (sSeq (sSet 8 (asD (b2F repR (asD (b1 lstR (aCons (kD (.int 0)) aNil))) (b2 ixR (slotP 0) (kD (.int 0))))))
  (sSeq (sSet 9 (bGet1 (slotQ 1) (aCons (slotD 6) aNil)))
  (sSeq (sIf (tAnd2 (tR (b1 notNR (slotP 9))) (tR (b2 eqR (asD (vComp 1 (setI 0) c__law_due_1 e__law_due_1 (b1 rng1R (aCons (b2 ixR (slotP 0) (kD (.int 0))) aNil)))) (asD (b1 lstR aNil))))) (sSet 8 (slotD 9)) (sApp 5 (b2 addD (kD (.str "blank ")) (slotP 6))))
  (sFor (setI 10) l__law_due_1 (b1 rng1R (aCons (b2 ixR (slotP 0) (kD (.int 0))) aNil)))))))
noncomputable def e__law_due_2:DSt→Res D:=(b1 strR (slotP 0))
noncomputable def l__law_due_3:DSt→Out:=(sIf (tR (b2 neR (b2 ixR (slotP 8) (slotP 10)) (b2 ixR (slotP 7) (slotP 10)))) (sSeq (sSet 11 (bM joinR (kD (.str ",")) (aCons (asD (vComp 1 (setI 0) (fun _=> .ok true) e__law_due_2 (b1 seqR (b2 ixR (slotP 7) (slotP 10))))) aNil)))
  (sApp 5 (b2 addD (b2 addD (b2 addD (b2 addD (b2 addD (kD (.str "pin ")) (slotP 6)) (kD (.str " "))) (b1 strR (slotP 10))) (kD (.str " "))) (slotP 11)))) Out.nx)
noncomputable def l__law_due_4:DSt→Out:=(sSeq (sSet 7 (b2Q dgetR (slotQ 4) (slotP 6)))
  (sSeq (sSet 8 (b2Q dgetR (slotQ 2) (slotP 6)))
  (sSeq (sIf (tAnd2 (tR (b1 isNR (slotP 7))) (tR (b1 notNR (slotP 8)))) (sApp 5 (b2 addD (kD (.str "bolt ")) (slotP 6))) Out.nx)
  (sSeq (sIf (tAnd2 (tR (b1 notNR (slotP 7))) (tR (b1 isNR (slotP 8)))) (sSeq (sApp 5 (b2 addD (kD (.str "open ")) (slotP 6)))
  (sSet 8 (asD (b2F repR (asD (b1 lstR (aCons (b1 tupR (aCons (kD (.int 0)) aNil)) aNil))) (b2 ixR (slotP 0) (kD (.int 0))))))) Out.nx)
  (sIf (tR (b1 notNR (slotP 7))) (sFor (setI 10) l__law_due_3 (b1 rng1R (aCons (b2 ixR (slotP 0) (kD (.int 0))) aNil))) Out.nx)))))
noncomputable def b__law_due:DSt→Out:=(sSeq (sOwn 5 (b1 lstR aNil))
  (sSeq (sFor (setI 6) l__law_due_2 (b1 seqR (asD (b1Q sortK (slotD 3)))))
  (sSeq (sFor (setI 6) l__law_due_4 (b1 seqR (asD (b1Q sortK (slotD 4)))))
  (sRet (slotP 5)))))
noncomputable def m__law_due:List D→Res D:=runD 12 b__law_due
noncomputable def e__law_cut_1:DSt→Res D:=(b2 modD (b1 (callR 2 m__law_mixed) (aCons (slotD 2) (aCons (b2 addD (kD (.int 30)) (slotP 0)) aNil))) (b2 ixR (slotP 1) (kD (.int 1))))
noncomputable def b__law_cut:DSt→Out:=(sRet (b1 tupofR (asD (vComp 1 (setI 0) (fun _=> .ok true) e__law_cut_1 (b1 rng1R (aCons (b2 ixR (slotP 0) (kD (.int 0))) aNil))))))
noncomputable def m__law_cut:List D→Res D:=runD 2 b__law_cut
noncomputable def e__law_keys_1:DSt→Res D:=(b2 modD (b1 (callR 2 m__law_mixed) (aCons (slotD 7) (aCons (b2 addD (kD (.int 80)) (slotP 0)) aNil))) (b2 addD (b2 ixR (slotP 8) (slotP 0)) (kD (.int 1))))
noncomputable def l__law_keys_1:DSt→Out:=(sSeq (sSet 6 (b1 (callR 2 m__law_mixed) (aCons (b1 (callR 2 m__law_cell_at) (aCons (slotD 2) (aCons (b2 addD (kD (.int 3)) (slotP 5)) aNil))) (aCons (b2 addD (kD (.int 70)) (slotP 5)) aNil))))
  (sSeq (sSet 7 (b1 (callR 2 m__law_cut) (aCons (slotD 0) (aCons (slotD 6) aNil))))
  (sSeq (sSet 8 (b2 modD (slotP 6) (kD (.int 5))))
  (sSeq (sIf (tR (b2 gtR (slotP 8) (kD (.int 0)))) (sPutI 4 (b2 ixR (slotP 1) (slotP 5)) (slotD 7)) Out.nx)
  (sSeq (sIf (tOr2 (tR (b2 eqR (slotP 8) (kD (.int 0)))) (tR (b2 eqR (slotP 8) (kD (.int 1))))) (sPutI 3 (b2 ixR (slotP 1) (slotP 5)) (slotD 7)) Out.nx)
  (sSeq (sIf (tR (b2 eqR (slotP 8) (kD (.int 2)))) (sPutI 3 (b2 ixR (slotP 1) (slotP 5)) (b1 tupofR (asD (vComp 1 (setI 0) (fun _=> .ok true) e__law_keys_1 (b1 rng1R (aCons (b2 ixR (slotP 0) (kD (.int 0))) aNil)))))) Out.nx)
  (sIf (tR (b2 eqR (slotP 8) (kD (.int 3)))) (sPutI 3 (b2 ixR (slotP 1) (slotP 5)) (b1 (callR 2 m__law_cut) (aCons (slotD 0) (aCons (b1 (callR 2 m__law_mixed) (aCons (slotD 6) (aCons (kD (.int 7)) aNil))) aNil)))) Out.nx)))))))
noncomputable def b__law_keys:DSt→Out:=(sSeq (sOwnQ 3)
  (sSeq (sOwnQ 4)
  (sSeq (sFor (setI 5) l__law_keys_1 (b1 rng1R (aCons (b2 modD (b1 (callR 2 m__law_cell_at) (aCons (slotD 2) (aCons (kD (.int 1)) aNil))) (kD (.int 4))) aNil)))
  (sFrz 4 (sFrz 3 (sRet (b1 tupR (aCons (slotD 3) (aCons (slotD 4) aNil)))))))))
noncomputable def m__law_keys:List D→Res D:=runD 9 b__law_keys
noncomputable def l__law_name_1:DSt→Out:=(sSeq (sSet 2 (b2 addD (slotP 2) (b2 ixR (kD (.str "abcdefghijklmnopqrstuvwxyz")) (b2 modD (slotP 1) (kD (.int 26))))))
  (sSet 1 (b2 fdivD (slotP 1) (kD (.int 26)))))
noncomputable def b__law_name:DSt→Out:=(sSeq (sSet 1 (b2 modD (b2 fdivD (slotP 0) (kD (.int 10))) (b2 powD (kD (.int 26)) (kD (.int 10)))))
  (sSeq (sSet 2 (kD (.str "")))
  (sSeq (sFor (setI 3) l__law_name_1 (b1 rng1R (aCons (b2 addD (kD (.int 1)) (b2 modD (slotP 0) (kD (.int 10)))) aNil)))
  (sRet (slotD 2)))))
noncomputable def m__law_name:List D→Res D:=runD 4 b__law_name
noncomputable def b__law_open:DSt→Out:=(sSeq (sIf (tR (b2 inR (slotP 0) (asD (b1 lstR (aCons (kD (.str "door")) (aCons (kD (.str "key")) (aCons (kD (.str "opens")) (aCons (kD (.str "rules")) (aCons (kD (.str "wing")) aNil))))))))) (sRet (b2 addD (slotP 0) (kD (.str "x")))) Out.nx)
  (sRet (slotD 0)))
noncomputable def m__law_open:List D→Res D:=runD 1 b__law_open
noncomputable def l__law_names_1:DSt→Out:=(sSeq (sSet 7 (b2 addD (b2 ixR (slotP 4) (b2 modD (slotP 6) (kD (.int 9)))) (b2 ixR (slotP 4) (b2 modD (b2 fdivD (slotP 6) (kD (.int 9))) (kD (.int 9))))))
  (sApp 5 (b1 (callR 1 m__law_open) (aCons (b2 addD (b2 addD (b3 slS (slotP 2) oNone (b1 partR (slotD 3))) (slotP 7)) (b3 slS (slotP 2) (b1 partR (slotD 3)) oNone)) aNil))))
noncomputable def b__law_names:DSt→Out:=(sSeq (sSet 2 (b1 (callR 1 m__law_name) (aCons (slotD 0) aNil)))
  (sSeq (sSet 3 (b2 modD (b2 fdivD (slotP 0) (kD (.int 7))) (b2 addD (b1 lenR (slotP 2)) (kD (.int 1)))))
  (sSeq (sSet 4 (b2 ixR (asD (b1 lstR (aCons (kD (.str "bdfhkmpry")) (aCons (kD (.str "yrpmkhfdb")) (aCons (kD (.str "kbydrfmhp")) aNil))))) (b2 modD (b2 fdivD (slotP 0) (kD (.int 5))) (kD (.int 3)))))
  (sSeq (sOwn 5 (b1 lstR aNil))
  (sSeq (sFor (setI 6) l__law_names_1 (b1 rng1R (aCons (slotD 1) aNil)))
  (sRet (slotP 5)))))))
noncomputable def m__law_names:List D→Res D:=runD 8 b__law_names
noncomputable def b__law_rules:DSt→Out:=(sSeq (sSet 1 (b2 addD (kD (.int 2)) (b2 modD (b1 (callR 2 m__law_mixed) (aCons (slotD 0) (aCons (kD (.int 1)) aNil))) (kD (.int 19)))))
  (sSeq (sSet 2 (b2 addD (kD (.int 1)) (b2 modD (b1 (callR 2 m__law_mixed) (aCons (slotD 0) (aCons (kD (.int 2)) aNil))) (b2 subD (slotP 1) (kD (.int 1))))))
  (sRet (b1 tupR (aCons (b2 addD (kD (.int 1)) (b2 modD (slotP 0) (kD (.int 24)))) (aCons (slotD 1) (aCons (b2 addD (kD (.int 1)) (b2 modD (b1 (callR 2 m__law_mixed) (aCons (slotD 0) (aCons (kD (.int 3)) aNil))) (slotP 1))) (aCons (slotD 2) aNil))))))))
noncomputable def m__law_rules:List D→Res D:=runD 3 b__law_rules
noncomputable def l__law_turned_1:DSt→Out:=(sPutI 2 (slotD 4) (b2Q dgetR (slotQ 0) (slotP 4)))
noncomputable def b__law_turned:DSt→Out:=(sSeq (sOwnQ 2)
  (sSeq (sSet 3 (asD (b1Q klstR (slotD 0))))
  (sSeq (sIf (tR (b2 eqR (b2 modD (slotP 1) (kD (.int 2))) (kD (.int 1)))) (sSet 3 (asD (b3 slP (slotP 3) oNone (b1 partR (b1 negD (kD (.int 1))))))) Out.nx)
  (sSeq (sFor (setI 4) l__law_turned_1 (b1 seqR (slotD 3)))
  (sFrz 2 (sRet (slotP 2)))))))
noncomputable def m__law_turned:List D→Res D:=runD 5 b__law_turned
noncomputable def b_Blank_shown:DSt→Out:=(sRet (b2 addD (kD (.str "blank ")) (b1 (fldR "Blank" "key") (slotD 0))))
noncomputable def m_Blank_shown:List D→Res D:=runD 1 b_Blank_shown
noncomputable def b_Bolt_shown:DSt→Out:=(sRet (b2 addD (kD (.str "bolt ")) (b1 (fldR "Bolt" "door") (slotD 0))))
noncomputable def m_Bolt_shown:List D→Res D:=runD 1 b_Bolt_shown
noncomputable def b_File_shown:DSt→Out:=(sRet (bM joinR (kD (.str " ")) (aCons (asD (b1 lstR (aCons (kD (.str "file")) (aCons (b1 (fldR "File" "key") (slotD 0)) (aCons (b1 strR (b1 (fldR "File" "place") (slotD 0))) (aCons (b1 strR (b1 (fldR "File" "depth") (slotD 0))) aNil)))))) aNil)))
noncomputable def m_File_shown:List D→Res D:=runD 1 b_File_shown
noncomputable def b_Open_shown:DSt→Out:=(sRet (b2 addD (kD (.str "open ")) (b1 (fldR "Open" "door") (slotD 0))))
noncomputable def m_Open_shown:List D→Res D:=runD 1 b_Open_shown
noncomputable def e_shown_pin_1:DSt→Res D:=(b1 strR (slotP 0))
noncomputable def b_shown_pin:DSt→Out:=(sRet (bM joinR (kD (.str ",")) (aCons (asD (vComp 1 (setI 0) (fun _=> .ok true) e_shown_pin_1 (b1 seqR (slotD 0)))) aNil)))
noncomputable def m_shown_pin:List D→Res D:=runD 1 b_shown_pin
noncomputable def b_Pin_shown:DSt→Out:=(sRet (bM joinR (kD (.str " ")) (aCons (asD (b1 lstR (aCons (kD (.str "pin")) (aCons (b1 (fldR "Pin" "door") (slotD 0)) (aCons (b1 strR (b1 (fldR "Pin" "place") (slotD 0))) (aCons (b1 (callR 1 m_shown_pin) (aCons (b1 (fldR "Pin" "heights") (slotD 0)) aNil)) aNil)))))) aNil)))
noncomputable def m_Pin_shown:List D→Res D:=runD 1 b_Pin_shown
noncomputable def fs_Bolt:List (Str×(DSt→Res D)):= [("door",(slotD 1))]
noncomputable def fs_Open:List (Str×(DSt→Res D)):= [("door",(slotD 1))]
noncomputable def b_places_of:DSt→Out:=(sRet (b2 ixR (slotP 0) (kD (.int 0))))
noncomputable def m_places_of:List D→Res D:=runD 1 b_places_of
noncomputable def b_flat_barrel:DSt→Out:=(sRet (b2 mulE (b1 tupR (aCons (b1 tupR (aCons (kD (.int 0)) aNil)) aNil)) (b1 (callR 1 m_places_of) (aCons (slotD 0) aNil))))
noncomputable def m_flat_barrel:List D→Res D:=runD 1 b_flat_barrel
noncomputable def fs_Pin:List (Str×(DSt→Res D)):= [("door",(slotD 1)),("place",(slotD 2)),("heights",(slotD 3))]
noncomputable def e_pin_deeds_1:DSt→Res D:=(b1 (callR 3 (makeR 3 "Pin" fs_Pin)) (aCons (slotD 2) (aCons (slotD 0) (aCons (slotD 1) aNil))))
noncomputable def c_pin_deeds_1:DSt→Res Bool:=(tR (b2 neR (b2 ixR (slotP 3) (slotP 0)) (slotP 1)))
noncomputable def b_pin_deeds:DSt→Out:=(sRet (asD (vComp 2 (unTup 2 (unCons (setI 0) (unCons (setI 1) unNil))) c_pin_deeds_1 e_pin_deeds_1 (b1 enumR (aCons (slotD 2) aNil)))))
noncomputable def m_pin_deeds:List D→Res D:=runD 3 b_pin_deeds
noncomputable def b_door_deeds:DSt→Out:=(sSeq (sIf (tR (b1 isNR (slotP 3))) (sRet (vIf (tR (b1 isNR (slotP 2))) (asD (b1 lstR aNil)) (asD (b1 lstR (aCons (b1 (callR 1 (makeR 1 "Bolt" fs_Bolt)) (aCons (slotD 1) aNil)) aNil))))) Out.nx)
  (sSeq (sIf (tR (b1 isNR (slotP 2))) (sRet (asD (b2F catR (asD (b1 lstR (aCons (b1 (callR 1 (makeR 1 "Open" fs_Open)) (aCons (slotD 1) aNil)) aNil))) (b1 (callR 3 m_pin_deeds) (aCons (slotD 1) (aCons (b1 (callR 1 m_flat_barrel) (aCons (slotD 0) aNil)) (aCons (slotD 3) aNil))))))) Out.nx)
  (sRet (b1 (callR 3 m_pin_deeds) (aCons (slotD 1) (aCons (slotD 2) (aCons (slotD 3) aNil)))))))
noncomputable def m_door_deeds:List D→Res D:=runD 4 b_door_deeds
noncomputable def fs_Blank:List (Str×(DSt→Res D)):= [("key",(slotD 1))]
noncomputable def e_can_file_1:DSt→Res D:=(b2 geR (slotP 1) (slotP 0))
noncomputable def b_can_file:DSt→Out:=(sRet (b1 allR (asD (vComp 2 (unTup 2 (unCons (setI 0) (unCons (setI 1) unNil))) (fun _=> .ok true) e_can_file_1 (b1 zipR (aCons (slotD 0) (aCons (slotD 1) aNil)))))))
noncomputable def m_can_file:List D→Res D:=runD 2 b_can_file
noncomputable def fs_File:List (Str×(DSt→Res D)):= [("key",(slotD 1)),("place",(slotD 2)),("depth",(slotD 3))]
noncomputable def e_file_deeds_1:DSt→Res D:=(b1 (callR 3 (makeR 3 "File" fs_File)) (aCons (slotD 2) (aCons (slotD 0) (aCons (slotD 1) aNil))))
noncomputable def c_file_deeds_1:DSt→Res Bool:=(tR (b2 ltR (b2 ixR (slotP 3) (slotP 0)) (slotP 1)))
noncomputable def b_file_deeds:DSt→Out:=(sRet (asD (vComp 2 (unTup 2 (unCons (setI 0) (unCons (setI 1) unNil))) c_file_deeds_1 e_file_deeds_1 (b1 enumR (aCons (slotD 2) aNil)))))
noncomputable def m_file_deeds:List D→Res D:=runD 3 b_file_deeds
noncomputable def b_first_cuts:DSt→Out:=(sRet (b2 mulE (b1 tupR (aCons (kD (.int 0)) aNil)) (b1 (callR 1 m_places_of) (aCons (slotD 0) aNil))))
noncomputable def m_first_cuts:List D→Res D:=runD 1 b_first_cuts
noncomputable def b_key_deeds:DSt→Out:=(sSeq (sIf (tOr2 (tR (b1 isNR (slotP 2))) (tNot1 (tR (b1 (callR 2 m_can_file) (aCons (slotD 2) (aCons (slotD 3) aNil)))))) (sRet (asD (b2F catR (asD (b1 lstR (aCons (b1 (callR 1 (makeR 1 "Blank" fs_Blank)) (aCons (slotD 1) aNil)) aNil))) (b1 (callR 3 m_file_deeds) (aCons (slotD 1) (aCons (b1 (callR 1 m_first_cuts) (aCons (slotD 0) aNil)) (aCons (slotD 3) aNil))))))) Out.nx)
  (sRet (b1 (callR 3 m_file_deeds) (aCons (slotD 1) (aCons (slotD 2) (aCons (slotD 3) aNil))))))
noncomputable def m_key_deeds:List D→Res D:=runD 4 b_key_deeds
noncomputable def e_rows_to_1:DSt→Res D:=(b1 (mthR "shown" [("Blank",m_Blank_shown),("File",m_File_shown),("Pin",m_Pin_shown),("Bolt",m_Bolt_shown),("Open",m_Open_shown)]) (slotD 0))
noncomputable def l_rows_to_1:DSt→Out:=(sExtD 5 (b1 (callR 4 m_key_deeds) (aCons (slotD 0) (aCons (slotD 6) (aCons (bGet1 (slotQ 1) (aCons (slotD 6) aNil)) (aCons (b2Q dgetR (slotQ 3) (slotP 6)) aNil))))))
noncomputable def l_rows_to_2:DSt→Out:=(sExtD 5 (b1 (callR 4 m_door_deeds) (aCons (slotD 0) (aCons (slotD 6) (aCons (b2Q dgetR (slotQ 2) (slotP 6)) (aCons (b2Q dgetR (slotQ 4) (slotP 6)) aNil))))))
noncomputable def b_rows_to:DSt→Out:=(sSeq (sOwn 5 (b1 lstR aNil))
  (sSeq (sFor (setI 6) l_rows_to_1 (b1 seqR (asD (b1Q sortK (slotD 3)))))
  (sSeq (sFor (setI 6) l_rows_to_2 (b1 seqR (asD (b1Q sortK (slotD 4)))))
  (sFrzL 5 (sRetF (vComp 1 (setI 0) (fun _=> .ok true) e_rows_to_1 (b1 seqR (slotD 5))))))))
noncomputable def m_rows_to:List D→Res D:=runD 7 b_rows_to
noncomputable def b_law:DSt→Out:=(sSeq (sSet 1 (b1 (callR 2 m__law_cell_at) (aCons (slotD 0) (aCons (kD (.int 0)) aNil))))
  (sSeq (sSet 2 (b1 (callR 1 m__law_rules) (aCons (slotD 1) aNil)))
  (sSeq (sSet 3 (b1 (callR 2 m__law_names) (aCons (b1 (callR 2 m__law_mixed) (aCons (slotD 1) (aCons (kD (.int 4)) aNil))) (aCons (kD (.int 6)) aNil))))
  (sSeq (sAsg (unTup 2 (unCons (setI 4) (unCons (setI 5) unNil))) (b1 (callR 3 m__law_keys) (aCons (slotD 2) (aCons (slotD 3) (aCons (slotD 0) aNil)))))
  (sSeq (sAsg (unTup 2 (unCons (setI 6) (unCons (setI 7) unNil))) (b1 (callR 3 m__law_doors) (aCons (slotD 2) (aCons (asD (b3 slL (slotP 3) (b1 partR (kD (.int 3))) oNone)) (aCons (slotD 0) aNil)))))
  (sSeq (sSet 8 (b1 (callR 5 m__law_due) (aCons (slotD 2) (aCons (slotD 4) (aCons (slotD 6) (aCons (slotD 5) (aCons (slotD 7) aNil)))))))
  (sSeq (sOwn 9 (b1 lstR (aCons (b1 (callR 2 m__law_turned) (aCons (slotD 4) (aCons (slotD 1) aNil))) (aCons (b1 (callR 2 m__law_turned) (aCons (slotD 6) (aCons (slotD 1) aNil))) (aCons (b1 (callR 2 m__law_turned) (aCons (slotD 5) (aCons (b2 fdivD (slotP 1) (kD (.int 2))) aNil))) aNil)))))
  (sSeq (sApp 9 (b1 (callR 2 m__law_turned) (aCons (slotD 7) (aCons (b2 fdivD (slotP 1) (kD (.int 2))) aNil))))
  (sSeq (sOwnR 10 (b1 (callR 5 m_rows_to) (aCons (slotD 2) (aCons (b2 ixR (slotP 9) (kD (.int 0))) (aCons (b2 ixR (slotP 9) (kD (.int 1))) (aCons (b2 ixR (slotP 9) (kD (.int 2))) (aCons (b2 ixR (slotP 9) (kD (.int 3))) aNil)))))))
  (sSeq (sIf (tOr2 (tNot1 (tR (b1 (isiR "list") (slotP 10)))) (tR (b2 neR (slotP 10) (slotP 8)))) (sRet (kD (.bl false))) Out.nx)
  (sSeq (sIf (tR (b2 neLR (slotP 9) (asD (b1 lstR (aCons (slotD 4) (aCons (slotD 6) (aCons (slotD 5) (aCons (slotD 7) aNil)))))))) (sRet (kD (.bl false))) Out.nx)
  (sSeq (sAllStr 10 11)
  (sSeq (sApp 10 (kD (.str "")))
  (sRet (b2 eqR (b1 (callR 5 m_rows_to) (aCons (slotD 2) (aCons (slotD 4) (aCons (slotD 6) (aCons (slotD 5) (aCons (slotD 7) aNil)))))) (slotP 8))))))))))))))))
noncomputable def m_law:List D→Res D:=runD 12 b_law
end G
namespace G
open PySem PySem.Spec PyProof.Rows L2 L3
local macro_rules| `(tactic| walk_at "ev")=> `(tactic| simp only [runD_eq,startD,List.map_cons,List.map_nil,List.length_cons,List.length_nil,List.cons_append,List.nil_append,Nat.reduceAdd,Nat.reduceSub,List.replicate,
 kD,b1,b2,b3,bCh,tR,tAnd2,tOr2,tNot1,vAnd,vOr,vIf,aNil,aCons,oNone,asD,vComp,sSeq,sSet,sOwn,sIf,sFor,sWhile,b2F,sApp,sRet,sRetN,sExpr,sAsg,sSetI,sOwnR,sOwnQ,sPutI,b1Q,b2Q,
 slotD_0,slotD_s,slotP_0,slotP_0o,slotP_s,Res.bind_ok,Res.bind_ex,Res.bind_stuck,ofR_ok,ofR_ex,ofR_stuck,seqO_nx,seqO_rt,seqO_stuck,ifO_ok,andB_ok,orB_ok,andD_bl,orD_bl,boolR_bl,notD_bl,
 eqR_ii,neR_ii,eqR_bb,ltR_ii,leR_ii,gtR_ii,geR_ii,addD_ii,addD_small,subD_ii,negD_i,modD_ii,fdivD_ii,mulE_ii,maxR_ii,minR_ii,absR_i,lenR_t,lenR_l,seqR_t,seqR_l,tupofR_t,tupofR_l,partR_i,consR_ok,noex_ok,slD_l,slW_l,finO_rt,finO_nx,chain_le,chain_lelt,
 List.set_cons_zero,List.set_cons_succ,lstR,tupR,if_true,if_false,reduceIte,Bool.not_true,Bool.not_false,Bool.false_eq_true,Nat.zero_le,Nat.reduceLeDiff,Nat.zero_add,Int.reduceLT,true_and,and_true,and_self])
local macro_rules| `(tactic| walk_at "ev*")=> `(tactic| simp only [runD_eq,startD,List.map_cons,List.map_nil,List.length_cons,List.length_nil,List.cons_append,List.nil_append,Nat.reduceAdd,Nat.reduceSub,List.replicate,
 kD,b1,b2,b3,bCh,tR,tAnd2,tOr2,tNot1,vAnd,vOr,vIf,aNil,aCons,oNone,asD,vComp,sSeq,sSet,sOwn,sIf,sFor,sWhile,b2F,sApp,sRet,sRetN,sExpr,sAsg,sSetI,sOwnR,sOwnQ,sPutI,b1Q,b2Q,
 slotD_0,slotD_s,slotP_0,slotP_0o,slotP_s,Res.bind_ok,Res.bind_ex,Res.bind_stuck,ofR_ok,ofR_ex,ofR_stuck,seqO_nx,seqO_rt,seqO_stuck,ifO_ok,andB_ok,orB_ok,andD_bl,orD_bl,boolR_bl,notD_bl,
 eqR_ii,neR_ii,eqR_bb,ltR_ii,leR_ii,gtR_ii,geR_ii,addD_ii,addD_small,subD_ii,negD_i,modD_ii,fdivD_ii,mulE_ii,maxR_ii,minR_ii,absR_i,lenR_t,lenR_l,seqR_t,seqR_l,tupofR_t,tupofR_l,partR_i,consR_ok,noex_ok,slD_l,slW_l,finO_rt,finO_nx,chain_le,chain_lelt,
 List.set_cons_zero,List.set_cons_succ,lstR,tupR,if_true,if_false,reduceIte,Bool.not_true,Bool.not_false,Bool.false_eq_true,Nat.zero_le,Nat.reduceLeDiff,Nat.zero_add,Int.reduceLT,true_and,and_true,and_self, *])
local macro_rules| `(tactic| walk_at "evs")=> `(tactic| simp [runD_eq,startD,List.map_cons,List.map_nil,List.length_cons,List.length_nil,List.cons_append,List.nil_append,Nat.reduceAdd,Nat.reduceSub,List.replicate,
 kD,b1,b2,b3,bCh,tR,tAnd2,tOr2,tNot1,vAnd,vOr,vIf,aNil,aCons,oNone,asD,vComp,sSeq,sSet,sOwn,sIf,sFor,sWhile,b2F,sApp,sRet,sRetN,sExpr,sAsg,sSetI,sOwnR,sOwnQ,sPutI,b1Q,b2Q,
 slotD_0,slotD_s,slotP_0,slotP_0o,slotP_s,Res.bind_ok,Res.bind_ex,Res.bind_stuck,ofR_ok,ofR_ex,ofR_stuck,seqO_nx,seqO_rt,seqO_stuck,ifO_ok,andB_ok,orB_ok,andD_bl,orD_bl,boolR_bl,notD_bl,
 eqR_ii,neR_ii,eqR_bb,ltR_ii,leR_ii,gtR_ii,geR_ii,addD_ii,addD_small,subD_ii,negD_i,modD_ii,fdivD_ii,mulE_ii,maxR_ii,minR_ii,absR_i,lenR_t,lenR_l,seqR_t,seqR_l,tupofR_t,tupofR_l,partR_i,consR_ok,noex_ok,slD_l,slW_l,finO_rt,finO_nx,chain_le,chain_lelt,
 List.set_cons_zero,List.set_cons_succ,lstR,tupR,if_true,if_false,reduceIte,Bool.not_true,Bool.not_false,Bool.false_eq_true,Nat.zero_le,Nat.reduceLeDiff,Nat.zero_add,Int.reduceLT,true_and,and_true,and_self, *])
theorem z1000 {n:Nat} (h:n≤1000):n≤sizeLine:=Nat.le_trans h k1000
theorem addD_s (x y:Str) (h:x.length+y.length≤100000):addD (.str x) (.str y)= .ok (.str (x++y)):=if_pos (by rw [sizeLine_eq];omega)
theorem app_len (x y:Str):(x++y).length=x.length+y.length:=Array.size_append ..
theorem modI (i j:Int) (h:0<j):modD (.int i) (.int j)= .ok (.int (i%j)):=by rw [modD_ii,if_pos h]
theorem divI (i j:Int) (h:0<j) (h2:j<1073741824):fdivD (.int i) (.int j)= .ok (.int (i / j)):=by rw [fdivD_ii,if_pos ⟨h,h2⟩]
def letL:List Nat:= [97,98,99,100,101,102,103,104,105,106,107,108,109,110,111,112,113,114,115,116,117,118,119,120,121,122]
def okC (x:Str):Prop:=∀ c∈x.cps.toList,c∈letL
theorem app_okC {x y:Str} (hx:okC x) (hy:okC y):okC (x++y):=fun c hc=>by
 simp only [Str.cps_append,Array.toList_append,List.mem_append] at hc
 exact hc.elim (hx c) (hy c)
theorem one_okC {x:Str} {c:Nat} (hx:okC x) (h:c∈x.cps.toList):okC ⟨#[c]⟩:=fun d hd=>by
 have:d=c:=by simpa using hd
 rw [this];exact hx c h
theorem sl_okC {x:Str} (hx:okC x) (l u:Option Int):okC (PySem.Txt.slice x l u):=by
 unfold PySem.Txt.slice
 split
 ·exact hx
 ·intro c hc
  obtain ⟨i,_,e⟩:=List.mem_filterMap.mp (show c∈List.filterMap _ _ from hc)
  exact hx c (by rw [Array.mem_toList_iff];exact Array.mem_of_getElem? e)
theorem ixS (z:Str) (i:Int) (hz:z.length≤1000) (h0:0≤i) (h1:i<z.length):∃ c,ixR (.str z) (.int i)= .ok (.str ⟨#[c]⟩)∧c∈z.cps.toList:=by
 have hl:z.cps.toList.length=z.length:=Array.length_toList ..
 obtain ⟨c,e,hm⟩:=atI_in (xs:=z.cps.toList) h0 (by rw [hl];exact h1)
 refine ⟨c,?_,hm⟩
 show (@ite (Res D) (z.length≤sizeLine) (Classical.propDecidable _) _ _)=_
 rw [if_pos (z1000 hz),e]
theorem sl_idx (w:Str) (l u:Option Int):(PySem.Txt.slice w l u).length≤(PySem.Builtin.Str.strSliceIndices l u 1 w.length).length:=by
 unfold PySem.Txt.slice
 split
 ·rename_i h
  have h':(PySem.Builtin.Str.strSliceIndices l u 1 w.length).length=w.length:=by simpa using h
  omega
 ·show (List.filterMap _ (PySem.Builtin.Str.strSliceIndices l u 1 w.length)).toArray.size≤_
  rw [List.size_toArray]
  exact List.length_filterMap_le _ _
theorem idx_to (n:Nat) (p:Int) (h0:0≤p) (h1:p≤n):(PySem.Builtin.Str.strSliceIndices none (some p) 1 n).length≤p.toNat:=by
 unfold PySem.Builtin.Str.strSliceIndices PySem.sliceRange
 simp only [show (1:Int)>0 by decide,if_true,List.length_map,List.length_range]
 (split<;>(try split)<;>(try split)<;>(try simp only [Int.ediv_one])<;>omega)
theorem idx_from (n:Nat) (p:Int) (h0:0≤p) (h1:p≤n):(PySem.Builtin.Str.strSliceIndices (some p) none 1 n).length≤n-p.toNat:=by
 unfold PySem.Builtin.Str.strSliceIndices PySem.sliceRange
 simp only [show (1:Int)>0 by decide,if_true,List.length_map,List.length_range]
 (split<;>(try split)<;>(try split)<;>(try simp only [Int.ediv_one])<;>omega)
theorem sl_sum (w:Str) (p:Int) (h0:0≤p) (h1:p≤(w.length:Int)):(PySem.Txt.slice w none (some p)).length+(PySem.Txt.slice w (some p) none).length≤w.length:=by
 have a:=sl_idx w none (some p)
 have b:=sl_idx w (some p) none
 have c:=idx_to w.length p h0 h1
 have d:=idx_from w.length p h0 h1
 omega
theorem slS_is (z:Str) (lo hi:Option Int) (h:z.length≤1000):slS (.str z) lo hi= .ok (.str (PySem.Txt.slice z lo hi)):=if_pos (z1000 h)
theorem abc_okC:okC "abcdefghijklmnopqrstuvwxyz":=by unfold okC;decide +kernel
theorem cell_ex (ns:List Int) (k:Int) (h0:0≤k):∃ v,callR 2 m__law_cell_at [.lst (ns.map D.int), .int k]= .ok (.int v):=by
 by_cases h:k<(ns.length:Int)
 ·obtain ⟨d,e,hd⟩:=atI_in (xs:=ns.map D.int) (i:=k) h0 (by rw [List.length_map];exact h)
  obtain ⟨v,_,rfl⟩:=List.mem_map.mp hd
  have e':=ixR_l _ _ _ e
  have dt:decide (k<((ns.map D.int).length:Int))=true:=decide_eq_true (by rw [List.length_map];exact h)
  refine ⟨v,callR_eq _ _ _ _ ?_ rfl⟩
  generalize ns.map D.int=ds at*
  unfold m__law_cell_at b__law_cell_at
  walk_at "ev*"
 ·have dt:decide (k<((ns.map D.int).length:Int))=false:=decide_eq_false (by rw [List.length_map];exact h)
  refine ⟨0,callR_eq _ _ _ _ ?_ rfl⟩
  generalize ns.map D.int=ds at*
  unfold m__law_cell_at b__law_cell_at
  walk_at "ev*"
theorem mixed_ex (c k:Int) (h0:0≤k) (h1:k≤1000):∃ v,callR 2 m__law_mixed [.int c, .int k]= .ok (.int v):=by
 have m1:=modI c 2147483647 (by decide)
 have b0:=Int.emod_nonneg c (show (2147483647:Int)≠0 by decide)
 have b1':=Int.emod_lt_of_pos c (show (0:Int)<2147483647 by decide)
 have k2:mulE (.int 2) (.int k)= .ok (.int (2*k)):=by rw [mulE_ii];exact if_pos (.inl (by omega))
 generalize c%2147483647=r at*
 have x1:mulE (.int (r+7)) (.int (48271+2*k))= .ok (.int ((r+7)*(48271+2*k))):=by rw [mulE_ii];exact if_pos (.inl (by omega))
 have m2:=modI ((r+7)*(48271+2*k)) 2147483629 (by decide)
 have b2':=Int.emod_nonneg ((r+7)*(48271+2*k)) (show (2147483629:Int)≠0 by decide)
 have b3:=Int.emod_lt_of_pos ((r+7)*(48271+2*k)) (show (0:Int)<2147483629 by decide)
 generalize (r+7)*(48271+2*k)%2147483629=q at*
 have x2:mulE (.int q) (.int q)= .ok (.int (q*q)):=by rw [mulE_ii];exact if_pos (.inl (by omega))
 have m3:=modI (q*q) 2147483587 (by decide)
 refine ⟨q*q%2147483587,callR_eq _ _ _ _ ?_ rfl⟩
 clear b0 b1' b2' b3 h0 h1
 unfold m__law_mixed b__law_mixed
 simp only [runD_eq,startD,List.map_cons,List.map_nil,List.length_cons,List.length_nil,List.cons_append,List.nil_append,Nat.reduceAdd,Nat.reduceSub,List.replicate,kD,b2,sSeq,sSet,sRet,slotD_0,slotD_s,slotP_0,slotP_s,Res.bind_ok,ofR_ok,seqO_nx,addD_ii,m1,k2,x1,m2,x2,m3,List.set_cons_zero,List.set_cons_succ,finO_rt]
theorem name_turn (c r:Int) (w:Str) (x:D) (hw:w.length≤900) (hc:okC w):∃ (r2:Int) (w2:Str),l__law_name_1 [some (.d (.int c)),some (.d (.int r)),some (.d (.str w)),some (.d x)]= .nx [some (.d (.int c)),some (.d (.int r2)),some (.d (.str w2)),some (.d x)]∧w2.length=w.length+1∧okC w2:=by
 have m1:=modI r 26 (by decide)
 have d1:=divI r 26 (by decide) (by decide)
 have b0:=Int.emod_nonneg r (show (26:Int)≠0 by decide)
 have b1':=Int.emod_lt_of_pos r (show (0:Int)<26 by decide)
 obtain ⟨ch,e1,hm⟩:=ixS "abcdefghijklmnopqrstuvwxyz" (r%26) (by decide) b0 b1'
 have e2:=addD_s w ⟨#[ch]⟩ (by rw [show (⟨#[ch]⟩:Str).length=1 from rfl];omega)
 refine ⟨r / 26,w++⟨#[ch]⟩,?_,by rw [app_len];rfl,app_okC hc (one_okC abc_okC hm)⟩
 clear b0 b1' hw hc hm
 generalize r%26=q at*
 unfold l__law_name_1
 walk_at "ev*"
theorem name_ex (c:Int):∃ w:Str,callR 1 m__law_name [.int c]= .ok (.str w)∧w.length≤10∧okC w:=by
 have ep:powD (.int 26) (.int 10)= .ok (.int (26^10)):=if_pos ⟨by decide,by decide,by decide⟩
 have d1:=divI c 10 (by decide) (by decide)
 have m1:=modI (c / 10) (26^10) (by decide)
 have m2:=modI c 10 (by decide)
 have b0:=Int.emod_nonneg c (show (10:Int)≠0 by decide)
 have b1':=Int.emod_lt_of_pos c (show (0:Int)<10 by decide)
 generalize c%10=q at*
 have rg:=rng1_i (1+q) (by omega) (by omega)
 have hq:(1+q).toNat≤10:=by omega
 generalize (1+q).toNat=n at*
 generalize c / 10%26^10=r at*
 obtain ⟨δ2,f,r2,w,y,rfl,hl,hok⟩:=forD_ix (t:=setI 3) (body:=l__law_name_1) (fun i δ=>∃ (r:Int) (w:Str) (y:Option S),δ= [some (.d (.int c)),some (.d (.int r)),some (.d (.str w)),y]∧w.length=i∧okC w) (rngD 0 n) [some (.d (.int c)),some (.d (.int r)),some (.d (.str "")),none] (fun i d δ hd hI=>by
   obtain ⟨r,w,y,rfl,hw,hk⟩:=hI
   obtain ⟨hi,rfl⟩:=rngD_get hd
   obtain ⟨r2,w2,e,h2,k2⟩:=name_turn c r w (.int (0+i)) (by omega) hk
   exact ⟨_,rfl,_, .inl e,r2,w2,_,rfl,by omega,k2⟩) ⟨r,"",none,rfl,rfl,fun c hc=>absurd hc (by show ¬ c∈([]:List Nat);simp)⟩
 rw [rngD_len] at hl
 refine ⟨w,callR_eq _ _ _ _ ?_ rfl,by omega,hok⟩
 clear b0 b1'
 unfold m__law_name b__law_name
 simp only [runD_eq,startD,List.map_cons,List.map_nil,List.length_cons,List.length_nil,List.cons_append,List.nil_append,Nat.reduceAdd,Nat.reduceSub,List.replicate,kD,b1,b2,aCons,aNil,consR_ok,sSeq,sSet,sFor,sRet,slotD_0,slotD_s,slotP_0,slotP_s,Res.bind_ok,ofR_ok,seqO_nx,addD_ii,d1,ep,m1,m2,rg,f,List.set_cons_zero,List.set_cons_succ,finO_rt]
def jn (c:Nat):List (List Nat)→List Nat
 | []=> []
 | [x]=>x
 |x::y::r=>x++c::jn c (y::r)
theorem join_cps (c:Nat):∀ xs:List Str,(Str.join ⟨#[c]⟩ xs).cps.toList=jn c (xs.map fun x=>x.cps.toList)
 | []=>rfl
 | [x]=>rfl
 |x::y::r=>by
  show ((x++(⟨#[c]⟩:Str))++Str.join ⟨#[c]⟩ (y::r)).cps.toList=x.cps.toList++c::jn c ((y::r).map fun x=>x.cps.toList)
  rw [←join_cps c (y::r),Str.cps_append,Str.cps_append]
  simp
theorem strsOf_map:∀ xs:List Str,strsOf (xs.map D.str)=some xs
 | []=>rfl
 |x::xs=>by show (strsOf (xs.map D.str)).map (x:: ·)=_;rw [strsOf_map xs];rfl
theorem joinR_eq (c:Nat) (xs:List Str) (h:(xs.map (·.length)).sum+xs.length≤900):joinR ⟨#[c]⟩ [.lst (xs.map D.str)]= .ok (.str (PySem.Txt.join ⟨#[c]⟩ xs)):=by
 unfold joinR
 dsimp only
 rw [strsOf_map]
 dsimp only
 refine if_pos ?_
 unfold JoinOk Builtin.Str.tooLong
 rw [StrLaws.joinTotal]
 have:sizeLine=16777216:=sizeLine_eq
 have e:(⟨#[c]⟩:Str).length=1:=rfl
 rw [e]
 simp
 omega
theorem join_len (c:Nat) (xs:List Str):(PySem.Txt.join ⟨#[c]⟩ xs).length≤(xs.map (·.length)).sum+xs.length:=by
 rw [show PySem.Txt.join ⟨#[c]⟩ xs=Str.join ⟨#[c]⟩ xs from StrLaws.glued_eq_join _ _]
 have:=StrLaws.join_length_le ⟨#[c]⟩ xs
 have e:(⟨#[c]⟩:Str).length=1:=rfl
 rw [e] at this
 omega
theorem lenR_s (x:Str) (h:x.length≤1000):lenR (.str x)= .ok (.int x.length):=if_pos (Nat.le_trans h k1000)
def pD (q:List Int):D:= .tup (q.map D.int)
theorem dg3 (c:Int) (h0:0≤c) (h1:c<30):(toString c:Str).length≤2∧strR (.int c)= .ok (.str (toString c)):=by
 obtain ⟨n,rfl⟩:∃ n:Nat,c=n:=⟨c.toNat,by omega⟩
 have hn:n<30:=by omega
 have h:∀ n:Nat,n<30→(toString (n:Int):Str).length≤2∧(n:Int).natAbs.log2<1920:=by decide +kernel
 obtain ⟨d,e⟩:=h n hn
 exact ⟨d,if_pos e⟩
theorem dgt (c:Int) (h0:0≤c) (h1:c<20):(toString c:Str).length≤2∧strR (.int c)= .ok (.str (toString c)):=dg3 c h0 (by omega)
def sts (q:List Int):List Str:=q.map fun c=>(toString c:Str)
def shq (q:List Int):Str:=PySem.Txt.join ⟨#[44]⟩ (sts q)
def Q20 (q:List Int):Prop:=(∀ c∈q,0≤c∧c<20)∧1≤q.length∧q.length≤20
theorem sum_le {α:Type} (f:α→Nat) (k:Nat):∀ l:List α,(∀ a∈l,f a≤k)→(l.map f).sum≤k*l.length
 | [],_=>by simp
 |a::l,h=>by
  have ih:=sum_le f k l fun b hb=>h b (List.mem_cons_of_mem _ hb)
  have h1:=h a List.mem_cons_self
  simp only [List.map_cons,List.sum_cons,List.length_cons,Nat.mul_succ]
  omega
theorem sts_sum {q:List Int} (h:Q20 q):((sts q).map (·.length)).sum≤40∧(sts q).length≤20:=by
 have:=sum_le (fun x:Str=>x.length) 2 (sts q) fun x hx=>by
  obtain ⟨c,hc,rfl⟩:=List.mem_map.mp hx
  exact (dgt c (h.1 c hc).1 (h.1 c hc).2).1
 have l:(sts q).length=q.length:=List.length_map _
 have:=h.2.2
 omega
theorem shq_len {q:List Int} (h:Q20 q):(shq q).length≤60:=by
 have:=join_len 44 (sts q)
 have:=sts_sum h
 unfold shq
 omega
theorem comp_strs {fe:DSt→Res D} (hf:∀ (c:Int) (δ:DSt),strR (.int c)= .ok (.str (toString c))→fe (some (.d (.int c))::δ)= .ok (.str (toString c))) {q:List Int} (h:Q20 q) (δ:DSt):compR 1 (setI 0) (fun _=> .ok true) fe δ (q.map D.int)= .ok ((sts q).map D.str):=by
 refine compR_ok ?_ (by have:=h.2.2;rw [List.length_map];omega)
 have:=comp_map (fe:=fe) (fun d=>match d with| .int c=> .str (toString c)|_=> .non) δ (q.map D.int) none (fun d hd=>by
  obtain ⟨c,hc,rfl⟩:=List.mem_map.mp hd
  exact hf c δ (dgt c (h.1 c hc).1 (h.1 c hc).2).2)
 rw [List.map_map] at this
 unfold sts
 rw [List.map_map]
 exact this
theorem join_q {q:List Int} (h:Q20 q):joinR "," [.lst ((sts q).map D.str)]= .ok (.str (shq q)):=joinR_eq 44 _ (by have:=sts_sum h;omega)
theorem shown_pin {q:List Int} (h:Q20 q):callR 1 m_shown_pin [pD q]= .ok (.str (shq q)):=by
 have jr:=join_q h
 have sq:seqR (pD q)= .ok (q.map D.int):=rfl
 have c1:=comp_strs (fe:=e_shown_pin_1) (fun c δ e=>by unfold e_shown_pin_1;simp only [b1,slotP_0,Res.bind_ok,e]) h [some (.d (pD q))]
 refine callR_eq _ _ _ _ ?_ rfl
 clear h
 generalize (sts q).map D.str=ss at*
 generalize pD q=P at*
 generalize q.map D.int=Q at*
 unfold m_shown_pin b_shown_pin
 simp only [runD_eq,startD,List.map_cons,List.map_nil,List.length_cons,List.length_nil,List.cons_append,List.nil_append,Nat.reduceAdd,Nat.reduceSub,List.replicate,List.append_nil,sRet,bM,asD,vComp,b1,aCons,aNil,kD,slotD_0,consR_ok,Res.bind_ok,sq,c1,jr,ofR_ok,finO_rt]
def sL (ks:List Nat) (f:Nat→Str):D:= .lst (ks.map fun k=>D.str (f k))
def wds:List D:= [.str "door", .str "key", .str "opens", .str "rules", .str "wing"]
def opn (w:Str):Str:=if inB (.str w) wds=true then w++"x" else w
theorem opn_len (w:Str):(opn w).length=w.length+(if inB (.str w) wds=true then 1 else 0):=by
 unfold opn
 split
 ·rw [app_len];rfl
 ·rfl
theorem open_eq (w:Str) (h:w.length≤900):callR 1 m__law_open [.str w]= .ok (.str (opn w)):=by
 have e1:inR (.str w) (.lst [.str "door", .str "key", .str "opens", .str "rules", .str "wing"])= .ok (.bl (inB (.str w) wds)):=by unfold L3.inR;dsimp only;exact if_pos (by simp [flatD])
 have e2:=addD_s w "x" (by rw [show ("x":Str).length=1 from rfl];omega)
 unfold opn
 generalize inB (.str w) wds=b at*
 cases b with
 |true=>
  rw [if_pos rfl]
  refine callR_eq _ _ _ _ ?_ rfl
  clear h
  unfold m__law_open b__law_open
  walk_at "ev*"
 |false=>
  rw [if_neg Bool.false_ne_true]
  refine callR_eq _ _ _ _ ?_ rfl
  clear h
  unfold m__law_open b__law_open
  walk_at "ev*"
def chz (z:Str) (i:Nat):Nat:=z.cps.toList.getD i 0
theorem ixZ (z:Str) (i:Nat) (hz:z.length=9) (h1:i<9):ixR (.str z) (.int (i:Int))= .ok (.str ⟨#[chz z i]⟩):=by
 have hl:z.cps.toList.length=9:=(Array.length_toList ..).trans hz
 have e:atI z.cps.toList (i:Int)=some (chz z i):=by
  refine atI_pos (by omega) ?_
  rw [show ((i:Int)).toNat=i by omega]
  unfold chz
  rw [List.getD_eq_getElem?_getD,List.getElem?_eq_getElem (by omega)];rfl
 show (@ite (Res D) (z.length≤sizeLine) (Classical.propDecidable _) _ _)=_
 rw [if_pos (z1000 (by omega)),e]
theorem str_ext {x y:Str} (h:x.cps.toList=y.cps.toList):x=y:=by
 cases x;cases y
 congr 1
 exact Array.toList_inj.mp h
theorem z_dec (z:Str) (h:∀ i,i<9→∀ j,j<9→chz z i=chz z j→i=j):∀ i j,i<9→j<9→chz z i=chz z j→i=j:=fun i j a b=>h i a j b
def zOk (z:Str):Prop:=z.length=9∧∀ i j,i<9→j<9→chz z i=chz z j→i=j
def fN (l r z:Str) (k:Nat):Str:=opn (l++(⟨#[chz z (k%9)]⟩++⟨#[chz z (k / 9%9)]⟩)++r)
theorem names_turn (a b:D) (w z l r:Str) (p:Int) (i:Nat) (f:Nat→Str) (ef:f=fN l r z) (x:Option S) (hz:zOk z) (l1:l.length≤10) (l2:r.length≤10) (s1:slS (.str w) none (some p)= .ok (.str l)) (s2:slS (.str w) (some p) none= .ok (.str r)) (hl:i≤100):
  ∃ y:Option S,l__law_names_1 [some (.d a),some (.d b),some (.d (.str w)),some (.d (.int p)),some (.d (.str z)),some (.o ((List.range i).map fun k=>D.str (f k))),some (.d (.int (i:Int))),x]= .nx [some (.d a),some (.d b),some (.d (.str w)),some (.d (.int p)),some (.d (.str z)),some (.o ((List.range (i+1)).map fun k=>D.str (f k))),some (.d (.int (i:Int))),y]:=by
 have m1:=modI (i:Int) 9 (by decide)
 have d1:=divI (i:Int) 9 (by decide) (by decide)
 have m2:=modI ((i:Int) / 9) 9 (by decide)
 have e1:=ixZ z (i%9) hz.1 (by omega)
 have e2:=ixZ z (i / 9%9) hz.1 (by omega)
 rw [show ((i%9:Nat):Int)=(i:Int)%9 by omega] at e1
 rw [show ((i / 9%9:Nat):Int)=(i:Int) / 9%9 by omega] at e2
 have e3:=addD_s ⟨#[chz z (i%9)]⟩ ⟨#[chz z (i / 9%9)]⟩ (by show 1+1≤100000;decide)
 have hi2:((⟨#[chz z (i%9)]⟩:Str)++⟨#[chz z (i / 9%9)]⟩).length=2:=by rw [app_len];rfl
 have ei:f i=opn (l++(⟨#[chz z (i%9)]⟩++⟨#[chz z (i / 9%9)]⟩)++r):=by rw [ef];rfl
 generalize (⟨#[chz z (i%9)]⟩:Str)++⟨#[chz z (i / 9%9)]⟩=inn at*
 have e4:=addD_s l inn (by omega)
 have e5:=addD_s (l++inn) r (by rw [app_len];omega)
 have e6:=open_eq (l++inn++r) (by rw [app_len,app_len];omega)
 rw [←ei] at e6
 have e7:=appO_eq 5 [some (.d a),some (.d b),some (.d (.str w)),some (.d (.int p)),some (.d (.str z)),some (.o ((List.range i).map fun k=>D.str (f k))),some (.d (.int i)),some (.d (.str inn))] ((List.range i).map fun k=>D.str (f k)) (.str (f i)) rfl (by rw [List.length_map,List.length_range];omega)
 refine ⟨some (.d (.str inn)),?_⟩
 rw [List.range_succ,List.map_append,List.map_singleton]
 clear l1 l2 hi2 hz hl ei ef
 generalize (List.range i).map (fun k=>D.str (f k))=ds at*
 generalize (i:Int)%9=q1 at*
 generalize (i:Int) / 9%9=q2 at*
 generalize l++inn++r=t at*
 unfold l__law_names_1
 simp only [kD,b1,b2,b3,aCons,aNil,oNone,consR_ok,sSeq,sSet,sApp,slotD_0,slotD_s,slotP_0,slotP_s,Res.bind_ok,ofR_ok,seqO_nx,m1,d1,m2,e1,e2,e3,s1,s2,e4,e5,e6,e7,partR_i,List.set_cons_zero,List.set_cons_succ]
theorem chz_okC {z:Str} (hz:okC z) (h9:z.length=9) (i:Nat) (h:i<9):okC ⟨#[chz z i]⟩:=one_okC hz (by
 have hl:z.cps.toList.length=9:=(Array.length_toList ..).trans h9
 unfold chz
 rw [List.getD_eq_getElem?_getD,List.getElem?_eq_getElem (by omega)]
 exact List.getElem_mem ..)
theorem opn_okC {w:Str} (h:okC w):okC (opn w):=by
 unfold opn
 split
 ·exact app_okC h (by unfold okC;decide +kernel)
 ·exact h
def Gd (x:Str):Prop:=(1≤x.length∧x.length≤12)∧okC x∧inB (.str x) wds=false
theorem in_wds {t:Str} (h:inB (.str t) wds=true):t="door"∨t="key"∨t="opens"∨t="rules"∨t="wing":=by
 have h':("door":Str)=t∨("key":Str)=t∨("opens":Str)=t∨("rules":Str)=t∨("wing":Str)=t:=by simpa [inB,wds,eqD] using h
 rcases h' with h|h|h|h|h<;>simp [←h]
theorem opn_out (t:Str):inB (.str (opn t)) wds=false:=by
 unfold opn
 by_cases h:inB (.str t) wds=true
 ·rw [if_pos h]
  rcases in_wds h with rfl|rfl|rfl|rfl|rfl<;>decide +kernel
 ·rw [if_neg h];simpa using h
theorem opn_le (t:Str) (h:t.length≤12):(opn t).length≤12:=by
 unfold opn
 by_cases h:inB (.str t) wds=true
 ·rw [if_pos h]
  rcases in_wds h with rfl|rfl|rfl|rfl|rfl<;>decide +kernel
 ·rw [if_neg h];assumption
theorem fN_Gd {l r z:Str} (hl:l.length+r.length≤10) (kl:okC l) (kr:okC r) (hz:okC z) (h9:z.length=9) (k:Nat):Gd (fN l r z k):=by
 unfold fN
 have e1:(⟨#[chz z (k%9)]⟩:Str).length=1:=rfl
 have e2:(⟨#[chz z (k / 9%9)]⟩:Str).length=1:=rfl
 refine ⟨⟨?_,opn_le _ (by rw [app_len,app_len,app_len];omega)⟩,opn_okC (app_okC (app_okC kl (app_okC (chz_okC hz h9 _ (Nat.mod_lt _ (by decide))) (chz_okC hz h9 _ (Nat.mod_lt _ (by decide))))) kr),opn_out _⟩
 rw [opn_len,app_len,app_len,app_len]
 omega
theorem names_ex (c:Int) (M:Nat) (hM:M≤81):∃ f:Nat→Str,(∀ k,Gd (f k))∧callR 2 m__law_names [.int c, .int (M:Int)]= .ok (sL (List.range M) f):=by
 obtain ⟨w,e1,hw,wk⟩:=name_ex c
 have e2:=lenR_s w (by omega)
 have d1:=divI c 7 (by decide) (by decide)
 have m1:=modI (c / 7) ((w.length:Int)+1) (by omega)
 have d2:=divI c 5 (by decide) (by decide)
 have m2:=modI (c / 5) 3 (by decide)
 obtain ⟨zd,ez,hz⟩:=atI_in (xs:= [D.str "bdfhkmpry", .str "yrpmkhfdb", .str "kbydrfmhp"]) (i:=c / 5%3) (Int.emod_nonneg _ (by decide)) (Int.emod_lt_of_pos _ (by decide))
 have ez':=ixR_l _ _ _ ez
 obtain ⟨z,rfl,hz9,zk⟩:∃ z:Str,zd= .str z∧zOk z∧okC z:=by
  simp only [List.mem_cons,List.not_mem_nil,or_false] at hz
  rcases hz with rfl|rfl|rfl
  ·exact ⟨"bdfhkmpry",rfl,⟨rfl,z_dec _ (by unfold chz;decide +kernel)⟩,by unfold okC;decide +kernel⟩
  ·exact ⟨"yrpmkhfdb",rfl,⟨rfl,z_dec _ (by unfold chz;decide +kernel)⟩,by unfold okC;decide +kernel⟩
  ·exact ⟨"kbydrfmhp",rfl,⟨rfl,z_dec _ (by unfold chz;decide +kernel)⟩,by unfold okC;decide +kernel⟩
 have rg:rng1R [.int (M:Int)]= .ok (rngD 0 M):=by
  have:=rng1_i (M:Int) (by omega) (by omega)
  rwa [show ((M:Int)).toNat=M by omega] at this
 have p0:=Int.emod_nonneg (c / 7) (show (w.length:Int)+1≠0 by omega)
 have p1:=Int.emod_lt_of_pos (c / 7) (show (0:Int)<(w.length:Int)+1 by omega)
 generalize c / 7%((w.length:Int)+1)=p at*
 have sm:=sl_sum w p p0 (by omega)
 have s1:=slS_is w none (some p) (by omega)
 have s2:=slS_is w (some p) none (by omega)
 have k1:okC (PySem.Txt.slice w none (some p)):=sl_okC wk _ _
 have k2:okC (PySem.Txt.slice w (some p) none):=sl_okC wk _ _
 generalize PySem.Txt.slice w none (some p)=l at*
 generalize PySem.Txt.slice w (some p) none=r at*
 obtain ⟨f,ef⟩:∃ f,f=fN l r z:=⟨_,rfl⟩
 obtain ⟨δ2,fo,x,y,rfl⟩:=forD_ix (t:=setI 6) (body:=l__law_names_1) (fun i δ=>∃ (x y:Option S),δ= [some (.d (.int c)),some (.d (.int (M:Int))),some (.d (.str w)),some (.d (.int p)),some (.d (.str z)),some (.o ((List.range i).map fun k=>D.str (f k))),x,y])
  (rngD 0 M) [some (.d (.int c)),some (.d (.int (M:Int))),some (.d (.str w)),some (.d (.int p)),some (.d (.str z)),some (.o []),none,none] (fun i d δ hd hI=>by
   obtain ⟨x,y,rfl⟩:=hI
   obtain ⟨hi,rfl⟩:=rngD_get hd
   obtain ⟨y2,e⟩:=names_turn (.int c) (.int (M:Int)) w z l r p i f ef y hz9 (by omega) (by omega) s1 s2 (by omega)
   refine ⟨_,rfl,_, .inl ?_,some (.d (.int (i:Int))),y2,rfl⟩
   rw [show (0+(i:Int))=(i:Int) by omega]
   exact e) ⟨none,none,rfl⟩
 rw [rngD_len] at fo
 refine ⟨f,fun k=>by rw [ef];exact fN_Gd (by omega) k1 k2 zk hz9.1 k,callR_eq _ _ _ _ ?_ rfl⟩
 unfold sL
 clear hw hz9 hz ez zk wk k1 k2 hM sm p0 p1
 generalize (M:Int)=MM at*
 generalize (List.range M).map (fun k=>D.str (f k))=ds at*
 generalize c / 5%3=q at*
 generalize (w.length:Int)=n at*
 unfold m__law_names b__law_names
 simp only [runD_eq,startD,List.map_cons,List.map_nil,List.length_cons,List.length_nil,List.cons_append,List.nil_append,Nat.reduceAdd,Nat.reduceSub,List.replicate,kD,b1,b2,asD,lstR,aCons,aNil,consR_ok,sSeq,sSet,sOwn,sFor,sRet,slotD_0,slotD_s,slotP_0,slotP_0o,slotP_s,Res.bind_ok,ofR_ok,seqO_nx,addD_ii,e1,e2,d1,m1,d2,m2,ez',rg,fo,List.set_cons_zero,List.set_cons_succ,finO_rt,Nat.reduceLeDiff,Nat.zero_le,if_true,reduceIte]
theorem zip_ints (xs ys:List Int) (f:D→D→D) (g:Int→Int→D) (h:∀ i j,f (.int i) (.int j)=g i j):List.zipWith f (xs.map D.int) (ys.map D.int)=List.zipWith g xs ys:=by
 induction xs generalizing ys with
 |nil=>rfl
 |cons x xs ih=>
  cases ys with
  |nil=>rfl
  |cons y ys=>simp only [List.map_cons,List.zipWith_cons_cons,h,ih]
theorem zip_bl (xs ys:List Int) (g:Int→Int→Bool):List.zipWith (fun i j=>D.bl (g i j)) xs ys=(List.zipWith g xs ys).map fun b=>D.bl b:=by
 induction xs generalizing ys with
 |nil=>rfl
 |cons x xs ih=>
  cases ys with
  |nil=>rfl
  |cons y ys=>simp only [List.map_cons,List.zipWith_cons_cons,ih]
def canF (xs ys:List Int):Bool:=(List.zipWith (fun a b=>decide (a≤b)) xs ys).all id
theorem can_file_eq (xs ys:List Int) (hx:xs.length≤1000):m_can_file [.tup (xs.map D.int), .tup (ys.map D.int)]= .ok (.bl (canF xs ys)):=by
 have hz:zipR [.tup (xs.map D.int), .tup (ys.map D.int)]= .ok (zipD (xs.map D.int) (ys.map D.int)):=rfl
 have hc:compR 2 un2 (fun _=> .ok true) e_can_file_1 [some (.d (.tup (xs.map D.int))),some (.d (.tup (ys.map D.int)))] (zipD (xs.map D.int) (ys.map D.int))= .ok ((List.zipWith (fun a b=>decide (a≤b)) xs ys).map fun b=>D.bl b):=by
  refine compR_ok (c:=fun _=> .ok true) (fe:=e_can_file_1) ?_ (by rw [zipD_len,List.length_map];omega)
  have:=comp_zip (fe:=e_can_file_1) (fun a b=>match a,b with| .int i, .int j=> .bl (decide (i≤j))|_,_=> .non) [some (.d (.tup (xs.map D.int))),some (.d (.tup (ys.map D.int)))] (xs.map D.int) (ys.map D.int) none none (fun i a b ha hb=>by
   rw [List.getElem?_map] at ha hb
   obtain ⟨u,_,rfl⟩:=Option.map_eq_some_iff.mp ha
   obtain ⟨v,_,rfl⟩:=Option.map_eq_some_iff.mp hb
   rfl)
  rw [zip_ints xs ys _ (fun i j=> .bl (decide (i≤j))) fun _ _=>rfl,zip_bl] at this
  exact this
 have ha:=allR_map (fun b:Bool=>b) (List.zipWith (fun a b=>decide (a≤b)) xs ys)
 unfold m_can_file b_can_file
 simp only [un2] at hc
 walk_at "ev*"
 rfl
theorem canF_iff (xs ys:List Int) (h:xs.length=ys.length):canF xs ys=true↔∀ i,i<xs.length→xs.getD i 0≤ys.getD i 0:=by
 induction xs generalizing ys with
 |nil=>simp [canF]
 |cons x xs ih=>
  cases ys with
  |nil=>simp at h
  |cons y ys=>
   have ih:=ih ys (by simpa using h)
   have e:canF (x::xs) (y::ys)=(decide (x≤y)&&canF xs ys):=rfl
   rw [e,Bool.and_eq_true,decide_eq_true_eq,ih]
   constructor
   ·rintro ⟨h1,h2⟩ i hi
    cases i with
    |zero=>exact h1
    |succ i=>exact h2 i (by simpa using hi)
   ·intro h
    refine ⟨h 0 (by simp),fun i hi=> ?_⟩
    have:=h (i+1) (by simpa using hi)
    simpa using this
theorem sIf_t {c:DSt→Res Bool} {a b:DSt→Out} {δ:DSt} (h:c δ= .ok true):sIf c a b δ=a δ:=by unfold sIf;rw [h];rfl
theorem sIf_f {c:DSt→Res Bool} {a b:DSt→Out} {δ:DSt} (h:c δ= .ok false):sIf c a b δ=b δ:=by unfold sIf;rw [h];rfl
structure RuOk (p d h:Int):Prop where
 p1:1≤p∧p≤24
 d1:2≤d∧d≤20
 h1:1≤h∧h≤d
abbrev ruD (p d h s:Int):D:= .tup [.int p, .int d, .int h, .int s]
theorem rules_ex (c:Int):∃ p d h s:Int,callR 1 m__law_rules [.int c]= .ok (ruD p d h s)∧RuOk p d h:=by
 obtain ⟨v1,e1⟩:=mixed_ex c 1 (by decide) (by decide)
 obtain ⟨v2,e2⟩:=mixed_ex c 2 (by decide) (by decide)
 obtain ⟨v3,e3⟩:=mixed_ex c 3 (by decide) (by decide)
 have a1:=Int.emod_nonneg v1 (show (19:Int)≠0 by decide)
 have a2:=Int.emod_lt_of_pos v1 (show (0:Int)<19 by decide)
 have m1:=modI v1 19 (by decide)
 generalize v1%19=q at*
 have m2:=modI v2 (2+q-1) (by omega)
 have m3:=modI v3 (2+q) (by omega)
 have m4:=modI c 24 (by decide)
 have a5:=Int.emod_nonneg v3 (show 2+q≠0 by omega)
 have a6:=Int.emod_lt_of_pos v3 (show 0<2+q by omega)
 have a7:=Int.emod_nonneg c (show (24:Int)≠0 by decide)
 have a8:=Int.emod_lt_of_pos c (show (0:Int)<24 by decide)
 generalize v2%(2+q-1)=r at*
 generalize v3%(2+q)=t at*
 generalize c%24=u at*
 refine ⟨1+u,2+q,1+t,1+r,callR_eq _ _ _ _ ?_ rfl,⟨by omega,by omega⟩,⟨by omega,by omega⟩,⟨by omega,by omega⟩⟩
 clear a1 a2 a5 a6 a7 a8
 unfold m__law_rules b__law_rules
 walk_at "ev*"
structure PinOk (d h:Int) (q:List Int):Prop where
 ne:1≤q.length
 le:(q.length:Int)≤h
 bd:∀ i∈q,0≤i∧i<d
theorem pin_t (p d h s c t:Int) (q:List Int) (k:Nat) (hk:k≤100) (hl:q.length≤100) (bd:∀ i∈q,0≤i∧i<d∧i≤t) (t0:0≤t):
  ∃ (t':Int) (q':List Int),l__law_pin_1 [some (.d (ruD p d h s)),some (.d (.int c)),some (.d (.int t)),some (.o (q.map D.int)),some (.d (.int (k:Int)))]= .nx [some (.d (ruD p d h s)),some (.d (.int c)),some (.d (.int t')),some (.o (q'.map D.int)),some (.d (.int (k:Int)))]∧
   (q'.length=q.length∨q'.length=q.length+1)∧(∀ i∈q',0≤i∧i<d∧i≤t')∧0≤t':=by
 obtain ⟨v,e1⟩:=mixed_ex c (5+(k:Int)) (by omega) (by omega)
 have m1:=modI v 3 (by decide)
 have a1:=Int.emod_nonneg v (show (3:Int)≠0 by decide)
 generalize v%3=r at*
 have i1:ixR (ruD p d h s) (.int 1)= .ok (.int d):=ixR_t _ _ _ rfl
 have lt:ltR (.int (t+1+r)) (.int d)= .ok (.bl (decide (t+1+r<d))):=ltR_ii _ _
 have w1:sSet 2 (b2 addD (b2 addD (slotP 2) (kD (.int 1))) (b2 modD (b1 (callR 2 m__law_mixed) (aCons (slotD 1) (aCons (b2 addD (kD (.int 5)) (slotP 4)) aNil))) (kD (.int 3)))) [some (.d (ruD p d h s)),some (.d (.int c)),some (.d (.int t)),some (.o (q.map D.int)),some (.d (.int (k:Int)))]= .nx [some (.d (ruD p d h s)),some (.d (.int c)),some (.d (.int (t+1+r))),some (.o (q.map D.int)),some (.d (.int (k:Int)))]:=by
  simp only [sSet,kD,b1,b2,aCons,aNil,consR_ok,slotD_0,slotD_s,slotP_0,slotP_s,Res.bind_ok,ofR_ok,addD_ii,e1,m1,List.set_cons_zero,List.set_cons_succ]
 have cd:tR (b2 ltR (slotP 2) (b2 ixR (slotP 0) (kD (.int 1)))) [some (.d (ruD p d h s)),some (.d (.int c)),some (.d (.int (t+1+r))),some (.o (q.map D.int)),some (.d (.int (k:Int)))]= .ok (decide (t+1+r<d)):=by
  simp only [tR,b2,kD,slotP_0,slotP_s,Res.bind_ok,i1,lt,boolR_bl]
 by_cases hd:t+1+r<d
 ·refine ⟨t+1+r,q++ [t+1+r],?_, .inr (by rw [List.length_append];rfl),fun i hi=> ?_,by omega⟩
  ·rw [decide_eq_true hd] at cd
   unfold l__law_pin_1 sSeq
   rw [w1,seqO_nx,sIf_t cd]
   unfold sApp
   rw [show slotD 2 [some (.d (ruD p d h s)),some (.d (.int c)),some (.d (.int (t+1+r))),some (.o (q.map D.int)),some (.d (.int (k:Int)))]= .ok (.int (t+1+r)) from rfl,appO_eq 3 _ (q.map D.int) _ rfl (by rw [List.length_map];omega),List.map_append]
   rfl
  ·rcases List.mem_append.mp hi with z|z
   ·have:=bd i z;omega
   ·rw [List.mem_singleton.mp z];omega
 ·refine ⟨t+1+r,q,?_, .inl rfl,fun i hi=>by have:=bd i hi;omega,by omega⟩
  rw [decide_eq_false hd] at cd
  unfold l__law_pin_1 sSeq
  rw [w1,seqO_nx,sIf_f cd]
theorem pin_ex (p d h s c:Int) (o:RuOk p d h):∃ q,callR 2 m__law_pin [ruD p d h s, .int c]= .ok (pD q)∧PinOk d h q:=by
 obtain ⟨v3,e3⟩:=mixed_ex c 3 (by decide) (by decide)
 obtain ⟨v4,e4⟩:=mixed_ex c 4 (by decide) (by decide)
 have d1:=o.d1
 have h1:=o.h1
 have m3:=modI v3 d (by omega)
 have a1:=Int.emod_nonneg v3 (show d≠0 by omega)
 have a2:=Int.emod_lt_of_pos v3 (show 0<d by omega)
 have m4:=modI v4 h (by omega)
 have a3:=Int.emod_nonneg v4 (show h≠0 by omega)
 have a4:=Int.emod_lt_of_pos v4 (show 0<h by omega)
 generalize v3%d=t at*
 generalize v4%h=n at*
 have rg:=rng1_i n a3 (by omega)
 have i1:ixR (ruD p d h s) (.int 1)= .ok (.int d):=ixR_t _ _ _ rfl
 have i2:ixR (ruD p d h s) (.int 2)= .ok (.int h):=ixR_t _ _ _ rfl
 obtain ⟨δ2,fo,t',q,x4,rfl,ql,qb,t0⟩:=forD_ix (t:=setI 4) (body:=l__law_pin_1) (fun i δ=>∃ (t':Int) (q:List Int) (x4:Option S),δ= [some (.d (ruD p d h s)),some (.d (.int c)),some (.d (.int t')),some (.o (q.map D.int)),x4]∧(1≤q.length∧q.length≤1+i)∧(∀ i∈q,0≤i∧i<d∧i≤t')∧0≤t')
  (rngD 0 n.toNat) [some (.d (ruD p d h s)),some (.d (.int c)),some (.d (.int t)),some (.o [.int t]),none] (fun i e δ hd hI=>by
   obtain ⟨t',q,x4,rfl,ql,qb,t0⟩:=hI
   obtain ⟨hi,rfl⟩:=rngD_get hd
   obtain ⟨t2,q2,e2,l2,b2',t2'⟩:=pin_t p d h s c t' q i (by omega) (by omega) qb t0
   refine ⟨_,rfl,_, .inl ?_,t2,q2,some (.d (.int (i:Int))),rfl,by omega,b2',t2'⟩
   rw [show (0+(i:Int))=(i:Int) by omega]
   exact e2) ⟨t,[t],none,rfl,⟨by simp,by simp⟩,fun i hi=>by rw [List.mem_singleton.mp hi];omega,a1⟩
 rw [rngD_len] at ql
 refine ⟨q,callR_eq _ _ _ _ ?_ rfl,⟨ql.1,by omega,fun i hi=>⟨(qb i hi).1,(qb i hi).2.1⟩⟩⟩
 have l0:∀ δ:DSt,b1 lstR (aCons (slotD 2) aNil) (some (.d (ruD p d h s))::some (.d (.int c))::some (.d (.int t))::δ)= .ok [.int t]:=fun δ=>by
  simp only [b1,lstR,aCons,aNil,slotD_0,slotD_s,consR_ok,Res.bind_ok,List.length_cons,List.length_nil,Nat.reduceAdd,Nat.reduceLeDiff,if_true]
 clear a1 a2 a3 a4 ql qb t0
 unfold m__law_pin b__law_pin
 simp only [runD_eq,startD,List.map_cons,List.map_nil,List.length_cons,List.length_nil,List.cons_append,List.nil_append,Nat.reduceAdd,Nat.reduceSub,List.replicate,sSeq,sSet,sOwn,sFor,sRet,kD,b1,b2,aCons,aNil,consR_ok,slotD_0,slotD_s,slotP_0,slotP_0o,slotP_s,Res.bind_ok,ofR_ok,seqO_nx,e3,e4,i1,i2,m3,m4,rg,lstR,Nat.reduceLeDiff,if_true,fo,tupofR_l,finO_rt,List.set_cons_zero,List.set_cons_succ]
 rfl
inductive Rw where
 |bk (x:Str)|fl (x:Str) (p d:Int)|pn (x:Str) (p:Int) (q:List Int)|bt (x:Str)|op (x:Str)
def Rw.ps:Rw→List Str
 |bk x=> ["blank",x]
 |fl x p d=> ["file",x,(toString p:Str),(toString d:Str)]
 |pn x p q=> ["pin",x,(toString p:Str),shq q]
 |bt x=> ["bolt",x]
 |op x=> ["open",x]
def Rw.tx (r:Rw):Str:=PySem.Txt.join ⟨#[32]⟩ r.ps
def Rw.ob:Rw→D
 |bk x=> .obj "Blank" ["key"] [.str x]
 |fl x p d=> .obj "File" ["key","place","depth"] [.str x, .int p, .int d]
 |pn x p q=> .obj "Pin" ["door","place","heights"] [.str x, .int p,pD q]
 |bt x=> .obj "Bolt" ["door"] [.str x]
 |op x=> .obj "Open" ["door"] [.str x]
def Rw.Ok (p d h:Int):Rw→Prop
 |bk x=>Gd x
 |fl x i j=>Gd x∧(0≤i∧i<p)∧(0≤j∧j<d)
 |pn x i q=>Gd x∧(0≤i∧i<p)∧PinOk d h q
 |bt x=>Gd x
 |op x=>Gd x
theorem q20 {d h:Int} {q:List Int} (o:PinOk d h q) (hd:d≤20) (hh:h≤d):Q20 q:=⟨fun c hc=>by have:=o.bd c hc;omega,o.ne,by have:=o.le;omega⟩
theorem jn_eq (c:Nat) (xs:List Str):(PySem.Txt.join ⟨#[c]⟩ xs).cps.toList=jn c (xs.map fun x=>x.cps.toList):=by
 rw [show PySem.Txt.join ⟨#[c]⟩ xs=Str.join ⟨#[c]⟩ xs from StrLaws.glued_eq_join _ _,join_cps]
theorem tx2 (a b x:Str) (h:a=b++⟨#[32]⟩):a++x=PySem.Txt.join ⟨#[32]⟩ [b,x]:=by
 refine str_ext ?_
 rw [jn_eq,h]
 simp only [List.map_cons,List.map_nil,jn,Str.cps_append,Array.toList_append,List.append_assoc]
 rfl
theorem tx4 (a b x y z:Str) (h:a=b++⟨#[32]⟩):a++x++(" ":Str)++y++(" ":Str)++z=PySem.Txt.join ⟨#[32]⟩ [b,x,y,z]:=by
 refine str_ext ?_
 rw [jn_eq,h,show (" ":Str)=⟨#[32]⟩ from rfl]
 simp only [List.map_cons,List.map_nil,jn,Str.cps_append,Array.toList_append,List.append_assoc]
 rfl
theorem mk_b (x:D):callR 1 (makeR 1 "Blank" fs_Blank) [x]= .ok (.obj "Blank" ["key"] [x]):=rfl
theorem mk_t (x:D):callR 1 (makeR 1 "Bolt" fs_Bolt) [x]= .ok (.obj "Bolt" ["door"] [x]):=rfl
theorem mk_o (x:D):callR 1 (makeR 1 "Open" fs_Open) [x]= .ok (.obj "Open" ["door"] [x]):=rfl
theorem mk_f (x y z:D):callR 3 (makeR 3 "File" fs_File) [x,y,z]= .ok (.obj "File" ["key","place","depth"] [x,y,z]):=rfl
theorem mk_p (x y z:D):callR 3 (makeR 3 "Pin" fs_Pin) [x,y,z]= .ok (.obj "Pin" ["door","place","heights"] [x,y,z]):=rfl
noncomputable abbrev shTb:List (Str×(List D→Res D)):= [("Blank",m_Blank_shown),("File",m_File_shown),("Pin",m_Pin_shown),("Bolt",m_Bolt_shown),("Open",m_Open_shown)]
theorem mth_ok {c:Str} {ks:List Str} {ds:List D} {g:List D→Res D} {d:D} (h1:("shown":Str)∉ks) (h2:shTb.lookup c=some g) (h3:g [.obj c ks ds]= .ok d):mthR "shown" shTb (.obj c ks ds)= .ok d:=by
 unfold mthR
 dsimp only
 rw [if_neg h1,h2]
 dsimp only
 rw [h3]
section
variable {p d h s:Int} (o:RuOk p d h)
include o
theorem ps_ok (r:Rw) (k:r.Ok p d h):(r.ps.map (·.length)).sum+r.ps.length≤900:=by
 have p1:=o.p1
 have d1:=o.d1
 cases r with
 |bk x=>
  have:=k.1
  simp only [Rw.ps,List.map_cons,List.map_nil,List.sum_cons,List.sum_nil,List.length_cons,List.length_nil]
  have:("blank":Str).length=5:=rfl
  omega
 |bt x=>
  have:=k.1
  simp only [Rw.ps,List.map_cons,List.map_nil,List.sum_cons,List.sum_nil,List.length_cons,List.length_nil]
  have:("bolt":Str).length=4:=rfl
  omega
 |op x=>
  have:=k.1
  simp only [Rw.ps,List.map_cons,List.map_nil,List.sum_cons,List.sum_nil,List.length_cons,List.length_nil]
  have:("open":Str).length=4:=rfl
  omega
 |fl x i j=>
  obtain ⟨g,hi,hj⟩:=k
  have:=g.1
  obtain ⟨l1,_⟩:=dg3 i (by omega) (by omega)
  obtain ⟨l2,_⟩:=dg3 j (by omega) (by omega)
  simp only [Rw.ps,List.map_cons,List.map_nil,List.sum_cons,List.sum_nil,List.length_cons,List.length_nil]
  have:("file":Str).length=4:=rfl
  omega
 |pn x i q=>
  obtain ⟨g,hi,hq⟩:=k
  have:=g.1
  obtain ⟨l1,_⟩:=dg3 i (by omega) (by omega)
  have q2:=q20 hq d1.2 o.h1.2
  have ql:=shq_len q2
  simp only [Rw.ps,List.map_cons,List.map_nil,List.sum_cons,List.sum_nil,List.length_cons,List.length_nil]
  have:("pin":Str).length=3:=rfl
  omega
theorem show_eq (r:Rw) (k:r.Ok p d h):mthR "shown" shTb r.ob= .ok (.str r.tx):=by
 have p1:=o.p1
 have d1:=o.d1
 have n3:=ps_ok o r k
 cases r with
 |bk x=>
  have f1:fldR "Blank" "key" (Rw.bk x).ob= .ok (.str x):=rfl
  have ad:=addD_s "blank " x (by have:=k.1;show 6+_≤_;omega)
  rw [tx2 "blank " "blank" x rfl] at ad
  refine mth_ok (g:=m_Blank_shown) (by decide) rfl ?_
  show m_Blank_shown [(Rw.bk x).ob]=_
  generalize (Rw.bk x).ob=O at*
  unfold m_Blank_shown b_Blank_shown
  simp only [runD_eq,startD,List.map_cons,List.map_nil,List.length_cons,List.length_nil,List.cons_append,List.nil_append,Nat.reduceAdd,Nat.reduceSub,List.replicate,sRet,kD,b1,b2,slotD_0,Res.bind_ok,f1,ad,ofR_ok,finO_rt]
  rfl
 |bt x=>
  have f1:fldR "Bolt" "door" (Rw.bt x).ob= .ok (.str x):=rfl
  have ad:=addD_s "bolt " x (by have:=k.1;show 5+_≤_;omega)
  rw [tx2 "bolt " "bolt" x rfl] at ad
  refine mth_ok (g:=m_Bolt_shown) (by decide) rfl ?_
  show m_Bolt_shown [(Rw.bt x).ob]=_
  generalize (Rw.bt x).ob=O at*
  unfold m_Bolt_shown b_Bolt_shown
  simp only [runD_eq,startD,List.map_cons,List.map_nil,List.length_cons,List.length_nil,List.cons_append,List.nil_append,Nat.reduceAdd,Nat.reduceSub,List.replicate,sRet,kD,b1,b2,slotD_0,Res.bind_ok,f1,ad,ofR_ok,finO_rt]
  rfl
 |op x=>
  have f1:fldR "Open" "door" (Rw.op x).ob= .ok (.str x):=rfl
  have ad:=addD_s "open " x (by have:=k.1;show 5+_≤_;omega)
  rw [tx2 "open " "open" x rfl] at ad
  refine mth_ok (g:=m_Open_shown) (by decide) rfl ?_
  show m_Open_shown [(Rw.op x).ob]=_
  generalize (Rw.op x).ob=O at*
  unfold m_Open_shown b_Open_shown
  simp only [runD_eq,startD,List.map_cons,List.map_nil,List.length_cons,List.length_nil,List.cons_append,List.nil_append,Nat.reduceAdd,Nat.reduceSub,List.replicate,sRet,kD,b1,b2,slotD_0,Res.bind_ok,f1,ad,ofR_ok,finO_rt]
  rfl
 |fl x i j=>
  obtain ⟨g,hi,hj⟩:=k
  obtain ⟨_,s1⟩:=dg3 i (by omega) (by omega)
  obtain ⟨_,s2⟩:=dg3 j (by omega) (by omega)
  have f1:fldR "File" "key" (Rw.fl x i j).ob= .ok (.str x):=rfl
  have f2:fldR "File" "place" (Rw.fl x i j).ob= .ok (.int i):=rfl
  have f3:fldR "File" "depth" (Rw.fl x i j).ob= .ok (.int j):=rfl
  have jr:=joinR_eq 32 (Rw.fl x i j).ps n3
  have jr':joinR " " [.lst [.str "file", .str x, .str (toString i), .str (toString j)]]= .ok (.str (Rw.fl x i j).tx):=jr
  refine mth_ok (g:=m_File_shown) (by decide) rfl ?_
  show m_File_shown [(Rw.fl x i j).ob]=_
  clear jr n3
  generalize (Rw.fl x i j).ob=O at*
  generalize (Rw.fl x i j).tx=T at*
  unfold m_File_shown b_File_shown
  simp only [runD_eq,startD,List.map_cons,List.map_nil,List.length_cons,List.length_nil,List.cons_append,List.nil_append,Nat.reduceAdd,Nat.reduceSub,List.replicate,sRet,bM,asD,lstR,kD,b1,b2,aCons,aNil,consR_ok,slotD_0,Res.bind_ok,f1,f2,f3,s1,s2,jr',Nat.reduceLeDiff,if_true,ofR_ok,finO_rt]
 |pn x i q=>
  obtain ⟨g,hi,hq⟩:=k
  have q2:=q20 hq d1.2 o.h1.2
  obtain ⟨_,s1⟩:=dg3 i (by omega) (by omega)
  have s2:=shown_pin q2
  have f1:fldR "Pin" "door" (Rw.pn x i q).ob= .ok (.str x):=rfl
  have f2:fldR "Pin" "place" (Rw.pn x i q).ob= .ok (.int i):=rfl
  have f3:fldR "Pin" "heights" (Rw.pn x i q).ob= .ok (pD q):=rfl
  have jr:=joinR_eq 32 (Rw.pn x i q).ps n3
  have jr':joinR " " [.lst [.str "pin", .str x, .str (toString i), .str (shq q)]]= .ok (.str (Rw.pn x i q).tx):=jr
  refine mth_ok (g:=m_Pin_shown) (by decide) rfl ?_
  show m_Pin_shown [(Rw.pn x i q).ob]=_
  clear jr n3
  generalize (Rw.pn x i q).ob=O at*
  generalize (Rw.pn x i q).tx=T at*
  generalize pD q=Q at*
  generalize shq q=Z at*
  unfold m_Pin_shown b_Pin_shown
  simp only [runD_eq,startD,List.map_cons,List.map_nil,List.length_cons,List.length_nil,List.cons_append,List.nil_append,Nat.reduceAdd,Nat.reduceSub,List.replicate,sRet,bM,asD,lstR,kD,b1,b2,aCons,aNil,consR_ok,slotD_0,Res.bind_ok,f1,f2,f3,s1,s2,jr',Nat.reduceLeDiff,if_true,ofR_ok,finO_rt]
end
theorem comp_rng {fe:DSt→Res D} (F:Nat→D) (δ:DSt) (n:Nat) (hn:n≤1000) (h:∀ k,k<n→fe (some (.d (.int (k:Int)))::δ)= .ok (F k)):compR 1 (setI 0) (fun _=> .ok true) fe δ (rngD 0 n)= .ok ((List.range n).map F):=by
 refine compR_ok ?_ (by rw [rngD_len];omega)
 have:=comp_map (fe:=fe) (fun d=>match d with| .int i=>F i.toNat|_=> .non) δ (rngD 0 n) none (fun d hd=>by
  obtain ⟨k,hk,rfl⟩:=List.mem_map.mp (show d∈(List.range n).map fun (i:Nat)=>D.int (0+i) from hd)
  have e:=h k (List.mem_range.mp hk)
  rw [show (0+(k:Int))=(k:Int) by omega]
  exact e)
 unfold rngD at this ⊢
 rw [List.map_map] at this
 rw [show List.replicate 1 (none:Option S)++δ=none::δ from rfl,this]
 congr 1
 refine List.map_congr_left fun k _=> ?_
 show (match D.int (0+(k:Int)) with| .int i=>F i.toNat|_=> .non)=F k
 simp
theorem mixedN (c:Int) (b:Nat) (hb:b≤200):∃ g:Nat→Int,∀ k:Nat,k≤100→callR 2 m__law_mixed [.int c, .int ((b:Int)+(k:Int))]= .ok (.int (g k)):=by
 refine ⟨fun (k:Nat)=>if h:k≤100 then (mixed_ex c ((b:Int)+(k:Int)) (by omega) (by omega)).choose else 0,fun k hk=> ?_⟩
 dsimp only
 rw [dif_pos hk]
 exact (mixed_ex c ((b:Int)+(k:Int)) (by omega) (by omega)).choose_spec
structure CutOk (p d:Int) (A:List Int):Prop where
 len:(A.length:Int)=p
 bd:∀ a∈A,0≤a∧a<d
def bD (B:List (List Int)):D:= .tup (B.map pD)
structure BarOk (p d h:Int) (B:List (List Int)):Prop where
 len:(B.length:Int)=p
 pin:∀ q∈B,PinOk d h q
section
variable {p d h s:Int} (o:RuOk p d h)
include o
theorem rg_p:rng1R [.int p]= .ok (rngD 0 p.toNat):=rng1_i p (by have:=o.p1;omega) (by have:=o.p1;omega)
theorem cut_ex (c:Int):∃ A,callR 2 m__law_cut [ruD p d h s, .int c]= .ok (pD A)∧CutOk p d A:=by
 have p1:=o.p1
 have d1:=o.d1
 obtain ⟨g,hg⟩:=mixedN c 30 (by decide)
 have i0:ixR (ruD p d h s) (.int 0)= .ok (.int p):=ixR_t _ _ _ rfl
 have i1:ixR (ruD p d h s) (.int 1)= .ok (.int d):=ixR_t _ _ _ rfl
 have rg:=rg_p o
 have cm:=comp_rng (fe:=e__law_cut_1) (fun k=>D.int (g k%d)) [some (.d (ruD p d h s)),some (.d (.int c))] p.toNat (by omega) (fun k hk=>by
  have e1:=hg k (by omega)
  have m1:=modI (g k) d (by omega)
  unfold e__law_cut_1
  have a1:addD (.int 30) (.int (k:Int))= .ok (.int (30+(k:Int))):=addD_ii _ _
  have e1':callR 2 m__law_mixed [.int c, .int (30+(k:Int))]= .ok (.int (g k)):=e1
  simp only [b1,b2,kD,aCons,aNil,consR_ok,slotD_0,slotD_s,slotP_0,slotP_s,Res.bind_ok,a1,e1',i1,m1])
 refine ⟨(List.range p.toNat).map fun k=>g k%d,callR_eq _ _ _ _ ?_ rfl,⟨by rw [List.length_map,List.length_range];omega,fun a ha=> ?_⟩⟩
 ·rw [show pD ((List.range p.toNat).map fun k=>g k%d)= .tup ((List.range p.toNat).map fun k=>D.int (g k%d)) from by unfold pD;rw [List.map_map];rfl]
  generalize (List.range p.toNat).map (fun k=>D.int (g k%d))=ds at*
  generalize ruD p d h s=R at*
  unfold m__law_cut b__law_cut
  simp only [runD_eq,startD,List.map_cons,List.map_nil,List.length_cons,List.length_nil,List.cons_append,List.nil_append,List.append_nil,Nat.reduceAdd,Nat.reduceSub,List.replicate,sRet,asD,vComp,kD,b1,b2,aCons,aNil,consR_ok,slotD_0,slotD_s,slotP_0,slotP_s,Res.bind_ok,i0,rg,cm,tupofR_l,ofR_ok,finO_rt]
 ·obtain ⟨k,_,rfl⟩:=List.mem_map.mp ha
  exact ⟨Int.emod_nonneg _ (by omega),Int.emod_lt_of_pos _ (by omega)⟩
theorem barrel_ex (c:Int):∃ B,callR 2 m__law_barrel [ruD p d h s, .int c]= .ok (bD B)∧BarOk p d h B:=by
 have p1:=o.p1
 obtain ⟨g,hg⟩:=mixedN c 60 (by decide)
 have i0:ixR (ruD p d h s) (.int 0)= .ok (.int p):=ixR_t _ _ _ rfl
 have rg:=rg_p o
 obtain ⟨q,hq⟩:∃ q:Nat→List Int,∀ k,callR 2 m__law_pin [ruD p d h s, .int (g k)]= .ok (pD (q k))∧PinOk d h (q k):=⟨fun k=>(pin_ex p d h s (g k) o).choose,fun k=>(pin_ex p d h s (g k) o).choose_spec⟩
 have cm:=comp_rng (fe:=e__law_barrel_1) (fun k=>pD (q k)) [some (.d (ruD p d h s)),some (.d (.int c))] p.toNat (by omega) (fun k hk=>by
  have e1:=hg k (by omega)
  have e2:=(hq k).1
  unfold e__law_barrel_1
  have a1:addD (.int 60) (.int (k:Int))= .ok (.int (60+(k:Int))):=addD_ii _ _
  have e1':callR 2 m__law_mixed [.int c, .int (60+(k:Int))]= .ok (.int (g k)):=e1
  simp only [b1,b2,kD,aCons,aNil,consR_ok,slotD_0,slotD_s,slotP_0,slotP_s,Res.bind_ok,a1,e1',e2])
 refine ⟨(List.range p.toNat).map q,callR_eq _ _ _ _ ?_ rfl,⟨by rw [List.length_map,List.length_range];omega,fun a ha=> ?_⟩⟩
 ·rw [show bD ((List.range p.toNat).map q)= .tup ((List.range p.toNat).map fun k=>pD (q k)) from by unfold bD;rw [List.map_map];rfl]
  clear hq
  generalize (List.range p.toNat).map (fun k=>pD (q k))=ds at*
  generalize ruD p d h s=R at*
  unfold m__law_barrel b__law_barrel
  simp only [runD_eq,startD,List.map_cons,List.map_nil,List.length_cons,List.length_nil,List.cons_append,List.nil_append,List.append_nil,Nat.reduceAdd,Nat.reduceSub,List.replicate,sRet,asD,vComp,kD,b1,b2,aCons,aNil,consR_ok,slotD_0,slotD_s,slotP_0,slotP_s,Res.bind_ok,i0,rg,cm,tupofR_l,ofR_ok,finO_rt]
 ·obtain ⟨k,_,rfl⟩:=List.mem_map.mp ha
  exact (hq k).2
end
def dK (l:List (Key×D)):D:= .dct (l.map (·.1)) (l.map (·.2))
theorem dK_zip (l:List (Key×D)):(l.map (·.1)).zip (l.map (·.2))=l:=by
 rw [List.zip_map']
 exact List.map_id _
abbrev sQ (l:List (Key×D)):Option S:=some (.q (l.map (·.1)) (l.map (·.2)))
section
variable {α:Type}
def tb (v:α→D) (l:List (Str×α)):List (Key×D):=l.map fun p=>(.inr p.1,v p.2)
def pT (l:List (Str×α)) (n:Str) (y:α):List (Str×α):=if (l.any fun p=>decide (p.1=n))=true then l.map (fun p=>if p.1=n then (p.1,y) else p) else l++ [(n,y)]
def gT (l:List (Str×α)) (n:Str):Option α:=(l.find? fun p=>decide (p.1=n)).map (·.2)
theorem inr_dec (a b:Str):decide ((Sum.inr a:Key)= .inr b)=decide (a=b):=decide_eq_decide.mpr ⟨fun z=>Sum.inr.inj z,fun z=>by rw [z]⟩
theorem tb_has (v:α→D) (n:Str):∀ l:List (Str×α),tHas (tb v l) (.inr n)=l.any fun p=>decide (p.1=n)
 | []=>rfl
 |p::l=>by
  show (decide ((Sum.inr p.1:Key)= .inr n)||tHas (tb v l) (.inr n))=_
  rw [tb_has v n l,inr_dec];rfl
theorem tb_put (v:α→D) (l:List (Str×α)) (n:Str) (y:α):tPut (tb v l) (.inr n) (v y)=tb v (pT l n y):=by
 unfold tPut pT
 rw [tb_has]
 split
 ·unfold tb
  rw [List.map_map,List.map_map]
  refine List.map_congr_left fun p _=> ?_
  show (if (Sum.inr p.1:Key)= .inr n then ((Sum.inr p.1:Key),v y) else (Sum.inr p.1,v p.2))=_
  by_cases e:p.1=n
  ·rw [if_pos (by rw [e])]
   show _=((Sum.inr (if p.1=n then (p.1,y) else p).1:Key),v (if p.1=n then (p.1,y) else p).2)
   rw [if_pos e]
  ·rw [if_neg (fun z=>e (Sum.inr.inj z))]
   show _=((Sum.inr (if p.1=n then (p.1,y) else p).1:Key),v (if p.1=n then (p.1,y) else p).2)
   rw [if_neg e]
 ·unfold tb
  rw [List.map_append];rfl
theorem tb_get (v:α→D) (n:Str):∀ l:List (Str×α),tGet (tb v l) (.inr n)=(gT l n).map v
 | []=>rfl
 |p::l=>by
  show tGet ((Sum.inr p.1,v p.2)::tb v l) (.inr n)=_
  unfold gT
  by_cases e:p.1=n
  ·rw [tGet_pos (by rw [e]),List.find?_cons_of_pos (by simp [e])];rfl
  ·rw [tGet_neg (fun z=>e (Sum.inr.inj z)),List.find?_cons_of_neg (by simp [e]),tb_get v n l];rfl
theorem tb_len (v:α→D) (l:List (Str×α)):(tb v l).length=l.length:=List.length_map ..
theorem pT_mem {l:List (Str×α)} {n:Str} {y:α} {p:Str×α} (h:p∈pT l n y):p∈l∨p=(n,y):=by
 unfold pT at h
 split at h
 ·obtain ⟨q,hq,rfl⟩:=List.mem_map.mp h
  by_cases e:q.1=n
  ·rw [if_pos e];exact .inr (by rw [e])
  ·rw [if_neg e];exact .inl hq
 ·rcases List.mem_append.mp h with z|z
  ·exact .inl z
  ·exact .inr (List.mem_singleton.mp z)
theorem pT_names (l:List (Str×α)) (n:Str) (y:α):(pT l n y).map (·.1)=if n∈l.map (·.1) then l.map (·.1) else l.map (·.1)++ [n]:=by
 have hm:(l.any fun p=>decide (p.1=n))=true↔n∈l.map (·.1):=by
  rw [List.any_eq_true,List.mem_map]
  exact ⟨fun ⟨p,hp,e⟩=>⟨p,hp,of_decide_eq_true e⟩,fun ⟨p,hp,e⟩=>⟨p,hp,decide_eq_true e⟩⟩
 unfold pT
 by_cases h:n∈l.map (·.1)
 ·rw [if_pos (hm.mpr h),if_pos h,List.map_map]
  refine List.map_congr_left fun p _=> ?_
  show (if p.1=n then (p.1,y) else p).1=p.1
  split<;>rfl
 ·rw [if_neg (fun z=>h (hm.mp z)),if_neg h,List.map_append];rfl
theorem pT_nodup {l:List (Str×α)} {n:Str} {y:α} (h:(l.map (·.1)).Nodup):((pT l n y).map (·.1)).Nodup:=by
 rw [pT_names]
 split
 ·exact h
 ·rename_i e
  refine List.nodup_append.mpr ⟨h,by simp,fun a ha b hb z=> ?_⟩
  rw [List.mem_singleton.mp hb] at z
  exact e (z▸ha)
structure TbOk (f:Nat→Str) (G:α→Prop) (i:Nat) (l:List (Str×α)):Prop where
 nd:(l.map (·.1)).Nodup
 nm:∀ p∈l,∃ k,k<i∧p.1=f k
 vl:∀ p∈l,G p.2
variable {f:Nat→Str} {G:α→Prop} {i:Nat} {l:List (Str×α)}
theorem TbOk.nil:TbOk f G i ([]:List (Str×α)):=⟨List.nodup_nil,fun p hp=>absurd hp List.not_mem_nil,fun p hp=>absurd hp List.not_mem_nil⟩
theorem TbOk.put (h:TbOk f G i l) {k:Nat} (hk:k<i) {y:α} (hy:G y):TbOk f G i (pT l (f k) y):=⟨pT_nodup h.nd,fun p hp=>by
  rcases pT_mem hp with z|rfl
  ·exact h.nm p z
  ·exact ⟨k,hk,rfl⟩,fun p hp=>by
  rcases pT_mem hp with z|rfl
  ·exact h.vl p z
  ·exact hy⟩
theorem TbOk.up (h:TbOk f G i l):TbOk f G (i+1) l:=⟨h.nd,fun p hp=>by obtain ⟨k,hk,e⟩:=h.nm p hp;exact ⟨k,by omega,e⟩,h.vl⟩
theorem TbOk.len (h:TbOk f G i l):l.length≤i:=by
 rw [←List.length_map (f:=(·.1)),←List.length_range (n:=i),←List.length_map (f:=f) (as:=List.range i)]
 refine List.Nodup.length_le_of_subset h.nd fun x hx=> ?_
 obtain ⟨p,hp,rfl⟩:=List.mem_map.mp hx
 obtain ⟨k,hk,e⟩:=h.nm p hp
 exact List.mem_map.mpr ⟨k,List.mem_range.mpr hk,e.symm⟩
end
theorem put_eq (i:Nat) (fi f:DSt→Res D) (δ:DSt) (l:List (Key×D)) (n:Str) (d:D) (h0:δ[i]? =some (sQ l)) (h1:fi δ= .ok (.str n)) (h2:f δ= .ok d) (hl:l.length≤1000):sPutI i fi f δ= .nx (δ.set i (sQ (tPut l (.inr n) d))):=by
 unfold sPutI
 rw [h2,ofR_ok]
 unfold putO
 rw [h0]
 dsimp only
 rw [h1,ofR_ok,dK_zip]
 unfold putJ
 show (if l.length≤1000 then _ else _)=_
 rw [if_pos hl]
theorem names_at {f:Nat→Str} {M k:Nat} (h:k<M):ixR (sL (List.range M) f) (.int (k:Int))= .ok (.str (f k)):=by
 refine ixR_l _ _ _ (atI_pos (by omega) ?_)
 rw [show ((k:Int)).toNat=k by omega,List.getElem?_map,List.getElem?_range h];rfl
theorem set_same {α:Type}:∀ {l:List α} {i:Nat} {x:α},l[i]? =some x→l.set i x=l
 | [],_,_,h=>by simp at h
 |a::l,0,x,h=>by
  have:a=x:=by simpa using h
  rw [this];rfl
 |a::l,i+1,x,h=>by
  rw [List.set_cons_succ,set_same (by simpa using h)]
theorem ifput_eq {α:Type} {v:α→D} {c:DSt→Res Bool} {b:Bool} (i:Nat) (fi f:DSt→Res D) (δ:DSt) (l:List (Str×α)) (n:Str) (y:α) (hc:c δ= .ok b) (h0:δ[i]? =some (sQ (tb v l))) (h1:fi δ= .ok (.str n)) (h2:b=true→f δ= .ok (v y)) (hl:l.length≤1000):
  sIf c (sPutI i fi f) Out.nx δ= .nx (δ.set i (sQ (tb v (if b=true then pT l n y else l)))):=by
 cases b with
 |true=>rw [sIf_t hc,put_eq i fi f δ (tb v l) n (v y) h0 h1 (h2 rfl) (by rw [tb_len];exact hl),tb_put,if_pos rfl]
 |false=>rw [sIf_f hc,if_neg Bool.false_ne_true,set_same h0]
theorem TbOk.ite {α:Type} {f:Nat→Str} {G:α→Prop} {i k:Nat} {l:List (Str×α)} (h:TbOk f G i l) (b:Bool) (hk:k<i) {y:α} (hy:b=true→G y):TbOk f G i (if b=true then pT l (f k) y else l):=by
 cases b with
 |true=>rw [if_pos rfl];exact h.put hk (hy rfl)
 |false=>rw [if_neg Bool.false_ne_true];exact h
section
variable {p d h s:Int} (o:RuOk p d h)
include o
theorem keys_turn (f:Nat→Str) (M:Nat) (ns:List Int) (k:Nat) (hk:k<3) (hM:k<M) (l1 l2:List (Str×List Int)) (k1:TbOk f (CutOk p d) k l1) (k2:TbOk f (CutOk p d) k l2) (x6 x7 x8:Option S):
  ∃ l1' l2' x6' x7' x8',l__law_keys_1 [some (.d (ruD p d h s)),some (.d (sL (List.range M) f)),some (.d (.lst (ns.map D.int))),sQ (tb pD l1),sQ (tb pD l2),some (.d (.int (k:Int))),x6,x7,x8]= .nx [some (.d (ruD p d h s)),some (.d (sL (List.range M) f)),some (.d (.lst (ns.map D.int))),sQ (tb pD l1'),sQ (tb pD l2'),some (.d (.int (k:Int))),x6',x7',x8']∧TbOk f (CutOk p d) (k+1) l1'∧TbOk f (CutOk p d) (k+1) l2':=by
 have p1:=o.p1
 have d1:=o.d1
 obtain ⟨c,ec⟩:=cell_ex ns (3+(k:Int)) (by omega)
 obtain ⟨v,ev⟩:=mixed_ex c (70+(k:Int)) (by omega) (by omega)
 obtain ⟨A,eA,oA⟩:=cut_ex (s:=s) o v
 obtain ⟨v7,e7⟩:=mixed_ex v 7 (by decide) (by decide)
 obtain ⟨B,eB,oB⟩:=cut_ex (s:=s) o v7
 have m5:=modI v 5 (by decide)
 have nm:=names_at (f:=f) hM
 have a3:addD (.int 3) (.int (k:Int))= .ok (.int (3+(k:Int))):=addD_ii _ _
 have a70:addD (.int 70) (.int (k:Int))= .ok (.int (70+(k:Int))):=addD_ii _ _
 have i0:ixR (ruD p d h s) (.int 0)= .ok (.int p):=ixR_t _ _ _ rfl
 have rg:=rg_p o
 obtain ⟨g,hg⟩:=mixedN v 80 (by decide)
 generalize v%5=w at*
 generalize ns.map D.int=sc at*
 generalize hR:ruD p d h s=R at*
 generalize hN:sL (List.range M) f=N at*
 have cm:∀ x3 x4:Option S,compR 1 (setI 0) (fun _=> .ok true) e__law_keys_1 [some (.d R),some (.d N),some (.d (.lst sc)),x3,x4,some (.d (.int (k:Int))),some (.d (.int v)),some (.d (pD A)),some (.d (.int w))] (rngD 0 p.toNat)= .ok ((List.range p.toNat).map fun j=>D.int (g j%(A.getD j 0+1))):=fun x3 x4=>comp_rng (fe:=e__law_keys_1) (fun j=>D.int (g j%(A.getD j 0+1))) _ p.toNat (by omega) (fun j hj=>by
  have e1:=hg j (by omega)
  have hA:j<A.length:=by have:=oA.len;omega
  have ia:ixR (pD A) (.int (j:Int))= .ok (.int (A.getD j 0)):=ixR_t _ _ _ (atI_pos (by omega) (by
   rw [show ((j:Int)).toNat=j by omega,List.getElem?_map,List.getElem?_eq_getElem hA,List.getD_eq_getElem?_getD,List.getElem?_eq_getElem hA];rfl))
  have hb:=oA.bd (A.getD j 0) (by rw [List.getD_eq_getElem?_getD,List.getElem?_eq_getElem hA];exact List.getElem_mem _)
  have m1:=modI (g j) (A.getD j 0+1) (by omega)
  have a1:addD (.int 80) (.int (j:Int))= .ok (.int (80+(j:Int))):=addD_ii _ _
  have e1':callR 2 m__law_mixed [.int v, .int (80+(j:Int))]= .ok (.int (g j)):=e1
  have a2:addD (.int (A.getD j 0)) (.int 1)= .ok (.int (A.getD j 0+1)):=addD_ii _ _
  clear hb
  generalize pD A=PA at*
  unfold e__law_keys_1
  simp only [b1,b2,kD,aCons,aNil,consR_ok,slotD_0,slotD_s,slotP_0,slotP_s,Res.bind_ok,a1,e1',ia,a2,m1])
 have oC:CutOk p d ((List.range p.toNat).map fun j=>g j%(A.getD j 0+1)):=⟨by rw [List.length_map,List.length_range];omega,fun a ha=>by
  obtain ⟨j,hj,rfl⟩:=List.mem_map.mp ha
  have hA:j<A.length:=by have:=oA.len;have:=List.mem_range.mp hj;omega
  have hb:=oA.bd (A.getD j 0) (by rw [List.getD_eq_getElem?_getD,List.getElem?_eq_getElem hA];exact List.getElem_mem _)
  have:=Int.emod_nonneg (g j) (show A.getD j 0+1≠0 by omega)
  have:=Int.emod_lt_of_pos (g j) (show 0<A.getD j 0+1 by omega)
  omega⟩
 have eC:pD ((List.range p.toNat).map fun j=>g j%(A.getD j 0+1))= .tup ((List.range p.toNat).map fun j=>D.int (g j%(A.getD j 0+1))):=by unfold pD;rw [List.map_map];rfl
 generalize (List.range p.toNat).map (fun j=>g j%(A.getD j 0+1))=C at*
 generalize (List.range p.toNat).map (fun j=>D.int (g j%(A.getD j 0+1)))=CD at*
 have w1:sSet 6 (b1 (callR 2 m__law_mixed) (aCons (b1 (callR 2 m__law_cell_at) (aCons (slotD 2) (aCons (b2 addD (kD (.int 3)) (slotP 5)) aNil))) (aCons (b2 addD (kD (.int 70)) (slotP 5)) aNil))) [some (.d R),some (.d N),some (.d (.lst sc)),sQ (tb pD l1),sQ (tb pD l2),some (.d (.int (k:Int))),x6,x7,x8]= .nx [some (.d R),some (.d N),some (.d (.lst sc)),sQ (tb pD l1),sQ (tb pD l2),some (.d (.int (k:Int))),some (.d (.int v)),x7,x8]:=by
  simp only [sSet,kD,b1,b2,aCons,aNil,consR_ok,slotD_0,slotD_s,slotP_0,slotP_s,Res.bind_ok,ofR_ok,a3,a70,ec,ev,List.set_cons_zero,List.set_cons_succ]
 have w2:sSet 7 (b1 (callR 2 m__law_cut) (aCons (slotD 0) (aCons (slotD 6) aNil))) [some (.d R),some (.d N),some (.d (.lst sc)),sQ (tb pD l1),sQ (tb pD l2),some (.d (.int (k:Int))),some (.d (.int v)),x7,x8]= .nx [some (.d R),some (.d N),some (.d (.lst sc)),sQ (tb pD l1),sQ (tb pD l2),some (.d (.int (k:Int))),some (.d (.int v)),some (.d (pD A)),x8]:=by
  simp only [sSet,kD,b1,b2,aCons,aNil,consR_ok,slotD_0,slotD_s,slotP_0,slotP_s,Res.bind_ok,ofR_ok,eA,List.set_cons_zero,List.set_cons_succ]
 have w3:sSet 8 (b2 modD (slotP 6) (kD (.int 5))) [some (.d R),some (.d N),some (.d (.lst sc)),sQ (tb pD l1),sQ (tb pD l2),some (.d (.int (k:Int))),some (.d (.int v)),some (.d (pD A)),x8]= .nx [some (.d R),some (.d N),some (.d (.lst sc)),sQ (tb pD l1),sQ (tb pD l2),some (.d (.int (k:Int))),some (.d (.int v)),some (.d (pD A)),some (.d (.int w))]:=by
  simp only [sSet,kD,b1,b2,aCons,aNil,consR_ok,slotD_0,slotD_s,slotP_0,slotP_s,Res.bind_ok,ofR_ok,m5,List.set_cons_zero,List.set_cons_succ]
 obtain ⟨l2',e2',ok2⟩:∃ l2',l2'=(if decide (0<w)=true then pT l2 (f k) A else l2)∧TbOk f (CutOk p d) (k+1) l2':=⟨_,rfl,k2.up.ite _ (by omega) fun _=>oA⟩
 have w4:=ifput_eq (v:=pD) (c:=tR (b2 gtR (slotP 8) (kD (.int 0)))) (b:=decide (0<w)) 4 (b2 ixR (slotP 1) (slotP 5)) (slotD 7) [some (.d R),some (.d N),some (.d (.lst sc)),sQ (tb pD l1),sQ (tb pD l2),some (.d (.int (k:Int))),some (.d (.int v)),some (.d (pD A)),some (.d (.int w))] l2 (f k) A
  (by simp only [tR,kD,b2,slotP_0,slotP_s,Res.bind_ok,show ∀ i j:Int,gtR (.int i) (.int j)= .ok (.bl (decide (j<i))) from fun _ _=>rfl,boolR_bl]) rfl (by simp only [b2,slotP_0,slotP_s,Res.bind_ok,nm]) (fun _=>rfl) (by have:=k2.len;omega)
 rw [←e2'] at w4
 obtain ⟨la,ea,oka⟩:∃ la,la=(if (w==0||w==1)=true then pT l1 (f k) A else l1)∧TbOk f (CutOk p d) (k+1) la:=⟨_,rfl,k1.up.ite _ (by omega) fun _=>oA⟩
 have w5:=ifput_eq (v:=pD) (c:=tOr2 (tR (b2 eqR (slotP 8) (kD (.int 0)))) (tR (b2 eqR (slotP 8) (kD (.int 1))))) (b:=(w==0||w==1)) 3 (b2 ixR (slotP 1) (slotP 5)) (slotD 7) [some (.d R),some (.d N),some (.d (.lst sc)),sQ (tb pD l1),sQ (tb pD l2'),some (.d (.int (k:Int))),some (.d (.int v)),some (.d (pD A)),some (.d (.int w))] l1 (f k) A
  (by
   have q0:eqR (.int w) (.int 0)= .ok (.bl (w==0)):=eqR_ii _ _
   have q1:eqR (.int w) (.int 1)= .ok (.bl (w==1)):=eqR_ii _ _
   simp only [tOr2,tR,kD,b2,slotP_0,slotP_s,Res.bind_ok,q0,q1,boolR_bl,orB_ok]
   cases (w==0)<;>rfl) rfl (by simp only [b2,slotP_0,slotP_s,Res.bind_ok,nm]) (fun _=>rfl) (by have:=k1.len;omega)
 rw [←ea] at w5
 obtain ⟨lb,eb,okb⟩:∃ lb,lb=(if (w==2)=true then pT la (f k) C else la)∧TbOk f (CutOk p d) (k+1) lb:=⟨_,rfl,oka.ite _ (by omega) fun _=>oC⟩
 have w6:=ifput_eq (v:=pD) (c:=tR (b2 eqR (slotP 8) (kD (.int 2)))) (b:=(w==2)) 3 (b2 ixR (slotP 1) (slotP 5)) (b1 tupofR (asD (vComp 1 (setI 0) (fun _=> .ok true) e__law_keys_1 (b1 rng1R (aCons (b2 ixR (slotP 0) (kD (.int 0))) aNil))))) [some (.d R),some (.d N),some (.d (.lst sc)),sQ (tb pD la),sQ (tb pD l2'),some (.d (.int (k:Int))),some (.d (.int v)),some (.d (pD A)),some (.d (.int w))] la (f k) C
  (by
   have q0:eqR (.int w) (.int 2)= .ok (.bl (w==2)):=eqR_ii _ _
   simp only [tR,kD,b2,slotP_0,slotP_s,Res.bind_ok,q0,boolR_bl]) rfl (by simp only [b2,slotP_0,slotP_s,Res.bind_ok,nm]) (fun _=>by
   simp only [b1,b2,kD,asD,vComp,aCons,aNil,consR_ok,slotP_0,slotP_s,Res.bind_ok,i0,rg,cm,tupofR_l,eC]) (by have:=oka.len;omega)
 rw [←eb] at w6
 obtain ⟨lc,ec',okc⟩:∃ lc,lc=(if (w==3)=true then pT lb (f k) B else lb)∧TbOk f (CutOk p d) (k+1) lc:=⟨_,rfl,okb.ite _ (by omega) fun _=>oB⟩
 have w7:=ifput_eq (v:=pD) (c:=tR (b2 eqR (slotP 8) (kD (.int 3)))) (b:=(w==3)) 3 (b2 ixR (slotP 1) (slotP 5)) (b1 (callR 2 m__law_cut) (aCons (slotD 0) (aCons (b1 (callR 2 m__law_mixed) (aCons (slotD 6) (aCons (kD (.int 7)) aNil))) aNil))) [some (.d R),some (.d N),some (.d (.lst sc)),sQ (tb pD lb),sQ (tb pD l2'),some (.d (.int (k:Int))),some (.d (.int v)),some (.d (pD A)),some (.d (.int w))] lb (f k) B
  (by
   have q0:eqR (.int w) (.int 3)= .ok (.bl (w==3)):=eqR_ii _ _
   simp only [tR,kD,b2,slotP_0,slotP_s,Res.bind_ok,q0,boolR_bl]) rfl (by simp only [b2,slotP_0,slotP_s,Res.bind_ok,nm]) (fun _=>by
   simp only [b1,kD,aCons,aNil,consR_ok,slotD_0,slotD_s,Res.bind_ok,e7,eB]) (by have:=okb.len;omega)
 rw [←ec'] at w7
 refine ⟨lc,l2',some (.d (.int v)),some (.d (pD A)),some (.d (.int w)),?_,okc,ok2⟩
 unfold l__law_keys_1 sSeq
 rw [w1,seqO_nx,w2,seqO_nx,w3,seqO_nx,w4,seqO_nx]
 rw [show (List.set _ 4 _:DSt)= [some (.d R),some (.d N),some (.d (.lst sc)),sQ (tb pD l1),sQ (tb pD l2'),some (.d (.int (k:Int))),some (.d (.int v)),some (.d (pD A)),some (.d (.int w))] from rfl,w5,seqO_nx]
 rw [show (List.set _ 3 _:DSt)= [some (.d R),some (.d N),some (.d (.lst sc)),sQ (tb pD la),sQ (tb pD l2'),some (.d (.int (k:Int))),some (.d (.int v)),some (.d (pD A)),some (.d (.int w))] from rfl,w6,seqO_nx]
 rw [show (List.set _ 3 _:DSt)= [some (.d R),some (.d N),some (.d (.lst sc)),sQ (tb pD lb),sQ (tb pD l2'),some (.d (.int (k:Int))),some (.d (.int v)),some (.d (pD A)),some (.d (.int w))] from rfl,w7]
 rfl
end
theorem fm_congr {α β:Type} {f g:α→Option β}:∀ {l:List α},(∀ k∈l,f k=g k)→l.filterMap f=l.filterMap g
 | [],_=>rfl
 |a::l,h=>by rw [List.filterMap_cons,List.filterMap_cons,h a List.mem_cons_self,fm_congr fun k hk=>h k (List.mem_cons_of_mem _ hk)]
theorem picks_rev {α:Type} (xs:List α):picks xs none (some (-1))=xs.reverse:=by
 unfold picks
 have e:sliceRange (sliceBounds none none (some (-1)) xs.length).1 (sliceBounds none none (some (-1)) xs.length).2.1 (sliceBounds none none (some (-1)) xs.length).2.2=(List.range xs.length).map fun (k:Nat)=>xs.length-1-k:=by
  show sliceRange ((xs.length:Int)-1) (-1) (-1)=_
  unfold sliceRange
  rw [if_neg (by decide)]
  show (List.range (if (xs.length:Int)-1> -1 then ((xs.length:Int)-1- -1- -1-1) / - -1 else 0).toNat).map _=_
  have ec:(if (xs.length:Int)-1> -1 then ((xs.length:Int)-1- -1- -1-1) / - -1 else 0).toNat=xs.length:=by
   rw [show (- -1:Int)=1 by decide,Int.ediv_one]
   split<;>omega
  rw [ec]
  refine List.map_congr_left fun k hk=> ?_
  have:=List.mem_range.mp hk
  omega
 rw [e,List.filterMap_map]
 have fm:(List.range xs.length).filterMap ((fun x=>xs[x]?)∘fun k=>xs.length-1-k)=(List.range xs.length).filterMap fun k=>xs.reverse[k]? :=by
  refine fm_congr fun k hk=> ?_
  show xs[xs.length-1-k]? =_
  rw [List.getElem?_reverse (List.mem_range.mp hk)]
 rw [fm]
 have all:∀ (ys:List α),(List.range ys.length).filterMap (fun k=>ys[k]?)=ys:=by
  intro ys
  induction ys with
  |nil=>rfl
  |cons y ys ih=>
   rw [List.length_cons,List.range_succ_eq_map,List.filterMap_cons,List.filterMap_map]
   show y::(List.range ys.length).filterMap (fun k=>ys[k]?)=_
   rw [ih]
 have:=all xs.reverse
 rw [List.length_reverse] at this
 exact this
theorem slotQ_d0 (l:List (Key×D)) (r:DSt):slotQ 0 (some (.d (dK l))::r)= .ok l:=by
 show Res.ok ((l.map (·.1)).zip (l.map (·.2)))=_
 rw [dK_zip]
theorem slotQ_q0 (l:List (Key×D)) (r:DSt):slotQ 0 (sQ l::r)= .ok l:=by
 show Res.ok ((l.map (·.1)).zip (l.map (·.2)))=_
 rw [dK_zip]
theorem slotQ_s (n:Nat) (a:Option S) (r:DSt):slotQ (n+1) (a::r)=slotQ n r:=by simp [slotQ]
theorem frz_two (R N Sc:D) (t1 t2:List (Key×D)) (r:DSt):finO (sFrz 4 (sFrz 3 (sRet (b1 tupR (aCons (slotD 3) (aCons (slotD 4) aNil))))) (some (.d R)::some (.d N)::some (.d Sc)::sQ t1::sQ t2::r))= .ok (.tup [dK t1,dK t2]):=by
 show finO (sRet (b1 tupR (aCons (slotD 3) (aCons (slotD 4) aNil))) (some (.d R)::some (.d N)::some (.d Sc)::some (.d (dK t1))::some (.d (dK t2))::r))=_
 simp only [sRet,b1,tupR,aCons,aNil,consR_ok,slotD_0,slotD_s,Res.bind_ok,ofR_ok,List.length_cons,List.length_nil,Nat.reduceAdd,Nat.reduceLeDiff,if_true,finO_rt]
section
variable {p d h s:Int} (o:RuOk p d h)
include o
theorem keys_ex (f:Nat→Str) (M:Nat) (hM:3≤M) (ns:List Int):∃ l1 l2,callR 3 m__law_keys [ruD p d h s,sL (List.range M) f, .lst (ns.map D.int)]= .ok (.tup [dK (tb pD l1),dK (tb pD l2)])∧TbOk f (CutOk p d) 3 l1∧TbOk f (CutOk p d) 3 l2:=by
 obtain ⟨c,ec⟩:=cell_ex ns 1 (by decide)
 have m4:=modI c 4 (by decide)
 have a0:=Int.emod_nonneg c (show (4:Int)≠0 by decide)
 have a1:=Int.emod_lt_of_pos c (show (0:Int)<4 by decide)
 generalize c%4=n at*
 have rg:=rng1_i n a0 (by omega)
 obtain ⟨δ2,fo,l1,l2,x5,x6,x7,x8,rfl,k1,k2⟩:=forD_ix (t:=setI 5) (body:=l__law_keys_1) (fun i δ=>∃ (l1 l2:List (Str×List Int)) (x5 x6 x7 x8:Option S),δ= [some (.d (ruD p d h s)),some (.d (sL (List.range M) f)),some (.d (.lst (ns.map D.int))),sQ (tb pD l1),sQ (tb pD l2),x5,x6,x7,x8]∧TbOk f (CutOk p d) i l1∧TbOk f (CutOk p d) i l2)
  (rngD 0 n.toNat) [some (.d (ruD p d h s)),some (.d (sL (List.range M) f)),some (.d (.lst (ns.map D.int))),sQ [],sQ [],none,none,none,none] (fun i e δ hd hI=>by
   obtain ⟨l1,l2,x5,x6,x7,x8,rfl,k1,k2⟩:=hI
   obtain ⟨hi,rfl⟩:=rngD_get hd
   obtain ⟨l1',l2',y6,y7,y8,e,q1,q2⟩:=keys_turn (s:=s) o f M ns i (by omega) (by omega) l1 l2 k1 k2 x6 x7 x8
   refine ⟨_,rfl,_, .inl ?_,l1',l2',some (.d (.int (i:Int))),y6,y7,y8,rfl,q1,q2⟩
   rw [show (0+(i:Int))=(i:Int) by omega]
   exact e) ⟨[],[],none,none,none,none,rfl,TbOk.nil,TbOk.nil⟩
 rw [rngD_len] at k1 k2
 have up:∀ {l:List (Str×List Int)},TbOk f (CutOk p d) n.toNat l→TbOk f (CutOk p d) 3 l:=fun q=>⟨q.nd,fun p hp=>by obtain ⟨k,hk,e⟩:=q.nm p hp;exact ⟨k,by omega,e⟩,q.vl⟩
 refine ⟨l1,l2,callR_eq _ _ _ _ ?_ rfl,up k1,up k2⟩
 generalize ns.map D.int=sc at*
 generalize ruD p d h s=R at*
 generalize sL (List.range M) f=N at*
 generalize tb pD l1=t1 at*
 generalize tb pD l2=t2 at*
 have fo':sFor (setI 5) l__law_keys_1 (b1 rng1R (aCons (b2 modD (b1 (callR 2 m__law_cell_at) (aCons (slotD 2) (aCons (kD (.int 1)) aNil))) (kD (.int 4))) aNil)) [some (.d R),some (.d N),some (.d (.lst sc)),sQ [],sQ [],none,none,none,none]= .nx [some (.d R),some (.d N),some (.d (.lst sc)),sQ t1,sQ t2,x5,x6,x7,x8]:=by
  simp only [sFor,kD,b1,b2,aCons,aNil,consR_ok,slotD_0,slotD_s,Res.bind_ok,ofR_ok,ec,m4,rg,fo]
 unfold m__law_keys b__law_keys
 rw [runD_eq]
 show finO (sSeq (sOwnQ 3) _ [some (.d R),some (.d N),some (.d (.lst sc)),none,none,none,none,none,none])=_
 unfold sSeq
 rw [show sOwnQ 3 [some (.d R),some (.d N),some (.d (.lst sc)),none,none,none,none,none,none]= .nx [some (.d R),some (.d N),some (.d (.lst sc)),sQ [],none,none,none,none,none] from rfl,seqO_nx]
 rw [show sOwnQ 4 [some (.d R),some (.d N),some (.d (.lst sc)),sQ [],none,none,none,none,none]= .nx [some (.d R),some (.d N),some (.d (.lst sc)),sQ [],sQ [],none,none,none,none] from rfl,seqO_nx,fo',seqO_nx]
 exact frz_two R N (.lst sc) t1 t2 _
end
def oD:Option (List (List Int))→D
 |none=> .non
 |some B=>bD B
def OBar (p d h:Int) (x:Option (List (List Int))):Prop:=∀ B,x=some B→BarOk p d h B
theorem get_put {α:Type} (v:α→D) (l:List (Str×α)) (n:Str) (y:α):dgetR (tb v (pT l n y)) (.str n)= .ok (v y):=by
 unfold dgetR
 show (match tGet (tb v (pT l n y)) (.inr n) with|some x=>Res.ok x|none=> .stuck)=_
 rw [←tb_put,tGet_put,if_pos rfl]
theorem names_in {α:Type} {l:List (Str×α)} {n:Str} {y:α} (h:n∈l.map (·.1)):(pT l n y).map (·.1)=l.map (·.1):=by rw [pT_names,if_pos h]
theorem mem_put {α:Type} (l:List (Str×α)) (n:Str) (y:α):n∈(pT l n y).map (·.1):=by
 rw [pT_names]
 split
 ·assumption
 ·simp
theorem names_ite {α:Type} {l:List (Str×α)} {n:Str} {y:α} (b:Bool) (h:n∈l.map (·.1)):(if b=true then pT l n y else l).map (·.1)=l.map (·.1):=by
 cases b with
 |true=>rw [if_pos rfl,names_in h]
 |false=>rw [if_neg Bool.false_ne_true]
section
variable {p d h s:Int} (o:RuOk p d h)
include o
theorem doors_turn (f:Nat→Str) (M:Nat) (ns:List Int) (k:Nat) (hk:k<3) (hM:k<M) (l1 l2:List (Str×Option (List (List Int)))) (k1:TbOk f (OBar p d h) k l1) (k2:TbOk f (OBar p d h) k l2) (hn:l1.map (·.1)=l2.map (·.1)) (x6 x7:Option S):
  ∃ l1' l2' x6' x7',l__law_doors_1 [some (.d (ruD p d h s)),some (.d (sL (List.range M) f)),some (.d (.lst (ns.map D.int))),sQ (tb oD l1),sQ (tb oD l2),some (.d (.int (k:Int))),x6,x7]= .nx [some (.d (ruD p d h s)),some (.d (sL (List.range M) f)),some (.d (.lst (ns.map D.int))),sQ (tb oD l1'),sQ (tb oD l2'),some (.d (.int (k:Int))),x6',x7']∧TbOk f (OBar p d h) (k+1) l1'∧TbOk f (OBar p d h) (k+1) l2'∧l1'.map (·.1)=l2'.map (·.1):=by
 have p1:=o.p1
 obtain ⟨c,ec⟩:=cell_ex ns (6+(k:Int)) (by omega)
 obtain ⟨v,ev⟩:=mixed_ex c (90+(k:Int)) (by omega) (by omega)
 obtain ⟨v9,e9⟩:=mixed_ex v 9 (by decide) (by decide)
 obtain ⟨A,eA,oA⟩:=barrel_ex (s:=s) o v
 obtain ⟨B,eB,oB⟩:=barrel_ex (s:=s) o v9
 have nm:=names_at (f:=f) hM
 have a6:addD (.int 6) (.int (k:Int))= .ok (.int (6+(k:Int))):=addD_ii _ _
 have a90:addD (.int 90) (.int (k:Int))= .ok (.int (90+(k:Int))):=addD_ii _ _
 have i0:ixR (ruD p d h s) (.int 0)= .ok (.int p):=ixR_t _ _ _ rfl
 have rg:=rg_p o
 obtain ⟨g,hg⟩:=mixedN v 110 (by decide)
 have m2:=modI v 2 (by decide)
 have d2:=divI v 2 (by decide) (by decide)
 have m4:=modI (v / 2) 4 (by decide)
 have d8:=divI v 8 (by decide) (by decide)
 have m8:=modI (v / 8) 4 (by decide)
 generalize v%2=r2 at*
 generalize v / 2=v2 at*
 generalize v2%4=r4 at*
 generalize v / 8=v8 at*
 generalize v8%4=r8 at*
 generalize ns.map D.int=sc at*
 generalize hR:ruD p d h s=R at*
 generalize hN:sL (List.range M) f=N at*
 have cm:∀ x3 x4:Option S,compR 1 (setI 0) (fun _=> .ok true) e__law_doors_1 [some (.d R),some (.d N),some (.d (.lst sc)),x3,x4,some (.d (.int (k:Int))),some (.d (.int v)),some (.d (.lst [bD A,bD B]))] (rngD 0 p.toNat)= .ok ((List.range p.toNat).map fun j=>pD ((if g j%2=0 then A else B).getD j [])):=fun x3 x4=>comp_rng (fe:=e__law_doors_1) (fun j=>pD ((if g j%2=0 then A else B).getD j [])) _ p.toNat (by omega) (fun j hj=>by
  have e1:=hg j (by omega)
  have m1:=modI (g j) 2 (by decide)
  have a1:addD (.int 110) (.int (j:Int))= .ok (.int (110+(j:Int))):=addD_ii _ _
  have e1':callR 2 m__law_mixed [.int v, .int (110+(j:Int))]= .ok (.int (g j)):=e1
  have b0:=Int.emod_nonneg (g j) (show (2:Int)≠0 by decide)
  have b1':=Int.emod_lt_of_pos (g j) (show (0:Int)<2 by decide)
  have at':∀ X:List (List Int),j<X.length→ixR (bD X) (.int (j:Int))= .ok (pD (X.getD j [])):=fun X hX=>ixR_t _ _ _ (atI_pos (by omega) (by
   rw [show ((j:Int)).toNat=j by omega,List.getElem?_map,List.getElem?_eq_getElem hX,List.getD_eq_getElem?_getD,List.getElem?_eq_getElem hX];rfl))
  have hA:j<A.length:=by have:=oA.len;omega
  have hB:j<B.length:=by have:=oB.len;omega
  have ip:∀ r:Int,r=g j%2→ixR (.lst [bD A,bD B]) (.int r)= .ok (bD (if r=0 then A else B)):=fun r hr=>by
   rcases (by omega:r=0∨r=1) with z|z
   ·rw [z,if_pos rfl];exact ixR_l _ _ _ (atI_pos (by decide) rfl)
   ·rw [z,if_neg (by decide)];exact ixR_l _ _ _ (atI_pos (by decide) rfl)
  have i1:=ip _ rfl
  have i2:ixR (bD (if g j%2=0 then A else B)) (.int (j:Int))= .ok (pD ((if g j%2=0 then A else B).getD j [])):=at' _ (by split<;>assumption)
  clear b0 b1' ip at'
  generalize (if g j%2=0 then A else B)=X at*
  generalize D.lst [bD A,bD B]=P at*
  generalize bD X=BX at*
  unfold e__law_doors_1
  simp only [b1,b2,kD,aCons,aNil,consR_ok,slotD_0,slotD_s,slotP_0,slotP_s,Res.bind_ok,a1,e1',m1,i1,i2])
 have oC:BarOk p d h ((List.range p.toNat).map fun j=>(if g j%2=0 then A else B).getD j []):=⟨by rw [List.length_map,List.length_range];omega,fun q hq=>by
  obtain ⟨j,hj,rfl⟩:=List.mem_map.mp hq
  have hA:j<A.length:=by have:=oA.len;have:=List.mem_range.mp hj;omega
  have hB:j<B.length:=by have:=oB.len;have:=List.mem_range.mp hj;omega
  split
  ·exact oA.pin _ (by rw [List.getD_eq_getElem?_getD,List.getElem?_eq_getElem hA];exact List.getElem_mem _)
  ·exact oB.pin _ (by rw [List.getD_eq_getElem?_getD,List.getElem?_eq_getElem hB];exact List.getElem_mem _)⟩
 have eC:bD ((List.range p.toNat).map fun j=>(if g j%2=0 then A else B).getD j [])= .tup ((List.range p.toNat).map fun j=>pD ((if g j%2=0 then A else B).getD j [])):=by unfold bD;rw [List.map_map];rfl
 generalize (List.range p.toNat).map (fun j=>(if g j%2=0 then A else B).getD j [])=C at*
 generalize (List.range p.toNat).map (fun j=>pD ((if g j%2=0 then A else B).getD j []))=CD at*
 have OA:OBar p d h (some A):=fun X e=>by cases e;exact oA
 have OB:OBar p d h (some B):=fun X e=>by cases e;exact oB
 have OC:OBar p d h (some C):=fun X e=>by cases e;exact oC
 have ON:OBar p d h none:=fun X e=>by cases e
 have w1:sSet 6 (b1 (callR 2 m__law_mixed) (aCons (b1 (callR 2 m__law_cell_at) (aCons (slotD 2) (aCons (b2 addD (kD (.int 6)) (slotP 5)) aNil))) (aCons (b2 addD (kD (.int 90)) (slotP 5)) aNil))) [some (.d R),some (.d N),some (.d (.lst sc)),sQ (tb oD l1),sQ (tb oD l2),some (.d (.int (k:Int))),x6,x7]= .nx [some (.d R),some (.d N),some (.d (.lst sc)),sQ (tb oD l1),sQ (tb oD l2),some (.d (.int (k:Int))),some (.d (.int v)),x7]:=by
  simp only [sSet,kD,b1,b2,aCons,aNil,consR_ok,slotD_0,slotD_s,slotP_0,slotP_s,Res.bind_ok,ofR_ok,a6,a90,ec,ev,List.set_cons_zero,List.set_cons_succ]
 have w2:=put_eq 3 (b2 ixR (slotP 1) (slotP 5)) (b1 (callR 2 m__law_barrel) (aCons (slotD 0) (aCons (slotD 6) aNil))) [some (.d R),some (.d N),some (.d (.lst sc)),sQ (tb oD l1),sQ (tb oD l2),some (.d (.int (k:Int))),some (.d (.int v)),x7] (tb oD l1) (f k) (oD (some A)) rfl (by simp only [b2,slotP_0,slotP_s,Res.bind_ok,nm]) (by simp only [b1,aCons,aNil,consR_ok,slotD_0,slotD_s,Res.bind_ok,eA];rfl) (by rw [tb_len];have:=k1.len;omega)
 rw [tb_put] at w2
 have q1:=k1.up.put (k:=k) (by omega) OA
 have n1:=mem_put l1 (f k) (some A)
 have g1:=get_put oD l1 (f k) (some A)
 have w3:=put_eq 4 (b2 ixR (slotP 1) (slotP 5)) (b1 (callR 2 m__law_barrel) (aCons (slotD 0) (aCons (b1 (callR 2 m__law_mixed) (aCons (slotD 6) (aCons (kD (.int 9)) aNil))) aNil))) [some (.d R),some (.d N),some (.d (.lst sc)),sQ (tb oD (pT l1 (f k) (some A))),sQ (tb oD l2),some (.d (.int (k:Int))),some (.d (.int v)),x7] (tb oD l2) (f k) (oD (some B)) rfl (by simp only [b2,slotP_0,slotP_s,Res.bind_ok,nm]) (by simp only [b1,kD,aCons,aNil,consR_ok,slotD_0,slotD_s,Res.bind_ok,e9,eB];rfl) (by rw [tb_len];have:=k2.len;omega)
 rw [tb_put] at w3
 have q2:=k2.up.put (k:=k) (by omega) OB
 have n2:=mem_put l2 (f k) (some B)
 have g2:=get_put oD l2 (f k) (some B)
 have hn':(pT l1 (f k) (some A)).map (·.1)=(pT l2 (f k) (some B)).map (·.1):=by rw [pT_names,pT_names,hn]
 generalize pT l1 (f k) (some A)=la at*
 generalize pT l2 (f k) (some B)=lb at*
 obtain ⟨lc,x7',w4,q4,n4⟩:∃ lc x7',sIf (tR (b2 eqR (b2 modD (slotP 6) (kD (.int 2))) (kD (.int 1)))) (sSeq (sSet 7 (asD (b1 lstR (aCons (b2Q dgetR (slotQ 3) (b2 ixR (slotP 1) (slotP 5))) (aCons (b2Q dgetR (slotQ 4) (b2 ixR (slotP 1) (slotP 5))) aNil)))))
  (sPutI 4 (b2 ixR (slotP 1) (slotP 5)) (b1 tupofR (asD (vComp 1 (setI 0) (fun _=> .ok true) e__law_doors_1 (b1 rng1R (aCons (b2 ixR (slotP 0) (kD (.int 0))) aNil))))))) Out.nx [some (.d R),some (.d N),some (.d (.lst sc)),sQ (tb oD la),sQ (tb oD lb),some (.d (.int (k:Int))),some (.d (.int v)),x7]= .nx [some (.d R),some (.d N),some (.d (.lst sc)),sQ (tb oD la),sQ (tb oD lc),some (.d (.int (k:Int))),some (.d (.int v)),x7']∧TbOk f (OBar p d h) (k+1) lc∧lc.map (·.1)=lb.map (·.1):=by
  have q0:eqR (.int r2) (.int 1)= .ok (.bl (r2==1)):=eqR_ii _ _
  have cd:tR (b2 eqR (b2 modD (slotP 6) (kD (.int 2))) (kD (.int 1))) [some (.d R),some (.d N),some (.d (.lst sc)),sQ (tb oD la),sQ (tb oD lb),some (.d (.int (k:Int))),some (.d (.int v)),x7]= .ok (r2==1):=by
   simp only [tR,kD,b2,slotP_0,slotP_s,Res.bind_ok,m2,q0,boolR_bl]
  cases hb:(r2==1) with
  |false=>
   rw [hb] at cd
   exact ⟨lb,x7,sIf_f cd,q2,rfl⟩
  |true=>
   rw [hb] at cd
   refine ⟨pT lb (f k) (some C),some (.d (.lst [bD A,bD B])),?_,q2.put (by omega) OC,names_in n2⟩
   have s7:sSet 7 (asD (b1 lstR (aCons (b2Q dgetR (slotQ 3) (b2 ixR (slotP 1) (slotP 5))) (aCons (b2Q dgetR (slotQ 4) (b2 ixR (slotP 1) (slotP 5))) aNil)))) [some (.d R),some (.d N),some (.d (.lst sc)),sQ (tb oD la),sQ (tb oD lb),some (.d (.int (k:Int))),some (.d (.int v)),x7]= .nx [some (.d R),some (.d N),some (.d (.lst sc)),sQ (tb oD la),sQ (tb oD lb),some (.d (.int (k:Int))),some (.d (.int v)),some (.d (.lst [bD A,bD B]))]:=by
    simp only [sSet,asD,b1,b2,b2Q,lstR,aCons,aNil,consR_ok,slotQ_q0,slotQ_s,slotP_0,slotP_s,Res.bind_ok,ofR_ok,nm,g1,g2,List.length_cons,List.length_nil,Nat.reduceAdd,Nat.reduceLeDiff,if_true,List.set_cons_zero,List.set_cons_succ]
    rfl
   have pu:=put_eq 4 (b2 ixR (slotP 1) (slotP 5)) (b1 tupofR (asD (vComp 1 (setI 0) (fun _=> .ok true) e__law_doors_1 (b1 rng1R (aCons (b2 ixR (slotP 0) (kD (.int 0))) aNil))))) [some (.d R),some (.d N),some (.d (.lst sc)),sQ (tb oD la),sQ (tb oD lb),some (.d (.int (k:Int))),some (.d (.int v)),some (.d (.lst [bD A,bD B]))] (tb oD lb) (f k) (oD (some C)) rfl (by simp only [b2,slotP_0,slotP_s,Res.bind_ok,nm]) (by
    have:oD (some C)= .tup CD:=eC
    rw [this]
    simp only [b1,b2,kD,asD,vComp,aCons,aNil,consR_ok,slotP_0,slotP_s,Res.bind_ok,i0,rg,cm,tupofR_l]) (by rw [tb_len];have:=q2.len;omega)
   rw [tb_put] at pu
   rw [sIf_t cd]
   unfold sSeq
   rw [s7,seqO_nx,pu]
   rfl
 have w5:=ifput_eq (v:=oD) (c:=tR (b2 eqR (b2 modD (b2 fdivD (slotP 6) (kD (.int 2))) (kD (.int 4))) (kD (.int 1)))) (b:=(r4==1)) 3 (b2 ixR (slotP 1) (slotP 5)) (kD .non) [some (.d R),some (.d N),some (.d (.lst sc)),sQ (tb oD la),sQ (tb oD lc),some (.d (.int (k:Int))),some (.d (.int v)),x7'] la (f k) none
  (by
   have q0:eqR (.int r4) (.int 1)= .ok (.bl (r4==1)):=eqR_ii _ _
   simp only [tR,kD,b2,slotP_0,slotP_s,Res.bind_ok,d2,m4,q0,boolR_bl]) rfl (by simp only [b2,slotP_0,slotP_s,Res.bind_ok,nm]) (fun _=>rfl) (by have:=q1.len;omega)
 have q5:=q1.ite (k:=k) (y:=none) (r4==1) (by omega) fun _=>ON
 have n5:=names_ite (y:=none) (r4==1) n1
 generalize (if (r4==1)=true then pT la (f k) none else la)=ld at*
 have w6:=ifput_eq (v:=oD) (c:=tR (b2 eqR (b2 modD (b2 fdivD (slotP 6) (kD (.int 8))) (kD (.int 4))) (kD (.int 1)))) (b:=(r8==1)) 4 (b2 ixR (slotP 1) (slotP 5)) (kD .non) [some (.d R),some (.d N),some (.d (.lst sc)),sQ (tb oD ld),sQ (tb oD lc),some (.d (.int (k:Int))),some (.d (.int v)),x7'] lc (f k) none
  (by
   have q0:eqR (.int r8) (.int 1)= .ok (.bl (r8==1)):=eqR_ii _ _
   simp only [tR,kD,b2,slotP_0,slotP_s,Res.bind_ok,d8,m8,q0,boolR_bl]) rfl (by simp only [b2,slotP_0,slotP_s,Res.bind_ok,nm]) (fun _=>rfl) (by have:=q4.len;omega)
 have q6:=q4.ite (k:=k) (y:=none) (r8==1) (by omega) fun _=>ON
 have n6:=names_ite (l:=lc) (n:=f k) (y:=none) (r8==1) (by rw [n4];exact n2)
 generalize (if (r8==1)=true then pT lc (f k) none else lc)=le at*
 refine ⟨ld,le,some (.d (.int v)),x7',?_,q5,q6,by rw [n5,n6,n4,hn']⟩
 unfold l__law_doors_1 sSeq
 rw [w1,seqO_nx,w2,seqO_nx]
 rw [show (List.set _ 3 _:DSt)= [some (.d R),some (.d N),some (.d (.lst sc)),sQ (tb oD la),sQ (tb oD l2),some (.d (.int (k:Int))),some (.d (.int v)),x7] from rfl,w3,seqO_nx]
 rw [show (List.set _ 4 _:DSt)= [some (.d R),some (.d N),some (.d (.lst sc)),sQ (tb oD la),sQ (tb oD lb),some (.d (.int (k:Int))),some (.d (.int v)),x7] from rfl]
 rw [show (fun δ=>seqO _ _:DSt→Out)=sSeq _ _ from rfl,w4,seqO_nx,w5,seqO_nx]
 rw [show (List.set _ 3 _:DSt)= [some (.d R),some (.d N),some (.d (.lst sc)),sQ (tb oD ld),sQ (tb oD lc),some (.d (.int (k:Int))),some (.d (.int v)),x7'] from rfl,w6]
 rfl
theorem doors_ex (f:Nat→Str) (M:Nat) (hM:3≤M) (ns:List Int):∃ l1 l2,callR 3 m__law_doors [ruD p d h s,sL (List.range M) f, .lst (ns.map D.int)]= .ok (.tup [dK (tb oD l1),dK (tb oD l2)])∧TbOk f (OBar p d h) 3 l1∧TbOk f (OBar p d h) 3 l2∧l1.map (·.1)=l2.map (·.1):=by
 obtain ⟨c,ec⟩:=cell_ex ns 2 (by decide)
 have m4:=modI c 4 (by decide)
 have a0:=Int.emod_nonneg c (show (4:Int)≠0 by decide)
 have a1:=Int.emod_lt_of_pos c (show (0:Int)<4 by decide)
 generalize c%4=n at*
 have rg:=rng1_i n a0 (by omega)
 obtain ⟨δ2,fo,l1,l2,x5,x6,x7,rfl,k1,k2,kn⟩:=forD_ix (t:=setI 5) (body:=l__law_doors_1) (fun i δ=>∃ (l1 l2:List (Str×Option (List (List Int)))) (x5 x6 x7:Option S),δ= [some (.d (ruD p d h s)),some (.d (sL (List.range M) f)),some (.d (.lst (ns.map D.int))),sQ (tb oD l1),sQ (tb oD l2),x5,x6,x7]∧TbOk f (OBar p d h) i l1∧TbOk f (OBar p d h) i l2∧l1.map (·.1)=l2.map (·.1))
  (rngD 0 n.toNat) [some (.d (ruD p d h s)),some (.d (sL (List.range M) f)),some (.d (.lst (ns.map D.int))),sQ [],sQ [],none,none,none] (fun i e δ hd hI=>by
   obtain ⟨l1,l2,x5,x6,x7,rfl,k1,k2,kn⟩:=hI
   obtain ⟨hi,rfl⟩:=rngD_get hd
   obtain ⟨l1',l2',y6,y7,e,q1,q2,q3⟩:=doors_turn (s:=s) o f M ns i (by omega) (by omega) l1 l2 k1 k2 kn x6 x7
   refine ⟨_,rfl,_, .inl ?_,l1',l2',some (.d (.int (i:Int))),y6,y7,rfl,q1,q2,q3⟩
   rw [show (0+(i:Int))=(i:Int) by omega]
   exact e) ⟨[],[],none,none,none,rfl,TbOk.nil,TbOk.nil,rfl⟩
 rw [rngD_len] at k1 k2
 have up:∀ {l:List (Str×Option (List (List Int)))},TbOk f (OBar p d h) n.toNat l→TbOk f (OBar p d h) 3 l:=fun q=>⟨q.nd,fun p hp=>by obtain ⟨k,hk,e⟩:=q.nm p hp;exact ⟨k,by omega,e⟩,q.vl⟩
 refine ⟨l1,l2,callR_eq _ _ _ _ ?_ rfl,up k1,up k2,kn⟩
 generalize ns.map D.int=sc at*
 generalize ruD p d h s=R at*
 generalize sL (List.range M) f=N at*
 generalize tb oD l1=t1 at*
 generalize tb oD l2=t2 at*
 have fo':sFor (setI 5) l__law_doors_1 (b1 rng1R (aCons (b2 modD (b1 (callR 2 m__law_cell_at) (aCons (slotD 2) (aCons (kD (.int 2)) aNil))) (kD (.int 4))) aNil)) [some (.d R),some (.d N),some (.d (.lst sc)),sQ [],sQ [],none,none,none]= .nx [some (.d R),some (.d N),some (.d (.lst sc)),sQ t1,sQ t2,x5,x6,x7]:=by
  simp only [sFor,kD,b1,b2,aCons,aNil,consR_ok,slotD_0,slotD_s,Res.bind_ok,ofR_ok,ec,m4,rg,fo]
 unfold m__law_doors b__law_doors
 rw [runD_eq]
 show finO (sSeq (sOwnQ 3) _ [some (.d R),some (.d N),some (.d (.lst sc)),none,none,none,none,none])=_
 unfold sSeq
 rw [show sOwnQ 3 [some (.d R),some (.d N),some (.d (.lst sc)),none,none,none,none,none]= .nx [some (.d R),some (.d N),some (.d (.lst sc)),sQ [],none,none,none,none] from rfl,seqO_nx]
 rw [show sOwnQ 4 [some (.d R),some (.d N),some (.d (.lst sc)),sQ [],none,none,none,none]= .nx [some (.d R),some (.d N),some (.d (.lst sc)),sQ [],sQ [],none,none,none] from rfl,seqO_nx,fo',seqO_nx]
 exact frz_two R N (.lst sc) t1 t2 _
end
section
variable {α:Type}
theorem gT_mem:∀ {l:List (Str×α)} {q:Str×α},(l.map (·.1)).Nodup→q∈l→gT l q.1=some q.2
 | [],_,_,h=>absurd h List.not_mem_nil
 |a::l,q,nd,h=>by
  rw [List.map_cons,List.nodup_cons] at nd
  unfold gT
  rcases List.mem_cons.mp h with rfl|h
  ·rw [List.find?_cons_of_pos (by simp)];rfl
  ·have:a.1≠q.1:=fun z=>nd.1 (by rw [z];exact List.mem_map.mpr ⟨q,h,rfl⟩)
   rw [List.find?_cons_of_neg (by simpa using this)]
   exact gT_mem nd.2 h
theorem pT_new {l:List (Str×α)} {q:Str×α} (h:q.1∉l.map (·.1)):pT l q.1 q.2=l++ [q]:=by
 unfold pT
 rw [if_neg]
 intro z
 obtain ⟨r,hr,e⟩:=List.any_eq_true.mp z
 exact h (List.mem_map.mpr ⟨r,hr,of_decide_eq_true e⟩)
theorem get_mem (v:α→D) {l:List (Str×α)} {q:Str×α} (nd:(l.map (·.1)).Nodup) (h:q∈l):dgetR (tb v l) (.str q.1)= .ok (v q.2):=by
 unfold dgetR
 show (match tGet (tb v l) (.inr q.1) with|some x=>Res.ok x|none=> .stuck)=_
 rw [tb_get,gT_mem nd h];rfl
theorem turn_walk (v:α→D) (l m:List (Str×α)) (nd:(l.map (·.1)).Nodup) (md:(m.map (·.1)).Nodup) (hm:∀ q∈m,q∈l) (hl:m.length≤100) (c n4:D) (x4:Option S):
  ∃ y4:Option S,forD (setI 4) l__law_turned_1 (m.map fun q=>D.str q.1) [some (.d (dK (tb v l))),some (.d c),sQ [],some (.d n4),x4]= .nx [some (.d (dK (tb v l))),some (.d c),sQ (tb v m),some (.d n4),y4]:=by
 obtain ⟨δ2,fo,y4,rfl⟩:=forD_ix (t:=setI 4) (body:=l__law_turned_1) (fun i δ=>∃ y4:Option S,δ= [some (.d (dK (tb v l))),some (.d c),sQ (tb v (m.take i)),some (.d n4),y4]) (m.map fun q=>D.str q.1) [some (.d (dK (tb v l))),some (.d c),sQ [],some (.d n4),x4] (fun i e δ hd hI=>by
   obtain ⟨y4,rfl⟩:=hI
   rw [List.getElem?_map] at hd
   obtain ⟨q,hq,rfl⟩:=Option.map_eq_some_iff.mp hd
   have hi:i<m.length:=(List.getElem?_eq_some_iff.mp hq).1
   have nin:q.1∉(m.take i).map (·.1):=fun z=>by
    have h2:m=m.take i++q::m.drop (i+1):=by
     have:m.drop i=q::m.drop (i+1):=by rw [List.drop_eq_getElem_cons hi,(List.getElem?_eq_some_iff.mp hq).2]
     rw [←this,List.take_append_drop]
    rw [h2,List.map_append,List.nodup_append] at md
    exact md.2.2 q.1 z q.1 (by rw [List.map_cons];exact List.mem_cons_self) rfl
   have g:=get_mem v nd (hm q (List.mem_of_getElem? hq))
   have pu:=put_eq 2 (slotD 4) (b2Q dgetR (slotQ 0) (slotP 4)) [some (.d (dK (tb v l))),some (.d c),sQ (tb v (m.take i)),some (.d n4),some (.d (.str q.1))] (tb v (m.take i)) q.1 (v q.2) rfl rfl (by simp only [b2Q,slotQ_d0,slotP_0,slotP_s,Res.bind_ok,g]) (by rw [tb_len,List.length_take];omega)
   rw [tb_put,pT_new nin] at pu
   refine ⟨_,rfl,_, .inl pu,some (.d (.str q.1)),?_⟩
   rw [List.take_succ,hq]
   rfl) ⟨x4,rfl⟩
 rw [List.length_map,List.take_length] at fo
 exact ⟨y4,fo⟩
theorem turned_ex (v:α→D) (l:List (Str×α)) (nd:(l.map (·.1)).Nodup) (hl:l.length≤100) (c:Int):∃ m,(m=l∨m=l.reverse)∧callR 2 m__law_turned [dK (tb v l), .int c]= .ok (dK (tb v m)):=by
 have m2:=modI c 2 (by decide)
 generalize c%2=r at*
 have eq:eqR (.int r) (.int 1)= .ok (.bl (r==1)):=eqR_ii _ _
 have kl:klstR (dK (tb v l))= .ok (l.map fun q=>D.str q.1):=by
  unfold klstR dK
  dsimp only
  rw [if_pos (by rw [List.length_map,tb_len,sizeLine_eq];omega)]
  unfold tb
  rw [List.map_map,List.map_map];rfl
 have s1:sOwnQ 2 [some (.d (dK (tb v l))),some (.d (.int c)),none,none,none]= .nx [some (.d (dK (tb v l))),some (.d (.int c)),sQ [],none,none]:=rfl
 have s2:sSet 3 (asD (b1Q klstR (slotD 0))) [some (.d (dK (tb v l))),some (.d (.int c)),sQ [],none,none]= .nx [some (.d (dK (tb v l))),some (.d (.int c)),sQ [],some (.d (.lst (l.map fun q=>D.str q.1))),none]:=by
  simp only [sSet,asD,b1Q,slotD_0,Res.bind_ok,kl,ofR_ok,List.set_cons_zero,List.set_cons_succ]
 obtain ⟨m,hm,s3⟩:∃ m,(m=l∨m=l.reverse)∧sIf (tR (b2 eqR (b2 modD (slotP 1) (kD (.int 2))) (kD (.int 1)))) (sSet 3 (asD (b3 slP (slotP 3) oNone (b1 partR (b1 negD (kD (.int 1))))))) Out.nx [some (.d (dK (tb v l))),some (.d (.int c)),sQ [],some (.d (.lst (l.map fun q=>D.str q.1))),none]= .nx [some (.d (dK (tb v l))),some (.d (.int c)),sQ [],some (.d (.lst (m.map fun q=>D.str q.1))),none]:=by
  have cd:tR (b2 eqR (b2 modD (slotP 1) (kD (.int 2))) (kD (.int 1))) [some (.d (dK (tb v l))),some (.d (.int c)),sQ [],some (.d (.lst (l.map fun q=>D.str q.1))),none]= .ok (r==1):=by
   simp only [tR,kD,b2,slotP_0,slotP_s,Res.bind_ok,m2,eq,boolR_bl]
  cases hb:(r==1) with
  |false=>rw [hb] at cd;exact ⟨l, .inl rfl,sIf_f cd⟩
  |true=>
   rw [hb] at cd
   refine ⟨l.reverse, .inr rfl,(sIf_t cd).trans ?_⟩
   have sl:slP (.lst (l.map fun q=>D.str q.1)) none (some (-1))= .ok (l.reverse.map fun q=>D.str q.1):=by
    unfold slP
    dsimp only
    rw [if_neg (by decide),picks_rev,List.map_reverse]
   have ng:negD (.int 1)= .ok (.int (-1)):=rfl
   simp only [sSet,asD,b1,b3,oNone,kD,slotP_0,slotP_s,Res.bind_ok,ng,partR_i,sl,ofR_ok,List.set_cons_zero,List.set_cons_succ]
 have md:(m.map (·.1)).Nodup:=by
  rcases hm with rfl|rfl
  ·exact nd
  ·rw [List.map_reverse];exact List.pairwise_reverse.mpr (List.Pairwise.imp (fun h=>Ne.symm h) nd)
 obtain ⟨y4,fo⟩:=turn_walk v l m nd md (fun q hq=>by
  rcases hm with rfl|rfl
  ·exact hq
  ·exact List.mem_reverse.mp hq) (by
  rcases hm with rfl|rfl
  ·exact hl
  ·rw [List.length_reverse];exact hl) (.int c) (.lst (m.map fun q=>D.str q.1)) none
 refine ⟨m,hm,callR_eq _ _ _ _ ?_ rfl⟩
 have s4:sFor (setI 4) l__law_turned_1 (b1 seqR (slotD 3)) [some (.d (dK (tb v l))),some (.d (.int c)),sQ [],some (.d (.lst (m.map fun q=>D.str q.1))),none]= .nx [some (.d (dK (tb v l))),some (.d (.int c)),sQ (tb v m),some (.d (.lst (m.map fun q=>D.str q.1))),y4]:=by
  simp only [sFor,b1,slotD_0,slotD_s,Res.bind_ok,seqR_l,ofR_ok,fo]
 unfold m__law_turned b__law_turned
 rw [runD_eq]
 show finO (sSeq (sOwnQ 2) _ [some (.d (dK (tb v l))),some (.d (.int c)),none,none,none])=_
 unfold sSeq
 rw [s1,seqO_nx,s2,seqO_nx,s3,seqO_nx,s4,seqO_nx]
 rfl
end
def fileRw (n:Str) (b:Nat→Int) (A:List Int):List Rw:=((List.range A.length).filter fun k=>decide (b k<A.getD k 0)).map fun (k:Nat)=>Rw.fl n (k:Int) (A.getD k 0)
def keyRw (n:Str) (x:Option (List Int)) (A:List Int):List Rw:=match x with
 |none=> .bk n::fileRw n (fun _=>0) A
 |some C=>if canF C A=true then fileRw n (fun k=>C.getD k 0) A else .bk n::fileRw n (fun _=>0) A
def pinRw (n:Str) (b:Nat→List Int) (B:List (List Int)):List Rw:=((List.range B.length).filter fun k=>decide (b k≠B.getD k [])).map fun (k:Nat)=>Rw.pn n (k:Int) (B.getD k [])
def doorRw (n:Str) (x y:Option (List (List Int))):List Rw:=match y with
 |none=>match x with
  |none=> []
  |some _=> [.bt n]
 |some B=>match x with
  |none=> .op n::pinRw n (fun _=> [0]) B
  |some C=>pinRw n (fun k=>C.getD k []) B
theorem file_len (n:Str) (b:Nat→Int) (A:List Int):(fileRw n b A).length≤A.length:=by
 unfold fileRw
 rw [List.length_map]
 exact Nat.le_trans (List.length_filter_le _ _) (by rw [List.length_range];exact Nat.le_refl _)
theorem pin_len (n:Str) (b:Nat→List Int) (B:List (List Int)):(pinRw n b B).length≤B.length:=by
 unfold pinRw
 rw [List.length_map]
 exact Nat.le_trans (List.length_filter_le _ _) (by rw [List.length_range];exact Nat.le_refl _)
theorem comp_enum {c:DSt→Res Bool} {fe:DSt→Res D} (P:Nat→Bool) (F:Nat→D) (δ:DSt):∀ (xs:List D) (i:Nat) (x y:Option S),(∀ j (h:j<xs.length),c (some (.d (.int ((i+j:Nat):Int)))::some (.d xs[j])::δ)= .ok (P (i+j))∧fe (some (.d (.int ((i+j:Nat):Int)))::some (.d xs[j])::δ)= .ok (F (i+j)))→
  compD un2 c fe (enumD i xs) (x::y::δ)= .ok (((List.range xs.length).filter fun j=>P (i+j)).map fun j=>F (i+j))
 | [],i,x,y,h=>rfl
 |a::xs,i,x,y,h=>by
  obtain ⟨h1,h2⟩:=h 0 (by rw [List.length_cons];omega)
  have ih:=comp_enum P F δ xs (i+1) (some (.d (.int (i:Int)))) (some (.d a)) fun j hj=>by
   have:=h (j+1) (by rw [List.length_cons];omega)
   rw [show i+(j+1)=i+1+j by omega] at this
   exact this
  rw [enumD,compD_cons un2 (.tup [.int (i:Int),a]) _ (x::y::δ) (some (.d (.int (i:Int)))::some (.d a)::δ) rfl]
  have h1':c (some (.d (.int (i:Int)))::some (.d a)::δ)= .ok (P i):=h1
  have h2':fe (some (.d (.int (i:Int)))::some (.d a)::δ)= .ok (F i):=h2
  rw [h1',h2',noex_ok,Res.bind_ok,ih,noex_ok,Res.bind_ok,Res.bind_ok]
  have e1:(List.range (a::xs).length).filter (fun j=>P (i+j))=(if P i=true then [0] else [])++((List.range xs.length).filter fun j=>P (i+1+j)).map (· +1):=by
   rw [List.length_cons,List.range_succ_eq_map,List.filter_cons,List.filter_map]
   have:(List.range xs.length).filter ((fun j=>P (i+j))∘Nat.succ)=(List.range xs.length).filter fun j=>P (i+1+j):=List.filter_congr fun j _=>by
    show P (i+(j+1))=_
    rw [show i+(j+1)=i+1+j by omega]
   rw [this]
   show (if P i=true then _ else _)=_
   split<;>rfl
  rw [e1,List.map_append,List.map_map]
  have e2:((List.range xs.length).filter fun j=>P (i+1+j)).map ((fun j=>F (i+j))∘(· +1))=((List.range xs.length).filter fun j=>P (i+1+j)).map fun j=>F (i+1+j):=List.map_congr_left fun j _=>by
   show F (i+(j+1))=_
   rw [show i+(j+1)=i+1+j by omega]
  rw [e2]
  split<;>rfl
theorem catR_l (xs ys:List D) (h:xs.length+ys.length≤1000):catR (.lst xs) (.lst ys)= .ok (xs++ys):=if_pos (Nat.le_trans h k1000)
def cD:Option (List Int)→D
 |none=> .non
 |some C=>pD C
theorem getD_at {α:Type} {l:List α} {j:Nat} {z:α} (h:j<l.length):l.getD j z=l[j]:=by rw [List.getD_eq_getElem?_getD,List.getElem?_eq_getElem h];rfl
theorem file_eq (n:Str) (C:D) (b:Nat→Int) (A:List Int) (hA:A.length≤100) (hC:∀ k:Nat,k<A.length→ixR C (.int (k:Int))= .ok (.int (b k))):callR 3 m_file_deeds [.str n,C,pD A]= .ok (.lst ((fileRw n b A).map Rw.ob)):=by
 have cm:=compR_ok (n:=2) (δ:= [some (.d (.str n)),some (.d C),some (.d (pD A))]) (comp_enum (c:=c_file_deeds_1) (fe:=e_file_deeds_1) (fun k=>decide (b k<A.getD k 0)) (fun k=>(Rw.fl n (k:Int) (A.getD k 0)).ob) [some (.d (.str n)),some (.d C),some (.d (pD A))] (A.map D.int) 0 none none (fun j hj=>by
  rw [List.length_map] at hj
  have e:=hC j hj
  have ea:(A.map D.int)[j]'(by rw [List.length_map];exact hj)= .int (A.getD j 0):=by rw [List.getElem_map,getD_at hj]
  rw [ea,Nat.zero_add]
  have mk:=mk_f (.str n) (.int (j:Int)) (.int (A.getD j 0))
  have lt:ltR (.int (b j)) (.int (A.getD j 0))= .ok (.bl (decide (b j<A.getD j 0))):=ltR_ii _ _
  unfold c_file_deeds_1 e_file_deeds_1
  constructor
  ·simp only [tR,b2,slotP_0,slotP_s,Res.bind_ok,e,lt,boolR_bl]
  ·simp only [b1,aCons,aNil,consR_ok,slotD_0,slotD_s,Res.bind_ok,mk]
   rfl)) (by
  have:∀ (xs:List D) (i:Nat),(enumD i xs).length=xs.length:=fun xs=>by
   induction xs with
   |nil=>intro i;rfl
   |cons a xs ih=>intro i;rw [enumD,List.length_cons,List.length_cons,ih]
  rw [this,List.length_map];omega)
 rw [List.length_map] at cm
 have ef:((List.range A.length).filter fun j=>decide (b (0+j)<A.getD (0+j) 0)).map (fun (j:Nat)=>(Rw.fl n ((0+j:Nat):Int) (A.getD (0+j) 0)).ob)=(fileRw n b A).map Rw.ob:=by
  unfold fileRw
  rw [List.map_map]
  simp only [Nat.zero_add]
  rfl
 rw [ef] at cm
 have en:enumR [pD A]= .ok (enumD 0 (A.map D.int)):=rfl
 refine callR_eq _ _ _ _ ?_ rfl
 clear ef hC
 generalize (fileRw n b A).map Rw.ob=O at*
 generalize pD A=PA at*
 unfold m_file_deeds b_file_deeds
 simp only [runD_eq,startD,List.map_cons,List.map_nil,List.length_cons,List.length_nil,List.cons_append,List.nil_append,List.append_nil,Nat.reduceAdd,Nat.reduceSub,List.replicate,sRet,asD,vComp,b1,aCons,aNil,consR_ok,slotD_0,slotD_s,Res.bind_ok,en,cm,ofR_ok,finO_rt]
theorem rep_at {α:Type} (x:α):∀ n:Nat,(List.replicate n [x]).flatten=List.replicate n x
 |0=>rfl
 |n+1=>by rw [List.replicate_succ,List.flatten_cons,rep_at x n,List.replicate_succ];rfl
theorem pD_at {A:List Int} {k:Nat} (h:k<A.length):ixR (pD A) (.int (k:Int))= .ok (.int (A.getD k 0)):=ixR_t _ _ _ (atI_pos (by omega) (by
 rw [show ((k:Int)).toNat=k by omega,List.getElem?_map,List.getElem?_eq_getElem h,getD_at h];rfl))
theorem bD_at {B:List (List Int)} {k:Nat} (h:k<B.length):ixR (bD B) (.int (k:Int))= .ok (pD (B.getD k [])):=ixR_t _ _ _ (atI_pos (by omega) (by
 rw [show ((k:Int)).toNat=k by omega,List.getElem?_map,List.getElem?_eq_getElem h,getD_at h];rfl))
section
variable {p d h s:Int} (o:RuOk p d h)
include o
theorem key_eq (n:Str) (x:Option (List Int)) (A:List Int) (hx:∀ C,x=some C→CutOk p d C) (hA:CutOk p d A):callR 4 m_key_deeds [ruD p d h s, .str n,cD x,pD A]= .ok (.lst ((keyRw n x A).map Rw.ob)):=by
 have p1:=o.p1
 have lA:=hA.len
 have pl:callR 1 m_places_of [ruD p d h s]= .ok (.int p):=rfl
 have fc:callR 1 m_first_cuts [ruD p d h s]= .ok (.tup (List.replicate p.toNat (.int 0))):=by
  have mu:=mulE_t [.int 0] p ⟨by simp,by omega,by omega,by simp⟩
  rw [rep_at] at mu
  refine callR_eq _ _ _ _ ?_ rfl
  generalize ruD p d h s=R at*
  unfold m_first_cuts b_first_cuts
  simp only [runD_eq,startD,List.map_cons,List.map_nil,List.length_cons,List.length_nil,List.cons_append,List.nil_append,List.append_nil,Nat.reduceAdd,Nat.reduceSub,List.replicate_zero,sRet,kD,b1,b2,tupR,aCons,aNil,consR_ok,slotD_0,Res.bind_ok,pl,Nat.reduceLeDiff,if_true,mu,ofR_ok,finO_rt]
 have fi:=file_eq n (.tup (List.replicate p.toNat (.int 0))) (fun _=>0) A (by omega) (fun k hk=>ixR_t _ _ _ (atI_pos (by omega) (by rw [show ((k:Int)).toNat=k by omega,List.getElem?_replicate,if_pos (by omega)])))
 have mk:=mk_b (.str n)
 have ct:=catR_l [(Rw.bk n).ob] ((fileRw n (fun _=>0) A).map Rw.ob) (by
  have:=file_len n (fun _=>0) A
  rw [List.length_map]
  show 1+_≤_
  omega)
 cases x with
 |none=>
  have n1:isNR .non= .ok (.bl true):=rfl
  refine callR_eq _ _ _ _ ?_ rfl
  show m_key_deeds [ruD p d h s, .str n, .non,pD A]=_
  rw [show (keyRw n none A).map Rw.ob= [(Rw.bk n).ob]++(fileRw n (fun _=>0) A).map Rw.ob from rfl]
  have mk':callR 1 (makeR 1 "Blank" fs_Blank) [.str n]= .ok (Rw.bk n).ob:=mk
  generalize (fileRw n (fun _=>0) A).map Rw.ob=O at*
  generalize (Rw.bk n).ob=OB at*
  generalize pD A=PA at*
  generalize ruD p d h s=R at*
  generalize D.tup (List.replicate p.toNat (.int 0))=Z at*
  unfold m_key_deeds b_key_deeds
  simp only [runD_eq,startD,List.map_cons,List.map_nil,List.length_cons,List.length_nil,List.cons_append,List.nil_append,List.append_nil,Nat.reduceAdd,Nat.reduceSub,List.replicate_zero,sSeq,sIf,sRet,tOr2,tNot1,tR,asD,lstR,kD,b1,b2,b2F,aCons,aNil,consR_ok,slotD_0,slotD_s,slotP_0,slotP_s,Res.bind_ok,n1,boolR_bl,orB_ok,ifO_ok,if_true,mk',fc,fi,ct,Nat.reduceLeDiff,ofR_ok,seqO_rt,finO_rt]
 |some C=>
  have oC:=hx C rfl
  have lC:=oC.len
  have n1:isNR (pD C)= .ok (.bl false):=rfl
  have cf:callR 2 m_can_file [pD C,pD A]= .ok (.bl (canF C A)):=callR_eq _ _ _ _ (can_file_eq C A (by omega)) rfl
  have f2:=file_eq n (pD C) (fun k=>C.getD k 0) A (by omega) (fun k hk=>pD_at (by omega))
  refine callR_eq _ _ _ _ ?_ rfl
  show m_key_deeds [ruD p d h s, .str n,pD C,pD A]=_
  have mk':callR 1 (makeR 1 "Blank" fs_Blank) [.str n]= .ok (Rw.bk n).ob:=mk
  have kr:(keyRw n (some C) A).map Rw.ob=if canF C A=true then (fileRw n (fun k=>C.getD k 0) A).map Rw.ob else [(Rw.bk n).ob]++(fileRw n (fun _=>0) A).map Rw.ob:=by
   show (if canF C A=true then _ else _:List Rw).map Rw.ob=_
   split<;>rfl
  rw [kr]
  generalize (fileRw n (fun _=>0) A).map Rw.ob=O at*
  generalize (fileRw n (fun k=>C.getD k 0) A).map Rw.ob=O2 at*
  generalize (Rw.bk n).ob=OB at*
  generalize pD A=PA at*
  generalize pD C=PC at*
  generalize ruD p d h s=R at*
  generalize D.tup (List.replicate p.toNat (.int 0))=Z at*
  generalize canF C A=b at*
  unfold m_key_deeds b_key_deeds
  cases b<;>
  simp only [runD_eq,startD,List.map_cons,List.map_nil,List.length_cons,List.length_nil,List.cons_append,List.nil_append,List.append_nil,Nat.reduceAdd,Nat.reduceSub,List.replicate_zero,sSeq,sIf,sRet,tOr2,tNot1,tR,asD,lstR,kD,b1,b2,b2F,aCons,aNil,consR_ok,slotD_0,slotD_s,slotP_0,slotP_s,Res.bind_ok,n1,cf,boolR_bl,orB_ok,Bool.not_true,Bool.not_false,Bool.false_eq_true,if_false,reduceIte,ifO_ok,if_true,mk',fc,fi,f2,ct,Nat.reduceLeDiff,ofR_ok,seqO_nx,seqO_rt,finO_rt]
end
theorem eqL_ints:∀ a b:List Int,eqL (a.map D.int) (b.map D.int)=decide (a=b)
 | [],[]=>by simp [eqL]
 | [],b::bs=>by simp [eqL]
 |a::as,[]=>by simp [eqL]
 |a::as,b::bs=>by
  rw [List.map_cons,List.map_cons,eqL,eqL_ints as bs]
  by_cases e:a=b<;>by_cases e2:as=bs<;>simp [eqD,e,e2]
theorem shal_ints (k:Nat) (a:List Int):shal (k+1) (pD a)=true:=by
 show (a.map D.int).all (shal k)=true
 rw [List.all_eq_true]
 intro d hd
 obtain ⟨i,_,rfl⟩:=List.mem_map.mp hd
 simp [shal]
theorem neR_pD (a b:List Int):neR (pD a) (pD b)= .ok (.bl (decide (a≠b))):=by
 unfold neR
 rw [if_pos (by rw [shal_ints,shal_ints];rfl)]
 show Res.ok (D.bl (!eqD (.tup (a.map D.int)) (.tup (b.map D.int))))=_
 rw [eqD,eqL_ints]
 by_cases e:a=b<;>simp [e]
theorem pin_eq (n:Str) (C:D) (b:Nat→List Int) (B:List (List Int)) (hB:B.length≤100) (hC:∀ k:Nat,k<B.length→ixR C (.int (k:Int))= .ok (pD (b k))):callR 3 m_pin_deeds [.str n,C,bD B]= .ok (.lst ((pinRw n b B).map Rw.ob)):=by
 have cm:=compR_ok (n:=2) (δ:= [some (.d (.str n)),some (.d C),some (.d (bD B))]) (comp_enum (c:=c_pin_deeds_1) (fe:=e_pin_deeds_1) (fun k=>decide (b k≠B.getD k [])) (fun k=>(Rw.pn n (k:Int) (B.getD k [])).ob) [some (.d (.str n)),some (.d C),some (.d (bD B))] (B.map pD) 0 none none (fun j hj=>by
  rw [List.length_map] at hj
  have e:=hC j hj
  have ea:(B.map pD)[j]'(by rw [List.length_map];exact hj)=pD (B.getD j []):=by rw [List.getElem_map,getD_at hj]
  rw [ea,Nat.zero_add]
  have mk:=mk_p (.str n) (.int (j:Int)) (pD (B.getD j []))
  have lt:=neR_pD (b j) (B.getD j [])
  unfold c_pin_deeds_1 e_pin_deeds_1
  constructor
  ·generalize pD (B.getD j [])=X at*
   generalize pD (b j)=Y at*
   simp only [tR,b2,slotP_0,slotP_s,Res.bind_ok,e,lt,boolR_bl]
  ·simp only [b1,aCons,aNil,consR_ok,slotD_0,slotD_s,Res.bind_ok,mk]
   rfl)) (by
  have:∀ (xs:List D) (i:Nat),(enumD i xs).length=xs.length:=fun xs=>by
   induction xs with
   |nil=>intro i;rfl
   |cons a xs ih=>intro i;rw [enumD,List.length_cons,List.length_cons,ih]
  rw [this,List.length_map];omega)
 rw [List.length_map] at cm
 have ef:((List.range B.length).filter fun j=>decide (b (0+j)≠B.getD (0+j) [])).map (fun (j:Nat)=>(Rw.pn n ((0+j:Nat):Int) (B.getD (0+j) [])).ob)=(pinRw n b B).map Rw.ob:=by
  unfold pinRw
  rw [List.map_map]
  simp only [Nat.zero_add]
  rfl
 rw [ef] at cm
 have en:enumR [bD B]= .ok (enumD 0 (B.map pD)):=rfl
 refine callR_eq _ _ _ _ ?_ rfl
 clear ef hC
 generalize (pinRw n b B).map Rw.ob=O at*
 generalize bD B=PB at*
 unfold m_pin_deeds b_pin_deeds
 simp only [runD_eq,startD,List.map_cons,List.map_nil,List.length_cons,List.length_nil,List.cons_append,List.nil_append,List.append_nil,Nat.reduceAdd,Nat.reduceSub,List.replicate,sRet,asD,vComp,b1,aCons,aNil,consR_ok,slotD_0,slotD_s,Res.bind_ok,en,cm,ofR_ok,finO_rt]
section
variable {p d h s:Int} (o:RuOk p d h)
include o
theorem door_eq (n:Str) (x y:Option (List (List Int))) (hx:OBar p d h x) (hy:OBar p d h y):callR 4 m_door_deeds [ruD p d h s, .str n,oD x,oD y]= .ok (.lst ((doorRw n x y).map Rw.ob)):=by
 have p1:=o.p1
 have mk1:callR 1 (makeR 1 "Bolt" fs_Bolt) [.str n]= .ok (Rw.bt n).ob:=mk_t (.str n)
 have mk2:callR 1 (makeR 1 "Open" fs_Open) [.str n]= .ok (Rw.op n).ob:=mk_o (.str n)
 cases y with
 |none=>
  cases x with
  |none=>
   refine callR_eq _ _ _ _ ?_ rfl
   show m_door_deeds [ruD p d h s, .str n, .non, .non]= .ok (.lst [])
   have n1:isNR .non= .ok (.bl true):=rfl
   generalize ruD p d h s=R at*
   unfold m_door_deeds b_door_deeds
   simp only [runD_eq,startD,List.map_cons,List.map_nil,List.length_cons,List.length_nil,List.cons_append,List.nil_append,List.append_nil,Nat.reduceAdd,Nat.reduceSub,List.replicate_zero,sSeq,sIf,sRet,vIf,tR,asD,lstR,kD,b1,aCons,aNil,consR_ok,slotD_0,slotD_s,slotP_0,slotP_s,Res.bind_ok,n1,boolR_bl,ifO_ok,if_true,Nat.zero_le,ofR_ok,seqO_rt,finO_rt]
  |some C=>
   refine callR_eq _ _ _ _ ?_ rfl
   show m_door_deeds [ruD p d h s, .str n,bD C, .non]= .ok (.lst [(Rw.bt n).ob])
   have n1:isNR .non= .ok (.bl true):=rfl
   have n2:isNR (bD C)= .ok (.bl false):=rfl
   generalize (Rw.bt n).ob=OB at*
   generalize bD C=BC at*
   unfold m_door_deeds b_door_deeds
   simp only [runD_eq,startD,List.map_cons,List.map_nil,List.length_cons,List.length_nil,List.cons_append,List.nil_append,List.append_nil,Nat.reduceAdd,Nat.reduceSub,List.replicate_zero,sSeq,sIf,sRet,vIf,tR,asD,lstR,kD,b1,aCons,aNil,consR_ok,slotD_0,slotD_s,slotP_0,slotP_s,Res.bind_ok,n1,n2,boolR_bl,Bool.false_eq_true,if_false,reduceIte,ifO_ok,if_true,mk1,Nat.reduceLeDiff,ofR_ok,seqO_rt,finO_rt]
 |some B=>
  have oB:=hy B rfl
  have lB:=oB.len
  have n1:isNR (bD B)= .ok (.bl false):=rfl
  cases x with
  |none=>
   have pl:callR 1 m_places_of [ruD p d h s]= .ok (.int p):=rfl
   have fc:callR 1 m_flat_barrel [ruD p d h s]= .ok (.tup (List.replicate p.toNat (pD [0]))):=by
    have mu:=mulE_t [pD [0]] p ⟨by simp,by omega,by omega,by simp⟩
    rw [rep_at] at mu
    refine callR_eq _ _ _ _ ?_ rfl
    have mu':mulE (.tup [.tup [.int 0]]) (.int p)= .ok (.tup (List.replicate p.toNat (pD [0]))):=mu
    generalize ruD p d h s=R at*
    unfold m_flat_barrel b_flat_barrel
    simp only [runD_eq,startD,List.map_cons,List.map_nil,List.length_cons,List.length_nil,List.cons_append,List.nil_append,List.append_nil,Nat.reduceAdd,Nat.reduceSub,List.replicate_zero,sRet,kD,b1,b2,tupR,aCons,aNil,consR_ok,slotD_0,Res.bind_ok,pl,Nat.reduceLeDiff,if_true,mu',ofR_ok,finO_rt]
   have fi:=pin_eq n (.tup (List.replicate p.toNat (pD [0]))) (fun _=> [0]) B (by omega) (fun k hk=>ixR_t _ _ _ (atI_pos (by omega) (by rw [show ((k:Int)).toNat=k by omega,List.getElem?_replicate,if_pos (by omega)])))
   have ct:=catR_l [(Rw.op n).ob] ((pinRw n (fun _=> [0]) B).map Rw.ob) (by
    have:=pin_len n (fun _=> [0]) B
    rw [List.length_map]
    show 1+_≤_
    omega)
   have n2:isNR .non= .ok (.bl true):=rfl
   refine callR_eq _ _ _ _ ?_ rfl
   show m_door_deeds [ruD p d h s, .str n, .non,bD B]= .ok (.lst ([(Rw.op n).ob]++(pinRw n (fun _=> [0]) B).map Rw.ob))
   generalize (pinRw n (fun _=> [0]) B).map Rw.ob=O at*
   generalize (Rw.op n).ob=OB at*
   generalize bD B=PB at*
   generalize ruD p d h s=R at*
   generalize D.tup (List.replicate p.toNat (pD [0]))=Z at*
   unfold m_door_deeds b_door_deeds
   simp only [runD_eq,startD,List.map_cons,List.map_nil,List.length_cons,List.length_nil,List.cons_append,List.nil_append,List.append_nil,Nat.reduceAdd,Nat.reduceSub,List.replicate_zero,sSeq,sIf,sRet,vIf,tR,asD,lstR,kD,b1,b2F,aCons,aNil,consR_ok,slotD_0,slotD_s,slotP_0,slotP_s,Res.bind_ok,n1,n2,boolR_bl,Bool.false_eq_true,if_false,reduceIte,ifO_ok,if_true,mk2,fc,fi,ct,Nat.reduceLeDiff,ofR_ok,seqO_nx,seqO_rt,finO_rt]
  |some C=>
   have oC:=hx C rfl
   have lC:=oC.len
   have n2:isNR (bD C)= .ok (.bl false):=rfl
   have f2:=pin_eq n (bD C) (fun k=>C.getD k []) B (by omega) (fun k hk=>bD_at (by omega))
   refine callR_eq _ _ _ _ ?_ rfl
   show m_door_deeds [ruD p d h s, .str n,bD C,bD B]= .ok (.lst ((pinRw n (fun k=>C.getD k []) B).map Rw.ob))
   generalize (pinRw n (fun k=>C.getD k []) B).map Rw.ob=O at*
   generalize bD B=PB at*
   generalize bD C=PC at*
   generalize ruD p d h s=R at*
   unfold m_door_deeds b_door_deeds
   simp only [runD_eq,startD,List.map_cons,List.map_nil,List.length_cons,List.length_nil,List.cons_append,List.nil_append,List.append_nil,Nat.reduceAdd,Nat.reduceSub,List.replicate_zero,sSeq,sIf,sRet,vIf,tR,asD,lstR,kD,b1,b2F,aCons,aNil,consR_ok,slotD_0,slotD_s,slotP_0,slotP_s,Res.bind_ok,n1,n2,boolR_bl,Bool.false_eq_true,if_false,reduceIte,ifO_ok,if_true,f2,ofR_ok,seqO_nx,finO_rt]
end
abbrev TK:=List (Str×List Int)
abbrev TB:=List (Str×Option (List (List Int)))
def kRows (l1 l3:TK) (n:Str):List Rw:=keyRw n (gT l1 n) ((gT l3 n).getD [])
def dRows (l2 l4:TB) (n:Str):List Rw:=doorRw n ((gT l2 n).getD none) ((gT l4 n).getD none)
noncomputable def rowsRw (l1:TK) (l2:TB) (l3:TK) (l4:TB):List Rw:=(srtS (l3.map (·.1))).flatMap (kRows l1 l3)++(srtS (l4.map (·.1))).flatMap (dRows l2 l4)
theorem strKs_of {α:Type} (v:α→D):∀ l:List (Str×α),strKs ((tb v l).map (·.1))=some (l.map (·.1))
 | []=>rfl
 |q::l=>by
  show (strKs ((tb v l).map (·.1))).map (q.1:: ·)=_
  rw [strKs_of v l];rfl
theorem sortK_eq {α:Type} (v:α→D) (l:List (Str×α)) (h:l.length<64):sortK (dK (tb v l))= .ok ((srtS (l.map (·.1))).map D.str):=by
 unfold sortK dK
 dsimp only
 rw [strKs_of]
 dsimp only
 rw [if_pos (by rw [List.length_map];exact h)]
theorem gT_some {α:Type} {l:List (Str×α)} {n:Str} (h:n∈l.map (·.1)):∃ y,gT l n=some y∧(n,y)∈l:=by
 unfold gT
 cases hf:l.find? fun p=>decide (p.1=n) with
 |none=>
  obtain ⟨q,hq,rfl⟩:=List.mem_map.mp h
  have:=List.find?_eq_none.mp hf q hq
  simp at this
 |some q=>
  have h1:=List.mem_of_find?_eq_some hf
  have h2:=List.find?_some hf
  have:q.1=n:=of_decide_eq_true h2
  exact ⟨q.2,rfl,by rw [←this];exact h1⟩
theorem gT_in {α:Type} {l:List (Str×α)} {n:Str} {y:α} (h:gT l n=some y):(n,y)∈l:=by
 unfold gT at h
 obtain ⟨q,hf,rfl⟩:=Option.map_eq_some_iff.mp h
 have h1:=List.mem_of_find?_eq_some hf
 have h2:=List.find?_some hf
 have:q.1=n:=of_decide_eq_true h2
 rw [←this];exact h1
theorem dget_tb {α:Type} (v:α→D) {l:List (Str×α)} {n:Str} {y:α} (h:gT l n=some y):dgetR (tb v l) (.str n)= .ok (v y):=by
 unfold dgetR
 show (match tGet (tb v l) (.inr n) with|some x=>Res.ok x|none=> .stuck)=_
 rw [tb_get,h];rfl
theorem get1_tb (l:TK) (n:Str):get1R (tb pD l) (.str n)= .ok (cD (gT l n)):=by
 show Res.ok ((tGet (tb pD l) (.inr n)).getD .non)=_
 rw [tb_get]
 cases gT l n<;>rfl
theorem ext_eq (i:Nat) (f:DSt→Res D) (δ:DSt) (ds es:List D) (h0:δ[i]? =some (some (.o ds))) (h1:f δ= .ok (.lst es)) (hl:ds.length+es.length≤100000):sExtD i f δ= .nx (δ.set i (some (.o (ds++es)))):=by
 unfold sExtD extDO
 rw [h0,h1]
 dsimp only
 rw [ofR_ok]
 dsimp only
 exact if_pos hl
structure KOk (p d:Int) (l1 l3:TK):Prop where
 v1:∀ q∈l1,CutOk p d q.2
 v3:∀ q∈l3,CutOk p d q.2
 g3:∀ q∈l3,Gd q.1
 n3:l3.length≤3
structure DOk (p d h:Int) (l2 l4:TB):Prop where
 v2:∀ q∈l2,OBar p d h q.2
 v4:∀ q∈l4,OBar p d h q.2
 g4:∀ q∈l4,Gd q.1
 n4:l4.length≤3
 sm:∀ n,n∈l4.map (·.1)→n∈l2.map (·.1)
section
variable {p d h s:Int} (o:RuOk p d h)
include o
theorem fileRw_ok {n:Str} (g:Gd n) (b:Nat→Int) {A:List Int} (hA:CutOk p d A):∀ r∈fileRw n b A,r.Ok p d h:=fun r hr=>by
 unfold fileRw at hr
 obtain ⟨k,hk,rfl⟩:=List.mem_map.mp hr
 have hk:=List.mem_range.mp (List.mem_filter.mp hk).1
 have:=hA.len
 exact ⟨g,⟨by omega,by omega⟩,by rw [getD_at hk];exact hA.bd _ (List.getElem_mem _)⟩
theorem keyRw_ok {n:Str} (g:Gd n) (x:Option (List Int)) {A:List Int} (hA:CutOk p d A):(∀ r∈keyRw n x A,r.Ok p d h)∧(keyRw n x A).length≤25:=by
 have p1:=o.p1
 have lA:=hA.len
 have bk:(∀ r∈Rw.bk n::fileRw n (fun _=>0) A,r.Ok p d h)∧(Rw.bk n::fileRw n (fun _=>0) A).length≤25:=⟨fun r hr=>by
  rcases List.mem_cons.mp hr with rfl|hr
  ·exact g
  ·exact fileRw_ok o g _ hA r hr,by
  have:=file_len n (fun _=>0) A
  rw [List.length_cons];omega⟩
 cases x with
 |none=>exact bk
 |some C=>
  unfold keyRw
  dsimp only
  split
  ·exact ⟨fileRw_ok o g _ hA,by have:=file_len n (fun k=>C.getD k 0) A;omega⟩
  ·exact bk
theorem doorRw_ok {n:Str} (g:Gd n) (x:Option (List (List Int))) {y:Option (List (List Int))} (hy:OBar p d h y):(∀ r∈doorRw n x y,r.Ok p d h)∧(doorRw n x y).length≤25:=by
 have p1:=o.p1
 cases y with
 |none=>
  cases x with
  |none=>exact ⟨fun r hr=>absurd hr List.not_mem_nil,by show 0≤25;omega⟩
  |some C=>exact ⟨fun r hr=>by rw [List.mem_singleton.mp hr];exact g,by show 1≤25;omega⟩
 |some B=>
  have oB:=hy B rfl
  have lB:=oB.len
  have pn:∀ b,∀ r∈pinRw n b B,r.Ok p d h:=fun b r hr=>by
   unfold pinRw at hr
   obtain ⟨k,hk,rfl⟩:=List.mem_map.mp hr
   have hk:=List.mem_range.mp (List.mem_filter.mp hk).1
   exact ⟨g,⟨by omega,by omega⟩,by rw [getD_at hk];exact oB.pin _ (List.getElem_mem _)⟩
  cases x with
  |none=>
   refine ⟨fun r hr=> ?_,?_⟩
   ·rcases List.mem_cons.mp hr with rfl|hr
    ·exact g
    ·exact pn _ r hr
   ·have:=pin_len n (fun _=> [0]) B
    show (_::pinRw n (fun _=> [0]) B).length≤25
    rw [List.length_cons];omega
  |some C=>exact ⟨pn _,by have:=pin_len n (fun k=>C.getD k []) B;show (pinRw n (fun k=>C.getD k []) B).length≤25;omega⟩
theorem kRows_ok {l1 l3:TK} (k:KOk p d l1 l3) {n:Str} (hn:n∈l3.map (·.1)):(∀ r∈kRows l1 l3 n,r.Ok p d h)∧(kRows l1 l3 n).length≤25:=by
 obtain ⟨A,e,hm⟩:=gT_some hn
 unfold kRows
 rw [e]
 exact keyRw_ok o (k.g3 _ hm) _ (k.v3 _ hm)
theorem dRows_ok {l2 l4:TB} (k:DOk p d h l2 l4) {n:Str} (hn:n∈l4.map (·.1)):(∀ r∈dRows l2 l4 n,r.Ok p d h)∧(dRows l2 l4 n).length≤25:=by
 obtain ⟨A,e,hm⟩:=gT_some hn
 unfold dRows
 rw [e]
 exact doorRw_ok o (k.g4 _ hm) _ (k.v4 _ hm)
end
theorem flat_le {α β:Type} (f:α→List β) (c:Nat):∀ l:List α,(∀ a∈l,(f a).length≤c)→(l.flatMap f).length≤c*l.length
 | [],_=>by simp
 |a::l,h=>by
  have ih:=flat_le f c l fun b hb=>h b (List.mem_cons_of_mem _ hb)
  have h1:=h a List.mem_cons_self
  rw [List.flatMap_cons,List.length_append,List.length_cons,Nat.mul_succ]
  omega
theorem srt_mem {xs:List Str} {n:Str} (h:n∈srtS xs):n∈xs:=(srtS_perm xs).mem_iff.mp h
section
variable {p d h s:Int} (o:RuOk p d h)
include o
theorem rows_ok {l1:TK} {l2:TB} {l3:TK} {l4:TB} (k:KOk p d l1 l3) (q:DOk p d h l2 l4):(∀ r∈rowsRw l1 l2 l3 l4,r.Ok p d h)∧(rowsRw l1 l2 l3 l4).length≤150:=by
 unfold rowsRw
 constructor
 ·intro r hr
  rcases List.mem_append.mp hr with hr|hr
  ·obtain ⟨n,hn,hr⟩:=List.mem_flatMap.mp hr
   exact (kRows_ok o k (srt_mem hn)).1 r hr
  ·obtain ⟨n,hn,hr⟩:=List.mem_flatMap.mp hr
   exact (dRows_ok o q (srt_mem hn)).1 r hr
 ·have a:=flat_le (kRows l1 l3) 25 (srtS (l3.map (·.1))) fun n hn=>(kRows_ok (h:=h) o k (srt_mem hn)).2
  have b:=flat_le (dRows l2 l4) 25 (srtS (l4.map (·.1))) fun n hn=>(dRows_ok o q (srt_mem hn)).2
  rw [(srtS_perm _).length_eq,List.length_map] at a b
  have:=k.n3
  have:=q.n4
  rw [List.length_append]
  omega
end
theorem take_flat {α β:Type} {xs:List α} {i:Nat} {x:α} (f:α→List β) (h:xs[i]? =some x):(xs.take (i+1)).flatMap f=(xs.take i).flatMap f++f x:=by
 rw [List.take_succ,h,List.flatMap_append]
 simp
theorem flat_take_le {α β:Type} {xs:List α} (f:α→List β) (i:Nat):((xs.take i).flatMap f).length≤(xs.flatMap f).length:=by
 have e:xs.flatMap f=(xs.take i).flatMap f++(xs.drop i).flatMap f:=by rw [←List.flatMap_append,List.take_append_drop]
 rw [e,List.length_append];omega
section
variable {p d h s:Int} (o:RuOk p d h)
include o
theorem rt_walk1 {l1:TK} {l2:TB} {l3:TK} {l4:TB} (k:KOk p d l1 l3) (x6:Option S):∃ y6:Option S,forD (setI 6) l_rows_to_1 ((srtS (l3.map (·.1))).map D.str) [some (.d (ruD p d h s)),some (.d (dK (tb pD l1))),some (.d (dK (tb oD l2))),some (.d (dK (tb pD l3))),some (.d (dK (tb oD l4))),some (.o []),x6]= .nx [some (.d (ruD p d h s)),some (.d (dK (tb pD l1))),some (.d (dK (tb oD l2))),some (.d (dK (tb pD l3))),some (.d (dK (tb oD l4))),some (.o (((srtS (l3.map (·.1))).flatMap (kRows l1 l3)).map Rw.ob)),y6]:=by
 have hlen:=flat_le (kRows l1 l3) 25 (srtS (l3.map (·.1))) fun n hn=>(kRows_ok (h:=h) o k (srt_mem hn)).2
 rw [(srtS_perm _).length_eq,List.length_map] at hlen
 have hn3:=k.n3
 have mem:∀ n∈srtS (l3.map (·.1)),n∈l3.map (·.1):=fun n=>srt_mem
 generalize srtS (l3.map (·.1))=xs at*
 obtain ⟨δ2,fo,y6,rfl⟩:=forD_ix (t:=setI 6) (body:=l_rows_to_1) (fun i δ=>∃ y6:Option S,δ= [some (.d (ruD p d h s)),some (.d (dK (tb pD l1))),some (.d (dK (tb oD l2))),some (.d (dK (tb pD l3))),some (.d (dK (tb oD l4))),some (.o (((xs.take i).flatMap (kRows l1 l3)).map Rw.ob)),y6]) (xs.map D.str) [some (.d (ruD p d h s)),some (.d (dK (tb pD l1))),some (.d (dK (tb oD l2))),some (.d (dK (tb pD l3))),some (.d (dK (tb oD l4))),some (.o []),x6] (fun i e δ hd hI=>by
  obtain ⟨y6,rfl⟩:=hI
  rw [List.getElem?_map] at hd
  obtain ⟨n,hq,rfl⟩:=Option.map_eq_some_iff.mp hd
  have hn:=mem n (List.mem_of_getElem? hq)
  obtain ⟨A,eA,mA⟩:=gT_some hn
  have g3:=dget_tb pD eA
  have g1:=get1_tb l1 n
  have ke:=key_eq (s:=s) o n (gT l1 n) A (fun C e=>k.v1 _ (gT_in e)) (k.v3 _ mA)
  have ek:keyRw n (gT l1 n) A=kRows l1 l3 n:=by unfold kRows;rw [eA];rfl
  rw [ek] at ke
  have le:=flat_take_le (xs:=xs) (kRows l1 l3) i
  have le2:=(kRows_ok (h:=h) o k hn).2
  have ex:=ext_eq 5 (b1 (callR 4 m_key_deeds) (aCons (slotD 0) (aCons (slotD 6) (aCons (bGet1 (slotQ 1) (aCons (slotD 6) aNil)) (aCons (b2Q dgetR (slotQ 3) (slotP 6)) aNil))))) [some (.d (ruD p d h s)),some (.d (dK (tb pD l1))),some (.d (dK (tb oD l2))),some (.d (dK (tb pD l3))),some (.d (dK (tb oD l4))),some (.o (((xs.take i).flatMap (kRows l1 l3)).map Rw.ob)),some (.d (.str n))] (((xs.take i).flatMap (kRows l1 l3)).map Rw.ob) ((kRows l1 l3 n).map Rw.ob) rfl (by
   clear le le2 ek hd
   generalize ruD p d h s=R at*
   generalize (kRows l1 l3 n).map Rw.ob=O at*
   simp only [b1,b2Q,bGet1,aCons,aNil,consR_ok,slotD_0,slotD_s,slotP_0,slotP_s,slotQ_d0,slotQ_s,Res.bind_ok,g1,g3,ke]) (by rw [List.length_map,List.length_map];omega)
  refine ⟨_,rfl,_, .inl ex,some (.d (.str n)),?_⟩
  rw [take_flat (kRows l1 l3) hq,List.map_append]
  rfl) ⟨x6,rfl⟩
 rw [List.length_map,List.take_length] at fo
 exact ⟨y6,fo⟩
theorem rt_walk2 {l1:TK} {l2:TB} {l3:TK} {l4:TB} (k:DOk p d h l2 l4) (ds:List D) (hds:ds.length≤1000) (x6:Option S):∃ y6:Option S,forD (setI 6) l_rows_to_2 ((srtS (l4.map (·.1))).map D.str) [some (.d (ruD p d h s)),some (.d (dK (tb pD l1))),some (.d (dK (tb oD l2))),some (.d (dK (tb pD l3))),some (.d (dK (tb oD l4))),some (.o ds),x6]= .nx [some (.d (ruD p d h s)),some (.d (dK (tb pD l1))),some (.d (dK (tb oD l2))),some (.d (dK (tb pD l3))),some (.d (dK (tb oD l4))),some (.o (ds++((srtS (l4.map (·.1))).flatMap (dRows l2 l4)).map Rw.ob)),y6]:=by
 have hlen:=flat_le (dRows l2 l4) 25 (srtS (l4.map (·.1))) fun n hn=>(dRows_ok o k (srt_mem hn)).2
 rw [(srtS_perm _).length_eq,List.length_map] at hlen
 have hn4:=k.n4
 have mem:∀ n∈srtS (l4.map (·.1)),n∈l4.map (·.1):=fun n=>srt_mem
 generalize srtS (l4.map (·.1))=xs at*
 obtain ⟨δ2,fo,y6,rfl⟩:=forD_ix (t:=setI 6) (body:=l_rows_to_2) (fun i δ=>∃ y6:Option S,δ= [some (.d (ruD p d h s)),some (.d (dK (tb pD l1))),some (.d (dK (tb oD l2))),some (.d (dK (tb pD l3))),some (.d (dK (tb oD l4))),some (.o (ds++((xs.take i).flatMap (dRows l2 l4)).map Rw.ob)),y6]) (xs.map D.str) [some (.d (ruD p d h s)),some (.d (dK (tb pD l1))),some (.d (dK (tb oD l2))),some (.d (dK (tb pD l3))),some (.d (dK (tb oD l4))),some (.o ds),x6] (fun i e δ hd hI=>by
  obtain ⟨y6,rfl⟩:=hI
  rw [List.getElem?_map] at hd
  obtain ⟨n,hq,rfl⟩:=Option.map_eq_some_iff.mp hd
  have hn:=mem n (List.mem_of_getElem? hq)
  obtain ⟨A,eA,mA⟩:=gT_some hn
  obtain ⟨B,eB,mB⟩:=gT_some (k.sm n hn)
  have g4:=dget_tb oD eA
  have g2:=dget_tb oD eB
  have ke:=door_eq (s:=s) o n B A (k.v2 _ mB) (k.v4 _ mA)
  have ek:doorRw n B A=dRows l2 l4 n:=by unfold dRows;rw [eA,eB];rfl
  rw [ek] at ke
  have le:=flat_take_le (xs:=xs) (dRows l2 l4) i
  have le2:=(dRows_ok (h:=h) o k hn).2
  have ex:=ext_eq 5 (b1 (callR 4 m_door_deeds) (aCons (slotD 0) (aCons (slotD 6) (aCons (b2Q dgetR (slotQ 2) (slotP 6)) (aCons (b2Q dgetR (slotQ 4) (slotP 6)) aNil))))) [some (.d (ruD p d h s)),some (.d (dK (tb pD l1))),some (.d (dK (tb oD l2))),some (.d (dK (tb pD l3))),some (.d (dK (tb oD l4))),some (.o (ds++((xs.take i).flatMap (dRows l2 l4)).map Rw.ob)),some (.d (.str n))] (ds++((xs.take i).flatMap (dRows l2 l4)).map Rw.ob) ((dRows l2 l4 n).map Rw.ob) rfl (by
   clear le le2 ek hd
   generalize ruD p d h s=R at*
   generalize (dRows l2 l4 n).map Rw.ob=O at*
   simp only [b1,b2Q,aCons,aNil,consR_ok,slotD_0,slotD_s,slotP_0,slotP_s,slotQ_d0,slotQ_s,Res.bind_ok,g2,g4,ke]) (by rw [List.length_append,List.length_map,List.length_map];omega)
  refine ⟨_,rfl,_, .inl ex,some (.d (.str n)),?_⟩
  rw [take_flat (dRows l2 l4) hq,List.map_append,←List.append_assoc]
  rfl) ⟨x6,by rw [List.take_zero,List.flatMap_nil,List.map_nil,List.append_nil]⟩
 rw [List.length_map,List.take_length] at fo
 exact ⟨y6,fo⟩
theorem rows_eq {l1:TK} {l2:TB} {l3:TK} {l4:TB} (k:KOk p d l1 l3) (q:DOk p d h l2 l4):callR 5 m_rows_to [ruD p d h s,dK (tb pD l1),dK (tb oD l2),dK (tb pD l3),dK (tb oD l4)]= .ok (.lst ((rowsRw l1 l2 l3 l4).map fun r=> .str r.tx)):=by
 have n3:=k.n3
 have n4:=q.n4
 obtain ⟨y6,w1⟩:=rt_walk1 (s:=s) o (l2:=l2) (l4:=l4) k none
 obtain ⟨z6,w2⟩:=rt_walk2 (s:=s) o (l1:=l1) (l3:=l3) q (((srtS (l3.map (·.1))).flatMap (kRows l1 l3)).map Rw.ob) (by
  have a:=flat_le (kRows l1 l3) 25 (srtS (l3.map (·.1))) fun n hn=>(kRows_ok (h:=h) o k (srt_mem hn)).2
  rw [(srtS_perm _).length_eq,List.length_map] at a
  rw [List.length_map];omega) y6
 rw [←List.map_append] at w2
 obtain ⟨ro,rl⟩:=rows_ok o k q
 have s1:=sortK_eq pD l3 (by omega)
 have s2:=sortK_eq oD l4 (by omega)
 have cm:∀ δ,compR 1 (setI 0) (fun _=> .ok true) e_rows_to_1 δ ((rowsRw l1 l2 l3 l4).map Rw.ob)= .ok ((rowsRw l1 l2 l3 l4).map fun r=> .str r.tx):=fun δ=>by
  refine compR_ok ?_ (by rw [List.length_map];omega)
  have go:∀ (rs:List Rw) (x:Option S),(∀ r∈rs,r.Ok p d h)→compD (setI 0) (fun _=> .ok true) e_rows_to_1 (rs.map Rw.ob) (x::δ)= .ok (rs.map fun r=> .str r.tx):=by
   intro rs
   induction rs with
   |nil=>intro x _;rfl
   |cons r rs ih=>
    intro x hr
    have sh:=show_eq o r (hr r List.mem_cons_self)
    rw [List.map_cons,compD_cons (setI 0) r.ob _ (x::δ) (some (.d r.ob)::δ) rfl,ih _ fun z hz=>hr z (List.mem_cons_of_mem _ hz),noex_ok,Res.bind_ok,if_pos rfl]
    have e1:e_rows_to_1 (some (.d r.ob)::δ)= .ok (.str r.tx):=by
     unfold e_rows_to_1
     show (Res.ok r.ob).bind (mthR "shown" shTb)=_
     rw [Res.bind_ok,sh]
    rw [e1,noex_ok,Res.bind_ok,Res.bind_ok,List.map_cons]
  exact go _ none ro
 refine callR_eq _ _ _ _ ?_ rfl
 have er:(srtS (l3.map (·.1))).flatMap (kRows l1 l3)++(srtS (l4.map (·.1))).flatMap (dRows l2 l4)=rowsRw l1 l2 l3 l4:=rfl
 rw [er] at w2
 clear er ro rl
 generalize ruD p d h s=R at*
 generalize hd1:dK (tb pD l1)=D1 at*
 generalize hd2:dK (tb oD l2)=D2 at*
 generalize hd3:dK (tb pD l3)=D3 at*
 generalize hd4:dK (tb oD l4)=D4 at*
 have v0:sOwn 5 (b1 lstR aNil) [some (.d R),some (.d D1),some (.d D2),some (.d D3),some (.d D4),none,none]= .nx [some (.d R),some (.d D1),some (.d D2),some (.d D3),some (.d D4),some (.o []),none]:=by
  simp only [sOwn,b1,lstR,aNil,Res.bind_ok,List.length_nil,Nat.zero_le,if_true,ofR_ok,List.set_cons_zero,List.set_cons_succ]
 have v1:sFor (setI 6) l_rows_to_1 (b1 seqR (asD (b1Q sortK (slotD 3)))) [some (.d R),some (.d D1),some (.d D2),some (.d D3),some (.d D4),some (.o []),none]= .nx [some (.d R),some (.d D1),some (.d D2),some (.d D3),some (.d D4),some (.o (((srtS (l3.map (·.1))).flatMap (kRows l1 l3)).map Rw.ob)),y6]:=by
  simp only [sFor,b1,b1Q,asD,slotD_0,slotD_s,Res.bind_ok,s1,seqR_l,ofR_ok,w1]
 have v2:sFor (setI 6) l_rows_to_2 (b1 seqR (asD (b1Q sortK (slotD 4)))) [some (.d R),some (.d D1),some (.d D2),some (.d D3),some (.d D4),some (.o (((srtS (l3.map (·.1))).flatMap (kRows l1 l3)).map Rw.ob)),y6]= .nx [some (.d R),some (.d D1),some (.d D2),some (.d D3),some (.d D4),some (.o ((rowsRw l1 l2 l3 l4).map Rw.ob)),z6]:=by
  simp only [sFor,b1,b1Q,asD,slotD_0,slotD_s,Res.bind_ok,s2,seqR_l,ofR_ok,w2]
 unfold m_rows_to b_rows_to
 rw [runD_eq]
 show finO (sSeq (sOwn 5 (b1 lstR aNil)) _ [some (.d R),some (.d D1),some (.d D2),some (.d D3),some (.d D4),none,none])=_
 unfold sSeq
 rw [v0,seqO_nx,v1,seqO_nx,v2,seqO_nx]
 show finO (sRetF (vComp 1 (setI 0) (fun _=> .ok true) e_rows_to_1 (b1 seqR (slotD 5))) [some (.d R),some (.d D1),some (.d D2),some (.d D3),some (.d D4),some (.d (.lst ((rowsRw l1 l2 l3 l4).map Rw.ob))),z6])=_
 simp only [sRetF,vComp,b1,slotD_0,slotD_s,Res.bind_ok,seqR_l,cm,ofR_ok,finO_rt]
end
def txD (r:Rw):D:= .str r.tx
theorem filt_succ (P:Nat→Bool) (i:Nat):(List.range (i+1)).filter P=(List.range i).filter P++(if P i=true then [i] else []):=by
 rw [List.range_succ,List.filter_append,List.filter_cons,List.filter_nil]
theorem sApp_eq (i:Nat) (f:DSt→Res D) (δ:DSt) (ds:List D) (d:D) (h0:δ[i]? =some (some (.o ds))) (h1:f δ= .ok d) (hl:ds.length≤100000):sApp i f δ= .nx (δ.set i (some (.o (ds++ [d])))):=by
 unfold sApp
 rw [h1]
 exact appO_eq i δ ds d h0 hl
section
variable {p d h s:Int} (o:RuOk p d h)
include o
theorem due_files {n:Str} (g:Gd n) {A:List Int} (hA:CutOk p d A) (b:Nat→Int) (Bg:D) (hB:∀ k:Nat,k<A.length→ixR Bg (.int (k:Int))= .ok (.int (b k))) (R K1 B2 K3 B4 x9:D) (ds:List D) (hds:ds.length≤1000) (x10 x11:Option S):
  ∃ y10:Option S,forD (setI 10) l__law_due_1 (rngD 0 p.toNat) [some (.d R),some (.d K1),some (.d B2),some (.d K3),some (.d B4),some (.o ds),some (.d (.str n)),some (.d (pD A)),some (.d Bg),some (.d x9),x10,x11]= .nx [some (.d R),some (.d K1),some (.d B2),some (.d K3),some (.d B4),some (.o (ds++(fileRw n b A).map txD)),some (.d (.str n)),some (.d (pD A)),some (.d Bg),some (.d x9),y10,x11]:=by
 have p1:=o.p1
 have d1:=o.d1
 have lA:=hA.len
 have ln:=g.1
 obtain ⟨δ2,fo,y10,rfl⟩:=forD_ix (t:=setI 10) (body:=l__law_due_1) (fun i δ=>∃ y10:Option S,δ= [some (.d R),some (.d K1),some (.d B2),some (.d K3),some (.d B4),some (.o (ds++(((List.range i).filter fun k=>decide (b k<A.getD k 0)).map fun (k:Nat)=>Rw.fl n (k:Int) (A.getD k 0)).map txD)),some (.d (.str n)),some (.d (pD A)),some (.d Bg),some (.d x9),y10,x11]) (rngD 0 p.toNat) [some (.d R),some (.d K1),some (.d B2),some (.d K3),some (.d B4),some (.o ds),some (.d (.str n)),some (.d (pD A)),some (.d Bg),some (.d x9),x10,x11] (fun i e δ hd hI=>by
  obtain ⟨y10,rfl⟩:=hI
  obtain ⟨hi,rfl⟩:=rngD_get hd
  rw [show (0+(i:Int))=(i:Int) by omega]
  have hiA:i<A.length:=by omega
  have eb:=hB i hiA
  have ea:=pD_at hiA
  have lt:ltR (.int (b i)) (.int (A.getD i 0))= .ok (.bl (decide (b i<A.getD i 0))):=ltR_ii _ _
  have ba:=hA.bd (A.getD i 0) (by rw [getD_at hiA];exact List.getElem_mem _)
  have lf:=List.length_filter_le (fun k=>decide (b k<A.getD k 0)) (List.range i)
  rw [List.length_range] at lf
  rw [filt_succ]
  have le:(ds++(((List.range i).filter fun k=>decide (b k<A.getD k 0)).map fun (k:Nat)=>Rw.fl n (k:Int) (A.getD k 0)).map txD).length≤100000:=by
   rw [List.length_append,List.length_map,List.length_map];omega
  rw [List.map_append,List.map_append,←List.append_assoc]
  generalize ds++(((List.range i).filter fun k=>decide (b k<A.getD k 0)).map fun (k:Nat)=>Rw.fl n (k:Int) (A.getD k 0)).map txD=es at*
  obtain ⟨l1,si⟩:=dg3 (i:Int) (by omega) (by omega)
  obtain ⟨l2,sj⟩:=dg3 (A.getD i 0) (by omega) (by omega)
  generalize hj:A.getD i 0=j at*
  have ad:∀ a b:Str,a.length+b.length≤1000→addD (.str a) (.str b)= .ok (.str (a++b)):=fun a b h=>addD_s a b (by omega)
  have lf:("file ":Str).length=5:=rfl
  have ls:(" ":Str).length=1:=rfl
  have g1:=ad "file " n (by omega)
  have g2:=ad ("file "++n) " " (by rw [app_len];omega)
  have g3:=ad ("file "++n++" ") (toString (i:Int)) (by rw [app_len,app_len];omega)
  have g4:=ad ("file "++n++" "++(toString (i:Int):Str)) " " (by rw [app_len,app_len,app_len];omega)
  have g5:=ad ("file "++n++" "++(toString (i:Int):Str)++" ") (toString j) (by rw [app_len,app_len,app_len,app_len];omega)
  rw [tx4 "file " "file" n (toString (i:Int)) (toString j) rfl] at g5
  have cd:tR (b2 ltR (b2 ixR (slotP 8) (slotP 10)) (b2 ixR (slotP 7) (slotP 10))) [some (.d R),some (.d K1),some (.d B2),some (.d K3),some (.d B4),some (.o es),some (.d (.str n)),some (.d (pD A)),some (.d Bg),some (.d x9),some (.d (.int (i:Int))),x11]= .ok (decide (b i<j)):=by
   generalize pD A=PA at*
   simp only [tR,b2,slotP_0,slotP_s,Res.bind_ok,eb,ea,lt,boolR_bl]
  refine ⟨_,rfl,_, .inl ?_,some (.d (.int (i:Int))),rfl⟩
  show l__law_due_1 [some (.d R),some (.d K1),some (.d B2),some (.d K3),some (.d B4),some (.o es),some (.d (.str n)),some (.d (pD A)),some (.d Bg),some (.d x9),some (.d (.int (i:Int))),x11]= .nx [some (.d R),some (.d K1),some (.d B2),some (.d K3),some (.d B4),some (.o (es++((if decide (b i<j)=true then [i] else []).map fun (k:Nat)=>Rw.fl n (k:Int) (A.getD k 0)).map txD)),some (.d (.str n)),some (.d (pD A)),some (.d Bg),some (.d x9),some (.d (.int (i:Int))),x11]
  unfold l__law_due_1
  cases hb:decide (b i<j) with
  |false=>
   rw [hb] at cd
   rw [sIf_f cd,if_neg Bool.false_ne_true,List.map_nil,List.map_nil,List.append_nil]
  |true=>
   rw [hb] at cd
   rw [sIf_t cd,if_pos rfl]
   have ex:=sApp_eq 5 (b2 addD (b2 addD (b2 addD (b2 addD (b2 addD (kD (.str "file ")) (slotP 6)) (kD (.str " "))) (b1 strR (slotP 10))) (kD (.str " "))) (b1 strR (b2 ixR (slotP 7) (slotP 10)))) [some (.d R),some (.d K1),some (.d B2),some (.d K3),some (.d B4),some (.o es),some (.d (.str n)),some (.d (pD A)),some (.d Bg),some (.d x9),some (.d (.int (i:Int))),x11] es (txD (Rw.fl n (i:Int) j)) rfl (by
    clear cd
    generalize pD A=PA at*
    simp only [b1,b2,kD,slotP_0,slotP_s,Res.bind_ok,si,sj,ea,g1,g2,g3,g4,g5]
    rfl) le
   rw [ex]
   rw [show ((([i]:List Nat).map fun (k:Nat)=>Rw.fl n (k:Int) (A.getD k 0)).map txD)= [txD (Rw.fl n (i:Int) (A.getD i 0))] from rfl,hj]
   rfl) ⟨x10,by rw [List.range_zero,List.filter_nil,List.map_nil,List.map_nil,List.append_nil]⟩
 rw [rngD_len,show p.toNat=A.length by omega] at fo
 refine ⟨y10,?_⟩
 rw [show p.toNat=A.length by omega]
 exact fo
theorem due_pins {n:Str} (g:Gd n) {B:List (List Int)} (hB:BarOk p d h B) (b:Nat→List Int) (Bg:D) (hG:∀ k:Nat,k<B.length→ixR Bg (.int (k:Int))= .ok (pD (b k))) (R K1 B2 K3 B4:D) (x9:Option S) (ds:List D) (hds:ds.length≤1000) (x10 x11:Option S):
  ∃ y10 y11:Option S,forD (setI 10) l__law_due_3 (rngD 0 p.toNat) [some (.d R),some (.d K1),some (.d B2),some (.d K3),some (.d B4),some (.o ds),some (.d (.str n)),some (.d (bD B)),some (.d Bg),x9,x10,x11]= .nx [some (.d R),some (.d K1),some (.d B2),some (.d K3),some (.d B4),some (.o (ds++(pinRw n b B).map txD)),some (.d (.str n)),some (.d (bD B)),some (.d Bg),x9,y10,y11]:=by
 have p1:=o.p1
 have d1:=o.d1
 have lB:=hB.len
 have ln:=g.1
 obtain ⟨δ2,fo,y10,y11,rfl⟩:=forD_ix (t:=setI 10) (body:=l__law_due_3) (fun i δ=>∃ y10 y11:Option S,δ= [some (.d R),some (.d K1),some (.d B2),some (.d K3),some (.d B4),some (.o (ds++(((List.range i).filter fun k=>decide (b k≠B.getD k [])).map fun (k:Nat)=>Rw.pn n (k:Int) (B.getD k [])).map txD)),some (.d (.str n)),some (.d (bD B)),some (.d Bg),x9,y10,y11]) (rngD 0 p.toNat) [some (.d R),some (.d K1),some (.d B2),some (.d K3),some (.d B4),some (.o ds),some (.d (.str n)),some (.d (bD B)),some (.d Bg),x9,x10,x11] (fun i e δ hd hI=>by
  obtain ⟨y10,y11,rfl⟩:=hI
  obtain ⟨hi,rfl⟩:=rngD_get hd
  rw [show (0+(i:Int))=(i:Int) by omega]
  have hiB:i<B.length:=by omega
  have eb:=hG i hiB
  have ea:=bD_at hiB
  have lt:=neR_pD (b i) (B.getD i [])
  have q2:=q20 (hB.pin (B.getD i []) (by rw [getD_at hiB];exact List.getElem_mem _)) d1.2 o.h1.2
  have ql:=shq_len q2
  have jr:=join_q q2
  have sq:seqR (pD (B.getD i []))= .ok ((B.getD i []).map D.int):=rfl
  have lf:=List.length_filter_le (fun k=>decide (b k≠B.getD k [])) (List.range i)
  rw [List.length_range] at lf
  rw [filt_succ]
  have le:(ds++(((List.range i).filter fun k=>decide (b k≠B.getD k [])).map fun (k:Nat)=>Rw.pn n (k:Int) (B.getD k [])).map txD).length≤100000:=by
   rw [List.length_append,List.length_map,List.length_map];omega
  rw [List.map_append,List.map_append,←List.append_assoc]
  generalize ds++(((List.range i).filter fun k=>decide (b k≠B.getD k [])).map fun (k:Nat)=>Rw.pn n (k:Int) (B.getD k [])).map txD=es at*
  obtain ⟨l1,si⟩:=dg3 (i:Int) (by omega) (by omega)
  have c1:=comp_strs (fe:=e__law_due_2) (fun c δ e=>by unfold e__law_due_2;simp only [b1,slotP_0,Res.bind_ok,e]) q2 [some (.d R),some (.d K1),some (.d B2),some (.d K3),some (.d B4),some (.o es),some (.d (.str n)),some (.d (bD B)),some (.d Bg),x9,some (.d (.int (i:Int))),y11]
  generalize hj:B.getD i []=q at*
  have ad:∀ a b:Str,a.length+b.length≤1000→addD (.str a) (.str b)= .ok (.str (a++b)):=fun a b h=>addD_s a b (by omega)
  have lf:("pin ":Str).length=4:=rfl
  have ls:(" ":Str).length=1:=rfl
  have g1:=ad "pin " n (by omega)
  have g2:=ad ("pin "++n) " " (by rw [app_len];omega)
  have g3:=ad ("pin "++n++" ") (toString (i:Int)) (by rw [app_len,app_len];omega)
  have g4:=ad ("pin "++n++" "++(toString (i:Int):Str)) " " (by rw [app_len,app_len,app_len];omega)
  have g5:=ad ("pin "++n++" "++(toString (i:Int):Str)++" ") (shq q) (by rw [app_len,app_len,app_len,app_len];omega)
  rw [tx4 "pin " "pin" n (toString (i:Int)) (shq q) rfl] at g5
  have cd:tR (b2 neR (b2 ixR (slotP 8) (slotP 10)) (b2 ixR (slotP 7) (slotP 10))) [some (.d R),some (.d K1),some (.d B2),some (.d K3),some (.d B4),some (.o es),some (.d (.str n)),some (.d (bD B)),some (.d Bg),x9,some (.d (.int (i:Int))),y11]= .ok (decide (b i≠q)):=by
   clear c1 sq jr g5
   generalize bD B=PB at*
   generalize pD q=PQ at*
   generalize pD (b i)=Pb at*
   simp only [tR,b2,slotP_0,slotP_s,Res.bind_ok,eb,ea,lt,boolR_bl]
  cases hb:decide (b i≠q) with
  |false=>
   refine ⟨_,rfl,_, .inl ?_,some (.d (.int (i:Int))),y11,rfl⟩
   show l__law_due_3 [some (.d R),some (.d K1),some (.d B2),some (.d K3),some (.d B4),some (.o es),some (.d (.str n)),some (.d (bD B)),some (.d Bg),x9,some (.d (.int (i:Int))),y11]= .nx [some (.d R),some (.d K1),some (.d B2),some (.d K3),some (.d B4),some (.o (es++((if false=true then [i] else []).map fun (k:Nat)=>Rw.pn n (k:Int) (B.getD k [])).map txD)),some (.d (.str n)),some (.d (bD B)),some (.d Bg),x9,some (.d (.int (i:Int))),y11]
   rw [hb] at cd
   unfold l__law_due_3
   rw [sIf_f cd,if_neg Bool.false_ne_true,List.map_nil,List.map_nil,List.append_nil]
  |true=>
   refine ⟨_,rfl,_, .inl ?_,some (.d (.int (i:Int))),some (.d (.str (shq q))),rfl⟩
   show l__law_due_3 [some (.d R),some (.d K1),some (.d B2),some (.d K3),some (.d B4),some (.o es),some (.d (.str n)),some (.d (bD B)),some (.d Bg),x9,some (.d (.int (i:Int))),y11]= .nx [some (.d R),some (.d K1),some (.d B2),some (.d K3),some (.d B4),some (.o (es++((if true=true then [i] else []).map fun (k:Nat)=>Rw.pn n (k:Int) (B.getD k [])).map txD)),some (.d (.str n)),some (.d (bD B)),some (.d Bg),x9,some (.d (.int (i:Int))),some (.d (.str (shq q)))]
   rw [hb] at cd
   unfold l__law_due_3
   rw [sIf_t cd,if_pos rfl]
   have s11:sSet 11 (bM joinR (kD (.str ",")) (aCons (asD (vComp 1 (setI 0) (fun _=> .ok true) e__law_due_2 (b1 seqR (b2 ixR (slotP 7) (slotP 10))))) aNil)) [some (.d R),some (.d K1),some (.d B2),some (.d K3),some (.d B4),some (.o es),some (.d (.str n)),some (.d (bD B)),some (.d Bg),x9,some (.d (.int (i:Int))),y11]= .nx [some (.d R),some (.d K1),some (.d B2),some (.d K3),some (.d B4),some (.o es),some (.d (.str n)),some (.d (bD B)),some (.d Bg),x9,some (.d (.int (i:Int))),some (.d (.str (shq q)))]:=by
    clear cd eb lt
    generalize bD B=PB at*
    generalize pD q=PQ at*
    generalize (sts q).map D.str=ss at*
    simp only [sSet,bM,asD,vComp,b1,b2,aCons,aNil,kD,slotP_0,slotP_s,consR_ok,Res.bind_ok,ea,sq,c1,jr,ofR_ok,List.set_cons_zero,List.set_cons_succ]
   have ex:=sApp_eq 5 (b2 addD (b2 addD (b2 addD (b2 addD (b2 addD (kD (.str "pin ")) (slotP 6)) (kD (.str " "))) (b1 strR (slotP 10))) (kD (.str " "))) (slotP 11)) [some (.d R),some (.d K1),some (.d B2),some (.d K3),some (.d B4),some (.o es),some (.d (.str n)),some (.d (bD B)),some (.d Bg),x9,some (.d (.int (i:Int))),some (.d (.str (shq q)))] es (txD (Rw.pn n (i:Int) q)) rfl (by
    clear cd
    generalize bD B=PB at*
    simp only [b1,b2,kD,slotP_0,slotP_s,Res.bind_ok,si,g1,g2,g3,g4,g5]
    rfl) le
   unfold sSeq
   rw [s11,seqO_nx,ex]
   rw [show ((([i]:List Nat).map fun (k:Nat)=>Rw.pn n (k:Int) (B.getD k [])).map txD)= [txD (Rw.pn n (i:Int) (B.getD i []))] from rfl,hj]
   rfl) ⟨x10,x11,by rw [List.range_zero,List.filter_nil,List.map_nil,List.map_nil,List.append_nil]⟩
 rw [rngD_len,show p.toNat=B.length by omega] at fo
 refine ⟨y10,y11,?_⟩
 rw [show p.toNat=B.length by omega]
 exact fo
end
theorem eqR_nil2 (ks:List Nat):eqR (.lst (ks.map fun (k:Nat)=>D.int (k:Int))) (.lst [])= .ok (.bl ks.isEmpty):=by
 unfold eqR
 have s1:shal 40 (.lst (ks.map fun (k:Nat)=>D.int (k:Int)))=true:=by
  have:=shal_ints 39 (ks.map fun (k:Nat)=>(k:Int))
  unfold pD at this
  rw [List.map_map] at this
  exact this
 rw [s1,show shal 40 (.lst [])=true from rfl]
 cases ks<;>rfl
theorem comp_rngF {c fe:DSt→Res D} {cc:DSt→Res Bool} (P:Nat→Bool) (δ:DSt) (n:Nat) (hn:n≤1000) (h:∀ k,k<n→cc (some (.d (.int (k:Int)))::δ)= .ok (P k)∧fe (some (.d (.int (k:Int)))::δ)= .ok (.int (k:Int))):compR 1 (setI 0) cc fe δ (rngD 0 n)= .ok (((List.range n).filter P).map fun (k:Nat)=>D.int (k:Int)):=by
 refine compR_ok ?_ (by rw [rngD_len];omega)
 have:=comp_filter (c:=cc) (fe:=fe) (fun d=>match d with| .int k=>P k.toNat|_=>false) (fun d=>d) δ (rngD 0 n) none (fun d hd=>by
  obtain ⟨i,hi⟩:=List.getElem?_of_mem hd
  obtain ⟨h1,rfl⟩:=rngD_get hi
  obtain ⟨a,b⟩:=h i h1
  rw [show (0+(i:Int))=(i:Int) by omega]
  exact ⟨a,fun _=>b⟩)
 rw [List.map_id'] at this
 have e:rngD 0 n=(List.range n).map fun (k:Nat)=>D.int (k:Int):=List.map_congr_left fun k _=>by rw [show (0+(k:Int))=(k:Int) by omega]
 rw [e,List.filter_map] at this
 rw [e]
 exact this
theorem canF_filt {C A:List Int} (hl:C.length=A.length):((List.range A.length).filter fun k=>decide (C.getD k 0>A.getD k 0)).isEmpty=canF C A:=by
 rw [Bool.eq_iff_iff,canF_iff C A hl,List.isEmpty_iff,List.filter_eq_nil_iff]
 constructor
 ·intro h i hi
  have:=h i (List.mem_range.mpr (by omega))
  simp only [decide_eq_true_eq] at this
  omega
 ·intro h i hi
  have:=h i (by have:=List.mem_range.mp hi;omega)
  simp only [decide_eq_true_eq]
  omega
theorem keyRw_begun (n:Str) (x:Option (List Int)) (A:List Int):∃ c:Bool,(c=match x with|none=>false|some C=>canF C A)∧keyRw n x A=(if c=true then [] else [Rw.bk n])++fileRw n (fun k=>if c=true then (x.getD []).getD k 0 else 0) A:=by
 cases x with
 |none=>exact ⟨false,rfl,rfl⟩
 |some C=>
  refine ⟨canF C A,rfl,?_⟩
  unfold keyRw
  dsimp only
  cases canF C A<;>rfl
section
variable {p d h s:Int} (o:RuOk p d h)
include o
theorem due_key {n:Str} (g:Gd n) (x:Option (List Int)) {A:List Int} (hx:∀ C,x=some C→CutOk p d C) (hA:CutOk p d A) {t1 t3:List (Key×D)} (h1:get1R t1 (.str n)= .ok (cD x)) (h3:dgetR t3 (.str n)= .ok (pD A)) (B2 B4:D) (ds:List D) (hds:ds.length≤900) (x7 x8 x9 x10 x11:Option S):
  ∃ y7 y8 y9 y10 y11:Option S,l__law_due_2 [some (.d (ruD p d h s)),some (.d (dK t1)),some (.d B2),some (.d (dK t3)),some (.d B4),some (.o ds),some (.d (.str n)),x7,x8,x9,x10,x11]= .nx [some (.d (ruD p d h s)),some (.d (dK t1)),some (.d B2),some (.d (dK t3)),some (.d B4),some (.o (ds++(keyRw n x A).map txD)),some (.d (.str n)),y7,y8,y9,y10,y11]:=by
 have p1:=o.p1
 have lA:=hA.len
 have ln:=g.1
 have rg:=rg_p o
 have i0:ixR (ruD p d h s) (.int 0)= .ok (.int p):=ixR_t _ _ _ rfl
 have rp:repR (.lst [.int 0]) (.int p)= .ok (List.replicate p.toNat (.int 0)):=by
  rw [repR_eq _ _ ⟨by simp,by omega,by omega,by simp⟩,rep_at]
 have zx:∀ k:Nat,k<A.length→ixR (.lst (List.replicate p.toNat (.int 0))) (.int (k:Int))= .ok (.int 0):=fun k hk=>ixR_l _ _ _ (atI_pos (by omega) (by rw [show ((k:Int)).toNat=k by omega,List.getElem?_replicate,if_pos (by omega)]))
 obtain ⟨c,hc,ek⟩:=keyRw_begun n x A
 generalize hR:ruD p d h s=R at*
 have v7:sSet 7 (b2Q dgetR (slotQ 3) (slotP 6)) [some (.d R),some (.d (dK t1)),some (.d B2),some (.d (dK t3)),some (.d B4),some (.o ds),some (.d (.str n)),x7,x8,x9,x10,x11]= .nx [some (.d R),some (.d (dK t1)),some (.d B2),some (.d (dK t3)),some (.d B4),some (.o ds),some (.d (.str n)),some (.d (pD A)),x8,x9,x10,x11]:=by
  simp only [sSet,b2Q,slotQ_d0,slotQ_s,slotP_0,slotP_s,Res.bind_ok,h3,ofR_ok,List.set_cons_zero,List.set_cons_succ]
 have v8:sSet 8 (asD (b2F repR (asD (b1 lstR (aCons (kD (.int 0)) aNil))) (b2 ixR (slotP 0) (kD (.int 0))))) [some (.d R),some (.d (dK t1)),some (.d B2),some (.d (dK t3)),some (.d B4),some (.o ds),some (.d (.str n)),some (.d (pD A)),x8,x9,x10,x11]= .nx [some (.d R),some (.d (dK t1)),some (.d B2),some (.d (dK t3)),some (.d B4),some (.o ds),some (.d (.str n)),some (.d (pD A)),some (.d (.lst (List.replicate p.toNat (.int 0)))),x9,x10,x11]:=by
  simp only [sSet,asD,b2F,b1,b2,lstR,kD,aCons,aNil,consR_ok,slotP_0,slotP_s,Res.bind_ok,List.length_cons,List.length_nil,Nat.reduceAdd,Nat.reduceLeDiff,if_true,i0,rp,ofR_ok,List.set_cons_zero,List.set_cons_succ]
 have v9:sSet 9 (bGet1 (slotQ 1) (aCons (slotD 6) aNil)) [some (.d R),some (.d (dK t1)),some (.d B2),some (.d (dK t3)),some (.d B4),some (.o ds),some (.d (.str n)),some (.d (pD A)),some (.d (.lst (List.replicate p.toNat (.int 0)))),x9,x10,x11]= .nx [some (.d R),some (.d (dK t1)),some (.d B2),some (.d (dK t3)),some (.d B4),some (.o ds),some (.d (.str n)),some (.d (pD A)),some (.d (.lst (List.replicate p.toNat (.int 0)))),some (.d (cD x)),x10,x11]:=by
  simp only [sSet,bGet1,aCons,aNil,consR_ok,slotQ_d0,slotQ_s,slotD_0,slotD_s,Res.bind_ok,h1,ofR_ok,List.set_cons_zero,List.set_cons_succ]
 have cd:tAnd2 (tR (b1 notNR (slotP 9))) (tR (b2 eqR (asD (vComp 1 (setI 0) c__law_due_1 e__law_due_1 (b1 rng1R (aCons (b2 ixR (slotP 0) (kD (.int 0))) aNil)))) (asD (b1 lstR aNil)))) [some (.d R),some (.d (dK t1)),some (.d B2),some (.d (dK t3)),some (.d B4),some (.o ds),some (.d (.str n)),some (.d (pD A)),some (.d (.lst (List.replicate p.toNat (.int 0)))),some (.d (cD x)),x10,x11]= .ok c:=by
  cases x with
  |none=>
   have nn:notNR .non= .ok (.bl false):=rfl
   rw [hc]
   show tAnd2 _ _ [some (.d R),some (.d (dK t1)),some (.d B2),some (.d (dK t3)),some (.d B4),some (.o ds),some (.d (.str n)),some (.d (pD A)),some (.d (.lst (List.replicate p.toNat (.int 0)))),some (.d .non),x10,x11]=_
   simp only [tAnd2,tR,b1,slotP_0,slotP_s,Res.bind_ok,nn,boolR_bl,andB_ok,Bool.false_eq_true,if_false]
  |some C=>
   have oC:=hx C rfl
   have lC:=oC.len
   have nn:notNR (pD C)= .ok (.bl true):=rfl
   have hc:c=canF C A:=hc
   rw [hc]
   show tAnd2 _ _ [some (.d R),some (.d (dK t1)),some (.d B2),some (.d (dK t3)),some (.d B4),some (.o ds),some (.d (.str n)),some (.d (pD A)),some (.d (.lst (List.replicate p.toNat (.int 0)))),some (.d (pD C)),x10,x11]=_
   have cm:=comp_rngF (c:=fun _=> .stuck) (cc:=c__law_due_1) (fe:=e__law_due_1) (fun k=>decide (C.getD k 0>A.getD k 0)) [some (.d R),some (.d (dK t1)),some (.d B2),some (.d (dK t3)),some (.d B4),some (.o ds),some (.d (.str n)),some (.d (pD A)),some (.d (.lst (List.replicate p.toNat (.int 0)))),some (.d (pD C)),x10,x11] p.toNat (by omega) (fun k hk=>by
    have e1:=pD_at (A:=C) (k:=k) (by omega)
    have e2:=pD_at (A:=A) (k:=k) (by omega)
    have gt:gtR (.int (C.getD k 0)) (.int (A.getD k 0))= .ok (.bl (decide (C.getD k 0>A.getD k 0))):=gtR_ii _ _
    refine ⟨?_,by unfold e__law_due_1;rfl⟩
    unfold c__law_due_1
    generalize pD A=PA at*
    generalize pD C=PC at*
    simp only [tR,b2,slotP_0,slotP_s,Res.bind_ok,e1,e2,gt,boolR_bl])
   have en:=eqR_nil2 ((List.range p.toNat).filter fun k=>decide (C.getD k 0>A.getD k 0))
   rw [show p.toNat=A.length by omega,canF_filt (by omega),←show p.toNat=A.length by omega] at en
   generalize ((List.range p.toNat).filter fun k=>decide (C.getD k 0>A.getD k 0)).map (fun (k:Nat)=>D.int (k:Int))=ks at*
   simp only [tAnd2,tR,asD,vComp,lstR,b1,b2,aCons,aNil,kD,consR_ok,slotP_0,slotP_s,Res.bind_ok,nn,i0,rg,cm,en,List.length_nil,Nat.zero_le,boolR_bl,andB_ok,if_true]
 have ad:addD (.str "blank ") (.str n)= .ok (txD (.bk n)):=by
  have:=addD_s "blank " n (by have:=g.1;show 6+_≤_;omega)
  rw [tx2 "blank " "blank" n rfl] at this
  exact this
 have bgE:∃ (Bg:D) (x9':D) (es:List D),(sIf (tAnd2 (tR (b1 notNR (slotP 9))) (tR (b2 eqR (asD (vComp 1 (setI 0) c__law_due_1 e__law_due_1 (b1 rng1R (aCons (b2 ixR (slotP 0) (kD (.int 0))) aNil)))) (asD (b1 lstR aNil))))) (sSet 8 (slotD 9)) (sApp 5 (b2 addD (kD (.str "blank ")) (slotP 6)))) [some (.d R),some (.d (dK t1)),some (.d B2),some (.d (dK t3)),some (.d B4),some (.o ds),some (.d (.str n)),some (.d (pD A)),some (.d (.lst (List.replicate p.toNat (.int 0)))),some (.d (cD x)),x10,x11]= .nx [some (.d R),some (.d (dK t1)),some (.d B2),some (.d (dK t3)),some (.d B4),some (.o es),some (.d (.str n)),some (.d (pD A)),some (.d Bg),some (.d x9'),x10,x11]∧es=ds++((if c=true then [] else [Rw.bk n]).map txD)∧(∀ k:Nat,k<A.length→ixR Bg (.int (k:Int))= .ok (.int (if c=true then (x.getD []).getD k 0 else 0))):=by
  cases hcc:c with
  |true=>
   rw [hcc] at cd
   cases x with
   |none=>rw [hcc] at hc;cases hc
   |some C=>
    have oC:=hx C rfl
    have lC:=oC.len
    refine ⟨pD C,pD C,ds,?_,by rw [if_pos rfl,List.map_nil,List.append_nil],fun k hk=>by rw [if_pos rfl];exact pD_at (by omega)⟩
    rw [sIf_t cd]
    rfl
  |false=>
   rw [hcc] at cd
   refine ⟨.lst (List.replicate p.toNat (.int 0)),cD x,_,?_,rfl,fun k hk=>by rw [if_neg Bool.false_ne_true];exact zx k hk⟩
   rw [sIf_f cd]
   have ex:=sApp_eq 5 (b2 addD (kD (.str "blank ")) (slotP 6)) [some (.d R),some (.d (dK t1)),some (.d B2),some (.d (dK t3)),some (.d B4),some (.o ds),some (.d (.str n)),some (.d (pD A)),some (.d (.lst (List.replicate p.toNat (.int 0)))),some (.d (cD x)),x10,x11] ds (txD (.bk n)) rfl (by
    simp only [b2,kD,slotP_0,slotP_s,Res.bind_ok,ad]) (by omega)
   rw [ex,if_neg Bool.false_ne_true]
   rfl
 obtain ⟨Bg,x9',es,v10,hes,hB⟩:=bgE
 have les:es.length≤1000:=by
  rw [hes,List.length_append,List.length_map]
  split
  ·rw [List.length_nil];omega
  ·show _+1≤_;omega
 obtain ⟨y10,fo⟩:=due_files o g hA _ Bg hB R (dK t1) B2 (dK t3) B4 x9' es les x10 x11
 have v11:sFor (setI 10) l__law_due_1 (b1 rng1R (aCons (b2 ixR (slotP 0) (kD (.int 0))) aNil)) [some (.d R),some (.d (dK t1)),some (.d B2),some (.d (dK t3)),some (.d B4),some (.o es),some (.d (.str n)),some (.d (pD A)),some (.d Bg),some (.d x9'),x10,x11]=forD (setI 10) l__law_due_1 (rngD 0 p.toNat) [some (.d R),some (.d (dK t1)),some (.d B2),some (.d (dK t3)),some (.d B4),some (.o es),some (.d (.str n)),some (.d (pD A)),some (.d Bg),some (.d x9'),x10,x11]:=by
  simp only [sFor,b1,b2,kD,aCons,aNil,consR_ok,slotP_0,Res.bind_ok,i0,rg,ofR_ok]
 refine ⟨some (.d (pD A)),some (.d Bg),some (.d x9'),y10,x11,?_⟩
 ·unfold l__law_due_2 sSeq
  rw [v7,seqO_nx,v8,seqO_nx,v9,seqO_nx,v10,seqO_nx,v11,fo,ek,List.map_append,←List.append_assoc,←hes]
end
section
variable {p d h s:Int} (o:RuOk p d h)
include o
theorem due_door {n:Str} (g:Gd n) (x y:Option (List (List Int))) (hx:OBar p d h x) (hy:OBar p d h y) {t2 t4:List (Key×D)} (h2:dgetR t2 (.str n)= .ok (oD x)) (h4:dgetR t4 (.str n)= .ok (oD y)) (K1 K3:D) (ds:List D) (hds:ds.length≤900) (x7 x8 x9 x10 x11:Option S):
  ∃ y7 y8 y9 y10 y11:Option S,l__law_due_4 [some (.d (ruD p d h s)),some (.d K1),some (.d (dK t2)),some (.d K3),some (.d (dK t4)),some (.o ds),some (.d (.str n)),x7,x8,x9,x10,x11]= .nx [some (.d (ruD p d h s)),some (.d K1),some (.d (dK t2)),some (.d K3),some (.d (dK t4)),some (.o (ds++(doorRw n x y).map txD)),some (.d (.str n)),y7,y8,y9,y10,y11]:=by
 have p1:=o.p1
 have ln:=g.1
 have rg:=rg_p o
 have i0:ixR (ruD p d h s) (.int 0)= .ok (.int p):=ixR_t _ _ _ rfl
 have rp:repR (.lst [.tup [.int 0]]) (.int p)= .ok (List.replicate p.toNat (.tup [.int 0])):=by
  rw [repR_eq _ _ ⟨by simp,by omega,by omega,by simp⟩,rep_at]
 generalize hR:ruD p d h s=R at*
 have v7:sSet 7 (b2Q dgetR (slotQ 4) (slotP 6)) [some (.d R),some (.d K1),some (.d (dK t2)),some (.d K3),some (.d (dK t4)),some (.o ds),some (.d (.str n)),x7,x8,x9,x10,x11]= .nx [some (.d R),some (.d K1),some (.d (dK t2)),some (.d K3),some (.d (dK t4)),some (.o ds),some (.d (.str n)),some (.d (oD y)),x8,x9,x10,x11]:=by
  simp only [sSet,b2Q,slotQ_d0,slotQ_s,slotP_0,slotP_s,Res.bind_ok,h4,ofR_ok,List.set_cons_zero,List.set_cons_succ]
 have v8:sSet 8 (b2Q dgetR (slotQ 2) (slotP 6)) [some (.d R),some (.d K1),some (.d (dK t2)),some (.d K3),some (.d (dK t4)),some (.o ds),some (.d (.str n)),some (.d (oD y)),x8,x9,x10,x11]= .nx [some (.d R),some (.d K1),some (.d (dK t2)),some (.d K3),some (.d (dK t4)),some (.o ds),some (.d (.str n)),some (.d (oD y)),some (.d (oD x)),x9,x10,x11]:=by
  simp only [sSet,b2Q,slotQ_d0,slotQ_s,slotP_0,slotP_s,Res.bind_ok,h2,ofR_ok,List.set_cons_zero,List.set_cons_succ]
 have ab:addD (.str "bolt ") (.str n)= .ok (txD (.bt n)):=by
  have:=addD_s "bolt " n (by show 5+_≤_;omega)
  rw [tx2 "bolt " "bolt" n rfl] at this
  exact this
 have ao:addD (.str "open ") (.str n)= .ok (txD (.op n)):=by
  have:=addD_s "open " n (by show 5+_≤_;omega)
  rw [tx2 "open " "open" n rfl] at this
  exact this
 have isn:∀ z:Option (List (List Int)),isNR (oD z)= .ok (.bl z.isNone):=fun z=>by cases z<;>rfl
 have ntn:∀ z:Option (List (List Int)),notNR (oD z)= .ok (.bl z.isSome):=fun z=>by cases z<;>rfl
 have iy:=isn y
 have ix:=isn x
 have ny:=ntn y
 have nx:=ntn x
 have v9:sIf (tAnd2 (tR (b1 isNR (slotP 7))) (tR (b1 notNR (slotP 8)))) (sApp 5 (b2 addD (kD (.str "bolt ")) (slotP 6))) Out.nx [some (.d R),some (.d K1),some (.d (dK t2)),some (.d K3),some (.d (dK t4)),some (.o ds),some (.d (.str n)),some (.d (oD y)),some (.d (oD x)),x9,x10,x11]= .nx [some (.d R),some (.d K1),some (.d (dK t2)),some (.d K3),some (.d (dK t4)),some (.o (ds++(if (y.isNone&&x.isSome)=true then [txD (.bt n)] else []))),some (.d (.str n)),some (.d (oD y)),some (.d (oD x)),x9,x10,x11]:=by
  have cd:tAnd2 (tR (b1 isNR (slotP 7))) (tR (b1 notNR (slotP 8))) [some (.d R),some (.d K1),some (.d (dK t2)),some (.d K3),some (.d (dK t4)),some (.o ds),some (.d (.str n)),some (.d (oD y)),some (.d (oD x)),x9,x10,x11]= .ok (y.isNone&&x.isSome):=by
   generalize oD y=Y at*
   generalize oD x=X at*
   simp only [tAnd2,tR,b1,slotP_0,slotP_s,Res.bind_ok,iy,nx,boolR_bl,andB_ok]
   cases y.isNone<;>rfl
  cases hb:(y.isNone&&x.isSome) with
  |false=>rw [hb] at cd;rw [sIf_f cd,if_neg Bool.false_ne_true,List.append_nil]
  |true=>
   rw [hb] at cd
   rw [sIf_t cd,if_pos rfl,sApp_eq 5 _ _ ds (txD (.bt n)) rfl (by simp only [b2,kD,slotP_0,slotP_s,Res.bind_ok,ab]) (by omega)]
   rfl
 have v10:∀ es:List D,es.length≤1000→sIf (tAnd2 (tR (b1 notNR (slotP 7))) (tR (b1 isNR (slotP 8)))) (sSeq (sApp 5 (b2 addD (kD (.str "open ")) (slotP 6)))
  (sSet 8 (asD (b2F repR (asD (b1 lstR (aCons (b1 tupR (aCons (kD (.int 0)) aNil)) aNil))) (b2 ixR (slotP 0) (kD (.int 0))))))) Out.nx [some (.d R),some (.d K1),some (.d (dK t2)),some (.d K3),some (.d (dK t4)),some (.o es),some (.d (.str n)),some (.d (oD y)),some (.d (oD x)),x9,x10,x11]= .nx [some (.d R),some (.d K1),some (.d (dK t2)),some (.d K3),some (.d (dK t4)),some (.o (es++(if (y.isSome&&x.isNone)=true then [txD (.op n)] else []))),some (.d (.str n)),some (.d (oD y)),some (.d (if (y.isSome&&x.isNone)=true then .lst (List.replicate p.toNat (.tup [.int 0])) else oD x)),x9,x10,x11]:=fun es hes=>by
  have cd:tAnd2 (tR (b1 notNR (slotP 7))) (tR (b1 isNR (slotP 8))) [some (.d R),some (.d K1),some (.d (dK t2)),some (.d K3),some (.d (dK t4)),some (.o es),some (.d (.str n)),some (.d (oD y)),some (.d (oD x)),x9,x10,x11]= .ok (y.isSome&&x.isNone):=by
   generalize oD y=Y at*
   generalize oD x=X at*
   simp only [tAnd2,tR,b1,slotP_0,slotP_s,Res.bind_ok,ny,ix,boolR_bl,andB_ok]
   cases y.isSome<;>rfl
  cases hb:(y.isSome&&x.isNone) with
  |false=>rw [hb] at cd;rw [sIf_f cd,if_neg Bool.false_ne_true,if_neg Bool.false_ne_true,List.append_nil]
  |true=>
   rw [hb] at cd
   rw [sIf_t cd,if_pos rfl,if_pos rfl]
   unfold sSeq
   rw [sApp_eq 5 _ _ es (txD (.op n)) rfl (by simp only [b2,kD,slotP_0,slotP_s,Res.bind_ok,ao]) (by omega),seqO_nx]
   clear cd
   generalize oD y=Y at*
   generalize oD x=X at*
   simp only [List.set_cons_zero,List.set_cons_succ,sSet,asD,b2F,b1,b2,lstR,tupR,kD,aCons,aNil,consR_ok,slotP_0,slotP_s,Res.bind_ok,List.length_cons,List.length_nil,Nat.reduceAdd,Nat.reduceLeDiff,if_true,i0,rp,ofR_ok]
 unfold l__law_due_4
 unfold sSeq at v10 ⊢
 rw [v7,seqO_nx,v8,seqO_nx,v9,seqO_nx,v10 _ (by rw [List.length_append];split<;>simp only [List.length_cons,List.length_nil]<;>omega),seqO_nx]
 have ft:∀ es X,tR (b1 notNR (slotP 7)) [some (.d R),some (.d K1),some (.d (dK t2)),some (.d K3),some (.d (dK t4)),some (.o es),some (.d (.str n)),some (.d (oD y)),some (.d X),x9,x10,x11]= .ok y.isSome:=fun es X=>by
  generalize oD y=Y at*
  simp only [tR,b1,slotP_0,slotP_s,Res.bind_ok,ny,boolR_bl]
 cases y with
 |none=>
  rw [sIf_f (ft _ _)]
  refine ⟨some (.d (oD none)),some (.d (oD x)),x9,x10,x11,?_⟩
  ·cases x<;>simp only [Option.isNone_none,Option.isSome_none,Option.isNone_some,Option.isSome_some,Bool.true_and,Bool.false_and,Bool.false_eq_true,if_true,if_false,List.append_nil,doorRw,List.map_cons,List.map_nil]<;>rfl
 |some B=>
  have oB:=hy B rfl
  have lB:=oB.len
  rw [sIf_t (ft _ _)]
  have go:∀ (b:Nat→List Int) (Bg:D) (es:List D),es.length≤1000→(∀ k:Nat,k<B.length→ixR Bg (.int (k:Int))= .ok (pD (b k)))→∃ y10 y11:Option S,sFor (setI 10) l__law_due_3 (b1 rng1R (aCons (b2 ixR (slotP 0) (kD (.int 0))) aNil)) [some (.d R),some (.d K1),some (.d (dK t2)),some (.d K3),some (.d (dK t4)),some (.o es),some (.d (.str n)),some (.d (bD B)),some (.d Bg),x9,x10,x11]= .nx [some (.d R),some (.d K1),some (.d (dK t2)),some (.d K3),some (.d (dK t4)),some (.o (es++(pinRw n b B).map txD)),some (.d (.str n)),some (.d (bD B)),some (.d Bg),x9,y10,y11]:=fun b Bg es hes hG=>by
   obtain ⟨y10,y11,fo⟩:=due_pins o g oB b Bg hG R K1 (dK t2) K3 (dK t4) x9 es hes x10 x11
   refine ⟨y10,y11,?_⟩
   rw [←fo]
   simp only [sFor,b1,b2,kD,aCons,aNil,consR_ok,slotP_0,Res.bind_ok,i0,rg,ofR_ok]
  cases x with
  |none=>
   obtain ⟨y10,y11,fo⟩:=go (fun _=> [0]) (.lst (List.replicate p.toNat (.tup [.int 0]))) (ds++ [txD (.op n)]) (by rw [List.length_append];show _+1≤_;omega) (fun k hk=>ixR_l _ _ _ (atI_pos (by omega) (by rw [show ((k:Int)).toNat=k by omega,List.getElem?_replicate,if_pos (by omega)];rfl)))
   refine ⟨some (.d (bD B)),some (.d (.lst (List.replicate p.toNat (.tup [.int 0])))),x9,y10,y11,?_⟩
   ·show sFor (setI 10) l__law_due_3 (b1 rng1R (aCons (b2 ixR (slotP 0) (kD (.int 0))) aNil)) [some (.d R),some (.d K1),some (.d (dK t2)),some (.d K3),some (.d (dK t4)),some (.o (ds++ []++ [txD (.op n)])),some (.d (.str n)),some (.d (bD B)),some (.d (.lst (List.replicate p.toNat (.tup [.int 0])))),x9,x10,x11]=_
    rw [List.append_nil,fo]
    rw [show (doorRw n none (some B)).map txD= [txD (.op n)]++(pinRw n (fun _=> [0]) B).map txD from rfl,←List.append_assoc]
  |some C=>
   have oC:=hx C rfl
   have lC:=oC.len
   obtain ⟨y10,y11,fo⟩:=go (fun k=>C.getD k []) (bD C) ds (by omega) (fun k hk=>bD_at (by omega))
   refine ⟨some (.d (bD B)),some (.d (bD C)),x9,y10,y11,?_⟩
   ·show sFor (setI 10) l__law_due_3 (b1 rng1R (aCons (b2 ixR (slotP 0) (kD (.int 0))) aNil)) [some (.d R),some (.d K1),some (.d (dK t2)),some (.d K3),some (.d (dK t4)),some (.o (ds++ []++ [])),some (.d (.str n)),some (.d (bD B)),some (.d (bD C)),x9,x10,x11]=_
    rw [List.append_nil,List.append_nil,fo]
    rfl
end
theorem eqL_strs:∀ ws:List Str,eqL (ws.map D.str) (ws.map D.str)=true
 | []=>by simp [eqL]
 |c::cs=>by rw [List.map_cons,eqL,eqL_strs cs];simp [eqD]
theorem same_strs (ws:List Str):eqR (.lst (ws.map D.str)) (.lst (ws.map D.str))= .ok (.bl true)∧neR (.lst (ws.map D.str)) (.lst (ws.map D.str))= .ok (.bl false):=by
 have h:shal 40 (.lst (ws.map D.str))=true:=by
  rw [shal,List.all_eq_true]
  intro d hd
  obtain ⟨w,_,rfl⟩:=List.mem_map.mp hd
  rfl
 have e:eqD (.lst (ws.map D.str)) (.lst (ws.map D.str))=true:=by rw [eqD];exact eqL_strs ws
 unfold eqR neR
 rw [h,e]
 exact ⟨rfl,rfl⟩
section
variable {p d h s:Int} (o:RuOk p d h)
include o
theorem du_walk1 {l1:TK} {l2:TB} {l3:TK} {l4:TB} (k:KOk p d l1 l3) (x6 x7 x8 x9 x10 x11:Option S):∃ y6 y7 y8 y9 y10 y11:Option S,forD (setI 6) l__law_due_2 ((srtS (l3.map (·.1))).map D.str) [some (.d (ruD p d h s)),some (.d (dK (tb pD l1))),some (.d (dK (tb oD l2))),some (.d (dK (tb pD l3))),some (.d (dK (tb oD l4))),some (.o []),x6,x7,x8,x9,x10,x11]= .nx [some (.d (ruD p d h s)),some (.d (dK (tb pD l1))),some (.d (dK (tb oD l2))),some (.d (dK (tb pD l3))),some (.d (dK (tb oD l4))),some (.o (((srtS (l3.map (·.1))).flatMap (kRows l1 l3)).map txD)),y6,y7,y8,y9,y10,y11]:=by
 have hlen:=flat_le (kRows l1 l3) 25 (srtS (l3.map (·.1))) fun n hn=>(kRows_ok (h:=h) o k (srt_mem hn)).2
 rw [(srtS_perm _).length_eq,List.length_map] at hlen
 have hn3:=k.n3
 have mem:∀ n∈srtS (l3.map (·.1)),n∈l3.map (·.1):=fun n=>srt_mem
 generalize srtS (l3.map (·.1))=xs at*
 obtain ⟨δ2,fo,y6,y7,y8,y9,y10,y11,rfl⟩:=forD_ix (t:=setI 6) (body:=l__law_due_2) (fun i δ=>∃ y6 y7 y8 y9 y10 y11:Option S,δ= [some (.d (ruD p d h s)),some (.d (dK (tb pD l1))),some (.d (dK (tb oD l2))),some (.d (dK (tb pD l3))),some (.d (dK (tb oD l4))),some (.o (((xs.take i).flatMap (kRows l1 l3)).map txD)),y6,y7,y8,y9,y10,y11]) (xs.map D.str) [some (.d (ruD p d h s)),some (.d (dK (tb pD l1))),some (.d (dK (tb oD l2))),some (.d (dK (tb pD l3))),some (.d (dK (tb oD l4))),some (.o []),x6,x7,x8,x9,x10,x11] (fun i e δ hd hI=>by
  obtain ⟨y6,y7,y8,y9,y10,y11,rfl⟩:=hI
  rw [List.getElem?_map] at hd
  obtain ⟨n,hq,rfl⟩:=Option.map_eq_some_iff.mp hd
  have hn:=mem n (List.mem_of_getElem? hq)
  obtain ⟨A,eA,mA⟩:=gT_some hn
  have ek:keyRw n (gT l1 n) A=kRows l1 l3 n:=by unfold kRows;rw [eA];rfl
  have le:=flat_take_le (xs:=xs) (kRows l1 l3) i
  obtain ⟨z7,z8,z9,z10,z11,ke⟩:=due_key (s:=s) o (k.g3 _ mA) (gT l1 n) (fun C e=>k.v1 _ (gT_in e)) (k.v3 _ mA) (get1_tb l1 n) (dget_tb pD eA) (dK (tb oD l2)) (dK (tb oD l4)) (((xs.take i).flatMap (kRows l1 l3)).map txD) (by rw [List.length_map];omega) y7 y8 y9 y10 y11
  rw [ek] at ke
  refine ⟨_,rfl,_, .inl ke,some (.d (.str n)),z7,z8,z9,z10,z11,?_⟩
  rw [take_flat (kRows l1 l3) hq,List.map_append]) ⟨x6,x7,x8,x9,x10,x11,rfl⟩
 rw [List.length_map,List.take_length] at fo
 exact ⟨y6,y7,y8,y9,y10,y11,fo⟩
theorem du_walk2 {l1:TK} {l2:TB} {l3:TK} {l4:TB} (k:DOk p d h l2 l4) (ds:List D) (hds:ds.length≤500) (x6 x7 x8 x9 x10 x11:Option S):∃ y6 y7 y8 y9 y10 y11:Option S,forD (setI 6) l__law_due_4 ((srtS (l4.map (·.1))).map D.str) [some (.d (ruD p d h s)),some (.d (dK (tb pD l1))),some (.d (dK (tb oD l2))),some (.d (dK (tb pD l3))),some (.d (dK (tb oD l4))),some (.o ds),x6,x7,x8,x9,x10,x11]= .nx [some (.d (ruD p d h s)),some (.d (dK (tb pD l1))),some (.d (dK (tb oD l2))),some (.d (dK (tb pD l3))),some (.d (dK (tb oD l4))),some (.o (ds++((srtS (l4.map (·.1))).flatMap (dRows l2 l4)).map txD)),y6,y7,y8,y9,y10,y11]:=by
 have hlen:=flat_le (dRows l2 l4) 25 (srtS (l4.map (·.1))) fun n hn=>(dRows_ok o k (srt_mem hn)).2
 rw [(srtS_perm _).length_eq,List.length_map] at hlen
 have hn4:=k.n4
 have mem:∀ n∈srtS (l4.map (·.1)),n∈l4.map (·.1):=fun n=>srt_mem
 generalize srtS (l4.map (·.1))=xs at*
 obtain ⟨δ2,fo,y6,y7,y8,y9,y10,y11,rfl⟩:=forD_ix (t:=setI 6) (body:=l__law_due_4) (fun i δ=>∃ y6 y7 y8 y9 y10 y11:Option S,δ= [some (.d (ruD p d h s)),some (.d (dK (tb pD l1))),some (.d (dK (tb oD l2))),some (.d (dK (tb pD l3))),some (.d (dK (tb oD l4))),some (.o (ds++((xs.take i).flatMap (dRows l2 l4)).map txD)),y6,y7,y8,y9,y10,y11]) (xs.map D.str) [some (.d (ruD p d h s)),some (.d (dK (tb pD l1))),some (.d (dK (tb oD l2))),some (.d (dK (tb pD l3))),some (.d (dK (tb oD l4))),some (.o ds),x6,x7,x8,x9,x10,x11] (fun i e δ hd hI=>by
  obtain ⟨y6,y7,y8,y9,y10,y11,rfl⟩:=hI
  rw [List.getElem?_map] at hd
  obtain ⟨n,hq,rfl⟩:=Option.map_eq_some_iff.mp hd
  have hn:=mem n (List.mem_of_getElem? hq)
  obtain ⟨A,eA,mA⟩:=gT_some hn
  obtain ⟨B,eB,mB⟩:=gT_some (k.sm n hn)
  have ek:doorRw n B A=dRows l2 l4 n:=by unfold dRows;rw [eA,eB];rfl
  have le:=flat_take_le (xs:=xs) (dRows l2 l4) i
  obtain ⟨z7,z8,z9,z10,z11,ke⟩:=due_door (s:=s) o (k.g4 _ mA) B A (k.v2 _ mB) (k.v4 _ mA) (dget_tb oD eB) (dget_tb oD eA) (dK (tb pD l1)) (dK (tb pD l3)) (ds++((xs.take i).flatMap (dRows l2 l4)).map txD) (by rw [List.length_append,List.length_map];omega) y7 y8 y9 y10 y11
  rw [ek] at ke
  refine ⟨_,rfl,_, .inl ke,some (.d (.str n)),z7,z8,z9,z10,z11,?_⟩
  rw [take_flat (dRows l2 l4) hq,List.map_append,←List.append_assoc]) ⟨x6,x7,x8,x9,x10,x11,by rw [List.take_zero,List.flatMap_nil,List.map_nil,List.append_nil]⟩
 rw [List.length_map,List.take_length] at fo
 exact ⟨y6,y7,y8,y9,y10,y11,fo⟩
theorem due_eq {l1:TK} {l2:TB} {l3:TK} {l4:TB} (k:KOk p d l1 l3) (q:DOk p d h l2 l4):callR 5 m__law_due [ruD p d h s,dK (tb pD l1),dK (tb oD l2),dK (tb pD l3),dK (tb oD l4)]= .ok (.lst ((rowsRw l1 l2 l3 l4).map txD)):=by
 have n3:=k.n3
 have n4:=q.n4
 obtain ⟨y6,y7,y8,y9,y10,y11,w1⟩:=du_walk1 (s:=s) o (l2:=l2) (l4:=l4) k none none none none none none
 obtain ⟨z6,z7,z8,z9,z10,z11,w2⟩:=du_walk2 (s:=s) o (l1:=l1) (l3:=l3) q (((srtS (l3.map (·.1))).flatMap (kRows l1 l3)).map txD) (by
  have a:=flat_le (kRows l1 l3) 25 (srtS (l3.map (·.1))) fun n hn=>(kRows_ok (h:=h) o k (srt_mem hn)).2
  rw [(srtS_perm _).length_eq,List.length_map] at a
  rw [List.length_map];omega) y6 y7 y8 y9 y10 y11
 rw [←List.map_append] at w2
 have s1:=sortK_eq pD l3 (by omega)
 have s2:=sortK_eq oD l4 (by omega)
 refine callR_eq _ _ _ _ ?_ rfl
 have er:(srtS (l3.map (·.1))).flatMap (kRows l1 l3)++(srtS (l4.map (·.1))).flatMap (dRows l2 l4)=rowsRw l1 l2 l3 l4:=rfl
 rw [er] at w2
 clear er
 generalize ruD p d h s=R at*
 generalize hd1:dK (tb pD l1)=D1 at*
 generalize hd2:dK (tb oD l2)=D2 at*
 generalize hd3:dK (tb pD l3)=D3 at*
 generalize hd4:dK (tb oD l4)=D4 at*
 have v0:sOwn 5 (b1 lstR aNil) [some (.d R),some (.d D1),some (.d D2),some (.d D3),some (.d D4),none,none,none,none,none,none,none]= .nx [some (.d R),some (.d D1),some (.d D2),some (.d D3),some (.d D4),some (.o []),none,none,none,none,none,none]:=by
  simp only [sOwn,b1,lstR,aNil,Res.bind_ok,List.length_nil,Nat.zero_le,if_true,ofR_ok,List.set_cons_zero,List.set_cons_succ]
 have v1:sFor (setI 6) l__law_due_2 (b1 seqR (asD (b1Q sortK (slotD 3)))) [some (.d R),some (.d D1),some (.d D2),some (.d D3),some (.d D4),some (.o []),none,none,none,none,none,none]= .nx [some (.d R),some (.d D1),some (.d D2),some (.d D3),some (.d D4),some (.o (((srtS (l3.map (·.1))).flatMap (kRows l1 l3)).map txD)),y6,y7,y8,y9,y10,y11]:=by
  simp only [sFor,b1,b1Q,asD,slotD_0,slotD_s,Res.bind_ok,s1,seqR_l,ofR_ok,w1]
 have v2:sFor (setI 6) l__law_due_4 (b1 seqR (asD (b1Q sortK (slotD 4)))) [some (.d R),some (.d D1),some (.d D2),some (.d D3),some (.d D4),some (.o (((srtS (l3.map (·.1))).flatMap (kRows l1 l3)).map txD)),y6,y7,y8,y9,y10,y11]= .nx [some (.d R),some (.d D1),some (.d D2),some (.d D3),some (.d D4),some (.o ((rowsRw l1 l2 l3 l4).map txD)),z6,z7,z8,z9,z10,z11]:=by
  simp only [sFor,b1,b1Q,asD,slotD_0,slotD_s,Res.bind_ok,s2,seqR_l,ofR_ok,w2]
 unfold m__law_due b__law_due
 rw [runD_eq]
 show finO (sSeq (sOwn 5 (b1 lstR aNil)) _ [some (.d R),some (.d D1),some (.d D2),some (.d D3),some (.d D4),none,none,none,none,none,none,none])=_
 unfold sSeq
 rw [v0,seqO_nx,v1,seqO_nx,v2,seqO_nx]
 rfl
end
section
variable {α:Type}
def Tu (l m:List (Str×α)):Prop:=m=l∨m=l.reverse
theorem Tu.mem {l m:List (Str×α)} (h:Tu l m) (q:Str×α):q∈m↔q∈l:=by
 rcases h with rfl|rfl
 ·exact Iff.rfl
 ·exact List.mem_reverse
theorem Tu.len {l m:List (Str×α)} (h:Tu l m):m.length=l.length:=by
 rcases h with rfl|rfl
 ·rfl
 ·exact List.length_reverse
theorem Tu.perm {l m:List (Str×α)} (h:Tu l m):(m.map (·.1)).Perm (l.map (·.1)):=by
 rcases h with rfl|rfl
 ·exact List.Perm.refl _
 ·exact (List.reverse_perm l).map _
theorem Tu.nd {l m:List (Str×α)} (h:Tu l m) (nd:(l.map (·.1)).Nodup):(m.map (·.1)).Nodup:=h.perm.nodup_iff.mpr nd
theorem Tu.get {l m:List (Str×α)} (h:Tu l m) (nd:(l.map (·.1)).Nodup) (n:Str):gT m n=gT l n:=by
 by_cases hn:n∈l.map (·.1)
 ·obtain ⟨y,e,hy⟩:=gT_some hn
  rw [e]
  exact gT_mem (h.nd nd) ((h.mem _).mpr hy)
 ·have go:∀ {k:List (Str×α)},n∉k.map (·.1)→gT k n=none:=fun {k} hk=>by
   unfold gT
   rw [List.find?_eq_none.mpr (fun q hq=>by
    intro z
    exact hk (List.mem_map.mpr ⟨q,hq,of_decide_eq_true z⟩))]
   rfl
  rw [go hn,go (fun z=>hn (h.perm.mem_iff.mp z))]
theorem eqT_tb (v:α→D) (hv:∀ y,eqD (v y) (v y)=true) {l m:List (Str×α)} (h:Tu l m) (nd:(l.map (·.1)).Nodup):L3.eqT (tb v m) (tb v l)=true:=by
 unfold L3.eqT
 rw [tb_len,tb_len,h.len,beq_self_eq_true,Bool.true_and,List.all_eq_true]
 intro q hq
 obtain ⟨r,hr,rfl⟩:=List.mem_map.mp hq
 dsimp only
 rw [tb_get,gT_mem nd ((h.mem r).mp hr)]
 exact hv r.2
theorem tab_tb (v:α→D) (hv:∀ y,shal 39 (v y)=true) (l:List (Str×α)):tabOf (dK (tb v l))=some (tb v l):=by
 unfold tabOf dK
 dsimp only
 rw [if_pos,dK_zip]
 rw [List.all_eq_true]
 intro x hx
 obtain ⟨q,hq,rfl⟩:=List.mem_map.mp hx
 obtain ⟨r,hr,rfl⟩:=List.mem_map.mp hq
 exact hv r.2
end
theorem eqD_pD (a:List Int):eqD (pD a) (pD a)=true:=by
 unfold pD
 rw [eqD,eqL_ints]
 exact decide_eq_true rfl
theorem eqL_bD:∀ B:List (List Int),eqL (B.map pD) (B.map pD)=true
 | []=>by simp [eqL]
 |c::cs=>by rw [List.map_cons,eqL,eqL_bD cs,eqD_pD];rfl
theorem eqD_oD (x:Option (List (List Int))):eqD (oD x) (oD x)=true:=by
 cases x with
 |none=>show eqD .non .non=true;rw [eqD]
 |some B=>show eqD (bD B) (bD B)=true;unfold bD;rw [eqD];exact eqL_bD B
theorem shal_oD (x:Option (List (List Int))):shal 39 (oD x)=true:=by
 cases x with
 |none=>rfl
 |some B=>
  show shal 39 (bD B)=true
  unfold bD
  rw [shal,List.all_eq_true]
  intro y hy
  obtain ⟨a,_,rfl⟩:=List.mem_map.mp hy
  exact shal_ints 37 a
theorem rows_turned {l1 m1 l3 m3:TK} {l2 m2 l4 m4:TB} (t1:Tu l1 m1) (t2:Tu l2 m2) (t3:Tu l3 m3) (t4:Tu l4 m4) (n1:(l1.map (·.1)).Nodup) (n2:(l2.map (·.1)).Nodup) (n3:(l3.map (·.1)).Nodup) (n4:(l4.map (·.1)).Nodup):rowsRw m1 m2 m3 m4=rowsRw l1 l2 l3 l4:=by
 unfold rowsRw
 rw [srtS_eq t3.perm,srtS_eq t4.perm]
 have a:kRows m1 m3=kRows l1 l3:=funext fun n=>by unfold kRows;rw [t1.get n1,t3.get n3]
 have b:dRows m2 m4=dRows l2 l4:=funext fun n=>by unfold dRows;rw [t2.get n2,t4.get n4]
 rw [a,b]
theorem handed_same {l1 m1 l3 m3:TK} {l2 m2 l4 m4:TB} (t1:Tu l1 m1) (t2:Tu l2 m2) (t3:Tu l3 m3) (t4:Tu l4 m4) (n1:(l1.map (·.1)).Nodup) (n2:(l2.map (·.1)).Nodup) (n3:(l3.map (·.1)).Nodup) (n4:(l4.map (·.1)).Nodup):
  neLR (.lst [dK (tb pD m1),dK (tb oD m2),dK (tb pD m3),dK (tb oD m4)]) (.lst [dK (tb pD l1),dK (tb oD l2),dK (tb pD l3),dK (tb oD l4)])= .ok (.bl false):=by
 have a:=tab_tb pD (shal_ints 38)
 have b:=tab_tb oD shal_oD
 unfold neLR
 dsimp only
 rw [show eqTs [dK (tb pD m1),dK (tb oD m2),dK (tb pD m3),dK (tb oD m4)] [dK (tb pD l1),dK (tb oD l2),dK (tb pD l3),dK (tb oD l4)]=some true from by
  simp only [eqTs,a,b,eqT_tb pD eqD_pD t1 n1,eqT_tb oD eqD_oD t2 n2,eqT_tb pD eqD_pD t3 n3,eqT_tb oD eqD_oD t4 n4,Bool.and_true,Bool.and_self]]
 rfl
theorem strsOf_tx (rs:List Rw):strsOf (rs.map txD)=some (rs.map Rw.tx):=by
 rw [show rs.map txD=(rs.map Rw.tx).map D.str from by rw [List.map_map];rfl]
 exact strsOf_map _
theorem allStr_eq (i j:Nat) (δ:DSt) (ds:List D) (xs:List Str) (h:δ[i]? =some (some (.o ds))) (hx:strsOf ds=some xs) (hj:j<δ.length):sAllStr i j δ= .nx δ∨∃ w,sAllStr i j δ= .nx (δ.set j w):=by
 unfold sAllStr
 rw [h]
 dsimp only
 rw [hx]
 dsimp only
 rw [if_pos hj]
 cases xs.length with
 |zero=>exact .inl rfl
 |succ n=>exact .inr ⟨_,rfl⟩
theorem law_true (ns:List Int) (hns:ns.length≤63):m_law [.lst (ns.map D.int)]= .ok (.bl true):=by
 obtain ⟨c,e0⟩:=cell_ex ns 0 (by decide)
 obtain ⟨p,d,h,s,er,o⟩:=rules_ex c
 obtain ⟨v4,e4⟩:=mixed_ex c 4 (by decide) (by decide)
 obtain ⟨f,gf,en⟩:=names_ex v4 6 (by decide)
 obtain ⟨l1,l3,ek,a1,a3⟩:=keys_ex (s:=s) o f 6 (by decide) ns
 obtain ⟨l2,l4,ed,a2,a4,hn⟩:=doors_ex (s:=s) o (fun k=>f (3+k)) 3 (by decide) ns
 have sl:slL (sL (List.range 6) f) (some 3) none= .ok ((List.range 3).map fun k=>D.str (f (3+k))):=rfl
 have K:KOk p d l1 l3:=⟨a1.vl,a3.vl,fun q hq=>by obtain ⟨k,_,e⟩:=a3.nm q hq;rw [e];exact gf k,a3.len⟩
 have Q:DOk p d h l2 l4:=⟨a2.vl,a4.vl,fun q hq=>by obtain ⟨k,_,e⟩:=a4.nm q hq;rw [e];exact gf _,a4.len,fun n hn'=>by rw [hn];exact hn'⟩
 have du:=due_eq (s:=s) o K Q
 have ro:=rows_eq (s:=s) o K Q
 have d2:=divI c 2 (by decide) (by decide)
 obtain ⟨m1,t1,u1⟩:=turned_ex pD l1 a1.nd (by have:=a1.len;omega) c
 obtain ⟨m2,t2,u2⟩:=turned_ex oD l2 a2.nd (by have:=a2.len;omega) c
 obtain ⟨m3,t3,u3⟩:=turned_ex pD l3 a3.nd (by have:=a3.len;omega) (c / 2)
 obtain ⟨m4,t4,u4⟩:=turned_ex oD l4 a4.nd (by have:=a4.len;omega) (c / 2)
 have t1:Tu l1 m1:=t1
 have t2:Tu l2 m2:=t2
 have t3:Tu l3 m3:=t3
 have t4:Tu l4 m4:=t4
 have K':KOk p d m1 m3:=⟨fun q hq=>a1.vl q ((t1.mem q).mp hq),fun q hq=>a3.vl q ((t3.mem q).mp hq),fun q hq=>K.g3 q ((t3.mem q).mp hq),by rw [t3.len];exact a3.len⟩
 have Q':DOk p d h m2 m4:=⟨fun q hq=>a2.vl q ((t2.mem q).mp hq),fun q hq=>a4.vl q ((t4.mem q).mp hq),fun q hq=>Q.g4 q ((t4.mem q).mp hq),by rw [t4.len];exact a4.len,fun n hn'=>t2.perm.mem_iff.mpr (Q.sm n (t4.perm.mem_iff.mp hn'))⟩
 have ro':=rows_eq (s:=s) o K' Q'
 rw [rows_turned t1 t2 t3 t4 a1.nd a2.nd a3.nd a4.nd] at ro'
 have hs:=handed_same t1 t2 t3 t4 a1.nd a2.nd a3.nd a4.nd
 have so:=strsOf_tx (rowsRw l1 l2 l3 l4)
 have rl:=(rows_ok o K Q).2
 have se:=same_strs ((rowsRw l1 l2 l3 l4).map Rw.tx)
 have em:((rowsRw l1 l2 l3 l4).map Rw.tx).map D.str=(rowsRw l1 l2 l3 l4).map txD:=by rw [List.map_map];rfl
 rw [em] at se
 have ro:callR 5 m_rows_to [ruD p d h s,dK (tb pD l1),dK (tb oD l2),dK (tb pD l3),dK (tb oD l4)]= .ok (.lst ((rowsRw l1 l2 l3 l4).map txD)):=ro
 have ro':callR 5 m_rows_to [ruD p d h s,dK (tb pD m1),dK (tb oD m2),dK (tb pD m3),dK (tb oD m4)]= .ok (.lst ((rowsRw l1 l2 l3 l4).map txD)):=ro'
 have rl':((rowsRw l1 l2 l3 l4).map txD).length≤150:=by rw [List.length_map];exact rl
 clear em rl K Q K' Q' t1 t2 t3 t4 a1 a2 a3 a4 hn gf o
 generalize (rowsRw l1 l2 l3 l4).map Rw.tx=TX at*
 generalize (rowsRw l1 l2 l3 l4).map txD=T at*
 obtain ⟨se1,se2⟩:=se
 have en:callR 2 m__law_names [.int v4, .int 6]= .ok (sL (List.range 6) f):=en
 have ed:callR 3 m__law_doors [ruD p d h s, .lst ((List.range 3).map fun k=>D.str (f (3+k))), .lst (ns.map D.int)]= .ok (.tup [dK (tb oD l2),dK (tb oD l4)]):=ed
 generalize (List.range 3).map (fun k=>D.str (f (3+k)))=N3 at*
 generalize sL (List.range 6) f=N at*
 generalize ruD p d h s=R at*
 generalize D.lst (ns.map D.int)=A at*
 generalize dK (tb pD l1)=L1 at*
 generalize dK (tb oD l2)=L2 at*
 generalize dK (tb pD l3)=L3' at*
 generalize dK (tb oD l4)=L4 at*
 generalize dK (tb pD m1)=M1 at*
 generalize dK (tb oD m2)=M2 at*
 generalize dK (tb pD m3)=M3 at*
 generalize dK (tb oD m4)=M4 at*
 have w1:sSet 1 (b1 (callR 2 m__law_cell_at) (aCons (slotD 0) (aCons (kD (.int 0)) aNil))) [some (.d A),none,none,none,none,none,none,none,none,none,none,none]= .nx [some (.d A),some (.d (.int c)),none,none,none,none,none,none,none,none,none,none]:=by
  simp only [sSet,b1,kD,aCons,aNil,consR_ok,slotD_0,Res.bind_ok,e0,ofR_ok,List.set_cons_zero,List.set_cons_succ]
 have w2:sSet 2 (b1 (callR 1 m__law_rules) (aCons (slotD 1) aNil)) [some (.d A),some (.d (.int c)),none,none,none,none,none,none,none,none,none,none]= .nx [some (.d A),some (.d (.int c)),some (.d R),none,none,none,none,none,none,none,none,none]:=by
  simp only [sSet,b1,aCons,aNil,consR_ok,slotD_0,slotD_s,Res.bind_ok,er,ofR_ok,List.set_cons_zero,List.set_cons_succ]
 have w3:sSet 3 (b1 (callR 2 m__law_names) (aCons (b1 (callR 2 m__law_mixed) (aCons (slotD 1) (aCons (kD (.int 4)) aNil))) (aCons (kD (.int 6)) aNil))) [some (.d A),some (.d (.int c)),some (.d R),none,none,none,none,none,none,none,none,none]= .nx [some (.d A),some (.d (.int c)),some (.d R),some (.d N),none,none,none,none,none,none,none,none]:=by
  simp only [sSet,b1,kD,aCons,aNil,consR_ok,slotD_0,slotD_s,Res.bind_ok,e4,en,ofR_ok,List.set_cons_zero,List.set_cons_succ]
 have w4:sAsg (unTup 2 (unCons (setI 4) (unCons (setI 5) unNil))) (b1 (callR 3 m__law_keys) (aCons (slotD 2) (aCons (slotD 3) (aCons (slotD 0) aNil)))) [some (.d A),some (.d (.int c)),some (.d R),some (.d N),none,none,none,none,none,none,none,none]= .nx [some (.d A),some (.d (.int c)),some (.d R),some (.d N),some (.d L1),some (.d L3'),none,none,none,none,none,none]:=by
  simp only [sAsg,b1,aCons,aNil,consR_ok,slotD_0,slotD_s,Res.bind_ok,ek,ofR_ok]
  rfl
 have p3:partR (.int 3)= .ok (some 3):=rfl
 have w5:sAsg (unTup 2 (unCons (setI 6) (unCons (setI 7) unNil))) (b1 (callR 3 m__law_doors) (aCons (slotD 2) (aCons (asD (L3.b3 slL (slotP 3) (b1 partR (kD (.int 3))) oNone)) (aCons (slotD 0) aNil)))) [some (.d A),some (.d (.int c)),some (.d R),some (.d N),some (.d L1),some (.d L3'),none,none,none,none,none,none]= .nx [some (.d A),some (.d (.int c)),some (.d R),some (.d N),some (.d L1),some (.d L3'),some (.d L2),some (.d L4),none,none,none,none]:=by
  simp only [sAsg,asD,b1,L3.b3,kD,oNone,aCons,aNil,consR_ok,slotP_0,slotP_s,slotD_0,slotD_s,Res.bind_ok,p3,sl,ed,ofR_ok]
  rfl
 have w6:sSet 8 (b1 (callR 5 m__law_due) (aCons (slotD 2) (aCons (slotD 4) (aCons (slotD 6) (aCons (slotD 5) (aCons (slotD 7) aNil)))))) [some (.d A),some (.d (.int c)),some (.d R),some (.d N),some (.d L1),some (.d L3'),some (.d L2),some (.d L4),none,none,none,none]= .nx [some (.d A),some (.d (.int c)),some (.d R),some (.d N),some (.d L1),some (.d L3'),some (.d L2),some (.d L4),some (.d (.lst T)),none,none,none]:=by
  simp only [sSet,b1,aCons,aNil,consR_ok,slotD_0,slotD_s,Res.bind_ok,du,ofR_ok,List.set_cons_zero,List.set_cons_succ]
 have w7:sOwn 9 (b1 lstR (aCons (b1 (callR 2 m__law_turned) (aCons (slotD 4) (aCons (slotD 1) aNil))) (aCons (b1 (callR 2 m__law_turned) (aCons (slotD 6) (aCons (slotD 1) aNil))) (aCons (b1 (callR 2 m__law_turned) (aCons (slotD 5) (aCons (b2 fdivD (slotP 1) (kD (.int 2))) aNil))) aNil)))) [some (.d A),some (.d (.int c)),some (.d R),some (.d N),some (.d L1),some (.d L3'),some (.d L2),some (.d L4),some (.d (.lst T)),none,none,none]= .nx [some (.d A),some (.d (.int c)),some (.d R),some (.d N),some (.d L1),some (.d L3'),some (.d L2),some (.d L4),some (.d (.lst T)),some (.o [M1,M2,M3]),none,none]:=by
  simp only [sOwn,b1,b2,lstR,kD,aCons,aNil,consR_ok,slotD_0,slotD_s,slotP_0,slotP_s,Res.bind_ok,u1,u2,u3,d2,List.length_cons,List.length_nil,Nat.reduceAdd,Nat.reduceLeDiff,if_true,ofR_ok,List.set_cons_zero,List.set_cons_succ]
 have w8:=sApp_eq 9 (b1 (callR 2 m__law_turned) (aCons (slotD 7) (aCons (b2 fdivD (slotP 1) (kD (.int 2))) aNil))) [some (.d A),some (.d (.int c)),some (.d R),some (.d N),some (.d L1),some (.d L3'),some (.d L2),some (.d L4),some (.d (.lst T)),some (.o [M1,M2,M3]),none,none] [M1,M2,M3] M4 rfl (by
  simp only [b1,b2,kD,aCons,aNil,consR_ok,slotD_0,slotD_s,slotP_0,slotP_s,Res.bind_ok,u4,d2]) (by show 3≤100000;omega)
 have j0:ixR (.lst [M1,M2,M3,M4]) (.int 0)= .ok M1:=ixR_l _ _ _ rfl
 have j1:ixR (.lst [M1,M2,M3,M4]) (.int 1)= .ok M2:=ixR_l _ _ _ rfl
 have j2:ixR (.lst [M1,M2,M3,M4]) (.int 2)= .ok M3:=ixR_l _ _ _ rfl
 have j3:ixR (.lst [M1,M2,M3,M4]) (.int 3)= .ok M4:=ixR_l _ _ _ rfl
 have w9:sOwnR 10 (b1 (callR 5 m_rows_to) (aCons (slotD 2) (aCons (b2 ixR (slotP 9) (kD (.int 0))) (aCons (b2 ixR (slotP 9) (kD (.int 1))) (aCons (b2 ixR (slotP 9) (kD (.int 2))) (aCons (b2 ixR (slotP 9) (kD (.int 3))) aNil)))))) [some (.d A),some (.d (.int c)),some (.d R),some (.d N),some (.d L1),some (.d L3'),some (.d L2),some (.d L4),some (.d (.lst T)),some (.o [M1,M2,M3,M4]),none,none]= .nx [some (.d A),some (.d (.int c)),some (.d R),some (.d N),some (.d L1),some (.d L3'),some (.d L2),some (.d L4),some (.d (.lst T)),some (.o [M1,M2,M3,M4]),some (.o T),none]:=by
  simp only [sOwnR,b1,b2,kD,aCons,aNil,consR_ok,slotD_0,slotD_s,slotP_0o,slotP_s,Res.bind_ok,j0,j1,j2,j3,ro',ofR_ok,ownO,List.set_cons_zero,List.set_cons_succ]
 have il:isiR "list" (.lst T)= .ok (.bl true):=rfl
 have w10:sIf (tOr2 (tNot1 (tR (b1 (isiR "list") (slotP 10)))) (tR (b2 neR (slotP 10) (slotP 8)))) (sRet (kD (.bl false))) Out.nx [some (.d A),some (.d (.int c)),some (.d R),some (.d N),some (.d L1),some (.d L3'),some (.d L2),some (.d L4),some (.d (.lst T)),some (.o [M1,M2,M3,M4]),some (.o T),none]= .nx [some (.d A),some (.d (.int c)),some (.d R),some (.d N),some (.d L1),some (.d L3'),some (.d L2),some (.d L4),some (.d (.lst T)),some (.o [M1,M2,M3,M4]),some (.o T),none]:=by
  refine sIf_f ?_
  simp only [tOr2,tNot1,tR,b1,b2,slotP_0,slotP_0o,slotP_s,Res.bind_ok,il,se2,boolR_bl,Bool.not_true,orB_ok,Bool.false_eq_true,if_false]
 have w11:sIf (tR (b2 neLR (slotP 9) (asD (b1 lstR (aCons (slotD 4) (aCons (slotD 6) (aCons (slotD 5) (aCons (slotD 7) aNil)))))))) (sRet (kD (.bl false))) Out.nx [some (.d A),some (.d (.int c)),some (.d R),some (.d N),some (.d L1),some (.d L3'),some (.d L2),some (.d L4),some (.d (.lst T)),some (.o [M1,M2,M3,M4]),some (.o T),none]= .nx [some (.d A),some (.d (.int c)),some (.d R),some (.d N),some (.d L1),some (.d L3'),some (.d L2),some (.d L4),some (.d (.lst T)),some (.o [M1,M2,M3,M4]),some (.o T),none]:=by
  refine sIf_f ?_
  simp only [tR,b1,b2,asD,lstR,aCons,aNil,consR_ok,slotD_0,slotD_s,slotP_0,slotP_0o,slotP_s,Res.bind_ok,List.length_cons,List.length_nil,Nat.reduceAdd,Nat.reduceLeDiff,if_true,hs,boolR_bl]
 obtain ⟨x11,w12⟩:∃ x11:Option S,sAllStr 10 11 [some (.d A),some (.d (.int c)),some (.d R),some (.d N),some (.d L1),some (.d L3'),some (.d L2),some (.d L4),some (.d (.lst T)),some (.o [M1,M2,M3,M4]),some (.o T),none]= .nx [some (.d A),some (.d (.int c)),some (.d R),some (.d N),some (.d L1),some (.d L3'),some (.d L2),some (.d L4),some (.d (.lst T)),some (.o [M1,M2,M3,M4]),some (.o T),x11]:=by
  rcases allStr_eq 10 11 [some (.d A),some (.d (.int c)),some (.d R),some (.d N),some (.d L1),some (.d L3'),some (.d L2),some (.d L4),some (.d (.lst T)),some (.o [M1,M2,M3,M4]),some (.o T),none] T TX rfl so (by show 11<12;decide) with e|⟨w,e⟩
  ·exact ⟨none,e⟩
  ·exact ⟨w,e⟩
 have w13:=sApp_eq 10 (kD (.str "")) [some (.d A),some (.d (.int c)),some (.d R),some (.d N),some (.d L1),some (.d L3'),some (.d L2),some (.d L4),some (.d (.lst T)),some (.o [M1,M2,M3,M4]),some (.o T),x11] T (.str "") rfl rfl (by omega)
 unfold m_law b_law
 rw [runD_eq]
 show finO (sSeq _ _ [some (.d A),none,none,none,none,none,none,none,none,none,none,none])=_
 unfold sSeq
 rw [w1,seqO_nx,w2,seqO_nx,w3,seqO_nx,w4,seqO_nx,w5,seqO_nx,w6,seqO_nx,w7,seqO_nx,w8,seqO_nx]
 show finO (seqO (sOwnR 10 _ [some (.d A),some (.d (.int c)),some (.d R),some (.d N),some (.d L1),some (.d L3'),some (.d L2),some (.d L4),some (.d (.lst T)),some (.o [M1,M2,M3,M4]),none,none]) _)=_
 rw [w9,seqO_nx,w10,seqO_nx,w11,seqO_nx,w12,seqO_nx,w13,seqO_nx]
 simp only [sRet,b1,b2,aCons,aNil,consR_ok,slotD_0,slotD_s,slotP_0,slotP_s,Res.bind_ok,ro,se1,ofR_ok,finO_rt,List.set_cons_zero,List.set_cons_succ]
end G
local macro_rules| `(tactic| walk_at "memfree")=> `(tactic| first|exact List.forall_mem_nil _|exact List.forall_mem_cons.mpr ⟨(by intro h;first|exact absurd h (by decide)|exact Or.inl rfl|exact Or.inr rfl),by walk_at "memfree"⟩)
local macro_rules| `(tactic| walk_at "memdis")=> `(tactic| first|exact List.forall_mem_nil _|exact List.forall_mem_cons.mpr ⟨by decide +kernel,by walk_at "memdis"⟩)
local macro_rules| `(tactic| walk_at "compok")=> `(tactic| exact ⟨rfl,by decide +kernel,by walk_at "memfree",rfl,by walk_at "memdis"⟩)
namespace G
open PySem PySem.Spec PyProof.Rows L2 L3
def top (i:Nat):Stmt:=PySem.Challenge.pw_wardsmith_k85_rows_to_another.main.body.getD i (.Pass ⟨0,0,0,0⟩)
abbrev s__law_cell_at:Stmt:=top 22
abbrev s__law_mixed:Stmt:=top 23
abbrev s__law_pin:Stmt:=top 28
abbrev s__law_barrel:Stmt:=top 30
abbrev s__law_doors:Stmt:=top 32
abbrev s__law_due:Stmt:=top 33
abbrev s__law_cut:Stmt:=top 29
abbrev s__law_keys:Stmt:=top 31
abbrev s__law_name:Stmt:=top 25
abbrev s__law_open:Stmt:=top 24
abbrev s__law_names:Stmt:=top 26
abbrev s__law_rules:Stmt:=top 27
abbrev s__law_turned:Stmt:=top 34
abbrev s_Blank_shown:Stmt:=inClass (top 9) 1
abbrev s_Bolt_shown:Stmt:=inClass (top 12) 1
abbrev s_File_shown:Stmt:=inClass (top 10) 1
abbrev s_Open_shown:Stmt:=inClass (top 13) 1
abbrev s_shown_pin:Stmt:=top 6
abbrev s_Pin_shown:Stmt:=inClass (top 11) 1
abbrev s_Bolt:Stmt:=inClass (top 12) 0
abbrev s_Open:Stmt:=inClass (top 13) 0
abbrev s_places_of:Stmt:=top 1
abbrev s_flat_barrel:Stmt:=top 15
abbrev s_Pin:Stmt:=inClass (top 11) 0
abbrev s_pin_deeds:Stmt:=top 20
abbrev s_door_deeds:Stmt:=top 19
abbrev s_Blank:Stmt:=inClass (top 9) 0
abbrev s_can_file:Stmt:=top 4
abbrev s_File:Stmt:=inClass (top 10) 0
abbrev s_file_deeds:Stmt:=top 18
abbrev s_first_cuts:Stmt:=top 3
abbrev s_key_deeds:Stmt:=top 17
abbrev s_rows_to:Stmt:=top 16
abbrev s_law:Stmt:=top 35
structure Txt (K:PySem.W.Frag) (mg:Str→Option Value):Prop where
 n_all:mg "all"=none
 n_enumerate:mg "enumerate"=none
 n_isinstance:mg "isinstance"=none
 n_len:mg "len"=none
 n_list:mg "list"=none
 n_range:mg "range"=none
 n_sorted:mg "sorted"=none
 n_str:mg "str"=none
 n_tuple:mg "tuple"=none
 n_zip:mg "zip"=none
 o_Blank_key:FldK K "Blank" "key"
 o_Bolt_door:FldK K "Bolt" "door"
 o_File_depth:FldK K "File" "depth"
 o_File_key:FldK K "File" "key"
 o_File_place:FldK K "File" "place"
 o_Open_door:FldK K "Open" "door"
 o_Pin_door:FldK K "Pin" "door"
 o_Pin_heights:FldK K "Pin" "heights"
 o_Pin_place:FldK K "Pin" "place"
section
variable {P:Program} {w:World} {K:PySem.W.Frag} {mg:Str→Option Value} {base:Heap}
theorem sc__law_cell_at:FnScope ["_law_script","_law_k"] ["_law_script","_law_k"] (defScope s__law_cell_at):=⟨rfl,rfl,rfl,by decide +kernel,rfl,by decide +kernel,by decide +kernel⟩
theorem ok__law_cell_at {f:Addr} {fd:FuncData} (F:Fun K "_law_cell_at" "_law_cell_at" s__law_cell_at f fd) (hm:mg "_law_cell_at"=some (.ref f)) (T:Txt K mg)  :Fn P w K mg base 1 "_law_cell_at" 2 m__law_cell_at:=
 fn_def (k:=0) F sc__law_cell_at hm (F.binds (ps:= ["_law_script","_law_k"]) fun _ _ _ _ _ _=>us2 fun _ _=>rfl) fun cdv A outer s H E hr=>
  (ss_cons (s_if (y_cmp c_lt (p_var 1) (p_of (x_len T.n_len (p_var 0)))) (ss_one (s_ret (x_ix (p_var 0) (p_var 1)))) ss_nil)
  (ss_one (s_ret x_int)))
theorem sc__law_mixed:FnScope ["_law_cell","_law_k","_law_number"] ["_law_cell","_law_k"] (defScope s__law_mixed):=⟨rfl,rfl,rfl,by decide +kernel,rfl,by decide +kernel,by decide +kernel⟩
theorem ok__law_mixed {f:Addr} {fd:FuncData} (F:Fun K "_law_mixed" "_law_mixed" s__law_mixed f fd) (hm:mg "_law_mixed"=some (.ref f)) (T:Txt K mg)  :Fn P w K mg base 1 "_law_mixed" 2 m__law_mixed:=
 fn_def (k:=0) F sc__law_mixed hm (F.binds (ps:= ["_law_cell","_law_k"]) fun _ _ _ _ _ _=>us2 fun _ _=>rfl) fun cdv A outer s H E hr=>
  (ss_cons (s_set 2 sc__law_mixed.nd (x_mod (p_of (x_mulE (p_of (x_add (p_of (x_mod (p_var 0) (p_of x_int))) (p_of x_int))) (p_of (x_add (p_of x_int) (p_of (x_mulE (p_of x_int) (p_var 1))))))) (p_of x_int)))
  (ss_one (s_ret (x_mod (p_of (x_mulE (p_var 2) (p_var 2))) (p_of x_int)))))
theorem sc__law_pin:FnScope ["_law_rules_here","_law_cell","_law_height","_law_found","_law_k"] ["_law_rules_here","_law_cell"] (defScope s__law_pin):=⟨rfl,rfl,rfl,by decide +kernel,rfl,by decide +kernel,by decide +kernel⟩
theorem ok__law_pin {f:Addr} {fd:FuncData} (F:Fun K "_law_pin" "_law_pin" s__law_pin f fd) (hm:mg "_law_pin"=some (.ref f)) (T:Txt K mg) (F__law_mixed:Fn P w K mg base 1 "_law_mixed" 2 m__law_mixed):Fn P w K mg base 2 "_law_pin" 2 m__law_pin:=
 fn_def (k:=1) F sc__law_pin hm (F.binds (ps:= ["_law_rules_here","_law_cell"]) fun _ _ _ _ _ _=>us2 fun _ _=>rfl) fun cdv A outer s H E hr=>
  (ss_cons (s_set 2 sc__law_pin.nd (x_mod (p_of (x_call (F__law_mixed.mono (by decide)) hr (a_cons (x_var 1) (a_cons x_int a_nil)))) (p_of (x_ix (p_var 0) (p_of x_int)))))
  (ss_cons (s_own 3 sc__law_pin.nd (f_lst (a_cons (x_var 2) a_nil)))
  (ss_cons (s_for PassesOwn.never rfl (i_range1 T.n_range (a_cons (x_mod (p_of (x_call (F__law_mixed.mono (by decide)) hr (a_cons (x_var 1) (a_cons x_int a_nil)))) (p_of (x_ix (p_var 0) (p_of x_int)))) a_nil)) (g_name 4 sc__law_pin.nd) (ss_cons (s_set 2 sc__law_pin.nd (x_add (p_of (x_add (p_var 2) (p_of x_int))) (p_of (x_mod (p_of (x_call (F__law_mixed.mono (by decide)) hr (a_cons (x_var 1) (a_cons (x_add (p_of x_int) (p_var 4)) a_nil)))) (p_of x_int)))))
  (ss_one (s_if (y_cmp c_lt (p_var 2) (p_of (x_ix (p_var 0) (p_of x_int)))) (ss_one (s_append 3 (x_var 2))) ss_nil))))
  (ss_one (s_ret (x_tuple T.n_tuple (p_var 3)))))))
theorem sc__law_barrel:FnScope ["_law_rules_here","_law_cell"] ["_law_rules_here","_law_cell"] (defScope s__law_barrel):=⟨rfl,rfl,rfl,by decide +kernel,rfl,by decide +kernel,by decide +kernel⟩
theorem ok__law_barrel {f:Addr} {fd:FuncData} (F:Fun K "_law_barrel" "_law_barrel" s__law_barrel f fd) (hm:mg "_law_barrel"=some (.ref f)) (T:Txt K mg) (F__law_mixed:Fn P w K mg base 1 "_law_mixed" 2 m__law_mixed) (F__law_pin:Fn P w K mg base 2 "_law_pin" 2 m__law_pin):Fn P w K mg base 3 "_law_barrel" 2 m__law_barrel:=
 fn_def (k:=2) F sc__law_barrel hm (F.binds (ps:= ["_law_rules_here","_law_cell"]) fun _ _ _ _ _ _=>us2 fun _ _=>rfl) fun cdv A outer s H E hr=>
  (ss_one (s_ret (x_tuple T.n_tuple (p_of (x_new (f_comp ["_law_k"] ["_law_rules_here","_law_cell"] (by walk_at "compok") rfl (i_range1 T.n_range (a_cons (x_ix (p_var 0) (p_of x_int)) a_nil)) (fun C fp pins s H=>⟨(g_name 0 (show List.Nodup (["_law_k","_law_rules_here","_law_cell"]:List Str) by decide +kernel)),t_nil,(x_call (F__law_pin.mono (by decide)) hr (a_cons (x_var 1) (a_cons (x_call (F__law_mixed.mono (by decide)) hr (a_cons (x_var 2) (a_cons (x_add (p_of x_int) (p_var 0)) a_nil))) a_nil)))⟩)))))))
theorem sc__law_doors:FnScope ["_law_rules_here","_law_names_here","_law_script","_law_one","_law_other","_law_k","_law_cell","_law_pair"] ["_law_rules_here","_law_names_here","_law_script"] (defScope s__law_doors):=⟨rfl,rfl,rfl,by decide +kernel,rfl,by decide +kernel,by decide +kernel⟩
theorem ok__law_doors {f:Addr} {fd:FuncData} (F:Fun K "_law_doors" "_law_doors" s__law_doors f fd) (hm:mg "_law_doors"=some (.ref f)) (T:Txt K mg) (F__law_barrel:Fn P w K mg base 3 "_law_barrel" 2 m__law_barrel) (F__law_cell_at:Fn P w K mg base 1 "_law_cell_at" 2 m__law_cell_at) (F__law_mixed:Fn P w K mg base 1 "_law_mixed" 2 m__law_mixed):Fn P w K mg base 4 "_law_doors" 3 m__law_doors:=
 fn_def (k:=3) F sc__law_doors hm (F.binds (ps:= ["_law_rules_here","_law_names_here","_law_script"]) fun _ _ _ _ _ _=>us3 fun _ _ _=>rfl) fun cdv A outer s H E hr=>
  (ss_cons (s_ownQ 3 sc__law_doors.nd)
  (ss_cons (s_ownQ 4 sc__law_doors.nd)
  (ss_cons (s_for PassesOwn.never rfl (i_range1 T.n_range (a_cons (x_mod (p_of (x_call (F__law_cell_at.mono (by decide)) hr (a_cons (x_var 2) (a_cons x_int a_nil)))) (p_of x_int)) a_nil)) (g_name 5 sc__law_doors.nd) (ss_cons (s_set 6 sc__law_doors.nd (x_call (F__law_mixed.mono (by decide)) hr (a_cons (x_call (F__law_cell_at.mono (by decide)) hr (a_cons (x_var 2) (a_cons (x_add (p_of x_int) (p_var 5)) a_nil))) (a_cons (x_add (p_of x_int) (p_var 5)) a_nil))))
  (ss_cons (s_puti 3 (x_call (F__law_barrel.mono (by decide)) hr (a_cons (x_var 0) (a_cons (x_var 6) a_nil))) (x_ix (p_var 1) (p_var 5)))
  (ss_cons (s_puti 4 (x_call (F__law_barrel.mono (by decide)) hr (a_cons (x_var 0) (a_cons (x_call (F__law_mixed.mono (by decide)) hr (a_cons (x_var 6) (a_cons x_int a_nil))) a_nil))) (x_ix (p_var 1) (p_var 5)))
  (ss_cons (s_if (y_cmp (c_eq (hu40 hr)) (p_of (x_mod (p_var 6) (p_of x_int))) (p_of x_int)) (ss_cons (s_set 7 sc__law_doors.nd (x_new (f_lst (a_cons (x_dget (q_var 3) (p_of (x_ix (p_var 1) (p_var 5)))) (a_cons (x_dget (q_var 4) (p_of (x_ix (p_var 1) (p_var 5)))) a_nil)))))
  (ss_one (s_puti 4 (x_tuple T.n_tuple (p_of (x_new (f_comp ["_law_j"] ["_law_rules_here","_law_names_here","_law_script","_law_one","_law_other","_law_k","_law_cell","_law_pair"] (by walk_at "compok") rfl (i_range1 T.n_range (a_cons (x_ix (p_var 0) (p_of x_int)) a_nil)) (fun C fp pins s H=>⟨(g_name 0 (show List.Nodup (["_law_j","_law_rules_here","_law_names_here","_law_script","_law_one","_law_other","_law_k","_law_cell","_law_pair"]:List Str) by decide +kernel)),t_nil,(x_ix (p_of (x_ix (p_var 8) (p_of (x_mod (p_of (x_call (F__law_mixed.mono (by decide)) hr (a_cons (x_var 7) (a_cons (x_add (p_of x_int) (p_var 0)) a_nil)))) (p_of x_int))))) (p_var 0))⟩))))) (x_ix (p_var 1) (p_var 5))))) ss_nil)
  (ss_cons (s_if (y_cmp (c_eq (hu40 hr)) (p_of (x_mod (p_of (x_fdiv (p_var 6) (p_of x_int))) (p_of x_int))) (p_of x_int)) (ss_one (s_puti 3 x_non (x_ix (p_var 1) (p_var 5)))) ss_nil)
  (ss_one (s_if (y_cmp (c_eq (hu40 hr)) (p_of (x_mod (p_of (x_fdiv (p_var 6) (p_of x_int))) (p_of x_int))) (p_of x_int)) (ss_one (s_puti 4 x_non (x_ix (p_var 1) (p_var 5)))) ss_nil))))))))
  (ss_one (s_frz 4 (s_frz 3 (s_ret (x_tup (a_cons (x_var 3) (a_cons (x_var 4) a_nil))))))))))
theorem sc__law_due:FnScope ["_law_rules_here","_law_keys_here","_law_barrels","_law_other_keys","_law_other_barrels","_law_rows","_law_name_here","_law_aim","_law_begun","_law_here","_law_k","_law_heights"] ["_law_rules_here","_law_keys_here","_law_barrels","_law_other_keys","_law_other_barrels"] (defScope s__law_due):=⟨rfl,rfl,rfl,by decide +kernel,rfl,by decide +kernel,by decide +kernel⟩
theorem ok__law_due {f:Addr} {fd:FuncData} (F:Fun K "_law_due" "_law_due" s__law_due f fd) (hm:mg "_law_due"=some (.ref f)) (T:Txt K mg)  :Fn P w K mg base 1 "_law_due" 5 m__law_due:=
 fn_def (k:=0) F sc__law_due hm (F.binds (ps:= ["_law_rules_here","_law_keys_here","_law_barrels","_law_other_keys","_law_other_barrels"]) fun _ _ _ _ _ _=>us5 fun _ _ _ _ _=>rfl) fun cdv A outer s H E hr=>
  (ss_cons (s_own 5 sc__law_due.nd (f_lst a_nil))
  (ss_cons (s_for PassesOwn.never rfl (i_seq (x_new (f_sortK rfl T.n_sorted (x_var 3)))) (g_name 6 sc__law_due.nd) (ss_cons (s_set 7 sc__law_due.nd (x_dget (q_var 3) (p_var 6)))
  (ss_cons (s_set 8 sc__law_due.nd (x_new (f_rep (p_of (x_new (f_lst (a_cons x_int a_nil)))) (p_of (x_ix (p_var 0) (p_of x_int))))))
  (ss_cons (s_set 9 sc__law_due.nd (x_get1 (q_var 1) (a_cons (x_var 6) a_nil)))
  (ss_cons (s_if (y_w (w_and (y_notN (p_var 9)) (w_and1 (y_cmp (c_eq (hu40 hr)) (p_of (x_new (f_comp ["_law_k"] ["_law_rules_here","_law_keys_here","_law_barrels","_law_other_keys","_law_other_barrels","_law_rows","_law_name_here","_law_aim","_law_begun","_law_here","?","_law_heights"] (by walk_at "compok") rfl (i_range1 T.n_range (a_cons (x_ix (p_var 0) (p_of x_int)) a_nil)) (fun C fp pins s H=>⟨(g_name 0 (show List.Nodup (["_law_k","_law_rules_here","_law_keys_here","_law_barrels","_law_other_keys","_law_other_barrels","_law_rows","_law_name_here","_law_aim","_law_begun","_law_here","?","_law_heights"]:List Str) by decide +kernel)),(t_one (y_cmp c_gt (p_of (x_ix (p_var 10) (p_var 0))) (p_of (x_ix (p_var 8) (p_var 0))))),(x_var 0)⟩)))) (p_of (x_new (f_lst a_nil))))))) (ss_one (s_set 8 sc__law_due.nd (x_var 9))) (ss_one (s_append 5 (x_add (p_of x_str) (p_var 6)))))
  (ss_one (s_for PassesOwn.never rfl (i_range1 T.n_range (a_cons (x_ix (p_var 0) (p_of x_int)) a_nil)) (g_name 10 sc__law_due.nd) (ss_one (s_if (y_cmp c_lt (p_of (x_ix (p_var 8) (p_var 10))) (p_of (x_ix (p_var 7) (p_var 10)))) (ss_one (s_append 5 (x_add (p_of (x_add (p_of (x_add (p_of (x_add (p_of (x_add (p_of x_str) (p_var 6))) (p_of x_str))) (p_of (x_strof hr T.n_str (p_var 10))))) (p_of x_str))) (p_of (x_strof hr T.n_str (p_of (x_ix (p_var 7) (p_var 10)))))))) ss_nil)))))))))
  (ss_cons (s_for PassesOwn.never rfl (i_seq (x_new (f_sortK rfl T.n_sorted (x_var 4)))) (g_name 6 sc__law_due.nd) (ss_cons (s_set 7 sc__law_due.nd (x_dget (q_var 4) (p_var 6)))
  (ss_cons (s_set 8 sc__law_due.nd (x_dget (q_var 2) (p_var 6)))
  (ss_cons (s_if (y_w (w_and (y_isN (p_var 7)) (w_and1 (y_notN (p_var 8))))) (ss_one (s_append 5 (x_add (p_of x_str) (p_var 6)))) ss_nil)
  (ss_cons (s_if (y_w (w_and (y_notN (p_var 7)) (w_and1 (y_isN (p_var 8))))) (ss_cons (s_append 5 (x_add (p_of x_str) (p_var 6)))
  (ss_one (s_set 8 sc__law_due.nd (x_new (f_rep (p_of (x_new (f_lst (a_cons (x_tup (a_cons x_int a_nil)) a_nil)))) (p_of (x_ix (p_var 0) (p_of x_int)))))))) ss_nil)
  (ss_one (s_if (y_notN (p_var 7)) (ss_one (s_for PassesOwn.never rfl (i_range1 T.n_range (a_cons (x_ix (p_var 0) (p_of x_int)) a_nil)) (g_name 10 sc__law_due.nd) (ss_one (s_if (y_cmp (c_ne (hu40 hr)) (p_of (x_ix (p_var 8) (p_var 10))) (p_of (x_ix (p_var 7) (p_var 10)))) (ss_cons (s_set 11 sc__law_due.nd (x_join x_str (a_cons (x_new (f_comp ["_law_height"] ["_law_rules_here","_law_keys_here","_law_barrels","_law_other_keys","_law_other_barrels","_law_rows","_law_name_here","_law_aim","_law_begun","_law_here","_law_k","_law_heights"] (by walk_at "compok") rfl (i_seq (x_ix (p_var 7) (p_var 10))) (fun C fp pins s H=>⟨(g_name 0 (show List.Nodup (["_law_height","_law_rules_here","_law_keys_here","_law_barrels","_law_other_keys","_law_other_barrels","_law_rows","_law_name_here","_law_aim","_law_begun","_law_here","_law_k","_law_heights"]:List Str) by decide +kernel)),t_nil,(x_strof hr T.n_str (p_var 0))⟩))) a_nil)))
  (ss_one (s_append 5 (x_add (p_of (x_add (p_of (x_add (p_of (x_add (p_of (x_add (p_of x_str) (p_var 6))) (p_of x_str))) (p_of (x_strof hr T.n_str (p_var 10))))) (p_of x_str))) (p_var 11))))) ss_nil)))) ss_nil)))))))
  (ss_one (s_retV 5)))))
theorem sc__law_cut:FnScope ["_law_rules_here","_law_cell"] ["_law_rules_here","_law_cell"] (defScope s__law_cut):=⟨rfl,rfl,rfl,by decide +kernel,rfl,by decide +kernel,by decide +kernel⟩
theorem ok__law_cut {f:Addr} {fd:FuncData} (F:Fun K "_law_cut" "_law_cut" s__law_cut f fd) (hm:mg "_law_cut"=some (.ref f)) (T:Txt K mg) (F__law_mixed:Fn P w K mg base 1 "_law_mixed" 2 m__law_mixed):Fn P w K mg base 2 "_law_cut" 2 m__law_cut:=
 fn_def (k:=1) F sc__law_cut hm (F.binds (ps:= ["_law_rules_here","_law_cell"]) fun _ _ _ _ _ _=>us2 fun _ _=>rfl) fun cdv A outer s H E hr=>
  (ss_one (s_ret (x_tuple T.n_tuple (p_of (x_new (f_comp ["_law_k"] ["_law_rules_here","_law_cell"] (by walk_at "compok") rfl (i_range1 T.n_range (a_cons (x_ix (p_var 0) (p_of x_int)) a_nil)) (fun C fp pins s H=>⟨(g_name 0 (show List.Nodup (["_law_k","_law_rules_here","_law_cell"]:List Str) by decide +kernel)),t_nil,(x_mod (p_of (x_call (F__law_mixed.mono (by decide)) hr (a_cons (x_var 2) (a_cons (x_add (p_of x_int) (p_var 0)) a_nil)))) (p_of (x_ix (p_var 1) (p_of x_int))))⟩)))))))
theorem sc__law_keys:FnScope ["_law_rules_here","_law_names_here","_law_script","_law_one","_law_other","_law_k","_law_cell","_law_aim","_law_way"] ["_law_rules_here","_law_names_here","_law_script"] (defScope s__law_keys):=⟨rfl,rfl,rfl,by decide +kernel,rfl,by decide +kernel,by decide +kernel⟩
theorem ok__law_keys {f:Addr} {fd:FuncData} (F:Fun K "_law_keys" "_law_keys" s__law_keys f fd) (hm:mg "_law_keys"=some (.ref f)) (T:Txt K mg) (F__law_cell_at:Fn P w K mg base 1 "_law_cell_at" 2 m__law_cell_at) (F__law_cut:Fn P w K mg base 2 "_law_cut" 2 m__law_cut) (F__law_mixed:Fn P w K mg base 1 "_law_mixed" 2 m__law_mixed):Fn P w K mg base 3 "_law_keys" 3 m__law_keys:=
 fn_def (k:=2) F sc__law_keys hm (F.binds (ps:= ["_law_rules_here","_law_names_here","_law_script"]) fun _ _ _ _ _ _=>us3 fun _ _ _=>rfl) fun cdv A outer s H E hr=>
  (ss_cons (s_ownQ 3 sc__law_keys.nd)
  (ss_cons (s_ownQ 4 sc__law_keys.nd)
  (ss_cons (s_for PassesOwn.never rfl (i_range1 T.n_range (a_cons (x_mod (p_of (x_call (F__law_cell_at.mono (by decide)) hr (a_cons (x_var 2) (a_cons x_int a_nil)))) (p_of x_int)) a_nil)) (g_name 5 sc__law_keys.nd) (ss_cons (s_set 6 sc__law_keys.nd (x_call (F__law_mixed.mono (by decide)) hr (a_cons (x_call (F__law_cell_at.mono (by decide)) hr (a_cons (x_var 2) (a_cons (x_add (p_of x_int) (p_var 5)) a_nil))) (a_cons (x_add (p_of x_int) (p_var 5)) a_nil))))
  (ss_cons (s_set 7 sc__law_keys.nd (x_call (F__law_cut.mono (by decide)) hr (a_cons (x_var 0) (a_cons (x_var 6) a_nil))))
  (ss_cons (s_set 8 sc__law_keys.nd (x_mod (p_var 6) (p_of x_int)))
  (ss_cons (s_if (y_cmp c_gt (p_var 8) (p_of x_int)) (ss_one (s_puti 4 (x_var 7) (x_ix (p_var 1) (p_var 5)))) ss_nil)
  (ss_cons (s_if (y_w (w_or (y_cmp (c_eq (hu40 hr)) (p_var 8) (p_of x_int)) (w_or1 (y_cmp (c_eq (hu40 hr)) (p_var 8) (p_of x_int))))) (ss_one (s_puti 3 (x_var 7) (x_ix (p_var 1) (p_var 5)))) ss_nil)
  (ss_cons (s_if (y_cmp (c_eq (hu40 hr)) (p_var 8) (p_of x_int)) (ss_one (s_puti 3 (x_tuple T.n_tuple (p_of (x_new (f_comp ["_law_j"] ["_law_rules_here","_law_names_here","_law_script","_law_one","_law_other","_law_k","_law_cell","_law_aim","_law_way"] (by walk_at "compok") rfl (i_range1 T.n_range (a_cons (x_ix (p_var 0) (p_of x_int)) a_nil)) (fun C fp pins s H=>⟨(g_name 0 (show List.Nodup (["_law_j","_law_rules_here","_law_names_here","_law_script","_law_one","_law_other","_law_k","_law_cell","_law_aim","_law_way"]:List Str) by decide +kernel)),t_nil,(x_mod (p_of (x_call (F__law_mixed.mono (by decide)) hr (a_cons (x_var 7) (a_cons (x_add (p_of x_int) (p_var 0)) a_nil)))) (p_of (x_add (p_of (x_ix (p_var 8) (p_var 0))) (p_of x_int))))⟩))))) (x_ix (p_var 1) (p_var 5)))) ss_nil)
  (ss_one (s_if (y_cmp (c_eq (hu40 hr)) (p_var 8) (p_of x_int)) (ss_one (s_puti 3 (x_call (F__law_cut.mono (by decide)) hr (a_cons (x_var 0) (a_cons (x_call (F__law_mixed.mono (by decide)) hr (a_cons (x_var 6) (a_cons x_int a_nil))) a_nil))) (x_ix (p_var 1) (p_var 5)))) ss_nil)))))))))
  (ss_one (s_frz 4 (s_frz 3 (s_ret (x_tup (a_cons (x_var 3) (a_cons (x_var 4) a_nil))))))))))
theorem sc__law_name:FnScope ["_law_cell","_law_number","_law_word","_law_k"] ["_law_cell"] (defScope s__law_name):=⟨rfl,rfl,rfl,by decide +kernel,rfl,by decide +kernel,by decide +kernel⟩
theorem ok__law_name {f:Addr} {fd:FuncData} (F:Fun K "_law_name" "_law_name" s__law_name f fd) (hm:mg "_law_name"=some (.ref f)) (T:Txt K mg)  :Fn P w K mg base 1 "_law_name" 1 m__law_name:=
 fn_def (k:=0) F sc__law_name hm (F.binds (ps:= ["_law_cell"]) fun _ _ _ _ _ _=>us1 fun _=>rfl) fun cdv A outer s H E hr=>
  (ss_cons (s_set 1 sc__law_name.nd (x_mod (p_of (x_fdiv (p_var 0) (p_of x_int))) (p_of (x_pow (p_of x_int) (p_of x_int)))))
  (ss_cons (s_set 2 sc__law_name.nd x_str)
  (ss_cons (s_for PassesOwn.never rfl (i_range1 T.n_range (a_cons (x_add (p_of x_int) (p_of (x_mod (p_var 0) (p_of x_int)))) a_nil)) (g_name 3 sc__law_name.nd) (ss_cons (s_set 2 sc__law_name.nd (x_add (p_var 2) (p_of (x_ix (p_of x_str) (p_of (x_mod (p_var 1) (p_of x_int)))))))
  (ss_one (s_set 1 sc__law_name.nd (x_fdiv (p_var 1) (p_of x_int))))))
  (ss_one (s_ret (x_var 2))))))
theorem sc__law_open:FnScope ["_law_word"] ["_law_word"] (defScope s__law_open):=⟨rfl,rfl,rfl,by decide +kernel,rfl,by decide +kernel,by decide +kernel⟩
theorem ok__law_open {f:Addr} {fd:FuncData} (F:Fun K "_law_open" "_law_open" s__law_open f fd) (hm:mg "_law_open"=some (.ref f)) (T:Txt K mg)  :Fn P w K mg base 1 "_law_open" 1 m__law_open:=
 fn_def (k:=0) F sc__law_open hm (F.binds (ps:= ["_law_word"]) fun _ _ _ _ _ _=>us1 fun _=>rfl) fun cdv A outer s H E hr=>
  (ss_cons (s_if (y_in (p_var 0) (p_of (x_new (f_lst (a_cons x_str (a_cons x_str (a_cons x_str (a_cons x_str (a_cons x_str a_nil))))))))) (ss_one (s_ret (x_add (p_var 0) (p_of x_str)))) ss_nil)
  (ss_one (s_ret (x_var 0))))
theorem sc__law_names:FnScope ["_law_cell","_law_many","_law_word","_law_place","_law_some","_law_names_here","_law_k","_law_inner"] ["_law_cell","_law_many"] (defScope s__law_names):=⟨rfl,rfl,rfl,by decide +kernel,rfl,by decide +kernel,by decide +kernel⟩
theorem ok__law_names {f:Addr} {fd:FuncData} (F:Fun K "_law_names" "_law_names" s__law_names f fd) (hm:mg "_law_names"=some (.ref f)) (T:Txt K mg) (F__law_name:Fn P w K mg base 1 "_law_name" 1 m__law_name) (F__law_open:Fn P w K mg base 1 "_law_open" 1 m__law_open):Fn P w K mg base 2 "_law_names" 2 m__law_names:=
 fn_def (k:=1) F sc__law_names hm (F.binds (ps:= ["_law_cell","_law_many"]) fun _ _ _ _ _ _=>us2 fun _ _=>rfl) fun cdv A outer s H E hr=>
  (ss_cons (s_set 2 sc__law_names.nd (x_call (F__law_name.mono (by decide)) hr (a_cons (x_var 0) a_nil)))
  (ss_cons (s_set 3 sc__law_names.nd (x_mod (p_of (x_fdiv (p_var 0) (p_of x_int))) (p_of (x_add (p_of (x_len T.n_len (p_var 2))) (p_of x_int)))))
  (ss_cons (s_set 4 sc__law_names.nd (x_ix (p_of (x_new (f_lst (a_cons x_str (a_cons x_str (a_cons x_str a_nil)))))) (p_of (x_mod (p_of (x_fdiv (p_var 0) (p_of x_int))) (p_of x_int)))))
  (ss_cons (s_own 5 sc__law_names.nd (f_lst a_nil))
  (ss_cons (s_for PassesOwn.never rfl (i_range1 T.n_range (a_cons (x_var 1) a_nil)) (g_name 6 sc__law_names.nd) (ss_cons (s_set 7 sc__law_names.nd (x_add (p_of (x_ix (p_var 4) (p_of (x_mod (p_var 6) (p_of x_int))))) (p_of (x_ix (p_var 4) (p_of (x_mod (p_of (x_fdiv (p_var 6) (p_of x_int))) (p_of x_int)))))))
  (ss_one (s_append 5 (x_call (F__law_open.mono (by decide)) hr (a_cons (x_add (p_of (x_add (p_of (x_slS (p_var 2) o_none (o_some (x_var 3)))) (p_var 7))) (p_of (x_slS (p_var 2) (o_some (x_var 3)) o_none))) a_nil))))))
  (ss_one (s_retV 5)))))))
theorem sc__law_rules:FnScope ["_law_cell","_law_depths","_law_step"] ["_law_cell"] (defScope s__law_rules):=⟨rfl,rfl,rfl,by decide +kernel,rfl,by decide +kernel,by decide +kernel⟩
theorem ok__law_rules {f:Addr} {fd:FuncData} (F:Fun K "_law_rules" "_law_rules" s__law_rules f fd) (hm:mg "_law_rules"=some (.ref f)) (T:Txt K mg) (F__law_mixed:Fn P w K mg base 1 "_law_mixed" 2 m__law_mixed):Fn P w K mg base 2 "_law_rules" 1 m__law_rules:=
 fn_def (k:=1) F sc__law_rules hm (F.binds (ps:= ["_law_cell"]) fun _ _ _ _ _ _=>us1 fun _=>rfl) fun cdv A outer s H E hr=>
  (ss_cons (s_set 1 sc__law_rules.nd (x_add (p_of x_int) (p_of (x_mod (p_of (x_call (F__law_mixed.mono (by decide)) hr (a_cons (x_var 0) (a_cons x_int a_nil)))) (p_of x_int)))))
  (ss_cons (s_set 2 sc__law_rules.nd (x_add (p_of x_int) (p_of (x_mod (p_of (x_call (F__law_mixed.mono (by decide)) hr (a_cons (x_var 0) (a_cons x_int a_nil)))) (p_of (x_sub (p_var 1) (p_of x_int)))))))
  (ss_one (s_ret (x_tup (a_cons (x_add (p_of x_int) (p_of (x_mod (p_var 0) (p_of x_int)))) (a_cons (x_var 1) (a_cons (x_add (p_of x_int) (p_of (x_mod (p_of (x_call (F__law_mixed.mono (by decide)) hr (a_cons (x_var 0) (a_cons x_int a_nil)))) (p_var 1)))) (a_cons (x_var 2) a_nil)))))))))
theorem sc__law_turned:FnScope ["_law_things","_law_cell","_law_found","_law_names_here","_law_name_here"] ["_law_things","_law_cell"] (defScope s__law_turned):=⟨rfl,rfl,rfl,by decide +kernel,rfl,by decide +kernel,by decide +kernel⟩
theorem ok__law_turned {f:Addr} {fd:FuncData} (F:Fun K "_law_turned" "_law_turned" s__law_turned f fd) (hm:mg "_law_turned"=some (.ref f)) (T:Txt K mg)  :Fn P w K mg base 1 "_law_turned" 2 m__law_turned:=
 fn_def (k:=0) F sc__law_turned hm (F.binds (ps:= ["_law_things","_law_cell"]) fun _ _ _ _ _ _=>us2 fun _ _=>rfl) fun cdv A outer s H E hr=>
  (ss_cons (s_ownQ 2 sc__law_turned.nd)
  (ss_cons (s_set 3 sc__law_turned.nd (x_new (f_listK rfl T.n_list (x_var 0))))
  (ss_cons (s_if (y_cmp (c_eq (hu40 hr)) (p_of (x_mod (p_var 1) (p_of x_int))) (p_of x_int)) (ss_one (s_set 3 sc__law_turned.nd (x_new (f_slP (p_var 3) o_none (o_some (x_neg (p_of x_int))))))) ss_nil)
  (ss_cons (s_for PassesOwn.never rfl (i_seq (x_var 3)) (g_name 4 sc__law_turned.nd) (ss_one (s_puti 2 (x_dget (q_var 0) (p_var 4)) (x_var 4))))
  (ss_one (s_frz 2 (s_retV 2)))))))
theorem sc_Blank_shown:FnScope ["self"] ["self"] (defScope s_Blank_shown):=⟨rfl,rfl,rfl,by decide +kernel,rfl,by decide +kernel,by decide +kernel⟩
theorem ok_Blank_shown {f C:Addr} {fd:FuncData} (F:Fun K "shown" "Blank.shown" s_Blank_shown f fd) (hc:PySem.W.nsIn K mainGlobals "Blank"=some (some (.ref C))) (cl:Cls K C) (hm:Meth K C "shown" f) (T:Txt K mg)  :MtK P w K mg base 1 "Blank" "shown" 1 m_Blank_shown:=
 fn_meth (k:=0) F sc_Blank_shown hc cl hm (F.binds (ps:= ["self"]) fun _ _ _ _ _ _=>us1 fun _=>rfl) fun cdv A outer s H E hr=>
  (ss_one (s_ret (x_add (p_of x_str) (p_of (x_fld T.o_Blank_key (x_var 0))))))
theorem sc_Bolt_shown:FnScope ["self"] ["self"] (defScope s_Bolt_shown):=⟨rfl,rfl,rfl,by decide +kernel,rfl,by decide +kernel,by decide +kernel⟩
theorem ok_Bolt_shown {f C:Addr} {fd:FuncData} (F:Fun K "shown" "Bolt.shown" s_Bolt_shown f fd) (hc:PySem.W.nsIn K mainGlobals "Bolt"=some (some (.ref C))) (cl:Cls K C) (hm:Meth K C "shown" f) (T:Txt K mg)  :MtK P w K mg base 1 "Bolt" "shown" 1 m_Bolt_shown:=
 fn_meth (k:=0) F sc_Bolt_shown hc cl hm (F.binds (ps:= ["self"]) fun _ _ _ _ _ _=>us1 fun _=>rfl) fun cdv A outer s H E hr=>
  (ss_one (s_ret (x_add (p_of x_str) (p_of (x_fld T.o_Bolt_door (x_var 0))))))
theorem sc_File_shown:FnScope ["self"] ["self"] (defScope s_File_shown):=⟨rfl,rfl,rfl,by decide +kernel,rfl,by decide +kernel,by decide +kernel⟩
theorem ok_File_shown {f C:Addr} {fd:FuncData} (F:Fun K "shown" "File.shown" s_File_shown f fd) (hc:PySem.W.nsIn K mainGlobals "File"=some (some (.ref C))) (cl:Cls K C) (hm:Meth K C "shown" f) (T:Txt K mg)  :MtK P w K mg base 1 "File" "shown" 1 m_File_shown:=
 fn_meth (k:=0) F sc_File_shown hc cl hm (F.binds (ps:= ["self"]) fun _ _ _ _ _ _=>us1 fun _=>rfl) fun cdv A outer s H E hr=>
  (ss_one (s_ret (x_join x_str (a_cons (x_new (f_lst (a_cons x_str (a_cons (x_fld T.o_File_key (x_var 0)) (a_cons (x_strof hr T.n_str (p_of (x_fld T.o_File_place (x_var 0)))) (a_cons (x_strof hr T.n_str (p_of (x_fld T.o_File_depth (x_var 0)))) a_nil)))))) a_nil))))
theorem sc_Open_shown:FnScope ["self"] ["self"] (defScope s_Open_shown):=⟨rfl,rfl,rfl,by decide +kernel,rfl,by decide +kernel,by decide +kernel⟩
theorem ok_Open_shown {f C:Addr} {fd:FuncData} (F:Fun K "shown" "Open.shown" s_Open_shown f fd) (hc:PySem.W.nsIn K mainGlobals "Open"=some (some (.ref C))) (cl:Cls K C) (hm:Meth K C "shown" f) (T:Txt K mg)  :MtK P w K mg base 1 "Open" "shown" 1 m_Open_shown:=
 fn_meth (k:=0) F sc_Open_shown hc cl hm (F.binds (ps:= ["self"]) fun _ _ _ _ _ _=>us1 fun _=>rfl) fun cdv A outer s H E hr=>
  (ss_one (s_ret (x_add (p_of x_str) (p_of (x_fld T.o_Open_door (x_var 0))))))
theorem sc_shown_pin:FnScope ["pin"] ["pin"] (defScope s_shown_pin):=⟨rfl,rfl,rfl,by decide +kernel,rfl,by decide +kernel,by decide +kernel⟩
theorem ok_shown_pin {f:Addr} {fd:FuncData} (F:Fun K "shown_pin" "shown_pin" s_shown_pin f fd) (hm:mg "shown_pin"=some (.ref f)) (T:Txt K mg)  :Fn P w K mg base 1 "shown_pin" 1 m_shown_pin:=
 fn_def (k:=0) F sc_shown_pin hm (F.binds (ps:= ["pin"]) fun _ _ _ _ _ _=>us1 fun _=>rfl) fun cdv A outer s H E hr=>
  (ss_one (s_ret (x_join x_str (a_cons (x_new (f_comp ["height"] ["pin"] (by walk_at "compok") rfl (i_seq (x_var 0)) (fun C fp pins s H=>⟨(g_name 0 (show List.Nodup (["height","pin"]:List Str) by decide +kernel)),t_nil,(x_strof hr T.n_str (p_var 0))⟩))) a_nil))))
theorem sc_Pin_shown:FnScope ["self"] ["self"] (defScope s_Pin_shown):=⟨rfl,rfl,rfl,by decide +kernel,rfl,by decide +kernel,by decide +kernel⟩
theorem ok_Pin_shown {f C:Addr} {fd:FuncData} (F:Fun K "shown" "Pin.shown" s_Pin_shown f fd) (hc:PySem.W.nsIn K mainGlobals "Pin"=some (some (.ref C))) (cl:Cls K C) (hm:Meth K C "shown" f) (T:Txt K mg) (F_shown_pin:Fn P w K mg base 1 "shown_pin" 1 m_shown_pin):MtK P w K mg base 2 "Pin" "shown" 1 m_Pin_shown:=
 fn_meth (k:=1) F sc_Pin_shown hc cl hm (F.binds (ps:= ["self"]) fun _ _ _ _ _ _=>us1 fun _=>rfl) fun cdv A outer s H E hr=>
  (ss_one (s_ret (x_join x_str (a_cons (x_new (f_lst (a_cons x_str (a_cons (x_fld T.o_Pin_door (x_var 0)) (a_cons (x_strof hr T.n_str (p_of (x_fld T.o_Pin_place (x_var 0)))) (a_cons (x_call (F_shown_pin.mono (by decide)) hr (a_cons (x_fld T.o_Pin_heights (x_var 0)) a_nil)) a_nil)))))) a_nil))))
theorem sc_Bolt:FnScope ["self","door"] ["self","door"] (defScope s_Bolt):=⟨rfl,rfl,rfl,by decide +kernel,rfl,by decide +kernel,by decide +kernel⟩
theorem ok_Bolt {f C:Addr} {fd:FuncData} (F:Fun K "__init__" "Bolt.__init__" s_Bolt f fd) (M:Mk K C f) (hm:mg "Bolt"=some (.ref C)) (hc:PySem.W.nsIn K mainGlobals "Bolt"=some (some (.ref C))) (cl:Cls K C) (na_door:NoAttr K C "door") (T:Txt K mg)  :FnI P w K mg base 2 "Bolt" 1 1 fs_Bolt:=
 fn_init (k:=0) F sc_Bolt M hm hc (F.binds (ps:= ["self","door"]) fun _ _ _ _ _ _=>us2 fun _ _=>rfl) fun cdv A outer s H E hr=>
  (in_cons cl na_door (x_var 1)
  in_nil)
theorem sc_Open:FnScope ["self","door"] ["self","door"] (defScope s_Open):=⟨rfl,rfl,rfl,by decide +kernel,rfl,by decide +kernel,by decide +kernel⟩
theorem ok_Open {f C:Addr} {fd:FuncData} (F:Fun K "__init__" "Open.__init__" s_Open f fd) (M:Mk K C f) (hm:mg "Open"=some (.ref C)) (hc:PySem.W.nsIn K mainGlobals "Open"=some (some (.ref C))) (cl:Cls K C) (na_door:NoAttr K C "door") (T:Txt K mg)  :FnI P w K mg base 2 "Open" 1 1 fs_Open:=
 fn_init (k:=0) F sc_Open M hm hc (F.binds (ps:= ["self","door"]) fun _ _ _ _ _ _=>us2 fun _ _=>rfl) fun cdv A outer s H E hr=>
  (in_cons cl na_door (x_var 1)
  in_nil)
theorem sc_places_of:FnScope ["rules"] ["rules"] (defScope s_places_of):=⟨rfl,rfl,rfl,by decide +kernel,rfl,by decide +kernel,by decide +kernel⟩
theorem ok_places_of {f:Addr} {fd:FuncData} (F:Fun K "places_of" "places_of" s_places_of f fd) (hm:mg "places_of"=some (.ref f)) (T:Txt K mg)  :Fn P w K mg base 1 "places_of" 1 m_places_of:=
 fn_def (k:=0) F sc_places_of hm (F.binds (ps:= ["rules"]) fun _ _ _ _ _ _=>us1 fun _=>rfl) fun cdv A outer s H E hr=>
  (ss_one (s_ret (x_ix (p_var 0) (p_of x_int))))
theorem sc_flat_barrel:FnScope ["rules"] ["rules"] (defScope s_flat_barrel):=⟨rfl,rfl,rfl,by decide +kernel,rfl,by decide +kernel,by decide +kernel⟩
theorem ok_flat_barrel {f:Addr} {fd:FuncData} (F:Fun K "flat_barrel" "flat_barrel" s_flat_barrel f fd) (hm:mg "flat_barrel"=some (.ref f)) (T:Txt K mg) (F_places_of:Fn P w K mg base 1 "places_of" 1 m_places_of):Fn P w K mg base 2 "flat_barrel" 1 m_flat_barrel:=
 fn_def (k:=1) F sc_flat_barrel hm (F.binds (ps:= ["rules"]) fun _ _ _ _ _ _=>us1 fun _=>rfl) fun cdv A outer s H E hr=>
  (ss_one (s_ret (x_mulE (p_of (x_tup (a_cons (x_tup (a_cons x_int a_nil)) a_nil))) (p_of (x_call (F_places_of.mono (by decide)) hr (a_cons (x_var 0) a_nil))))))
theorem sc_Pin:FnScope ["self","door","place","heights"] ["self","door","place","heights"] (defScope s_Pin):=⟨rfl,rfl,rfl,by decide +kernel,rfl,by decide +kernel,by decide +kernel⟩
theorem ok_Pin {f C:Addr} {fd:FuncData} (F:Fun K "__init__" "Pin.__init__" s_Pin f fd) (M:Mk K C f) (hm:mg "Pin"=some (.ref C)) (hc:PySem.W.nsIn K mainGlobals "Pin"=some (some (.ref C))) (cl:Cls K C) (na_door:NoAttr K C "door") (na_place:NoAttr K C "place") (na_heights:NoAttr K C "heights") (T:Txt K mg)  :FnI P w K mg base 2 "Pin" 3 3 fs_Pin:=
 fn_init (k:=0) F sc_Pin M hm hc (F.binds (ps:= ["self","door","place","heights"]) fun _ _ _ _ _ _=>us4 fun _ _ _ _=>rfl) fun cdv A outer s H E hr=>
  (in_cons cl na_door (x_var 1)
  (in_cons cl na_place (x_var 2)
  (in_cons cl na_heights (x_var 3)
  in_nil)))
theorem sc_pin_deeds:FnScope ["name","barrel","goal"] ["name","barrel","goal"] (defScope s_pin_deeds):=⟨rfl,rfl,rfl,by decide +kernel,rfl,by decide +kernel,by decide +kernel⟩
theorem ok_pin_deeds {f:Addr} {fd:FuncData} (F:Fun K "pin_deeds" "pin_deeds" s_pin_deeds f fd) (hm:mg "pin_deeds"=some (.ref f)) (T:Txt K mg) (F_Pin:FnI P w K mg base 2 "Pin" 3 3 fs_Pin):Fn P w K mg base 3 "pin_deeds" 3 m_pin_deeds:=
 fn_def (k:=2) F sc_pin_deeds hm (F.binds (ps:= ["name","barrel","goal"]) fun _ _ _ _ _ _=>us3 fun _ _ _=>rfl) fun cdv A outer s H E hr=>
  (ss_one (s_ret (x_new (f_comp ["place","heights"] ["name","barrel","goal"] (by walk_at "compok") rfl (i_enum T.n_enumerate (a_cons (x_var 2) a_nil)) (fun C fp pins s H=>⟨(g_tup rfl (g_cons (g_name 0 (show List.Nodup (["place","heights","name","barrel","goal"]:List Str) by decide +kernel)) (g_cons (g_name 1 (show List.Nodup (["place","heights","name","barrel","goal"]:List Str) by decide +kernel)) g_nil))),(t_one (y_cmp (c_ne (hu40 hr)) (p_of (x_ix (p_var 3) (p_var 0))) (p_var 1))),(x_make (F_Pin.mono (by decide)) hr (a_cons (x_var 2) (a_cons (x_var 0) (a_cons (x_var 1) a_nil))))⟩)))))
theorem sc_door_deeds:FnScope ["rules","name","barrel","goal"] ["rules","name","barrel","goal"] (defScope s_door_deeds):=⟨rfl,rfl,rfl,by decide +kernel,rfl,by decide +kernel,by decide +kernel⟩
theorem ok_door_deeds {f:Addr} {fd:FuncData} (F:Fun K "door_deeds" "door_deeds" s_door_deeds f fd) (hm:mg "door_deeds"=some (.ref f)) (T:Txt K mg) (F_Bolt:FnI P w K mg base 2 "Bolt" 1 1 fs_Bolt) (F_Open:FnI P w K mg base 2 "Open" 1 1 fs_Open) (F_flat_barrel:Fn P w K mg base 2 "flat_barrel" 1 m_flat_barrel) (F_pin_deeds:Fn P w K mg base 3 "pin_deeds" 3 m_pin_deeds):Fn P w K mg base 4 "door_deeds" 4 m_door_deeds:=
 fn_def (k:=3) F sc_door_deeds hm (F.binds (ps:= ["rules","name","barrel","goal"]) fun _ _ _ _ _ _=>us4 fun _ _ _ _=>rfl) fun cdv A outer s H E hr=>
  (ss_cons (s_if (y_isN (p_var 3)) (ss_one (s_ret (x_if (y_isN (p_var 2)) (x_new (f_lst a_nil)) (x_new (f_lst (a_cons (x_make (F_Bolt.mono (by decide)) hr (a_cons (x_var 1) a_nil)) a_nil)))))) ss_nil)
  (ss_cons (s_if (y_isN (p_var 2)) (ss_one (s_ret (x_new (f_cat (p_of (x_new (f_lst (a_cons (x_make (F_Open.mono (by decide)) hr (a_cons (x_var 1) a_nil)) a_nil)))) (p_of (x_call (F_pin_deeds.mono (by decide)) hr (a_cons (x_var 1) (a_cons (x_call (F_flat_barrel.mono (by decide)) hr (a_cons (x_var 0) a_nil)) (a_cons (x_var 3) a_nil))))))))) ss_nil)
  (ss_one (s_ret (x_call (F_pin_deeds.mono (by decide)) hr (a_cons (x_var 1) (a_cons (x_var 2) (a_cons (x_var 3) a_nil))))))))
theorem sc_Blank:FnScope ["self","key"] ["self","key"] (defScope s_Blank):=⟨rfl,rfl,rfl,by decide +kernel,rfl,by decide +kernel,by decide +kernel⟩
theorem ok_Blank {f C:Addr} {fd:FuncData} (F:Fun K "__init__" "Blank.__init__" s_Blank f fd) (M:Mk K C f) (hm:mg "Blank"=some (.ref C)) (hc:PySem.W.nsIn K mainGlobals "Blank"=some (some (.ref C))) (cl:Cls K C) (na_key:NoAttr K C "key") (T:Txt K mg)  :FnI P w K mg base 2 "Blank" 1 1 fs_Blank:=
 fn_init (k:=0) F sc_Blank M hm hc (F.binds (ps:= ["self","key"]) fun _ _ _ _ _ _=>us2 fun _ _=>rfl) fun cdv A outer s H E hr=>
  (in_cons cl na_key (x_var 1)
  in_nil)
theorem sc_can_file:FnScope ["one","other"] ["one","other"] (defScope s_can_file):=⟨rfl,rfl,rfl,by decide +kernel,rfl,by decide +kernel,by decide +kernel⟩
theorem ok_can_file {f:Addr} {fd:FuncData} (F:Fun K "can_file" "can_file" s_can_file f fd) (hm:mg "can_file"=some (.ref f)) (T:Txt K mg)  :Fn P w K mg base 1 "can_file" 2 m_can_file:=
 fn_def (k:=0) F sc_can_file hm (F.binds (ps:= ["one","other"]) fun _ _ _ _ _ _=>us2 fun _ _=>rfl) fun cdv A outer s H E hr=>
  (ss_one (s_ret (x_all rfl T.n_all (p_of (x_new (f_comp ["cut","goal"] ["one","other"] (by walk_at "compok") rfl (i_zip T.n_zip (a_cons (x_var 0) (a_cons (x_var 1) a_nil))) (fun C fp pins s H=>⟨(g_tup rfl (g_cons (g_name 0 (show List.Nodup (["cut","goal","one","other"]:List Str) by decide +kernel)) (g_cons (g_name 1 (show List.Nodup (["cut","goal","one","other"]:List Str) by decide +kernel)) g_nil))),t_nil,(x_cmp c_ge (p_var 1) (p_var 0))⟩)))))))
theorem sc_File:FnScope ["self","key","place","depth"] ["self","key","place","depth"] (defScope s_File):=⟨rfl,rfl,rfl,by decide +kernel,rfl,by decide +kernel,by decide +kernel⟩
theorem ok_File {f C:Addr} {fd:FuncData} (F:Fun K "__init__" "File.__init__" s_File f fd) (M:Mk K C f) (hm:mg "File"=some (.ref C)) (hc:PySem.W.nsIn K mainGlobals "File"=some (some (.ref C))) (cl:Cls K C) (na_key:NoAttr K C "key") (na_place:NoAttr K C "place") (na_depth:NoAttr K C "depth") (T:Txt K mg)  :FnI P w K mg base 2 "File" 3 3 fs_File:=
 fn_init (k:=0) F sc_File M hm hc (F.binds (ps:= ["self","key","place","depth"]) fun _ _ _ _ _ _=>us4 fun _ _ _ _=>rfl) fun cdv A outer s H E hr=>
  (in_cons cl na_key (x_var 1)
  (in_cons cl na_place (x_var 2)
  (in_cons cl na_depth (x_var 3)
  in_nil)))
theorem sc_file_deeds:FnScope ["name","cuts","goal"] ["name","cuts","goal"] (defScope s_file_deeds):=⟨rfl,rfl,rfl,by decide +kernel,rfl,by decide +kernel,by decide +kernel⟩
theorem ok_file_deeds {f:Addr} {fd:FuncData} (F:Fun K "file_deeds" "file_deeds" s_file_deeds f fd) (hm:mg "file_deeds"=some (.ref f)) (T:Txt K mg) (F_File:FnI P w K mg base 2 "File" 3 3 fs_File):Fn P w K mg base 3 "file_deeds" 3 m_file_deeds:=
 fn_def (k:=2) F sc_file_deeds hm (F.binds (ps:= ["name","cuts","goal"]) fun _ _ _ _ _ _=>us3 fun _ _ _=>rfl) fun cdv A outer s H E hr=>
  (ss_one (s_ret (x_new (f_comp ["place","depth"] ["name","cuts","goal"] (by walk_at "compok") rfl (i_enum T.n_enumerate (a_cons (x_var 2) a_nil)) (fun C fp pins s H=>⟨(g_tup rfl (g_cons (g_name 0 (show List.Nodup (["place","depth","name","cuts","goal"]:List Str) by decide +kernel)) (g_cons (g_name 1 (show List.Nodup (["place","depth","name","cuts","goal"]:List Str) by decide +kernel)) g_nil))),(t_one (y_cmp c_lt (p_of (x_ix (p_var 3) (p_var 0))) (p_var 1))),(x_make (F_File.mono (by decide)) hr (a_cons (x_var 2) (a_cons (x_var 0) (a_cons (x_var 1) a_nil))))⟩)))))
theorem sc_first_cuts:FnScope ["rules"] ["rules"] (defScope s_first_cuts):=⟨rfl,rfl,rfl,by decide +kernel,rfl,by decide +kernel,by decide +kernel⟩
theorem ok_first_cuts {f:Addr} {fd:FuncData} (F:Fun K "first_cuts" "first_cuts" s_first_cuts f fd) (hm:mg "first_cuts"=some (.ref f)) (T:Txt K mg) (F_places_of:Fn P w K mg base 1 "places_of" 1 m_places_of):Fn P w K mg base 2 "first_cuts" 1 m_first_cuts:=
 fn_def (k:=1) F sc_first_cuts hm (F.binds (ps:= ["rules"]) fun _ _ _ _ _ _=>us1 fun _=>rfl) fun cdv A outer s H E hr=>
  (ss_one (s_ret (x_mulE (p_of (x_tup (a_cons x_int a_nil))) (p_of (x_call (F_places_of.mono (by decide)) hr (a_cons (x_var 0) a_nil))))))
theorem sc_key_deeds:FnScope ["rules","name","cuts","goal"] ["rules","name","cuts","goal"] (defScope s_key_deeds):=⟨rfl,rfl,rfl,by decide +kernel,rfl,by decide +kernel,by decide +kernel⟩
theorem ok_key_deeds {f:Addr} {fd:FuncData} (F:Fun K "key_deeds" "key_deeds" s_key_deeds f fd) (hm:mg "key_deeds"=some (.ref f)) (T:Txt K mg) (F_Blank:FnI P w K mg base 2 "Blank" 1 1 fs_Blank) (F_can_file:Fn P w K mg base 1 "can_file" 2 m_can_file) (F_file_deeds:Fn P w K mg base 3 "file_deeds" 3 m_file_deeds) (F_first_cuts:Fn P w K mg base 2 "first_cuts" 1 m_first_cuts):Fn P w K mg base 4 "key_deeds" 4 m_key_deeds:=
 fn_def (k:=3) F sc_key_deeds hm (F.binds (ps:= ["rules","name","cuts","goal"]) fun _ _ _ _ _ _=>us4 fun _ _ _ _=>rfl) fun cdv A outer s H E hr=>
  (ss_cons (s_if (y_w (w_or (y_isN (p_var 2)) (w_or1 (y_not (y_val (x_call (F_can_file.mono (by decide)) hr (a_cons (x_var 2) (a_cons (x_var 3) a_nil)))))))) (ss_one (s_ret (x_new (f_cat (p_of (x_new (f_lst (a_cons (x_make (F_Blank.mono (by decide)) hr (a_cons (x_var 1) a_nil)) a_nil)))) (p_of (x_call (F_file_deeds.mono (by decide)) hr (a_cons (x_var 1) (a_cons (x_call (F_first_cuts.mono (by decide)) hr (a_cons (x_var 0) a_nil)) (a_cons (x_var 3) a_nil))))))))) ss_nil)
  (ss_one (s_ret (x_call (F_file_deeds.mono (by decide)) hr (a_cons (x_var 1) (a_cons (x_var 2) (a_cons (x_var 3) a_nil)))))))
theorem sc_rows_to:FnScope ["rules","keys","barrels","other_keys","other_barrels","deeds","name"] ["rules","keys","barrels","other_keys","other_barrels"] (defScope s_rows_to):=⟨rfl,rfl,rfl,by decide +kernel,rfl,by decide +kernel,by decide +kernel⟩
theorem ok_rows_to {f:Addr} {fd:FuncData} (F:Fun K "rows_to" "rows_to" s_rows_to f fd) (hm:mg "rows_to"=some (.ref f)) (T:Txt K mg) (F_Blank_shown:MtK P w K mg base 1 "Blank" "shown" 1 m_Blank_shown) (F_Bolt_shown:MtK P w K mg base 1 "Bolt" "shown" 1 m_Bolt_shown) (F_File_shown:MtK P w K mg base 1 "File" "shown" 1 m_File_shown) (F_Open_shown:MtK P w K mg base 1 "Open" "shown" 1 m_Open_shown) (F_Pin_shown:MtK P w K mg base 2 "Pin" "shown" 1 m_Pin_shown) (F_door_deeds:Fn P w K mg base 4 "door_deeds" 4 m_door_deeds) (F_key_deeds:Fn P w K mg base 4 "key_deeds" 4 m_key_deeds):FnO P w K mg base 5 "rows_to" 5 m_rows_to:=
 fn_defO (k:=4) F sc_rows_to hm (F.binds (ps:= ["rules","keys","barrels","other_keys","other_barrels"]) fun _ _ _ _ _ _=>us5 fun _ _ _ _ _=>rfl) fun cdv A outer s H E hr=>
  (so_cons (s_own 5 sc_rows_to.nd (f_lst a_nil)) NoL.own
  (so_cons (s_for PassesOwn.never rfl (i_seq (x_new (f_sortK rfl T.n_sorted (x_var 3)))) (g_name 6 sc_rows_to.nd) (ss_one (s_extD 5 (x_call (F_key_deeds.mono (by decide)) hr (a_cons (x_var 0) (a_cons (x_var 6) (a_cons (x_get1 (q_var 1) (a_cons (x_var 6) a_nil)) (a_cons (x_dget (q_var 3) (p_var 6)) a_nil)))))))) (NoL.for_ NoR.extD.l)
  (so_cons (s_for PassesOwn.never rfl (i_seq (x_new (f_sortK rfl T.n_sorted (x_var 4)))) (g_name 6 sc_rows_to.nd) (ss_one (s_extD 5 (x_call (F_door_deeds.mono (by decide)) hr (a_cons (x_var 0) (a_cons (x_var 6) (a_cons (x_dget (q_var 2) (p_var 6)) (a_cons (x_dget (q_var 4) (p_var 6)) a_nil)))))))) (NoL.for_ NoR.extD.l)
  (so_frzL 5 (so_retF (f_comp ["deed"] ["rules","keys","barrels","other_keys","other_barrels","deeds","name"] (by walk_at "compok") rfl (i_seq (x_var 5)) (fun C fp pins s H=>⟨(g_name 0 (show List.Nodup (["deed","rules","keys","barrels","other_keys","other_barrels","deeds","name"]:List Str) by decide +kernel)),t_nil,(x_meth0 (mts_cons (F_Blank_shown.mono (by decide)) (mts_cons (F_File_shown.mono (by decide)) (mts_cons (F_Pin_shown.mono (by decide)) (mts_cons (F_Bolt_shown.mono (by decide)) (mts_cons (F_Open_shown.mono (by decide)) mts_nil))))) hr (x_var 0))⟩)))))))
theorem sc_law:FnScope ["_law_script","_law_cell","_law_rules_here","_law_names_here","_law_one","_law_other","_law_doors_here","_law_others","_law_due_here","_law_handed","_law_found","_law_row"] ["_law_script"] (defScope s_law):=⟨rfl,rfl,rfl,by decide +kernel,rfl,by decide +kernel,by decide +kernel⟩
theorem ok_law {f:Addr} {fd:FuncData} (F:Fun K "law" "law" s_law f fd) (T:Txt K mg) (F__law_cell_at:Fn P w K mg base 1 "_law_cell_at" 2 m__law_cell_at) (F__law_doors:Fn P w K mg base 4 "_law_doors" 3 m__law_doors) (F__law_due:Fn P w K mg base 1 "_law_due" 5 m__law_due) (F__law_keys:Fn P w K mg base 3 "_law_keys" 3 m__law_keys) (F__law_mixed:Fn P w K mg base 1 "_law_mixed" 2 m__law_mixed) (F__law_names:Fn P w K mg base 2 "_law_names" 2 m__law_names) (F__law_rules:Fn P w K mg base 2 "_law_rules" 1 m__law_rules) (F__law_turned:Fn P w K mg base 1 "_law_turned" 2 m__law_turned) (F_rows_to:FnO P w K mg base 5 "rows_to" 5 m_rows_to):FnOk P w K mg base CX0 6 f fd ["_law_script"] (spD K 1 m_law):=
 fn_law (k:=5) F sc_law fun cdv A outer s H E hr=>
  (ss_cons (s_set 1 sc_law.nd (x_call (F__law_cell_at.mono (by decide)) hr (a_cons (x_var 0) (a_cons x_int a_nil))))
  (ss_cons (s_set 2 sc_law.nd (x_call (F__law_rules.mono (by decide)) hr (a_cons (x_var 1) a_nil)))
  (ss_cons (s_set 3 sc_law.nd (x_call (F__law_names.mono (by decide)) hr (a_cons (x_call (F__law_mixed.mono (by decide)) hr (a_cons (x_var 1) (a_cons x_int a_nil))) (a_cons x_int a_nil))))
  (ss_cons (s_asg (x_call (F__law_keys.mono (by decide)) hr (a_cons (x_var 2) (a_cons (x_var 3) (a_cons (x_var 0) a_nil)))) (g_tup rfl (g_cons (g_name 4 sc_law.nd) (g_cons (g_name 5 sc_law.nd) g_nil))))
  (ss_cons (s_asg (x_call (F__law_doors.mono (by decide)) hr (a_cons (x_var 2) (a_cons (x_new (f_slL (p_var 3) (o_some x_int) o_none)) (a_cons (x_var 0) a_nil)))) (g_tup rfl (g_cons (g_name 6 sc_law.nd) (g_cons (g_name 7 sc_law.nd) g_nil))))
  (ss_cons (s_set 8 sc_law.nd (x_call (F__law_due.mono (by decide)) hr (a_cons (x_var 2) (a_cons (x_var 4) (a_cons (x_var 6) (a_cons (x_var 5) (a_cons (x_var 7) a_nil)))))))
  (ss_cons (s_own 9 sc_law.nd (f_lst (a_cons (x_call (F__law_turned.mono (by decide)) hr (a_cons (x_var 4) (a_cons (x_var 1) a_nil))) (a_cons (x_call (F__law_turned.mono (by decide)) hr (a_cons (x_var 6) (a_cons (x_var 1) a_nil))) (a_cons (x_call (F__law_turned.mono (by decide)) hr (a_cons (x_var 5) (a_cons (x_fdiv (p_var 1) (p_of x_int)) a_nil))) a_nil)))))
  (ss_cons (s_append 9 (x_call (F__law_turned.mono (by decide)) hr (a_cons (x_var 7) (a_cons (x_fdiv (p_var 1) (p_of x_int)) a_nil))))
  (ss_cons (s_ownCall 10 sc_law.nd (F_rows_to.mono (by decide)) hr (a_cons (x_var 2) (a_cons (x_ix (p_var 9) (p_of x_int)) (a_cons (x_ix (p_var 9) (p_of x_int)) (a_cons (x_ix (p_var 9) (p_of x_int)) (a_cons (x_ix (p_var 9) (p_of x_int)) a_nil))))))
  (ss_cons (s_if (y_w (w_or (y_not (y_val (x_isi isi_list (by decide +kernel) T.n_isinstance T.n_list (p_var 10)))) (w_or1 (y_cmp (c_ne (hu40 hr)) (p_var 10) (p_var 8))))) (ss_one (s_ret x_bl)) ss_nil)
  (ss_cons (s_if (y_cmp (c_neL (hu42 hr)) (p_var 9) (p_of (x_new (f_lst (a_cons (x_var 4) (a_cons (x_var 6) (a_cons (x_var 5) (a_cons (x_var 7) a_nil)))))))) (ss_one (s_ret x_bl)) ss_nil)
  (ss_cons (s_allStr 10 11 PassesOwn.never rfl T.n_isinstance T.n_str sc_law.nd)
  (ss_cons (s_append 10 x_str)
  (ss_one (s_ret (x_cmp (c_eq (hu40 hr)) (p_of (x_call (F_rows_to.fn.mono (by decide)) hr (a_cons (x_var 2) (a_cons (x_var 4) (a_cons (x_var 6) (a_cons (x_var 5) (a_cons (x_var 7) a_nil))))))) (p_var 8)))))))))))))))))
end
end G
namespace G
open PySem PySem.Spec PyProof.Rows L2 L3
theorem all_mk {l:PySem.W.OpenLaw} {w:World} {K:PySem.W.Frag} {h:Heap} {mg:Str→Option Value} {fa:Addr} (X:K.In h) (G:h.Ns mainGlobals mg) (hfa:mg "law"=some (.ref fa))
  {f0:Addr} {od0 an0:Option Addr} {sl0:Array (Option Value)} {oc0 kV0 dc0 pm0 cd0 ct0:Value} {f1:Addr} {od1 an1:Option Addr} {sl1:Array (Option Value)} {oc1 kV1 dc1 pm1 cd1 ct1:Value} {f2:Addr} {od2 an2:Option Addr} {sl2:Array (Option Value)} {oc2 kV2 dc2 pm2 cd2 ct2:Value} {f3:Addr} {od3 an3:Option Addr} {sl3:Array (Option Value)} {oc3 kV3 dc3 pm3 cd3 ct3:Value} {f4:Addr} {od4 an4:Option Addr} {sl4:Array (Option Value)} {oc4 kV4 dc4 pm4 cd4 ct4:Value} {f5:Addr} {od5 an5:Option Addr} {sl5:Array (Option Value)} {oc5 kV5 dc5 pm5 cd5 ct5:Value} {f6:Addr} {od6 an6:Option Addr} {sl6:Array (Option Value)} {oc6 kV6 dc6 pm6 cd6 ct6:Value} {f7:Addr} {od7 an7:Option Addr} {sl7:Array (Option Value)} {oc7 kV7 dc7 pm7 cd7 ct7:Value} {f8:Addr} {od8 an8:Option Addr} {sl8:Array (Option Value)} {oc8 kV8 dc8 pm8 cd8 ct8:Value} {f9:Addr} {od9 an9:Option Addr} {sl9:Array (Option Value)} {oc9 kV9 dc9 pm9 cd9 ct9:Value} {f10:Addr} {od10 an10:Option Addr} {sl10:Array (Option Value)} {oc10 kV10 dc10 pm10 cd10 ct10:Value} {f11:Addr} {od11 an11:Option Addr} {sl11:Array (Option Value)} {oc11 kV11 dc11 pm11 cd11 ct11:Value} {f12:Addr} {od12 an12:Option Addr} {sl12:Array (Option Value)} {oc12 kV12 dc12 pm12 cd12 ct12:Value} {f13:Addr} {od13 an13:Option Addr} {sl13:Array (Option Value)} {oc13 kV13 dc13 pm13 cd13 ct13:Value} {C13:Addr} {f14:Addr} {od14 an14:Option Addr} {sl14:Array (Option Value)} {oc14 kV14 dc14 pm14 cd14 ct14:Value} {C14:Addr} {f15:Addr} {od15 an15:Option Addr} {sl15:Array (Option Value)} {oc15 kV15 dc15 pm15 cd15 ct15:Value} {C15:Addr} {f16:Addr} {od16 an16:Option Addr} {sl16:Array (Option Value)} {oc16 kV16 dc16 pm16 cd16 ct16:Value} {C16:Addr} {f17:Addr} {od17 an17:Option Addr} {sl17:Array (Option Value)} {oc17 kV17 dc17 pm17 cd17 ct17:Value} {f18:Addr} {od18 an18:Option Addr} {sl18:Array (Option Value)} {oc18 kV18 dc18 pm18 cd18 ct18:Value} {C18:Addr} {f19:Addr} {od19 an19:Option Addr} {sl19:Array (Option Value)} {oc19 kV19 dc19 pm19 cd19 ct19:Value} {C19:Addr} {f20:Addr} {od20 an20:Option Addr} {sl20:Array (Option Value)} {oc20 kV20 dc20 pm20 cd20 ct20:Value} {C20:Addr} {f21:Addr} {od21 an21:Option Addr} {sl21:Array (Option Value)} {oc21 kV21 dc21 pm21 cd21 ct21:Value} {f22:Addr} {od22 an22:Option Addr} {sl22:Array (Option Value)} {oc22 kV22 dc22 pm22 cd22 ct22:Value} {f23:Addr} {od23 an23:Option Addr} {sl23:Array (Option Value)} {oc23 kV23 dc23 pm23 cd23 ct23:Value} {C23:Addr} {f24:Addr} {od24 an24:Option Addr} {sl24:Array (Option Value)} {oc24 kV24 dc24 pm24 cd24 ct24:Value} {f25:Addr} {od25 an25:Option Addr} {sl25:Array (Option Value)} {oc25 kV25 dc25 pm25 cd25 ct25:Value} {f26:Addr} {od26 an26:Option Addr} {sl26:Array (Option Value)} {oc26 kV26 dc26 pm26 cd26 ct26:Value} {C26:Addr} {f27:Addr} {od27 an27:Option Addr} {sl27:Array (Option Value)} {oc27 kV27 dc27 pm27 cd27 ct27:Value} {f28:Addr} {od28 an28:Option Addr} {sl28:Array (Option Value)} {oc28 kV28 dc28 pm28 cd28 ct28:Value} {C28:Addr} {f29:Addr} {od29 an29:Option Addr} {sl29:Array (Option Value)} {oc29 kV29 dc29 pm29 cd29 ct29:Value} {f30:Addr} {od30 an30:Option Addr} {sl30:Array (Option Value)} {oc30 kV30 dc30 pm30 cd30 ct30:Value} {f31:Addr} {od31 an31:Option Addr} {sl31:Array (Option Value)} {oc31 kV31 dc31 pm31 cd31 ct31:Value} {f32:Addr} {od32 an32:Option Addr} {sl32:Array (Option Value)} {oc32 kV32 dc32 pm32 cd32 ct32:Value} {f33:Addr} {od33 an33:Option Addr} {sl33:Array (Option Value)} {oc33 kV33 dc33 pm33 cd33 ct33:Value}
  (a0:PySem.W.nsIn K mainGlobals "_law_cell_at"=some (some (.ref f0))) (l0:K.lookup f0=some ⟨oc0,od0, .func (PySem.W.fnOf "_law_cell_at" "_law_cell_at" (defArgs s__law_cell_at) (defBody s__law_cell_at) (defScope s__law_cell_at) .none kV0 dc0 pm0 an0 cd0 ct0),sl0⟩) (c0:PySem.W.codeIn K cd0 "_law_cell_at"=true) (k0:PySem.W.keepIn K (.ref f0)=true)
  (a1:PySem.W.nsIn K mainGlobals "_law_mixed"=some (some (.ref f1))) (l1:K.lookup f1=some ⟨oc1,od1, .func (PySem.W.fnOf "_law_mixed" "_law_mixed" (defArgs s__law_mixed) (defBody s__law_mixed) (defScope s__law_mixed) .none kV1 dc1 pm1 an1 cd1 ct1),sl1⟩) (c1:PySem.W.codeIn K cd1 "_law_mixed"=true) (k1:PySem.W.keepIn K (.ref f1)=true)
  (a2:PySem.W.nsIn K mainGlobals "_law_pin"=some (some (.ref f2))) (l2:K.lookup f2=some ⟨oc2,od2, .func (PySem.W.fnOf "_law_pin" "_law_pin" (defArgs s__law_pin) (defBody s__law_pin) (defScope s__law_pin) .none kV2 dc2 pm2 an2 cd2 ct2),sl2⟩) (c2:PySem.W.codeIn K cd2 "_law_pin"=true) (k2:PySem.W.keepIn K (.ref f2)=true)
  (a3:PySem.W.nsIn K mainGlobals "_law_barrel"=some (some (.ref f3))) (l3:K.lookup f3=some ⟨oc3,od3, .func (PySem.W.fnOf "_law_barrel" "_law_barrel" (defArgs s__law_barrel) (defBody s__law_barrel) (defScope s__law_barrel) .none kV3 dc3 pm3 an3 cd3 ct3),sl3⟩) (c3:PySem.W.codeIn K cd3 "_law_barrel"=true) (k3:PySem.W.keepIn K (.ref f3)=true)
  (a4:PySem.W.nsIn K mainGlobals "_law_doors"=some (some (.ref f4))) (l4:K.lookup f4=some ⟨oc4,od4, .func (PySem.W.fnOf "_law_doors" "_law_doors" (defArgs s__law_doors) (defBody s__law_doors) (defScope s__law_doors) .none kV4 dc4 pm4 an4 cd4 ct4),sl4⟩) (c4:PySem.W.codeIn K cd4 "_law_doors"=true) (k4:PySem.W.keepIn K (.ref f4)=true)
  (a5:PySem.W.nsIn K mainGlobals "_law_due"=some (some (.ref f5))) (l5:K.lookup f5=some ⟨oc5,od5, .func (PySem.W.fnOf "_law_due" "_law_due" (defArgs s__law_due) (defBody s__law_due) (defScope s__law_due) .none kV5 dc5 pm5 an5 cd5 ct5),sl5⟩) (c5:PySem.W.codeIn K cd5 "_law_due"=true) (k5:PySem.W.keepIn K (.ref f5)=true)
  (a6:PySem.W.nsIn K mainGlobals "_law_cut"=some (some (.ref f6))) (l6:K.lookup f6=some ⟨oc6,od6, .func (PySem.W.fnOf "_law_cut" "_law_cut" (defArgs s__law_cut) (defBody s__law_cut) (defScope s__law_cut) .none kV6 dc6 pm6 an6 cd6 ct6),sl6⟩) (c6:PySem.W.codeIn K cd6 "_law_cut"=true) (k6:PySem.W.keepIn K (.ref f6)=true)
  (a7:PySem.W.nsIn K mainGlobals "_law_keys"=some (some (.ref f7))) (l7:K.lookup f7=some ⟨oc7,od7, .func (PySem.W.fnOf "_law_keys" "_law_keys" (defArgs s__law_keys) (defBody s__law_keys) (defScope s__law_keys) .none kV7 dc7 pm7 an7 cd7 ct7),sl7⟩) (c7:PySem.W.codeIn K cd7 "_law_keys"=true) (k7:PySem.W.keepIn K (.ref f7)=true)
  (a8:PySem.W.nsIn K mainGlobals "_law_name"=some (some (.ref f8))) (l8:K.lookup f8=some ⟨oc8,od8, .func (PySem.W.fnOf "_law_name" "_law_name" (defArgs s__law_name) (defBody s__law_name) (defScope s__law_name) .none kV8 dc8 pm8 an8 cd8 ct8),sl8⟩) (c8:PySem.W.codeIn K cd8 "_law_name"=true) (k8:PySem.W.keepIn K (.ref f8)=true)
  (a9:PySem.W.nsIn K mainGlobals "_law_open"=some (some (.ref f9))) (l9:K.lookup f9=some ⟨oc9,od9, .func (PySem.W.fnOf "_law_open" "_law_open" (defArgs s__law_open) (defBody s__law_open) (defScope s__law_open) .none kV9 dc9 pm9 an9 cd9 ct9),sl9⟩) (c9:PySem.W.codeIn K cd9 "_law_open"=true) (k9:PySem.W.keepIn K (.ref f9)=true)
  (a10:PySem.W.nsIn K mainGlobals "_law_names"=some (some (.ref f10))) (l10:K.lookup f10=some ⟨oc10,od10, .func (PySem.W.fnOf "_law_names" "_law_names" (defArgs s__law_names) (defBody s__law_names) (defScope s__law_names) .none kV10 dc10 pm10 an10 cd10 ct10),sl10⟩) (c10:PySem.W.codeIn K cd10 "_law_names"=true) (k10:PySem.W.keepIn K (.ref f10)=true)
  (a11:PySem.W.nsIn K mainGlobals "_law_rules"=some (some (.ref f11))) (l11:K.lookup f11=some ⟨oc11,od11, .func (PySem.W.fnOf "_law_rules" "_law_rules" (defArgs s__law_rules) (defBody s__law_rules) (defScope s__law_rules) .none kV11 dc11 pm11 an11 cd11 ct11),sl11⟩) (c11:PySem.W.codeIn K cd11 "_law_rules"=true) (k11:PySem.W.keepIn K (.ref f11)=true)
  (a12:PySem.W.nsIn K mainGlobals "_law_turned"=some (some (.ref f12))) (l12:K.lookup f12=some ⟨oc12,od12, .func (PySem.W.fnOf "_law_turned" "_law_turned" (defArgs s__law_turned) (defBody s__law_turned) (defScope s__law_turned) .none kV12 dc12 pm12 an12 cd12 ct12),sl12⟩) (c12:PySem.W.codeIn K cd12 "_law_turned"=true) (k12:PySem.W.keepIn K (.ref f12)=true)
  (aC13:PySem.W.nsIn K mainGlobals "Blank"=some (some (.ref C13))) (a13:PySem.W.findIn K (.ref C13) "shown"=some (some (.ref f13))) (i13:PySem.W.isFn K (.ref f13)=true) (l13:K.lookup f13=some ⟨oc13,od13, .func (PySem.W.fnOf "shown" "Blank.shown" (defArgs s_Blank_shown) (defBody s_Blank_shown) (defScope s_Blank_shown) .none kV13 dc13 pm13 an13 cd13 ct13),sl13⟩) (c13:PySem.W.codeIn K cd13 "Blank.shown"=true) (k13:PySem.W.keepIn K (.ref f13)=true) (pg13:PySem.W.plainGet K C13 Str.empty=true) (hd13:PySem.W.hasDictIn K C13=true) (po13:PySem.W.plainOver K C13=true) (sa13:PySem.W.findIn K (.ref C13) "__setattr__"=some (some (.builtin "object.__setattr__")))
  (aC14:PySem.W.nsIn K mainGlobals "Bolt"=some (some (.ref C14))) (a14:PySem.W.findIn K (.ref C14) "shown"=some (some (.ref f14))) (i14:PySem.W.isFn K (.ref f14)=true) (l14:K.lookup f14=some ⟨oc14,od14, .func (PySem.W.fnOf "shown" "Bolt.shown" (defArgs s_Bolt_shown) (defBody s_Bolt_shown) (defScope s_Bolt_shown) .none kV14 dc14 pm14 an14 cd14 ct14),sl14⟩) (c14:PySem.W.codeIn K cd14 "Bolt.shown"=true) (k14:PySem.W.keepIn K (.ref f14)=true) (pg14:PySem.W.plainGet K C14 Str.empty=true) (hd14:PySem.W.hasDictIn K C14=true) (po14:PySem.W.plainOver K C14=true) (sa14:PySem.W.findIn K (.ref C14) "__setattr__"=some (some (.builtin "object.__setattr__")))
  (aC15:PySem.W.nsIn K mainGlobals "File"=some (some (.ref C15))) (a15:PySem.W.findIn K (.ref C15) "shown"=some (some (.ref f15))) (i15:PySem.W.isFn K (.ref f15)=true) (l15:K.lookup f15=some ⟨oc15,od15, .func (PySem.W.fnOf "shown" "File.shown" (defArgs s_File_shown) (defBody s_File_shown) (defScope s_File_shown) .none kV15 dc15 pm15 an15 cd15 ct15),sl15⟩) (c15:PySem.W.codeIn K cd15 "File.shown"=true) (k15:PySem.W.keepIn K (.ref f15)=true) (pg15:PySem.W.plainGet K C15 Str.empty=true) (hd15:PySem.W.hasDictIn K C15=true) (po15:PySem.W.plainOver K C15=true) (sa15:PySem.W.findIn K (.ref C15) "__setattr__"=some (some (.builtin "object.__setattr__")))
  (aC16:PySem.W.nsIn K mainGlobals "Open"=some (some (.ref C16))) (a16:PySem.W.findIn K (.ref C16) "shown"=some (some (.ref f16))) (i16:PySem.W.isFn K (.ref f16)=true) (l16:K.lookup f16=some ⟨oc16,od16, .func (PySem.W.fnOf "shown" "Open.shown" (defArgs s_Open_shown) (defBody s_Open_shown) (defScope s_Open_shown) .none kV16 dc16 pm16 an16 cd16 ct16),sl16⟩) (c16:PySem.W.codeIn K cd16 "Open.shown"=true) (k16:PySem.W.keepIn K (.ref f16)=true) (pg16:PySem.W.plainGet K C16 Str.empty=true) (hd16:PySem.W.hasDictIn K C16=true) (po16:PySem.W.plainOver K C16=true) (sa16:PySem.W.findIn K (.ref C16) "__setattr__"=some (some (.builtin "object.__setattr__")))
  (a17:PySem.W.nsIn K mainGlobals "shown_pin"=some (some (.ref f17))) (l17:K.lookup f17=some ⟨oc17,od17, .func (PySem.W.fnOf "shown_pin" "shown_pin" (defArgs s_shown_pin) (defBody s_shown_pin) (defScope s_shown_pin) .none kV17 dc17 pm17 an17 cd17 ct17),sl17⟩) (c17:PySem.W.codeIn K cd17 "shown_pin"=true) (k17:PySem.W.keepIn K (.ref f17)=true)
  (aC18:PySem.W.nsIn K mainGlobals "Pin"=some (some (.ref C18))) (a18:PySem.W.findIn K (.ref C18) "shown"=some (some (.ref f18))) (i18:PySem.W.isFn K (.ref f18)=true) (l18:K.lookup f18=some ⟨oc18,od18, .func (PySem.W.fnOf "shown" "Pin.shown" (defArgs s_Pin_shown) (defBody s_Pin_shown) (defScope s_Pin_shown) .none kV18 dc18 pm18 an18 cd18 ct18),sl18⟩) (c18:PySem.W.codeIn K cd18 "Pin.shown"=true) (k18:PySem.W.keepIn K (.ref f18)=true) (pg18:PySem.W.plainGet K C18 Str.empty=true) (hd18:PySem.W.hasDictIn K C18=true) (po18:PySem.W.plainOver K C18=true) (sa18:PySem.W.findIn K (.ref C18) "__setattr__"=some (some (.builtin "object.__setattr__")))
  (aC19:PySem.W.nsIn K mainGlobals "Bolt"=some (some (.ref C19))) (a19:PySem.W.findIn K (.ref C19) "__init__"=some (some (.ref f19))) (i19:PySem.W.isFn K (.ref f19)=true) (l19:K.lookup f19=some ⟨oc19,od19, .func (PySem.W.fnOf "__init__" "Bolt.__init__" (defArgs s_Bolt) (defBody s_Bolt) (defScope s_Bolt) .none kV19 dc19 pm19 an19 cd19 ct19),sl19⟩) (c19:PySem.W.codeIn K cd19 "Bolt.__init__"=true) (k19:PySem.W.keepIn K (.ref f19)=true) (pg19:PySem.W.plainGet K C19 Str.empty=true) (hd19:PySem.W.hasDictIn K C19=true) (po19:PySem.W.plainOver K C19=true) (sa19:PySem.W.findIn K (.ref C19) "__setattr__"=some (some (.builtin "object.__setattr__"))) (mk19:PySem.W.makesIn K C19=true) (kc19:PySem.W.keepIn K (.ref C19)=true) (n19_door:PySem.W.findIn K (.ref C19) "door"=some none)
  (aC20:PySem.W.nsIn K mainGlobals "Open"=some (some (.ref C20))) (a20:PySem.W.findIn K (.ref C20) "__init__"=some (some (.ref f20))) (i20:PySem.W.isFn K (.ref f20)=true) (l20:K.lookup f20=some ⟨oc20,od20, .func (PySem.W.fnOf "__init__" "Open.__init__" (defArgs s_Open) (defBody s_Open) (defScope s_Open) .none kV20 dc20 pm20 an20 cd20 ct20),sl20⟩) (c20:PySem.W.codeIn K cd20 "Open.__init__"=true) (k20:PySem.W.keepIn K (.ref f20)=true) (pg20:PySem.W.plainGet K C20 Str.empty=true) (hd20:PySem.W.hasDictIn K C20=true) (po20:PySem.W.plainOver K C20=true) (sa20:PySem.W.findIn K (.ref C20) "__setattr__"=some (some (.builtin "object.__setattr__"))) (mk20:PySem.W.makesIn K C20=true) (kc20:PySem.W.keepIn K (.ref C20)=true) (n20_door:PySem.W.findIn K (.ref C20) "door"=some none)
  (a21:PySem.W.nsIn K mainGlobals "places_of"=some (some (.ref f21))) (l21:K.lookup f21=some ⟨oc21,od21, .func (PySem.W.fnOf "places_of" "places_of" (defArgs s_places_of) (defBody s_places_of) (defScope s_places_of) .none kV21 dc21 pm21 an21 cd21 ct21),sl21⟩) (c21:PySem.W.codeIn K cd21 "places_of"=true) (k21:PySem.W.keepIn K (.ref f21)=true)
  (a22:PySem.W.nsIn K mainGlobals "flat_barrel"=some (some (.ref f22))) (l22:K.lookup f22=some ⟨oc22,od22, .func (PySem.W.fnOf "flat_barrel" "flat_barrel" (defArgs s_flat_barrel) (defBody s_flat_barrel) (defScope s_flat_barrel) .none kV22 dc22 pm22 an22 cd22 ct22),sl22⟩) (c22:PySem.W.codeIn K cd22 "flat_barrel"=true) (k22:PySem.W.keepIn K (.ref f22)=true)
  (aC23:PySem.W.nsIn K mainGlobals "Pin"=some (some (.ref C23))) (a23:PySem.W.findIn K (.ref C23) "__init__"=some (some (.ref f23))) (i23:PySem.W.isFn K (.ref f23)=true) (l23:K.lookup f23=some ⟨oc23,od23, .func (PySem.W.fnOf "__init__" "Pin.__init__" (defArgs s_Pin) (defBody s_Pin) (defScope s_Pin) .none kV23 dc23 pm23 an23 cd23 ct23),sl23⟩) (c23:PySem.W.codeIn K cd23 "Pin.__init__"=true) (k23:PySem.W.keepIn K (.ref f23)=true) (pg23:PySem.W.plainGet K C23 Str.empty=true) (hd23:PySem.W.hasDictIn K C23=true) (po23:PySem.W.plainOver K C23=true) (sa23:PySem.W.findIn K (.ref C23) "__setattr__"=some (some (.builtin "object.__setattr__"))) (mk23:PySem.W.makesIn K C23=true) (kc23:PySem.W.keepIn K (.ref C23)=true) (n23_door:PySem.W.findIn K (.ref C23) "door"=some none) (n23_place:PySem.W.findIn K (.ref C23) "place"=some none) (n23_heights:PySem.W.findIn K (.ref C23) "heights"=some none)
  (a24:PySem.W.nsIn K mainGlobals "pin_deeds"=some (some (.ref f24))) (l24:K.lookup f24=some ⟨oc24,od24, .func (PySem.W.fnOf "pin_deeds" "pin_deeds" (defArgs s_pin_deeds) (defBody s_pin_deeds) (defScope s_pin_deeds) .none kV24 dc24 pm24 an24 cd24 ct24),sl24⟩) (c24:PySem.W.codeIn K cd24 "pin_deeds"=true) (k24:PySem.W.keepIn K (.ref f24)=true)
  (a25:PySem.W.nsIn K mainGlobals "door_deeds"=some (some (.ref f25))) (l25:K.lookup f25=some ⟨oc25,od25, .func (PySem.W.fnOf "door_deeds" "door_deeds" (defArgs s_door_deeds) (defBody s_door_deeds) (defScope s_door_deeds) .none kV25 dc25 pm25 an25 cd25 ct25),sl25⟩) (c25:PySem.W.codeIn K cd25 "door_deeds"=true) (k25:PySem.W.keepIn K (.ref f25)=true)
  (aC26:PySem.W.nsIn K mainGlobals "Blank"=some (some (.ref C26))) (a26:PySem.W.findIn K (.ref C26) "__init__"=some (some (.ref f26))) (i26:PySem.W.isFn K (.ref f26)=true) (l26:K.lookup f26=some ⟨oc26,od26, .func (PySem.W.fnOf "__init__" "Blank.__init__" (defArgs s_Blank) (defBody s_Blank) (defScope s_Blank) .none kV26 dc26 pm26 an26 cd26 ct26),sl26⟩) (c26:PySem.W.codeIn K cd26 "Blank.__init__"=true) (k26:PySem.W.keepIn K (.ref f26)=true) (pg26:PySem.W.plainGet K C26 Str.empty=true) (hd26:PySem.W.hasDictIn K C26=true) (po26:PySem.W.plainOver K C26=true) (sa26:PySem.W.findIn K (.ref C26) "__setattr__"=some (some (.builtin "object.__setattr__"))) (mk26:PySem.W.makesIn K C26=true) (kc26:PySem.W.keepIn K (.ref C26)=true) (n26_key:PySem.W.findIn K (.ref C26) "key"=some none)
  (a27:PySem.W.nsIn K mainGlobals "can_file"=some (some (.ref f27))) (l27:K.lookup f27=some ⟨oc27,od27, .func (PySem.W.fnOf "can_file" "can_file" (defArgs s_can_file) (defBody s_can_file) (defScope s_can_file) .none kV27 dc27 pm27 an27 cd27 ct27),sl27⟩) (c27:PySem.W.codeIn K cd27 "can_file"=true) (k27:PySem.W.keepIn K (.ref f27)=true)
  (aC28:PySem.W.nsIn K mainGlobals "File"=some (some (.ref C28))) (a28:PySem.W.findIn K (.ref C28) "__init__"=some (some (.ref f28))) (i28:PySem.W.isFn K (.ref f28)=true) (l28:K.lookup f28=some ⟨oc28,od28, .func (PySem.W.fnOf "__init__" "File.__init__" (defArgs s_File) (defBody s_File) (defScope s_File) .none kV28 dc28 pm28 an28 cd28 ct28),sl28⟩) (c28:PySem.W.codeIn K cd28 "File.__init__"=true) (k28:PySem.W.keepIn K (.ref f28)=true) (pg28:PySem.W.plainGet K C28 Str.empty=true) (hd28:PySem.W.hasDictIn K C28=true) (po28:PySem.W.plainOver K C28=true) (sa28:PySem.W.findIn K (.ref C28) "__setattr__"=some (some (.builtin "object.__setattr__"))) (mk28:PySem.W.makesIn K C28=true) (kc28:PySem.W.keepIn K (.ref C28)=true) (n28_key:PySem.W.findIn K (.ref C28) "key"=some none) (n28_place:PySem.W.findIn K (.ref C28) "place"=some none) (n28_depth:PySem.W.findIn K (.ref C28) "depth"=some none)
  (a29:PySem.W.nsIn K mainGlobals "file_deeds"=some (some (.ref f29))) (l29:K.lookup f29=some ⟨oc29,od29, .func (PySem.W.fnOf "file_deeds" "file_deeds" (defArgs s_file_deeds) (defBody s_file_deeds) (defScope s_file_deeds) .none kV29 dc29 pm29 an29 cd29 ct29),sl29⟩) (c29:PySem.W.codeIn K cd29 "file_deeds"=true) (k29:PySem.W.keepIn K (.ref f29)=true)
  (a30:PySem.W.nsIn K mainGlobals "first_cuts"=some (some (.ref f30))) (l30:K.lookup f30=some ⟨oc30,od30, .func (PySem.W.fnOf "first_cuts" "first_cuts" (defArgs s_first_cuts) (defBody s_first_cuts) (defScope s_first_cuts) .none kV30 dc30 pm30 an30 cd30 ct30),sl30⟩) (c30:PySem.W.codeIn K cd30 "first_cuts"=true) (k30:PySem.W.keepIn K (.ref f30)=true)
  (a31:PySem.W.nsIn K mainGlobals "key_deeds"=some (some (.ref f31))) (l31:K.lookup f31=some ⟨oc31,od31, .func (PySem.W.fnOf "key_deeds" "key_deeds" (defArgs s_key_deeds) (defBody s_key_deeds) (defScope s_key_deeds) .none kV31 dc31 pm31 an31 cd31 ct31),sl31⟩) (c31:PySem.W.codeIn K cd31 "key_deeds"=true) (k31:PySem.W.keepIn K (.ref f31)=true)
  (a32:PySem.W.nsIn K mainGlobals "rows_to"=some (some (.ref f32))) (l32:K.lookup f32=some ⟨oc32,od32, .func (PySem.W.fnOf "rows_to" "rows_to" (defArgs s_rows_to) (defBody s_rows_to) (defScope s_rows_to) .none kV32 dc32 pm32 an32 cd32 ct32),sl32⟩) (c32:PySem.W.codeIn K cd32 "rows_to"=true) (k32:PySem.W.keepIn K (.ref f32)=true)
  (a33:PySem.W.nsIn K mainGlobals "law"=some (some (.ref f33))) (l33:K.lookup f33=some ⟨oc33,od33, .func (PySem.W.fnOf "law" "law" (defArgs s_law) (defBody s_law) (defScope s_law) .none kV33 dc33 pm33 an33 cd33 ct33),sl33⟩) (c33:PySem.W.codeIn K cd33 "law"=true) (k33:PySem.W.keepIn K (.ref f33)=true)
  (z0:PySem.W.nsIn K mainGlobals "all"=some none)
  (z1:PySem.W.nsIn K mainGlobals "enumerate"=some none)
  (z2:PySem.W.nsIn K mainGlobals "isinstance"=some none)
  (z3:PySem.W.nsIn K mainGlobals "len"=some none)
  (z4:PySem.W.nsIn K mainGlobals "list"=some none)
  (z5:PySem.W.nsIn K mainGlobals "range"=some none)
  (z6:PySem.W.nsIn K mainGlobals "sorted"=some none)
  (z7:PySem.W.nsIn K mainGlobals "str"=some none)
  (z8:PySem.W.nsIn K mainGlobals "tuple"=some none)
  (z9:PySem.W.nsIn K mainGlobals "zip"=some none)
  :∃ fd:FuncData,(∀ (s:Shared) (v:Value),BindsTo s fd ⟨[v],[]⟩ [("_law_script",v)])∧∀ base:Heap,K.In base→base.Ns mainGlobals mg→FnOk l.prog w K mg base CX0 6 fa fd ["_law_script"] (spLaw K):=by
 have e:=hfa.symm.trans (PySem.W.mg_of X G a33)
 cases e
 have T:Txt K mg:=⟨PySem.W.mg_none_of X G z0,PySem.W.mg_none_of X G z1,PySem.W.mg_none_of X G z2,PySem.W.mg_none_of X G z3,PySem.W.mg_none_of X G z4,PySem.W.mg_none_of X G z5,PySem.W.mg_none_of X G z6,PySem.W.mg_none_of X G z7,PySem.W.mg_none_of X G z8,PySem.W.mg_none_of X G z9,⟨⟨C26,aC26,⟨pg26,hd26,po26,sa26⟩,n26_key⟩⟩,⟨⟨C19,aC19,⟨pg19,hd19,po19,sa19⟩,n19_door⟩⟩,⟨⟨C28,aC28,⟨pg28,hd28,po28,sa28⟩,n28_depth⟩⟩,⟨⟨C28,aC28,⟨pg28,hd28,po28,sa28⟩,n28_key⟩⟩,⟨⟨C28,aC28,⟨pg28,hd28,po28,sa28⟩,n28_place⟩⟩,⟨⟨C20,aC20,⟨pg20,hd20,po20,sa20⟩,n20_door⟩⟩,⟨⟨C23,aC23,⟨pg23,hd23,po23,sa23⟩,n23_door⟩⟩,⟨⟨C23,aC23,⟨pg23,hd23,po23,sa23⟩,n23_heights⟩⟩,⟨⟨C23,aC23,⟨pg23,hd23,po23,sa23⟩,n23_place⟩⟩⟩
 refine ⟨PySem.W.fnOf "law" "law" (defArgs s_law) (defBody s_law) (defScope s_law) .none kV33 dc33 pm33 an33 cd33 ct33,fun s v=> .of_eq rfl,fun base _ _=> ?_⟩
 have F__law_cell_at:Fn l.prog w K mg base 1 "_law_cell_at" 2 m__law_cell_at:=ok__law_cell_at (fun_mk (st:=s__law_cell_at) l0 c0 k0) (PySem.W.mg_of X G a0) T
 have F__law_mixed:Fn l.prog w K mg base 1 "_law_mixed" 2 m__law_mixed:=ok__law_mixed (fun_mk (st:=s__law_mixed) l1 c1 k1) (PySem.W.mg_of X G a1) T
 have F__law_pin:Fn l.prog w K mg base 2 "_law_pin" 2 m__law_pin:=ok__law_pin (fun_mk (st:=s__law_pin) l2 c2 k2) (PySem.W.mg_of X G a2) T F__law_mixed
 have F__law_barrel:Fn l.prog w K mg base 3 "_law_barrel" 2 m__law_barrel:=ok__law_barrel (fun_mk (st:=s__law_barrel) l3 c3 k3) (PySem.W.mg_of X G a3) T F__law_mixed F__law_pin
 have F__law_doors:Fn l.prog w K mg base 4 "_law_doors" 3 m__law_doors:=ok__law_doors (fun_mk (st:=s__law_doors) l4 c4 k4) (PySem.W.mg_of X G a4) T F__law_barrel F__law_cell_at F__law_mixed
 have F__law_due:Fn l.prog w K mg base 1 "_law_due" 5 m__law_due:=ok__law_due (fun_mk (st:=s__law_due) l5 c5 k5) (PySem.W.mg_of X G a5) T
 have F__law_cut:Fn l.prog w K mg base 2 "_law_cut" 2 m__law_cut:=ok__law_cut (fun_mk (st:=s__law_cut) l6 c6 k6) (PySem.W.mg_of X G a6) T F__law_mixed
 have F__law_keys:Fn l.prog w K mg base 3 "_law_keys" 3 m__law_keys:=ok__law_keys (fun_mk (st:=s__law_keys) l7 c7 k7) (PySem.W.mg_of X G a7) T F__law_cell_at F__law_cut F__law_mixed
 have F__law_name:Fn l.prog w K mg base 1 "_law_name" 1 m__law_name:=ok__law_name (fun_mk (st:=s__law_name) l8 c8 k8) (PySem.W.mg_of X G a8) T
 have F__law_open:Fn l.prog w K mg base 1 "_law_open" 1 m__law_open:=ok__law_open (fun_mk (st:=s__law_open) l9 c9 k9) (PySem.W.mg_of X G a9) T
 have F__law_names:Fn l.prog w K mg base 2 "_law_names" 2 m__law_names:=ok__law_names (fun_mk (st:=s__law_names) l10 c10 k10) (PySem.W.mg_of X G a10) T F__law_name F__law_open
 have F__law_rules:Fn l.prog w K mg base 2 "_law_rules" 1 m__law_rules:=ok__law_rules (fun_mk (st:=s__law_rules) l11 c11 k11) (PySem.W.mg_of X G a11) T F__law_mixed
 have F__law_turned:Fn l.prog w K mg base 1 "_law_turned" 2 m__law_turned:=ok__law_turned (fun_mk (st:=s__law_turned) l12 c12 k12) (PySem.W.mg_of X G a12) T
 have F_Blank_shown:MtK l.prog w K mg base 1 "Blank" "shown" 1 m_Blank_shown:=ok_Blank_shown (fun_mk (st:=s_Blank_shown) l13 c13 k13) aC13 ⟨pg13,hd13,po13,sa13⟩ ⟨a13,i13,k13⟩ T
 have F_Bolt_shown:MtK l.prog w K mg base 1 "Bolt" "shown" 1 m_Bolt_shown:=ok_Bolt_shown (fun_mk (st:=s_Bolt_shown) l14 c14 k14) aC14 ⟨pg14,hd14,po14,sa14⟩ ⟨a14,i14,k14⟩ T
 have F_File_shown:MtK l.prog w K mg base 1 "File" "shown" 1 m_File_shown:=ok_File_shown (fun_mk (st:=s_File_shown) l15 c15 k15) aC15 ⟨pg15,hd15,po15,sa15⟩ ⟨a15,i15,k15⟩ T
 have F_Open_shown:MtK l.prog w K mg base 1 "Open" "shown" 1 m_Open_shown:=ok_Open_shown (fun_mk (st:=s_Open_shown) l16 c16 k16) aC16 ⟨pg16,hd16,po16,sa16⟩ ⟨a16,i16,k16⟩ T
 have F_shown_pin:Fn l.prog w K mg base 1 "shown_pin" 1 m_shown_pin:=ok_shown_pin (fun_mk (st:=s_shown_pin) l17 c17 k17) (PySem.W.mg_of X G a17) T
 have F_Pin_shown:MtK l.prog w K mg base 2 "Pin" "shown" 1 m_Pin_shown:=ok_Pin_shown (fun_mk (st:=s_Pin_shown) l18 c18 k18) aC18 ⟨pg18,hd18,po18,sa18⟩ ⟨a18,i18,k18⟩ T F_shown_pin
 have F_Bolt:FnI l.prog w K mg base 2 "Bolt" 1 1 fs_Bolt:=ok_Bolt (fun_mk (st:=s_Bolt) l19 c19 k19) ⟨mk19,a19,i19,kc19⟩ (PySem.W.mg_of X G aC19) aC19 ⟨pg19,hd19,po19,sa19⟩ n19_door T
 have F_Open:FnI l.prog w K mg base 2 "Open" 1 1 fs_Open:=ok_Open (fun_mk (st:=s_Open) l20 c20 k20) ⟨mk20,a20,i20,kc20⟩ (PySem.W.mg_of X G aC20) aC20 ⟨pg20,hd20,po20,sa20⟩ n20_door T
 have F_places_of:Fn l.prog w K mg base 1 "places_of" 1 m_places_of:=ok_places_of (fun_mk (st:=s_places_of) l21 c21 k21) (PySem.W.mg_of X G a21) T
 have F_flat_barrel:Fn l.prog w K mg base 2 "flat_barrel" 1 m_flat_barrel:=ok_flat_barrel (fun_mk (st:=s_flat_barrel) l22 c22 k22) (PySem.W.mg_of X G a22) T F_places_of
 have F_Pin:FnI l.prog w K mg base 2 "Pin" 3 3 fs_Pin:=ok_Pin (fun_mk (st:=s_Pin) l23 c23 k23) ⟨mk23,a23,i23,kc23⟩ (PySem.W.mg_of X G aC23) aC23 ⟨pg23,hd23,po23,sa23⟩ n23_door n23_place n23_heights T
 have F_pin_deeds:Fn l.prog w K mg base 3 "pin_deeds" 3 m_pin_deeds:=ok_pin_deeds (fun_mk (st:=s_pin_deeds) l24 c24 k24) (PySem.W.mg_of X G a24) T F_Pin
 have F_door_deeds:Fn l.prog w K mg base 4 "door_deeds" 4 m_door_deeds:=ok_door_deeds (fun_mk (st:=s_door_deeds) l25 c25 k25) (PySem.W.mg_of X G a25) T F_Bolt F_Open F_flat_barrel F_pin_deeds
 have F_Blank:FnI l.prog w K mg base 2 "Blank" 1 1 fs_Blank:=ok_Blank (fun_mk (st:=s_Blank) l26 c26 k26) ⟨mk26,a26,i26,kc26⟩ (PySem.W.mg_of X G aC26) aC26 ⟨pg26,hd26,po26,sa26⟩ n26_key T
 have F_can_file:Fn l.prog w K mg base 1 "can_file" 2 m_can_file:=ok_can_file (fun_mk (st:=s_can_file) l27 c27 k27) (PySem.W.mg_of X G a27) T
 have F_File:FnI l.prog w K mg base 2 "File" 3 3 fs_File:=ok_File (fun_mk (st:=s_File) l28 c28 k28) ⟨mk28,a28,i28,kc28⟩ (PySem.W.mg_of X G aC28) aC28 ⟨pg28,hd28,po28,sa28⟩ n28_key n28_place n28_depth T
 have F_file_deeds:Fn l.prog w K mg base 3 "file_deeds" 3 m_file_deeds:=ok_file_deeds (fun_mk (st:=s_file_deeds) l29 c29 k29) (PySem.W.mg_of X G a29) T F_File
 have F_first_cuts:Fn l.prog w K mg base 2 "first_cuts" 1 m_first_cuts:=ok_first_cuts (fun_mk (st:=s_first_cuts) l30 c30 k30) (PySem.W.mg_of X G a30) T F_places_of
 have F_key_deeds:Fn l.prog w K mg base 4 "key_deeds" 4 m_key_deeds:=ok_key_deeds (fun_mk (st:=s_key_deeds) l31 c31 k31) (PySem.W.mg_of X G a31) T F_Blank F_can_file F_file_deeds F_first_cuts
 have F_rows_to:FnO l.prog w K mg base 5 "rows_to" 5 m_rows_to:=ok_rows_to (fun_mk (st:=s_rows_to) l32 c32 k32) (PySem.W.mg_of X G a32) T F_Blank_shown F_Bolt_shown F_File_shown F_Open_shown F_Pin_shown F_door_deeds F_key_deeds
 exact law_of (ok_law (fun_mk (st:=s_law) l33 c33 k33) T F__law_cell_at F__law_doors F__law_due F__law_keys F__law_mixed F__law_names F__law_rules F__law_turned F_rows_to) law_true
theorem walk {l:PySem.W.OpenLaw} {q:Program} {loose:List Str} {XP:(Str→Option Value)→Heap→Prop} {YP:World→Heap→Prop} {d:DefRec} {K:Params→PySem.W.Frag} (hn:l.most=some 63) (hdf:d.params.defaults= [])
  (hY:∀ (w:World) (h:Heap),YP w h→(K w.params).In h)
  (F:∀ (w:World) (mg:Str→Option Value) (fa:Addr) (h:Heap),(K w.params).In h→h.Ns mainGlobals mg→mg d.name=some (.ref fa)→
   ∃ fd:FuncData,(∀ (s:Shared) (u:Value),BindsTo s fd ⟨[u],[]⟩ [("_law_script",u)])∧∀ base:Heap,(K w.params).In base→base.Ns mainGlobals mg→FnOk l.prog w (K w.params) mg base CX0 6 fa fd ["_law_script"] (spLaw (K w.params))):
  PySem.W.WalkO q loose XP YP l.row.toRowW d [] (fun f vs=>PySem.call f vs):=
 L2.walk_of (n:=63) (k:=6) (x:="_law_script") (CX:=fun _=>CX0) (sp:=fun w=>spLaw (K w.params)) hn (by decide) hdf ⟨rfl,by decide,by decide,rfl⟩ hY F (fun _ _ a ns hl _ hS=>⟨a,ns,rfl,hS,hl,fun _=>rfl⟩) fun _ _ _ _ _ z=>z
end G
open PySem PySem.W PyProof.Rows
theorem PySem.W.Fast.tw5105519231561634883 : True := trivial
theorem PySem.W.Fast.tw10246917369222898200 : True := trivial
theorem PySem.W.Fast.tw7020604406426107015 : True := trivial
theorem PySem.W.Fast.tw5826291967137892331 : True := trivial
theorem PySem.W.Fast.tw16777423233515598745 : True := trivial
theorem PySem.W.Fast.tw14970647551343490237 : True := trivial
theorem PySem.W.Fast.tw2348865500233478246 : True := trivial
theorem PySem.W.Fast.tw10211065426892504469 : True := trivial
theorem PySem.W.Fast.tw8972635672438714742 : True := trivial
theorem PySem.W.Fast.tw16165250647364110606 : True := trivial
theorem PySem.W.Fast.tw14076888384196398372 : True := trivial
theorem PySem.W.Fast.tw11139510447533183788 : True := trivial
theorem PySem.W.Fast.tw12504598943067094465 : True := trivial
theorem PySem.W.Fast.tw1327122149647883460 : True := trivial
theorem PySem.W.Fast.tw14085834238865184914 : True := trivial
theorem PySem.W.Fast.tw8530915293226533198 : True := trivial
theorem PySem.W.Fast.tw3199195566196259377 : True := trivial
theorem PySem.W.Fast.tw4301122113931570142 : True := trivial
theorem PySem.W.Fast.tw6769882809699665108 : True := trivial
theorem PySem.W.Fast.tw7387897003979426221 : True := trivial
theorem PySem.W.Fast.tw9252212473136656961 : True := trivial
theorem PySem.W.Fast.tw17455188917098551133 : True := trivial
theorem PySem.W.Fast.tw8682969355316512140 : True := trivial
theorem PySem.W.Fast.tw15890114255403954264 : True := trivial
theorem PySem.W.Fast.tw4315999164589529345 : True := trivial
theorem PySem.W.Fast.tw15883732776736956832 : True := trivial
theorem PySem.W.Fast.tw3022189042156257460 : True := trivial
theorem PySem.W.Fast.tw4147791755062629039 : True := trivial
theorem PySem.W.Fast.tw9131458502934165620 : True := trivial
theorem PySem.W.Fast.tw17794916699373481422 : True := trivial
theorem PySem.W.Fast.tw3885374621904884534 : True := trivial
theorem PySem.W.Fast.tw9637353797534613580 : True := trivial
theorem PySem.W.Fast.tw14095269928584169201 : True := trivial
theorem PySem.W.Fast.tw6391962722676950272 : True := trivial
theorem PySem.W.Fast.tw4300076493999743585 : True := trivial
theorem PySem.W.Fast.tw3007764147264592374 : True := trivial
theorem PySem.W.Fast.tw7893552817540482862 : True := trivial
theorem PySem.W.Fast.tw7776276927020919728 : True := trivial
theorem PySem.W.Fast.tw8661631712806467288 : True := trivial
theorem PySem.W.Fast.tw13020621316304353544 : True := trivial
theorem PySem.W.Fast.tw9978702795633675678 : True := trivial
theorem PySem.W.Fast.tw293932578651958520 : True := trivial
theorem PySem.W.Fast.tw8435005884054941793 : True := trivial
theorem PySem.W.Fast.tw16924148500053804379 : True := trivial
theorem PySem.W.Fast.tw16785374852412128951 : True := trivial
theorem PySem.W.Fast.tw8056242541663324978 : True := trivial
theorem PySem.W.Fast.tw8973414373660537756 : True := trivial
theorem PySem.W.Fast.tw17666466033292339252 : True := trivial
theorem PySem.W.Fast.tw4070787281205636373 : True := trivial
theorem PySem.W.Fast.tw8758782188174364429 : True := trivial
theorem PySem.W.Fast.tw6983242518059608060 : True := trivial
theorem PySem.W.Fast.tw16445259825443157502 : True := trivial
theorem PySem.W.Fast.tw4488598040992632490 : True := trivial
theorem PySem.W.Fast.tw1473153952369334575 : True := trivial
theorem PySem.W.Fast.tw4701340314111723998 : True := trivial
theorem PySem.W.Fast.tw3058879135403532796 : True := trivial
theorem PySem.W.Fast.tw5806327530449431175 : True := trivial
theorem PySem.W.Fast.tw13019463689221789034 : True := trivial
theorem PySem.W.Fast.tw11828053485220737715 : True := trivial
theorem PySem.W.Fast.tw17449819218606902156 : True := trivial
theorem PySem.W.Fast.tw5734382490538276873 : True := trivial
theorem PySem.Challenge.cw_wardsmith_k85_rows_to_another_holds : PySem.Challenge.rw_wardsmith_k85_rows_to_another.Holds := by
 w_on;o_law;k_head;(case hw=>w_witness2)
 k_fill
 refine G.walk (l:=PySem.Challenge.rw_wardsmith_k85_rows_to_another) rfl rfl (fun w h Y=>PySem.W.kIn_of Y) ?F
 case F=>
  intro w mg fa h KX GG hmg
  refine' G.all_mk KX GG hmg ?a0 ?l0 ?c0 ?k0 ?a1 ?l1 ?c1 ?k1 ?a2 ?l2 ?c2 ?k2 ?a3 ?l3 ?c3 ?k3 ?a4 ?l4 ?c4 ?k4 ?a5 ?l5 ?c5 ?k5 ?a6 ?l6 ?c6 ?k6 ?a7 ?l7 ?c7 ?k7 ?a8 ?l8 ?c8 ?k8 ?a9 ?l9 ?c9 ?k9 ?a10 ?l10 ?c10 ?k10 ?a11 ?l11 ?c11 ?k11 ?a12 ?l12 ?c12 ?k12 ?aC13 ?a13 ?i13 ?l13 ?c13 ?k13 ?pg13 ?hd13 ?po13 ?sa13 ?aC14 ?a14 ?i14 ?l14 ?c14 ?k14 ?pg14 ?hd14 ?po14 ?sa14 ?aC15 ?a15 ?i15 ?l15 ?c15 ?k15 ?pg15 ?hd15 ?po15 ?sa15 ?aC16 ?a16 ?i16 ?l16 ?c16 ?k16 ?pg16 ?hd16 ?po16 ?sa16 ?a17 ?l17 ?c17 ?k17 ?aC18 ?a18 ?i18 ?l18 ?c18 ?k18 ?pg18 ?hd18 ?po18 ?sa18 ?aC19 ?a19 ?i19 ?l19 ?c19 ?k19 ?pg19 ?hd19 ?po19 ?sa19 ?mk19 ?kc19 ?n19_door ?aC20 ?a20 ?i20 ?l20 ?c20 ?k20 ?pg20 ?hd20 ?po20 ?sa20 ?mk20 ?kc20 ?n20_door ?a21 ?l21 ?c21 ?k21 ?a22 ?l22 ?c22 ?k22 ?aC23 ?a23 ?i23 ?l23 ?c23 ?k23 ?pg23 ?hd23 ?po23 ?sa23 ?mk23 ?kc23 ?n23_door ?n23_place ?n23_heights ?a24 ?l24 ?c24 ?k24 ?a25 ?l25 ?c25 ?k25 ?aC26 ?a26 ?i26 ?l26 ?c26 ?k26 ?pg26 ?hd26 ?po26 ?sa26 ?mk26 ?kc26 ?n26_key ?a27 ?l27 ?c27 ?k27 ?aC28 ?a28 ?i28 ?l28 ?c28 ?k28 ?pg28 ?hd28 ?po28 ?sa28 ?mk28 ?kc28 ?n28_key ?n28_place ?n28_depth ?a29 ?l29 ?c29 ?k29 ?a30 ?l30 ?c30 ?k30 ?a31 ?l31 ?c31 ?k31 ?a32 ?l32 ?c32 ?k32 ?a33 ?l33 ?c33 ?k33 ?z0 ?z1 ?z2 ?z3 ?z4 ?z5 ?z6 ?z7 ?z8 ?z9
  (case a0=>k_is);(case l0=>k_is);(case c0=>k_is);(case k0=>k_is);(case a1=>k_is);(case l1=>k_is)
  (case c1=>k_is);(case k1=>k_is);(case a2=>k_is);(case l2=>k_is);(case c2=>k_is);(case k2=>k_is)
  (case a3=>k_is);(case l3=>k_is);(case c3=>k_is);(case k3=>k_is);(case a4=>k_is);(case l4=>k_is)
  (case c4=>k_is);(case k4=>k_is);(case a5=>k_is);(case l5=>k_is);(case c5=>k_is);(case k5=>k_is)
  (case a6=>k_is);(case l6=>k_is);(case c6=>k_is);(case k6=>k_is);(case a7=>k_is);(case l7=>k_is)
  (case c7=>k_is);(case k7=>k_is);(case a8=>k_is);(case l8=>k_is);(case c8=>k_is);(case k8=>k_is)
  (case a9=>k_is);(case l9=>k_is);(case c9=>k_is);(case k9=>k_is);(case a10=>k_is);(case l10=>k_is)
  (case c10=>k_is);(case k10=>k_is);(case a11=>k_is);(case l11=>k_is);(case c11=>k_is);(case k11=>k_is)
  (case a12=>k_is);(case l12=>k_is);(case c12=>k_is);(case k12=>k_is);(case aC13=>k_is);(case a13=>k_is)
  (case i13=>k_is);(case l13=>k_is);(case c13=>k_is);(case k13=>k_is);(case pg13=>k_is);(case hd13=>k_is)
  (case po13=>k_is);(case sa13=>k_is);(case aC14=>k_is);(case a14=>k_is);(case i14=>k_is);(case l14=>k_is)
  (case c14=>k_is);(case k14=>k_is);(case pg14=>k_is);(case hd14=>k_is);(case po14=>k_is);(case sa14=>k_is)
  (case aC15=>k_is);(case a15=>k_is);(case i15=>k_is);(case l15=>k_is);(case c15=>k_is);(case k15=>k_is)
  (case pg15=>k_is);(case hd15=>k_is);(case po15=>k_is);(case sa15=>k_is);(case aC16=>k_is);(case a16=>k_is)
  (case i16=>k_is);(case l16=>k_is);(case c16=>k_is);(case k16=>k_is);(case pg16=>k_is);(case hd16=>k_is)
  (case po16=>k_is);(case sa16=>k_is);(case a17=>k_is);(case l17=>k_is);(case c17=>k_is);(case k17=>k_is)
  (case aC18=>k_is);(case a18=>k_is);(case i18=>k_is);(case l18=>k_is);(case c18=>k_is);(case k18=>k_is)
  (case pg18=>k_is);(case hd18=>k_is);(case po18=>k_is);(case sa18=>k_is);(case aC19=>k_is);(case a19=>k_is)
  (case i19=>k_is);(case l19=>k_is);(case c19=>k_is);(case k19=>k_is);(case pg19=>k_is);(case hd19=>k_is)
  (case po19=>k_is);(case sa19=>k_is);(case mk19=>k_is);(case kc19=>k_is);(case n19_door=>k_is);(case aC20=>k_is)
  (case a20=>k_is);(case i20=>k_is);(case l20=>k_is);(case c20=>k_is);(case k20=>k_is);(case pg20=>k_is)
  (case hd20=>k_is);(case po20=>k_is);(case sa20=>k_is);(case mk20=>k_is);(case kc20=>k_is);(case n20_door=>k_is)
  (case a21=>k_is);(case l21=>k_is);(case c21=>k_is);(case k21=>k_is);(case a22=>k_is);(case l22=>k_is)
  (case c22=>k_is);(case k22=>k_is);(case aC23=>k_is);(case a23=>k_is);(case i23=>k_is);(case l23=>k_is)
  (case c23=>k_is);(case k23=>k_is);(case pg23=>k_is);(case hd23=>k_is);(case po23=>k_is);(case sa23=>k_is)
  (case mk23=>k_is);(case kc23=>k_is);(case n23_door=>k_is);(case n23_place=>k_is);(case n23_heights=>k_is);(case a24=>k_is)
  (case l24=>k_is);(case c24=>k_is);(case k24=>k_is);(case a25=>k_is);(case l25=>k_is);(case c25=>k_is)
  (case k25=>k_is);(case aC26=>k_is);(case a26=>k_is);(case i26=>k_is);(case l26=>k_is);(case c26=>k_is)
  (case k26=>k_is);(case pg26=>k_is);(case hd26=>k_is);(case po26=>k_is);(case sa26=>k_is);(case mk26=>k_is)
  (case kc26=>k_is);(case n26_key=>k_is);(case a27=>k_is);(case l27=>k_is);(case c27=>k_is);(case k27=>k_is)
  (case aC28=>k_is);(case a28=>k_is);(case i28=>k_is);(case l28=>k_is);(case c28=>k_is);(case k28=>k_is)
  (case pg28=>k_is);(case hd28=>k_is);(case po28=>k_is);(case sa28=>k_is);(case mk28=>k_is);(case kc28=>k_is)
  (case n28_key=>k_is);(case n28_place=>k_is);(case n28_depth=>k_is);(case a29=>k_is);(case l29=>k_is);(case c29=>k_is)
  (case k29=>k_is);(case a30=>k_is);(case l30=>k_is);(case c30=>k_is);(case k30=>k_is);(case a31=>k_is)
  (case l31=>k_is);(case c31=>k_is);(case k31=>k_is);(case a32=>k_is);(case l32=>k_is);(case c32=>k_is)
  (case k32=>k_is);(case a33=>k_is);(case l33=>k_is);(case c33=>k_is);(case k33=>k_is);(case z0=>k_is)
  (case z1=>k_is);(case z2=>k_is);(case z3=>k_is);(case z4=>k_is);(case z5=>k_is);(case z6=>k_is)
  (case z7=>k_is);(case z8=>k_is);(case z9=>k_is)
