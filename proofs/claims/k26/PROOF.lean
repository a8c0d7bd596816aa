import PyProof.Rows.All
import Wide.All
import OpenK.AllK
import Wide.FinOn
import Lean
import PyProof.EqAt
import PyProof.EqKinds
import PyProof.TupleCall
import PyProof.ZipIter
import PyProof.Draws
import PyProof.TupleIter
import PyProof.ListMulRoad
import PyProof.FactsAll.tuple
import PyProof.ReprRoads
import PyProof.Rows.RegFStrParts
import PyProof.Rows.Range3
import KE.KIntText
import PyProof.AutoListH
import PyProof.Rows.MinMaxN
import PyProof.SetScanFacts
import PyProof.SetKind
import PyProof.DictKinds
import PyProof.WalkLemmas
import PyProof.CollectWalk
import PyProof.FactsAll.set
import PyProof.Walks
import PyProof.WalksS
import PyProof.SetRoads
import PyProof.Rows.SetFrom
import PyProof.Rows.SortWalk
import PyProof.EnumMake
import PyProof.EnumFor
import PyProof.DictItemsLoops
import PyProof.DictWalks
import KE.KDictList
import PyProof.Rows.SumAny
import KE.KRevIter
import KE.KDictOf
import PyProof.AttrMissHeap
import PyProof.NsDelKeeps
import PyProof.RulesAs
import KE.KTryMore
import PyProof.ExcArgsOwn
import PySem.Challenge.RW_wardsmith_k26_whole_told_one_by_one
set_option Elab.async false
set_option linter.all false
set_option maxRecDepth 100000
namespace L2
open PySem PySem.Spec PyProof.Rows
abbrev Key:=Sum Int Str
def keyIs:Key→Value→Bool
 | .inl k,v=>Value.isInt k v
 | .inr x,v=>Value.isStrOf x v
def keyH (w:World):Key→Int
 | .inl k=>hashInt k
 | .inr x=>hashStr w x
theorem Az1C:∀ {k:Key} {v:Value},keyIs k v=true→(∃ i t,k=Sum.inl i∧v=Value.int i t)∨(∃ x t,k=Sum.inr x∧v=Value.str x t)
 | .inl i,v,h=>by
  obtain ⟨t,e⟩:=Value.isInt_shape (k:=i) (v:=v) h
  exact .inl ⟨i,t,rfl,e⟩
 | .inr x,v,h=>by
  obtain ⟨t,e⟩:=Value.isStrOf_shape (x:=x) (v:=v) h
  exact .inr ⟨x,t,rfl,e⟩
theorem Cz1C (i:Int) (t:Tok):keyIs (.inl i) (.int i t)=true:=by simp [keyIs,Value.isInt]
theorem Cz1B (x:Str) (t:Tok):keyIs (.inr x) (.str x t)=true:=by simp [keyIs,Value.isStrOf]
theorem key_ll (a b:Int):decide ((Sum.inl a:Key)=Sum.inl b)=(a==b):=by
 by_cases e:a=b
 ·subst e;simp
 ·have h:¬ (Sum.inl a:Key)=Sum.inl b:=fun q=>e (Sum.inl.inj q)
  rw [decide_eq_false h]
  exact (beq_eq_false_iff_ne.mpr e).symm
theorem key_rr (a b:Str):decide ((Sum.inr a:Key)=Sum.inr b)=decide (a=b):=by
 by_cases e:a=b
 ·subst e;simp
 ·have h:¬ (Sum.inr a:Key)=Sum.inr b:=fun q=>e (Sum.inr.inj q)
  rw [decide_eq_false h,decide_eq_false e]
theorem key_lr (a:Int) (b:Str):decide ((Sum.inl a:Key)=Sum.inr b)=false:=decide_eq_false (fun q=>nomatch q)
theorem key_rl (a:Str) (b:Int):decide ((Sum.inr a:Key)=Sum.inl b)=false:=decide_eq_false (fun q=>nomatch q)
def Az3W (prog:Program) (w:World):PySem.KeyKind prog w Key where
 is:=keyIs
 hash:=keyH w
 inj:=fun v a b ha hb=>by
  rcases Az1C ha with ⟨i,t,rfl,rfl⟩|⟨x,t,rfl,rfl⟩
  ·rcases Az1C hb with ⟨j,u,rfl,e⟩|⟨y,u,rfl,e⟩
   ·injection e with e1 _;rw [e1]
   ·exact nomatch e
  ·rcases Az1C hb with ⟨j,u,rfl,e⟩|⟨y,u,rfl,e⟩
   ·exact nomatch e
   ·injection e with e1 _;rw [e1]
 byValue:=fun k v h=>by
  rcases Az1C h with ⟨i,t,rfl,rfl⟩|⟨x,t,rfl,rfl⟩<;>rfl
 pyHash:=fun hv h=>by
  rcases Az1C hv with ⟨i,t,rfl,rfl⟩|⟨x,t,rfl,rfl⟩
  ·exact wpAny_pyHash_int h
  ·exact wpAny_pyHash_str h
 eqBool:=fun hu hv h=>by
  rcases Az1C hu with ⟨i,t,rfl,rfl⟩|⟨x,t,rfl,rfl⟩
  ·rcases Az1C hv with ⟨j,u,rfl,rfl⟩|⟨y,u,rfl,rfl⟩
   ·rw [key_ll] at h;exact wpAny_eqBool_int h
   ·rw [key_lr] at h;exact SeqAt.EqAt.int_str i t y u _ _ _ _ h
  ·rcases Az1C hv with ⟨j,u,rfl,rfl⟩|⟨y,u,rfl,rfl⟩
   ·rw [key_rl] at h;exact SeqAt.EqAt.str_int x t j u _ _ _ _ h
   ·rw [key_rr] at h;exact wpAny_eqBool_str h
 «strs» :=fun k x t v h=>by
  rcases Az1C h with ⟨i,u,rfl,e⟩|⟨y,u,rfl,e⟩
  ·exact nomatch e
  ·injection e with e1 _
   subst e1
   cases v<;>rfl
theorem Bz5S (prog:Program) (w:World) (i:Int) (t:Tok):(Az3W prog w).is (.inl i) (.int i t)=true:=Cz1C i t
theorem Bz5R (prog:Program) (w:World) (x:Str) (t:Tok):(Az3W prog w).is (.inr x) (.str x t)=true:=Cz1B x t
end L2
namespace L2
open PySem PySem.Spec PyProof.Rows
inductive V where
 |non|bl (b:Bool)|int (i:Int)|str (x:Str)|byt (b:Array UInt8)|flt (b:UInt64)|ref (a:Addr)|ty (n:String)
 deriving DecidableEq
def RelV:V→Value→Prop
 | .non,u=>u=Value.none
 | .bl b,u=>u=Value.bool b
 | .int i,u=>∃ t,u=Value.int i t
 | .str x,u=>∃ t,u=Value.str x t
 | .byt b,u=>∃ t,u=Value.bytes b t
 | .flt b,u=>∃ t,u=Value.float b t
 | .ref a,u=>u=Value.ref a
 | .ty n,u=>u=Value.type n
abbrev Vals:List V→List Value→Prop:=Paired RelV
theorem Vals.length {xs:List V} {us:List Value} (r:Vals xs us):xs.length=us.length:=Paired.length r
theorem Vals.get:∀ {xs:List V} {us:List Value} {i:Nat} {x:V},Vals xs us→xs[i]? =some x→∃ u,us[i]? =some u∧RelV x u
 |_,_,_,_, .nil,e=>by simp at e
 |_,_,0,_, .cons r _,e=>by simp at e;subst e;exact ⟨_,rfl,r⟩
 |_,_,i+1,x, .cons _ t,e=>by
  obtain ⟨u,h1,h2⟩:=Vals.get (i:=i) (x:=x) t (by simpa using e)
  exact ⟨u,by simpa using h1,h2⟩
theorem Vals.set {x:V} {u:Value} (r:RelV x u):∀ {xs:List V} {us:List Value} (i:Nat),Vals xs us→Vals (xs.set i x) (us.set i u)
 |_,_,_, .nil=> .nil
 |_,_,0, .cons _ t=> .cons r t
 |_,_,i+1, .cons q t=> .cons q (Vals.set r i t)
theorem Vals.append:∀ {xs ys:List V} {us ws:List Value},Vals xs us→Vals ys ws→Vals (xs++ys) (us++ws)
 |_,_,_,_, .nil,s=>s
 |_,_,_,_, .cons r t,s=> .cons r (Vals.append t s)
theorem Vals.take:∀ {xs:List V} {us:List Value} (n:Nat),Vals xs us→Vals (xs.take n) (us.take n)
 |_,_,0,_=> .nil
 |_,_,_+1, .nil=> .nil
 |_,_,n+1, .cons r t=> .cons r (Vals.take n t)
theorem Vals.drop:∀ {xs:List V} {us:List Value} (n:Nat),Vals xs us→Vals (xs.drop n) (us.drop n)
 |_,_,0,r=>r
 |_,_,_+1, .nil=> .nil
 |_,_,n+1, .cons _ t=>Vals.drop n t
def RelO:Option V→Option Value→Prop
 |some v,some u=>RelV v u
 |none,none=>True
 |_,_=>False
def KV {κ:Type}:List (κ×V)→List (κ×Value)→Prop:=Paired fun (p:κ×V) (q:κ×Value)=>p.1=q.1∧RelV p.2 q.2
def kV:Key→V
 | .inl i=> .int i
 | .inr x=> .str x
inductive HO where
  |lst (xs:List V)
  |tup (xs:List V)
  |dK (kvs:List (Key×V))|dT (kvs:List (List Key×V))
  |set (S:Int→Bool) (n:Nat)
  |ins (C dx:Addr) (fs:List (Str×V))
  |own (x:Addr)
  |xd (fs:List (Str×V))
  |met (f x:Addr)
  |rng (lo hi:Int)
  |frz (o:Obj) (u:HO)
  |tbl (ps:Array Value)
  |ext (φ:Heap→Prop)
abbrev Hp:=Addr→Option HO
def upd (H:Hp) (a:Addr) (o:HO):Hp:=fun b=>if b=a then some o else H b
theorem Az0L {H:Hp} {a:Addr} {o:HO}:upd H a o a=some o:=by unfold upd;rw [if_pos rfl]
theorem upd_ne {H:Hp} {a b:Addr} {o:HO} (h:b≠a):upd H a o b=H b:=by unfold upd;rw [if_neg h]
theorem Az0J {H:Hp} {a b:Addr} {o:HO} (h:H a=some o) (h':H b=none):a≠b:=by
 intro e;subst e;rw [h] at h';cases h'
section
variable (P:Program) (w:World)
def ObjOk (H:Hp) (h:Heap) (a:Addr):HO→Prop
 | .lst xs=>xs.length≤sizeLine∧∃ (its:List Value) (n:Nat),Vals xs its∧h.get? a=some {cls:= .type "list",data:= .seq its.toArray n}
 | .tup xs=>xs.length≤sizeLine∧∃ its:List Value,Vals xs its∧IsTup h a its.toArray
 | .dK kvs=>kvs.length≤sizeLine∧(a==sysModules)=false∧∃ vs,KV kvs vs∧h.DictOf (Az3W P w) a vs
 | .dT kvs=>kvs.length≤sizeLine∧(a==sysModules)=false∧∃ xs:List (List Key×Addr×Value),
   Paired (fun (p:List Key×V) (q:List Key×Addr×Value)=>p.1=q.1∧H q.2.1=some (.tup (p.1.map kV))∧RelV p.2 q.2.2) kvs xs∧
   ∃ o es ep,h.get? a=some o∧o.ExactDict∧o.data= .dict es ep∧es.toList=xs.map (entryOfKey (tupleKind (Az3W P w)))∧(xs.map (·.1)).Nodup
 | .set S n=>h.SetOf (intKind P w) a S n
 | .ins C dx fs=>H dx=some (.own a)∧fs.length≤1000∧dx≠a∧h.get? a=some (PySem.W.instObj C dx)∧
   ∃ mA,h.Ns1 dx mA∧(∀ f,RelO (fs.lookup f) (mA f))∧PySem.Within mA (fs.map (·.1))
 | .own _=>∃ o,h.get? a=some o
 | .xd fs=>∃ mA,h.Ns1 a mA∧∀ f,RelO (fs.lookup f) (mA f)
 | .rng lo hi=>∃ t u v,h.get? a=some {cls:= .type "range",data:= .fields #[.int lo t, .int hi u, .int 1 v]}
 | .frz o u=>h.get? a=some o∧ObjOk H h a u
 | .tbl ps=>h.get? a=some {cls:= .none,data:= .fields ps}
 | .met f x=>h.get? a=some (PySem.W.methodObj (.ref f) (.ref x))
 | .ext φ=>φ h∧(∃ o,h.get? a=some o)∧∀ h1 h2:Heap,φ h1→(∀ o,h1.get? a=some o→h2.get? a=some o)→φ h2
def HOk (H:Hp) (h:Heap):Prop:=∀ a o,H a=some o→ObjOk P w H h a o
end
section
variable {P:Program} {w:World} {H H':Hp} {h h':Heap} {a:Addr} {o:HO}
theorem ObjOk.lt (x:ObjOk P w H h a o):a<h.objs.size:=by
 cases o with
 |lst xs=>obtain ⟨_,_,_,_,e⟩:=x;exact Heap.lt_size e
 |tup xs=>obtain ⟨_,_,_,p⟩:=x;exact p.lt
 |dK kvs=>obtain ⟨_,_,_,_,o,_,_,e,_⟩:=x;exact Heap.lt_size e
 |dT kvs=>obtain ⟨_,_,_,_,o,_,_,e,_⟩:=x;exact Heap.lt_size e
 |set S n=>obtain ⟨o,_,_,_,e,_⟩:=x;exact Heap.lt_size e
 |ins C dx fs=>obtain ⟨_,_,_,e,_⟩:=x;exact Heap.lt_size e
 |own y=>obtain ⟨_,e⟩:=x;exact Heap.lt_size e
 |xd fs=>obtain ⟨_,⟨_,_,_,e,_⟩,_⟩:=x;exact Heap.lt_size e
 |rng lo hi=>obtain ⟨_,_,_,e⟩:=x;exact Heap.lt_size e
 |frz ob u=>obtain ⟨e,_⟩:=x;exact Heap.lt_size e
 |tbl ps=>exact Heap.lt_size (show h.get? a=some _ from x)
 |met f y=>exact Heap.lt_size (show h.get? a=some _ from x)
 |ext φ=>obtain ⟨_,⟨_,e⟩,_⟩:=x;exact Heap.lt_size e
theorem Paired.mapP {α β:Type} {F G:α→β→Prop}:∀ {l₁:List α} {l₂:List β},Paired F l₁ l₂→(∀ a b,F a b→G a b)→Paired G l₁ l₂
 |_,_, .nil,_=> .nil
 |_,_, .cons r t,f=> .cons (f _ _ r) (Paired.mapP t f)
theorem ObjOk.stay (x:ObjOk P w H h a o) (k:∀ b u,(b=a∨H b=some (.own a))→h.get? b=some u→h'.get? b=some u)
  (ho:∀ b,H b=some (.own a)→H' b=some (.own a)) (ht:∀ b xs,H b=some (.tup xs)→H' b=some (.tup xs)):ObjOk P w H' h' a o:=by
 induction o with
 |lst xs=>obtain ⟨z,its,n,r,e⟩:=x;exact ⟨z,its,n,r,k _ _ (.inl rfl) e⟩
 |tup xs=>obtain ⟨z,its,r,ob,e,c⟩:=x;exact ⟨z,its,r,ob,k _ _ (.inl rfl) e,c⟩
 |dK kvs=>obtain ⟨z,y,vs,r,ob,es,ep,e,c⟩:=x;exact ⟨z,y,vs,r,ob,es,ep,k _ _ (.inl rfl) e,c⟩
 |dT kvs=>
  obtain ⟨z,y,xs,r,ob,es,ep,e,c⟩:=x
  exact ⟨z,y,xs,Paired.mapP r fun p q z=>⟨z.1,ht _ _ z.2.1,z.2.2⟩,ob,es,ep,k _ _ (.inl rfl) e,c⟩
 |set S n=>obtain ⟨ob,es,ep,t,e,c⟩:=x;exact ⟨ob,es,ep,t,k _ _ (.inl rfl) e,c⟩
 |ins C dx fs=>
  obtain ⟨d,z,ne,e,mA,⟨od,es,ep,e2,c⟩,r⟩:=x
  exact ⟨ho _ d,z,ne,k _ _ (.inl rfl) e,mA,⟨od,es,ep,k _ _ (.inr d) e2,c⟩,r⟩
 |own y=>obtain ⟨ob,e⟩:=x;exact ⟨ob,k _ _ (.inl rfl) e⟩
 |xd fs=>obtain ⟨mA,⟨od,es,ep,e,c⟩,r⟩:=x;exact ⟨mA,⟨od,es,ep,k _ _ (.inl rfl) e,c⟩,r⟩
 |rng lo hi=>obtain ⟨t,u,v,e⟩:=x;exact ⟨t,u,v,k _ _ (.inl rfl) e⟩
 |frz ob u ih=>obtain ⟨e,q⟩:=x;exact ⟨k _ _ (.inl rfl) e,ih q⟩
 |tbl ps=>
  have e:h.get? a=some {cls:= .none,data:= .fields ps}:=x
  show h'.get? a=some {cls:= .none,data:= .fields ps}
  exact k a _ (.inl rfl) e
 |met f y=>
  have e:h.get? a=some (PySem.W.methodObj (.ref f) (.ref y)):=x
  show h'.get? a=some (PySem.W.methodObj (.ref f) (.ref y))
  exact k a _ (.inl rfl) e
 |ext φ=>obtain ⟨p,⟨o,e⟩,st⟩:=x;exact ⟨st _ _ p fun o q=>k _ _ (.inl rfl) q,⟨o,k _ _ (.inl rfl) e⟩,st⟩
theorem HOk.lt (x:HOk P w H h) (e:H a=some o):a<h.objs.size:=(x a o e).lt
theorem HOk.fresh (x:HOk P w H h) (e:h.objs.size≤a):H a=none:=by
 cases q:H a with
 |none=>rfl
 |some u=>exact absurd (Nat.lt_of_lt_of_le (x.lt q) e) (Nat.lt_irrefl _)
theorem HOk.kept (x:HOk P w H h) (k:∀ b u,h.get? b=some u→h'.get? b=some u):HOk P w H h':=fun a o e=>
 (x a o e).stay (fun b u _ q=>k b u q) (fun _ q=>q) fun _ _ q=>q
theorem HOk.laid (x:HOk P w H h) (k:∀ b u,h.get? b=some u→h'.get? b=some u) (hp:h.objs.size≤a) (new:ObjOk P w (upd H a o) h' a o):HOk P w (upd H a o) h':=fun b u e=>by
 have hn:=x.fresh hp
 by_cases hb:b=a
 ·subst hb;rw [Az0L] at e;cases e;exact new
 ·rw [upd_ne hb] at e
  exact (x b u e).stay (fun c v _ q=>k c v q) (fun c q=>by rw [upd_ne (Az0J q hn)];exact q) fun c xs q=>by rw [upd_ne (Az0J q hn)];exact q
end
def Rd (H:Hp) (a:Addr) (u:HO):Prop:=H a=some u∨∃ o,H a=some (.frz o u)
theorem Rd.of {H:Hp} {a:Addr} {u:HO} (h:H a=some u):Rd H a u:= .inl h
theorem Rd.ok {P:Program} {w:World} {H:Hp} {h:Heap} {a:Addr} {u:HO} (r:Rd H a u) (x:HOk P w H h):ObjOk P w H h a u:=by
 rcases r with r|⟨o,r⟩
 ·exact x a u r
 ·obtain ⟨_,q⟩:=x a _ r
  exact q
def Mut:Option HO→Prop
 |some (.lst _)=>True
 |some (.dK _)=>True
 |some (.dT _)=>True
 |some (.set _ _)=>True
 |some (.ins _ _ _)=>True
 |some (.ext _)=>True
 |_=>False
section
variable {P:Program} {w:World} {H:Hp} {h h':Heap} {x e:Addr} {o':HO}
theorem HOk.write (ok:HOk P w H h) (mu:Mut (H x)) (he:e=x∨H e=some (.own x)) (k:∀ b u,b≠e→h.get? b=some u→h'.get? b=some u) (heo:∃ u,h'.get? e=some u)
  (new:ObjOk P w (upd H x o') h' x o'):HOk P w (upd H x o') h':=fun b u q=>by
 have nown:∀ c y,H c=some (.own y)→c≠x:=fun c y r z=>by subst z;rw [r] at mu;exact mu
 have ntup:∀ c xs,H c=some (.tup xs)→c≠x:=fun c xs r z=>by subst z;rw [r] at mu;exact mu
 by_cases hb:b=x
 ·subst hb;rw [Az0L] at q;cases q;exact new
 ·rw [upd_ne hb] at q
  by_cases hbe:b=e
  ·have q':H b=some (.own x):=by
    rcases he with z|z
    ·exact absurd (hbe.trans z) hb
    ·rw [hbe];exact z
   rw [q] at q';cases q'
   obtain ⟨v,hv⟩:=heo
   exact ⟨v,by rw [hbe];exact hv⟩
  ·refine (ok b u q).stay (fun c v hc r=>k c v ?_ r) (fun c r=>by rw [upd_ne (nown c b r)];exact r) fun c xs r=>by rw [upd_ne (ntup c xs r)];exact r
   rcases hc with rfl|hc
   ·exact hbe
   ·rintro rfl
    rcases he with z|z
    ·exact nown c b hc z
    ·rw [hc] at z;cases z;exact hb rfl
end
structure Un (fs ex:List Addr) (H H':Hp) (h h':Heap):Prop where
 keep:∀ b o,h.get? b=some o→H b=none→b∉fs→b∉ex→h'.get? b=some o
 slot:∀ b o,h.get? b=some o→H b=none→b∈fs→b∉ex→∃ sl,h'.get? b=some {o with slots:=sl}
 free:∀ b o,h.get? b=some o→H b=none→b∉ex→H' b=none
 there:∀ b o,h.get? b=some o→b∉ex→∃ o',h'.get? b=some o'
 tups:∀ b xs,H b=some (.tup xs)→H' b=some (.tup xs)
 frzs:∀ b o u,H b=some (.frz o u)→H' b=some (.frz o u)
 tbls:∀ b ps,H b=some (.tbl ps)→∃ more,H' b=some (.tbl (ps++more))
section
variable {fs fs' ex ex':List Addr} {H H1 H2:Hp} {h h1 h2 h':Heap} {a x e:Addr} {o:HO}
theorem Un.any (u:Un fs ex H H1 h h1) {b:Addr} {ob:Obj} (q:h.get? b=some ob) (n:H b=none) (hx:b∉ex):∃ sl,h1.get? b=some {ob with slots:=sl}:=by
 by_cases hb:b∈fs
 ·exact u.slot b ob q n hb hx
 ·exact ⟨ob.slots,u.keep b ob q n hb hx⟩
theorem Un.trans (a:Un fs ex H H1 h h1) (b:Un fs ex H1 H2 h1 h2):Un fs ex H H2 h h2 where
 keep:=fun c ob q n hc hx=>b.keep c ob (a.keep c ob q n hc hx) (a.free c ob q n hx) hc hx
 slot:=fun c ob q n hc hx=>by
  obtain ⟨sl,e1⟩:=a.slot c ob q n hc hx
  obtain ⟨sl',e2⟩:=b.slot c _ e1 (a.free c ob q n hx) hc hx
  exact ⟨sl',e2⟩
 free:=fun c ob q n hx=>by
  obtain ⟨o',e1⟩:=a.there c ob q hx
  exact b.free c o' e1 (a.free c ob q n hx) hx
 there:=fun c ob q hx=>by
  obtain ⟨o',e1⟩:=a.there c ob q hx
  exact b.there c o' e1 hx
 tups:=fun c xs q=>b.tups c xs (a.tups c xs q)
 frzs:=fun c ob xs q=>b.frzs c ob xs (a.frzs c ob xs q)
 tbls:=fun c ps q=>by
  obtain ⟨m1,e1⟩:=a.tbls c ps q
  obtain ⟨m2,e2⟩:=b.tbls c _ e1
  exact ⟨m1++m2,by rw [e2,Array.append_assoc]⟩
theorem Un.kept (k:∀ b u,h.get? b=some u→h'.get? b=some u):Un fs ex H H h h':=
 ⟨fun b ob q _ _ _=>k b ob q,fun b ob q _ _ _=>⟨ob.slots,k b ob q⟩,fun _ _ _ n _=>n,fun b ob q _=>⟨ob,k b ob q⟩,fun _ _ q=>q,fun _ _ _ q=>q,fun _ ps q=>⟨#[],by rw [q];simp⟩⟩
theorem Un.refl:Un fs ex H H h h:=Un.kept fun _ _ q=>q
theorem Un.laid (k:∀ b u,h.get? b=some u→h'.get? b=some u) (hp:h.objs.size≤a) (hn:H a=none):Un fs ex H (upd H a o) h h' where
 keep:=fun b u q _ _ _=>k b u q
 slot:=fun b u q _ _ _=>⟨u.slots,k b u q⟩
 free:=fun b u q n _=>by rw [upd_ne (Nat.ne_of_lt (Nat.lt_of_lt_of_le (Heap.lt_size q) hp))];exact n
 there:=fun b u q _=>⟨u,k b u q⟩
 tups:=fun b xs q=>by rw [upd_ne (Az0J q hn)];exact q
 frzs:=fun b u xs q=>by rw [upd_ne (Az0J q hn)];exact q
 tbls:=fun b ps q=>⟨#[],by rw [upd_ne (Az0J q hn),q];simp⟩
theorem Un.write (mu:Mut (H x)) (he:e=x∨H e=some (.own x)) (k:∀ b u,b≠e→h.get? b=some u→h'.get? b=some u) (heo:∃ u,h'.get? e=some u):Un fs ex H (upd H x o) h h':=by
 have hx:∀ b,H b=none→b≠x:=fun b n z=>by subst z;rw [n] at mu;exact mu
 have hb:∀ b,H b=none→b≠e:=fun b n z=>by
  subst z
  rcases he with r|r
  ·exact hx b n r
  ·rw [n] at r;cases r
 have hm:∀ b u,H b=some u→¬ Mut (some u)→b≠x:=fun b u q nm z=>by subst z;rw [q] at mu;exact nm mu
 refine ⟨fun b u q n _ _=>k b u (hb b n) q,fun b u q n _ _=>⟨u.slots,k b u (hb b n) q⟩,fun b u q n _=>by rw [upd_ne (hx b n)];exact n,fun b u q _=> ?_,
  fun b xs q=>by rw [upd_ne (hm b _ q fun z=>z)];exact q,fun b u xs q=>by rw [upd_ne (hm b _ q fun z=>z)];exact q,fun b ps q=>⟨#[],by rw [upd_ne (hm b _ q fun z=>z),q];simp⟩⟩
 by_cases hbe:b=e
 ·subst hbe;exact heo
 ·exact ⟨u,k b u hbe q⟩
theorem Un.mono (u:Un fs ex H H1 h h1) (hs:∀ b∈fs,b∈fs') (hx:∀ b∈ex,b∈ex'):Un fs' ex' H H1 h h1:=
 ⟨fun b ob q n hb he=>u.keep b ob q n (fun z=>hb (hs b z)) fun z=>he (hx b z),fun _ _ q n _ he=>u.any q n fun z=>he (hx _ z),fun b ob q n he=>u.free b ob q n fun z=>he (hx b z),fun b ob q he=>u.there b ob q fun z=>he (hx b z),u.tups,u.frzs,u.tbls⟩
end
def trk (h:Heap) (H:Hp):List Addr:=(List.range h.objs.size).filter fun a=>(H a).isSome
def hidT (h:Heap) (H:Hp):Heap:=PySem.W.hideAll h (trk h H)
theorem Cz1G (h:Heap) (H:Hp):(hidT h H).objs.size=h.objs.size:=PySem.W.hideAll_size _ _
theorem Cz5G {h:Heap} {H:Hp} {b:Addr} {o:Obj} (e:h.get? b=some o) (n:H b=none):(hidT h H).get? b=some o:=
 PySem.W.hideAll_get _ e fun hm=>by
  have q:(H b).isSome=true:=(List.mem_filter.mp hm).2
  rw [n] at q;simp at q
theorem Cz8F {h:Heap} {H:Hp} {b:Addr} {o:Obj} (e:(hidT h H).get? b=some o):h.get? b=some o∧H b=none:=by
 have e':h.get? b=some o:=PySem.W.of_hideAll (trk h H) e
 refine ⟨e',?_⟩
 cases q:H b with
 |none=>rfl
 |some x=>
  have hm:b∈trk h H:=List.mem_filter.mpr ⟨List.mem_range.mpr (Heap.lt_size e'),by simp [q]⟩
  have z:(hidT h H).get? b=none:=PySem.W.hideAll_none (trk h H) hm
  rw [z] at e;cases e
def Dz0F (g h:Heap) (L:Addr):List (Addr×Obj):=(List.range h.objs.size).filterMap fun a=>if a=L∨(g.get? a).isSome=true then none else (h.get? a).map fun o=>(a,o)
def rest (g h:Heap) (L d:Addr):List (Addr×Obj):=(Dz0F g h L).filter fun p=>decide (p.1≠d)
end L2
namespace L2
open PySem PySem.Spec PyProof.Rows
structure Mod (K:PySem.W.Frag) (mg:Str→Option Value) (base:Heap):Prop where
 kin:K.In base
 glob:base.Ns mainGlobals mg
 blt:∃ mb,base.Ns builtinsNs mb∧∀ x:Str,x≠"__name__"→mb x=bootBuiltins x
 nolimit:base.NoLimit
structure Cx where
 prog:Program
 w:World
 K:PySem.W.Frag
 mg:Str→Option Value
 base:Heap
 A:Around
 N:List Str
 s₀:Shared
 H₀:Hp
 env:Env
 outer:List Env
 stack:List Env
 ex:List Addr
 fn:Str→Bool
 calm:Bool
 pn:List (Addr×Obj)
 xe:Value→Shared→Prop
def frs (l:List Env):List Addr:=l.filterMap (·.frame)
abbrev Cx.fs (X:Cx):List Addr:=frs X.outer
def Vis (sc:Scope) (x:Str):Prop:=sc.names.lookup x=some .local∨sc.names.lookup x=some .cell∨sc.names.lookup x=some .free
def Loc (sc:Scope) (x:Str):Prop:=sc.names.lookup x=some .local∨sc.names.lookup x=some .cell
def Look (env:Env) (h:Heap) (m:Str→Option Value) (x:Str) (u:Value):Prop:=
 (env.kindOf x=some .local∧m x=some u)∨((env.kindOf x=some .cell∨env.kindOf x=some .free)∧∃ c,env.cells.lookup x=some c∧h.IsCell c (some u))
structure Cx.Ok (X:Cx):Prop where
 mod:Mod X.K X.mg X.base
 kind:X.env.scope.kind= .function
 glob:X.env.globals=mainGlobals
 blt:X.env.builtins=builtinsNs
 above:X.s₀.heap.objs.size≤X.env.locals
 inj:∀ x y c,X.env.cells.lookup x=some c→X.env.cells.lookup y=some c→x=y
 has:∀ x,(X.env.kindOf x=some .cell∨X.env.kindOf x=some .free)→∃ c,X.env.cells.lookup x=some c
 cab:∀ x c,X.fn x=true→X.env.cells.lookup x=some c→X.s₀.heap.objs.size≤c
 hd:X.calm=true→X.A.handled=none
 frames:X.A.frames=some X.stack
 stk:X.stack=X.outer∨(X.stack=X.env::X.outer∧X.env.frame=some X.env.locals)
 exf:∀ b∈X.ex,b≠X.env.locals∧∀ x c,X.env.cells.lookup x=some c→c≠b
 bs:∀ b o,X.base.get? b=some o→X.s₀.heap.get? b=some o∧X.H₀ b=none
 bsz:X.base.objs.size≤X.s₀.heap.objs.size
 noex:∀ b o,X.base.get? b=some o→b∉X.ex
 exfs:∀ b∈X.ex,b∉X.fs
 funs:X.s₀.heap.FunFrames X.base X.outer
 frf:∀ b∈X.fs,X.H₀ b=none
structure Inv (X:Cx) (pins:List (Addr×Obj)) (σ:List (Option V)) (H:Hp) (s:Shared):Prop where
 ok:X.Ok
 os:s.os=X.s₀.os
 bare:AllBare s.gens
 base:Un X.fs X.ex X.H₀ H X.s₀.heap s.heap
 loc:∃ m,s.heap.Ns X.env.locals m∧∀ (i:Nat) (x:Str) (v:V),X.N[i]? =some x→σ[i]? =some (some v)→Vis X.env.scope x→∃ u,RelV v u∧Look X.env s.heap m x u
 cell:∀ x c,X.env.cells.lookup x=some c→∃ v,s.heap.IsCell c v
 free:H X.env.locals=none
 freeC:∀ x c,X.env.cells.lookup x=some c→H c=none
 pin:∀ p∈X.pn++pins,s.heap.get? p.1=some p.2∧H p.1=none∧p.1≠X.env.locals∧p.1∉X.fs∧∀ v,p.2.data≠ .cell v
 hok:HOk X.prog X.w H s.heap
 len:σ.length=X.N.length
section
variable {X:Cx} {pins:List (Addr×Obj)} {σ:List (Option V)} {H H':Hp} {s:Shared} {h':Heap}
theorem Cx.Ok.nofr (ok:X.Ok) {b:Addr} {o:Obj} (e:X.base.get? b=some o):b∉X.fs:=fun hb=>by
 have:=(ok.funs.mem hb).1
 rw [e] at this;cases this
theorem Inv.bs (I:Inv X pins σ H s):∀ b o,X.base.get? b=some o→s.heap.get? b=some o∧H b=none:=fun b o e=>
 ⟨I.base.keep b o (I.ok.bs b o e).1 (I.ok.bs b o e).2 (I.ok.nofr e) (I.ok.noex b o e),I.base.free b o (I.ok.bs b o e).1 (I.ok.bs b o e).2 (I.ok.noex b o e)⟩
theorem Inv.bk (I:Inv X pins σ H s):∀ b o,X.base.get? b=some o→s.heap.get? b=some o:=fun b o e=>(I.bs b o e).1
theorem Inv.mod (I:Inv X pins σ H s):Mod X.K X.mg X.base:=I.ok.mod
theorem Inv.kIn (I:Inv X pins σ H s):X.K.In s.heap:=I.ok.mod.kin.keeps I.bk
theorem Inv.nolimit (I:Inv X pins σ H s):s.heap.NoLimit:=I.ok.mod.nolimit.keeps I.bk
theorem Inv.fr (I:Inv X pins σ H s):∃ m,Fr X.base X.env.locals s.heap m:=
 let ⟨m,hn,_⟩:=I.loc
 ⟨m,hn,I.bk,Nat.le_trans I.ok.bsz I.ok.above⟩
theorem Inv.lt (I:Inv X pins σ H s):X.env.locals<s.heap.objs.size:=let ⟨_,hn,_⟩:=I.loc;hn.lt
theorem Inv.sz (I:Inv X pins σ H s):X.s₀.heap.objs.size≤s.heap.objs.size:=Nat.le_trans I.ok.above (Nat.le_of_lt I.lt)
theorem Inv.nofs (I:Inv X pins σ H s) {a:Addr} (h:s.heap.objs.size≤a):a∉X.fs:=fun hb=>by
 obtain ⟨_,o,ho,_⟩:=I.ok.funs.mem hb
 exact absurd (Nat.lt_of_lt_of_le (Heap.lt_size ho) (Nat.le_trans I.sz h)) (Nat.lt_irrefl _)
theorem Inv.cne (I:Inv X pins σ H s):∀ x c,X.env.cells.lookup x=some c→c≠X.env.locals:=fun x c e z=>by
 obtain ⟨v,o,ho,hd⟩:=I.cell x c e
 obtain ⟨m,⟨o',es,ep,ho',hd',_⟩,_⟩:=I.loc
 rw [z,ho'] at ho;cases ho;rw [hd'] at hd;cases hd
theorem Inv.funs (I:Inv X pins σ H s):s.heap.FunFrames X.base X.outer:=by
 have all:∀ (l:List Env),(∀ b∈frs l,b∈X.fs)→X.s₀.heap.FunFrames X.base l→s.heap.FunFrames X.base l:=by
  intro l
  induction l with
  |nil=>intro _ _;trivial
  |cons env r ih=>
   intro hs hl
   obtain ⟨hk,⟨L,o,hf,hn,ho,hd⟩,hr⟩:=hl
   have hL:L∈X.fs:=hs L (by unfold frs;rw [List.filterMap_cons,hf];exact List.mem_cons_self)
   obtain ⟨sl,e⟩:=I.base.slot L o ho (I.ok.frf L hL) hL fun z=>I.ok.exfs L z hL
   exact ⟨hk,⟨L,_,hf,hn,e,hd⟩,ih (fun b hb=>hs b (by unfold frs;rw [List.filterMap_cons,hf];exact List.mem_cons_of_mem _ hb)) hr⟩
 exact all X.outer (fun _ hb=>hb) I.ok.funs
theorem Inv.stack (I:Inv X pins σ H s):s.heap.FunFrames X.base X.stack:=by
 rcases I.ok.stk with e|⟨e,hf⟩
 ·rw [e];exact I.funs
 ·rw [e]
  obtain ⟨m,hn,_⟩:=I.loc
  refine .cons (by rw [I.ok.kind];decide) hf hn ?_ I.funs
  exact Heap.get?_none_of_le (Nat.le_trans I.ok.bsz I.ok.above)
theorem Inv.stkSub (I:Inv X pins σ H s):∀ b∈frs X.stack,b∈X.env.locals::X.fs:=fun b hb=>by
 rcases I.ok.stk with e|⟨e,hf⟩
 ·rw [e] at hb;exact List.mem_cons_of_mem _ hb
 ·rw [e] at hb
  unfold frs at hb
  rw [List.filterMap_cons,hf] at hb
  exact hb
theorem Inv.stkFree (I:Inv X pins σ H s):∀ b∈frs X.stack,H b=none:=fun b hb=>by
 rcases List.mem_cons.mp (I.stkSub b hb) with e|hb
 ·rw [e];exact I.free
 ·obtain ⟨_,o,ho,_⟩:=I.ok.funs.mem hb
  exact I.base.free b o ho (I.ok.frf b hb) fun z=>I.ok.exfs b z hb
theorem Inv.step {g':Array GenState} {t':Nat} {d':Drawn} {ch:List Addr} (I:Inv X pins σ H s)
  (hch:∀ b∈ch,(b∈X.ex∨X.s₀.heap.objs.size≤b)∧b≠X.env.locals∧(∀ x c,X.env.cells.lookup x=some c→c≠b)∧∀ p∈X.pn++pins,p.1≠b)
  (keep:∀ b o,b≠X.env.locals→b∉X.fs→b∉ch→s.heap.get? b=some o→H b=none→h'.get? b=some o)
  (slot:∀ b o,b≠X.env.locals→b∈X.fs→b∉ch→s.heap.get? b=some o→H b=none→∃ sl,h'.get? b=some {o with slots:=sl}) (free:∀ b o,b∉ch→s.heap.get? b=some o→H b=none→H' b=none)
  (there:∀ b o,b∉ch→s.heap.get? b=some o→∃ o',h'.get? b=some o')
  (tups:∀ b xs,H b=some (.tup xs)→H' b=some (.tup xs)) (frzs:∀ b o u,H b=some (.frz o u)→H' b=some (.frz o u)) (tbls:∀ b ps,H b=some (.tbl ps)→∃ more,H' b=some (.tbl (ps++more)))
  (ns:∀ m,s.heap.Ns X.env.locals m→h'.Ns X.env.locals m) (hok:HOk X.prog X.w H' h') (hg:AllBare g'):
  Inv X pins σ H' {s with heap:=h',gens:=g',drawn:=d',toks:=t'}:=by
 have neL:∀ b o,X.s₀.heap.get? b=some o→b≠X.env.locals:=fun b o e=>Nat.ne_of_lt (Nat.lt_of_lt_of_le (Heap.lt_size e) I.ok.above)
 have neC:∀ b o,X.s₀.heap.get? b=some o→b∉X.ex→b∉ch:=fun b o e hx hb=>by
  rcases (hch b hb).1 with z|z
  ·exact hx z
  ·exact absurd (Nat.lt_of_lt_of_le (Heap.lt_size e) z) (Nat.lt_irrefl _)
 have cellK:∀ x c,X.env.cells.lookup x=some c→∀ v,s.heap.IsCell c v→h'.IsCell c v:=fun x c e v ⟨o,ho,hd⟩=>by
  have nch:c∉ch:=fun z=>(hch c z).2.2.1 x c e rfl
  by_cases hc:c∈X.fs
  ·obtain ⟨sl,q⟩:=slot c o (I.cne x c e) hc nch ho (I.freeC x c e)
   exact ⟨_,q,hd⟩
  ·exact ⟨o,keep c o (I.cne x c e) hc nch ho (I.freeC x c e),hd⟩
 refine ⟨I.ok,I.os,hg,⟨fun b o e n hb hx=> ?_,fun b o e n hb hx=> ?_,fun b o e n hx=> ?_,fun b o e hx=> ?_,fun b xs e=>tups b xs (I.base.tups b xs e),fun b o xs e=>frzs b o xs (I.base.frzs b o xs e),fun b ps e=> ?_⟩,?_,fun x c e=> ?_,?_,fun x c e=> ?_,fun p hp=> ?_,hok,I.len⟩
 ·exact keep b o (neL b o e) hb (neC b o e hx) (I.base.keep b o e n hb hx) (I.base.free b o e n hx)
 ·obtain ⟨sl,e1⟩:=I.base.slot b o e n hb hx
  obtain ⟨sl',e2⟩:=slot b _ (neL b o e) hb (neC b o e hx) e1 (I.base.free b o e n hx)
  exact ⟨sl',e2⟩
 ·obtain ⟨o',e1⟩:=I.base.there b o e hx
  exact free b o' (neC b o e hx) e1 (I.base.free b o e n hx)
 ·obtain ⟨o',e1⟩:=I.base.there b o e hx
  exact there b o' (neC b o e hx) e1
 ·obtain ⟨m1,e1⟩:=I.base.tbls b ps e
  obtain ⟨m2,e2⟩:=tbls b _ e1
  exact ⟨m1++m2,by rw [e2,Array.append_assoc]⟩
 ·obtain ⟨m,hn,hl⟩:=I.loc
  refine ⟨m,ns m hn,fun i x v e1 e2 e3=> ?_⟩
  obtain ⟨u,r,l⟩:=hl i x v e1 e2 e3
  refine ⟨u,r,?_⟩
  rcases l with l|⟨k,c,e,z⟩
  ·exact .inl l
  ·exact .inr ⟨k,c,e,cellK x c e _ z⟩
 ·obtain ⟨v,z⟩:=I.cell x c e
  exact ⟨v,cellK x c e v z⟩
 ·obtain ⟨m,⟨o,_,_,ho,_⟩,_⟩:=I.loc
  exact free _ o (fun z=>(hch _ z).2.1 rfl) ho I.free
 ·obtain ⟨v,o,ho,hd⟩:=I.cell x c e
  exact free c o (fun z=>(hch c z).2.2.1 x c e rfl) ho (I.freeC x c e)
 ·obtain ⟨e,n,ne,nf,d⟩:=I.pin p hp
  have nch:p.1∉ch:=fun z=>(hch p.1 z).2.2.2 p hp rfl
  exact ⟨keep p.1 p.2 ne nf nch e n,free p.1 p.2 nch e n,ne,nf,d⟩
theorem Inv.un {t':Nat} (I:Inv X pins σ H s) (u:Un X.fs [] H H' s.heap h') (hok:HOk X.prog X.w H' h'):Inv X pins σ H' {s with heap:=h',toks:=t'}:=by
 obtain ⟨m,⟨o,es,ep,ho,r⟩,_⟩:=id I.loc
 obtain ⟨sl,hL⟩:=u.any ho I.free (by simp)
 exact I.step (g':=s.gens) (d':=s.drawn) (ch:= []) (fun _ z=>nomatch z) (fun b o _ hb _ e n=>u.keep b o e n hb (by simp)) (fun b o _ hb _ e n=>u.slot b o e n hb (by simp)) (fun b o _ e n=>u.free b o e n (by simp)) (fun b o _ e=>u.there b o e (by simp)) u.tups u.frzs u.tbls (fun m' hm=>by
  obtain ⟨o',es',ep',ho',r'⟩:=hm
  rw [ho] at ho';cases ho'
  exact ⟨_,es',ep',hL,r'⟩) hok I.bare
theorem Inv.call {g':Array GenState} {t':Nat} {d':Drawn} {ch:List Addr} (I:Inv X pins σ H s) (u:Un (frs X.stack) ch H H' s.heap h') (hok:HOk X.prog X.w H' h') (hg:AllBare g')
  (hch:∀ b∈ch,(b∈X.ex∨X.s₀.heap.objs.size≤b)∧b≠X.env.locals∧(∀ x c,X.env.cells.lookup x=some c→c≠b)∧∀ p∈X.pn++pins,p.1≠b):
  Inv X pins σ H' {s with heap:=h',gens:=g',drawn:=d',toks:=t'}:=by
 obtain ⟨m,⟨o,es,ep,ho,r⟩,_⟩:=id I.loc
 obtain ⟨sl,hL⟩:=u.any ho I.free fun z=>(hch _ z).2.1 rfl
 exact I.step (ch:=ch) hch (fun b o hL hb hc e n=>u.keep b o e n (fun z=>(List.mem_cons.mp (I.stkSub b z)).elim hL hb) hc) (fun b o _ _ hc e n=>u.any e n hc) (fun b o hc e n=>u.free b o e n hc) (fun b o hc e=>u.there b o e hc) u.tups u.frzs u.tbls (fun m' hm=>by
  obtain ⟨o',es',ep',ho',r'⟩:=hm
  rw [ho] at ho';cases ho'
  exact ⟨_,es',ep',hL,r'⟩) hok hg
theorem Inv.turned {t':Nat} {it:Addr} (I:Inv X pins σ H s) (k:∀ b o,b≠it→s.heap.get? b=some o→h'.get? b=some o) (hn:H it=none) (hL:it≠X.env.locals)
  (h1:it∈X.ex∨X.s₀.heap.objs.size≤it) (h2:∀ x c,X.env.cells.lookup x=some c→c≠it) (h3:∀ p∈X.pn++pins,p.1≠it):Inv X pins σ H {s with heap:=h',toks:=t'}:=by
 have nit:∀ b u,H b=some u→b≠it:=fun b u e z=>by rw [z,hn] at e;cases e
 refine I.step (g':=s.gens) (d':=s.drawn) (ch:= [it]) (fun b hb=> ?_) (fun b o _ _ hc e _=>k b o (fun z=>hc (by simp [z])) e) (fun b o _ _ hc e _=>⟨o.slots,k b o (fun z=>hc (by simp [z])) e⟩) (fun _ _ _ _ n=>n)
  (fun b o hc e=>⟨o,k b o (fun z=>hc (by simp [z])) e⟩) (fun _ _ e=>e) (fun _ _ _ e=>e) (fun b ps e=>⟨#[],by rw [e];simp⟩) (fun m hm=> ?_) (fun b u e=> ?_) I.bare
 ·have e:b=it:=by simpa using hb
  subst e
  exact ⟨h1,hL,h2,h3⟩
 ·obtain ⟨o,es,ep,ho,r⟩:=hm
  exact ⟨o,es,ep,k _ o (Ne.symm hL) ho,r⟩
 ·refine (I.hok b u e).stay (fun c v hc q=>k c v ?_ q) (fun _ q=>q) fun _ _ q=>q
  rcases hc with z|z
  ·rw [z];exact nit b u e
  ·exact nit c _ z
theorem Inv.tok (I:Inv X pins σ H s) (t:Nat):Inv X pins σ H {s with toks:=t}:=I.un (h':=s.heap) (t':=t) Un.refl I.hok
theorem Inv.kept {t':Nat} (I:Inv X pins σ H s) (k:∀ b u,s.heap.get? b=some u→h'.get? b=some u):Inv X pins σ H {s with heap:=h',toks:=t'}:=I.un (Un.kept k) (I.hok.kept k)
theorem Inv.laid {a:Addr} {o:HO} {t':Nat} (I:Inv X pins σ H s) (k:∀ b u,s.heap.get? b=some u→h'.get? b=some u) (hp:s.heap.objs.size≤a) (new:ObjOk X.prog X.w (upd H a o) h' a o):
  Inv X pins σ (upd H a o) {s with heap:=h',toks:=t'}:=I.un (Un.laid k hp (I.hok.fresh hp)) (I.hok.laid k hp new)
theorem Inv.write {x e:Addr} {o:HO} {t':Nat} (I:Inv X pins σ H s) (mu:Mut (H x)) (he:e=x∨H e=some (.own x)) (k:∀ b u,b≠e→s.heap.get? b=some u→h'.get? b=some u) (heo:∃ u,h'.get? e=some u)
  (new:ObjOk X.prog X.w (upd H x o) h' x o):Inv X pins σ (upd H x o) {s with heap:=h',toks:=t'}:=I.un (Un.write mu he k heo) (I.hok.write mu he k heo new)
theorem Inv.weak {σ':List (Option V)} (I:Inv X pins σ H s) (hl:σ'.length=σ.length) (w:∀ (i:Nat) v,σ'[i]? =some (some v)→σ[i]? =some (some v)):Inv X pins σ' H s:=
 ⟨I.ok,I.os,I.bare,I.base,let ⟨m,hn,hl'⟩:=I.loc;⟨m,hn,fun i x v e1 e2 e3=>hl' i x v e1 (w i v e2) e3⟩,I.cell,I.free,I.freeC,I.pin,I.hok,hl.trans I.len⟩
theorem Inv.pins_of {pins':List (Addr×Obj)} (I:Inv X pins σ H s) (h:∀ p∈pins',s.heap.get? p.1=some p.2∧H p.1=none∧p.1≠X.env.locals∧p.1∉X.fs∧∀ v,p.2.data≠ .cell v):Inv X pins' σ H s:=
 ⟨I.ok,I.os,I.bare,I.base,I.loc,I.cell,I.free,I.freeC,fun p hp=>(List.mem_append.mp hp).elim (fun z=>I.pin p (List.mem_append_left _ z)) (h p),I.hok,I.len⟩
theorem Bz7R {N:List Str} (hN:N.Nodup) {i j:Nat} {x:Str} (a:N[i]? =some x) (b:N[j]? =some x):i=j:=by
 obtain ⟨h1,e1⟩:=List.getElem?_eq_some_iff.mp a
 obtain ⟨h2,e2⟩:=List.getElem?_eq_some_iff.mp b
 exact (List.getElem_inj hN).mp (e1.trans e2.symm)
theorem Cz0A {M:Model} {A:Around} {E:Value→Shared→Prop} {i:Nat} {x:Str} {v:V} {u:Value} {Q:Unit→Shared→Prop} (I:Inv X pins σ H s) (hN:X.N.Nodup) (hi:X.N[i]? =some x) (hx:Loc X.env.scope x) (r:RelV v u)
  (h:∀ s',Inv X pins (σ.set i (some v)) H s'→(∃ a,Heap.SameBut a s.heap s'.heap∧(a=X.env.locals∨X.env.cells.lookup x=some a))→Q () s') (hf:X.fn x=true∨X.env.scope.names.lookup x=some .local:=by first|exact .inl rfl|exact .inr rfl|assumption):wpAny M A (storeName X.env x u) Q E s:=by
 obtain ⟨m,hn,hl⟩:=id I.loc
 have hcls:(X.env.scope.kind== .class||(X.env.scope.kind== .module&&X.env.locals != X.env.globals))=false:=by rw [I.ok.kind];rfl
 have hiσ:i<σ.length:=by rw [I.len];exact (List.getElem?_eq_some_iff.mp hi).1
 have cne:=I.cne
 have tracked:∀ {a:Addr} {h':Heap},(∃ o,s.heap.get? a=some o∧H a=none)→Heap.SameBut a s.heap h'→HOk X.prog X.w H h':=fun {a h'} ha hs b ob e=>by
  obtain ⟨_,_,hfree⟩:=ha
  refine (I.hok b ob e).stay (fun c w' hc q=>(hs.2 c ?_).trans q) (fun _ q=>q) fun _ _ q=>q
  rintro rfl
  rcases hc with rfl|hc
  ·rw [hfree] at e;cases e
  ·rw [hfree] at hc;cases hc
 rcases hx with hk|hk
 ·refine wpAny_storeName_local hk hn (fun h' hn' hs=> ?_) hcls
  obtain ⟨oL,_,_,hoL,_⟩:=id hn
  refine h _ ⟨I.ok,I.os,I.bare,⟨fun b o e n hb hx=> ?_,fun b o e n hb hx=> ?_,I.base.free,fun b o e hx=> ?_,I.base.tups,I.base.frzs,I.base.tbls⟩,⟨_,hn',fun j y v' e1 e2 e3=> ?_⟩,fun y c e=> ?_,I.free,I.freeC,fun p hp=> ?_,tracked ⟨oL,hoL,I.free⟩ hs,by simpa using I.len⟩ ⟨_,hs, .inl rfl⟩
  ·exact (hs.2 b (Nat.ne_of_lt (Nat.lt_of_lt_of_le (Heap.lt_size e) I.ok.above))).trans (I.base.keep b o e n hb hx)
  ·obtain ⟨sl,e1⟩:=I.base.slot b o e n hb hx
   exact ⟨sl,(hs.2 b (Nat.ne_of_lt (Nat.lt_of_lt_of_le (Heap.lt_size e) I.ok.above))).trans e1⟩
  ·obtain ⟨o',e1⟩:=I.base.there b o e hx
   exact ⟨o',(hs.2 b (Nat.ne_of_lt (Nat.lt_of_lt_of_le (Heap.lt_size e) I.ok.above))).trans e1⟩
  ·by_cases hj:j=i
   ·subst hj
    rw [hi] at e1;cases e1
    rw [List.getElem?_set_self hiσ] at e2
    cases e2
    exact ⟨u,r, .inl ⟨hk,by simp⟩⟩
   ·rw [List.getElem?_set_ne (Ne.symm hj)] at e2
    obtain ⟨u',r',q⟩:=hl j y v' e1 e2 e3
    refine ⟨u',r',?_⟩
    rcases q with ⟨k,e⟩|⟨k,c,e,z⟩
    ·refine .inl ⟨k,?_⟩
     have:y≠x:=fun e=>hj (Bz7R hN e1 (e▸hi))
     simp [this,e]
    ·exact .inr ⟨k,c,e,z.sameBut hs (cne y c e)⟩
  ·obtain ⟨w',z⟩:=I.cell y c e
   exact ⟨w',z.sameBut hs (cne y c e)⟩
  ·obtain ⟨e,n,ne,nf,d⟩:=I.pin p hp
   exact ⟨(hs.2 p.1 ne).trans e,n,ne,nf,d⟩
 ·have hfn:X.fn x=true:=by
   rcases hf with z|z
   ·exact z
   ·rw [z] at hk;cases hk
  obtain ⟨c,hc⟩:=I.ok.has x (.inl hk)
  obtain ⟨w',z⟩:=I.cell x c hc
  refine wpAny_storeName_cell I.ok.kind hk hc z (fun h' hc' hs=> ?_)
  obtain ⟨oc,hoc,hocd⟩:=id z
  refine h {s with heap:=h'} ⟨I.ok,I.os,I.bare,⟨fun b o e n hb hx=> ?_,fun b o e n hb hx=> ?_,I.base.free,fun b o e hx=> ?_,I.base.tups,I.base.frzs,I.base.tbls⟩,⟨m,hn.sameBut hs (Ne.symm (cne x c hc)),fun j y v' e1 e2 e3=> ?_⟩,fun y c' e=> ?_,I.free,I.freeC,fun p hp=> ?_,tracked ⟨oc,hoc,I.freeC x c hc⟩ hs,by simpa using I.len⟩ ⟨c,hs, .inr hc⟩
  ·exact (hs.2 b (Nat.ne_of_lt (Nat.lt_of_lt_of_le (Heap.lt_size e) (I.ok.cab x c hfn hc)))).trans (I.base.keep b o e n hb hx)
  ·obtain ⟨sl,e1⟩:=I.base.slot b o e n hb hx
   exact ⟨sl,(hs.2 b (Nat.ne_of_lt (Nat.lt_of_lt_of_le (Heap.lt_size e) (I.ok.cab x c hfn hc)))).trans e1⟩
  ·obtain ⟨o',e1⟩:=I.base.there b o e hx
   exact ⟨o',(hs.2 b (Nat.ne_of_lt (Nat.lt_of_lt_of_le (Heap.lt_size e) (I.ok.cab x c hfn hc)))).trans e1⟩
  ·by_cases hj:j=i
   ·subst hj
    rw [hi] at e1;cases e1
    rw [List.getElem?_set_self hiσ] at e2
    cases e2
    exact ⟨u,r, .inr ⟨.inl hk,c,hc,hc'⟩⟩
   ·rw [List.getElem?_set_ne (Ne.symm hj)] at e2
    obtain ⟨u',r',q⟩:=hl j y v' e1 e2 e3
    refine ⟨u',r',?_⟩
    rcases q with q|⟨k,c',e,z'⟩
    ·exact .inl q
    ·refine .inr ⟨k,c',e,z'.sameBut hs ?_⟩
     rintro rfl
     exact hj (Bz7R hN e1 (I.ok.inj _ _ _ e hc▸hi))
  ·by_cases hcc:c'=c
   ·subst hcc;exact ⟨_,hc'⟩
   ·obtain ⟨w2,z2⟩:=I.cell y c' e
    exact ⟨w2,z2.sameBut hs hcc⟩
  ·obtain ⟨e,n,ne,nf,d⟩:=I.pin p hp
   refine ⟨(hs.2 p.1 ?_).trans e,n,ne,nf,d⟩
   intro q
   rw [q,hoc] at e
   have q':oc=p.2:=Option.some.inj e
   exact d w' (by rw [←q'];exact hocd)
theorem Az9M {M:Model} {A:Around} {E:Value→Shared→Prop} {i:Nat} {x:Str} {v:V} {u:Value} {Q:Unit→Shared→Prop} (I:Inv X pins σ H s) (hN:X.N.Nodup) (hi:X.N[i]? =some x) (hx:Loc X.env.scope x) (r:RelV v u)
  (h:∀ s',Inv X pins (σ.set i (some v)) H s'→Q () s') (hf:X.fn x=true∨X.env.scope.names.lookup x=some .local:=by first|exact .inl rfl|exact .inr rfl|assumption):wpAny M A (storeName X.env x u) Q E s:=
 Cz0A I hN hi hx r (fun s' I' _=>h s' I') hf
theorem Inv.call' {s':Shared} {ch:List Addr} (I:Inv X pins σ H s) (ho:s'.os=s.os) (u:Un (frs X.stack) ch H H' s.heap s'.heap) (hok:HOk X.prog X.w H' s'.heap) (hg:AllBare s'.gens)
  (hch:∀ b∈ch,(b∈X.ex∨X.s₀.heap.objs.size≤b)∧b≠X.env.locals∧(∀ x c,X.env.cells.lookup x=some c→c≠b)∧∀ p∈X.pn++pins,p.1≠b):Inv X pins σ H' s':=by
 obtain ⟨h',g',d',t',o'⟩:=s'
 have e:o'=s.os:=ho
 subst e
 exact I.call (g':=g') (t':=t') (d':=d') u hok hg hch
end
abbrev XK:=Value→Option Addr→Hp→Prop
abbrev St:=List (Option V)
abbrev VK:=V→Hp→Prop
abbrev TE:=St→Hp→VK→Prop
abbrev TT:=St→Hp→(Bool→Hp→Prop)→Prop
abbrev TA:=St→Hp→(List V→Hp→Prop)→Prop
structure Ends where
 nx:St→Hp→Prop
 rt:VK
 bk:St→Hp→Prop:=fun _ _=>False
 ct:St→Hp→Prop:=fun _ _=>False
abbrev TS:=Ends→St→Hp→Prop
def EP (X:Cx) (pins:List (Addr×Obj)) (σ:St) (Q:VK) (u:Value) (s':Shared):Prop:=∃ v H',Inv X pins σ H' s'∧RelV v u∧Q v H'
def TP (X:Cx) (pins:List (Addr×Obj)) (σ:St) (Q:Bool→Hp→Prop) (b:Bool) (s':Shared):Prop:=∃ H',Inv X pins σ H' s'∧Q b H'
def AP (X:Cx) (pins:List (Addr×Obj)) (σ:St) (Q:List V→Hp→Prop) (us:List Value) (s':Shared):Prop:=∃ vs H',Inv X pins σ H' s'∧Vals vs us∧Q vs H'
def SP (X:Cx) (pins:List (Addr×Obj)) (D:Ends) (f:Flow) (s':Shared):Prop:=
 match f with
 | .next=>∃ σ' H',Inv X pins σ' H' s'∧D.nx σ' H'
 | .brk=>∃ σ' H',Inv X pins σ' H' s'∧D.bk σ' H'
 | .cont=>∃ σ' H',Inv X pins σ' H' s'∧D.ct σ' H'
 | .ret u=>∃ v σ' H',Inv X pins σ' H' s'∧RelV v u∧D.rt v H'
def PE (X:Cx) (e:Expr) (t:TE):Prop:=
 ∀ (pins:List (Addr×Obj)) (s:Shared) (σ:St) (H:Hp) (Q:VK),Inv X pins σ H s→t σ H Q→wpAny (model X.prog X.w) X.A (eval e X.env) (EP X pins σ Q) X.xe s
def PT (X:Cx) (e:Expr) (t:TT):Prop:=
 ∀ (pins:List (Addr×Obj)) (s:Shared) (σ:St) (H:Hp) (Q:Bool→Hp→Prop),Inv X pins σ H s→t σ H Q→wpAny (model X.prog X.w) X.A (isTrue e X.env (eval e X.env)) (TP X pins σ Q) X.xe s
def PW (X:Cx) (e:Expr) (t:TT):Prop:=
 ∀ (whole:Sem Value) (pins:List (Addr×Obj)) (s:Shared) (σ:St) (H:Hp) (Q:Bool→Hp→Prop),Inv X pins σ H s→t σ H Q→wpAny (model X.prog X.w) X.A (isTrue e X.env whole) (TP X pins σ Q) X.xe s
theorem PW.pt {X:Cx} {e:Expr} {t:TT} (h:PW X e t):PT X e t:=h _
def PA (X:Cx) (es:List Expr) (t:TA):Prop:=
 ∀ (pos:Pos) (pins:List (Addr×Obj)) (s:Shared) (σ:St) (H:Hp) (Q:List V→Hp→Prop),Inv X pins σ H s→t σ H Q→wpAny (model X.prog X.w) X.A (spliced (backTo pos (starEach es X.env))) (AP X pins σ Q) X.xe s
def PS (X:Cx) (st:Stmt) (t:TS):Prop:=
 ∀ (pins:List (Addr×Obj)) (s:Shared) (σ:St) (H:Hp) (D:Ends),Inv X pins σ H s→t D σ H→wpAny (model X.prog X.w) X.A (exec st X.env) (SP X pins D) X.xe s
def PSs (X:Cx) (st:List Stmt) (t:TS):Prop:=
 ∀ (pins:List (Addr×Obj)) (s:Shared) (σ:St) (H:Hp) (D:Ends),Inv X pins σ H s→t D σ H→wpAny (model X.prog X.w) X.A (execs st X.env) (SP X pins D) X.xe s
theorem thn {α:Type} {t:Sem α} {Q Q':α→Shared→Prop} {M:Model} {A:Around} {E:Value→Shared→Prop} {s:Shared} (h:wpAny M A t Q E s) (hQ:∀ a s,Q a s→Q' a s):wpAny M A t Q' E s:=wpAny_mono h hQ fun _ _ x=>x
end L2
namespace L2
open PySem PySem.Spec PyProof.Rows
section
variable {X:Cx}
def tVar (i:Nat):TE:=fun σ H Q=>∃ v,σ[i]? =some (some v)∧Q v H
def tC (v:V):TE:=fun _ H Q=>Q v H
theorem pe_var {i:Nat} {x:Str} {pos:Pos} (hN:X.N[i]? =some x) (hv:Vis X.env.scope x) (hd:(x==("__debug__":Str))=false:=by decide) (hcd:(x==("__classdict__":Str))=false:=by decide):PE X (.Name x pos) (tVar i):=by
 intro pins s σ H Q I h
 obtain ⟨v,e,h⟩:=h
 obtain ⟨m,hn,hl⟩:=I.loc
 obtain ⟨u,r,l⟩:=hl i x v hN e hv
 have fin:EP X pins σ Q u s:=⟨v,H,I,r,h⟩
 rcases l with ⟨hk,hm⟩|⟨hk,c,hc,hcell⟩
 ·exact wpAny_Name (wpAny_loadName_local I.ok.kind hk hn hm fin) hd
 ·rcases hk with hk|hk
  ·exact wpAny_Name (wpAny_loadName_cell I.ok.kind hk hc hcell fin) hd
  ·exact wpAny_Name (wpAny_loadName_free I.ok.kind hk hc hcell fin hcd) hd
theorem pe_int {i j pos}:PE X (.Constant (.int i) j pos) (tC (.int i)):=fun _ _ _ H _ I h=>wpAny_Constant_int ⟨.int i,H,I.tok _,⟨_,rfl⟩,h⟩
theorem pe_bl {b j pos}:PE X (.Constant (.bool b) j pos) (tC (.bl b)):=fun _ _ _ H _ I h=>Constant_bool ⟨.bl b,H,I,rfl,h⟩
theorem pe_non {j pos}:PE X (.Constant .none j pos) (tC .non):=fun _ _ _ H _ I h=>Constant_none ⟨.non,H,I,rfl,h⟩
theorem pe_str {x j pos}:PE X (.Constant (.str x) j pos) (tC (.str x)):=fun _ _ _ H _ I h=>Calls.Constant_str ⟨.str x,H,I.tok _,⟨_,rfl⟩,h⟩
def Gl (X:Cx) (x:Str):Prop:=X.env.kindOf x=some .globalImplicit
theorem Cz2R {E:Value→Shared→Prop} {pins:List (Addr×Obj)} {s:Shared} {σ:St} {H:Hp} {x:Str} {u:Value} {pos:Pos} {Q:Value→Shared→Prop} (I:Inv X pins σ H s) (hg:Gl X x) (hm:X.mg x=some u) (h:Q u s)
  (hd:(x==("__debug__":Str))=false:=by decide):wpAny (model X.prog X.w) X.A (eval (.Name x pos) X.env) Q E s:=
 Calls.Name_function_global I.ok.kind hg (Calls.loadGlobal_global (by rw [I.ok.glob];exact I.mod.glob.keeps I.bk) hm h) hd
theorem ld_blt {E:Value→Shared→Prop} {pins:List (Addr×Obj)} {s:Shared} {σ:St} {H:Hp} {x:Str} {u:Value} {pos:Pos} {Q:Value→Shared→Prop} (I:Inv X pins σ H s) (hg:Gl X x) (hm:X.mg x=none) (hv:bootBuiltins x=some u) (h:Q u s)
  (hn:x≠"__name__":=by decide) (hd:(x==("__debug__":Str))=false:=by decide):wpAny (model X.prog X.w) X.A (eval (.Name x pos) X.env) Q E s:=by
 obtain ⟨mb,h1,h2⟩:=I.mod.blt
 exact Calls.Name_function_global I.ok.kind hg (Calls.loadGlobal_builtin (by rw [I.ok.glob];exact I.mod.glob.keeps I.bk) hm (by rw [I.ok.blt];exact h1.keeps I.bk) ((h2 x hn).trans hv) h) hd
theorem Cz7Q {x:Str} {v:V} {u:Value} {pos:Pos} (hg:Gl X x) (hm:X.mg x=some u) (r:RelV v u) (hd:(x==("__debug__":Str))=false:=by decide):PE X (.Name x pos) (tC v):=
 fun _ _ _ H _ I h=>Cz2R I hg hm ⟨v,H,I,r,h⟩ hd
theorem Cz7T {x:Str} {v:V} {u:Value} {pos:Pos} (hg:Gl X x) (hm:X.mg x=none) (hv:bootBuiltins x=some u) (r:RelV v u) (hn:x≠"__name__":=by decide) (hd:(x==("__debug__":Str))=false:=by decide):PE X (.Name x pos) (tC v):=
 fun _ _ _ H _ I h=>ld_blt I hg hm hv ⟨v,H,I,r,h⟩ hn hd
variable {a b:Expr} {ta tb:TE} {pos:Pos}
def PC (X:Cx) (op:CmpOp) (a b:Expr) (t:TE):Prop:=
 ∀ (pins:List (Addr×Obj)) (s:Shared) (σ:St) (H:Hp) (Q:VK),Inv X pins σ H s→t σ H Q→
  wpAny (model X.prog X.w) X.A (eval a X.env) (fun v s₁=>wpAny (model X.prog X.w) X.A (eval b X.env) (fun u s₂=>wpAny (model X.prog X.w) X.A (compareOp op v u) (EP X pins σ Q) X.xe s₂) X.xe s₁) X.xe s
theorem Bz7S (b:Expr) {op:CmpOp} (h:op≠ .In) (h2:op≠ .NotIn):behindInMarks op b=false:=by
 have e1:(op==CmpOp.In)=false:=by cases op<;>first|rfl|exact absurd rfl h
 have e2:(op==CmpOp.NotIn)=false:=by cases op<;>first|rfl|exact absurd rfl h2
 cases b<;>simp [behindInMarks,e1,e2]
def tIsN (ta:TE):TE:=fun σ H Q=>ta σ H fun x H1=>Q (.bl (decide (x= .non))) H1
def tNotN (ta:TE):TE:=fun σ H Q=>ta σ H fun x H1=>Q (.bl (!decide (x= .non))) H1
theorem RelV.none_iff {x:V} {v:Value} (r:RelV x v):(v==Value.none)=decide (x= .non):=by
 cases x with
 |non=>cases r;rfl
 |bl _=>cases r;rfl
 |int _=>obtain ⟨t,rfl⟩:=r;rfl
 |str _=>obtain ⟨t,rfl⟩:=r;rfl
 |byt _=>obtain ⟨t,rfl⟩:=r;rfl
 |flt _=>obtain ⟨t,rfl⟩:=r;rfl
 |ref _=>cases r;rfl
 |ty _=>cases r;rfl
theorem pc_isN {j pos'} (ha:PE X a ta):PC X .Is a (.Constant .none j pos') (tIsN ta):=by
 intro pins s σ H Q I h
 refine thn (ha pins s σ H _ I h) fun v s1 ⟨x,H1,I1,r1,q1⟩=> ?_
 exact Constant_none (is_none_gen ⟨.bl _,H1,I1,by rw [r1.none_iff];rfl,q1⟩)
theorem Cz7U {j pos'} (ha:PE X a ta):PC X .IsNot a (.Constant .none j pos') (tNotN ta):=by
 intro pins s σ H Q I h
 refine thn (ha pins s σ H _ I h) fun v s1 ⟨x,H1,I1,r1,q1⟩=> ?_
 exact Constant_none (isnot_none_gen ⟨.bl _,H1,I1,by rw [r1.none_iff];rfl,q1⟩)
def tB (t:TE):TT:=fun σ H Q=>t σ H fun x H1=>∃ c,x= .bl c∧Q c H1
theorem pe_cmp {op:CmpOp} {t:TE} (h:PC X op a b t) (h1:behindInMarks op b=false:=by first|exact Bz7S _ (by decide) (by decide)|rfl):PE X (.Compare a [op] [b] pos) t:=fun pins s σ H Q I hw=>wpAny_Compare1 (h pins s σ H Q I hw) h1
theorem pt_cmp {op:CmpOp} {t:TE} (h:PC X op a b t) (h1:behindInMarks op b=false:=by first|exact Bz7S _ (by decide) (by decide)|rfl):PT X (.Compare a [op] [b] pos) (tB t):=by
 intro pins s σ H Q I hw
 refine wpAny_isTrue_Compare1 (thn (h pins s σ H _ I hw) fun v s1 h1=>thn h1 fun u s2 h2=>thn h2 fun c s3 ⟨x,H1,I1,r1,q1⟩=> ?_) h1
 obtain ⟨d,rfl,q⟩:=q1
 cases r1
 exact wpAny_truthy_bool ⟨H1,I1,q⟩
theorem pt_val {e:Expr} {t:TE} (h:PE X e t) (he:∀ whole,isTrue e X.env whole=(do let v ←whole;standAt e.pos;holding [v] (truthy v)):=by intro _;rfl):PT X e (tB t):=by
 intro pins s σ H Q I hw
 refine isTrue_plain (thn (h pins s σ H _ I hw) fun v s1 ⟨x,H1,I1,r1,q1⟩=> ?_) (he _)
 obtain ⟨d,rfl,q⟩:=q1
 cases r1
 exact wpAny_truthy_bool ⟨H1,I1,q⟩
variable {tA tB':TT} {rest:List Expr}
def tAnd (t u:TT):TT:=fun σ H Q=>t σ H fun c H1=>if c=true then u σ H1 Q else Q false H1
def tOr (t u:TT):TT:=fun σ H Q=>t σ H fun c H1=>if c=true then Q true H1 else u σ H1 Q
def tNot (t:TT):TT:=fun σ H Q=>t σ H fun c H1=>Q (!c) H1
theorem Cz7B (ha:PT X a tA):PW X (.BoolOp .And [a] pos) tA:=by
 intro wh pins s σ H Q I h
 refine isTrue_and (thn (ha pins s σ H Q I h) fun c s1 e=> ?_)
 cases c with
 |true=>exact isTrue_and_nil e
 |false=>exact e
theorem pw_or1 (ha:PT X a tA):PW X (.BoolOp .Or [a] pos) tA:=by
 intro wh pins s σ H Q I h
 refine isTrue_or (thn (ha pins s σ H Q I h) fun c s1 e=> ?_)
 cases c with
 |false=>exact isTrue_or_nil e
 |true=>exact e
theorem pw_and (ha:PT X a tA) (hb:PW X (.BoolOp .And (b::rest) pos) tB'):PW X (.BoolOp .And (a::b::rest) pos) (tAnd tA tB'):=by
 intro wh pins s σ H Q I h
 refine isTrue_and (thn (ha pins s σ H _ I h) fun c s1 ⟨H1,I1,q1⟩=> ?_)
 cases c with
 |true=>exact hb wh pins s1 σ H1 Q I1 q1
 |false=>exact ⟨H1,I1,q1⟩
theorem pw_or (ha:PT X a tA) (hb:PW X (.BoolOp .Or (b::rest) pos) tB'):PW X (.BoolOp .Or (a::b::rest) pos) (tOr tA tB'):=by
 intro wh pins s σ H Q I h
 refine isTrue_or (thn (ha pins s σ H _ I h) fun c s1 ⟨H1,I1,q1⟩=> ?_)
 cases c with
 |true=>exact ⟨H1,I1,q1⟩
 |false=>exact hb wh pins s1 σ H1 Q I1 q1
theorem pt_not (ha:PT X a tA):PT X (.UnaryOp .Not a pos) (tNot tA):=by
 intro pins s σ H Q I h
 exact isTrue_not (ha pins s σ H (fun c H1=>Q (!c) H1) I h)
def tAndV (ta tb:TE):TE:=fun σ H Q=>ta σ H fun x H1=>∃ c,x= .bl c∧if c=true then tb σ H1 Q else Q (.bl false) H1
def tOrV (ta tb:TE):TE:=fun σ H Q=>ta σ H fun x H1=>∃ c,x= .bl c∧if c=true then Q (.bl true) H1 else tb σ H1 Q
def tNotV (ta:TE):TE:=fun σ H Q=>ta σ H fun x H1=>∃ c,x= .bl c∧Q (.bl (!c)) H1
theorem pe_one {op} {t:TE} (h:PE X a t):PE X (.BoolOp op [a] pos) t:=fun pins s σ H Q I hw=>BoolOp_one (h pins s σ H Q I hw)
theorem pe_and (ha:PE X a ta) (hb:PE X (.BoolOp .And (b::rest) pos) tb):PE X (.BoolOp .And (a::b::rest) pos) (tAndV ta tb):=by
 intro pins s σ H Q I h
 refine BoolOp_and (thn (ha pins s σ H _ I h) fun v s1 ⟨x,H1,I1,r1,q1⟩=> ?_)
 obtain ⟨c,rfl,q1⟩:=q1
 cases r1
 refine wpAny_truthy_bool ?_
 cases c with
 |true=>exact hb pins s1 σ H1 Q I1 q1
 |false=>exact ⟨.bl false,H1,I1,rfl,q1⟩
theorem pe_or (ha:PE X a ta) (hb:PE X (.BoolOp .Or (b::rest) pos) tb):PE X (.BoolOp .Or (a::b::rest) pos) (tOrV ta tb):=by
 intro pins s σ H Q I h
 refine BoolOp_or (thn (ha pins s σ H _ I h) fun v s1 ⟨x,H1,I1,r1,q1⟩=> ?_)
 obtain ⟨c,rfl,q1⟩:=q1
 cases r1
 refine wpAny_truthy_bool ?_
 cases c with
 |false=>exact hb pins s1 σ H1 Q I1 q1
 |true=>exact ⟨.bl true,H1,I1,rfl,q1⟩
theorem pe_not (ha:PE X a ta):PE X (.UnaryOp .Not a pos) (tNotV ta):=by
 intro pins s σ H Q I h
 refine UnaryOp_ (thn (ha pins s σ H _ I h) fun v s1 ⟨x,H1,I1,r1,q1⟩=> ?_)
 obtain ⟨c,rfl,q1⟩:=q1
 cases r1
 exact not_of (wpAny_truthy_bool ⟨.bl (!c),H1,I1,rfl,q1⟩)
end
end L2
namespace L2
open PySem PySem.Spec PyProof.Rows
def SqL (K:PySem.W.Frag) (H:Hp) (a:Addr) (xs:List V):Prop:=
 Rd H a (.lst xs)∨
  ∃ (o:Obj) (its:Array Value) (n:Nat),K.lookup a=some o∧o.cls= .type "list"∧o.dict=none∧o.data= .seq its n∧its.size≤sizeLine∧Vals xs its.toList
def SqT (K:PySem.W.Frag) (H:Hp) (a:Addr) (xs:List V):Prop:=
 Rd H a (.tup xs)∨
  ∃ (o:Obj) (its:Array Value) (n:Nat),K.lookup a=some o∧o.cls= .type "tuple"∧o.data= .seq its n∧its.size≤sizeLine∧Vals xs its.toList
def absV:Value→Option V
 | .none=>some .non
 | .bool b=>some (.bl b)
 | .int i _=>some (.int i)
 | .str x _=>some (.str x)
 | .bytes b _=>some (.byt b)
 | .float b _=>some (.flt b)
 | .ref a=>some (.ref a)
 | .type n=>some (.ty n)
 |_=>none
theorem RelV.abs {x:V} {u:Value} (r:RelV x u):absV u=some x:=by
 cases x with
 |non=>cases r;rfl
 |bl _=>cases r;rfl
 |int _=>obtain ⟨t,rfl⟩:=r;rfl
 |str _=>obtain ⟨t,rfl⟩:=r;rfl
 |byt _=>obtain ⟨t,rfl⟩:=r;rfl
 |flt _=>obtain ⟨t,rfl⟩:=r;rfl
 |ref _=>cases r;rfl
 |ty _=>cases r;rfl
theorem RelV.inj {x y:V} {u:Value} (r:RelV x u) (q:RelV y u):x=y:=Option.some.inj (r.abs.symm.trans q.abs)
theorem Vals.inj:∀ {xs ys:List V} {us:List Value},Vals xs us→Vals ys us→xs=ys
 |_,_,_, .nil, .nil=>rfl
 |_,_,_, .cons r t, .cons r' t'=>by rw [r.inj r',Vals.inj t t']
section
variable {X:Cx} {pins:List (Addr×Obj)} {σ:St} {H:Hp} {s:Shared} {a:Addr} {xs ys:List V}
theorem SqL.of {K:PySem.W.Frag} (h:H a=some (.lst xs)):SqL K H a xs:= .inl (.inl h)
theorem SqT.of {K:PySem.W.Frag} (h:H a=some (.tup xs)):SqT K H a xs:= .inl (.inl h)
theorem Inv.list (I:Inv X pins σ H s) (h:SqL X.K H a xs):∃ its:List Value,Vals xs its∧PlainL s.heap a its.toArray∧xs.length≤sizeLine:=by
 rcases h with h|⟨o,its,n,hk,hc,hd,hs,hz,r⟩
 ·obtain ⟨z,its,n,r,e⟩:=h.ok I.hok
  exact ⟨its,r,⟨_,n,e,rfl,rfl,rfl⟩,z⟩
 ·refine ⟨its.toList,r,⟨o,n,I.kIn a o hk,hc,hd,by simpa using hs⟩,?_⟩
  have e:=r.length
  simp only [Array.length_toList] at e
  omega
theorem Inv.tuple (I:Inv X pins σ H s) (h:SqT X.K H a xs):∃ its:List Value,Vals xs its∧IsTup s.heap a its.toArray∧xs.length≤sizeLine:=by
 rcases h with h|⟨o,its,n,hk,hc,hs,hz,r⟩
 ·obtain ⟨z,its,r,p⟩:=h.ok I.hok
  exact ⟨its,r,p,z⟩
 ·refine ⟨its.toList,r,⟨o,I.kIn a o hk,hc,n,by simpa using hs⟩,?_⟩
  have e:=r.length
  simp only [Array.length_toList] at e
  omega
theorem Inv.list_inj (I:Inv X pins σ H s) (h:SqL X.K H a xs) (h':SqL X.K H a ys):xs=ys:=by
 obtain ⟨its,r,⟨o,n,e,_,_,d⟩,_⟩:=I.list h
 obtain ⟨its',r',⟨o',n',e',_,_,d'⟩,_⟩:=I.list h'
 rw [e] at e';cases e'
 rw [d] at d'
 injection d' with d1 _
 have:its=its':=by simpa using congrArg Array.toList d1
 subst this
 exact r.inj r'
theorem Inv.tuple_inj (I:Inv X pins σ H s) (h:SqT X.K H a xs) (h':SqT X.K H a ys):xs=ys:=by
 obtain ⟨its,r,⟨o,e,_,n,d⟩,_⟩:=I.tuple h
 obtain ⟨its',r',⟨o',e',_,n',d'⟩,_⟩:=I.tuple h'
 rw [e] at e';cases e'
 rw [d] at d'
 injection d' with d1 _
 have:its=its':=by simpa using congrArg Array.toList d1
 subst this
 exact r.inj r'
end
abbrev Cx.wish (X:Cx) (E:Value→Shared→Prop):Cx:= {X with xe:=E}
abbrev Cx.nox (X:Cx):Cx:=X.wish fun _ _=>False
theorem Cx.Ok.wish {X:Cx} (ok:X.Ok) (E:Value→Shared→Prop):(X.wish E).Ok:=
 ⟨ok.mod,ok.kind,ok.glob,ok.blt,ok.above,ok.inj,ok.has,ok.cab,ok.hd,ok.frames,ok.stk,ok.exf,ok.bs,ok.bsz,ok.noex,ok.exfs,ok.funs,ok.frf⟩
theorem Cx.Ok.unwish {X:Cx} {E:Value→Shared→Prop} (ok:(X.wish E).Ok):X.Ok:=
 ⟨ok.mod,ok.kind,ok.glob,ok.blt,ok.above,ok.inj,ok.has,ok.cab,ok.hd,ok.frames,ok.stk,ok.exf,ok.bs,ok.bsz,ok.noex,ok.exfs,ok.funs,ok.frf⟩
section
variable {X:Cx} {pins:List (Addr×Obj)} {σ:St} {H:Hp} {s:Shared} {E:Value→Shared→Prop}
theorem Inv.wish (I:Inv X pins σ H s) (E:Value→Shared→Prop):Inv (X.wish E) pins σ H s:=⟨I.ok.wish E,I.os,I.bare,I.base,I.loc,I.cell,I.free,I.freeC,I.pin,I.hok,I.len⟩
theorem Inv.unwish (I:Inv (X.wish E) pins σ H s):Inv X pins σ H s:=⟨I.ok.unwish,I.os,I.bare,I.base,I.loc,I.cell,I.free,I.freeC,I.pin,I.hok,I.len⟩
theorem SP.unwish {D:Ends} {f:Flow} {s':Shared} (h:SP (X.wish E) pins D f s'):SP X pins D f s':=by
 cases f with
 |next=>obtain ⟨σ',H',I,q⟩:=h;exact ⟨σ',H',I.unwish,q⟩
 |brk=>obtain ⟨σ',H',I,q⟩:=h;exact ⟨σ',H',I.unwish,q⟩
 |cont=>obtain ⟨σ',H',I,q⟩:=h;exact ⟨σ',H',I.unwish,q⟩
 |ret u=>obtain ⟨v,σ',H',I,r,q⟩:=h;exact ⟨v,σ',H',I.unwish,r,q⟩
theorem PE.nox {e:Expr} {t:TE} (h:PE X.nox e t):PE X e t:=fun pins s σ H Q I hw=>
 wpAny_mono (h pins s σ H Q (I.wish _) hw) (fun _ _ ⟨v,H',I',r,q⟩=>⟨v,H',I'.unwish,r,q⟩) fun _ _ z=>False.elim z
theorem PT.nox {e:Expr} {t:TT} (h:PT X.nox e t):PT X e t:=fun pins s σ H Q I hw=>
 wpAny_mono (h pins s σ H Q (I.wish _) hw) (fun _ _ ⟨H',I',q⟩=>⟨H',I'.unwish,q⟩) fun _ _ z=>False.elim z
theorem PSs.nox {st:List Stmt} {t:TS} (h:PSs X.nox st t):PSs X st t:=fun pins s σ H D I hw=>
 wpAny_mono (h pins s σ H D (I.wish _) hw) (fun _ _ q=>q.unwish) fun _ _ z=>False.elim z
end
section
variable {X:Cx} {st:Stmt} {rest:List Stmt} {t u:TS} {e:Expr} {te:TE} {pos:Pos}
def tNext:TS:=fun D σ H=>D.nx σ H
def tSeq (t u:TS):TS:=fun D σ H=>t {D with nx:=u D} σ H
theorem Cz7F:PSs X [] tNext:=fun _ _ σ H _ I h=>wpAny_execs_nil ⟨σ,H,I,h⟩
theorem Cz4C (h1:PS X st t) (h2:PSs X rest u):PSs X (st::rest) (tSeq t u):=by
 intro pins s σ H D I h
 refine wpAny_execs_cons (thn (h1 pins s σ H {D with nx:=u D} I h) fun f s1 q=> ?_)
 cases f with
 |next=>
  obtain ⟨σ',H',I',q⟩:=q
  exact h2 pins s1 σ' H' D I' q
 |ret v=>exact q
 |brk=>exact q
 |cont=>exact q
theorem Cz7E (h1:PS X st t):PSs X [st] t:=by
 intro pins s σ H D I h
 refine wpAny_execs_cons (thn (h1 pins s σ H D I h) fun f s1 q=> ?_)
 cases f with
 |next=>exact wpAny_execs_nil q
 |ret v=>exact q
 |brk=>exact q
 |cont=>exact q
def tBreak:TS:=fun D σ H=>D.bk σ H
theorem Cz4F:PS X (.Break pos) tBreak:=fun _ _ σ H _ I h=>wpAny_Break ⟨σ,H,I,h⟩
theorem Inv.quiet {pins:List (Addr×Obj)} {σ:St} {H:Hp} {s:Shared} (I:Inv X pins σ H s):interactive X.env=false:=by simp [interactive,I.ok.kind]
def tDrop (te:TE):TS:=fun D σ H=>te σ H fun _ H1=>D.nx σ H1
theorem Cz7G (he:PE X e te) (hs:swapsWith e none pos.line X.env=pure false:=by rfl):PS X (.Expr e pos) (tDrop te):=by
 intro pins s σ H D I h
 exact wpAny_Expr_any (thn (he pins s σ H _ I h) fun v s1 ⟨x,H1,I1,r1,q1⟩=>⟨σ,H1,I1,q1⟩) I.quiet hs
def tRet (te:TE):TS:=fun D σ H=>te σ H D.rt
theorem ps_ret (he:PE X e te):PS X (.Return (some e) pos) (tRet te):=by
 intro pins s σ H D I h
 exact wpAny_Return_some (thn (he pins s σ H _ I h) fun v s1 ⟨x,H1,I1,r1,q1⟩=>⟨x,σ,H1,I1,r1,q1⟩)
def tIfS (c:TT) (t u:TS):TS:=fun D σ H=>c σ H fun b H1=>if b=true then t D σ H1 else u D σ H1
theorem ps_if {c:Expr} {a b:List Stmt} {tc:TT} (hc:PT X c tc) (ha:PSs X a t) (hb:PSs X b u):PS X (.If c a b pos) (tIfS tc t u):=by
 intro pins s σ H D I h
 refine wpAny_If (thn (hc pins s σ H _ I h) fun d s1 ⟨H1,I1,q1⟩=> ?_)
 cases d with
 |true=>exact ha pins s1 σ H1 D I1 q1
 |false=>exact hb pins s1 σ H1 D I1 q1
def tNever:TS:=fun _ _ _=>False
theorem Cz4E:PS X st tNever:=fun _ _ _ _ _ _ h=>h.elim
end
abbrev TG:=V→St→Hp→(St→Hp→Prop)→Prop
abbrev TGs:=List V→St→Hp→(St→Hp→Prop)→Prop
def PG (X:Cx) (target:Expr) (t:TG):Prop:=
 ∀ (pins:List (Addr×Obj)) (s:Shared) (σ:St) (H:Hp) (v:V) (u:Value) (Q:St→Hp→Prop),Inv X pins σ H s→RelV v u→t v σ H Q→
  wpAny (model X.prog X.w) X.A (assign target X.env u) (fun _ s'=>∃ σ' H',Inv X pins σ' H' s'∧Q σ' H') X.xe s
def PGs (X:Cx) (ts:List Expr) (t:TGs):Prop:=
 ∀ (pins:List (Addr×Obj)) (s:Shared) (σ:St) (H:Hp) (vs:List V) (us:List Value) (Q:St→Hp→Prop),Inv X pins σ H s→Vals vs us→t vs σ H Q→
  wpAny (model X.prog X.w) X.A (assignInOrder ((assignEach ts X.env).map (·.2)) us) (fun _ s'=>∃ σ' H',Inv X pins σ' H' s'∧Q σ' H') X.xe s
abbrev TSet:=V→V→V→Hp→(Hp→Prop)→Prop
def PSet (X:Cx) (t:TSet):Prop:=
 ∀ (pins:List (Addr×Obj)) (s:Shared) (σ:St) (H:Hp) (o i v:V) (ov iv u:Value) (Q:Hp→Prop),Inv X pins σ H s→RelV o ov→RelV i iv→RelV v u→t o i v H Q→
  wpAny (model X.prog X.w) X.A (setItem ov iv u) (fun _ s'=>∃ H',Inv X pins σ H' s'∧Q H') X.xe s
abbrev TIp:=V→V→Hp→VK→Prop
def PIp (X:Cx) (op:Operator) (t:TIp):Prop:=
 ∀ (pins:List (Addr×Obj)) (s:Shared) (σ:St) (H:Hp) (x y:V) (v u:Value) (Q:VK),Inv X pins σ H s→RelV x v→RelV y u→t x y H Q→
  wpAny (model X.prog X.w) X.A (inplaceOp op v u) (EP X pins σ Q) X.xe s
section
variable {X:Cx} {pos:Pos}
def gName (i:Nat):TG:=fun v σ H Q=>Q (σ.set i (some v)) H
theorem Cz7O {i:Nat} {x:Str} (hN:X.N.Nodup) (hi:X.N[i]? =some x) (hx:Loc X.env.scope x) (hf:X.fn x=true∨X.env.scope.names.lookup x=some .local:=by first|exact .inl rfl|exact .inr rfl|assumption):PG X (.Name x pos) (gName i):=by
 intro pins s σ H v u Q I r h
 exact wpAny_assign_Name (Az9M I hN hi hx r (fun s' I'=>⟨_,H,I',h⟩) hf)
def gNil:TGs:=fun vs σ H Q=>vs= []∧Q σ H
def gCons (t:TG) (u:TGs):TGs:=fun vs σ H Q=>∃ v r,vs=v::r∧t v σ H fun σ' H'=>u r σ' H' Q
theorem Cz7N:PGs X [] gNil:=by
 intro pins s σ H vs us Q I r h
 obtain ⟨e,h⟩:=h
 subst e
 cases r
 exact assignInOrder_nil ⟨σ,H,I,h⟩
theorem Cz4H {e:Expr} {es:List Expr} {t:TG} {u:TGs} (h1:PG X e t) (h2:PGs X es u)
  (hs:(assignEach (e::es) X.env).map (·.2)=assign e X.env::(assignEach es X.env).map (·.2):=by rfl):PGs X (e::es) (gCons t u):=by
 intro pins s σ H vs us Q I r h
 obtain ⟨v,vr,e1,h⟩:=h
 subst e1
 cases r with
 |cons r rr=>
  rw [hs]
  refine assignInOrder_cons (thn (h1 pins s σ H _ _ _ I r h) fun _ s1 ⟨σ1,H1,I1,q1⟩=> ?_)
  exact h2 pins s1 σ1 H1 _ _ Q I1 rr q1
def gTup (K:PySem.W.Frag) (n:Nat) (t:TGs):TG:=fun v σ H Q=>∃ a xs,v= .ref a∧SqT K H a xs∧xs.length=n∧t xs σ H Q
theorem pg_tup {es:List Expr} {k:Nat} {t:TGs} {n:Nat} (hc:X.calm=true) (h:PGs X es t)
  (hn:(assignEach es X.env).length=n:=by rfl) (hst:(assignEach es X.env).findIdx? (·.1)=none:=by rfl):PG X (.Tuple es k pos) (gTup X.K n t):=by
 intro pins s σ H v u Q I r hw
 obtain ⟨a,xs,e1,hq,hl,hw⟩:=hw
 subst e1
 cases r
 obtain ⟨its,rv,ht,hz⟩:=I.tuple hq
 refine assign_Tuple_tuple (I.ok.hd hc) ht (by simp [hn,←hl,rv.length]) hst fun h' hx=> ?_
 have I1:Inv X pins σ H {s with heap:=h'}:=I.kept (t':=s.toks) fun b o e=>hx b o (Nat.ne_of_lt (Heap.lt_size e)) e
 exact h pins _ σ H xs _ Q I1 (by simpa using rv) hw
def gSub (to ti:TE) (t:TSet):TG:=fun v σ H Q=>to σ H fun o H1=>ti σ H1 fun i H2=>t o i v H2 fun H3=>Q σ H3
theorem pg_sub {o i:Expr} {to ti:TE} {t:TSet} (ho:PE X o to) (hi:PE X i ti) (hs:PSet X t)
  (ha:∀ v,assign (.Subscript o i pos) X.env v=(do
   let ov ←holding [v] (eval o X.env)
   let iv ←holding [v,ov] (eval i X.env)
   standAt pos
   holding [v,ov,iv] (setItem ov iv v)
   release [v,ov,iv] []):=by intro _;rfl):PG X (.Subscript o i pos) (gSub to ti t):=by
 intro pins s σ H v u Q I r h
 rw [ha]
 refine wpAny_bind (wpAny_holding (thn (ho pins s σ H _ I h) fun ov s1 ⟨x,H1,I1,r1,q1⟩=> ?_))
 refine wpAny_bind (wpAny_holding (thn (hi pins s1 σ H1 _ I1 q1) fun iv s2 ⟨y,H2,I2,r2,q2⟩=> ?_))
 refine wpAny_bind (wpAny_standAt (wpAny_bind (wpAny_holding (thn (hs pins s2 σ H2 x y v ov iv u _ I2 r1 r2 r q2) fun _ s3 ⟨H3,I3,q3⟩=> ?_))))
 exact wpAny_release ⟨σ,H3,I3,q3⟩
def tAsg (te:TE) (g:TG):TS:=fun D σ H=>te σ H fun x H1=>g x σ H1 D.nx
theorem ps_asg {tg e:Expr} {te:TE} {g:TG} (he:PE X e te) (hg:PG X tg g) (hs:swapsWithSole [tg] e pos.line X.env=pure false:=by rfl) (hw:swappedStores [tg] e X.env=pure none:=by rfl)
  (h1:(assignEach [tg] X.env).map (·.2)= [assign tg X.env]:=by rfl):PS X (.Assign [tg] e pos) (tAsg te g):=by
 intro pins s σ H D I h
 refine wpAny_Assign_stores (thn (he pins s σ H _ I h) fun v s1 ⟨x,H1,I1,r1,q1⟩=> ?_) hs hw
 rw [h1]
 exact thn (hg pins s1 σ H1 x v _ I1 r1 q1) fun _ s2 q=>q
theorem ps_set {i:Nat} {x:Str} {e:Expr} {te:TE} {pos':Pos} (hN:X.N.Nodup) (hi:X.N[i]? =some x) (hx:Loc X.env.scope x) (he:PE X e te) (hs:swapsWith e (some (.Name x pos')) pos.line X.env=pure false:=by rfl) (hf:X.fn x=true∨X.env.scope.names.lookup x=some .local:=by first|exact .inl rfl|exact .inr rfl|assumption):
  PS X (.Assign [.Name x pos'] e pos) (tAsg te (gName i)):=by
 intro pins s σ H D I h
 refine wpAny_Assign_Name (thn (he pins s σ H _ I h) fun v s1 ⟨y,H1,I1,r1,q1⟩=> ?_) hs
 exact Az9M I1 hN hi hx r1 (fun s2 I2=>⟨_,H1,I2,q1⟩) hf
def tAug (i:Nat) (te:TE) (ti:TIp):TS:=fun D σ H=>∃ x,σ[i]? =some (some x)∧te σ H fun y H1=>ti x y H1 fun z H2=>D.nx (σ.set i (some z)) H2
theorem ps_aug {i:Nat} {x:Str} {e:Expr} {te:TE} {op:Operator} {ti:TIp} {pos':Pos} (hN:X.N.Nodup) (hi:X.N[i]? =some x) (hx:Loc X.env.scope x) (he:PE X e te) (ho:PIp X op ti) (hf:X.fn x=true∨X.env.scope.names.lookup x=some .local:=by first|exact .inl rfl|exact .inr rfl|assumption):
  PS X (.AugAssign (.Name x pos') op e pos) (tAug i te ti):=by
 intro pins s σ H D I h
 obtain ⟨v,e1,h⟩:=h
 obtain ⟨m,hn,hl⟩:=I.loc
 have vis:Vis X.env.scope x:=by rcases hx with k|k;exact .inl k;exact .inr (.inl k)
 obtain ⟨u,r,l⟩:=hl i x v hi e1 vis
 refine wpAny_AugAssign_Name ?_
 have go:wpAny (model X.prog X.w) X.A (eval e X.env) (fun w s₂=>wpAny (model X.prog X.w) X.A (inplaceOp op u w) (fun r s₃=>wpAny (model X.prog X.w) X.A (storeName X.env x r) (fun _=>SP X pins D .next) X.xe s₃) X.xe s₂) X.xe s:=by
  refine thn (he pins s σ H _ I h) fun w s1 ⟨y,H1,I1,r1,q1⟩=> ?_
  refine thn (ho pins s1 σ H1 v y u w _ I1 r r1 q1) fun z s2 ⟨zv,H2,I2,r2,q2⟩=> ?_
  exact Az9M I2 hN hi hx r2 (fun s3 I3=>⟨_,H2,I3,q2⟩) hf
 rcases l with ⟨hk,hm⟩|⟨hk,c,hc,hcell⟩
 ·exact wpAny_loadName_local I.ok.kind hk hn hm go
 ·rcases hk with hk|hk
  ·exact wpAny_loadName_cell I.ok.kind hk hc hcell go
  ·rcases hx with k|k
   ·have:X.env.scope.names.lookup x=some .free:=hk
    rw [k] at this;cases this
   ·have:X.env.scope.names.lookup x=some .free:=hk
    rw [k] at this;cases this
def ipI (f:Int→Int→Int):TIp:=fun x y H Q=>∃ i j,x= .int i∧y= .int j∧Q (.int (f i j)) H
theorem ip_add:PIp X .Add (ipI fun i j=>i+j):=by
 intro pins s σ H x y v u Q I r1 r2 h
 obtain ⟨i,j,e1,e2,q⟩:=h
 subst e1;subst e2
 obtain ⟨t,rfl⟩:=r1
 obtain ⟨t',rfl⟩:=r2
 exact iadd_int ⟨.int _,H,I.tok _,⟨_,rfl⟩,q⟩
end
section
variable {X:Cx} {pos:Pos}
def tWhile (c:TT) (tb:TS):TS:=fun D σ H=>∃ W:Nat→St→Hp→Prop,(∃ m,W m σ H)∧∀ m σ H,W m σ H→
 c σ H fun b H1=>if b=true then ∃ N:St→Hp→Prop,(∀ σ' H',N σ' H'→∃ m',m'<m∧W m' σ' H')∧tb {D with nx:=N,ct:=N,bk:=D.nx} σ H1 else D.nx σ H1
theorem Cz4D {c:Expr} {body:List Stmt} {tc:TT} {tb:TS} (hp:PassesOwn (model X.prog X.w) X.A X.env X.xe) (hc:PT X c tc) (hb:PSs X body tb):PS X (.While c body [] pos) (tWhile tc tb):=by
 intro pins s σ H D I h
 obtain ⟨W,⟨m0,w0⟩,turn⟩:=h
 refine wpAny_While (codeAny_whileLoop (fun n s'=>∃ σ' H',Inv X pins σ' H' s'∧W n σ' H') ?_ m0 ⟨σ,H,I,w0⟩)
 rintro n s1 ⟨σ1,H1,I1,w1⟩
 refine wpAny_passesOwn hp (thn (hc pins s1 σ1 H1 _ I1 (turn n σ1 H1 w1)) fun b s2 ⟨H2,I2,q2⟩=> ?_)
 cases b with
 |true=>
  obtain ⟨N,hN,q2⟩:=q2
  rw [if_pos rfl]
  refine wpAny_passesOwn hp (thn (hb pins s2 σ1 H2 _ I2 q2) fun f s3 q3=> ?_)
  cases f with
  |next=>
   obtain ⟨σ3,H3,I3,n3⟩:=q3
   obtain ⟨m',hm,w3⟩:=hN σ3 H3 n3
   exact ⟨m',hm,σ3,H3,I3,w3⟩
  |cont=>
   obtain ⟨σ3,H3,I3,n3⟩:=q3
   obtain ⟨m',hm,w3⟩:=hN σ3 H3 n3
   exact ⟨m',hm,σ3,H3,I3,w3⟩
  |brk=>exact q3
  |ret v=>exact q3
 |false=>
  rw [if_neg Bool.false_ne_true]
  exact wpAny_execs_nil ⟨σ1,H2,I2,q2⟩
end
structure It where
 go:Nat→Hp→Prop
 yld:Nat→Hp→V→Hp→Prop
 stop:Nat→Hp→Prop
def FpOk (X:Cx) (pins:List (Addr×Obj)) (H:Hp) (b:Addr):Prop:=
 H b=none∧b≠X.env.locals∧b∉X.fs∧(b∈X.ex∨X.s₀.heap.objs.size≤b)∧(∀ x c,X.env.cells.lookup x=some c→c≠b)∧∀ p∈X.pn++pins,p.1≠b
theorem Inv.fpOk {X:Cx} {pins:List (Addr×Obj)} {σ:St} {H H':Hp} {s:Shared} {b:Addr} (I:Inv X pins σ H s) (hb:s.heap.objs.size≤b) (hn:H' b=none):FpOk X pins H' b:=by
 refine ⟨hn,Nat.ne_of_gt (Nat.lt_of_lt_of_le I.lt hb),I.nofs hb, .inr (Nat.le_trans I.sz hb),fun x c e z=> ?_,fun p hp z=> ?_⟩
 ·obtain ⟨v,q⟩:=I.cell x c e
  exact absurd (Nat.lt_of_lt_of_le q.lt (by rw [z];exact hb)) (Nat.lt_irrefl _)
 ·exact absurd (Nat.lt_of_lt_of_le (Heap.lt_size (I.pin p hp).1) (by rw [z];exact hb)) (Nat.lt_irrefl _)
structure Turn (P:Program) (w:World) (K:PySem.W.Frag) (tg:Expr) (J:It) (fp:List Addr) (it:Addr) (tn:Nat→Heap→Prop):Prop where
 mem:it∈fp
 obj:∀ i h,tn i h→∀ b∈fp,∃ o,h.get? b=some o∧∀ v,o.data≠ .cell v
 keep:∀ i h h',tn i h→(∀ b∈fp,∀ o,h.get? b=some o→h'.get? b=some o)→tn i h'
 item:∀ (X:Cx),X.prog=P→X.w=w→X.K=K→X.calm=true→∀ (i:Nat) (pins:List (Addr×Obj)) (s:Shared) (σ:St) (H:Hp) (E:Value→Shared→Prop),Inv X pins σ H s→(∀ b∈fp,FpOk X pins H b)→tn i s.heap→J.go i H→
  wpAny (model P w) X.A (pyNext (.ref it)) (fun r s1=>∃ u,r=some u∧
   wpAny (model P w) X.A (letOwnedTupleGo tg (.ref it) u) (fun _ s2=>∃ x H',Inv X pins σ H' s2∧RelV x u∧J.yld i H x H'∧tn (i+1) s2.heap∧∀ b∈fp,H' b=none) E s1) E s
 done:∀ (X:Cx),X.prog=P→X.w=w→X.K=K→X.calm=true→∀ (i:Nat) (pins:List (Addr×Obj)) (s:Shared) (σ:St) (H:Hp) (E:Value→Shared→Prop),Inv X pins σ H s→(∀ b∈fp,FpOk X pins H b)→tn i s.heap→J.stop i H→
  wpAny (model P w) X.A (pyNext (.ref it)) (fun r s1=>r=none∧Inv X pins σ H s1) E s
 self:∀ (A:Around) (i:Nat) (s:Shared) (Q:Value→Shared→Prop) (E:Value→Shared→Prop),tn i s.heap→Q (.ref it) s→wpAny (model P w) A (pyIter (.ref it)) Q E s
abbrev TI:=St→Hp→(It→Hp→Prop)→Prop
def PIE (X:Cx) (pins:List (Addr×Obj)) (σ:St) (tg:Expr) (R:It→Hp→Prop) (itv:Value) (s2:Shared):Prop:=
 ∃ (it:Addr) (fp:List Addr) (tn:Nat→Heap→Prop) (J:It) (H':Hp),itv= .ref it∧Inv X pins σ H' s2∧Turn X.prog X.w X.K tg J fp it tn∧tn 0 s2.heap∧(∀ b∈fp,FpOk X pins H' b)∧R J H'
def PI (X:Cx) (tg iter:Expr) (wi:TI):Prop:=
 ∀ (pins:List (Addr×Obj)) (s:Shared) (σ:St) (H:Hp) (R:It→Hp→Prop),Inv X pins σ H s→wi σ H R→
  wpAny (model X.prog X.w) X.A (eval iter X.env) (fun v s1=>wpAny (model X.prog X.w) X.A (pyIter v) (PIE X pins σ tg R) X.xe s1) X.xe s
theorem go_of {M : Model} {A : Around} {E : Value → Shared → Prop} {s : Shared} {tg : Expr} {it : Addr} {u : Value} {o : Obj} {n : String} {vs : Array Value} {Q : Unit → Shared → Prop} (ho : s.heap.get? it = some o) (hc : o.cls = .type n) (hd : o.data = .fields vs)
    (hn : ["enumerate", "zip", "dict_itemiterator", "dict_reverseitemiterator", "odict_iterator", "itertools.zip_longest", "itertools.pairwise"].contains n = false) (hQ : Q () s) : wpAny M A (letOwnedTupleGo tg (.ref it) u) Q E s := by
  unfold letOwnedTupleGo
  cases tg <;> first
    | exact wpAny_pure hQ
    | (cases u <;> first
        | exact wpAny_pure hQ
        | (refine wpAny_bind (wpAny_load ho ?_)
           rw [hc, hd]
           show wpAny M A (if (["enumerate", "zip", "dict_itemiterator", "dict_reverseitemiterator", "odict_iterator", "itertools.zip_longest", "itertools.pairwise"].contains n && vs[0]? == some (rawInt _)) = true then _ else _) Q E s
           rw [if_neg (by intro h; rw [hn, Bool.false_and] at h; cases h)]
           exact wpAny_pure hQ))
def Itl (K:PySem.W.Frag) (a:Addr):It:=
 ⟨fun i H=>∃ xs x,SqL K H a xs∧xs[i]? =some x,fun i H x H'=>H'=H∧∀ xs,SqL K H a xs→xs[i]? =some x,fun i H=>∃ xs,SqL K H a xs∧xs.length≤i⟩
def Itt (K:PySem.W.Frag) (a:Addr):It:=
 ⟨fun i H=>∃ xs x,SqT K H a xs∧xs[i]? =some x,fun i H x H'=>H'=H∧∀ xs,SqT K H a xs→xs[i]? =some x,fun i H=>∃ xs,SqT K H a xs∧xs.length≤i⟩
def Itr (lo:Int) (n:Nat):It:=⟨fun i _=>i<n,fun i H x H'=>H'=H∧x= .int (lo+i),fun i _=>n≤i⟩
theorem Bz9V {P:Program} {w:World} {K:PySem.W.Frag} {tg:Expr} (a it:Addr):Turn P w K tg (Itl K a) [it] it (fun i h=>h.IsListIter it a i) where
 mem:=by simp
 obj:=fun i h st b hb=>by
  have e:b=it:=by simpa using hb
  subst e
  obtain ⟨o,e,c,d⟩:=st
  exact ⟨o,e,fun v z=>by rw [d] at z;cases z⟩
 keep:=fun i h h' st k=>st.at fun o e=>k it (by simp) o e
 item:=by
  intro X hP hw hK hc i pins s σ H E I hf st hg
  subst hP hw hK
  obtain ⟨xs,x,hq,hx⟩:=hg
  obtain ⟨its,rv,p,hz⟩:=I.list hq
  obtain ⟨u,hu,ru⟩:=rv.get hx
  obtain ⟨f0,f1,f2,f3,f4,f5⟩:=hf it (by simp)
  refine wpAny_pyNext_list_item st p.isList (x:=u) (by simpa using hu) fun h' st' sb=> ?_
  have I1:Inv X pins σ H {s with heap:=h'}:=I.turned (t':=s.toks) (fun b o hb e=>(sb.2 b hb).trans e) f0 f1 f3 f4 f5
  obtain ⟨o,e,c,d⟩:=id st'
  exact ⟨u,rfl,go_of (s:= {s with heap:=h'}) e c d (by decide) ⟨x,H,I1,ru,⟨rfl,fun ys hy=>by rw [I.list_inj hy hq];exact hx⟩,st',fun b hb=>(hf b hb).1⟩⟩
 done:=by
  intro X hP hw hK hc i pins s σ H E I hf st hg
  subst hP hw hK
  obtain ⟨xs,hq,hx⟩:=hg
  obtain ⟨its,rv,p,hz⟩:=I.list hq
  obtain ⟨f0,f1,f2,f3,f4,f5⟩:=hf it (by simp)
  have hl:=rv.length
  exact wpAny_pyNext_list_end (I.ok.hd hc) st p.isList (by simp;omega) fun h' eb=>⟨rfl,I.turned (t':=s.toks) (fun b o hb e=>eb b o hb e) f0 f1 f3 f4 f5⟩
 self:=fun _ _ _ _ _ st h=>wpAny_pyIter_listiter st h
theorem Bz6M {P:Program} {w:World} {K:PySem.W.Frag} {tg:Expr} (a it:Addr):Turn P w K tg (Itt K a) [it] it (fun i h=>h.IsTupleIter it a i) where
 mem:=by simp
 obj:=fun i h st b hb=>by
  have e:b=it:=by simpa using hb
  subst e
  obtain ⟨o,e,c,d⟩:=st
  exact ⟨o,e,fun v z=>by rw [d] at z;cases z⟩
 keep:=fun i h h' st k=>st.at fun o e=>k it (by simp) o e
 item:=by
  intro X hP hw hK hc i pins s σ H E I hf st hg
  subst hP hw hK
  obtain ⟨xs,x,hq,hx⟩:=hg
  obtain ⟨its,rv,p,hz⟩:=I.tuple hq
  obtain ⟨u,hu,ru⟩:=rv.get hx
  obtain ⟨f0,f1,f2,f3,f4,f5⟩:=hf it (by simp)
  refine wpAny_pyNext_tuple_item st (show s.heap.IsTuple a its.toArray from p) (x:=u) (by simpa using hu) fun h' st' sb=> ?_
  have I1:Inv X pins σ H {s with heap:=h'}:=I.turned (t':=s.toks) (fun b o hb e=>(sb.2 b hb).trans e) f0 f1 f3 f4 f5
  obtain ⟨o,e,c,d⟩:=id st'
  exact ⟨u,rfl,go_of (s:= {s with heap:=h'}) e c d (by decide) ⟨x,H,I1,ru,⟨rfl,fun ys hy=>by rw [I.tuple_inj hy hq];exact hx⟩,st',fun b hb=>(hf b hb).1⟩⟩
 done:=by
  intro X hP hw hK hc i pins s σ H E I hf st hg
  subst hP hw hK
  obtain ⟨xs,hq,hx⟩:=hg
  obtain ⟨its,rv,p,hz⟩:=I.tuple hq
  obtain ⟨f0,f1,f2,f3,f4,f5⟩:=hf it (by simp)
  have hl:=rv.length
  exact wpAny_pyNext_tuple_end (I.ok.hd hc) st (show s.heap.IsTuple a its.toArray from p) (by simp;omega) fun h' eb=>⟨rfl,I.turned (t':=s.toks) (fun b o hb e=>eb b o hb e) f0 f1 f3 f4 f5⟩
 self:=fun _ _ _ _ _ st h=>wpAny_pyIter_tupleiter st h
theorem Bz6N {P:Program} {w:World} {K:PySem.W.Frag} {tg:Expr} (it:Addr) (lo:Int) (n:Nat):Turn P w K tg (Itr lo n) [it] it (fun i h=>IsRangeIter h it (lo+(i:Nat)*1) ((n:Int)-(i:Nat)) 1) where
 mem:=by simp
 obj:=fun i h st b hb=>by
  have e:b=it:=by simpa using hb
  subst e
  exact ⟨_,st,fun v z=>by
   have z':Data.fields _=Data.cell v:=z
   cases z'⟩
 keep:=fun i h h' st k=>k it (by simp) _ st
 item:=by
  intro X hP hw hK hc i pins s σ H E I hf st hg
  subst hP hw hK
  obtain ⟨f0,f1,f2,f3,f4,f5⟩:=hf it (by simp)
  have W:=Walks.range (prog:=X.prog) (w:=X.w) (I.ok.hd hc) it lo 1 n
  refine W.item i s _ _ hg st fun v h' tk hv st' kk=> ?_
  obtain ⟨t,rfl⟩:=hv
  have I1:Inv X pins σ H {s with heap:=h',toks:=tk}:=I.turned (fun b o hb e=>kk b o (by simpa using hb) e) f0 f1 f3 f4 f5
  refine ⟨_,rfl,go_of (s:= {s with heap:=h',toks:=tk}) (n:="range_iterator") st' rfl rfl (by decide) ⟨.int (lo+i),H,I1,⟨t,?_⟩,⟨rfl,rfl⟩,st',fun b hb=>(hf b hb).1⟩⟩
  rw [Int.mul_one]
 done:=by
  intro X hP hw hK hc i pins s σ H E I hf st hg
  subst hP hw hK
  obtain ⟨f0,f1,f2,f3,f4,f5⟩:=hf it (by simp)
  exact wpAny_pyNext_range_end (I.ok.hd hc) st (by have:n≤i:=hg;omega) fun h' eb=>⟨rfl,I.turned (t':=s.toks) (fun b o hb e=>eb b o hb e) f0 f1 f3 f4 f5⟩
 self:=fun _ _ _ _ _ st h=>wpAny_pyIter_rangeiter st h
end L2
namespace L2
open PySem PySem.Spec PyProof.Rows
section
variable {X:Cx} {tg:Expr}
theorem Cz4A {pins:List (Addr×Obj)} {σ:St} {H:Hp} {s:Shared} {R:It→Hp→Prop} {E:Value→Shared→Prop} {lo hi:Int} {t u v:Tok} {tk:Nat} (I:Inv X pins σ H s) (h1: -(2^62)≤lo) (h2:lo<2^62) (h3: -(2^62)≤hi) (h4:hi<2^62)
  (q:R (Itr lo (hi-lo).toNat) H):wpAny (model X.prog X.w) X.A (pyIter (.ref s.heap.objs.size)) (PIE X pins σ tg R) E {s with heap:=s.heap.push {cls:= .type "range",data:= .fields #[.int lo t, .int hi u, .int 1 v]},toks:=tk}:=by
 refine wpAny_pyIter_range (IsRange.new ..) (small_one h1 h2 h3 h4) ?_
 have I1:Inv X pins σ H {s with heap:=s.heap.push {cls:= .type "range",data:= .fields #[.int lo t, .int hi u, .int 1 v]},toks:=tk}:=I.kept fun b o e=>Heap.get?_push_of_some _ e
 refine ⟨(s.heap.push {cls:= .type "range",data:= .fields #[.int lo t, .int hi u, .int 1 v]}).objs.size,[(s.heap.push {cls:= .type "range",data:= .fields #[.int lo t, .int hi u, .int 1 v]}).objs.size],_,_,H,rfl,
  I1.kept (t':=tk) fun b o e=>Heap.get?_push_of_some _ e,Bz6N _ lo (hi-lo).toNat,?_,fun b hb=> ?_,q⟩
 ·have e1:lo+((0:Nat):Int)*1=lo:=by simp
  have e2:(((hi-lo).toNat:Nat):Int)-((0:Nat):Int)=Builtin.Range.rangeSize lo hi 1:=by rw [rangeSize_one];split<;>omega
  show IsRangeIter _ _ (lo+((0:Nat):Int)*1) ((((hi-lo).toNat:Nat):Int)-((0:Nat):Int)) 1
  rw [e1,e2]
  exact Heap.get?_push_size _ rfl
 ·have e:b=(s.heap.push {cls:= .type "range",data:= .fields #[.int lo t, .int hi u, .int 1 v]}).objs.size:=by simpa using hb
  subst e
  exact I1.fpOk (Nat.le_refl _) (I1.hok.fresh (Nat.le_refl _))
def iRng1 (ta:TA):TI:=fun σ H R=>ta σ H fun vs H1=>∃ j:Int,vs= [.int j]∧ -(2^62)≤j∧j<2^62∧R (Itr 0 j.toNat) H1
theorem Cz0N {a:Expr} {ta:TA} {p pos:Pos} (hg:Gl X "range") (hm:X.mg "range"=none) (ha:PA X [a] ta) (hs:starEach [a] X.env= [(false,eval a X.env)]:=by rfl):PI X tg (.Call (.Name "range" p) [a] [] pos) (iRng1 ta):=by
 intro pins s σ H R I h
 refine Call_ (ld_blt I hg hm boot_range (PyProof.Rows.callWith_type1 (thn (ha pos pins s σ H _ I h) fun us s1 ⟨vs,H1,I1,r1,q1⟩=> ?_) hs rfl))
 obtain ⟨j,e,q1,q2,q⟩:=q1
 subst e
 cases r1 with
 |cons r rr=>
  cases rr
  obtain ⟨t,rfl⟩:=r
  exact call_range_1 (Cz4A I1 (by omega) (by omega) q1 q2 (by simpa using q))
def tFor (wi:TI) (g:TG) (tb:TS):TS:=fun D σ H=>wi σ H fun J H1=>∃ W:Nat→Nat→St→Hp→Prop,(∃ m,W 0 m σ H1)∧∀ i m σ H,W i m σ H→
 (J.stop i H∧D.nx σ H)∨(J.go i H∧∃ N:St→Hp→Prop,(∀ σ' H',N σ' H'→∃ m',m'<m∧W (i+1) m' σ' H')∧∀ x H',J.yld i H x H'→g x σ H' fun σ2 H2=>tb {D with nx:=N,ct:=N,bk:=D.nx} σ2 H2)
def pinsAt (fp:List Addr) (h:Heap):List (Addr×Obj):=fp.filterMap fun b=>(h.get? b).map fun o=>(b,o)
theorem Az6I {fp:List Addr} {h:Heap} {b:Addr} {o:Obj} (hb:b∈fp) (e:h.get? b=some o):(b,o)∈pinsAt fp h:=List.mem_filterMap.mpr ⟨b,hb,by rw [e];rfl⟩
theorem Cz0Q {fp:List Addr} {h:Heap} {p:Addr×Obj} (hp:p∈pinsAt fp h):p.1∈fp∧h.get? p.1=some p.2:=by
 obtain ⟨b,hb,e⟩:=List.mem_filterMap.mp hp
 cases q:h.get? b with
 |none=>rw [q] at e;cases e
 |some o=>
  rw [q] at e
  have e':(b,o)=p:=Option.some.inj e
  subst e'
  exact ⟨hb,q⟩
theorem Inv.pinned {pins:List (Addr×Obj)} {σ:St} {H:Hp} {s:Shared} {fp:List Addr} (I:Inv X pins σ H s) (hf:∀ b∈fp,FpOk X pins H b) (ho:∀ b∈fp,∃ o,s.heap.get? b=some o∧∀ v,o.data≠ .cell v):Inv X (pins++pinsAt fp s.heap) σ H s:=
 I.pins_of fun p hp=>(List.mem_append.mp hp).elim (fun z=>I.pin p (List.mem_append_right _ z)) fun z=>by
  obtain ⟨hb,e⟩:=Cz0Q z
  obtain ⟨f0,f1,f2,_⟩:=hf p.1 hb
  obtain ⟨o,e',d⟩:=ho p.1 hb
  rw [e] at e';cases e'
  exact ⟨e,f0,f1,f2,d⟩
theorem Inv.unpinned {pins pl:List (Addr×Obj)} {σ:St} {H:Hp} {s:Shared} (I:Inv X (pins++pl) σ H s):Inv X pins σ H s:=I.pins_of fun p hp=>I.pin p (List.mem_append_right _ (List.mem_append_left _ hp))
theorem ps_for {iter:Expr} {body:List Stmt} {wi:TI} {g:TG} {tb:TS} {pos:Pos} (hp:PassesOwn (model X.prog X.w) X.A X.env X.xe) (hc:X.calm=true) (hi:PI X tg iter wi) (hg:PG X tg g) (hb:PSs X body tb)
  (hs:∀ x,foldedSetIterable iter X.env x=pure x:=by intro _;rfl):PS X (.For tg iter body [] pos) (tFor wi g tb):=by
 intro pins s σ H D I h
 refine wpAny_For (thn (hi pins s σ H _ I h) fun v s1 h1=>thn h1 fun itv s2 h2=> ?_) hs
 obtain ⟨it,fp,tn,J,H2,e,I2,T,st2,f2,W,⟨m0,w0⟩,turn⟩:=h2
 subst e
 have stat:∀ {H':Hp},(∀ b∈fp,H' b=none)→∀ b∈fp,FpOk X pins H' b:=fun hn b hb=>⟨hn b hb,(f2 b hb).2⟩
 refine codeAny_forLoop_any (fun n s'=>∃ i σ' H',Inv X pins σ' H' s'∧tn i s'.heap∧(∀ b∈fp,H' b=none)∧W i n σ' H') ?_ m0 ⟨0,σ,H2,I2,st2,fun b hb=>(f2 b hb).1,w0⟩
 rintro n s3 ⟨i,σ3,H3,I3,st3,fr3,w3⟩
 rcases turn i n σ3 H3 w3 with ⟨stop,qn⟩|⟨go,N,hN,step⟩
 ·refine wpAny_passesOwn hp (thn (T.done X rfl rfl rfl hc i pins s3 σ3 H3 X.xe I3 (stat fr3) st3 stop) fun r s4 ⟨hr,I4⟩=> ?_)
  subst hr
  exact wpAny_execs_nil ⟨σ3,H3,I4,qn⟩
 ·refine wpAny_passesOwn hp (thn (T.item X rfl rfl rfl hc i pins s3 σ3 H3 X.xe I3 (stat fr3) st3 go) fun r s4 ⟨u,hr,h4⟩=> ?_)
  subst hr
  refine wpAny_passesOwn hp (thn h4 fun _ s5 ⟨x,H5,I5,r5,y5,st5,fr5⟩=> ?_)
  have I5':=I5.pinned (stat fr5) (T.obj _ _ st5)
  refine wpAny_passesOwn hp (thn (hg _ s5 σ3 H5 x u _ I5' r5 (step x H5 y5)) fun _ s6 ⟨σ6,H6,I6,q6⟩=> ?_)
  refine wpAny_passesOwn hp (thn (hb _ s6 σ6 H6 _ I6 q6) fun f s7 q7=> ?_)
  have again:∀ {σ7:St} {H7:Hp},Inv X (pins++pinsAt fp s5.heap) σ7 H7 s7→N σ7 H7→∃ m,m<n∧∃ i σ' H',Inv X pins σ' H' s7∧tn i s7.heap∧(∀ b∈fp,H' b=none)∧W i m σ' H':=fun {σ7 H7} I7 n7=>by
   obtain ⟨m',hm,w7⟩:=hN σ7 H7 n7
   refine ⟨m',hm,i+1,σ7,H7,I7.unpinned,T.keep _ _ _ st5 fun b hb o e=>(I7.pin (b,o) (List.mem_append_right _ (List.mem_append_right _ (Az6I hb e)))).1,fun b hb=> ?_,w7⟩
   obtain ⟨o,e,d⟩:=T.obj _ _ st5 b hb
   exact (I7.pin (b,o) (List.mem_append_right _ (List.mem_append_right _ (Az6I hb e)))).2.1
  cases f with
  |next=>obtain ⟨σ7,H7,I7,n7⟩:=q7;exact again I7 n7
  |cont=>obtain ⟨σ7,H7,I7,n7⟩:=q7;exact again I7 n7
  |brk=>obtain ⟨σ7,H7,I7,q7⟩:=q7;exact ⟨σ7,H7,I7.unpinned,q7⟩
  |ret v=>obtain ⟨x7,σ7,H7,I7,r7,q7⟩:=q7;exact ⟨x7,σ7,H7,I7.unpinned,r7,q7⟩
end
end L2
namespace L2
open PySem PySem.Spec PyProof.Rows
abbrev R2:=V→V→Hp→VK→Prop
def OpR (X:Cx) (f:Value→Value→Sem Value) (r:R2):Prop:=
 ∀ (pins:List (Addr×Obj)) (s:Shared) (σ:St) (H:Hp) (x y:V) (v u:Value) (Q:VK),Inv X pins σ H s→RelV x v→RelV y u→r x y H Q→
  wpAny (model X.prog X.w) X.A (f v u) (EP X pins σ Q) X.xe s
def UnR (X:Cx) (f:Value→Sem Value) (r:V→Hp→VK→Prop):Prop:=
 ∀ (pins:List (Addr×Obj)) (s:Shared) (σ:St) (H:Hp) (x:V) (v:Value) (Q:VK),Inv X pins σ H s→RelV x v→r x H Q→
  wpAny (model X.prog X.w) X.A (f v) (EP X pins σ Q) X.xe s
def CallR (X:Cx) (f:Value) (r:List V→Hp→VK→Prop):Prop:=
 ∀ (pins:List (Addr×Obj)) (s:Shared) (σ:St) (H:Hp) (xs:List V) (us:List Value) (Q:VK),Inv X pins σ H s→Vals xs us→r xs H Q→
  wpAny (model X.prog X.w) X.A (call f us) (EP X pins σ Q) X.xe s
def tOp (r:R2) (ta tb:TE):TE:=fun σ H Q=>ta σ H fun x H1=>tb σ H1 fun y H2=>r x y H2 Q
def tUn (r:V→Hp→VK→Prop) (ta:TE):TE:=fun σ H Q=>ta σ H fun x H1=>r x H1 Q
def rI (C:Int→Int→Prop) (g:Int→Int→V):R2:=fun x y H Q=>∃ i j,x= .int i∧y= .int j∧C i j∧Q (g i j) H
def rI0 (g:Int→Int→V):R2:=fun x y H Q=>∃ i j,x= .int i∧y= .int j∧Q (g i j) H
def rU (g:Int→V):V→Hp→VK→Prop:=fun x H Q=>∃ i,x= .int i∧Q (g i) H
section
variable {X:Cx} {a b c:Expr} {ta tb tc:TE} {pos:Pos}
theorem binT (ha:PE X a ta) (hb:PE X b tb) {pins:List (Addr×Obj)} {s:Shared} {σ:St} {H:Hp} {R:V→V→Hp→Prop} (I:Inv X pins σ H s)
  (h:ta σ H fun x H1=>tb σ H1 fun y H2=>R x y H2) {Q:Value→Shared→Prop} {f:Value→Value→Sem Value}
  (hf:∀ v u s2 x y H2,Inv X pins σ H2 s2→RelV x v→RelV y u→R x y H2→wpAny (model X.prog X.w) X.A (f v u) Q X.xe s2):
  wpAny (model X.prog X.w) X.A (eval a X.env) (fun v s₁=>wpAny (model X.prog X.w) X.A (eval b X.env) (fun u s₂=>wpAny (model X.prog X.w) X.A (f v u) Q X.xe s₂) X.xe s₁) X.xe s:=by
 refine thn (ha pins s σ H _ I h) fun v s1 ⟨x,H1,I1,r1,q1⟩=> ?_
 refine thn (hb pins s1 σ H1 _ I1 q1) fun u s2 ⟨y,H2,I2,r2,q2⟩=> ?_
 exact hf v u s2 x y H2 I2 r1 r2 q2
theorem pe_op {op:Operator} {r:R2} (ho:OpR X (binaryOp op) r) (ha:PE X a ta) (hb:PE X b tb):PE X (.BinOp a op b pos) (tOp r ta tb):=by
 intro pins s σ H Q I h
 exact wpAny_BinOp (binT ha hb I h fun v u s2 x y H2 I2 rx ry q=>ho pins s2 σ H2 x y v u Q I2 rx ry q)
theorem pe_un {op:UnaryOp} {r:V→Hp→VK→Prop} (ho:UnR X (unaryOp op) r) (ha:PE X a ta):PE X (.UnaryOp op a pos) (tUn r ta):=by
 intro pins s σ H Q I h
 exact UnaryOp_ (thn (ha pins s σ H _ I h) fun v s1 ⟨x,H1,I1,r1,q1⟩=>ho pins s1 σ H1 x v Q I1 r1 q1)
theorem opI {f:Value→Value→Sem Value} {C:Int→Int→Prop} {g:Int→Int→Int}
  (rule:∀ (i j:Int) (t u:Tok) (s:Shared) (Q:Value→Shared→Prop) (E:Value→Shared→Prop),C i j→Q (.int (g i j) s.toks) {s with toks:=s.toks+1}→wpAny (model X.prog X.w) X.A (f (.int i t) (.int j u)) Q E s):
  OpR X f (rI C fun i j=> .int (g i j)):=by
 intro pins s σ H x y v u Q I rx ry h
 obtain ⟨i,j,rfl,rfl,hc,q⟩:=h
 obtain ⟨t,rfl⟩:=rx
 obtain ⟨t',rfl⟩:=ry
 exact rule i j t t' s _ _ hc ⟨.int (g i j),H,I.tok _,⟨_,rfl⟩,q⟩
theorem opI0 {f:Value→Value→Sem Value} {g:Int→Int→Int}
  (rule:∀ (i j:Int) (t u:Tok) (s:Shared) (Q:Value→Shared→Prop) (E:Value→Shared→Prop),Q (.int (g i j) s.toks) {s with toks:=s.toks+1}→wpAny (model X.prog X.w) X.A (f (.int i t) (.int j u)) Q E s):
  OpR X f (rI0 fun i j=> .int (g i j)):=by
 intro pins s σ H x y v u Q I rx ry h
 obtain ⟨i,j,rfl,rfl,q⟩:=h
 obtain ⟨t,rfl⟩:=rx
 obtain ⟨t',rfl⟩:=ry
 exact rule i j t t' s _ _ ⟨.int (g i j),H,I.tok _,⟨_,rfl⟩,q⟩
theorem opB0 {f:Value→Value→Sem Value} {g:Int→Int→Bool}
  (rule:∀ (i j:Int) (t u:Tok) (s:Shared) (Q:Value→Shared→Prop) (E:Value→Shared→Prop),Q (.bool (g i j)) s→wpAny (model X.prog X.w) X.A (f (.int i t) (.int j u)) Q E s):
  OpR X f (rI0 fun i j=> .bl (g i j)):=by
 intro pins s σ H x y v u Q I rx ry h
 obtain ⟨i,j,rfl,rfl,q⟩:=h
 obtain ⟨t,rfl⟩:=rx
 obtain ⟨t',rfl⟩:=ry
 exact rule i j t t' s _ _ ⟨.bl (g i j),H,I,rfl,q⟩
def CDiv (i j:Int):Prop:=0<j∧j<1073741824
def CMul (i j:Int):Prop:=(-(2^64)<i∧i<2^64)∨(-(2^64)<j∧j<2^64)
theorem CMul.ok {i j:Int} (h:CMul i j):IntMulOk i j:=by
 rcases h with ⟨h1,h2⟩|⟨h1,h2⟩
 ·exact .of_left (intBits_le_64 h1 h2)
 ·exact .of_right (intBits_le_64 h1 h2)
theorem op_add:OpR X (binaryOp .Add) (rI0 fun i j=> .int (i+j)):=opI0 fun _ _ _ _ _ _ _ q=>add_int q
theorem op_sub:OpR X (binaryOp .Sub) (rI0 fun i j=> .int (i-j)):=opI0 fun _ _ _ _ _ _ _ q=>sub_int q
theorem op_mul:OpR X (binaryOp .Mult) (rI CMul fun i j=> .int (i*j)):=opI fun _ _ _ _ _ _ _ hc q=>mul_int q hc.ok
theorem Cz7Y:OpR X (binaryOp .FloorDiv) (rI CDiv fun i j=> .int (i / j)):=opI fun i j _ _ _ _ _ hc q=>by
 have h1:(0:Int)<j:=hc.1
 have h2:j<1073741824:=hc.2
 exact floordiv_int (by omega) (by rw [Int.fdiv_eq_ediv_of_nonneg i (by omega)];exact q) (.inl (PyProof.noPylong_small (by omega)))
theorem op_mod:OpR X (binaryOp .Mod) (rI (fun _ j=>0<j) fun i j=> .int (i%j)):=opI fun i j _ _ _ _ _ hc q=>by
 have h1:(0:Int)<j:=hc
 exact mod_int' (by omega) (by rw [Int.fmod_eq_emod_of_nonneg i (by omega)];exact q)
theorem unI {f:Value→Sem Value} {g:Int→Int}
  (rule:∀ (i:Int) (t:Tok) (s:Shared) (Q:Value→Shared→Prop) (E:Value→Shared→Prop),Q (.int (g i) s.toks) {s with toks:=s.toks+1}→wpAny (model X.prog X.w) X.A (f (.int i t)) Q E s):
  UnR X f (rU fun i=> .int (g i)):=by
 intro pins s σ H x v Q I rx h
 obtain ⟨i,rfl,q⟩:=h
 obtain ⟨t,rfl⟩:=rx
 exact rule i t s _ _ ⟨.int (g i),H,I.tok _,⟨_,rfl⟩,q⟩
theorem un_neg:UnR X (unaryOp .USub) (rU fun i=> .int (-i)):=unI fun _ _ _ _ _ q=>neg_int q
end
section
variable {X:Cx} {a b c:Expr} {ta tb tc:TE} {pos:Pos}
theorem fin_bl {pins:List (Addr×Obj)} {σ:St} {H:Hp} {s:Shared} {Q:VK} {k k':Bool} (I:Inv X pins σ H s) (q:Q (.bl k) H) (e:k=k'):EP X pins σ Q (.bool k') s:=by
 subst e
 exact ⟨.bl k,H,I,rfl,q⟩
theorem op_lt:OpR X (compareOp .Lt) (rI0 fun i j=> .bl (decide (i<j))):=opB0 fun _ _ _ _ _ _ _ q=>lt_int q
theorem op_le:OpR X (compareOp .LtE) (rI0 fun i j=> .bl (decide (i≤j))):=opB0 fun _ _ _ _ _ _ _ q=>le_int q
theorem op_ge:OpR X (compareOp .GtE) (rI0 fun i j=> .bl (decide (j≤i))):=opB0 fun _ _ _ _ _ _ _ q=>ge_int q
theorem op_in_str:OpR X (compareOp .In) (fun x y H Q=>∃ i j,x= .str i∧y= .str j∧Q (.bl (!(Builtin.Str.occurrences j i 0 j.length 1).isEmpty)) H):=by
 intro pins s σ H x y v u Q I rx ry h
 obtain ⟨i,j,rfl,rfl,q⟩:=h
 obtain ⟨t,rfl⟩:=rx
 obtain ⟨t',rfl⟩:=ry
 exact in_str (fin_bl I q rfl)
theorem op_notin_str:OpR X (compareOp .NotIn) (fun x y H Q=>∃ i j,x= .str i∧y= .str j∧Q (.bl (!(!(Builtin.Str.occurrences j i 0 j.length 1).isEmpty))) H):=by
 intro pins s σ H x y v u Q I rx ry h
 obtain ⟨i,j,rfl,rfl,q⟩:=h
 obtain ⟨t,rfl⟩:=rx
 obtain ⟨t',rfl⟩:=ry
 exact notIn_str (fin_bl I q rfl)
theorem OpR.or {f:Value→Value→Sem Value} {r r':R2} (h:OpR X f r) (h':OpR X f r'):OpR X f (fun x y H Q=>r x y H Q∨r' x y H Q):=by
 intro pins s σ H x y v u Q I rx ry q
 rcases q with q|q
 ·exact h pins s σ H x y v u Q I rx ry q
 ·exact h' pins s σ H x y v u Q I rx ry q
theorem nomark (b:Expr) {op:CmpOp} (h:op≠ .In:=by decide) (h2:op≠ .NotIn:=by decide):behindInMarks op b=false:=by
 have e1:(op==CmpOp.In)=false:=by cases op<;>first|rfl|exact absurd rfl h
 have e2:(op==CmpOp.NotIn)=false:=by cases op<;>first|rfl|exact absurd rfl h2
 cases b<;>simp [behindInMarks,e1,e2]
theorem Cz2K {op:CmpOp} {r:R2} (ho:OpR X (compareOp op) r) (ha:PE X a ta) (hb:PE X b tb) (hm:behindInMarks op b=false):PE X (.Compare a [op] [b] pos) (tOp r ta tb):=by
 intro pins s σ H Q I h
 exact wpAny_Compare1 (binT ha hb I h fun v u s2 x y H2 I2 rx ry q=>ho pins s2 σ H2 x y v u Q I2 rx ry q) hm
def tTest (t:TE):TT:=fun σ H Q=>t σ H fun x H'=>∃ k,x= .bl k∧Q k H'
theorem Bz3R {op:CmpOp} {r:R2} (ho:OpR X (compareOp op) r) (ha:PE X a ta) (hb:PE X b tb) (hm:behindInMarks op b=false):PT X (.Compare a [op] [b] pos) (tTest (tOp r ta tb)):=by
 intro pins s σ H Q I h
 refine wpAny_isTrue_Compare1 (thn (ha pins s σ H _ I h) fun v s1 ⟨x,H1,I1,r1,q1⟩=>thn (hb pins s1 σ H1 _ I1 q1) fun u s2 ⟨y,H2,I2,r2,q2⟩=>
  thn (ho pins s2 σ H2 x y v u _ I2 r1 r2 q2) fun c s3 ⟨z,H3,I3,r3,k,e,q3⟩=> ?_) hm
 subst e
 cases r3
 exact wpAny_truthy_bool ⟨H3,I3,q3⟩
def tChain (r r':R2) (ta tb tc:TE):TE:=fun σ H Q=>ta σ H fun x H1=>tb σ H1 fun y H2=>r x y H2 fun z H3=>∃ k,z= .bl k∧
 (if k=true then tc σ H3 fun w' H4=>r' y w' H4 Q else Q (.bl false) H3)
theorem Cz4J {op op':CmpOp} {r r':R2} (ho:OpR X (compareOp op) r) (ho':OpR X (compareOp op') r') (ha:PE X a ta) (hb:PE X b tb) (hc:PE X c tc)
  (hm:lastMarks [op,op'] [b,c]=false:=by with_unfolding_all rfl):PE X (.Compare a [op,op'] [b,c] pos) (tChain r r' ta tb tc):=by
 intro pins s σ H Q I h
 refine Compare_chain (thn (ha pins s σ H _ I h) fun v s1 ⟨x,H1,I1,r1,q1⟩=>chain_link (thn (hb pins s1 σ H1 _ I1 q1) fun u s2 ⟨y,H2,I2,r2,q2⟩=>
  thn (ho pins s2 σ H2 x y v u _ I2 r1 r2 q2) fun d s3 ⟨z,H3,I3,r3,k,e,q3⟩=> ?_)) hm
 subst e
 cases r3
 refine wpAny_truthy_bool ?_
 cases k with
 |false=>exact ite_ff ⟨.bl false,H3,I3,rfl,q3⟩
 |true=>exact ite_tt (chain_last (thn (hc pins s3 σ H3 _ I3 q3) fun w' s4 ⟨z',H4,I4,r4,q4⟩=>ho' pins s4 σ H4 y z' u w' Q I4 r2 r4 q4))
theorem Cz4B {op op':CmpOp} {r r':R2} (ho:OpR X (compareOp op) r) (ho':OpR X (compareOp op') r') (ha:PE X a ta) (hb:PE X b tb) (hc:PE X c tc)
  (hm:lastMarks [op,op'] [b,c]=false:=by with_unfolding_all rfl):PT X (.Compare a [op,op'] [b,c] pos) (tTest (tChain r r' ta tb tc)):=by
 intro pins s σ H Q I h
 refine isTrue_chain (thn (ha pins s σ H _ I h) fun v s1 ⟨x,H1,I1,r1,q1⟩=>test_link (thn (hb pins s1 σ H1 _ I1 q1) fun u s2 ⟨y,H2,I2,r2,q2⟩=>
  thn (ho pins s2 σ H2 x y v u _ I2 r1 r2 q2) fun d s3 ⟨z,H3,I3,r3,k,e,q3⟩=> ?_)) hm
 subst e
 cases r3
 refine wpAny_truthy_bool ?_
 cases k with
 |false=>
  obtain ⟨k',e',q'⟩:=q3
  cases e'
  exact ite_ff ⟨H3,I3,q'⟩
 |true=>
  refine ite_tt (test_last (thn (hc pins s3 σ H3 _ I3 q3) fun w' s4 ⟨z',H4,I4,r4,q4⟩=>thn (ho' pins s4 σ H4 y z' u w' _ I4 r2 r4 q4) fun d' s5 ⟨z2,H5,I5,r5,k2,e2,q5⟩=> ?_))
  subst e2
  cases r5
  exact wpAny_truthy_bool ⟨H5,I5,q5⟩
theorem line63:(sizeLine:Nat)<2^63:=by rw [sizeLine_eq];decide
theorem Bz7H:OpR X (binaryOp .Add) (fun x y H Q=>∃ i j,x= .str i∧y= .str j∧i.length+j.length≤sizeLine∧Q (.str (i++j)) H):=by
 intro pins s σ H x y v u Q I rx ry h
 obtain ⟨i,j,rfl,rfl,hz,q⟩:=h
 obtain ⟨t,rfl⟩:=rx
 obtain ⟨t',rfl⟩:=ry
 exact add_str (fun t' tk=>⟨.str (i++j),H,I.tok _,⟨_,rfl⟩,q⟩) hz
theorem vals1 {x:V} {us:List Value} (r:Vals [x] us):∃ u,us= [u]∧RelV x u:=by
 cases r with
 |cons r1 r2=>cases r2;exact ⟨_,rfl,r1⟩
theorem vals2 {x y:V} {us:List Value} (r:Vals [x,y] us):∃ u w',us= [u,w']∧RelV x u∧RelV y w':=by
 cases r with
 |cons r1 r2=>
  cases r2 with
  |cons r3 r4=>cases r4;exact ⟨_,_,rfl,r1,r3⟩
theorem Cz6E:CallR X (.builtin "abs") (fun xs H Q=>∃ i,xs= [.int i]∧Q (.int (if i<0 then -i else i)) H):=by
 intro pins s σ H xs us Q I r h
 obtain ⟨i,rfl,q⟩:=h
 obtain ⟨u,rfl,t,rfl⟩:=vals1 r
 exact call_abs_int fun u tk=>⟨.int (if i<0 then -i else i),H,I.tok _,⟨_,rfl⟩,q⟩
theorem Cz1T (hc:X.calm=true):CallR X (.builtin "max") (fun xs H Q=>∃ i j,xs= [.int i, .int j]∧Q (.int (if j>i then j else i)) H):=by
 intro pins s σ H xs us Q I r h
 obtain ⟨i,j,rfl,q⟩:=h
 obtain ⟨u,w',rfl,⟨t,rfl⟩,⟨t',rfl⟩⟩:=vals2 r
 refine max_two_ints (I.ok.hd hc) fun h' tk k=>⟨_,H,I.kept k,?_,q⟩
 by_cases hj:j>i
 ·rw [if_pos hj,if_pos hj];exact ⟨_,rfl⟩
 ·rw [if_neg hj,if_neg hj];exact ⟨_,rfl⟩
theorem Cz1S (hc:X.calm=true):CallR X (.builtin "min") (fun xs H Q=>∃ i j,xs= [.int i, .int j]∧Q (.int (if j<i then j else i)) H):=by
 intro pins s σ H xs us Q I r h
 obtain ⟨i,j,rfl,q⟩:=h
 obtain ⟨u,w',rfl,⟨t,rfl⟩,⟨t',rfl⟩⟩:=vals2 r
 refine min_two_ints (I.ok.hd hc) fun h' tk k=>⟨_,H,I.kept k,?_,q⟩
 by_cases hj:j<i
 ·rw [if_pos hj,if_pos hj];exact ⟨_,rfl⟩
 ·rw [if_neg hj,if_neg hj];exact ⟨_,rfl⟩
theorem Cz1V:CallR X (.type "int") (fun xs H Q=>(∃ i,xs= [.int i]∧Q (.int i) H)∨∃ k,xs= [.bl k]∧Q (.int (if k then 1 else 0)) H):=by
 intro pins s σ H xs us Q I r h
 rcases h with ⟨i,rfl,q⟩|⟨k,rfl,q⟩
 ·obtain ⟨u,rfl,t,rfl⟩:=vals1 r
  exact call_int_int ⟨.int i,H,I,⟨_,rfl⟩,q⟩
 ·obtain ⟨u,rfl,r1⟩:=vals1 r
  cases r1
  exact call_int_bool ⟨.int (if k then 1 else 0),H,I.tok _,⟨_,rfl⟩,q⟩
theorem call_str_int:CallR X (.type "str") (fun xs H Q=>∃ i,xs= [.int i]∧i.natAbs.log2<1920∧Q (.str (toString i)) H):=by
 intro pins s σ H xs us Q I r h
 obtain ⟨i,rfl,hz,q⟩:=h
 obtain ⟨u,rfl,t,rfl⟩:=vals1 r
 exact PySem.P.str_of_int hz ⟨.str _,H,I.tok _,⟨_,rfl⟩,q⟩
def LenV (K:PySem.W.Frag) (x:V) (H:Hp) (n:Nat):Prop:=
 match x with
 | .str y=>y.length≤sizeLine∧n=y.length
 | .byt y=>y.size≤sizeLine∧n=y.size
 | .ref p=>(∃ xs,SqL K H p xs∧n=xs.length)∨∃ xs,SqT K H p xs∧n=xs.length
 |_=>False
theorem Cz6C:CallR X (.builtin "len") (fun xs H Q=>∃ x n,xs= [x]∧LenV X.K x H n∧Q (.int n) H):=by
 intro pins s σ H xs us Q I r h
 obtain ⟨x,n,rfl,e,q⟩:=h
 obtain ⟨u,rfl,rx⟩:=vals1 r
 have hl:=line63
 have hs:sizeLine=16777216:=sizeLine_eq
 cases x with
 |str y=>
  obtain ⟨t,rfl⟩:=rx
  obtain ⟨hy,e'⟩:y.length≤sizeLine∧n=y.length:=e
  subst e'
  exact len_str (by omega) ⟨.int _,H,I.tok _,⟨_,rfl⟩,q⟩
 |byt y=>
  obtain ⟨t,rfl⟩:=rx
  obtain ⟨hy,e'⟩:y.size≤sizeLine∧n=y.size:=e
  subst e'
  exact PySem.W.len_bytes (by omega) ⟨.int _,H,I.tok _,⟨_,rfl⟩,q⟩
 |ref p=>
  cases rx
  have e':(∃ xs,SqL X.K H p xs∧n=xs.length)∨∃ xs,SqT X.K H p xs∧n=xs.length:=e
  rcases e' with ⟨xs,hx,e'⟩|⟨xs,hx,e'⟩
  ·subst e'
   obtain ⟨its,r',pl,hz⟩:=I.list hx
   have hlen:=r'.length
   exact Calls.call_len_list pl.isList (by simp only [List.size_toArray];omega) ⟨.int xs.length,H,I.tok _,⟨_,by simp only [List.size_toArray];rw [hlen]⟩,q⟩
  ·subst e'
   obtain ⟨its,r',pl,hz⟩:=I.tuple hx
   have hlen:=r'.length
   exact len_tuple pl (by simp only [List.size_toArray];omega) ⟨.int xs.length,H,I.tok _,⟨_,by simp only [List.size_toArray];rw [hlen]⟩,q⟩
 |_=>exact (show False from e).elim
end
end L2
namespace L2
open PySem PySem.Spec PyProof.Rows
structure ObjM (h:Heap) (x dx C:Addr) (mA:Str→Option Value):Prop where
 obj:h.get? x=some (PySem.W.instObj C dx)
 ns:h.Ns1 dx mA
 ne:dx≠x
theorem Cz0W {h:Heap} {dx:Addr} {mA:Str→Option Value} (n:h.Ns1 dx mA):∃ od,h.get? dx=some od∧∀ name,PySem.W.lookIn name od=some (mA name):=by
 obtain ⟨o,es,ep,ho,hd,hk,_,hm⟩:=n
 refine ⟨o,ho,fun name=> ?_⟩
 have e:=hm name
 unfold nsFind findBy at e
 rw [←Array.find?_toList] at e
 unfold PySem.W.lookIn
 rw [hd]
 dsimp only
 split
 ·rename_i y q
  rw [q] at e
  exact congrArg some e
 ·rename_i q
  rw [q] at e
  have a:es.toList.any (·.refKey)=false:=by
   rw [List.any_eq_false]
   intro y hy
   obtain ⟨z,t,hkey⟩:=hk y (Array.mem_toList_iff.mp hy)
   simp [DictEntry.refKey,hkey]
  have a':¬ es.toList.any (·.refKey)=true:=by rw [a];exact Bool.false_ne_true
  rw [if_neg a']
  exact congrArg some e
theorem ObjM.look {h:Heap} {x dx C:Addr} {mA:Str→Option Value} (I:ObjM h x dx C mA):∃ od,PySem.W.InstAt h x (PySem.W.instObj C dx) C (some od)∧∀ name,PySem.W.lookIn name od=some (mA name):=
 let ⟨od,ho,hl⟩:=Cz0W I.ns
 ⟨od,⟨I.obj,rfl,rfl,ho⟩,hl⟩
section
variable {prog:Program} {w:World} {A:Around} {E:Value→Shared→Prop} {s:Shared} {K:PySem.W.Frag} {x dx C f:Addr} {mA:Str→Option Value} {name:Str} {v:Value}
theorem get_map {expr:Bool} {Q:Value→Shared→Prop} (X:K.In s.heap) (I:ObjM s.heap x dx C mA) (hg:PySem.W.plainGet K C name=true) (hh:PySem.W.hasDictIn K C=true)
  (ha:PySem.W.findIn K (.ref C) name=some none) (hv:mA name=some v) (hv':PySem.W.handedIn v=true) (h:Q v {s with toks:=s.toks+1}):
  wpAny (model prog w) A (getAttr (.ref x) name expr) Q E s:=by
 obtain ⟨od,J,hl⟩:=I.look
 exact PySem.W.get_value X J (PySem.W.plainGet_of hg).1 (PySem.W.findObj_own hh ha rfl (by rw [hl,hv])) hv' h
end
section
variable {P:Program} {w:World} {H H':Hp} {h h':Heap} {a C dx:Addr} {fs fs':List (Str×V)}
end
structure Cls (K:PySem.W.Frag) (C:Addr):Prop where
 pg:PySem.W.plainGet K C Str.empty=true
 hd:PySem.W.hasDictIn K C=true
 po:PySem.W.plainOver K C=true
 sa:PySem.W.findIn K (.ref C) "__setattr__"=some (some (.builtin "object.__setattr__"))
theorem Cls.get {K:PySem.W.Frag} {C:Addr} (c:Cls K C) (f:Str):PySem.W.plainGet K C f=true:=c.pg
def NoAttr (K:PySem.W.Frag) (C:Addr) (f:Str):Prop:=PySem.W.findIn K (.ref C) f=some none
structure Con (K:PySem.W.Frag) (C:Addr) (f:Str) (v:V) (u:Value):Prop where
 at_:PySem.W.findIn K (.ref C) f=some (some u)
 rel:RelV v u
 get:PySem.W.specialIn K u "__get__"=some none
 cp:PySem.W.copiedNames.contains f=false
structure Meth (K:PySem.W.Frag) (C:Addr) (m:Str) (f:Addr):Prop where
 at_:PySem.W.findIn K (.ref C) m=some (some (.ref f))
 fn:PySem.W.isFn K (.ref f)=true
 kp:PySem.W.keepIn K (.ref f)=true
section
variable {X:Cx} {pins:List (Addr×Obj)} {σ:St} {H:Hp} {s:Shared} {a C dx:Addr} {fs:List (Str×V)} {f:Str} {v:V} {A:Around} {E:Value→Shared→Prop}
theorem Inv.made (I:Inv X pins σ H s):Inv X pins σ (upd (upd H s.heap.objs.size (.own (s.heap.objs.size+1))) (s.heap.objs.size+1) (.ins C s.heap.objs.size []))
  {s with heap:=(s.heap.push PySem.W.emptyDict).push (PySem.W.instObj C s.heap.objs.size)}:=by
 have e1:(s.heap.push PySem.W.emptyDict).get? s.heap.objs.size=some PySem.W.emptyDict:=Heap.get?_push_size s.heap rfl
 have e2:((s.heap.push PySem.W.emptyDict).push (PySem.W.instObj C s.heap.objs.size)).get? (s.heap.objs.size+1)=some (PySem.W.instObj C s.heap.objs.size):=by
  have:=Heap.get?_push_size (s.heap.push PySem.W.emptyDict) (o:=PySem.W.instObj C s.heap.objs.size) rfl
  rwa [Heap.size_push] at this
 have e3:(s.heap.push PySem.W.emptyDict).Ns s.heap.objs.size (fun _=>none):=⟨PySem.W.emptyDict,#[],_,e1,rfl,(fun e he=>absurd he (by simp)),fun _=>rfl⟩
 have I1:=I.laid (a:=s.heap.objs.size) (o:= .own (s.heap.objs.size+1)) (h':=s.heap.push PySem.W.emptyDict) (t':=s.toks) (fun b u q=>Heap.get?_push_of_some _ q) (Nat.le_refl _) ⟨_,e1⟩
 refine I1.laid (a:=s.heap.objs.size+1) (o:= .ins C s.heap.objs.size []) (t':=s.toks) (fun b u q=>Heap.get?_push_of_some _ q) (Nat.le_of_eq (Heap.size_push _ _)) ?_
 have ne:s.heap.objs.size≠s.heap.objs.size+1:=Nat.ne_of_lt (Nat.lt_succ_self _)
 refine ⟨by rw [upd_ne ne,Az0L],Nat.zero_le _,ne,e2,fun _=>none,(Heap.Ns1.of_empty e3).at fun o q=>Heap.get?_push_of_some _ q,fun _=>True.intro,fun y hy=>absurd rfl hy⟩
end
section
variable {X:Cx} {o e value:Expr} {f:Str} {pos pos' tpos:Pos} {ta tv:TE}
end
section
variable {X:Cx} {pins:List (Addr×Obj)} {σ:St} {H:Hp} {s:Shared} {A:Around} {E:Value→Shared→Prop} {Q:Value→Shared→Prop} {c:Value} {b:Bool}
inductive TyOf (K:PySem.W.Frag) (H:Hp):V→Value→Prop where
 |non:TyOf K H .non (.type "NoneType")
 |bl (x:Bool):TyOf K H (.bl x) (.type "bool")
 |int (i:Int):TyOf K H (.int i) (.type "int")
 |str (x:Str):TyOf K H (.str x) (.type "str")
 |flt (x:UInt64):TyOf K H (.flt x) (.type "float")
 |lst {a:Addr} {xs:List V} (e:H a=some (.lst xs)):TyOf K H (.ref a) (.type "list")
 |frz {a:Addr} {o:Obj} {xs:List V} (e:H a=some (.frz o (.lst xs))):TyOf K H (.ref a) (.type "list")
 |tup {a:Addr} {xs:List V} (e:H a=some (.tup xs)):TyOf K H (.ref a) (.type "tuple")
 |dK {a:Addr} {kvs:List (Key×V)} (e:H a=some (.dK kvs)):TyOf K H (.ref a) (.type "dict")
 |dT {a:Addr} {kvs:List (List Key×V)} (e:H a=some (.dT kvs)):TyOf K H (.ref a) (.type "dict")
 |ins {a C dx:Addr} {fs:List (Str×V)} (e:H a=some (.ins C dx fs)) (cl:Cls K C) (ha:PySem.W.findIn K (.ref C) "__class__"=some (some (.builtin "object.__class__")))
   (hn:PySem.W.specialIn K (.builtin "object.__class__") "__get__"=some (some (.builtin "getset_descriptor.__get__"))) (htk:PySem.W.takesIn K (.builtin "object.__class__")=some true)
   (hm:PySem.W.mroIn K C (.type "object")=some true):TyOf K H (.ref a) (.ref C)
end
end L2
namespace L2
open PySem PySem.Spec PyProof.Rows
structure Room (k:Nat) (A:Around):Prop where
 hd:A.handled=none
 dp:A.depth+3*k+5<recursionLimit
 un:A.units+16*k+200<cLine
 gd:A.guards=some []
theorem Room.mono {j k:Nat} {A:Around} (r:Room k A) (h:j≤k):Room j A:=⟨r.hd,by have:=r.dp;omega,by have:=r.un;omega,r.gd⟩
theorem Room.deeper {k:Nat} {A:Around} (r:Room (k+1) A) (env:Env):Room k (A.deeper env):=
 ⟨r.hd,by have:=r.dp;show A.depth+1+3*k+5<_;omega,by have:=r.un;show A.units+3+16*k+200<_;omega,r.gd⟩
theorem Room.in1 {k:Nat} {A:Around} (r:Room (k+1) A):Room k A.in1:=
 ⟨r.hd,by have:=r.dp;show A.depth+3*k+5<_;omega,by have:=r.un;show A.units+1+16*k+200<_;omega,r.gd⟩
theorem Room.depth {k:Nat} {A:Around} (r:Room k A):A.depth<recursionLimit:=by have:=r.dp;omega
theorem Room.units {k:Nat} {A:Around} (r:Room k A):A.units+64<cLine:=by have:=r.un;omega
def tNil:TA:=fun _ H Q=>Q [] H
def tCons (ta:TE) (tr:TA):TA:=fun σ H Q=>ta σ H fun x H1=>tr σ H1 fun xs H2=>Q (x::xs) H2
section
variable {X:Cx} {e:Expr} {es:List Expr} {te:TE} {t:TA} {pos:Pos}
theorem pa_nil:PA X [] tNil:=fun _ _ _ _ H Q I h=>Calls.spliced_nil ⟨[],H,I, .nil,h⟩
theorem Az7V (ha:PE X e te) (hr:PA X es t) (hs:starEach (e::es) X.env=(false,eval e X.env)::starEach es X.env:=by rfl):PA X (e::es) (tCons te t):=by
 intro pos pins s σ H Q I h
 rw [hs]
 show wpAny _ _ (spliced ((false,eval e X.env)::backTo pos (starEach es X.env))) _ _ s
 refine Calls.spliced_cons (thn (ha pins s σ H _ I h) fun u s1 ⟨x,H1,I1,r1,q1⟩=> ?_)
 exact thn (hr pos pins s1 σ H1 _ I1 q1) fun us s2 ⟨xs,H2,I2,r2,q2⟩=>⟨x::xs,H2,I2, .cons r1 r2,q2⟩
def tTup (t:TA):TE:=fun σ H Q=>t σ H fun xs H1=>xs.length≤sizeLine∧∀ p,H1 p=none→Q (.ref p) (upd H1 p (.tup xs))
def tLst (t:TA):TE:=fun σ H Q=>t σ H fun xs H1=>xs.length≤sizeLine∧∀ p,H1 p=none→Q (.ref p) (upd H1 p (.lst xs))
theorem pe_tup {x1} (h:PA X es t):PE X (.Tuple es x1 pos) (tTup t):=by
 intro pins s σ H Q I hq
 refine wpAny_Tuple_spliced (thn (h pos pins s σ H _ I hq) fun us s1 ⟨xs,H1,I1,r,z,q⟩=>⟨by rw [←r.length];exact z,?_⟩)
 have hf:H1 s1.heap.objs.size=none:=I1.hok.fresh (Nat.le_refl _)
 refine ⟨.ref s1.heap.objs.size,upd H1 s1.heap.objs.size (.tup xs),I1.laid (t':=s1.toks) (fun b u e=>Heap.get?_push_of_some _ e) (Nat.le_refl _) ?_,rfl,q _ hf⟩
 exact ⟨z,us,r,⟨_,Heap.get?_push_size _ rfl,rfl,_,rfl⟩⟩
theorem pe_lst (h:PA X es t):PE X (.List es pos) (tLst t):=by
 intro pins s σ H Q I hq
 refine wpAny_List_spliced (thn (h pos pins s σ H _ I hq) fun us s1 ⟨xs,H1,I1,r,z,q⟩=>⟨by rw [←r.length];exact z,?_⟩)
 have hf:H1 s1.heap.objs.size=none:=I1.hok.fresh (Nat.le_refl _)
 refine ⟨.ref s1.heap.objs.size,upd H1 s1.heap.objs.size (.lst xs),I1.laid (t':=s1.toks) (fun b u e=>Heap.get?_push_of_some _ e) (Nat.le_refl _) ?_,rfl,q _ hf⟩
 exact ⟨z,us,0,r,Heap.get?_push_size _ rfl⟩
end
abbrev Sp:=List V→Hp→VK→XK→Prop
abbrev CXT:=List Env→Hp→Shared→XK→Value→Shared→Prop
structure Env0 (P:Program) (w:World) (K:PySem.W.Frag) (mg:Str→Option Value) (base:Heap) (A:Around) (outer:List Env) (s:Shared) (H:Hp):Prop where
 frames:A.frames=some outer
 mod:Mod K mg base
 bs:∀ b o,base.get? b=some o→s.heap.get? b=some o∧H b=none
 bsz:base.objs.size≤s.heap.objs.size
 funs:s.heap.FunFrames base outer
 frf:∀ b∈frs outer,H b=none
 hok:HOk P w H s.heap
 bare:AllBare s.gens
def CE (outer:List Env) (P:Program) (w:World) (H:Hp) (s:Shared) (Q:VK) (u:Value) (s':Shared):Prop:=
 ∃ v H',s'.os=s.os∧AllBare s'.gens∧Un (frs outer) [] H H' s.heap s'.heap∧HOk P w H' s'.heap∧RelV v u∧Q v H'
def CR (CX:CXT) (outer:List Env) (P:Program) (w:World) (H:Hp) (s:Shared) (Q:VK) (E:XK) (r:Result) (s':Shared):Prop:=
 match r with
 | .ok (.ret u)=>CE outer P w H s Q u s'
 | .ok _=>False
 | .error e=>CX outer H s E e s'
structure FnOk (P:Program) (w:World) (K:PySem.W.Frag) (mg:Str→Option Value) (base:Heap) (CX:CXT) (k:Nat) (f:Addr) (fd:FuncData) (ps:List Str) (sp:Sp):Prop where
 len:∀ vs H Q E,sp vs H Q E→vs.length=ps.length
 run:∀ (A:Around) (outer:List Env) (s:Shared) (H:Hp) (args:Args) (us:List Value) (vs:List V) (Q:VK) (E:XK),Room k A→Env0 P w K mg base A outer s H→BindsTo s fd args (ps.zip us)→Vals vs us→sp vs H Q E→
  codeAny (model P w) A (.call (.ref f) args) (CR CX outer P w H s Q E) s
theorem FnOk.mono {P:Program} {w:World} {K:PySem.W.Frag} {mg:Str→Option Value} {base:Heap} {CX:CXT} {j k:Nat} {f:Addr} {fd:FuncData} {ps:List Str} {sp:Sp} (F:FnOk P w K mg base CX j f fd ps sp) (h:j≤k):
  FnOk P w K mg base CX k f fd ps sp:=⟨F.len,fun A outer s H args us vs Q E hr=>F.run A outer s H args us vs Q E (hr.mono h)⟩
theorem FnOk.imp {P:Program} {w:World} {K:PySem.W.Frag} {mg:Str→Option Value} {base:Heap} {CX:CXT} {k:Nat} {f:Addr} {fd:FuncData} {ps:List Str} {sp sp':Sp} (F:FnOk P w K mg base CX k f fd ps sp)
  (h:∀ vs H Q E,sp' vs H Q E→sp vs H Q E):FnOk P w K mg base CX k f fd ps sp':=
 ⟨fun vs H Q E q=>F.len vs H Q E (h _ _ _ _ q),fun A outer s H args us vs Q E hr he hb hv hs=>F.run A outer s H args us vs Q E hr he hb hv (h _ _ _ _ hs)⟩
theorem Env0.in1 {P:Program} {w:World} {K:PySem.W.Frag} {mg:Str→Option Value} {base:Heap} {A:Around} {outer:List Env} {s:Shared} {H:Hp} (e:Env0 P w K mg base A outer s H):
  Env0 P w K mg base A.in1 outer s H:=⟨e.frames,e.mod,e.bs,e.bsz,e.funs,e.frf,e.hok,e.bare⟩
section
variable {X:Cx} {pins:List (Addr×Obj)} {σ:St} {H:Hp} {s s':Shared}
theorem Inv.env0 (I:Inv X pins σ H s):Env0 X.prog X.w X.K X.mg X.base X.A X.stack s H:=
 ⟨I.ok.frames,I.ok.mod,I.bs,Nat.le_trans I.ok.bsz I.sz,I.stack,I.stkFree,I.hok,I.bare⟩
theorem Inv.after {Q:VK} {u:Value} (I:Inv X pins σ H s) (h:CE X.stack X.prog X.w H s Q u s'):EP X pins σ Q u s':=by
 obtain ⟨v,H',os,bare,un,hok,r,q⟩:=h
 obtain ⟨hh,g,d,t,os'⟩:=s'
 obtain rfl:os'=s.os:=os
 exact ⟨v,H',I.call (h':=hh) (g':=g) (d':=d) (t':=t) (ch:= []) un hok bare (fun b z=>absurd z (by simp)),r,q⟩
end
def tCall (sp:Sp) (dvs:List V) (E:XK) (t:TA):TE:=fun σ H Q=>t σ H fun vs H1=>sp (vs++dvs) H1 Q E
def Binds (K:PySem.W.Frag) (fd:FuncData) (ps:List Str) (ds:List Value):Prop:=
 ∀ (s:Shared) (us:List Value),K.In s.heap→(us++ds).length=ps.length→BindsTo s fd ⟨us,[]⟩ (ps.zip (us++ds))
theorem Binds.all {K:PySem.W.Frag} {fd:FuncData} {ps:List Str} (h:∀ us:List Value,us.length=ps.length→bindArgs fd ⟨us,[]⟩=pure (ps.zip us)):Binds K fd ps []:=fun s us _ hl=>by
 rw [List.append_nil] at hl ⊢
 exact .of_eq (h us hl)
def Passes (CX:CXT) (X:Cx) (E:XK):Prop:=∀ (pins:List (Addr×Obj)) (σ:St) (H:Hp) (s:Shared) (e:Value) (s':Shared),Inv X pins σ H s→CX X.stack H s E e s'→X.xe e s'
section
variable {X:Cx} {CX:CXT} {k:Nat} {f C:Addr} {fd:FuncData} {ps:List Str} {sp:Sp} {dvs:List V} {ds:List Value} {E:XK} {x m:Str} {p pos apos:Pos} {e o:Expr} {es:List Expr} {ta:TE} {t:TA}
theorem run_fn {pins:List (Addr×Obj)} {σ:St} {H:Hp} {s:Shared} {Q:VK} {us:List Value} {vs:List V} (F:FnOk X.prog X.w X.K X.mg X.base CX k f fd ps sp) (hr:Room k X.A) (hb:Binds X.K fd ps ds) (hd:Vals dvs ds) (hx:Passes CX X E)
  (I:Inv X pins σ H s) (r:Vals vs us) (h:sp (vs++dvs) H Q E):wpAny (model X.prog X.w) X.A (call (.ref f) us) (EP X pins σ Q) X.xe s:=by
 have r2:Vals (vs++dvs) (us++ds):=r.append hd
 have hl:(us++ds).length=ps.length:=by rw [←r2.length];exact F.len _ _ _ _ h
 refine wpAny_call (codeAny_mono (F.run X.A X.stack s H ⟨us,[]⟩ (us++ds) (vs++dvs) Q E hr I.env0 (hb s us I.kIn hl) r2 h) fun r s' hq=> ?_)
 cases r with
 |error e=>exact hx pins σ H s e s' I hq
 |ok fl=>
  cases fl with
  |ret u=>exact I.after hq
  |next=>exact False.elim hq
  |brk=>exact False.elim hq
  |cont=>exact False.elim hq
theorem Cz2L (F:FnOk X.prog X.w X.K X.mg X.base CX k f fd ps sp) (hr:Room k X.A) (hg:Gl X x) (hm:X.mg x=some (.ref f)) (hk:PySem.W.keepIn X.K (.ref f)=true) (hb:Binds X.K fd ps ds) (hd:Vals dvs ds) (hx:Passes CX X E)
  (ha:PA X (e::es) t) (hdb:(x==("__debug__":Str))=false:=by decide) (he:starEach (e::es) X.env=(false,eval e X.env)::starEach es X.env:=by rfl) (hpl:(backTo pos (starEach es X.env)).any (·.1)=false:=by rfl):
  PE X (.Call (.Name x p) (e::es) [] pos) (tCall sp dvs E t):=by
 intro pins s σ H Q I h
 refine wpAny_Call_Name_kw (Cz2R I hg hm ?_ hdb)
 refine PySem.W.callWith_K (h₀:=X.base) I.ok.mod.kin hk (thn (ha pos pins s σ H _ I h) fun us s1 ⟨vs,H1,I1,r,q⟩=>⟨I1.kIn,?_⟩) he hpl
 exact run_fn F hr hb hd hx I1 r q
structure Mk (K:PySem.W.Frag) (C f:Addr):Prop where
 makes:PySem.W.makesIn K C=true
 init:PySem.W.findIn K (.ref C) "__init__"=some (some (.ref f))
 fn:PySem.W.isFn K (.ref f)=true
 kp:PySem.W.keepIn K (.ref C)=true
end
section
variable {X:Cx} {CX:CXT} {k:Nat} {f C:Addr} {fd:FuncData} {ps ks:List Str} {sp:Sp} {E:XK} {x m:Str} {p pos apos kpos:Pos} {e o:Expr} {es:List Expr} {kws:List Keyword} {te ta:TE} {t tk:TA} {nm:Option Str}
structure KBinds (K:PySem.W.Frag) (fd:FuncData) (ps ks:List Str) (g:List Value→List Value→List Value) (gV:List V→List V→List V):Prop where
 to:∀ (s:Shared) (us ws:List Value),K.In s.heap→(g us ws).length=ps.length→BindsTo s fd ⟨us,ks.zip ws⟩ (ps.zip (g us ws))
 rel:∀ {vs:List V} {us:List Value} {zs:List V} {ws:List Value},Vals vs us→Vals zs ws→Vals (gV vs zs) (g us ws)
variable {g:List Value→List Value→List Value} {gV:List V→List V→List V}
end
structure FnScope (N P:List Str) (sc:Scope):Prop where
 kind:sc.kind= .function
 co:sc.isCoroutine=false
 gen:sc.isGenerator=false
 nd:N.Nodup
 pre:N.take P.length=P
 par:∀ x∈P,sc.names.lookup x=some .local∨sc.names.lookup x=some .cell
 nofree:∀ y∈sc.names,y.2≠ .free
theorem Bz4R {kindOf:Str→Option NameKind} {x:Str}:∀ {binds:List (Str×Value)} {m:Str→Option Value},(∀ v,(x,v)∉binds)→bindL kindOf binds m x=m x
 | [],_,_=>rfl
 |(n,v)::r,m,h=>by
  unfold bindL
  rw [Bz4R fun w hw=>h w (List.mem_cons_of_mem _ hw)]
  split
  ·have:x≠n:=by rintro rfl;exact h v List.mem_cons_self
   simp [this]
  ·rfl
theorem Bz4T {kindOf:Str→Option NameKind} {x:Str}:∀ {binds:List (Str×Value)} {m:Str→Option Value},(∀ v,(x,v)∉binds)→bindC kindOf binds m x=m x
 | [],_,_=>rfl
 |(n,v)::r,m,h=>by
  unfold bindC
  rw [Bz4T fun w hw=>h w (List.mem_cons_of_mem _ hw)]
  split
  ·rfl
  ·have:x≠n:=by rintro rfl;exact h v List.mem_cons_self
   simp [this]
theorem Bz4S {kindOf:Str→Option NameKind} {x:Str} {v:Value}:∀ {P:List Str} {vs:List Value} {i:Nat} {m:Str→Option Value},P.Nodup→P[i]? =some x→vs[i]? =some v→kindOf x=some .local→
  bindL kindOf (P.zip vs) m x=some v
 | [],_,_,_,_,h,_,_=>by simp at h
 |_::_,[],_,_,_,_,h,_=>by simp at h
 |p::P,w::vs,0,m,nd,h1,h2,hk=>by
  simp at h1 h2;subst h1;subst h2
  show bindL kindOf ((p,w)::P.zip vs) m p=_
  unfold bindL
  rw [Bz4R fun v hv=>(List.nodup_cons.mp nd).1 (List.of_mem_zip hv).1,if_pos hk]
  simp
 |p::P,w::vs,i+1,m,nd,h1,h2,hk=>by
  show bindL kindOf ((p,w)::P.zip vs) m x=_
  unfold bindL
  exact Bz4S (i:=i) (List.nodup_cons.mp nd).2 (by simpa using h1) (by simpa using h2) hk
theorem Bz4U {kindOf:Str→Option NameKind} {x:Str} {v:Value}:∀ {P:List Str} {vs:List Value} {i:Nat} {m:Str→Option Value},P.Nodup→P[i]? =some x→vs[i]? =some v→kindOf x≠some .local→
  bindC kindOf (P.zip vs) m x=some v
 | [],_,_,_,_,h,_,_=>by simp at h
 |_::_,[],_,_,_,_,h,_=>by simp at h
 |p::P,w::vs,0,m,nd,h1,h2,hk=>by
  simp at h1 h2;subst h1;subst h2
  show bindC kindOf ((p,w)::P.zip vs) m p=_
  unfold bindC
  rw [Bz4T fun v hv=>(List.nodup_cons.mp nd).1 (List.of_mem_zip hv).1,if_neg hk]
  simp
 |p::P,w::vs,i+1,m,nd,h1,h2,hk=>by
  show bindC kindOf ((p,w)::P.zip vs) m x=_
  unfold bindC
  exact Bz4U (i:=i) (List.nodup_cons.mp nd).2 (by simpa using h1) (by simpa using h2) hk
def start (N:List Str) (vs:List V):St:=vs.map some++List.replicate (N.length-vs.length) none
def cxOf (CX:CXT) (P:Program) (w:World) (K:PySem.W.Frag) (mg:Str→Option Value) (base:Heap) (N:List Str) (qual:Str) (scope:Scope) (f:Addr) (cd:Value) (A:Around) (outer:List Env) (s:Shared) (H:Hp) (E:XK):Cx where
 prog:=P
 w:=w
 K:=K
 mg:=mg
 base:=base
 A:=A.deeper (envOfC qual scope s.heap.objs.size f cd)
 N:=N
 s₀:=s
 H₀:=H
 env:=envOfC qual scope s.heap.objs.size f cd
 outer:=outer
 stack:=envOfC qual scope s.heap.objs.size f cd::outer
 ex:= []
 calm:=true
 fn:=fun _=>true
 pn:= []
 xe:=fun e s'=>wpAny (model P w) (A.deeper (envOfC qual scope s.heap.objs.size f cd)) (leaving (envOfC qual scope s.heap.objs.size f cd) e) (fun _ s''=>CX outer H s E e s'') (fun e' s''=>CX outer H s E e' s'') s'
theorem Bz9D {sc:Scope} {n:Nat} {x:Str} (h:sc.names.lookup x=some .cell):∃ c,(cellsFrom n sc.names []).lookup x=some c:=by
 have q:=PySem.W.cellsFrom_some sc.names n [] (.inl h)
 exact Option.isSome_iff_exists.mp q
theorem Cz1F {CX:CXT} {P:Program} {w:World} {K:PySem.W.Frag} {mg:Str→Option Value} {base:Heap} {N ps:List Str} {qual:Str} {scope:Scope} {f:Addr} {cd:Value} {A:Around} {outer:List Env} {s s1:Shared} {H:Hp} {E:XK} {us:List Value} {vs:List V}
  (S:FnScope N ps scope) (hd:A.handled=none) (e0:Env0 P w K mg base A outer s H) (hl:vs.length=ps.length) (r:Vals vs us)
  (x:InCallC s s.heap.objs.size (bindL (envOfC qual scope s.heap.objs.size f cd).kindOf (ps.zip us) fun _=>none) (cellsFrom (s.heap.objs.size+1) scope.names []) (bindC (envOfC qual scope s.heap.objs.size f cd).kindOf (ps.zip us) fun _=>none) s1):
  Inv (cxOf CX P w K mg base N qual scope f cd A outer s H E) [] (start N vs) H s1:=by
 have hpl:ps.length≤N.length:=by have:=congrArg List.length S.pre;rw [List.length_take] at this;omega
 obtain ⟨h1,tk,rfl,hk⟩:=x.done
 have noA:∀ b:Addr,b∉(cxOf CX P w K mg base N qual scope f cd A outer s H E).ex:=fun b z=>absurd (show b∈([]:List Addr) from z) (by simp)
 refine ⟨⟨e0.mod,S.kind,rfl,rfl,Nat.le_refl _,fun y z c h1 h2=> ?_,fun y hy=> ?_,fun y c _ h=> ?_,fun _=>hd,Around.frames_deeper e0.frames, .inr ⟨rfl,rfl⟩,fun b z=>absurd z (noA b),e0.bs,e0.bsz,fun b _ _=>noA b,fun b z=>absurd z (noA b),e0.funs,e0.frf⟩,
  rfl,e0.bare,Un.kept hk,⟨_,x.toInCall.ns,fun i y v h1 h2 h3=> ?_⟩,fun y c h=>⟨_,x.cell y c h⟩,e0.hok.fresh (Nat.le_refl _),fun y c h=> ?_,fun p hp=>absurd (show p∈([]:List (Addr×Obj)) from hp) (by simp),e0.hok.kept hk,?_⟩
 ·exact name_of_addr x.apart (PySem.mem_of_lookup h1) (PySem.mem_of_lookup h2)
 ·have hy:scope.names.lookup y=some .cell∨scope.names.lookup y=some .free:=hy
  rcases hy with hy|hy
  ·exact Bz9D hy
  ·exact absurd rfl (S.nofree _ (PySem.mem_of_lookup hy))
 ·exact Nat.le_of_lt (x.above y c (PySem.mem_of_lookup h))
 ·have hi:i<vs.length:=by
   unfold start at h2
   by_cases hi:i<vs.length
   ·exact hi
   ·rw [List.getElem?_append_right (by simpa using hi)] at h2
    rw [List.getElem?_replicate] at h2
    split at h2<;>cases h2
  have ha:vs[i]? =some v:=by
   unfold start at h2
   rw [List.getElem?_append_left (by simpa using hi),List.getElem?_map] at h2
   cases e:vs[i]? with
   |none=>rw [e] at h2;cases h2
   |some a=>rw [e] at h2;cases h2;rfl
  obtain ⟨u,hu,rv⟩:=r.get ha
  have hp:ps[i]? =some y:=by
   rw [←S.pre,List.getElem?_take_of_lt (by omega)];exact h1
  have ndP:ps.Nodup:=by rw [←S.pre];exact S.nd.sublist (List.take_sublist _ _)
  refine ⟨u,rv,?_⟩
  rcases S.par y (List.mem_of_getElem? hp) with k|k
  ·exact .inl ⟨k,Bz4S ndP hp hu k⟩
  ·obtain ⟨c,e⟩:=Bz9D (n:=s.heap.objs.size+1) k
   refine .inr ⟨.inl k,c,e,?_⟩
   have q:=x.cell y c e
   rw [Bz4U ndP hp hu (by show scope.names.lookup y≠_;rw [k];decide)] at q
   exact q
 ·exact e0.hok.fresh (Nat.le_of_lt (x.above y c (PySem.mem_of_lookup h)))
 ·unfold start
  show _=N.length
  rw [List.length_append,List.length_map,List.length_replicate]
  omega
theorem fn_of {CX:CXT} {P:Program} {w:World} {K:PySem.W.Frag} {mg:Str→Option Value} {base:Heap} {k:Nat} {f:Addr} {name qual:Str} {params:Arguments} {body:List Stmt} {scope:Scope} {dV kV doc pm cdv ct oc:Value} {an od:Option Addr}
  {osl:Array (Option Value)} {N ps:List Str} {sp:Sp} (lk:K.lookup f=some ⟨oc,od, .func (PySem.W.fnOf name qual params body scope dV kV doc pm an cdv ct),osl⟩) (hcd:PySem.W.codeIn K cdv qual=true) (S:FnScope N ps scope)
  (len:∀ vs H Q E,sp vs H Q E→vs.length=ps.length)
  (hbody:∀ (A:Around) (outer:List Env) (s:Shared) (H:Hp) (vs:List V) (Q:VK) (E:XK),Room k (A.deeper (envOfC qual scope s.heap.objs.size f cdv))→sp vs H Q E→
   ∃ t,PSs (cxOf CX P w K mg base N qual scope f cdv A outer s H E) body t∧t {nx:=fun _ H'=>Q .non H',rt:=Q} (start N vs) H):
  FnOk P w K mg base CX (k+1) f (PySem.W.fnOf name qual params body scope dV kV doc pm an cdv ct) ps sp:=by
 refine ⟨len,fun A outer s H args us vs Q E hr e0 hb r hsp=> ?_⟩
 have hl:=len _ _ _ _ hsp
 have KX:K.In s.heap:=e0.mod.kin.keeps fun b o e=>(e0.bs b o e).1
 have lim:s.heap.NoLimit:=e0.mod.nolimit.keeps fun b o e=>(e0.bs b o e).1
 have hkind:∀ y∈ps.zip us,scope.names.lookup y.1=some .local∨(scope.names.lookup y.1=some .cell∧((cellsFrom (s.heap.objs.size+1) scope.names []).lookup y.1).isSome=true):=fun ⟨n,v⟩ hy=>by
  rcases S.par n (List.of_mem_zip hy).1 with q|q
  ·exact .inl q
  ·exact .inr ⟨q,PySem.W.cellsFrom_some _ _ _ (.inl q)⟩
 refine codeAny_call_function hr.depth (KX _ _ lk) rfl S.co S.gen rfl (PySem.W.codeRec_of KX hcd) (hb _ _ _ _ ?_)
 refine wpAny_newFunctionEnv_cells S.kind hkind fun env he s1 x=> ?_
 subst he
 refine ⟨lim.keeps x.toInCall.keep,codeAny_func ?_⟩
 obtain ⟨t,ht,hq⟩:=hbody A outer s H vs Q E (hr.deeper _) hsp
 have I:Inv (cxOf CX P w K mg base N qual scope f cdv A outer s H E) [] (start N vs) H s1:=Cz1F S hr.hd e0 hl r x
 refine wpAny_mono (ht [] s1 (start N vs) H _ I hq) (fun fl s' hs=> ?_) fun e s' hs=>hs
 have fin:∀ {σ':St} {H':Hp} {v:V} {u:Value},Inv (cxOf CX P w K mg base N qual scope f cdv A outer s H E) [] σ' H' s'→RelV v u→Q v H'→CE outer P w H s Q u s':=
  fun {σ' H' v u} J rv q=>⟨v,H',J.os,J.bare,J.base,J.hok,rv,q⟩
 cases fl with
 |ret u=>
  obtain ⟨v,σ',H',J,rv,q⟩:=hs
  exact fin J rv q
 |next=>
  obtain ⟨σ',H',J,q⟩:=hs
  exact fin (v:=V.non) (u:=Value.none) J rfl q
 |brk=>
  obtain ⟨_,_,_,q⟩:=hs
  exact False.elim q
 |cont=>
  obtain ⟨_,_,_,q⟩:=hs
  exact False.elim q
end L2
namespace L2
open PySem PySem.Spec PyProof.Rows
section
variable {X:Cx} {x:Str} {p pos:Pos} {e:Expr} {es:List Expr} {t:TA} {id T:String} {r:List V→Hp→VK→Prop}
def tCB (r:List V→Hp→VK→Prop) (t:TA):TE:=fun σ H Q=>t σ H fun vs H1=>r vs H1 Q
theorem Bz2M (hc:CallR X (.builtin id) r) (hg:Gl X x) (hm:X.mg x=none) (hv:bootBuiltins x=some (.builtin id)) (ha:PA X (e::es) t) (hn:x≠"__name__":=by decide) (hdb:(x==("__debug__":Str))=false:=by decide)
  (he:starEach (e::es) X.env=(false,eval e X.env)::starEach es X.env:=by rfl) (hpl:(backTo pos (starEach es X.env)).any (·.1)=false:=by rfl):PE X (.Call (.Name x p) (e::es) [] pos) (tCB r t):=by
 intro pins s σ H Q I h
 refine wpAny_Call_Name_kw (ld_blt I hg hm hv ?_ hn hdb)
 exact PyProof.Rows.callWith_builtin1 (thn (ha pos pins s σ H _ I h) fun us s1 ⟨vs,H1,I1,r1,q1⟩=>hc pins s1 σ H1 vs us Q I1 r1 q1) he hpl
theorem Bz3T (hc:CallR X (.type T) r) (hg:Gl X x) (hm:X.mg x=none) (hv:bootBuiltins x=some (.type T)) (ha:PA X (e::es) t) (hn:x≠"__name__":=by decide) (hdb:(x==("__debug__":Str))=false:=by decide)
  (he:starEach (e::es) X.env=(false,eval e X.env)::starEach es X.env:=by rfl) (hpl:(backTo pos (starEach es X.env)).any (·.1)=false:=by rfl):PE X (.Call (.Name x p) (e::es) [] pos) (tCB r t):=by
 intro pins s σ H Q I h
 refine wpAny_Call_Name_kw (ld_blt I hg hm hv ?_ hn hdb)
 exact PyProof.Rows.callWith_type1 (thn (ha pos pins s σ H _ I h) fun us s1 ⟨vs,H1,I1,r1,q1⟩=>hc pins s1 σ H1 vs us Q I1 r1 q1) he hpl
end
end L2
namespace HT
open PySem PyProof.Rows
def lexLt:List Int→List Int→Bool
 | [],[]=>false
 | [],_::_=>true
 |_::_,[]=>false
 |x::xs,y::ys=>if x=y then lexLt xs ys else decide (x<y)
theorem lexLt_cons (x y:Int) (xs ys:List Int):lexLt (x::xs) (y::ys)=if x=y then lexLt xs ys else decide (x<y):=rfl
section
open PySem.SeqAt
open PySem.AutoSeq1 (wpAny_loadPart')
open PySem.MeetsSeq PySem.MeetsSeq2 PySem.MeetsSeq3
end
section
variable {prog:Program} {w:World} {A:Around} {E:Value→Shared→Prop} {s:Shared}
theorem cat_tup {t b:Addr} {vs ws:List Value} {Q:Value→Shared→Prop} (ht:IsTup s.heap t vs.toArray) (hb:IsTup s.heap b ws.toArray) (hv:vs≠ [])
  (h1:ws= []→Q (.ref t) s) (h2:ws≠ []→Q (.ref s.heap.objs.size) {s with heap:=s.heap.push {cls:= .type "tuple",data:= .seq (vs++ws).toArray}})
  (hsz:vs.length+ws.length≤sizeLine):wpAny (model prog w) A (binaryOp .Add (.ref t) (.ref b)) Q E s:=by
 obtain ⟨⟨cls,dd,data,sl⟩,ho,hc,n,hd⟩:=id ht
 obtain ⟨⟨cls2,dd2,data2,sl2⟩,ho2,hc2,n2,hd2⟩:=id hb
 simp only at hc hd hc2 hd2
 subst hc hd hc2 hd2
 have e:vs.toArray++ws.toArray=(vs++ws).toArray:=by simp
 by_cases hw:ws= []
 ·exact concat_meets ⟨_,ho,rfl⟩ ⟨_,ho2,rfl⟩ noFill_tuple_add seq_tuple_add PySem.F.slot_tuple_add PySem.F.entry_tuple_add (PySem.F.args_tuple_add_2 _ _)
   (tuple_addW1 t b vs.toArray ws.toArray n n2 dd dd2 sl sl2 (by simpa using hv) (by simp [hw])) ⟨ho,ho2,h1 hw⟩
 ·refine concat_meets ⟨_,ho,rfl⟩ ⟨_,ho2,rfl⟩ noFill_tuple_add seq_tuple_add PySem.F.slot_tuple_add PySem.F.entry_tuple_add (PySem.F.args_tuple_add_2 _ _)
   (tuple_addW2 t b vs.toArray ws.toArray n n2 dd dd2 sl sl2 (by simpa using hv) (by simpa using hw) (by rw [List.size_toArray,List.size_toArray];exact hsz)) ⟨ho,ho2,?_⟩
  rw [e]
  exact h2 hw
def sIx (n d:Nat):Option Int→Nat
 |none=>d
 |some v=>if v<0 then (v+(n:Int)).toNat else min v.toNat n
theorem sIx_none (n d:Nat):sIx n d none=d:=rfl
theorem sIx_nat (n d k:Nat):sIx n d (some (k:Int))=min k n:=by
 show (if (k:Int)<0 then ((k:Int)+(n:Int)).toNat else min (k:Int).toNat n)=min k n
 rw [if_neg (by omega),Int.toNat_natCast]
theorem sIx_le (n d:Nat) (hd:d≤n) (o:Option Int):sIx n d o≤n:=by
 cases o with
 |none=>exact hd
 |some v=>
  show (if v<0 then (v+(n:Int)).toNat else min v.toNat n)≤n
  by_cases hv:v<0
  ·rw [if_pos hv];omega
  ·rw [if_neg hv];exact Nat.min_le_right _ _
theorem Cz3B (v:Int) (n d:Nat):(if v<0 then max (v+(n:Int)) 0 else min v (n:Int))=((sIx n d (some v):Nat):Int):=by
 show (if v<0 then max (v+(n:Int)) 0 else min v (n:Int))=(((if v<0 then (v+(n:Int)).toNat else min v.toNat n):Nat):Int)
 by_cases hv:v<0
 ·simp only [if_pos hv];omega
 ·simp only [if_neg hv];omega
theorem Bz9N (lo hi:Option Int) (n:Nat):Builtin.Slice.sliceAdjust lo hi 1 (n:Int)=(((sIx n 0 lo:Nat):Int),((sIx n n hi:Nat):Int)):=by
 have h1:¬ ((1:Int)<0):=by omega
 unfold Builtin.Slice.sliceAdjust
 simp only [h1,if_false]
 refine Prod.ext ?_ ?_
 ·cases lo with
  |none=>rfl
  |some v=>exact Cz3B v n 0
 ·cases hi with
  |none=>rfl
  |some v=>exact Cz3B v n n
theorem Bz7F (i j:Nat):Builtin.Slice.slicePlaces (i:Int) (j:Int) 1=j-i:=by
 unfold Builtin.Slice.slicePlaces
 have h1:(1:Int)>0:=by omega
 simp only [h1,if_true,Int.ediv_one]
 split<;>omega
theorem Bz0P {v:Value} {o:Option Int} {Q:Option Int→Shared→Prop} (p:IsPart v o) (h:Q o s):wpAny (model prog w) A (Builtin.Slice.slicePartIndex v) Q E s:=by
 cases p with
 |none=>exact slicePart_none h
 |int i t=>exact slicePart_int h
theorem Az5A {sl:Addr} {vl vu:Value} {lo hi:Option Int} {n:Nat} {Q:Int×Int×Nat→Shared→Prop} (hs:s.heap.IsSliceOf sl vl vu .none) (pl:IsPart vl lo) (pu:IsPart vu hi)
  (h:Q (((sIx n 0 lo:Nat):Int),1,sIx n n hi-sIx n 0 lo) s):wpAny (model prog w) A (Builtin.Slice.sliceApplied (.ref sl) (pure (n:Int))) Q E s:=by
 obtain ⟨os,hos,hcs,hds⟩:=id hs
 unfold Builtin.Slice.sliceApplied Builtin.Slice.sliceFields
 refine wpAny_bind (wpAny_bind (wpAny_field hos hds (x:=vl) rfl (wpAny_bind (wpAny_field hos hds (x:=vu) rfl (wpAny_bind (wpAny_field hos hds (x:= .none) rfl (wpAny_pure ?_)))))))
 refine wpAny_bind (slicePart_none ?_)
 show wpAny _ _ (if ((1:Int)==0)=true then _ else _) _ _ s
 rw [if_neg (by decide)]
 refine wpAny_bind (Bz0P pl (wpAny_bind (Bz0P pu (wpAny_bind (wpAny_pure ?_)))))
 show wpAny _ _ (match Builtin.Slice.sliceAdjust lo hi 1 (n:Int) with|(lo,hi)=>pure (lo,(1:Int),Builtin.Slice.slicePlaces lo hi 1)) _ _ s
 rw [Bz9N lo hi n]
 show wpAny _ _ (pure (((sIx n 0 lo:Nat):Int),(1:Int),Builtin.Slice.slicePlaces ((sIx n 0 lo:Nat):Int) ((sIx n n hi:Nat):Int) 1)) _ _ s
 rw [Bz7F]
 exact wpAny_pure h
theorem Cz4G (xs:Array Value) (i k:Nat):((List.range k).filterMap fun (m:Nat)=>xs[((i:Int)+(m:Int)*1).toNat]?).toArray=((xs.toList.drop i).take k).toArray:=by
 have e:(fun (m:Nat)=>xs[((i:Int)+(m:Int)*1).toNat]?)=fun m=>xs[i+m]? :=by
  funext m
  have:((i:Int)+(m:Int)*1).toNat=i+m:=by omega
  rw [this]
 rw [e]
 have:=pick_run xs i k
 rw [List.filterMap_map] at this
 have e2:((fun x=>xs[x]?)∘fun x=>i+x)=fun m=>xs[i+m]? :=rfl
 rw [e2] at this
 rw [this]
theorem getItem_tuple_cut {t sl:Addr} {items:Array Value} {vl vu:Value} {lo hi:Option Int} {Q:Value→Shared→Prop} (ht:IsTup s.heap t items) (hs:s.heap.IsSliceOf sl vl vu .none) (pl:IsPart vl lo) (pu:IsPart vu hi)
  (hw:¬ (sIx items.size 0 lo=0∧sIx items.size items.size hi=items.size))
  (h:Q (.ref s.heap.objs.size) {s with heap:=s.heap.push {cls:= .type "tuple",data:= .seq ((items.toList.drop (sIx items.size 0 lo)).take (sIx items.size items.size hi-sIx items.size 0 lo)).toArray}})
  (hsz:items.size≤sizeLine):wpAny (model prog w) A (getItem (.ref t) (.ref sl)) Q E s:=by
 have htake:sizeOk (.seq ((items.toList.drop (sIx items.size 0 lo)).take (sIx items.size items.size hi-sIx items.size 0 lo)).toArray):=by
  show ((items.toList.drop (sIx items.size 0 lo)).take (sIx items.size items.size hi-sIx items.size 0 lo)).toArray.size≤sizeLine
  rw [List.size_toArray,List.length_take,List.length_drop,Array.length_toList]
  omega
 have hj:sIx items.size items.size hi≤items.size:=sIx_le _ _ (Nat.le_refl _) hi
 obtain ⟨os,hos,hcs,hds⟩:=id hs
 have hTs:s.TypeIs (.ref sl) "slice":=⟨os,hos,hcs⟩
 unfold getItem
 try with_reducible refine wpAny_holding ?_
 first|refine wpAny_bind (wpAny_pure ?_)|skip
 refine wpAny_bind (wpAny_sequenceKey ht.typeIs (by decide) ?_)
 refine wpAny_bind (wpAny_callSpecial?_slot (name:=Str.ofString "__getitem__") ht.typeIs PyProof.Rows.slot_tuple_getitem
  (wpAny_call_entry PyProof.Rows.slot_tuple_getitem ht.typeIs entry_tuple_getitem ?_ (args_tuple_getitem _ _)))
 show wpAny _ _ (Builtin.Tuple.tupleItemsOf (.ref t) >>= _) _ _ s
 refine wpAny_bind (tupleItemsOf_ ht ?_)
 refine wpAny_bind (wpAny_typeOf hTs ?_)
 rw [if_pos (by decide)]
 refine wpAny_bind (Az5A hs pl pu ?_)
 have hno:¬ ((((sIx items.size 0 lo:Nat):Int)==0&&(1:Int)==1&&(sIx items.size items.size hi-sIx items.size 0 lo)==items.size)=true):=by
  intro q
  rw [Bool.and_eq_true,Bool.and_eq_true] at q
  have q1:((sIx items.size 0 lo:Nat):Int)=0:=eq_of_beq q.1.1
  have q2:sIx items.size items.size hi-sIx items.size 0 lo=items.size:=eq_of_beq q.2
  exact hw ⟨by omega,by omega⟩
 show wpAny _ _ (if (((sIx items.size 0 lo:Nat):Int)==0&&(1:Int)==1&&(sIx items.size items.size hi-sIx items.size 0 lo)==items.size)=true then _ else _) _ _ s
 rw [if_neg hno,Cz4G]
 first
  |exact wpAny_bind (m:=Builtin.Tuple.tupleExact _) (wpAny_newObj_type (wpAny_pure ⟨_,rfl,wpAny_pure h⟩) htake)
  |exact wpAny_bind (m:=Builtin.Tuple.tupleExact _) (wpAny_newObj_type (wpAny_bind (wpAny_pure (wpAny_pure ⟨_,rfl,wpAny_pure h⟩))) htake)
  |exact wpAny_bind (wpAny_bind (m:=Builtin.Tuple.tupleExact _) (wpAny_newObj_type (wpAny_pure (wpAny_pure ⟨_,rfl,wpAny_pure h⟩)) htake))
  |exact wpAny_bind (wpAny_bind (m:=Builtin.Tuple.tupleExact _) (wpAny_newObj_type (wpAny_pure ⟨_,rfl,wpAny_pure h⟩) htake))
end
end HT
namespace L2
open PySem PySem.Spec PyProof.Rows
abbrev TO:=St→Hp→(Option Int→Hp→Prop)→Prop
def PO (X:Cx) (e:Option Expr) (t:TO):Prop:=
 ∀ (pins:List (Addr×Obj)) (s:Shared) (σ:St) (H:Hp) (Q:Option Int→Hp→Prop),Inv X pins σ H s→t σ H Q→
  wpAny (model X.prog X.w) X.A (evalPart e X.env) (fun u s'=>∃ o H',Inv X pins σ H' s'∧IsPart u o∧Q o H') X.xe s
def Cz6P:TO:=fun _ H Q=>Q none H
def tPart (t:TE):TO:=fun σ H Q=>t σ H fun x H1=>∃ i,x= .int i∧Q (some i) H1
theorem Bz8J {ns:List Int}:∀ {us:List Value},Vals (ns.map V.int) us→IntsAre us ns:=by
 induction ns with
 |nil=>intro us r;rw [List.map_nil] at r;cases r;exact .nil
 |cons n ns ih=>
  intro us r
  rw [List.map_cons] at r
  cases r with
  |cons r1 r2=>
   obtain ⟨t,e⟩:=r1
   subst e
   exact .cons n t (ih r2)
section
variable {X:Cx} {e:Expr} {te:TE} {lo hi:Option Expr} {tl th:TO} {pos p2:Pos}
theorem Cz7J:PO X none Cz6P:=by
 intro pins s σ H Q I h
 rw [evalPart_none]
 exact wpAny_pure ⟨none,H,I, .none,h⟩
theorem Cz7I (h:PE X e te):PO X (some e) (tPart te):=by
 intro pins s σ H Q I hw
 rw [evalPart_some]
 refine thn (h pins s σ H _ I hw) fun u s1 ⟨x,H1,I1,r1,q1⟩=> ?_
 obtain ⟨i,rfl,q⟩:=q1
 obtain ⟨t,rfl⟩:=r1
 exact ⟨some i,H1,I1, .int i t,q⟩
def SlR (X:Cx) (r:V→Option Int→Option Int→Hp→VK→Prop):Prop:=
 ∀ (pins:List (Addr×Obj)) (s:Shared) (σ:St) (H:Hp) (x:V) (v vl vu:Value) (lo hi:Option Int) (sl:Addr) (Q:VK),Inv X pins σ H s→RelV x v→s.heap.IsSliceOf sl vl vu .none→IsPart vl lo→IsPart vu hi→r x lo hi H Q→
  ∃ T id,typeLookup (.type T) "__getitem__"=pure (some (.builtin id))∧s.TypeIs v T∧wpAny (model X.prog X.w) X.A (getItem v (.ref sl)) (EP X pins σ Q) X.xe s
theorem SlR.or {r r':V→Option Int→Option Int→Hp→VK→Prop} (h:SlR X r) (h':SlR X r'):SlR X (fun x lo hi H Q=>r x lo hi H Q∨r' x lo hi H Q):=by
 intro pins s σ H x v vl vu lo hi sl Q I rx hs pl pu q
 rcases q with q|q
 ·exact h pins s σ H x v vl vu lo hi sl Q I rx hs pl pu q
 ·exact h' pins s σ H x v vl vu lo hi sl Q I rx hs pl pu q
def tSl (r:V→Option Int→Option Int→Hp→VK→Prop) (te:TE) (tl th:TO):TE:=fun σ H Q=>te σ H fun x H1=>tl σ H1 fun l H2=>th σ H2 fun u H3=>r x l u H3 Q
theorem Cz4I {r:V→Option Int→Option Int→Hp→VK→Prop} (hr:SlR X r) (he:PE X e te) (hl:PO X lo tl) (hu:PO X hi th):PE X (.Subscript e (.Slice lo hi none p2) pos) (tSl r te tl th):=by
 intro pins s σ H Q I h
 refine Subscript_ (thn (he pins s σ H _ I h) fun v s1 ⟨x,H1,I1,r1,q1⟩=> ?_)
 refine wpAny_Slice (thn (hl pins s1 σ H1 _ I1 q1) fun vl s2 ⟨l,H2,I2,pl,q2⟩=>thn (hu pins s2 σ H2 _ I2 q2) fun vu s3 ⟨u,H3,I3,pu,q3⟩=> ?_)
 rw [evalPart_none]
 refine wpAny_pure ?_
 have I4:Inv X pins σ H3 {s3 with heap:=s3.heap.push {cls:= .type "slice",data:= .fields #[vl,vu, .none]}}:=I3.kept (t':=s3.toks) fun b ob q=>Heap.get?_push_of_some _ q
 obtain ⟨T,id,hT,ht,hg⟩:=hr pins {s3 with heap:=s3.heap.push {cls:= .type "slice",data:= .fields #[vl,vu, .none]}} σ H3 x v vl vu l u s3.heap.objs.size Q I4 r1 (Heap.IsSliceOf.new ..) pl pu q3
 show wpAny (model X.prog X.w) X.A (subscriptTail e (.Slice lo hi none p2) v (.ref s3.heap.objs.size)) (EP X pins σ Q) X.xe {s3 with heap:=s3.heap.push {cls:= .type "slice",data:= .fields #[vl,vu, .none]}}
 exact tail_any (ops:= [.ref s3.heap.objs.size,v]) ht hT hg (by with_unfolding_all rfl)
def cutV (xs:List V) (lo hi:Option Int):List V:=(xs.drop (HT.sIx xs.length 0 lo)).take (HT.sIx xs.length xs.length hi-HT.sIx xs.length 0 lo)
theorem Az8Y (xs:List V) (lo hi:Option Int):(cutV xs lo hi).length≤xs.length:=by
 unfold cutV
 rw [List.length_take,List.length_drop]
 omega
def rSlT (K:PySem.W.Frag):V→Option Int→Option Int→Hp→VK→Prop:=fun x lo hi H Q=>∃ a xs,x= .ref a∧SqT K H a xs∧
 ¬ (HT.sIx xs.length 0 lo=0∧HT.sIx xs.length xs.length hi=xs.length)∧∀ p,H p=none→Q (.ref p) (upd H p (.tup (cutV xs lo hi)))
theorem sl_tup:SlR X (rSlT X.K):=by
 intro pins s σ H x v vl vu lo hi sl Q I rx hs pl pu h
 obtain ⟨a,xs,rfl,hx,hw,q⟩:=h
 cases rx
 obtain ⟨its,r,ht,hz⟩:=I.tuple hx
 have hlen:its.toArray.size=xs.length:=by rw [List.size_toArray];exact r.length.symm
 refine ⟨"tuple",_,PyProof.Rows.slot_tuple_getitem.lookup,ht.typeIs,?_⟩
 refine HT.getItem_tuple_cut ht hs pl pu (by rw [hlen];exact hw) ?_ (by rw [hlen];exact hz)
 rw [hlen]
 refine ⟨.ref s.heap.objs.size,_,I.laid (t':=s.toks) (o:= .tup (cutV xs lo hi)) (fun b ob q=>Heap.get?_push_of_some _ q) (Nat.le_refl _) ?_,rfl,q _ (I.hok.fresh (Nat.le_refl _))⟩
 exact ⟨Nat.le_trans (Az8Y xs lo hi) hz,_,(r.drop (HT.sIx xs.length 0 lo)).take (HT.sIx xs.length xs.length hi-HT.sIx xs.length 0 lo),IsTup.new _ _⟩
def rCatT (K:PySem.W.Frag):R2:=fun x y H Q=>∃ a b xs ys,x= .ref a∧y= .ref b∧SqT K H a xs∧SqT K H b ys∧xs≠ []∧xs.length+ys.length≤sizeLine∧
 (ys= []→Q (.ref a) H)∧(ys≠ []→∀ p,H p=none→Q (.ref p) (upd H p (.tup (xs++ys))))
theorem Vals.nil_iff {xs:List V} {us:List Value} (r:Vals xs us):us= []↔xs= []:=by
 cases r with
 |nil=>simp
 |cons _ _=>simp
theorem Cz7Z:OpR X (binaryOp .Add) (rCatT X.K):=by
 intro pins s σ H x y v u Q I rx ry h
 obtain ⟨a,b,xs,ys,rfl,rfl,ha,hb,hx,hz,q1,q2⟩:=h
 cases rx
 cases ry
 obtain ⟨its,r1,p1,_⟩:=I.tuple ha
 obtain ⟨its2,r2,p2,_⟩:=I.tuple hb
 refine HT.cat_tup p1 p2 (fun z=>hx (r1.nil_iff.mp z)) (fun z=>⟨.ref a,H,I,rfl,q1 (r2.nil_iff.mp z)⟩) (fun z=> ?_) (by rw [←r1.length,←r2.length];exact hz)
 refine ⟨.ref s.heap.objs.size,_,I.laid (t':=s.toks) (o:= .tup (xs++ys)) (fun b ob q=>Heap.get?_push_of_some _ q) (Nat.le_refl _) ?_,rfl,q2 (fun w=>z (r2.nil_iff.mpr w)) _ (I.hok.fresh (Nat.le_refl _))⟩
 exact ⟨by rw [List.length_append];exact hz,_,r1.append r2,IsTup.new _ _⟩
end
end L2
namespace L2
open PySem PySem.Spec PyProof.Rows
def ixN (n:Nat) (i:Int):Option Nat:=if 0≤i then (if i<n then some i.toNat else none) else if -(n:Int)≤i then some (i+n).toNat else none
def atI {α:Type} (xs:List α) (i:Int):Option α:=(ixN xs.length i).bind fun j=>xs[j]?
theorem Cz8Q {n:Nat} {i:Int} {j:Nat} (h:ixN n i=some j):seqIndex? i n=some j∧j<n∧ -(n:Int)≤i∧i<n:=by
 unfold ixN at h
 by_cases h0:0≤i
 ·rw [if_pos h0] at h
  by_cases h1:i<n
  ·rw [if_pos h1] at h
   have e:i.toNat=j:=Option.some.inj h
   exact ⟨by rw [seqIndex_of h0 h1,e],by omega,by omega,h1⟩
  ·rw [if_neg h1] at h;cases h
 ·rw [if_neg h0] at h
  by_cases h1: -(n:Int)≤i
  ·rw [if_pos h1] at h
   have e:(i+n).toNat=j:=Option.some.inj h
   exact ⟨by rw [seqIndex_neg (by omega) h1,e],by omega,h1,by omega⟩
  ·rw [if_neg h1] at h;cases h
theorem Bz9M {α:Type} {xs:List α} {i:Int} {v:α} (h:atI xs i=some v):∃ j,seqIndex? i xs.length=some j∧xs[j]? =some v∧j<xs.length∧ -(xs.length:Int)≤i∧i<xs.length:=by
 unfold atI at h
 cases e:ixN xs.length i with
 |none=>rw [e] at h;cases h
 |some j=>
  rw [e] at h
  obtain ⟨h1,h2,h3,h4⟩:=Cz8Q e
  exact ⟨j,h1,h,h2,h3,h4⟩
theorem atI_last {α:Type} (xs:List α) (v:α):atI (xs++ [v]) (-1)=some v:=by
 have hl:(xs++ [v]).length=xs.length+1:=by simp
 have e:ixN (xs++ [v]).length (-1)=some xs.length:=by
  unfold ixN
  rw [hl,if_neg (by decide),if_pos (by omega)]
  congr 1
  omega
 unfold atI
 rw [e]
 show (xs++ [v])[xs.length]? =some v
 simp
def Bz9O (b:Expr):Prop:=∀ o i,subscripted b false o i=operate [o,i] (getItem o i)
def IxR (X:Cx) (r:R2):Prop:=
 ∀ (value slice:Expr) (pins:List (Addr×Obj)) (s:Shared) (σ:St) (H:Hp) (x y:V) (v u:Value) (Q:VK),Inv X pins σ H s→RelV x v→RelV y u→r x y H Q→
  subscripted slice false v u=operate [v,u] (getItem v u)→wpAny (model X.prog X.w) X.A (subscriptTail value slice v u) (EP X pins σ Q) X.xe s
def MtR (X:Cx) (id:String) (r:V→List V→Hp→VK→Prop):Prop:=
 ∀ (pins:List (Addr×Obj)) (s:Shared) (σ:St) (H:Hp) (x:V) (xs:List V) (v:Value) (us:List Value) (Q:VK),Inv X pins σ H s→RelV x v→Vals xs us→r x xs H Q→
  wpAny (model X.prog X.w) X.A (call (.builtin id) (v::us)) (EP X pins σ Q) X.xe s
section
variable {X:Cx} {a b:Expr} {ta tb:TE} {pos:Pos}
theorem IxR.or {r r':R2} (h:IxR X r) (h':IxR X r'):IxR X (fun x y H Q=>r x y H Q∨r' x y H Q):=by
 intro value slice pins s σ H x y v u Q I rx ry q hs
 rcases q with q|q
 ·exact h value slice pins s σ H x y v u Q I rx ry q hs
 ·exact h' value slice pins s σ H x y v u Q I rx ry q hs
theorem MtR.or {id:String} {r r':V→List V→Hp→VK→Prop} (h:MtR X id r) (h':MtR X id r'):MtR X id (fun x xs H Q=>r x xs H Q∨r' x xs H Q):=by
 intro pins s σ H x xs v us Q I rx rs q
 rcases q with q|q
 ·exact h pins s σ H x xs v us Q I rx rs q
 ·exact h' pins s σ H x xs v us Q I rx rs q
theorem pe_ix {r:R2} (hr:IxR X r) (ha:PE X a ta) (hb:PE X b tb) (hs:Bz9O b):PE X (.Subscript a b pos) (tOp r ta tb):=by
 intro pins s σ H Q I h
 exact Subscript_ (binT ha hb I h fun v u s2 x y H2 I2 rx ry q=>hr a b pins s2 σ H2 x y v u Q I2 rx ry q (hs _ _))
def rIxL (K:PySem.W.Frag):R2:=fun x y H Q=>∃ p xs i v,x= .ref p∧y= .int i∧SqL K H p xs∧atI xs i=some v∧Q v H
def rIxT (K:PySem.W.Frag):R2:=fun x y H Q=>∃ p xs i v,x= .ref p∧y= .int i∧SqT K H p xs∧atI xs i=some v∧Q v H
def rIxS:R2:=fun x y H Q=>∃ z i c,x= .str z∧y= .int i∧z.length≤sizeLine∧atI z.cps.toList i=some c∧Q (.str ⟨#[c]⟩) H
theorem ix_list:IxR X (rIxL X.K):=by
 intro value slice pins s σ H x y v u Q I rx ry h hs
 obtain ⟨p,xs,i,z,rfl,rfl,hq,he,q⟩:=h
 cases rx
 obtain ⟨t,rfl⟩:=ry
 obtain ⟨its,r,pl,hz⟩:=I.list hq
 obtain ⟨j,h1,h2,h3,h4,h5⟩:=Bz9M he
 obtain ⟨w,ew,rw'⟩:=r.get h2
 have hl:=r.length
 have hn:=line63
 have fin:EP X pins σ Q w s:=⟨z,H,I,rw',q⟩
 by_cases h0:0≤i
 ·have hj:i.toNat=j:=by
   rw [seqIndex_of h0 h5] at h1
   exact Option.some.inj h1
  exact item_listR pl.isList h0 (by omega) (by rw [hj];simpa using ew) fin hs
 ·have hj:(i+(its.toArray.size:Int)).toNat=j:=by
   rw [seqIndex_neg (by omega) h4] at h1
   rw [List.size_toArray,←hl]
   exact Option.some.inj h1
  exact subscriptTail_builtinR (x:=w) pl.isList.typeIs slot_list_getitem.lookup
   (wpAny_getItem_list_neg (Q:=fun r s'=>r=w∧EP X pins σ Q r s') pl.isList (by omega) (by rw [List.size_toArray]<;>omega) (by omega) (by rw [hj];simpa using ew) ⟨rfl,fin⟩) hs
theorem ix_tup:IxR X (rIxT X.K):=by
 intro value slice pins s σ H x y v u Q I rx ry h hs
 obtain ⟨p,xs,i,z,rfl,rfl,hq,he,q⟩:=h
 cases rx
 obtain ⟨t,rfl⟩:=ry
 obtain ⟨its,r,pl,hz⟩:=I.tuple hq
 obtain ⟨j,h1,h2,h3,h4,h5⟩:=Bz9M he
 obtain ⟨w,ew,rw'⟩:=r.get h2
 have hl:=r.length
 have hn:=line63
 have fin:EP X pins σ Q w s:=⟨z,H,I,rw',q⟩
 exact subscriptTail_builtinR (x:=w) pl.typeIs slot_tuple_getitem.lookup
  (getItem_tuple (j:=j) (Q:=fun r s'=>r=w∧EP X pins σ Q r s') pl (by omega) (by omega) (by rw [List.size_toArray,←hl];exact h1) (by simpa using ew) ⟨rfl,fin⟩) hs
theorem ix_str:IxR X rIxS:=by
 intro value slice pins s σ H x y v u Q I rx ry h hs
 obtain ⟨z,i,c,rfl,rfl,hz,he,q⟩:=h
 obtain ⟨t,rfl⟩:=rx
 obtain ⟨t',rfl⟩:=ry
 obtain ⟨j,h1,h2,h3,h4,h5⟩:=Bz9M he
 have hl:z.cps.toList.length=z.length:=by simp [Str.length]
 rw [hl] at h1 h4 h5
 have hn:=line63
 exact tail_any (typeIs_str s z t) slot_str_getitem.lookup (getItem_str (c:=c) (by
  have e1:decide (i< -(2^63:Int))=false:=decide_eq_false (by omega)
  have e2:decide (i≥2^63)=false:=decide_eq_false (by omega)
  rw [e1,e2,Bool.or_false]) (by rw [h1];simpa using h2) ⟨.str ⟨#[c]⟩,H,I.tok _,⟨_,rfl⟩,q⟩) hs
def rIx (K:PySem.W.Frag):R2:=fun x y H Q=>rIxL K x y H Q∨rIxT K x y H Q∨rIxS x y H Q
theorem ix_seq:IxR X (rIx X.K):=ix_list.or (ix_tup.or ix_str)
theorem Inv.lst {pins:List (Addr×Obj)} {σ:St} {H:Hp} {s:Shared} {p:Addr} {xs:List V} (I:Inv X pins σ H s) (h:H p=some (.lst xs)):
  ∃ (its:List Value) (n:Nat),Vals xs its∧s.heap.get? p=some {cls:= .type "list",data:= .seq its.toArray n}∧xs.length≤sizeLine:=by
 obtain ⟨z,its,n,r,e⟩:=I.hok p _ h
 exact ⟨its,n,r,e,z⟩
theorem Bz2D (lo hi:Option Int) (n:Nat):(sliceBounds lo hi none n).1=((HT.sIx n 0 lo:Nat):Int)∧(sliceBounds lo hi none n).2.1=((HT.sIx n n hi:Nat):Int)∧(sliceBounds lo hi none n).2.2=1:=by
 refine ⟨?_,?_,rfl⟩
 ·cases lo with
  |none=>simp [sliceBounds,HT.sIx]
  |some i=>
   simp only [sliceBounds,HT.sIx,Option.getD_none,show (1:Int)>0 by decide,if_true]
   by_cases h:i<0
   ·simp only [h,if_true]<;>omega
   ·simp only [h,if_false]<;>omega
 ·cases hi with
  |none=>simp [sliceBounds,HT.sIx]
  |some i=>
   simp only [sliceBounds,HT.sIx,Option.getD_none,show (1:Int)>0 by decide,if_true]
   by_cases h:i<0
   ·simp only [h,if_true]<;>omega
   ·simp only [h,if_false]<;>omega
theorem Bz0O (its:List Value) (lo hi:Option Int):slicePick its.toArray lo hi none=((its.drop (HT.sIx its.length 0 lo)).take (HT.sIx its.length its.length hi-HT.sIx its.length 0 lo)).toArray:=by
 obtain ⟨h1,h2,h3⟩:=Bz2D lo hi its.toArray.size
 unfold slicePick
 rw [h1,h2,h3]
 simp only [sliceRange_one,pick_run,List.size_toArray]<;>rfl
def rSlL (K:PySem.W.Frag):V→Option Int→Option Int→Hp→VK→Prop:=fun x lo hi H Q=>∃ a xs,x= .ref a∧SqL K H a xs∧∀ p,H p=none→Q (.ref p) (upd H p (.lst (cutV xs lo hi)))
theorem Cz6T:SlR X (rSlL X.K):=by
 intro pins s σ H x v vl vu lo hi sl Q I rx hs pl pu h
 obtain ⟨a,xs,rfl,hx,q⟩:=h
 cases rx
 obtain ⟨its,r,ht,hz⟩:=I.list hx
 have hlen:=r.length
 refine ⟨"list",_,slot_list_getitem.lookup,ht.isList.typeIs,?_⟩
 refine wpAny_getItem_list_slice ht.isList hs pl pu .none (by simp) ?_ (by rw [List.size_toArray]<;>omega)
 rw [Bz0O,←hlen]
 refine ⟨.ref s.heap.objs.size,_,I.laid (t':=s.toks) (o:= .lst (cutV xs lo hi)) (fun b ob q=>Heap.get?_push_of_some _ q) (Nat.le_refl _) ?_,rfl,q _ (I.hok.fresh (Nat.le_refl _))⟩
 exact ⟨Nat.le_trans (Az8Y xs lo hi) hz,_,0,(r.drop (HT.sIx xs.length 0 lo)).take (HT.sIx xs.length xs.length hi-HT.sIx xs.length 0 lo),Heap.get?_push_size _ rfl⟩
def flatV:V→Bool
 | .non=>true
 | .bl _=>true
 | .int _=>true
 | .str _=>true
 |_=>false
def eqV:V→V→Bool
 | .non, .non=>true
 | .bl a, .bl b=>a==b
 | .bl a, .int b=>(if a then 1 else 0)==b
 | .int a, .bl b=>a==(if b then 1 else 0)
 | .int a, .int b=>a==b
 | .str a, .str b=>a==b
 |_,_=>false
theorem eqAt_V {A:Around} {s:Shared} {y x:V} {u v:Value} (ry:RelV y u) (rx:RelV x v) (fy:flatV y=true) (fx:flatV x=true):SeqAt.EqAt A s u v (eqV y x):=by
 cases y with
 |non=>
  cases ry
  cases x with
  |non=>cases rx;exact SeqAt.EqAt.same _
  |bl b=>cases rx;exact SeqAt.EqAt.none_bool b
  |int b=>obtain ⟨t,rfl⟩:=rx;exact SeqAt.EqAt.none_int b t
  |str b=>obtain ⟨t,rfl⟩:=rx;exact SeqAt.EqAt.none_str b t
  |_=>exact absurd (show false=true from fx) Bool.false_ne_true
 |bl a=>
  cases ry
  cases x with
  |non=>cases rx;exact SeqAt.EqAt.bool_none a
  |bl b=>cases rx;exact SeqAt.EqAt.bool_bool a b
  |int b=>obtain ⟨t,rfl⟩:=rx;exact SeqAt.EqAt.bool_int a b t
  |str b=>obtain ⟨t,rfl⟩:=rx;exact SeqAt.EqAt.bool_str a b t
  |_=>exact absurd (show false=true from fx) Bool.false_ne_true
 |int a=>
  obtain ⟨t',rfl⟩:=ry
  cases x with
  |non=>cases rx;exact SeqAt.EqAt.int_none a t'
  |bl b=>cases rx;exact SeqAt.EqAt.int_bool a t' b
  |int b=>obtain ⟨t,rfl⟩:=rx;exact SeqAt.EqAt.int_int a t' b t
  |str b=>obtain ⟨t,rfl⟩:=rx;exact SeqAt.EqAt.int_str a t' b t
  |_=>exact absurd (show false=true from fx) Bool.false_ne_true
 |str a=>
  obtain ⟨t',rfl⟩:=ry
  cases x with
  |non=>cases rx;exact SeqAt.EqAt.str_none a t'
  |bl b=>cases rx;exact SeqAt.EqAt.str_bool a t' b
  |int b=>obtain ⟨t,rfl⟩:=rx;exact SeqAt.EqAt.str_int a t' b t
  |str b=>obtain ⟨t,rfl⟩:=rx;exact SeqAt.EqAt.str_str a t' b t
  |_=>exact absurd (show false=true from fx) Bool.false_ne_true
 |_=>exact absurd (show false=true from fy) Bool.false_ne_true
def eqU (x:V) (u:Value):Bool:=match u with
 | .none=>eqV .non x
 | .bool b=>eqV (.bl b) x
 | .int i _=>eqV (.int i) x
 | .str z _=>eqV (.str z) x
 |_=>false
theorem eqU_of {x y:V} {u:Value} (r:RelV y u) (f:flatV y=true):eqU x u=eqV y x:=by
 cases y with
 |non=>cases r;rfl
 |bl b=>cases r;rfl
 |int i=>obtain ⟨t,rfl⟩:=r;rfl
 |str z=>obtain ⟨t,rfl⟩:=r;rfl
 |_=>exact absurd (show false=true from f) Bool.false_ne_true
theorem Bz1V {x:V}:∀ {xs:List V} {us:List Value},Vals xs us→xs.all flatV=true→us.any (eqU x)=xs.any fun y=>eqV y x
 |_,_, .nil,_=>rfl
 |y::xs,u::us, .cons r t,f=>by
  rw [List.all_cons,Bool.and_eq_true] at f
  rw [List.any_cons,List.any_cons,eqU_of r f.1,Bz1V t f.2]
theorem Az7Y {A:Around} {s:Shared} {x:V} {v:Value} (rx:RelV x v) (fx:flatV x=true):∀ {xs:List V} {us:List Value},Vals xs us→xs.all flatV=true→∀ u∈us,SeqAt.EqAt A s u v (eqU x u)
 |_,_, .nil,_=>fun u hu=>by cases hu
 |y::xs,u::us, .cons r t,f=>fun u' hu=>by
  rw [List.all_cons,Bool.and_eq_true] at f
  rcases List.mem_cons.mp hu with rfl|hu
  ·rw [eqU_of r f.1];exact eqAt_V r rx f.1 fx
  ·exact Az7Y rx fx t f.2 u' hu
def inV (x:V) (xs:List V):Bool:=xs.any fun y=>eqV y x
def rIn (K:PySem.W.Frag) (neg:Bool):R2:=fun x y H Q=>∃ p xs,y= .ref p∧(SqL K H p xs∨SqT K H p xs)∧flatV x=true∧xs.all flatV=true∧Q (.bl (if neg then !inV x xs else inV x xs)) H
theorem Bz3Z:OpR X (compareOp .In) (rIn X.K false):=by
 intro pins s σ H x y v u Q I rx ry h
 obtain ⟨p,xs,rfl,hq,fx,fs,q⟩:=h
 cases ry
 rcases hq with hq|hq
 ·obtain ⟨its,r,pl,hz⟩:=I.list hq
  refine SeqAt.in_listAt (eqU x) pl.isList (fun w hw=>Az7Y rx fx r fs w (by simpa using hw)) ⟨.bl _,H,I,rfl,?_⟩
  rw [show its.toArray.any (eqU x)=its.any (eqU x) by simp,Bz1V r fs]
  exact q
 ·obtain ⟨its,r,pl,hz⟩:=I.tuple hq
  refine SeqAt.in_tupleAt (eqU x) pl (fun w hw=>Az7Y rx fx r fs w (by simpa using hw)) ⟨.bl _,H,I,rfl,?_⟩
  rw [show its.toArray.any (eqU x)=its.any (eqU x) by simp,Bz1V r fs]
  exact q
theorem Bz2O:OpR X (compareOp .NotIn) (rIn X.K true):=by
 intro pins s σ H x y v u Q I rx ry h
 obtain ⟨p,xs,rfl,hq,fx,fs,q⟩:=h
 cases ry
 rcases hq with hq|hq
 ·obtain ⟨its,r,pl,hz⟩:=I.list hq
  refine SeqAt.notIn_listAt (eqU x) pl.isList (fun w hw=>Az7Y rx fx r fs w (by simpa using hw)) ⟨.bl _,H,I,rfl,?_⟩
  rw [show its.toArray.any (eqU x)=its.any (eqU x) by simp,Bz1V r fs]
  exact q
 ·obtain ⟨its,r,pl,hz⟩:=I.tuple hq
  refine SeqAt.notIn_tupleAt (eqU x) pl (fun w hw=>Az7Y rx fx r fs w (by simpa using hw)) ⟨.bl _,H,I,rfl,?_⟩
  rw [show its.toArray.any (eqU x)=its.any (eqU x) by simp,Bz1V r fs]
  exact q
theorem CallR.or {f:Value} {r r':List V→Hp→VK→Prop} (h:CallR X f r) (h':CallR X f r'):CallR X f (fun xs H Q=>r xs H Q∨r' xs H Q):=by
 intro pins s σ H xs us Q I rs q
 rcases q with q|q
 ·exact h pins s σ H xs us Q I rs q
 ·exact h' pins s σ H xs us Q I rs q
theorem Bz3D:CallR X (.type "list") (fun xs H Q=>∃ p ys,xs= [.ref p]∧(SqL X.K H p ys∨SqT X.K H p ys)∧∀ l,H l=none→Q (.ref l) (upd H l (.lst ys))):=by
 intro pins s σ H xs us Q I r h
 obtain ⟨p,ys,rfl,hq,q⟩:=h
 obtain ⟨u,rfl,rx⟩:=vals1 r
 cases rx
 have fin:∀ (its:List Value),Vals ys its→ys.length≤sizeLine→∀ (h':Heap) (c':Nat),(∀ b o',s.heap.get? b=some o'→h'.get? b=some o')→
   h'.get? s.heap.objs.size=some {cls:= .type "list",dict:=none,data:= .seq its.toArray c',slots:= #[]}→EP X pins σ Q (.ref s.heap.objs.size) {s with heap:=h'}:=fun its r' hz h' c' kp e=>
  ⟨.ref s.heap.objs.size,_,I.laid (t':=s.toks) kp (Nat.le_refl _) (show ObjOk X.prog X.w _ h' _ (.lst ys) from ⟨hz,its,c',r',e⟩),rfl,q _ (I.hok.fresh (Nat.le_refl _))⟩
 rcases hq with hq|hq
 ·obtain ⟨its,r',pl,hz⟩:=I.list hq
  have hlen:=r'.length
  obtain ⟨o,ho,hc,n,hd⟩:=pl.isList
  exact call_list_seq p (.inl rfl) ho hc hd (fun h' c' kp e=>fin its r' hz h' c' kp e) (by simp only [List.size_toArray]<;>omega)
 ·obtain ⟨its,r',pl,hz⟩:=I.tuple hq
  have hlen:=r'.length
  obtain ⟨o,ho,hc,n,hd⟩:=pl
  exact call_list_seq p (.inr rfl) ho hc hd (fun h' c' kp e=>fin its r' hz h' c' kp e) (by simp only [List.size_toArray]<;>omega)
theorem Bz1O:CallR X (.type "tuple") (fun xs H Q=>∃ p ys,xs= [.ref p]∧((SqL X.K H p ys∧∀ l,H l=none→Q (.ref l) (upd H l (.tup ys)))∨(SqT X.K H p ys∧Q (.ref p) H))):=by
 intro pins s σ H xs us Q I r h
 obtain ⟨p,ys,rfl,h⟩:=h
 obtain ⟨u,rfl,rx⟩:=vals1 r
 cases rx
 rcases h with ⟨hq,q⟩|⟨hq,q⟩
 ·obtain ⟨its,r',pl,hz⟩:=I.list hq
  have hlen:=r'.length
  refine call_tuple_list pl.isList (fun h' kp=> ?_) (by simp only [List.size_toArray]<;>omega)
  have I1:Inv X pins σ H {s with heap:=h'}:=I.kept (t':=s.toks) kp
  have I2:Inv X pins σ (upd H h'.objs.size (.tup ys)) {s with heap:=h'.push {cls:= .type "tuple",data:= .seq its.toArray}}:=
   I1.laid (t':=s.toks) (fun b o e=>Heap.get?_push_of_some _ e) (Nat.le_refl _) (show ObjOk X.prog X.w _ _ _ (.tup ys) from ⟨hz,its,r',IsTup.new _ _⟩)
  exact ⟨.ref h'.objs.size,_,I2,rfl,q _ (I1.hok.fresh (Nat.le_refl _))⟩
 ·obtain ⟨its,r',pl,hz⟩:=I.tuple hq
  exact call_tuple_same pl ⟨.ref p,H,I,rfl,q⟩
def tyV (K:PySem.W.Frag) (T:String) (x:V) (H:Hp):Prop:=match x with
 | .str _=>T="str"
 | .int _=>T="int"
 | .ref p=>(T="list"∧∃ xs,SqL K H p xs)∨(T="tuple"∧∃ o,K.lookup p=some o∧o.cls= .type "tuple"∧o.dict=none)∨
   (T="dict"∧((∃ kvs,H p=some (.dK kvs))∨∃ kvs,H p=some (.dT kvs)))∨(T="set"∧∃ S n,H p=some (.set S n))
 |_=>False
theorem tyV_is {pins:List (Addr×Obj)} {σ:St} {H:Hp} {s:Shared} {T:String} {x:V} {v:Value} (I:Inv X pins σ H s) (r:RelV x v) (ty:tyV X.K T x H):
  s.TypeIs v T∧∀ a,v= .ref a→∃ ob,s.heap.get? a=some ob∧ob.dict=none:=by
 cases x with
 |str z=>
  obtain ⟨t,rfl⟩:=r
  cases (show T="str" from ty)
  exact ⟨typeIs_str s z t,fun _ e=>nomatch e⟩
 |int i=>
  obtain ⟨t,rfl⟩:=r
  cases (show T="int" from ty)
  exact ⟨typeIs_int s i t,fun _ e=>nomatch e⟩
 |ref p=>
  cases r
  rcases ty with ⟨rfl,xs,hq⟩|⟨rfl,o,hk,hc,hd⟩|⟨rfl,hk⟩|⟨rfl,S,n,hk⟩
  ·obtain ⟨its,_,pl,_⟩:=I.list hq
   refine ⟨pl.isList.typeIs,fun a e=> ?_⟩
   cases e
   obtain ⟨o,n,e,c,hd,_⟩:=pl
   exact ⟨o,e,hd⟩
  ·refine ⟨⟨o,I.kIn p o hk,hc⟩,fun a e=> ?_⟩
   cases e
   exact ⟨o,I.kIn _ o hk,hd⟩
  ·have z:∃ o,s.heap.get? p=some o∧o.ExactDict:=by
    rcases hk with ⟨kvs,hk⟩|⟨kvs,hk⟩
    ·obtain ⟨_,_,_,_,o,_,_,e,ex,_⟩:=I.hok p _ hk
     exact ⟨o,e,ex⟩
    ·obtain ⟨_,_,_,_,o,_,_,e,ex,_⟩:=I.hok p _ hk
     exact ⟨o,e,ex⟩
   obtain ⟨o,e,ex⟩:=z
   refine ⟨⟨o,e,ex.1⟩,fun a e2=> ?_⟩
   cases e2
   exact ⟨o,e,ex.2.1⟩
  ·obtain ⟨o,_,_,_,e,ex,_⟩:=I.hok p _ hk
   refine ⟨⟨o,e,ex.1⟩,fun a e2=> ?_⟩
   cases e2
   exact ⟨o,e,ex.2.1⟩
 |_=>exact False.elim ty
def tBM (K:PySem.W.Frag) (T:String) (r:V→List V→Hp→VK→Prop) (to:TE) (t:TA):TE:=fun σ H Q=>to σ H fun x H1=>tyV K T x H1∧t σ H1 fun xs H2=>r x xs H2 Q
variable {o e:Expr} {es:List Expr} {to:TE} {t:TA} {name:Str} {apos cpos:Pos} {T id:String} {r:V→List V→Hp→VK→Prop}
theorem pe_bm (pa:PlainAttrs T) (slot:Slot T name id) (hty:typeOf (.builtin id)=pure (.type "method_descriptor")) (hm:MtR X id r) (ho:PE X o to) (ha:PA X (e::es) t)
  (hbase:attributeBase o name X.env (eval o X.env)=eval o X.env:=by rfl)
  (hfew:((backTo cpos (starEach (e::es) X.env)).all (fun x=> !x.1)&&(backToKw cpos (keywordEach [] X.env)).all (fun x=>x.1.isSome)
   &&decide ((e::es).length+([]:List Keyword).length+(if ([]:List Keyword).isEmpty then 0 else 1)<30))=true:=by rfl)
  (hline:(apos.endLine==cpos.line)=true:=by rfl) (hs:starEach (e::es) X.env=(false,eval e X.env)::starEach es X.env:=by rfl) (hplain:(backTo cpos (starEach es X.env)).any (·.1)=false:=by rfl):
  PE X (.Call (.Attribute o name apos) (e::es) [] cpos) (tBM X.K T r to t):=by
 intro pins s σ H Q I h
 refine wpAny_Call_method_late hbase hfew hline rfl (thn (ho pins s σ H _ I h) fun v s1 ⟨x,H1,I1,r1,ty,q1⟩=> ?_)
 obtain ⟨h1,h2⟩:=tyV_is I1 r1 ty
 refine ⟨T,id,pa,slot,hty,h1,h2,?_⟩
 have hA:=ha cpos pins s1 σ H1 _ I1 q1
 rw [hs] at hA ⊢
 refine Calls.callWith_builtin (by show (false||(backTo cpos (starEach es X.env)).any (·.1))=false;rw [hplain]<;>rfl) (Calls.evalArgs_plain ?_)
 exact thn hA fun us s2 ⟨vs,H2,I2,r2,q2⟩=>hm pins s2 σ H2 x vs v us Q I2 r1 r2 q2
/- xs.append(e),list.index on a module's tuple .. are MtR facts of 06m -/
end
end L2
namespace L2
open PySem PySem.Spec PyProof.Rows
def MtM (X:Cx) (id:String) (r:V→List V→Hp→VK→Prop):Prop:=
 ∀ (pins:List (Addr×Obj)) (s:Shared) (σ:St) (H:Hp) (x:V) (xs:List V) (v:Value) (us:List Value) (Q:VK),Inv X pins σ H s→RelV x v→Vals xs us→r x xs H Q→
  wpAny (model X.prog X.w) X.A (call (.builtin id) (v::us)) (EP X pins σ Q) X.xe s
theorem Vals.one:∀ {x:V} {us:List Value},Vals [x] us→∃ u,us= [u]∧RelV x u
 |_,_, .cons r .nil=>⟨_,rfl,r⟩
theorem Vals.two:∀ {x y:V} {us:List Value},Vals [x,y] us→∃ u v,us= [u,v]∧RelV x u∧RelV y v
 |_,_,_, .cons r (.cons q .nil)=>⟨_,_,rfl,r,q⟩
theorem Vals.dropLast {xs:List V} {us:List Value} (h:Vals xs us):Vals xs.dropLast us.dropLast:=by
 induction h with
 |nil=>exact .nil
 |cons r t ih=>
  cases t with
  |nil=>exact .nil
  |cons q t'=>exact .cons r ih
theorem Vals.eraseIdx:∀ {xs:List V} {us:List Value} (i:Nat),Vals xs us→Vals (xs.eraseIdx i) (us.eraseIdx i)
 |_,_,_, .nil=> .nil
 |_,_,0, .cons _ t=>t
 |_,_,i+1, .cons r t=> .cons r (Vals.eraseIdx i t)
theorem Vals.reverse {xs:List V} {us:List Value} (h:Vals xs us):Vals xs.reverse us.reverse:=by
 induction h with
 |nil=>exact .nil
 |cons r t ih=>rw [List.reverse_cons,List.reverse_cons];exact Vals.append ih (.cons r .nil)
theorem Vals.rep {xs:List V} {us:List Value} (h:Vals xs us):∀ k:Nat,Vals (List.replicate k xs).flatten (List.replicate k us).flatten
 |0=> .nil
 |k+1=>by
  rw [List.replicate_succ,List.replicate_succ,List.flatten_cons,List.flatten_cons]
  exact Vals.append h (Vals.rep h k)
theorem Bz4M (its:List Value):∀ (k:Nat) (acc:List Value),
  List.foldl (fun x1 x2=>x1++x2) acc.toArray (List.replicate k its.toArray)=(acc++(List.replicate k its).flatten).toArray
 |0,acc=>by simp
 |k+1,acc=>by
  have e:acc.toArray++its.toArray=(acc++its).toArray:=by simp
  have e2:(acc++its)++(List.replicate k its).flatten=acc++(List.replicate (k+1) its).flatten:=by
   rw [List.replicate_succ,List.flatten_cons,List.append_assoc]
  rw [←e2,←Bz4M its k (acc++its),←e,List.replicate_succ,List.foldl_cons]
section
variable {X:Cx} {pins:List (Addr×Obj)} {σ:St} {H:Hp} {s:Shared} {l b:Addr} {xs ys zs:List V}
theorem Inv.lset {its its':List Value} {n:Nat} {f:Array Value→Array Value} {t':Nat} (I:Inv X pins σ H s) (hH:H l=some (.lst xs))
  (e:s.heap.get? l=some {cls:= .type "list",data:= .seq its.toArray n}) (hf:f its.toArray=its'.toArray) (hv:Vals ys its') (hz:ys.length≤sizeLine):
  Inv X pins σ (upd H l (.lst ys)) {s with heap:=s.heap.update l (Obj.mapSeq f),toks:=t'}:=by
 have q:=PySem.IsL.update e f
 rw [hf] at q
 refine I.write (x:=l) (e:=l) (by rw [hH];exact trivial) (.inl rfl) (fun b' u hb hu=>(Heap.get?_update_other s.heap (Obj.mapSeq f) (Ne.symm hb)).trans hu) ⟨_,q⟩ ?_
 exact ⟨hz,its',_,hv,q⟩
theorem Inv.lnew {its:List Value} {t':Nat} (I:Inv X pins σ H s) (hv:Vals ys its) (hz:ys.length≤sizeLine):
  Inv X pins σ (upd H s.heap.objs.size (.lst ys)) {s with heap:=s.heap.push {cls:= .type "list",data:= .seq its.toArray},toks:=t'}:=
 I.laid (fun _ _ q=>Heap.get?_push_of_some _ q) (Nat.le_refl _) ⟨hz,its,0,hv,Heap.get?_push_size _ rfl⟩
theorem Inv.fresh (I:Inv X pins σ H s):H s.heap.objs.size=none:=I.hok.fresh (Nat.le_refl _)
theorem Inv.lstM (I:Inv X pins σ H s) (hH:H l=some (.lst xs)):xs.length≤sizeLine∧∃ (its:List Value) (n:Nat),Vals xs its∧xs.length=its.length∧s.heap.get? l=some {cls:= .type "list",data:= .seq its.toArray n}:=by
 obtain ⟨z,its,n,r,e⟩:=I.hok l _ hH
 exact ⟨z,its,n,r,r.length,e⟩
end
section
variable {X:Cx}
def Cz7A:V→List V→Hp→VK→Prop:=fun x vs H Q=>∃ l xs y,x= .ref l∧vs= [y]∧H l=some (.lst xs)∧xs.length<sizeLine∧Q .non (upd H l (.lst (xs++ [y])))
theorem Bz4E:MtM X "list.append" Cz7A:=by
 intro pins s σ H x vs v us Q I rx rv h
 obtain ⟨l,xs,y,rfl,rfl,hH,hz,q⟩:=h
 cases rx
 obtain ⟨u,rfl,ru⟩:=rv.one
 obtain ⟨z,its,n,r,hl,e⟩:=I.lstM hH
 refine call_meets F.slot_list_append ⟨_,e,rfl⟩ F.entry_list_append (F.args_list_append_2 _ _) (PySem.list_append l its.toArray n u (by rw [List.size_toArray];omega)) ⟨e,?_⟩
 refine ⟨.non,_,I.lset (its':=its++ [u]) hH e (by simp) (r.append (.cons ru .nil)) ?_,rfl,q⟩
 rw [List.length_append,List.length_singleton]
 omega
theorem Cz2P {α:Type} (xs:List α) (k:Nat):(List.replicate k xs).flatten.length=k*xs.length:=by
 induction k with
 |zero=>simp
 |succ k ih=>rw [List.replicate_succ,List.flatten_cons,List.length_append,ih,Nat.succ_mul,Nat.add_comm]
end
section
variable {prog:Program} {w:World} {A:Around} {E:Value→Shared→Prop} {s:Shared}
end
section
variable {X:Cx}
end
end L2
namespace Att
open PySem PySem.W PySem.Calls PyProof.Rows
theorem Az8U {P:Params} {h:Heap}:∀ (ns:List Int) (vs:List Value),WellAll P h vs (ns.map WData.int)→IntsAre vs ns:=by
 intro ns
 induction ns with
 |nil=>
  intro vs w
  rw [List.map_nil] at w
  cases w
  exact .nil
 |cons n ns ih=>
  intro vs w
  rw [List.map_cons] at w
  cases w with
  |cons a b=>
   cases a
   exact .cons _ _ (ih _ b)
theorem Cz0H {l:OpenLaw} {n:Nat} (hn:l.most=some n) {P:Params} {h:Heap} {args:List WData} {vals:List Value}
  (hpre:l.row.toRowW.claim.pre args=true) (hwl:WellAll P h vals args):
  ∃ a vs ns,vals= [Value.ref a]∧args= [WData.list (ns.map WData.int)]∧h.get? a=some {cls:= .type "list",data:= .seq vs.toArray}∧IntsAre vs ns∧ns.length≤n:=by
 have hsh:WShape.hasAll [] args [.list .int]=true:=(pre_splitW hpre).1
 have hc:l.pre.holds [] {args:=args}=true:=(pre_splitW hpre).2
 obtain ⟨d,r,rfl,h1,h2⟩:=hasAllW_cons hsh
 obtain rfl:=hasAllW_nil h2
 obtain ⟨xs,rfl,h3⟩:=hasW_list h1
 obtain ⟨ns,rfl⟩:=items_int h3
 have hlen:ns.length≤n:=by
  unfold OpenLaw.pre at hc
  have h4:(WTm.not (.lt (.lit (.int (n:Int))) (.len (.arg 0)))).holds [] {args:= [.list (ns.map .int)]}=true:=by
   have h4:=(holds_andW hc).1
   rw [hn] at h4
   exact h4
  have h5:=condW_of h4 (w_not (w_lt w_lit (w_len_list (w_arg rfl))))
  rw [List.length_map] at h5
  refine Nat.le_of_not_lt fun q=> ?_
  have q':(n:Int)<((ns.length:Nat):Int):=by omega
  first
   |(rw [decide_eq_true q'] at h5;exact absurd h5 (by decide))
   |(simp at h5;omega)
 cases hwl with
 |cons w1 w2=>
  cases w2
  cases w1 with
  |list ho hall=>exact ⟨_,_,ns,rfl,rfl,ho,Az8U ns _ hall,hlen⟩
theorem Cz0L (l:OpenLaw) (args:List WData):l.row.toRowW.claim.post args (.bool true) args=true:=
 postW_of (r:=l.row.toRowW) (X:=(true==true))
  (show WShape.has [] (.bool true) .bool=true by first|rfl|decide|simp [WShape.has,WShape.arms,WShape.armsAll])
  (show (WTm.eq .res (.lit (.bool true))).value [] {args:=args,res:=some (.bool true),after:=args}=some (.bool (true==true)) from w_eq_bool (w_res rfl) w_lit) rfl
theorem attach_call {l:OpenLaw} {n:Nat} {q:Program} {loose:List Str} {XP:(Str→Option Value)→Heap→Prop} {YP:World→Heap→Prop} {d:DefRec}
  (hn:l.most=some n) (hdf:d.params.defaults= [])
  (call:∀ (w:World) (s₀ s₁:Shared) (mg mb:Str→Option Value) (fa:Addr) (o:Obj) (pm cd doc:Value) (a:Addr) (vs:List Value) (ns:List Int),
   Ground q loose [] XP w s₀ mg mb s₁.heap→YP w s₁.heap→
   s₁.heap.get? fa=some o→o.data= .func (docDef d.name d.params d.body d.scope pm cd doc)→s₁.heap.CodeRec cd d.name→mg d.name=some (.ref fa)→
   s₁.heap.get? a=some {cls:= .type "list",data:= .seq vs.toArray}→IntsAre vs ns→ns.length≤n→s₁.gens= #[]→
   codeAny (model l.prog w) callerA (.call (.ref fa) ⟨[.ref a],[]⟩) (fun r s'=>r= .ok (.ret (.bool true))∧OldK s₁.heap s'.heap∧s'.os=s₁.os∧AllBare s'.gens) s₁):
  WalkO q loose XP YP l.row.toRowW d [] (fun f vs=>PySem.call f vs):=by
 intro w s₀ s₁ mg mb G Y fa o pm cd doc dV kV ho hd hcd hD hmg hg args vals as hpre hlay hrd hwl hlo
 obtain rfl:dV= .none:=Dflts.none hD hdf
 obtain rfl:kV= .none:=Dflts.noKw hD
 obtain ⟨a,vs,ns,rfl,rfl,hobj,hints,hlen⟩:=Cz0H hn hpre hwl
 refine enter_call (codeAny_mono (call w s₀ s₁ mg mb fa o pm cd doc a vs ns G Y ho (fd_plain hd) hcd hmg hobj hints hlen hg) fun r s' hq=> ?_)
 obtain ⟨rfl,h2,h3,h4⟩:=hq
 exact ⟨.inl ⟨.bool true, .bool true,[],rfl,fun _=>rfl, .bool true,Cz0L l _,fun _=>⟨List.Pairwise.nil,fun _ hm=>(nomatch hm)⟩⟩,h2,h3,h4⟩
section
variable {prog:Program} {w:World} {A:Around} {E:Value→Shared→Prop} {s:Shared} {K:Frag}
end
end Att
namespace L2
open PySem PySem.Spec PyProof.Rows
theorem vals_ints:∀ {vs:List Value} {ns:List Int},IntsAre vs ns→Vals (ns.map V.int) vs
 |_,_, .nil=> .nil
 |_,_, .cons n t h=> .cons ⟨t,rfl⟩ (vals_ints h)
def Only (H:Hp):Prop:=∀ b,H b=none∨∃ o xs,H b=some (.frz o (.lst xs))
theorem Cz4W {P:Program} {w:World} {K:PySem.W.Frag} {mg mb:Str→Option Value} {CX:CXT} {k:Nat} {fa a:Addr} {fd:FuncData} {x:Str} {sp:Sp} {s₁:Shared} {vs:List Value} {ns:List Int}
  (KX:K.In s₁.heap) (hns:s₁.heap.Ns mainGlobals mg) (hb:s₁.heap.Ns builtinsNs mb) (hbb:∀ x:Str,x≠"__name__"→mb x=bootBuiltins x) (hlim:s₁.heap.NoLimit) (hg:s₁.gens= #[])
  (ha:s₁.heap.get? a=some {cls:= .type "list",data:= .seq vs.toArray}) (hi:IntsAre vs ns) (hl:ns.length≤sizeLine) (hr:Room k callerA)
  (F:∀ base:Heap,K.In base→base.Ns mainGlobals mg→FnOk P w K mg base CX k fa fd [x] sp) (hbind:∀ (s:Shared) (u:Value),BindsTo s fd ⟨[u],[]⟩ [(x,u)])
  (hsp:∀ H:Hp,Only H→SqL K H a (ns.map V.int)→sp [.ref a] H (fun v _=>v= .bl true) fun _ _ _=>False)
  (hCX:∀ H e s',CX [] H s₁ (fun _ _ _=>False) e s'→False):
  codeAny (model P w) callerA (.call (.ref fa) ⟨[.ref a],[]⟩) (fun r s'=>r= .ok (.ret (.bool true))∧OldK s₁.heap s'.heap∧s'.os=s₁.os∧AllBare s'.gens) s₁:=by
 have rv:=vals_ints hi
 have lenV:=hi.length
 have core:∀ H:Hp,Only H→SqL K H a (ns.map V.int)→HOk P w H s₁.heap→(∀ b,H b≠none→b=a)→(H a≠none→K.lookup a=none)→
   codeAny (model P w) callerA (.call (.ref fa) ⟨[.ref a],[]⟩) (fun r s'=>r= .ok (.ret (.bool true))∧OldK s₁.heap s'.heap∧s'.os=s₁.os∧AllBare s'.gens) s₁:=by
  intro H hO hS hok hA hK
  have base_of:∀ {b:Addr} {o:Obj},s₁.heap.get? b=some o→H b=none→(hidT s₁.heap H).get? b=some o:=fun e n=>Cz5G e n
  have noA:∀ {b:Addr} {o:Obj} {es:Array DictEntry} {ep:Nat},s₁.heap.get? b=some o→o.data= .dict es ep→H b=none:=fun {b o es ep} e d=>by
   cases q:H b with
   |none=>rfl
   |some u=>
    have e':b=a:=hA b (by rw [q];simp)
    subst e'
    rw [ha] at e;cases e
    have d':Data.seq vs.toArray _=Data.dict es ep:=d
    cases d'
  have nsK:∀ {b:Addr} {m:Str→Option Value},s₁.heap.Ns b m→(hidT s₁.heap H).Ns b m:=fun {b m} ⟨o,es,ep,e,d,r⟩=>⟨o,es,ep,base_of e (noA e d),d,r⟩
  have hKb:K.In (hidT s₁.heap H):=fun b o e=>base_of (KX b o e) (by
   cases q:H b with
   |none=>rfl
   |some u=>
    have e':b=a:=hA b (by rw [q];simp)
    subst e'
    rw [hK (by rw [q];simp)] at e;cases e)
  have hM:Mod K mg (hidT s₁.heap H):=⟨hKb,nsK hns,⟨mb,nsK hb,hbb⟩,let ⟨mc,h1,h2⟩:=hlim;⟨mc,nsK h1,h2⟩⟩
  have e0:Env0 P w K mg (hidT s₁.heap H) callerA [] s₁ H:=⟨rfl,hM,fun b o e=>Cz8F e,Nat.le_of_eq (Cz1G _ _),trivial,fun b hb=>absurd (show b∈([]:List Addr) from hb) (by simp),hok, .of_eq hg⟩
  refine codeAny_mono ((F _ hKb (nsK hns)).run callerA [] s₁ H ⟨[.ref a],[]⟩ [.ref a] [.ref a] _ _ hr e0 (hbind s₁ (.ref a)) (.cons rfl .nil) (hsp H hO hS)) fun r s' h=> ?_
  cases r with
  |error e=>exact (hCX H e s' h).elim
  |ok fl=>
   cases fl with
   |next=>exact False.elim h
   |brk=>exact False.elim h
   |cont=>exact False.elim h
   |ret u=>
    obtain ⟨v,H',os,bare,un,hok',r',q⟩:=h
    have q':v= .bl true:=q
    subst q'
    obtain rfl:u=Value.bool true:=r'
    refine ⟨rfl,OldK.of_keep fun b o e=> ?_,os,bare⟩
    cases q:H b with
    |none=>exact un.keep b o e q (by intro z;exact absurd (show b∈([]:List Addr) from z) (by simp)) (by simp)
    |some u=>
     rcases hO b with z|⟨ob,xs,z⟩
     ·rw [q] at z;cases z
     ·have z2:=un.frzs b ob _ z
      obtain ⟨e1,_⟩:=hok b _ z
      obtain ⟨e2,_⟩:=hok' b _ z2
      rw [e] at e1;cases e1
      exact e2
 cases hk:K.lookup a with
 |some o=>
  have e:=KX a o hk
  rw [ha] at e
  cases e
  refine core (fun _=>none) (fun _=> .inl rfl) (.inr ⟨_,vs.toArray,_,hk,rfl,rfl,rfl,by rw [List.size_toArray,lenV];exact hl,by simpa using rv⟩) (fun b u z=>by have z':(none:Option HO)=some u:=z;cases z') (fun b z=>absurd rfl z) fun z=>absurd rfl z
 |none=>
  refine core (fun b=>if b=a then some (.frz {cls:= .type "list",data:= .seq vs.toArray} (.lst (ns.map V.int))) else none) (fun b=> ?_) (.inl (.inr ⟨{cls:= .type "list",data:= .seq vs.toArray},if_pos rfl⟩)) (fun b u z=> ?_) (fun b z=> ?_) fun _=>hk
  ·by_cases hb:b=a
   ·exact .inr ⟨_,_,if_pos hb⟩
   ·exact .inl (if_neg hb)
  ·by_cases hb:b=a
   ·have z':=(if_pos hb).symm.trans z
    cases z'
    subst hb
    exact ⟨ha,by rw [List.length_map];exact hl,vs,_,rv,ha⟩
   ·have z':=(if_neg hb).symm.trans z
    cases z'
  ·by_cases hb:b=a
   ·exact hb
   ·exact absurd (if_neg hb) z
end L2
namespace L2
open PySem PySem.Spec PyProof.Rows
theorem walk_of {l:PySem.W.OpenLaw} {n k:Nat} {q:Program} {loose:List Str} {XP:(Str→Option Value)→Heap→Prop} {YP:World→Heap→Prop} {d:DefRec} {K:Params→PySem.W.Frag} {CX:World→CXT} {sp:World→Sp} {x:Str}
  (hn:l.most=some n) (hn2:n≤sizeLine) (hdf:d.params.defaults= []) (hr:Room k callerA)
  (hY:∀ (w:World) (h:Heap),YP w h→(K w.params).In h)
  (F:∀ (w:World) (mg:Str→Option Value) (fa:Addr) (h:Heap),(K w.params).In h→h.Ns mainGlobals mg→mg d.name=some (.ref fa)→
   ∃ fd:FuncData,(∀ (s:Shared) (u:Value),BindsTo s fd ⟨[u],[]⟩ [(x,u)])∧
    ∀ base:Heap,(K w.params).In base→base.Ns mainGlobals mg→FnOk l.prog w (K w.params) mg base (CX w) k fa fd [x] (sp w))
  (hsp:∀ (w:World) (H:Hp) (a:Addr) (ns:List Int),ns.length≤n→Only H→SqL (K w.params) H a (ns.map V.int)→sp w [.ref a] H (fun v _=>v= .bl true) fun _ _ _=>False)
  (hCX:∀ (w:World) (H:Hp) (s:Shared) (e:Value) (s':Shared),CX w [] H s (fun _ _ _=>False) e s'→False):
  PySem.W.WalkO q loose XP YP l.row.toRowW d [] (fun f vs=>PySem.call f vs):=by
 refine Att.attach_call hn hdf fun w s₀ s₁ mg mb fa o pm cd doc a vs ns G Y ho hd hcd hmg hobj hints hlen hg=> ?_
 have KX:=hY w _ Y
 obtain ⟨fd,hb,hF⟩:=F w mg fa _ KX G.T.g hmg
 exact Cz4W KX G.T.g G.T.b G.T.builtins G.T.nolimit hg hobj hints (Nat.le_trans hlen hn2) hr hF hb (fun H hO hS=>hsp w H a ns hlen hO hS) fun H e s'=>hCX w H s₁ e s'
end L2
/- THE LAST THEOREM (shape; LID, My.* are yours):
   My.Adr: a structure of the addresses that your layer names (classes, functions); My.Txt K t: a structure (Prop) of the equations over K;
   My.txt_mk : {K} {implicit addresses ..} (e1 : nsIn K mainGlobals "law" = some (some (.ref f))) (e2 : K.lookup f = some ⟨oc, od, .func (fnOf "law" "law" params body scope dV kV doc pm an cdv ct), sl⟩) (e3 : codeIn K cdv "law" = true) .. : ∃ t, My.Txt K t
(the tactic k_is has no namespace: write k_is) -/
namespace L2
open PySem PySem.Spec PyProof.Rows
def Az0H (s:Stmt):Arguments:=match s with
 | .FunctionDef _ a _ _ _ _ _ _ _ _=>a
 |_=> {posonlyargs:= [],args:= [],vararg:=none,kwonlyargs:= [],kw_defaults:= [],kwarg:=none,defaults:= []}
def Az0F (s:Stmt):List Stmt:=match s with
 | .FunctionDef _ _ b _ _ _ _ _ _ _=>b
 |_=> []
def Az0A (s:Stmt):Scope:=match s with
 | .FunctionDef _ _ _ _ _ _ sc _ _ _=>sc
 |_=> {kind:= .function,names:= [],isGenerator:=false,isCoroutine:=false}
abbrev CX0:CXT:=fun _ _ _ _ _ _=>False
abbrev E0:XK:=fun _ _ _=>False
theorem pass0 {X:Cx}:Passes CX0 X E0:=fun _ _ _ _ _ _ _ h=>h.elim
structure Fun (K:PySem.W.Frag) (x qual:Str) (st:Stmt) (f:Addr) (fd:FuncData):Prop where
 ex:∃ (oc:Value) (od:Option Addr) (kV doc pm:Value) (an:Option Addr) (cdv ct:Value) (osl:Array (Option Value)),
  fd=PySem.W.fnOf x qual (Az0H st) (Az0F st) (Az0A st) .none kV doc pm an cdv ct∧K.lookup f=some ⟨oc,od, .func fd,osl⟩∧PySem.W.codeIn K cdv qual=true
 kp:PySem.W.keepIn K (.ref f)=true
section
variable {P:Program} {w:World} {K:PySem.W.Frag} {mg:Str→Option Value} {base:Heap}
theorem Fun.ok {x qual:Str} {st:Stmt} {f:Addr} {fd:FuncData} {N ps:List Str} {k:Nat} {sp:Sp} (F:Fun K x qual st f fd) (S:FnScope N ps (Az0A st)) (len:∀ vs H Q E,sp vs H Q E→vs.length=ps.length)
  (hbody:∀ (cdv:Value) (A:Around) (outer:List Env) (s:Shared) (H:Hp) (vs:List V) (Q:VK) (E:XK),Room k (A.deeper (envOfC qual (Az0A st) s.heap.objs.size f cdv))→sp vs H Q E→
   ∃ t,PSs (cxOf CX0 P w K mg base N qual (Az0A st) f cdv A outer s H E).nox (Az0F st) t∧t {nx:=fun _ H'=>Q .non H',rt:=Q} (start N vs) H):FnOk P w K mg base CX0 (k+1) f fd ps sp:=by
 obtain ⟨oc,od,kV,doc,pm,an,cdv,ct,osl,rfl,lk,hcd⟩:=F.ex
 refine fn_of lk hcd S len fun A outer s H vs Q E hr hsp=> ?_
 obtain ⟨t,h,q⟩:=hbody cdv A outer s H vs Q E hr hsp
 exact ⟨t,h.nox,q⟩
theorem Fun.binds {x qual:Str} {st:Stmt} {f:Addr} {fd:FuncData} {ps:List Str} (F:Fun K x qual st f fd)
  (h:∀ (kV doc pm:Value) (an:Option Addr) (cdv ct:Value) (us:List Value),us.length=ps.length→bindArgs (PySem.W.fnOf x qual (Az0H st) (Az0F st) (Az0A st) .none kV doc pm an cdv ct) ⟨us,[]⟩=pure (ps.zip us)):Binds K fd ps []:=by
 obtain ⟨oc,od,kV,doc,pm,an,cdv,ct,osl,rfl,lk,hcd⟩:=F.ex
 exact .all (h kV doc pm an cdv ct)
theorem fun_mk {x qual:Str} {st:Stmt} {f:Addr} {oc:Value} {od an:Option Addr} {osl:Array (Option Value)} {kV doc pm cdv ct:Value} (l:K.lookup f=some ⟨oc,od, .func (PySem.W.fnOf x qual (Az0H st) (Az0F st) (Az0A st) .none kV doc pm an cdv ct),osl⟩)
  (c:PySem.W.codeIn K cdv qual=true) (k:PySem.W.keepIn K (.ref f)=true):Fun K x qual st f (PySem.W.fnOf x qual (Az0H st) (Az0F st) (Az0A st) .none kV doc pm an cdv ct):=⟨⟨oc,od,kV,doc,pm,an,cdv,ct,osl,rfl,l,c⟩,k⟩
end
section
variable {X:Cx}
theorem pv (i:Nat) {x:Str} {pos:Pos} (hN:X.N[i]? =some x:=by rfl) (hv:Vis X.env.scope x:=by first|exact Or.inl rfl|exact Or.inr (Or.inl rfl)|exact Or.inr (Or.inr rfl)) (hd:(x==("__debug__":Str))=false:=by decide)
  (hcd:(x==("__classdict__":Str))=false:=by decide):PE X (.Name x pos) (tVar i):=pe_var hN hv hd hcd
end
def Same (H H':Hp):Prop:=∀ b o,H b=some o→H' b=some o
theorem Same.refl (H:Hp):Same H H:=fun _ _ h=>h
theorem Same.trans {H H1 H2:Hp} (a:Same H H1) (b:Same H1 H2):Same H H2:=fun c o h=>b c o (a c o h)
theorem Same.free {H H':Hp} (e:Same H H') {l:Addr} (h:H' l=Option.none):H l=Option.none:=by
 cases q:H l with
 |none=>rfl
 |some o=>
  rw [e l o q] at h
  cases h
theorem Same.seq {K:PySem.W.Frag} {H H':Hp} {a:Addr} {xs:List V} (e:Same H H') (h:SqL K H a xs):SqL K H' a xs:=by
 rcases h with (h|⟨o,h⟩)|h
 ·exact .inl (.inl (e _ _ h))
 ·exact .inl (.inr ⟨o,e _ _ h⟩)
 ·exact .inr h
end L2
set_option maxHeartbeats 4000000
namespace L3
open PySem PySem.Spec PyProof.Rows L2
inductive D where
 |non|bl (b:Bool)|int (i:Int)|str (x:Str)|tup (ds:List D)|lst (ds:List D)|dct (ks:List Key) (ds:List D)|exc (c:Str) (ds:List D)|obj (c:Str) (ks:List Str) (ds:List D)
inductive Res (α:Type) where
 |ok (a:α)|ex (c:Str) (fs:List D)|stuck
def Res.bind {α β:Type} (r:Res α) (k:α→Res β):Res β:=match r with
 | .ok a=>k a
 | .ex c fs=> .ex c fs
 | .stuck=> .stuck
theorem Res.bind_ok {α β:Type} (a:α) (k:α→Res β):(Res.ok a).bind k=k a:=rfl
theorem Res.bind_ex {α β:Type} (c:Str) (fs:List D) (k:α→Res β):(Res.ex c fs).bind k= .ex c fs:=rfl
theorem Res.bind_stuck {α β:Type} (k:α→Res β):(Res.stuck:Res α).bind k= .stuck:=rfl
inductive S where
 |d (x:D)|o (ds:List D)|q (ks:List Key) (ds:List D)
def Ow:S→Prop
 | .d _=>False
 |_=>True
def MutO:HO→Prop
 | .lst _=>True
 | .dK _=>True
 | .ins _ _ _=>True
 |_=>False
abbrev DSt:=List (Option S)
def ExcAt (a:Addr) (C:Value):Heap→Prop:=fun h=>∃ o vs,h.get? a=some o∧o.cls=C∧o.data= .fields vs
abbrev WS:=Addr→Prop
section
variable (K:PySem.W.Frag) (W:WS) (H:Hp)
def LR (a:Addr) (xs:List V):Prop:=(H a=some (.lst xs)∧¬ W a)∨((∃ o,H a=some (.frz o (.lst xs)))∨∃ (o:Obj) (its:Array Value) (n:Nat),K.lookup a=some o∧o.cls= .type "list"∧o.dict=none∧o.data= .seq its n∧its.size≤sizeLine∧Vals xs its.toList)
mutual
def Has:D→V→Prop
 | .non,v=>v= .non
 | .bl b,v=>v= .bl b
 | .int i,v=>v= .int i
 | .str x,v=>v= .str x
 | .tup ds,v=>∃ a xs,v= .ref a∧SqT K H a xs∧HasL ds xs
 | .lst ds,v=>∃ a xs,v= .ref a∧LR K W H a xs∧HasL ds xs
 | .dct ks ds,v=>∃ a kvs,v= .ref a∧(∃ o,H a=some (.frz o (.dK kvs)))∧kvs.map (·.1)=ks∧HasL ds (kvs.map (·.2))
 | .exc c fs,v=>fs= []∧∃ a C,v= .ref a∧PySem.W.nsIn K mainGlobals c=some (some C)∧H a=some (.ext (ExcAt a C))
 | .obj c ks ds,v=>∃ a C dx fs,v= .ref a∧PySem.W.nsIn K mainGlobals c=some (some (.ref C))∧H a=some (.ins C dx fs)∧¬ W a∧fs.map (·.1)=ks∧HasL ds (fs.map (·.2))
def HasL:List D→List V→Prop
 | [],xs=>xs= []
 |d::ds,xs=>∃ x r,xs=x::r∧Has d x∧HasL ds r
end
end
theorem LR.sq {K:PySem.W.Frag} {W:WS} {H:Hp} {a:Addr} {xs:List V} (h:LR K W H a xs):SqL K H a xs:=by
 rcases h with ⟨h,_⟩|⟨o,h⟩|h
 ·exact .inl (.inl h)
 ·exact .inl (.inr ⟨o,h⟩)
 ·exact .inr h
def Keep (W:WS) (H H':Hp):Prop:=∀ b o,H b=some o→¬ W b→H' b=some o
def WL (W:WS) (H:Hp):Prop:=∀ b,W b→∃ o,H b=some o∧MutO o
theorem Same.keep {W:WS} {H H':Hp} (h:Same H H'):Keep W H H':=fun b o e _=>h b o e
theorem Keep.trans {W:WS} {H H1 H2:Hp} (a:Keep W H H1) (b:Keep W H1 H2):Keep W H H2:=fun c o e n=>b c o (a c o e n) n
theorem Az9N {K:PySem.W.Frag} {W:WS} {H H':Hp} {a:Addr} {xs:List V} (k:Keep W H H') (w:WL W H) (h:SqT K H a xs):SqT K H' a xs:=by
 have nw:∀ o,H a=some o→¬ MutO o→¬ W a:=fun o e n z=>by
  obtain ⟨o',e',m⟩:=w a z
  rw [e] at e'
  cases e'
  exact n m
 rcases h with (h|⟨o,h⟩)|h
 ·exact .inl (.inl (k _ _ h (nw _ h fun z=>z)))
 ·exact .inl (.inr ⟨o,k _ _ h (nw _ h fun z=>z)⟩)
 ·exact .inr h
theorem LR.keep {K:PySem.W.Frag} {W W':WS} {H H':Hp} {a:Addr} {xs:List V} (k:Keep W H H') (w:WL W H) (hw:∀ b,W' b→W b∨H b=none) (h:LR K W H a xs):LR K W' H' a xs:=by
 rcases h with ⟨h,n⟩|⟨o,h⟩|h
 ·refine .inl ⟨k _ _ h n,fun z=> ?_⟩
  rcases hw a z with z|z
  ·exact n z
  ·rw [h] at z;cases z
 ·refine .inr (.inl ⟨o,k _ _ h fun z=> ?_⟩)
  obtain ⟨o',e',m⟩:=w a z
  rw [h] at e';cases e';exact m
 ·exact .inr (.inr h)
section
variable {K:PySem.W.Frag} {W W':WS} {H H':Hp}
mutual
theorem Has.keep (k:Keep W H H') (w:WL W H) (hw:∀ b,W' b→W b∨H b=none):∀ {d:D} {v:V},Has K W H d v→Has K W' H' d v
 | .non,_,h=>by rw [Has] at h ⊢;exact h
 | .bl _,_,h=>by rw [Has] at h ⊢;exact h
 | .int _,_,h=>by rw [Has] at h ⊢;exact h
 | .str _,_,h=>by rw [Has] at h ⊢;exact h
 | .tup ds,_,h=>by
  rw [Has] at h ⊢
  obtain ⟨a,xs,e,q,r⟩:=h
  exact ⟨a,xs,e,Az9N k w q,HasL.keep k w hw r⟩
 | .lst ds,_,h=>by
  rw [Has] at h ⊢
  obtain ⟨a,xs,e,q,r⟩:=h
  exact ⟨a,xs,e,q.keep k w hw,HasL.keep k w hw r⟩
 | .dct ks ds,_,h=>by
  rw [Has] at h ⊢
  obtain ⟨a,kvs,e,⟨o,q⟩,m,r⟩:=h
  refine ⟨a,kvs,e,⟨o,k _ _ q fun z=> ?_⟩,m,HasL.keep k w hw r⟩
  obtain ⟨o',e',m'⟩:=w a z
  rw [q] at e';cases e';exact m'
 | .exc _ _,_,h=>by
  rw [Has] at h ⊢
  obtain ⟨z,a,C,e,n,q⟩:=h
  refine ⟨z,a,C,e,n,k _ _ q fun z=> ?_⟩
  obtain ⟨o',e',m'⟩:=w a z
  rw [q] at e';cases e';exact m'
 | .obj _ _ ds,_,h=>by
  rw [Has] at h ⊢
  obtain ⟨a,C,dx,fs,e,n,q,nw,m,r⟩:=h
  refine ⟨a,C,dx,fs,e,n,k _ _ q nw,fun z=> ?_,m,HasL.keep k w hw r⟩
  rcases hw a z with z|z
  ·exact nw z
  ·rw [q] at z;cases z
theorem HasL.keep (k:Keep W H H') (w:WL W H) (hw:∀ b,W' b→W b∨H b=none):∀ {ds:List D} {xs:List V},HasL K W H ds xs→HasL K W' H' ds xs
 | [],_,h=>by rw [HasL] at h ⊢;exact h
 |d::ds,_,h=>by
  rw [HasL] at h ⊢
  obtain ⟨x,r,e,q,t⟩:=h
  exact ⟨x,r,e,Has.keep k w hw q,HasL.keep k w hw t⟩
end
theorem Has.same {d:D} {v:V} (h:Has K W H d v) (k:Same H H') (w:WL W H):Has K W H' d v:=Has.keep (Same.keep k) w (fun _ z=> .inl z) h
theorem HasL.same {d:List D} {v:List V} (h:HasL K W H d v) (k:Same H H') (w:WL W H):HasL K W H' d v:=HasL.keep (Same.keep k) w (fun _ z=> .inl z) h
theorem HasL.length:∀ {ds:List D} {xs:List V},HasL K W H ds xs→ds.length=xs.length
 | [],_,h=>by rw [HasL] at h;rw [h];rfl
 |d::ds,_,h=>by
  rw [HasL] at h
  obtain ⟨x,r,e,q,t⟩:=h
  rw [e,List.length_cons,List.length_cons,HasL.length t]
theorem HasL.get:∀ {ds:List D} {xs:List V} {i:Nat} {d:D},HasL K W H ds xs→ds[i]? =some d→∃ x,xs[i]? =some x∧Has K W H d x
 | [],_,_,_,_,e=>by simp at e
 |d::ds,_,0,_,h,e=>by
  rw [HasL] at h
  obtain ⟨x,r,rfl,q,t⟩:=h
  simp at e;subst e
  exact ⟨x,rfl,q⟩
 |d::ds,_,i+1,_,h,e=>by
  rw [HasL] at h
  obtain ⟨x,r,rfl,q,t⟩:=h
  obtain ⟨y,h1,h2⟩:=HasL.get (i:=i) t (by simpa using e)
  exact ⟨y,by simpa using h1,h2⟩
theorem HasL.at' {ds:List D} {xs:List V} {i:Nat} {x:V} (h:HasL K W H ds xs) (e:xs[i]? =some x):∃ d,ds[i]? =some d∧Has K W H d x:=by
 have hl:=h.length
 have hi:i<ds.length:=by rw [hl];exact (List.getElem?_eq_some_iff.mp e).1
 obtain ⟨y,h1,h2⟩:=h.get (List.getElem?_eq_getElem hi)
 rw [e] at h1;cases h1
 exact ⟨_,List.getElem?_eq_getElem hi,h2⟩
theorem HasL.nil:HasL K W H [] []:=by rw [HasL]
theorem HasL.cons {d:D} {ds:List D} {x:V} {xs:List V} (h:Has K W H d x) (t:HasL K W H ds xs):HasL K W H (d::ds) (x::xs):=by rw [HasL];exact ⟨x,xs,rfl,h,t⟩
theorem HasL.append:∀ {ds es:List D} {xs ys:List V},HasL K W H ds xs→HasL K W H es ys→HasL K W H (ds++es) (xs++ys)
 | [],_,_,_,h,t=>by rw [HasL] at h;subst h;exact t
 |d::ds,_,_,_,h,t=>by
  rw [HasL] at h
  obtain ⟨x,r,rfl,q,s⟩:=h
  exact HasL.cons q (HasL.append s t)
theorem HasL.take:∀ {ds:List D} {xs:List V} (n:Nat),HasL K W H ds xs→HasL K W H (ds.take n) (xs.take n)
 | [],_,n,h=>by rw [HasL] at h;subst h;simp [HasL]
 |d::ds,_,0,h=>by simp [HasL]
 |d::ds,_,n+1,h=>by
  rw [HasL] at h
  obtain ⟨x,r,rfl,q,s⟩:=h
  exact HasL.cons q (HasL.take n s)
theorem HasL.drop:∀ {ds:List D} {xs:List V} (n:Nat),HasL K W H ds xs→HasL K W H (ds.drop n) (xs.drop n)
 | [],_,n,h=>by rw [HasL] at h;subst h;simp [HasL]
 |d::ds,_,0,h=>h
 |d::ds,_,n+1,h=>by
  rw [HasL] at h
  obtain ⟨x,r,rfl,q,s⟩:=h
  exact HasL.drop n s
theorem HasL.snoc {ds:List D} {xs:List V} {d:D} {x:V} (h:HasL K W H ds xs) (t:Has K W H d x):HasL K W H (ds++ [d]) (xs++ [x]):=h.append (HasL.cons t HasL.nil)
theorem HasL.set:∀ {ds:List D} {xs:List V} (i:Nat) {d:D} {x:V},HasL K W H ds xs→Has K W H d x→HasL K W H (ds.set i d) (xs.set i x)
 | [],_,n,_,_,h,_=>by rw [HasL] at h;subst h;simp [HasL]
 |e::ds,_,0,_,_,h,t=>by
  rw [HasL] at h
  obtain ⟨y,r,rfl,q,s⟩:=h
  exact HasL.cons t s
 |e::ds,_,i+1,_,_,h,t=>by
  rw [HasL] at h
  obtain ⟨y,r,rfl,q,s⟩:=h
  exact HasL.cons q (HasL.set i s t)
theorem HasL.ints {ns:List Int}:HasL K W H (ns.map D.int) (ns.map V.int):=by
 induction ns with
 |nil=>exact HasL.nil
 |cons n ns ih=>exact HasL.cons (by rw [Has]) ih
end
structure FrOk (W₀:WS) (H₀:Hp) (W:WS) (H:Hp):Prop where
 ext:Same H₀ H
 sub:∀ b,W₀ b→W b
 wl:WL W H
 wl0:WL W₀ H₀
def SlotHas (K:PySem.W.Frag) (W₀:WS) (H₀:Hp) (W:WS) (H:Hp):S→V→Prop
 | .d x,v=>Has K W H x v
 | .o ds,v=>∃ a xs,v= .ref a∧W a∧H₀ a=none∧H a=some (.lst xs)∧HasL K W H ds xs
 | .q ks ds,v=>∃ a kvs,v= .ref a∧W a∧H₀ a=none∧H a=some (.dK kvs)∧kvs.map (·.1)=ks∧HasL K W H ds (kvs.map (·.2))
structure StHas (K:PySem.W.Frag) (W₀:WS) (H₀:Hp) (W:WS) (H:Hp) (σ:L2.St) (δ:DSt):Prop where
 fr:FrOk W₀ H₀ W H
 len:σ.length=δ.length
 at':∀ (i:Nat) (s:S),δ[i]? =some (some s)→∃ v,σ[i]? =some (some v)∧SlotHas K W₀ H₀ W H s v
 ap:∀ (i j:Nat) (s t:S) (a:Addr),i≠j→Ow s→Ow t→δ[i]? =some (some s)→δ[j]? =some (some t)→σ[i]? =some (some (.ref a))→σ[j]? ≠some (some (.ref a))
section
variable {K:PySem.W.Frag} {W₀ W:WS} {H₀ H H':Hp} {σ:L2.St} {δ:DSt}
theorem WL.same (w:WL W H) (k:Same H H'):WL W H':=fun b z=>let ⟨xs,e,m⟩:=w b z;⟨xs,k _ _ e,m⟩
theorem FrOk.same (f:FrOk W₀ H₀ W H) (k:Same H H'):FrOk W₀ H₀ W H':=⟨f.ext.trans k,f.sub,f.wl.same k,f.wl0⟩
theorem SlotHas.same {s:S} {v:V} (w:WL W H) (k:Same H H') (h:SlotHas K W₀ H₀ W H s v):SlotHas K W₀ H₀ W H' s v:=by
 cases s with
 |d x=>exact Has.same h k w
 |o ds=>
  obtain ⟨a,xs,e,h1,h2,h3,h4⟩:=h
  exact ⟨a,xs,e,h1,h2,k _ _ h3,h4.same k w⟩
 |q ks ds=>
  obtain ⟨a,xs,e,h1,h2,h3,h4,h5⟩:=h
  exact ⟨a,xs,e,h1,h2,k _ _ h3,h4,h5.same k w⟩
theorem owo (ds:List D):Ow (.o ds):=trivial
theorem owq (ks:List Key) (ds:List D):Ow (.q ks ds):=trivial
theorem SlotHas.mv {W':WS} {s:S} {v:V} (w:WL W H) (kk:Keep W H H') (hw:∀ b,W' b→W b∨H b=none) (hq:∀ b o,v= .ref b→W b→H₀ b=none→H b=some o→MutO o→W' b∧H' b=some o) (h:SlotHas K W₀ H₀ W H s v):SlotHas K W₀ H₀ W' H' s v:=by
 cases s with
 |d x=>exact Has.keep kk w hw h
 |o ds=>
  obtain ⟨a,xs,e,h1,h2,h3,h4⟩:=h
  obtain ⟨g1,g2⟩:=hq a _ e h1 h2 h3 trivial
  exact ⟨a,xs,e,g1,h2,g2,HasL.keep kk w hw h4⟩
 |q ks ds=>
  obtain ⟨a,xs,e,h1,h2,h3,h4,h5⟩:=h
  obtain ⟨g1,g2⟩:=hq a _ e h1 h2 h3 trivial
  exact ⟨a,xs,e,g1,h2,g2,h4,HasL.keep kk w hw h5⟩
theorem SlotHas.own {s:S} {v:V} (h:SlotHas K W₀ H₀ W H s v) (o:Ow s):∃ a ob,v= .ref a∧W a∧H₀ a=none∧H a=some ob∧MutO ob:=by
 cases s with
 |d x=>exact o.elim
 |o ds=>
  obtain ⟨a,xs,e,h1,h2,h3,h4⟩:=h
  exact ⟨a,_,e,h1,h2,h3,trivial⟩
 |q ks ds=>
  obtain ⟨a,xs,e,h1,h2,h3,h4,h5⟩:=h
  exact ⟨a,_,e,h1,h2,h3,trivial⟩
theorem StHas.same (h:StHas K W₀ H₀ W H σ δ) (k:Same H H'):StHas K W₀ H₀ W H' σ δ:=
 ⟨h.fr.same k,h.len,fun i s e=>let ⟨v,h1,h2⟩:=h.at' i s e;⟨v,h1,h2.same h.fr.wl k⟩,h.ap⟩
theorem StHas.set {i:Nat} {x:D} {v:V} (h:StHas K W₀ H₀ W H σ δ) (q:Has K W H x v):StHas K W₀ H₀ W H (σ.set i (some v)) (δ.set i (some (.d x))):=by
 refine ⟨h.fr,by simp [h.len],fun j s e=> ?_,fun j k s1 s2 a hjk os ot e1 e2 e3 e4=> ?_⟩
 ·by_cases hj:i=j
  ·subst hj
   rw [List.getElem?_set_self'] at e ⊢
   cases q':δ[i]? with
   |none=>rw [q'] at e;cases e
   |some z=>
    rw [q'] at e
    have e':some (S.d x)=some s:=Option.some.inj e
    cases e'
    have hi:i<σ.length:=by rw [h.len];exact (List.getElem?_eq_some_iff.mp q').1
    exact ⟨v,by rw [List.getElem?_eq_getElem hi];rfl,q⟩
  ·rw [List.getElem?_set_ne hj] at e ⊢
   exact h.at' j s e
 ·have hj:i≠j:=by
   rintro rfl
   rw [List.getElem?_set_self'] at e1
   cases q':δ[i]? with
   |none=>rw [q'] at e1;cases e1
   |some z=>rw [q'] at e1;cases e1;exact os
  have hk:i≠k:=by
   rintro rfl
   rw [List.getElem?_set_self'] at e2
   cases q':δ[i]? with
   |none=>rw [q'] at e2;cases e2
   |some z=>rw [q'] at e2;cases e2;exact ot
  rw [List.getElem?_set_ne hj] at e1 e3
  rw [List.getElem?_set_ne hk] at e2 e4
  exact h.ap j k s1 s2 a hjk os ot e1 e2 e3 e4
theorem StHas.ownG {W':WS} {i:Nat} {sl:S} {ob:HO} {a:Addr} (h:StHas K W₀ H₀ W H σ δ) (k:Same H H') (ha:H a=none) (ha':H' a=some ob) (mo:MutO ob) (q:SlotHas K W₀ H₀ (fun b=>W b∨b=a) H' sl (.ref a)):
  StHas K W₀ H₀ (fun b=>W b∨b=a) H' (σ.set i (some (.ref a))) (δ.set i (some sl)):=by
 have hw:∀ b,(W b∨b=a)→W b∨H b=none:=fun b z=>z.elim .inl fun z=> .inr (by rw [z];exact ha)
 have kk:Keep W H H':=Same.keep k
 have fr':FrOk W₀ H₀ (fun b=>W b∨b=a) H':=⟨h.fr.ext.trans k,fun b z=> .inl (h.fr.sub b z),fun b z=>z.elim (h.fr.wl.same k b) fun z=>by rw [z];exact ⟨ob,ha',mo⟩,h.fr.wl0⟩
 have slot:∀ {s:S} {v:V},SlotHas K W₀ H₀ W H s v→SlotHas K W₀ H₀ (fun b=>W b∨b=a) H' s v:=fun {s v} z=>z.mv h.fr.wl kk hw fun b o e h1 h2 h3 h4=>⟨.inl h1,k _ _ h3⟩
 have old:∀ (j:Nat) (t:S),Ow t→δ[j]? =some (some t)→σ[j]? ≠some (some (.ref a)):=fun j t ot e z=>by
  obtain ⟨v,h1,h2⟩:=h.at' j _ e
  obtain ⟨b,o,e',_,_,h3,_⟩:=h2.own ot
  rw [h1] at z
  cases z
  cases e'
  rw [ha] at h3;cases h3
 refine ⟨fr',by simp [h.len],fun j s e=> ?_,fun j l s1 s2 b hjl os ot e1 e2 e3 e4=> ?_⟩
 ·by_cases hj:i=j
  ·subst hj
   rw [List.getElem?_set_self'] at e ⊢
   cases q':δ[i]? with
   |none=>rw [q'] at e;cases e
   |some z=>
    rw [q'] at e
    have e':some sl=some s:=Option.some.inj e
    cases e'
    have hi:i<σ.length:=by rw [h.len];exact (List.getElem?_eq_some_iff.mp q').1
    exact ⟨.ref a,by rw [List.getElem?_eq_getElem hi];rfl,q⟩
  ·rw [List.getElem?_set_ne hj] at e ⊢
   obtain ⟨v,h1,h2⟩:=h.at' j s e
   exact ⟨v,h1,slot h2⟩
 ·have get:∀ m:Nat,m≠i→∀ {α:Type} (l:List α) (z:α),(l.set i z)[m]? =l[m]? :=fun m hm α l z=>List.getElem?_set_ne (Ne.symm hm)
  by_cases hj:j=i
  ·have hl:l≠i:=fun z=>hjl (hj.trans z.symm)
   rw [get l hl] at e2 e4
   have hs:(σ.set i (some (V.ref a)))[j]? =some (some (V.ref a))∨(σ.set i (some (V.ref a)))[j]? =none:=by
    rw [hj,List.getElem?_set_self']
    cases σ[i]? <;>simp
   rcases hs with hs|hs
   ·rw [hs] at e3;cases e3
    exact old l s2 ot e2 e4
   ·rw [hs] at e3;cases e3
  ·rw [get j hj] at e1 e3
   by_cases hl:l=i
   ·have hs:(σ.set i (some (V.ref a)))[l]? =some (some (V.ref a))∨(σ.set i (some (V.ref a)))[l]? =none:=by
     rw [hl,List.getElem?_set_self']
     cases σ[i]? <;>simp
    rcases hs with hs|hs
    ·rw [hs] at e4;cases e4
     exact old j s1 os e1 e3
    ·rw [hs] at e4;cases e4
   ·rw [get l hl] at e2 e4
    exact h.ap j l s1 s2 b hjl os ot e1 e2 e3 e4
theorem StHas.own {i:Nat} {ds:List D} {a:Addr} {xs:List V} (h:StHas K W₀ H₀ W H σ δ) (ha:H a=none) (q:HasL K W H ds xs):
  StHas K W₀ H₀ (fun b=>W b∨b=a) (upd H a (.lst xs)) (σ.set i (some (.ref a))) (δ.set i (some (.o ds))):=by
 have k:Same H (upd H a (.lst xs)):=fun b o e=>by rw [upd_ne (Az0J e ha)];exact e
 exact h.ownG (W':=W) k ha Az0L trivial ⟨a,xs,rfl, .inr rfl,Same.free h.fr.ext ha,Az0L,HasL.keep (Same.keep k) h.fr.wl (fun b z=>z.elim .inl fun z=> .inr (by rw [z];exact ha)) q⟩
theorem StHas.ownQ {i:Nat} {ks:List Key} {ds:List D} {a:Addr} {kvs:List (Key×V)} (h:StHas K W₀ H₀ W H σ δ) (ha:H a=none) (e:kvs.map (·.1)=ks) (q:HasL K W H ds (kvs.map (·.2))):
  StHas K W₀ H₀ (fun b=>W b∨b=a) (upd H a (.dK kvs)) (σ.set i (some (.ref a))) (δ.set i (some (.q ks ds))):=by
 have k:Same H (upd H a (.dK kvs)):=fun b o e=>by rw [upd_ne (Az0J e ha)];exact e
 exact h.ownG (W':=W) k ha Az0L trivial ⟨a,kvs,rfl, .inr rfl,Same.free h.fr.ext ha,Az0L,e,HasL.keep (Same.keep k) h.fr.wl (fun b z=>z.elim .inl fun z=> .inr (by rw [z];exact ha)) q⟩
theorem StHas.changeG {i:Nat} {so sl:S} {ob:HO} {a:Addr} (h:StHas K W₀ H₀ W H σ δ) (oo:Ow so) (hi:δ[i]? =some (some so)) (hs:σ[i]? =some (some (.ref a))) (mo:MutO ob) (hW:W a) (q:H₀ a=none→Keep W H (upd H a ob)→SlotHas K W₀ H₀ W (upd H a ob) sl (.ref a)) (ol:Ow sl):
  StHas K W₀ H₀ W (upd H a ob) σ (δ.set i (some sl)):=by
 have kk:Keep W H (upd H a ob):=fun b o e n=>by
  rw [upd_ne (fun z=>n (by rw [z];exact hW))];exact e
 have hw:∀ b,W b→W b∨H b=none:=fun b z=> .inl z
 obtain ⟨v,h1,h2⟩:=h.at' i _ hi
 obtain ⟨b,o1,e',_,h0,h3,_⟩:=h2.own oo
 rw [hs] at h1
 cases h1
 cases e'
 have fr':FrOk W₀ H₀ W (upd H a ob):=⟨fun b o e=>by rw [upd_ne (Az0J e h0)];exact h.fr.ext _ _ e,h.fr.sub,fun b z=>by
  by_cases hb:b=a
  ·rw [hb];exact ⟨ob,Az0L,mo⟩
  ·rw [upd_ne hb];exact h.fr.wl b z,h.fr.wl0⟩
 have hl:i<δ.length:=(List.getElem?_eq_some_iff.mp hi).1
 refine ⟨fr',by simp [h.len],fun j s e=> ?_,fun j l s1 s2 b hjl os ot e1 e2 e3 e4=> ?_⟩
 ·by_cases hj:i=j
  ·subst hj
   rw [List.getElem?_set_self hl] at e
   cases e
   exact ⟨.ref a,hs,q h0 kk⟩
  ·rw [List.getElem?_set_ne hj] at e
   obtain ⟨v,h1,h2⟩:=h.at' j s e
   refine ⟨v,h1,?_⟩
   cases s with
   |d x=>exact Has.keep kk h.fr.wl hw h2
   |o ds=>exact h2.mv h.fr.wl kk hw fun b o e1 h1' _ h3' _=>⟨h1',by
     have hb:b≠a:=fun z=>by
      subst z;subst e1
      exact h.ap i j _ _ b hj oo (owo ds) hi e hs h1
     rw [upd_ne hb];exact h3'⟩
   |q ks ds=>exact h2.mv h.fr.wl kk hw fun b o e1 h1' _ h3' _=>⟨h1',by
     have hb:b≠a:=fun z=>by
      subst z;subst e1
      exact h.ap i j _ _ b hj oo (owq ks ds) hi e hs h1
     rw [upd_ne hb];exact h3'⟩
 ·have own:∀ (m:Nat) (t:S),Ow t→(δ.set i (some sl))[m]? =some (some t)→∃ t',Ow t'∧δ[m]? =some (some t'):=fun m t ot e=>by
   by_cases hm:i=m
   ·subst hm;exact ⟨so,oo,hi⟩
   ·rw [List.getElem?_set_ne hm] at e;exact ⟨t,ot,e⟩
  obtain ⟨x1,o1,g1⟩:=own j s1 os e1
  obtain ⟨x2,o2,g2⟩:=own l s2 ot e2
  exact h.ap j l x1 x2 b hjl o1 o2 g1 g2 e3 e4
theorem StHas.change {i:Nat} {ds es:List D} {a:Addr} {xs ys:List V} (h:StHas K W₀ H₀ W H σ δ) (hi:δ[i]? =some (some (.o ds))) (hs:σ[i]? =some (some (.ref a))) (ha:H a=some (.lst xs)) (hW:W a) (q:HasL K W H es ys):
  StHas K W₀ H₀ W (upd H a (.lst ys)) σ (δ.set i (some (.o es))):=
 h.changeG (owo ds) hi hs trivial hW (fun h0 kk=>⟨a,ys,rfl,hW,h0,Az0L,HasL.keep kk h.fr.wl (fun b z=> .inl z) q⟩) (owo es)
theorem StHas.changeQ {i:Nat} {ks ks':List Key} {ds es:List D} {a:Addr} {kvs':List (Key×V)} (h:StHas K W₀ H₀ W H σ δ) (hi:δ[i]? =some (some (.q ks ds))) (hs:σ[i]? =some (some (.ref a))) (hW:W a) (e:kvs'.map (·.1)=ks') (q:HasL K W H es (kvs'.map (·.2))):
  StHas K W₀ H₀ W (upd H a (.dK kvs')) σ (δ.set i (some (.q ks' es))):=
 h.changeG (owq ks ds) hi hs trivial hW (fun h0 kk=>⟨a,kvs',rfl,hW,h0,Az0L,e,HasL.keep kk h.fr.wl (fun b z=> .inl z) q⟩) (owq ks' es)
theorem StHas.freezeG {i:Nat} {so:S} {x:D} {a:Addr} (h:StHas K W₀ H₀ W H σ δ) (oo:Ow so) (hi:δ[i]? =some (some so)) (hs:σ[i]? =some (some (.ref a)))
  (hd:Has K (fun b=>W b∧b≠a) H x (.ref a)):StHas K W₀ H₀ (fun b=>W b∧b≠a) H σ (δ.set i (some (.d x))):=by
 obtain ⟨v,h1,h2⟩:=h.at' i _ hi
 obtain ⟨b,o1,e',hW,h0,h3,_⟩:=h2.own oo
 rw [hs] at h1
 cases h1
 cases e'
 have kk:Keep W H H:=fun _ _ e _=>e
 have hw:∀ b,(W b∧b≠a)→W b∨H b=none:=fun b z=> .inl z.1
 have hl:i<δ.length:=(List.getElem?_eq_some_iff.mp hi).1
 refine ⟨⟨h.fr.ext,fun b z=>⟨h.fr.sub b z,fun e=> ?_⟩,fun b z=>h.fr.wl b z.1,h.fr.wl0⟩,by simp [h.len],fun j s e=> ?_,fun j l s1 s2 b hjl os ot e1 e2 e3 e4=> ?_⟩
 ·subst e
  obtain ⟨ys,z',_⟩:=h.fr.wl0 _ z
  rw [h0] at z';cases z'
 ·by_cases hj:i=j
  ·subst hj
   rw [List.getElem?_set_self hl] at e
   cases e
   exact ⟨.ref a,hs,hd⟩
  ·rw [List.getElem?_set_ne hj] at e
   obtain ⟨v,g1,g2⟩:=h.at' j s e
   refine ⟨v,g1,?_⟩
   by_cases ow:Ow s
   ·exact g2.mv h.fr.wl kk hw fun b o e1 h1' _ h3' _=>⟨⟨h1',fun z=>by subst z;subst e1;exact h.ap i j _ _ b hj oo ow hi e hs g1⟩,h3'⟩
   ·cases s with
    |d x=>exact Has.keep kk h.fr.wl hw g2
    |_=>exact (ow trivial).elim
 ·have hj:i≠j:=by
   rintro rfl
   rw [List.getElem?_set_self hl] at e1;cases e1;exact os
  have hk:i≠l:=by
   rintro rfl
   rw [List.getElem?_set_self hl] at e2;cases e2;exact ot
  rw [List.getElem?_set_ne hj] at e1
  rw [List.getElem?_set_ne hk] at e2
  exact h.ap j l s1 s2 b hjl os ot e1 e2 e3 e4
theorem StHas.freezeH {i:Nat} {so:S} {x:D} {a:Addr} {ob:HO} (h:StHas K W₀ H₀ W H σ δ) (oo:Ow so) (hi:δ[i]? =some (some so)) (hs:σ[i]? =some (some (.ref a)))
  (hd:Has K (fun b=>W b∧b≠a) (upd H a ob) x (.ref a)):StHas K W₀ H₀ (fun b=>W b∧b≠a) (upd H a ob) σ (δ.set i (some (.d x))):=by
 obtain ⟨v,h1,h2⟩:=h.at' i _ hi
 obtain ⟨b,o1,e',hW,h0,h3,_⟩:=h2.own oo
 rw [hs] at h1
 cases h1
 cases e'
 have kk:Keep W H (upd H a ob):=fun b o e n=>by rw [upd_ne (fun z=>n (by rw [z];exact hW))];exact e
 have hw:∀ b,(W b∧b≠a)→W b∨H b=none:=fun b z=> .inl z.1
 have hl:i<δ.length:=(List.getElem?_eq_some_iff.mp hi).1
 refine ⟨⟨fun b o e=>by rw [upd_ne (Az0J e h0)];exact h.fr.ext _ _ e,fun b z=>⟨h.fr.sub b z,fun e=> ?_⟩,fun b z=>by rw [upd_ne z.2];exact h.fr.wl b z.1,h.fr.wl0⟩,by simp [h.len],fun j s e=> ?_,fun j l s1 s2 b hjl os ot e1 e2 e3 e4=> ?_⟩
 ·subst e
  obtain ⟨ys,z',_⟩:=h.fr.wl0 _ z
  rw [h0] at z';cases z'
 ·by_cases hj:i=j
  ·subst hj
   rw [List.getElem?_set_self hl] at e
   cases e
   exact ⟨.ref a,hs,hd⟩
  ·rw [List.getElem?_set_ne hj] at e
   obtain ⟨v,g1,g2⟩:=h.at' j s e
   refine ⟨v,g1,?_⟩
   by_cases ow:Ow s
   ·exact g2.mv h.fr.wl kk hw fun b o e1 h1' _ h3' _=>(fun hba=>⟨⟨h1',hba⟩,by rw [upd_ne hba];exact h3'⟩) (fun z=>by subst z;subst e1;exact h.ap i j _ _ b hj oo ow hi e hs g1)
   ·cases s with
    |d x=>exact Has.keep kk h.fr.wl hw g2
    |_=>exact (ow trivial).elim
 ·have hj:i≠j:=by
   rintro rfl
   rw [List.getElem?_set_self hl] at e1;cases e1;exact os
  have hk:i≠l:=by
   rintro rfl
   rw [List.getElem?_set_self hl] at e2;cases e2;exact ot
  rw [List.getElem?_set_ne hj] at e1
  rw [List.getElem?_set_ne hk] at e2
  exact h.ap j l s1 s2 b hjl os ot e1 e2 e3 e4
end
abbrev XW:=Str→List D→Hp→Prop
section
variable (K:PySem.W.Frag) (xw:XW)
def RE (W:WS) (H:Hp) (r:Res D) (Q:VK):Prop:=match r with
 | .ok d=>∀ v H',Same H H'→Has K W H' d v→Q v H'
 | .ex c fs=>∀ H',Same H H'→xw c fs H'
 | .stuck=>False
def HasT (W:WS) (H:Hp) (d:D) (v:V):Prop:=Has K W H d v∨∃ ds a xs,d= .lst ds∧v= .ref a∧H a=some (.lst xs)∧HasL K W H ds xs
def RP (W:WS) (H:Hp) (r:Res D) (Q:VK):Prop:=match r with
 | .ok d=>∀ v H',Same H H'→HasT K W H' d v→Q v H'
 | .ex c fs=>∀ H',Same H H'→xw c fs H'
 | .stuck=>False
def RF (W:WS) (H:Hp) (r:Res (List D)) (Q:VK):Prop:=match r with
 | .ok ds=>∀ a xs H1,Same H H1→H1 a=none→HasL K W H1 ds xs→Q (.ref a) (upd H1 a (.lst xs))
 | .ex c fs=>∀ H',Same H H'→xw c fs H'
 | .stuck=>False
def RT (H:Hp) (r:Res Bool) (Q:Bool→Hp→Prop):Prop:=match r with
 | .ok b=>∀ H',Same H H'→Q b H'
 | .ex c fs=>∀ H',Same H H'→xw c fs H'
 | .stuck=>False
def RA (W:WS) (H:Hp) (r:Res (List D)) (Q:List V→Hp→Prop):Prop:=match r with
 | .ok ds=>∀ vs H',Same H H'→HasL K W H' ds vs→Q vs H'
 | .ex c fs=>∀ H',Same H H'→xw c fs H'
 | .stuck=>False
def tDE (f:DSt→Res D):TE:=fun σ H Q=>∃ W₀ H₀ W δ,StHas K W₀ H₀ W H σ δ∧RE K xw W H (f δ) Q
def tDP (f:DSt→Res D):TE:=fun σ H Q=>∃ W₀ H₀ W δ,StHas K W₀ H₀ W H σ δ∧RP K xw W H (f δ) Q
def tDF (f:DSt→Res (List D)):TE:=fun σ H Q=>∃ W₀ H₀ W δ,StHas K W₀ H₀ W H σ δ∧RF K xw W H (f δ) Q
def tDT (f:DSt→Res Bool):TT:=fun σ H Q=>∃ W₀ H₀ W δ,StHas K W₀ H₀ W H σ δ∧RT xw H (f δ) Q
def tDA (f:DSt→Res (List D)):TA:=fun σ H Q=>∃ W₀ H₀ W δ,StHas K W₀ H₀ W H σ δ∧RA K xw W H (f δ) Q
end
def DE (X:Cx) (xw:XW) (e:Expr) (f:DSt→Res D):Prop:=PE X e (tDE X.K xw f)
def DP (X:Cx) (xw:XW) (e:Expr) (f:DSt→Res D):Prop:=PE X e (tDP X.K xw f)
def DF (X:Cx) (xw:XW) (e:Expr) (f:DSt→Res (List D)):Prop:=PE X e (tDF X.K xw f)
def DT (X:Cx) (xw:XW) (e:Expr) (f:DSt→Res Bool):Prop:=PT X e (tDT X.K xw f)
def DW (X:Cx) (xw:XW) (e:Expr) (f:DSt→Res Bool):Prop:=PW X e (tDT X.K xw f)
def DA (X:Cx) (xw:XW) (es:List Expr) (f:DSt→Res (List D)):Prop:=PA X es (tDA X.K xw f)
theorem PE.weak {X:Cx} {e:Expr} {t t':TE} (h:PE X e t) (k:∀ σ H Q,t' σ H Q→t σ H Q):PE X e t':=fun pins s σ H Q I q=>h pins s σ H Q I (k σ H Q q)
theorem PT.weak {X:Cx} {e:Expr} {t t':TT} (h:PT X e t) (k:∀ σ H Q,t' σ H Q→t σ H Q):PT X e t':=fun pins s σ H Q I q=>h pins s σ H Q I (k σ H Q q)
theorem PW.weak {X:Cx} {e:Expr} {t t':TT} (h:PW X e t) (k:∀ σ H Q,t' σ H Q→t σ H Q):PW X e t':=fun wh pins s σ H Q I q=>h wh pins s σ H Q I (k σ H Q q)
theorem PA.weak {X:Cx} {e:List Expr} {t t':TA} (h:PA X e t) (k:∀ σ H Q,t' σ H Q→t σ H Q):PA X e t':=fun ps pins s σ H Q I q=>h ps pins s σ H Q I (k σ H Q q)
section
variable {K:PySem.W.Frag} {xw:XW} {W:WS} {H H':Hp} {Q:VK}
theorem RE.same {r:Res D} (h:RE K xw W H r Q) (k:Same H H'):RE K xw W H' r Q:=by
 cases r with
 |ok d=>exact fun v H2 k2 q=>h v H2 (k.trans k2) q
 |ex c fs=>exact fun H2 k2=>h H2 (k.trans k2)
 |stuck=>exact h
theorem RF.same {r:Res (List D)} (h:RF K xw W H r Q) (k:Same H H'):RF K xw W H' r Q:=by
 cases r with
 |ok d=>exact fun a xs H1 k1 n q=>h a xs H1 (k.trans k1) n q
 |ex c fs=>exact fun H2 k2=>h H2 (k.trans k2)
 |stuck=>exact h
theorem RT.same {r:Res Bool} {Q:Bool→Hp→Prop} (h:RT xw H r Q) (k:Same H H'):RT xw H' r Q:=by
 cases r with
 |ok d=>exact fun H2 k2=>h H2 (k.trans k2)
 |ex c fs=>exact fun H2 k2=>h H2 (k.trans k2)
 |stuck=>exact h
theorem RA.same {r:Res (List D)} {Q:List V→Hp→Prop} (h:RA K xw W H r Q) (k:Same H H'):RA K xw W H' r Q:=by
 cases r with
 |ok d=>exact fun v H2 k2 q=>h v H2 (k.trans k2) q
 |ex c fs=>exact fun H2 k2=>h H2 (k.trans k2)
 |stuck=>exact h
theorem HasT.same {d:D} {v:V} (h:HasT K W H d v) (k:Same H H') (w:WL W H):HasT K W H' d v:=by
 rcases h with h|⟨ds,a,xs,h1,h2,h3,h4⟩
 ·exact .inl (h.same k w)
 ·exact .inr ⟨ds,a,xs,h1,h2,k _ _ h3,h4.same k w⟩
theorem HasT.int {i:Int} {v:V} (h:HasT K W H (.int i) v):v= .int i:=by
 rcases h with h|⟨ds,a,xs,h1,_⟩
 ·rw [Has] at h;exact h
 ·cases h1
theorem HasT.bl {i:Bool} {v:V} (h:HasT K W H (.bl i) v):v= .bl i:=by
 rcases h with h|⟨ds,a,xs,h1,_⟩
 ·rw [Has] at h;exact h
 ·cases h1
theorem HasT.str {i:Str} {v:V} (h:HasT K W H (.str i) v):v= .str i:=by
 rcases h with h|⟨ds,a,xs,h1,_⟩
 ·rw [Has] at h;exact h
 ·cases h1
theorem HasT.non {v:V} (h:HasT K W H .non v):v= .non:=by
 rcases h with h|⟨ds,a,xs,h1,_⟩
 ·rw [Has] at h;exact h
 ·cases h1
theorem HasT.tup {ds:List D} {v:V} (h:HasT K W H (.tup ds) v):∃ a xs,v= .ref a∧SqT K H a xs∧HasL K W H ds xs:=by
 rcases h with h|⟨ds,a,xs,h1,_⟩
 ·rw [Has] at h;exact h
 ·cases h1
theorem HasT.lst {ds:List D} {v:V} (h:HasT K W H (.lst ds) v):∃ a xs,v= .ref a∧SqL K H a xs∧HasL K W H ds xs:=by
 rcases h with h|⟨ds,a,xs,h1,h2,h3,h4⟩
 ·rw [Has] at h
  obtain ⟨a,xs,e,q,r⟩:=h
  exact ⟨a,xs,e,q.sq,r⟩
 ·cases h1
  exact ⟨a,xs,h2, .of h3,h4⟩
end
end L3
namespace L3
open PySem PySem.Spec PyProof.Rows L2
def clOf (scope:Scope) (env:Env):List (Str×Addr):=scope.names.foldl (fun cs y=>if y.2== .free then (match env.cells.lookup y.1 with|some a=>(y.1,a)::cs|none=>cs) else cs) []
theorem Dz0D {env:Env} (names:List (Str×NameKind)):∀ (cs:List (Str×Addr)),(∀ y∈names,y.2= .free→∃ c,env.cells.lookup y.1=some c)→
  (forIn names cs (fun (y:Str×NameKind) (r:List (Str×Addr))=>(do
   if (y.2==NameKind.free)=true then do
    let a ←cellOf env y.1
    pure (ForInStep.yield ((y.1,a)::r))
   else pure (ForInStep.yield r):Sem (ForInStep (List (Str×Addr))))))=(pure (names.foldl (fun cs y=>if y.2== .free then (match env.cells.lookup y.1 with|some a=>(y.1,a)::cs|none=>cs) else cs) cs):Sem _):=by
 induction names with
 |nil=>intro cs _;rfl
 |cons y r ih=>
  intro cs h
  have h':∀ y∈r,y.2= .free→∃ c,env.cells.lookup y.1=some c:=fun z hz=>h z (List.mem_cons_of_mem _ hz)
  rw [List.forIn_cons,List.foldl_cons]
  by_cases hk:y.2= .free
  ·obtain ⟨c,hc⟩:=h y List.mem_cons_self hk
   have hb:(y.2==NameKind.free)=true:=by rw [hk];rfl
   simp only [hb,if_true,cellOf,hc,pure_bind]
   exact ih _ h'
  ·have hb:(y.2==NameKind.free)=false:=by simpa using hk
   simp only [hb,Bool.false_eq_true,if_false,pure_bind]
   exact ih _ h'
theorem Cz3C {scope:Scope} {env:Env} (h:∀ y∈scope.names,y.2= .free→∃ c,env.cells.lookup y.1=some c):closureFor scope env=pure (clOf scope env):=by
 unfold closureFor clOf
 exact (congrArg (fun z=>z >>= fun r=>pure r) (Dz0D scope.names [] h)).trans (by simp)
theorem Cz5X {env:Env} (names:List (Str×NameKind)):∀ (cs:List (Str×Addr)),(∀ x c,cs.lookup x=some c→env.cells.lookup x=some c)→
  ∀ x c,(names.foldl (fun cs y=>if y.2== .free then (match env.cells.lookup y.1 with|some a=>(y.1,a)::cs|none=>cs) else cs) cs).lookup x=some c→env.cells.lookup x=some c:=by
 induction names with
 |nil=>intro cs h;exact h
 |cons y r ih=>
  intro cs h
  rw [List.foldl_cons]
  refine ih _ ?_
  split
  ·split
   ·rename_i a ha
    intro x c e
    rw [List.lookup_cons] at e
    by_cases hx:x=y.1
    ·have:(x==y.1)=true:=by rw [hx];simp
     rw [this] at e
     have e':a=c:=Option.some.inj e
     rw [hx,ha,e']
    ·have:(x==y.1)=false:=by simpa using hx
     rw [this] at e
     exact h x c e
   ·exact h
  ·exact h
theorem Bz9B {env:Env} (names:List (Str×NameKind)):∀ (cs:List (Str×Addr)) (x:Str),((∃ c,cs.lookup x=some c)∨((x,NameKind.free)∈names∧∃ c,env.cells.lookup x=some c))→
  ∃ c,(names.foldl (fun cs y=>if y.2== .free then (match env.cells.lookup y.1 with|some a=>(y.1,a)::cs|none=>cs) else cs) cs).lookup x=some c:=by
 induction names with
 |nil=>
  intro cs x h
  rcases h with h|⟨h,_⟩
  ·exact h
  ·simp at h
 |cons y r ih=>
  intro cs x h
  rw [List.foldl_cons]
  refine ih _ x ?_
  rcases h with ⟨c,h⟩|⟨h,c,hc⟩
  ·left
   split
   ·split
    ·rename_i a ha
     rw [List.lookup_cons]
     cases hx:x==y.1 with
     |true=>exact ⟨a,rfl⟩
     |false=>exact ⟨c,h⟩
    ·exact ⟨c,h⟩
   ·exact ⟨c,h⟩
  ·rcases List.mem_cons.mp h with h|h
   ·left
    subst h
    simp only [beq_self_eq_true,if_true,hc]
    exact ⟨c,by rw [List.lookup_cons];simp⟩
   ·exact .inr ⟨h,c,hc⟩
theorem Az7G {g:Str→NameKind→NameKind}:∀ (l:List (Str×NameKind)) (x:Str),(l.map fun y=>(y.1,g y.1 y.2)).lookup x=(l.lookup x).map (g x)
 | [],_=>rfl
 |y::r,x=>by
  rw [List.map_cons,List.lookup_cons,List.lookup_cons]
  cases hx:x==y.1 with
  |true=>
   have:x=y.1:=by simpa using hx
   rw [this];rfl
  |false=>exact Az7G r x
theorem Az3E (scope:Scope) (env:Env) (x:Str):(relabel scope env).names.lookup x=(scope.names.lookup x).map fun k=>if (k== .free&&env.scope.kind== .function&&env.kindOf x==some .cell) then .cell else k:=by
 have e:(relabel scope env).names=scope.names.map fun y=>(y.1,(fun n k=>if (k==NameKind.free&&env.scope.kind== .function&&env.kindOf n==some .cell) then NameKind.cell else k) y.1 y.2):=by
  unfold relabel
  refine List.map_congr_left fun y _=> ?_
  obtain ⟨n,k⟩:=y
  dsimp only
  split<;>rfl
 rw [e]
 exact Az7G (g:=fun n k=>if (k==NameKind.free&&env.scope.kind== .function&&env.kindOf n==some .cell) then NameKind.cell else k) scope.names x
theorem Cz5Y {env:Env} (names:List (Str×NameKind)):∀ (cs:List (Str×Addr)) (x:Str) (c:Addr),(names.foldl (fun cs y=>if y.2== .free then (match env.cells.lookup y.1 with|some a=>(y.1,a)::cs|none=>cs) else cs) cs).lookup x=some c→cs.lookup x=some c∨(x,NameKind.free)∈names:=by
 induction names with
 |nil=>intro cs x c h;exact .inl h
 |cons y r ih=>
  intro cs x c h
  rw [List.foldl_cons] at h
  rcases ih _ x c h with h|h
  ·by_cases hf:y.2= .free
   ·by_cases hx:x=y.1
    ·right;subst hx;rw [←hf];exact List.mem_cons_self
    ·left
     have hb:(y.2==NameKind.free)=true:=by rw [hf];rfl
     have hxb:(x==y.1)=false:=by simpa using hx
     simp only [hb,if_true] at h
     split at h
     ·rw [List.lookup_cons,hxb] at h;exact h
     ·exact h
   ·left
    have hb:(y.2==NameKind.free)=false:=by simpa using hf
    simp only [hb,Bool.false_eq_true,if_false] at h
    exact h
  ·exact .inr (List.mem_cons_of_mem _ h)
theorem cf_or:∀ (names:List (Str×NameKind)) (n:Nat) (acc:List (Str×Addr)) (x:Str) (c:Addr),(cellsFrom n names acc).lookup x=some c→acc.lookup x=some c∨(n≤c∧(x,NameKind.cell)∈names)
 | [],_,_,_,_,h=> .inl h
 |(y,k)::r,n,acc,x,c,h=>by
  unfold cellsFrom at h
  by_cases hk:(k== .cell)=true
  ·rw [if_pos hk] at h
   have hk':k= .cell:=by simpa using hk
   rcases cf_or r (n+1) _ x c h with h|⟨h1,h2⟩
   ·rw [List.lookup_cons] at h
    cases hx:x==y with
    |true=>
     rw [hx] at h
     have e:n=c:=Option.some.inj h
     have ex:x=y:=by simpa using hx
     subst ex;subst hk'
     exact .inr ⟨by omega,List.mem_cons_self⟩
    |false=>rw [hx] at h;exact .inl h
   ·exact .inr ⟨by omega,List.mem_cons_of_mem _ h2⟩
  ·rw [if_neg hk] at h
   rcases cf_or r n acc x c h with h|⟨h1,h2⟩
   ·exact .inl h
   ·exact .inr ⟨h1,List.mem_cons_of_mem _ h2⟩
theorem cf_old:∀ (names:List (Str×NameKind)) (n:Nat) (acc:List (Str×Addr)) (x:Str),(x,NameKind.cell)∉names→(cellsFrom n names acc).lookup x=acc.lookup x
 | [],_,_,_,_=>rfl
 |(y,k)::r,n,acc,x,h=>by
  have hr:(x,NameKind.cell)∉r:=fun z=>h (List.mem_cons_of_mem _ z)
  unfold cellsFrom
  by_cases hk:(k== .cell)=true
  ·rw [if_pos hk,cf_old r (n+1) _ x hr,List.lookup_cons]
   have hk':k= .cell:=by simpa using hk
   have hx:(x==y)=false:=by
    cases hx:x==y with
    |false=>rfl
    |true=>
     have ex:x=y:=by simpa using hx
     subst ex;subst hk'
     exact absurd List.mem_cons_self h
   rw [hx]
  ·rw [if_neg hk];exact cf_old r n acc x hr
theorem cf_inj:∀ (names:List (Str×NameKind)) (n:Nat) (acc:List (Str×Addr)),(∀ x y c,acc.lookup x=some c→acc.lookup y=some c→x=y)→(∀ x c,acc.lookup x=some c→c<n)→
  ∀ x y c,(cellsFrom n names acc).lookup x=some c→(cellsFrom n names acc).lookup y=some c→x=y
 | [],_,_,h,_=>h
 |(z,k)::r,n,acc,h,hb=>by
  unfold cellsFrom
  by_cases hk:(k== .cell)=true
  ·rw [if_pos hk]
   refine cf_inj r (n+1) _ (fun x y c e1 e2=> ?_) fun x c e=> ?_
   ·rw [List.lookup_cons] at e1 e2
    cases hx:x==z with
    |true=>
     rw [hx] at e1
     have ec:n=c:=Option.some.inj e1
     have ex:x=z:=by simpa using hx
     cases hy:y==z with
     |true=>
      have ey:y=z:=by simpa using hy
      rw [ex,ey]
     |false=>
      rw [hy] at e2
      have:=hb y c e2
      rw [←ec] at this
      exact absurd this (Nat.lt_irrefl _)
    |false=>
     rw [hx] at e1
     cases hy:y==z with
     |true=>
      rw [hy] at e2
      have ec:n=c:=Option.some.inj e2
      have:=hb x c e1
      rw [←ec] at this
      exact absurd this (Nat.lt_irrefl _)
     |false=>rw [hy] at e2;exact h x y c e1 e2
   ·rw [List.lookup_cons] at e
    cases hx:x==z with
    |true=>
     rw [hx] at e
     have ec:n=c:=Option.some.inj e
     rw [←ec]
     exact Nat.lt_succ_self _
    |false=>rw [hx] at e;exact Nat.lt_succ_of_lt (hb x c e)
  ·rw [if_neg hk];exact cf_inj r n acc h hb
theorem Bz9C:∀ (names:List (Str×NameKind)) (h:Heap) (acc:List (Str×Addr)),(∀ x c,acc.lookup x=some c→∃ v,h.IsCell c v)→∀ x c,(cellsFrom h.objs.size names acc).lookup x=some c→∃ v,(pushCells h names).IsCell c v
 | [],_,_,hc=>hc
 |(z,k)::r,h,acc,hc=>by
  unfold cellsFrom pushCells
  by_cases hk:(k== .cell)=true
  ·rw [if_pos hk,if_pos hk]
   have:=Bz9C r (h.push {cls:= .type "cell",data:= .cell none}) ((z,h.objs.size)::acc) fun x c e=>by
    rw [List.lookup_cons] at e
    cases hx:x==z with
    |true=>
     rw [hx] at e
     have ec:h.objs.size=c:=Option.some.inj e
     subst ec
     exact ⟨none,_,Heap.get?_push_size _ rfl,rfl⟩
    |false=>
     rw [hx] at e
     obtain ⟨v,q⟩:=hc x c e
     exact ⟨v,q.keeps fun b o e=>Heap.get?_push_of_some _ e⟩
   rw [Heap.size_push] at this
   exact this
  ·rw [if_neg hk,if_neg hk];exact Bz9C r h acc hc
def ccOf (scope:Scope) (env:Env) (C:Addr):List (Str×Addr):=cellsFrom (C+1) scope.names (clOf scope env)
theorem Az7S {M:Model} {A:Around} {E:Value→Shared→Prop} {s:Shared} {scope:Scope} {globals:Addr} {cl:List (Str×Addr)} {qual:Str} {env:Env} {Q:Env→Shared→Prop}
  (hQ:Q {scope:=scope,locals:=s.heap.objs.size,globals:=globals,cells:=cellsFrom (s.heap.objs.size+1) scope.names cl,qual:=qual,func:=none,code:=env.code,frame:=env.frame,builtins:=env.builtins}
   {s with heap:=pushCells (s.heap.push {cls:= .type "dict",data:= .dict #[]}) scope.names}):
  wpAny M A (newFunctionEnv scope globals cl [] qual none .none (some env)) Q E s:=by
 simp only [newFunctionEnv,Option.isSome_some,if_true]
 refine wpAny_bind (wpAny_alloc ?_)
 refine wpAny_bind (wpAny_layCells _ (fun name kind cells=>by cases hkc:kind==NameKind.cell<;>simp [hkc]) _ _ _ _ ?_)
 rw [show ({s with heap:=s.heap.push {cls:= .type "dict",data:= .dict #[]}}:Shared).heap.objs.size=s.heap.objs.size+1 from Heap.size_push ..]
 refine wpAny_bind ?_
 rw [List.forIn_nil]
 exact wpAny_pure (wpAny_pure hQ)
theorem Bz7Q {h:Heap} {names:List (Str×NameKind)}:(pushCells (h.push {cls:= .type "dict",data:= .dict #[]}) names).Ns h.objs.size fun _=>none:=(Heap.Ns.new h (.type "dict")).keeps (pushCells_keeps _ _)
def compCx (X:Cx) (scope:Scope) (Nc Nx:List Str) (C:Addr) (fp:List Addr) (pins:List (Addr×Obj)) (s:Shared) (H:Hp):Cx:=
 {X with N:=Nc++Nx,s₀:=s,H₀:=H,env:=compEnvC scope (ccOf scope X.env C) C X.env,outer:=X.stack,stack:=X.stack,ex:=fp,fn:=fun x=>scope.names.lookup x==some .cell,pn:=X.pn++pins,xe:=fun _ _=>False}
structure CompOk (X:Cx) (scope:Scope) (Nc Nx:List Str):Prop where
 kind:scope.kind= .function
 one:∀ y∈scope.names,scope.names.lookup y.1=some y.2
 free:∀ y∈scope.names,y.2= .free→X.env.kindOf y.1=some .cell∨X.env.kindOf y.1=some .free
 same:Nx.length=X.N.length
 dis:∀ p∈Nx.zip X.N,(p.1=p.2∧scope.names.lookup p.2≠some .local∧scope.names.lookup p.2≠some .cell)∨scope.names.lookup p.1=none
section
variable {X:Cx} {scope:Scope} {Nc Nx:List Str}
theorem CompOk.loc (c:CompOk X scope Nc Nx):∀ y∈scope.names,y.2= .local→scope.names.lookup y.1=some .local:=fun y hy h=>by rw [c.one y hy,h]
theorem CompOk.old (c:CompOk X scope Nc Nx) {x:Str} {k:NameKind} (h:scope.names.lookup x=some k) (hk:k≠ .cell):(x,NameKind.cell)∉scope.names:=fun z=>by
 have:=c.one _ z
 rw [h] at this
 exact hk (Option.some.inj this)
theorem CompOk.cells (c:CompOk X scope Nc Nx) (ok:X.Ok):∀ y∈scope.names,y.2= .free→∃ a,X.env.cells.lookup y.1=some a:=fun y hy hf=>ok.has y.1 (c.free y hy hf)
theorem Az4Q {x:Str} {a:Addr} (h:(clOf scope X.env).lookup x=some a):X.env.cells.lookup x=some a:=Cz5X scope.names [] (fun _ _ e=>by simp at e) x a h
theorem Bz9E (C:Addr) {x:Str} {a:Addr} (h:(ccOf scope X.env C).lookup x=some a):X.env.cells.lookup x=some a∨(C<a∧(x,NameKind.cell)∈scope.names):=by
 rcases cf_or _ _ _ x a h with h|⟨h1,h2⟩
 ·exact .inl (Az4Q h)
 ·exact .inr ⟨h1,h2⟩
theorem Cz5Z (c:CompOk X scope Nc Nx) (C:Addr) {x:Str} {a:Addr} (hx:scope.names.lookup x=some .cell) (h:(ccOf scope X.env C).lookup x=some a):C<a:=by
 rcases cf_or _ _ _ x a h with h|⟨h1,_⟩
 ·rcases Cz5Y scope.names [] x a h with h|h
  ·simp at h
  ·have:=c.one _ h
   rw [hx] at this
   cases this
 ·exact h1
theorem Bz9F (c:CompOk X scope Nc Nx) (C:Addr) {x:Str} {k:NameKind} (hx:scope.names.lookup x=some k) (hk:k≠ .cell):(ccOf scope X.env C).lookup x=(clOf scope X.env).lookup x:=cf_old _ _ _ x (c.old hx hk)
theorem Cz5B {pins:List (Addr×Obj)} {σ:L2.St} {H:Hp} {s:Shared} {fp:List Addr} {tk:Nat} (c:CompOk X scope Nc Nx) (I:Inv X pins σ H s) (hf:∀ b∈fp,FpOk X pins H b∧b<s.heap.objs.size):
  Inv (compCx X scope Nc Nx s.heap.objs.size fp pins s H) [] (List.replicate Nc.length none++σ) H {s with heap:=pushCells (s.heap.push {cls:= .type "dict",data:= .dict #[]}) scope.names,toks:=tk}:=by
 have hn:(pushCells (s.heap.push {cls:= .type "dict",data:= .dict #[]}) scope.names).Ns s.heap.objs.size fun _=>none:=Bz7Q
 have hk:∀ b o,s.heap.get? b=some o→(pushCells (s.heap.push {cls:= .type "dict",data:= .dict #[]}) scope.names).get? b=some o:=fun b o e=>pushCells_keeps _ _ _ _ (Heap.get?_push_of_some _ e)
 have cellLt:∀ x a,X.env.cells.lookup x=some a→a<s.heap.objs.size:=fun x a e=>by
  obtain ⟨v,q⟩:=I.cell x a e
  exact q.lt
 have hokind:(compEnvC scope (ccOf scope X.env s.heap.objs.size) s.heap.objs.size X.env).scope.kind= .function:=c.kind
 have kinds:∀ x,((relabel scope X.env).names.lookup x=some .cell∨(relabel scope X.env).names.lookup x=some .free)→scope.names.lookup x=some .cell∨scope.names.lookup x=some .free:=fun x hx'=>by
  rw [Az3E] at hx'
  cases q:scope.names.lookup x with
  |none=>rw [q] at hx';simp at hx'
  |some k=>
   rw [q] at hx'
   by_cases hkf:k= .free
   ·rw [hkf];exact .inr rfl
   ·have hb:(k==NameKind.free)=false:=by simpa using hkf
    simp only [Option.map_some,hb,Bool.false_and,Bool.false_eq_true,if_false] at hx'
    exact hx'
 refine ⟨⟨I.ok.mod,hokind,I.ok.glob,I.ok.blt,Nat.le_refl _,?_,fun x hx=> ?_,fun x a hx e=> ?_,I.ok.hd,I.ok.frames, .inl rfl,fun b hb=>⟨?_,fun x a e=> ?_⟩,I.bs,Nat.le_trans I.ok.bsz I.sz,fun b o e hb=> ?_,fun b hb=> ?_,I.stack,I.stkFree⟩,
  rfl,I.bare,Un.kept hk,⟨_,hn,fun i x v h1 h2 h3=> ?_⟩,?_,I.hok.fresh (Nat.le_refl _),fun x a e=> ?_,fun p hp=> ?_,I.hok.kept hk,?_⟩
 ·exact cf_inj scope.names _ _ (fun x y a h1 h2=>I.ok.inj x y a (Az4Q h1) (Az4Q h2)) fun x a h=>Nat.lt_succ_of_lt (cellLt x a (Az4Q h))
 ·rcases kinds x hx with hc|hfree
  ·exact Option.isSome_iff_exists.mp (PySem.W.cellsFrom_some scope.names _ _ (.inl hc))
  ·have hm:=PySem.mem_of_lookup hfree
   obtain ⟨a,e⟩:=Bz9B (env:=X.env) scope.names [] x (.inr ⟨hm,c.cells I.ok _ hm rfl⟩)
   exact ⟨a,(Bz9F c _ hfree (by decide)).trans e⟩
 ·have hx':(scope.names.lookup x==some NameKind.cell)=true:=hx
  exact Nat.le_of_lt (Cz5Z c _ (by simpa using hx') e)
 ·exact Nat.ne_of_lt (hf b hb).2
 ·rcases Bz9E _ e with e|⟨e,_⟩
  ·exact (hf b hb).1.2.2.2.2.1 x a e
  ·have:=(hf b hb).2
   exact Nat.ne_of_gt (Nat.lt_trans this e)
 ·obtain ⟨_,hb2⟩:=I.bs b o e
  rcases (hf b hb).1.2.2.2.1 with z|z
  ·exact I.ok.noex b o e z
  ·exact absurd (Nat.lt_of_lt_of_le (Heap.lt_size e) (Nat.le_trans I.ok.bsz z)) (Nat.lt_irrefl _)
 ·intro z
  rcases List.mem_cons.mp (I.stkSub b z) with q|q
  ·exact (hf b hb).1.2.1 q
  ·exact (hf b hb).1.2.2.1 q
 ·have hi:Nc.length≤i:=by
   refine Nat.le_of_not_lt fun q=> ?_
   rw [List.getElem?_append_left (by simpa using q),List.getElem?_replicate] at h2
   split at h2<;>cases h2
  have h1':Nx[i-Nc.length]? =some x:=by
   have z:(Nc++Nx)[i]? =some x:=h1
   rw [List.getElem?_append_right hi] at z;exact z
  have h2':σ[i-Nc.length]? =some (some v):=by
   rw [List.getElem?_append_right (by simpa using hi),List.length_replicate] at h2;exact h2
  have h3':(relabel scope X.env).names.lookup x=some .local∨(relabel scope X.env).names.lookup x=some .cell∨(relabel scope X.env).names.lookup x=some .free:=h3
  have hz:i-Nc.length<X.N.length:=by
   rw [←c.same]
   refine Nat.lt_of_not_le fun q=> ?_
   rw [List.getElem?_eq_none q] at h1';cases h1'
  have hd2:=c.dis (x,X.N[i-Nc.length]'hz) (List.mem_of_getElem? (i:=i-Nc.length) (by
   rw [List.getElem?_zip_eq_some]
   exact ⟨h1',List.getElem?_eq_getElem hz⟩))
  have hd3:X.N[i-Nc.length]? =some x∧scope.names.lookup x≠some .local∧scope.names.lookup x≠some .cell:=by
   rcases hd2 with ⟨q1,q2⟩|q
   ·have q1':x=X.N[i-Nc.length]'hz:=q1
    have q2':scope.names.lookup (X.N[i-Nc.length]'hz)≠some .local∧scope.names.lookup (X.N[i-Nc.length]'hz)≠some .cell:=q2
    rw [←q1'] at q2'
    exact ⟨by rw [List.getElem?_eq_getElem hz,←q1'],q2'⟩
   ·exfalso
    have q':scope.names.lookup x=none:=q
    rw [Az3E,q'] at h3'
    simp at h3'
  obtain ⟨h1',hnl,hnc⟩:=hd3
  have hfree:scope.names.lookup x=some .free:=by
   rcases h3' with z|z
   ·rw [Az3E] at z
    cases q:scope.names.lookup x with
    |none=>rw [q] at z;simp at z
    |some k=>
     rw [q] at z
     by_cases hkf:k= .free
     ·rw [hkf]
     ·have hb:(k==NameKind.free)=false:=by simpa using hkf
      simp only [Option.map_some,hb,Bool.false_and,Bool.false_eq_true,if_false] at z
      rw [q] at hnl;exact absurd z hnl
   ·rcases kinds x z with z|z
    ·exact absurd z hnc
    ·exact z
  have hm:=PySem.mem_of_lookup hfree
  have hkx:=c.free _ hm rfl
  obtain ⟨mX,hnX,hl⟩:=I.loc
  obtain ⟨u,r,l⟩:=hl _ x v h1' h2' (hkx.elim (fun z=> .inr (.inl z)) fun z=> .inr (.inr z))
  refine ⟨u,r,?_⟩
  rcases l with ⟨z,_⟩|⟨_,a,e,z⟩
  ·have z':X.env.kindOf x=some .local:=z
   rcases hkx with q|q<;> · rw [z'] at q;cases q
  ·obtain ⟨a',e'⟩:=Bz9B (env:=X.env) scope.names [] x (.inr ⟨hm,c.cells I.ok _ hm rfl⟩)
   have ea:a'=a:=by
    have:=Az4Q (X:=X) e'
    rw [e] at this
    exact (Option.some.inj this).symm
   subst ea
   refine .inr ⟨?_,a',(Bz9F c _ hfree (by decide)).trans e',?_⟩
   ·show (relabel scope X.env).names.lookup x=some .cell∨(relabel scope X.env).names.lookup x=some .free
    rw [Az3E,hfree]
    simp only [Option.map_some]
    split
    ·exact .inl rfl
    ·exact .inr rfl
   ·obtain ⟨o,ho,hd⟩:=z
    exact ⟨o,hk _ _ ho,hd⟩
 ·have q:=Bz9C scope.names (s.heap.push {cls:= .type "dict",data:= .dict #[]}) (clOf scope X.env) fun x a e=>by
   obtain ⟨v,z⟩:=I.cell x a (Az4Q e)
   exact ⟨v,z.keeps fun b o e=>Heap.get?_push_of_some _ e⟩
  rw [Heap.size_push] at q
  exact q
 ·rcases Bz9E _ e with e|⟨e,_⟩
  ·exact I.freeC x a e
  ·exact I.hok.fresh (Nat.le_of_lt e)
 ·have hp':p∈X.pn++pins:=by
   have z:p∈(X.pn++pins)++ []:=hp
   rwa [List.append_nil] at z
  obtain ⟨e,n,ne,nf,d⟩:=I.pin p hp'
  refine ⟨hk _ _ e,n,Nat.ne_of_lt (Heap.lt_size e),fun z=> ?_,d⟩
  rcases List.mem_cons.mp (I.stkSub p.1 z) with q|q
  ·exact ne q
  ·exact nf q
 ·show _=(Nc++Nx).length
  rw [List.length_append,List.length_append,List.length_replicate,I.len,c.same]
theorem Bz8I {pins:List (Addr×Obj)} {σ σ':L2.St} {H H':Hp} {s s':Shared} {fp:List Addr} {h'':Heap} (I:Inv X pins σ H s) (hf:∀ b∈fp,FpOk X pins H b)
  (J:Inv (compCx X scope Nc Nx s.heap.objs.size fp pins s H) [] σ' H' s') (hs:Heap.SameBut s.heap.objs.size s'.heap h''):Inv X pins σ H' {s' with heap:=h''}:=by
 have u:Un (frs X.stack) fp H H' s.heap s'.heap:=J.base
 have hC:H' s.heap.objs.size=none:=J.free
 have keep:∀ b o,b≠s.heap.objs.size→s'.heap.get? b=some o→h''.get? b=some o:=fun b o hb e=>by rw [hs.2 b hb];exact e
 have lt:∀ b o,s.heap.get? b=some o→b≠s.heap.objs.size:=fun b o e=>Nat.ne_of_lt (Heap.lt_size e)
 refine I.call' (s':= {s' with heap:=h''}) (ch:=fp) J.os ⟨fun b o e n h1 h2=>keep b o (lt b o e) (u.keep b o e n h1 h2),fun b o e n h1 h2=> ?_,u.free,fun b o e h1=> ?_,u.tups,u.frzs,u.tbls⟩ (fun b o e=> ?_) J.bare fun b hb=> ?_
 ·obtain ⟨sl,q⟩:=u.slot b o e n h1 h2
  exact ⟨sl,keep b _ (lt b o e) q⟩
 ·obtain ⟨o',q⟩:=u.there b o e h1
  exact ⟨o',keep b _ (lt b o e) q⟩
 ·refine (J.hok b o e).stay (fun c v hc q=>keep c v (fun z=> ?_) q) (fun _ q=>q) fun _ _ q=>q
  subst z
  rcases hc with z|z
  ·rw [←z,hC] at e;cases e
  ·rw [hC] at z;cases z
 ·exact ⟨(hf b hb).2.2.2.1,(hf b hb).2.1,(hf b hb).2.2.2.2.1,(hf b hb).2.2.2.2.2⟩
end
end L3
namespace L3
open PySem PySem.Spec PyProof.Rows L2
theorem Bz5W {prog:Program} {w:World} {A:Around} {R:Result→Shared→Prop} {s:Shared} {elt target iter:Expr} {ifs:List Expr} {scope:Scope} {pos:Pos} {it acc:Value} {env:Env} (I:Nat→Shared→Prop)
  (turn:∀ n s,I n s→wpAny (model prog w) A (pyNext it) (fun r s₁=>match r with
   |none=>R (.ok .next) s₁
   |some v=>wpAny (model prog w) A (letOwnedTupleGo target it v) (fun _ s₁'=>wpAny (model prog w) A (assign target env v) (fun _ s₂=>
     wpAny (model prog w) A (forIn ifs true fun c r=>if r=true then do let ok ←isTrue c env (eval c env);pure (ForInStep.yield ok) else pure (ForInStep.yield r)) (fun ok s₃=>
      if ok=true then wpAny (model prog w) A (eval elt env) (fun x s₄=>
       wpAny (model prog w) A (call (.builtin "list.append") [acc,x]) (fun _ s₅=>∃ m,m<n∧I m s₅) (fun _ _=>False) s₄) (fun _ _=>False) s₃
      else ∃ m,m<n∧I m s₃) (fun _ _=>False) s₂) (fun _ _=>False) s₁') (fun _ _=>False) s₁) (fun _ _=>False) s)
  (n:Nat) (h:I n s):
  codeAny (model prog w) A (.compLoop (.ListComp elt [⟨target,iter,ifs,0⟩] scope pos) 0 it acc env) R s:=by
 refine codeAny_loop rfl I (fun n s hI=> ?_) n h
 show wpAny _ A ((compTurn (.ListComp elt [⟨target,iter,ifs,0⟩] scope pos) 0 it acc env).onRaise (fun x=>do noteFrame x env;theTreesLotGoes x)) _ _ s
 refine wpAny_noted ?_
 rw [compTurn_list]
 refine wpAny_bind (wpAny_standAt (wpAny_bind (wpAny_mono (turn n s hI) (fun r s₁ h₁=> ?_) fun _ _ h'=>h'.elim)))
 cases r with
 |none=>exact wpAny_pure h₁
 |some v=>
  refine wpAny_bind (wpAny_mono h₁ (fun _ s₁' h₁'=>wpAny_bind (wpAny_mono h₁' (fun _ s₂ h₂=>wpAny_bind (wpAny_mono h₂ (fun ok s₃ h₃=> ?_) fun _ _ h'=>h'.elim)) fun _ _ h'=>h'.elim)) fun _ _ h'=>h'.elim)
  cases ok with
  |false=>exact wpAny_pure ⟨rfl,h₃⟩
  |true=>
   exact wpAny_bind (wpAny_bind (wpAny_mono h₃ (fun x s₄ h₄=>wpAny_bind (wpAny_mono h₄ (fun _ s₅ h₅=>wpAny_pure (wpAny_pure ⟨rfl,h₅⟩)) fun _ _ h'=>h'.elim)) fun _ _ h'=>h'.elim))
def PTs (X:Cx) (ifs:List Expr) (t:TT):Prop:=
 ∀ (pins:List (Addr×Obj)) (s:Shared) (σ:L2.St) (H:Hp) (Q:Bool→Hp→Prop),Inv X pins σ H s→t σ H Q→
  wpAny (model X.prog X.w) X.A (forIn ifs true fun c r=>if r=true then do let ok ←isTrue c X.env (eval c X.env);pure (ForInStep.yield ok) else pure (ForInStep.yield r)) (TP X pins σ Q) X.xe s
def tYes:TT:=fun _ H Q=>Q true H
theorem Cz7D {X:Cx}:PTs X [] tYes:=fun _ s σ H Q I h=>wpAny_tests_nil ⟨H,I,h⟩
theorem Cz7C {X:Cx} {c:Expr} {t:TT} (h:PT X c t):PTs X [c] t:=fun pins s σ H Q I q=>wpAny_tests_one (h pins s σ H Q I q)
def tComp (n:Nat) (wi:TI) (g:TG) (tt:TT) (te:TE):TE:=fun σ H Q=>wi σ H fun J H1=>∀ a,H1 a=none→∃ W:Nat→Nat→List V→L2.St→Hp→Prop,(∃ m,W 0 m [] (List.replicate n none++σ) (upd H1 a (.lst [])))∧
 ∀ i m xs σ' H,W i m xs σ' H→H a=some (.lst xs)∧((J.stop i H∧Q (.ref a) H)∨(J.go i H∧∀ x H',J.yld i H x H'→g x σ' H' fun σ2 H2=>tt σ2 H2 fun b H3=>
  if b=true then te σ2 H3 fun y H4=>H4 a=some (.lst xs)∧xs.length<sizeLine∧∃ m',m'<m∧W (i+1) m' (xs++ [y]) σ2 (upd H4 a (.lst (xs++ [y]))) else ∃ m',m'<m∧W (i+1) m' xs σ2 H3))
section
variable {X:Cx} {scope:Scope} {Nc Nx:List Str} {elt tg iter:Expr} {ifs:List Expr} {pos:Pos} {wi:TI} {g:TG} {tt:TT} {te:TE}
theorem Bz1L (c:CompOk X scope Nc Nx) (hcalm:X.calm=true)
  (hY:∀ (C:Addr) (fp:List Addr) (pins:List (Addr×Obj)) (s:Shared) (H:Hp),PG (compCx X scope Nc Nx C fp pins s H) tg g∧PTs (compCx X scope Nc Nx C fp pins s H) ifs tt∧PE (compCx X scope Nc Nx C fp pins s H) elt te)
  {pins:List (Addr×Obj)} {σ:L2.St} {s2:Shared} {it:Addr} {fp:List Addr} {tn:Nat→Heap→Prop} {J:It} {H1:Hp} {Q:V→Hp→Prop} {RR:Value→Addr→Result→Shared→Prop} {E:Value→Shared→Prop}
  (I:Inv X pins σ H1 s2) (T:Turn X.prog X.w X.K tg J fp it tn) (st:tn 0 s2.heap) (hf:∀ b∈fp,FpOk X pins H1 b)
  (h:∀ a,H1 a=none→∃ W:Nat→Nat→List V→L2.St→Hp→Prop,(∃ m,W 0 m [] (List.replicate Nc.length none++σ) (upd H1 a (.lst [])))∧
 ∀ i m xs σ' H,W i m xs σ' H→H a=some (.lst xs)∧((J.stop i H∧Q (.ref a) H)∨(J.go i H∧∀ x H',J.yld i H x H'→g x σ' H' fun σ2 H2=>tt σ2 H2 fun b H3=>
  if b=true then te σ2 H3 fun y H4=>H4 a=some (.lst xs)∧xs.length<sizeLine∧∃ m',m'<m∧W (i+1) m' (xs++ [y]) σ2 (upd H4 a (.lst (xs++ [y]))) else ∃ m',m'<m∧W (i+1) m' xs σ2 H3)))
  (hRR:∀ a H' σ' s' s3,Inv X pins σ (upd H1 a (.lst [])) s3→(∀ b∈fp,FpOk X pins (upd H1 a (.lst [])) b)→Inv (compCx X scope Nc Nx s3.heap.objs.size fp pins s3 (upd H1 a (.lst []))) [] σ' H' s'→Q (.ref a) H'→RR (.ref a) s3.heap.objs.size (.ok .next) s'):
  wpAny (model X.prog X.w) X.A (newList []) (fun acc s₃=>wpAny (model X.prog X.w) X.A (newFunctionEnv scope X.env.globals (clOf scope X.env) [] X.env.qual none .none (some X.env)) (fun cenv s₄=>
   codeAny (model X.prog X.w) X.A (.compStart (.ListComp elt [⟨tg,iter,ifs,0⟩] scope pos) 0 (.ref it) acc {cenv with scope:=relabel scope X.env}) (RR acc cenv.locals) s₄) E s₃) E s2:=by
 have hfree:H1 s2.heap.objs.size=none:=I.hok.fresh (Nat.le_refl _)
 refine wpAny_newObj_type (Az7S ?_)
 dsimp only
 generalize ea:s2.heap.objs.size=a at hfree
 have I3:Inv X pins σ (upd H1 a (.lst [])) {s2 with heap:=s2.heap.push {cls:= .type "list",dict:=none,data:= .seq ([]:List Value).toArray},toks:=s2.toks}:=by
  subst ea
  exact I.laid (t':=s2.toks) (fun b u e=>Heap.get?_push_of_some _ e) (Nat.le_refl _) ⟨Nat.zero_le _,[],_, .nil,Heap.get?_push_size _ rfl⟩
 generalize eS:({s2 with heap:=s2.heap.push {cls:= .type "list",dict:=none,data:= .seq ([]:List Value).toArray},toks:=s2.toks}:Shared)=s3 at I3
 have e3h:s3.heap=s2.heap.push {cls:= .type "list",dict:=none,data:= .seq ([]:List Value).toArray}:=by rw [←eS]
 have obj0:=T.obj 0 _ st
 have hf3:∀ b∈fp,FpOk X pins (upd H1 a (.lst [])) b:=fun b hb=>by
  obtain ⟨o,e,_⟩:=obj0 b hb
  have:b≠a:=by rw [←ea];exact Nat.ne_of_lt (Heap.lt_size e)
  exact ⟨by rw [upd_ne this];exact (hf b hb).1,(hf b hb).2⟩
 have up:∀ b o,s2.heap.get? b=some o→s3.heap.get? b=some o:=fun b o e=>by rw [e3h];exact Heap.get?_push_of_some _ e
 have hf3':∀ b∈fp,FpOk X pins (upd H1 a (.lst [])) b∧b<s3.heap.objs.size:=fun b hb=>⟨hf3 b hb,by
  obtain ⟨o,e,_⟩:=obj0 b hb
  exact Heap.lt_size (up b o e)⟩
 have eC:(s2.heap.push {cls:= .type "list",dict:=none,data:= .seq ([]:List Value).toArray}).objs.size=s3.heap.objs.size:=by rw [e3h]
 generalize eh:pushCells ((s2.heap.push {cls:= .type "list",dict:=none,data:= .seq ([]:List Value).toArray}).push {cls:= .type "dict",data:= .dict #[]}) scope.names=h₁
 have hk4:∀ b o,s3.heap.get? b=some o→h₁.get? b=some o:=fun b o e=>by
  rw [←eh,←e3h]
  exact pushCells_keeps _ _ _ _ (Heap.get?_push_of_some _ e)
 have I4:=Cz5B (tk:=s2.toks) c I3 hf3'
 have e4:({s3 with heap:=pushCells (s3.heap.push {cls:= .type "dict",data:= .dict #[]}) scope.names,toks:=s2.toks}:Shared)= {s2 with heap:=h₁}:=by rw [←eh,←eS]
 rw [e4] at I4
 obtain ⟨W,⟨m0,w0⟩,turn⟩:=h a hfree
 obtain ⟨hg,htt,hte⟩:=hY s3.heap.objs.size fp pins s3 (upd H1 a (.lst []))
 have loop:codeAny (model X.prog X.w) X.A (.compLoop (.ListComp elt [⟨tg,iter,ifs,0⟩] scope pos) 0 (.ref it) (.ref a) (compEnvC scope (ccOf scope X.env s3.heap.objs.size) s3.heap.objs.size X.env)) (RR (.ref a) s3.heap.objs.size) {s2 with heap:=h₁}:=by
  refine Bz5W (fun n s'=>∃ i xs σ' H',Inv (compCx X scope Nc Nx s3.heap.objs.size fp pins s3 (upd H1 a (.lst []))) [] σ' H' s'∧tn i s'.heap∧(∀ b∈fp,H' b=none)∧W i n xs σ' H') ?_ m0
   ⟨0,[],_,_,I4,T.keep _ _ _ st fun b _ o e=>hk4 b o (up b o e),fun b hb=>(hf3 b hb).1,w0⟩
  rintro n s5 ⟨i,xs,σ5,H5,I5,st5,fr5,w5⟩
  have stat:∀ {H':Hp},(∀ b∈fp,H' b=none)→∀ b∈fp,FpOk (compCx X scope Nc Nx s3.heap.objs.size fp pins s3 (upd H1 a (.lst []))) [] H' b:=fun {H'} hn b hb=>by
   obtain ⟨_,f1,f2,f3,f4,f5⟩:=hf3 b hb
   refine ⟨hn b hb,Nat.ne_of_lt (hf3' b hb).2,fun z=> ?_, .inl hb,fun x cc e=>(Bz9E _ e).elim (fun e=>f4 x cc e) fun e=>Nat.ne_of_gt (Nat.lt_trans (hf3' b hb).2 e.1),fun p hp=>f5 p ?_⟩
   ·rcases List.mem_cons.mp (I3.stkSub b z) with q|q
    ·exact f1 q
    ·exact f2 q
   ·have z:p∈(X.pn++pins)++ []:=hp
    rwa [List.append_nil] at z
  obtain ⟨hxs,alt⟩:=turn i n xs σ5 H5 w5
  rcases alt with ⟨stop,qn⟩|⟨go,step⟩
  ·refine wpAny_mono (T.done (compCx X scope Nc Nx s3.heap.objs.size fp pins s3 (upd H1 a (.lst []))) rfl rfl rfl hcalm i [] s5 σ5 H5 (fun _ _=>False) I5 (stat fr5) st5 stop) (fun r s6 ⟨hr,I6⟩=> ?_) fun _ _ z=>z
   subst hr
   exact hRR a H5 σ5 s6 s3 I3 hf3 I6 qn
  ·refine wpAny_mono (T.item (compCx X scope Nc Nx s3.heap.objs.size fp pins s3 (upd H1 a (.lst []))) rfl rfl rfl hcalm i [] s5 σ5 H5 (fun _ _=>False) I5 (stat fr5) st5 go) (fun r s6 ⟨u,hr,h6⟩=> ?_) fun _ _ z=>z
   subst hr
   refine wpAny_mono h6 (fun _ s7 ⟨x,H7,I7,r7,y7,st7,fr7⟩=> ?_) fun _ _ z=>z
   have I7':=I7.pinned (stat fr7) (T.obj _ _ st7)
   have fin:∀ {σ9:L2.St} {H9:Hp} {s9:Shared},Inv (compCx X scope Nc Nx s3.heap.objs.size fp pins s3 (upd H1 a (.lst []))) ([]++pinsAt fp s7.heap) σ9 H9 s9→Inv (compCx X scope Nc Nx s3.heap.objs.size fp pins s3 (upd H1 a (.lst []))) [] σ9 H9 s9∧tn (i+1) s9.heap∧(∀ b∈fp,H9 b=none):=fun {σ9 H9 s9} I9=>by
    refine ⟨I9.unpinned,T.keep _ _ _ st7 fun b hb o e=>(I9.pin (b,o) (List.mem_append_right _ (List.mem_append_right _ (Az6I hb e)))).1,fun b hb=> ?_⟩
    obtain ⟨o,e,d⟩:=T.obj _ _ st7 b hb
    exact (I9.pin (b,o) (List.mem_append_right _ (List.mem_append_right _ (Az6I hb e)))).2.1
   refine wpAny_mono (hg _ s7 σ5 H7 x u _ I7' r7 (step x H7 y7)) (fun _ s8 ⟨σ8,H8,I8,q8⟩=> ?_) fun _ _ z=>z
   refine wpAny_mono (htt _ s8 σ8 H8 _ I8 q8) (fun b s9 ⟨H9,I9,q9⟩=> ?_) fun _ _ z=>z
   cases b with
   |false=>
    obtain ⟨m',hm,w9⟩:=q9
    obtain ⟨J1,J2,J3⟩:=fin I9
    exact ⟨m',hm,i+1,xs,σ8,H9,J1,J2,J3,w9⟩
   |true=>
    refine wpAny_mono (hte _ s9 σ8 H9 _ I9 q9) (fun y s10 ⟨v,H10,I10,r10,q10⟩=> ?_) fun _ _ z=>z
    obtain ⟨e10,hl10,m',hm,w10⟩:=q10
    refine wpAny_mono (Bz4E (X:=compCx X scope Nc Nx s3.heap.objs.size fp pins s3 (upd H1 a (.lst []))) _ s10 σ8 H10 (.ref a) [v] (.ref a) [y] (fun _ H'=>H'=upd H10 a (.lst (xs++ [v]))) I10 rfl (.cons r10 .nil) ⟨a,xs,v,rfl,rfl,e10,hl10,rfl⟩) (fun _ s11 ⟨_,H11,I11,_,q11⟩=> ?_) fun _ _ z=>z
    subst q11
    obtain ⟨J1,J2,J3⟩:=fin I11
    exact ⟨m',hm,i+1,xs++ [v],σ8,_,J1,J2,J3,w10⟩
 have st4:tn 0 h₁:=T.keep _ _ _ st fun b _ o e=>hk4 b o (up b o e)
 rw [e3h] at loop
 subst ea
 exact codeAny_compStart_list loop (T.self _ 0 _ _ _ st4 loop)
theorem Cz7S (c:CompOk X scope Nc Nx) (hcalm:X.calm=true) (hi:PI X tg iter wi)
  (hY:∀ (C:Addr) (fp:List Addr) (pins:List (Addr×Obj)) (s:Shared) (H:Hp),PG (compCx X scope Nc Nx C fp pins s H) tg g∧PTs (compCx X scope Nc Nx C fp pins s H) ifs tt∧PE (compCx X scope Nc Nx C fp pins s H) elt te)
  (hs:∀ x,foldedSetIterable iter X.env x=pure x:=by intro _;rfl):
  PE X (.ListComp elt [⟨tg,iter,ifs,0⟩] scope pos) (tComp Nc.length wi g tt te):=by
 intro pins s σ H Q I h
 rw [eval_ListComp]
 refine wpAny_comprehension_free (use:=none) rfl hs (Cz3C (c.cells I.ok)) c.kind c.loc (thn (hi pins s σ H _ I h) fun v s1 h1=>thn h1 fun itv s2 h2=> ?_)
 obtain ⟨it,fp,tn,J,H2,rfl,I2,T,st2,f2,q⟩:=h2
 refine Bz1L (Q:=Q) (RR:=fun acc C=>compPost (model X.prog X.w) X.A X.xe none (EP X pins σ Q) acc C) c hcalm hY I2 T st2 f2 q ?_
 intro a H' σ' s' s3 I3 hf3 IY qa
 obtain ⟨m,hn,_⟩:=IY.loc
 exact ⟨m,hn,fun h' hs'=>⟨.ref a,H',Bz8I I3 hf3 IY hs',rfl,qa⟩⟩
theorem Cz7H {i:Nat} {y:Str} {py spos:Pos} (c:CompOk X scope Nc Nx) (hcalm:X.calm=true) (hi:PI X tg iter wi)
  (hY:∀ (C:Addr) (fp:List Addr) (pins:List (Addr×Obj)) (s:Shared) (H:Hp),PG (compCx X scope Nc Nx C fp pins s H) tg g∧PTs (compCx X scope Nc Nx C fp pins s H) ifs tt∧PE (compCx X scope Nc Nx C fp pins s H) elt te)
  (hN:X.N.Nodup) (hiN:X.N[i]? =some y) (hx:Loc X.env.scope y)
  (hsw:swapsWith (.ListComp elt [⟨tg,iter,ifs,0⟩] scope pos) (some (.Name y py)) spos.line X.env=pure true:=by rfl)
  (hf:X.fn y=true∨X.env.scope.names.lookup y=some .local:=by first|exact .inl rfl|exact .inr rfl|assumption)
  (hs:∀ x,foldedSetIterable iter X.env x=pure x:=by intro _;rfl):
  PS X (.Assign [.Name y py] (.ListComp elt [⟨tg,iter,ifs,0⟩] scope pos) spos) (tAsg (tComp Nc.length wi g tt te) (gName i)):=by
 intro pins s σ H Dn I h
 rw [exec_Assign_Name_used _ _ _ _ hsw]
 refine wpAny_bind (wpAny_standAt (wpAny_bind ?_))
 show wpAny _ X.A (do let _ ←comprehension (.ListComp elt [⟨tg,iter,ifs,0⟩] scope pos) scope X.env _ (newList []) false (eval iter X.env) (some (assign (.Name y py) X.env))) _ _ s
 refine wpAny_bind (wpAny_mono (wpAny_comprehension_free (use:=some (assign (.Name y py) X.env)) (Q:=fun _ s'=>SP X pins Dn .next s') rfl hs (Cz3C (c.cells I.ok)) c.kind c.loc
  (thn (hi pins s σ H _ I h) fun v s1 h1=>thn h1 fun itv s2 h2=> ?_)) (fun _ s' hq=>wpAny_pure (wpAny_pure hq)) fun _ _ e=>e)
 obtain ⟨it,fp,tn,J,H2,rfl,I2,T,st2,f2,q⟩:=h2
 refine Bz1L (Q:=fun x H1=>gName i x σ H1 Dn.nx) (RR:=fun acc C=>compPost (model X.prog X.w) X.A X.xe (some (assign (.Name y py) X.env)) (fun _ s'=>SP X pins Dn .next s') acc C) c hcalm hY I2 T st2 f2 q ?_
 intro a H' σ' s' s3 I3 hf3 IY qa
 obtain ⟨m,⟨o,es,ep,ho,hod,hrest⟩,_⟩:=IY.loc
 have ho':s'.heap.get? s3.heap.objs.size=some o:=ho
 have IX:Inv X pins σ H' s':=Bz8I I3 hf3 IY (h'':=s'.heap) (Heap.SameBut.refl _ _)
 have hC0:H' s3.heap.objs.size=none:=IY.free
 have ncell:∀ v,o.data≠ .cell v:=fun v z=>by rw [hod] at z;cases z
 have hL:s3.heap.objs.size≠X.env.locals:=Nat.ne_of_gt I3.lt
 have IX':Inv X (pins++ [(s3.heap.objs.size,o)]) σ H' s':=IX.pins_of fun p hp=>(List.mem_append.mp hp).elim (fun z=>IX.pin p (List.mem_append_right _ z)) fun z=>by
  have e:p=(s3.heap.objs.size,o):=by simpa using z
  subst e
  exact ⟨ho',hC0,hL,I3.nofs (Nat.le_refl _),ncell⟩
 have hcells:∀ x cc,X.env.cells.lookup x=some cc→cc≠s3.heap.objs.size:=fun x cc e z=>by
  obtain ⟨v,q⟩:=I3.cell x cc e
  exact absurd q.lt (by rw [z];exact Nat.lt_irrefl _)
 show wpAny _ X.A (assign (.Name y py) X.env (.ref a)) _ _ s'
 refine wpAny_assign_Name (Az9M IX' hN hiN hx (v:= .ref a) rfl (fun s5 I5=> ?_) hf)
 have p5:=I5.pin (s3.heap.objs.size,o) (List.mem_append_right _ (List.mem_append_right _ (by simp)))
 refine ⟨m,⟨o,es,ep,p5.1,hod,hrest⟩,fun h' hs'=>⟨_,H',?_,qa⟩⟩
 have I5':=I5.unpinned
 exact I5'.turned (t':=s5.toks) (it:=s3.heap.objs.size) (fun b ob hb e=>by rw [hs'.2 b hb];exact e) hC0 hL (.inr I3.sz) hcells fun p hp z=>absurd (Heap.lt_size (I3.pin p hp).1) (by rw [z];exact Nat.lt_irrefl _)
end
end L3
namespace L3
open PySem PySem.Spec PyProof.Rows L2 SeqAt
mutual
def eqD:D→D→Bool
 | .non, .non=>true
 | .bl a, .bl b=>a==b
 | .int a, .int b=>a==b
 | .str a, .str b=>a==b
 | .bl a, .int b=>(if a then 1 else 0)==b
 | .int a, .bl b=>a==(if b then 1 else 0)
 | .tup a, .tup b=>eqL a b
 | .lst a, .lst b=>eqL a b
 |_,_=>false
def eqL:List D→List D→Bool
 | [],[]=>true
 |a::as,b::bs=>eqD a b&&eqL as bs
 |_,_=>false
end
def shal:Nat→D→Bool
 |_, .non=>true
 |_, .bl _=>true
 |_, .int _=>true
 |_, .str _=>true
 |n+1, .tup ds=>ds.all (shal n)
 |n+1, .lst ds=>ds.all (shal n)
 |_,_=>false
theorem Bz0A:∀ (as bs:List D),as.length=bs.length→eqL as bs=(List.range as.length).all fun j=>eqD (as.getD j .non) (bs.getD j .non)
 | [],[],_=>by simp [eqL]
 |a::as,b::bs,h=>by
  rw [eqL,List.length_cons,List.range_succ_eq_map,List.all_cons,List.all_map,Bz0A as bs (by simpa using h)]
  rfl
 | [],_::_,h=>by simp at h
 |_::_,[],h=>by simp at h
theorem Bz8V:∀ (as bs:List D),as.length≠bs.length→eqL as bs=false
 | [],[],h=>absurd rfl h
 |a::as,b::bs,h=>by rw [eqL,Bz8V as bs (by simpa using h),Bool.and_false]
 | [],_::_,h=>by simp [eqL]
 |_::_,[],h=>by simp [eqL]
section
variable {X:Cx} {pins:List (Addr×Obj)} {σ:L2.St} {W:WS} {H:Hp} {s:Shared}
theorem Has.notup {W:WS} {H:Hp} {K:PySem.W.Frag} (I:Inv X pins σ H s) {a:Addr} {xs ys:List V} (h1:SqL X.K H a xs) (h2:SqT X.K H a ys):False:=by
 obtain ⟨its,_,⟨o,n,e,c,_⟩,_⟩:=I.list h1
 obtain ⟨its',_,⟨o',e',c',_⟩,_⟩:=I.tuple h2
 rw [e] at e';cases e'
 rw [c] at c'
 exact absurd c' (by simp)
theorem HasT.ref {K:PySem.W.Frag} {d:D} {x:V} {n:Nat} (h:HasT K W H d x) (hs:shal n d=true):
  (d= .non∧x= .non)∨(∃ b,d= .bl b∧x= .bl b)∨(∃ b,d= .int b∧x= .int b)∨(∃ b,d= .str b∧x= .str b)∨
  (∃ ds a xs m,n=m+1∧d= .tup ds∧x= .ref a∧SqT K H a xs∧HasL K W H ds xs∧∀ y∈ds,shal m y=true)∨
  (∃ ds a xs m,n=m+1∧d= .lst ds∧x= .ref a∧SqL K H a xs∧HasL K W H ds xs∧∀ y∈ds,shal m y=true):=by
 cases d with
 |non=>exact .inl ⟨rfl,h.non⟩
 |bl b=>exact .inr (.inl ⟨b,rfl,h.bl⟩)
 |int b=>exact .inr (.inr (.inl ⟨b,rfl,h.int⟩))
 |str b=>exact .inr (.inr (.inr (.inl ⟨b,rfl,h.str⟩)))
 |tup ds=>
  obtain ⟨a,xs,e,q,r⟩:=h.tup
  cases n with
  |zero=>simp [shal] at hs
  |succ m=>
   rw [shal,List.all_eq_true] at hs
   exact .inr (.inr (.inr (.inr (.inl ⟨ds,a,xs,m,rfl,rfl,e,q,r,hs⟩))))
 |lst ds=>
  obtain ⟨a,xs,e,q,r⟩:=h.lst
  cases n with
  |zero=>simp [shal] at hs
  |succ m=>
   rw [shal,List.all_eq_true] at hs
   exact .inr (.inr (.inr (.inr (.inr ⟨ds,a,xs,m,rfl,rfl,e,q,r,hs⟩))))
 |dct k ds=>cases n<;>simp [shal] at hs
 |exc k ds=>cases n<;>simp [shal] at hs
 |obj c k ds=>cases n<;>simp [shal] at hs
theorem Cz5M (I:Inv X pins σ H s):∀ (n:Nat) {d e:D} {x:V},HasT X.K W H d x→HasT X.K W H e x→shal n d=true→shal n e=true→eqD d e=true:=by
 intro n
 induction n with
 |zero=>
  intro d e x h1 h2 s1 s2
  rcases h1.ref s1 with ⟨rfl,rfl⟩|⟨b,rfl,rfl⟩|⟨b,rfl,rfl⟩|⟨b,rfl,rfl⟩|⟨_,_,_,m,z,_⟩|⟨_,_,_,m,z,_⟩<;>
  rcases h2.ref s2 with ⟨rfl,e2⟩|⟨c,rfl,e2⟩|⟨c,rfl,e2⟩|⟨c,rfl,e2⟩|⟨_,_,_,m',z',_⟩|⟨_,_,_,m',z',_⟩<;>first|(cases z;done)|(cases z';done)|(cases e2;done)|(cases e2;simp [eqD])
 |succ n ih=>
  have lists:∀ {ds es:List D} {xs:List V},HasL X.K W H ds xs→HasL X.K W H es xs→(∀ y∈ds,shal n y=true)→(∀ y∈es,shal n y=true)→eqL ds es=true:=by
   intro ds
   induction ds with
   |nil=>
    intro es xs h1 h2 _ _
    have e1:=h1.length
    have e2:=h2.length
    cases es with
    |nil=>simp [eqL]
    |cons=>simp at e1 e2;omega
   |cons d ds ih2=>
    intro es xs h1 h2 g1 g2
    rw [HasL] at h1
    obtain ⟨x,r,rfl,q,t⟩:=h1
    cases es with
    |nil=>rw [HasL] at h2;cases h2
    |cons e es=>
     rw [HasL] at h2
     obtain ⟨x',r',ee,q',t'⟩:=h2
     cases ee
     rw [eqL,ih (.inl q) (.inl q') (g1 d List.mem_cons_self) (g2 e List.mem_cons_self),ih2 t t' (fun y hy=>g1 y (List.mem_cons_of_mem _ hy)) fun y hy=>g2 y (List.mem_cons_of_mem _ hy)]
     rfl
  intro d e x h1 h2 s1 s2
  rcases h1.ref s1 with ⟨rfl,rfl⟩|⟨b,rfl,rfl⟩|⟨b,rfl,rfl⟩|⟨b,rfl,rfl⟩|⟨ds,a,xs,m,z,rfl,rfl,q,r,g⟩|⟨ds,a,xs,m,z,rfl,rfl,q,r,g⟩<;>
  rcases h2.ref s2 with ⟨rfl,e2⟩|⟨c,rfl,e2⟩|⟨c,rfl,e2⟩|⟨c,rfl,e2⟩|⟨es,a',ys,m',z',rfl,e2,q',r',g'⟩|⟨es,a',ys,m',z',rfl,e2,q',r',g'⟩<;>first|(cases e2;done)|(cases e2;simp [eqD];done)|skip
  ·cases e2
   cases z;cases z'
   have:=I.tuple_inj q q'
   subst this
   rw [eqD];exact lists r r' g g'
  ·cases e2
   exact (Has.notup (K:=X.K) (W:=W) (H:=H) I q' q).elim
  ·cases e2
   exact (Has.notup (K:=X.K) (W:=W) (H:=H) I q q').elim
  ·cases e2
   cases z;cases z'
   have:=I.list_inj q q'
   subst this
   rw [eqD];exact lists r r' g g'
theorem Bz4K {ds:List D} {j:Nat} (h:j<ds.length):ds[j]? =some (ds.getD j .non):=by
 rw [List.getD_eq_getElem?_getD,List.getElem?_eq_getElem h];rfl
theorem Cz2C {xs:List V} {its:List Value} (r:Vals xs its) {j:Nat} {x:V} (e:xs[j]? =some x) (h:j<its.toArray.size):RelV x its.toArray[j]:=by
 obtain ⟨u,h1,h2⟩:=r.get e
 have:its.toArray[j]? =some u:=by simpa using h1
 rw [Array.getElem?_eq_getElem h] at this
 cases this
 exact h2
theorem Bz1I {A:Around} (n:Nat) (ih:∀ {d e:D} {x y:V} {v u:Value},HasT X.K W H d x→HasT X.K W H e y→RelV x v→RelV y u→shal n d=true→shal n e=true→EqAt A s v u (eqD d e))
  {ds es:List D} {xs ys:List V} {its its':List Value} (r:HasL X.K W H ds xs) (r':HasL X.K W H es ys) (v:Vals xs its) (v':Vals ys its') (g:∀ y∈ds,shal n y=true) (g':∀ y∈es,shal n y=true):
  ∀ j (h1:j<its.toArray.size) (h2:j<its'.toArray.size),EqAt A s its.toArray[j] its'.toArray[j] (eqD (ds.getD j .non) (es.getD j .non)):=by
 intro j h1 h2
 have l1:j<ds.length:=by rw [r.length,v.length];simpa using h1
 have l2:j<es.length:=by rw [r'.length,v'.length];simpa using h2
 obtain ⟨x,e1,q1⟩:=r.get (Bz4K l1)
 obtain ⟨y,e2,q2⟩:=r'.get (Bz4K l2)
 exact ih (.inl q1) (.inl q2) (Cz2C v e1 h1) (Cz2C v' e2 h2) (g _ (List.mem_of_getElem? (Bz4K l1))) (g' _ (List.mem_of_getElem? (Bz4K l2)))
theorem HasT.view (I:Inv X pins σ H s) {d:D} {x:V} {v:Value} {n:Nat} (h:HasT X.K W H d x) (rx:RelV x v) (hs:shal n d=true):
  (d= .non∧v= .none)∨(∃ b,d= .bl b∧v= .bool b)∨(∃ b t,d= .int b∧v= .int b t)∨(∃ b t,d= .str b∧v= .str b t)∨
  (∃ ds a xs its m,n=m+1∧d= .tup ds∧x= .ref a∧v= .ref a∧HasL X.K W H ds xs∧Vals xs its∧s.heap.IsTuple a its.toArray∧∀ y∈ds,shal m y=true)∨
  (∃ ds a xs its m,n=m+1∧d= .lst ds∧x= .ref a∧v= .ref a∧HasL X.K W H ds xs∧Vals xs its∧s.heap.IsList a its.toArray∧∀ y∈ds,shal m y=true):=by
 rcases h.ref hs with ⟨rfl,rfl⟩|⟨b,rfl,rfl⟩|⟨b,rfl,rfl⟩|⟨b,rfl,rfl⟩|⟨ds,a,xs,m,z,rfl,rfl,q,r,g⟩|⟨ds,a,xs,m,z,rfl,rfl,q,r,g⟩
 ·exact .inl ⟨rfl,rx⟩
 ·exact .inr (.inl ⟨b,rfl,rx⟩)
 ·obtain ⟨t,e⟩:=rx
  exact .inr (.inr (.inl ⟨b,t,rfl,e⟩))
 ·obtain ⟨t,e⟩:=rx
  exact .inr (.inr (.inr (.inl ⟨b,t,rfl,e⟩)))
 ·obtain ⟨its,rv,p,_⟩:=I.tuple q
  exact .inr (.inr (.inr (.inr (.inl ⟨ds,a,xs,its,m,z,rfl,rfl,rx,r,rv,p,g⟩))))
 ·obtain ⟨its,rv,p,_⟩:=I.list q
  exact .inr (.inr (.inr (.inr (.inr ⟨ds,a,xs,its,m,z,rfl,rfl,rx,r,rv,p.isList,g⟩))))
theorem eqAt_D (I:Inv X pins σ H s):∀ (n:Nat) (A:Around) {d e:D} {x y:V} {v u:Value},A.units+n<cLine→HasT X.K W H d x→HasT X.K W H e y→RelV x v→RelV y u→shal n d=true→shal n e=true→
  EqAt A s v u (eqD d e)∧RcAt A s v u (eqD d e)∧RcNeAt A s v u (!eqD d e):=by
 intro n
 induction n with
 |zero=>
  intro A d e x y v u hu h1 h2 rx ry s1 s2
  rcases h1.view I rx s1 with ⟨rfl,rfl⟩|⟨b,rfl,rfl⟩|⟨b,t,rfl,rfl⟩|⟨b,t,rfl,rfl⟩|⟨_,_,_,_,m,z,_⟩|⟨_,_,_,_,m,z,_⟩<;>
  rcases h2.view I ry s2 with ⟨rfl,rfl⟩|⟨c,rfl,rfl⟩|⟨c,t',rfl,rfl⟩|⟨c,t',rfl,rfl⟩|⟨_,_,_,_,m',z',_⟩|⟨_,_,_,_,m',z',_⟩<;>first|(cases z;done)|(cases z';done)|skip
  ·exact ⟨EqAt.same _,RcAt.none_none,RcNeAt.none_none⟩
  ·exact ⟨EqAt.none_bool _,RcAt.none_bool _,RcNeAt.none_bool _⟩
  ·exact ⟨EqAt.none_int _ _,RcAt.none_int _ _,RcNeAt.none_int _ _⟩
  ·exact ⟨EqAt.none_str _ _,RcAt.none_str _ _,RcNeAt.none_str _ _⟩
  ·exact ⟨EqAt.bool_none _,RcAt.bool_none _,RcNeAt.bool_none _⟩
  ·exact ⟨EqAt.bool_bool _ _,RcAt.bool_bool _ _,RcNeAt.bool_bool _ _⟩
  ·exact ⟨EqAt.bool_int _ _ _,RcAt.bool_int _ _ _,RcNeAt.bool_int _ _ _⟩
  ·exact ⟨EqAt.bool_str _ _ _,RcAt.bool_str _ _ _,RcNeAt.bool_str _ _ _⟩
  ·exact ⟨EqAt.int_none _ _,RcAt.int_none _ _,RcNeAt.int_none _ _⟩
  ·exact ⟨EqAt.int_bool _ _ _,RcAt.int_bool _ _ _,RcNeAt.int_bool _ _ _⟩
  ·exact ⟨EqAt.int_int _ _ _ _,RcAt.int_int _ _ _ _,RcNeAt.int_int _ _ _ _⟩
  ·exact ⟨EqAt.int_str _ _ _ _,RcAt.int_str _ _ _ _,RcNeAt.int_str _ _ _ _⟩
  ·exact ⟨EqAt.str_none _ _,RcAt.str_none _ _,RcNeAt.str_none _ _⟩
  ·exact ⟨EqAt.str_bool _ _ _,RcAt.str_bool _ _ _,RcNeAt.str_bool _ _ _⟩
  ·exact ⟨EqAt.str_int _ _ _ _,RcAt.str_int _ _ _ _,RcNeAt.str_int _ _ _ _⟩
  ·exact ⟨EqAt.str_str _ _ _ _,RcAt.str_str _ _ _ _,RcNeAt.str_str _ _ _ _⟩
 |succ n ih=>
  intro A d e x y v u hu h1 h2 rx ry s1 s2
  have hu0:A.units<cLine:=by omega
  have hu1:A.in1.units+n<cLine:=by show A.units+1+n<cLine;omega
  have same:=fun (ee:x=y)=>Cz5M I (n+1) h1 (ee▸h2) s1 s2
  rcases h1.view I rx s1 with ⟨rfl,rfl⟩|⟨b,rfl,rfl⟩|⟨b,t,rfl,rfl⟩|⟨b,t,rfl,rfl⟩|⟨ds,a,xs,its,m,z,rfl,rfl,rfl,r,rv,p,g⟩|⟨ds,a,xs,its,m,z,rfl,rfl,rfl,r,rv,p,g⟩<;>
  rcases h2.view I ry s2 with ⟨rfl,rfl⟩|⟨c,rfl,rfl⟩|⟨c,t',rfl,rfl⟩|⟨c,t',rfl,rfl⟩|⟨es,a',ys,its',m',z',rfl,rfl,rfl,r',rv',p2,g'⟩|⟨es,a',ys,its',m',z',rfl,rfl,rfl,r',rv',p2,g'⟩
  all_goals first|cases z|skip
  all_goals first|cases z'|skip
  ·exact ⟨EqAt.same _,RcAt.none_none,RcNeAt.none_none⟩
  ·exact ⟨EqAt.none_bool _,RcAt.none_bool _,RcNeAt.none_bool _⟩
  ·exact ⟨EqAt.none_int _ _,RcAt.none_int _ _,RcNeAt.none_int _ _⟩
  ·exact ⟨EqAt.none_str _ _,RcAt.none_str _ _,RcNeAt.none_str _ _⟩
  ·exact ⟨EqAt.none_tuple p2 hu0,RcAt.none_tuple p2 hu0,RcNeAt.none_tuple p2 hu0⟩
  ·exact ⟨EqAt.none_list p2 hu0,RcAt.none_list p2 hu0,RcNeAt.none_list p2 hu0⟩
  ·exact ⟨EqAt.bool_none _,RcAt.bool_none _,RcNeAt.bool_none _⟩
  ·exact ⟨EqAt.bool_bool _ _,RcAt.bool_bool _ _,RcNeAt.bool_bool _ _⟩
  ·exact ⟨EqAt.bool_int _ _ _,RcAt.bool_int _ _ _,RcNeAt.bool_int _ _ _⟩
  ·exact ⟨EqAt.bool_str _ _ _,RcAt.bool_str _ _ _,RcNeAt.bool_str _ _ _⟩
  ·exact ⟨EqAt.bool_tuple _ p2 hu0,RcAt.bool_tuple _ p2 hu0,RcNeAt.bool_tuple _ p2 hu0⟩
  ·exact ⟨EqAt.bool_list _ p2 hu0,RcAt.bool_list _ p2 hu0,RcNeAt.bool_list _ p2 hu0⟩
  ·exact ⟨EqAt.int_none _ _,RcAt.int_none _ _,RcNeAt.int_none _ _⟩
  ·exact ⟨EqAt.int_bool _ _ _,RcAt.int_bool _ _ _,RcNeAt.int_bool _ _ _⟩
  ·exact ⟨EqAt.int_int _ _ _ _,RcAt.int_int _ _ _ _,RcNeAt.int_int _ _ _ _⟩
  ·exact ⟨EqAt.int_str _ _ _ _,RcAt.int_str _ _ _ _,RcNeAt.int_str _ _ _ _⟩
  ·exact ⟨EqAt.int_tuple _ _ p2 hu0,RcAt.int_tuple _ _ p2 hu0,RcNeAt.int_tuple _ _ p2 hu0⟩
  ·exact ⟨EqAt.int_list _ _ p2 hu0,RcAt.int_list _ _ p2 hu0,RcNeAt.int_list _ _ p2 hu0⟩
  ·exact ⟨EqAt.str_none _ _,RcAt.str_none _ _,RcNeAt.str_none _ _⟩
  ·exact ⟨EqAt.str_bool _ _ _,RcAt.str_bool _ _ _,RcNeAt.str_bool _ _ _⟩
  ·exact ⟨EqAt.str_int _ _ _ _,RcAt.str_int _ _ _ _,RcNeAt.str_int _ _ _ _⟩
  ·exact ⟨EqAt.str_str _ _ _ _,RcAt.str_str _ _ _ _,RcNeAt.str_str _ _ _ _⟩
  ·exact ⟨EqAt.str_tuple _ _ p2 hu0,RcAt.str_tuple _ _ p2 hu0,RcNeAt.str_tuple _ _ p2 hu0⟩
  ·exact ⟨EqAt.str_list _ _ p2 hu0,RcAt.str_list _ _ p2 hu0,RcNeAt.str_list _ _ p2 hu0⟩
  ·exact ⟨EqAt.tuple_none p hu0,RcAt.tuple_none p hu0,RcNeAt.tuple_none p hu0⟩
  ·exact ⟨EqAt.tuple_bool _ p hu0,RcAt.tuple_bool _ p hu0,RcNeAt.tuple_bool _ p hu0⟩
  ·exact ⟨EqAt.tuple_int _ _ p hu0,RcAt.tuple_int _ _ p hu0,RcNeAt.tuple_int _ _ p hu0⟩
  ·exact ⟨EqAt.tuple_str _ _ p hu0,RcAt.tuple_str _ _ p hu0,RcNeAt.tuple_str _ _ p hu0⟩
  ·have he:=Bz1I (A:=A.in1) n (fun h1 h2 rx ry s1 s2=>(ih A.in1 hu1 h1 h2 rx ry s1 s2).1) r r' rv rv' g g'
   have l1:its.toArray.size=ds.length:=by rw [List.size_toArray,←rv.length,r.length]
   have l2:its'.toArray.size=es.length:=by rw [List.size_toArray,←rv'.length,r'.length]
   have ee:((List.range (min its.toArray.size its'.toArray.size)).all (fun j=>eqD (ds.getD j .non) (es.getD j .non))&&its.toArray.size==its'.toArray.size)=eqD (.tup ds) (.tup es):=by
    rw [eqD,l1,l2]
    by_cases hl:ds.length=es.length
    ·rw [Bz0A ds es hl,←hl];simp
    ·rw [Bz8V ds es hl];simp [hl]
   have rc:=RcAt.tuples p p2 hu0 he
   rw [ee] at rc
   refine ⟨?_,rc,?_⟩
   ·by_cases ha:a=a'
    ·subst ha
     rw [same rfl]
     exact EqAt.same _
    ·exact EqAt.of_refs ha rc
   ·have rn:=RcNeAt.tuples p p2 hu0 he
    rw [ee] at rn
    exact rn
  ·exact ⟨EqAt.tuple_list p p2 hu0,RcAt.tuple_list p p2 hu0,RcNeAt.tuple_list p p2 hu0⟩
  ·exact ⟨EqAt.list_none p hu0,RcAt.list_none p hu0,RcNeAt.list_none p hu0⟩
  ·exact ⟨EqAt.list_bool _ p hu0,RcAt.list_bool _ p hu0,RcNeAt.list_bool _ p hu0⟩
  ·exact ⟨EqAt.list_int _ _ p hu0,RcAt.list_int _ _ p hu0,RcNeAt.list_int _ _ p hu0⟩
  ·exact ⟨EqAt.list_str _ _ p hu0,RcAt.list_str _ _ p hu0,RcNeAt.list_str _ _ p hu0⟩
  ·exact ⟨EqAt.list_tuple p p2 hu0,RcAt.list_tuple p p2 hu0,RcNeAt.list_tuple p p2 hu0⟩
  ·have he:=Bz1I (A:=A.in1) n (fun h1 h2 rx ry s1 s2=>(ih A.in1 hu1 h1 h2 rx ry s1 s2).1) r r' rv rv' g g'
   have l1:its.toArray.size=ds.length:=by rw [List.size_toArray,←rv.length,r.length]
   have l2:its'.toArray.size=es.length:=by rw [List.size_toArray,←rv'.length,r'.length]
   have both:RcAt A s (.ref a) (.ref a') (eqD (.lst ds) (.lst es))∧RcNeAt A s (.ref a) (.ref a') (!eqD (.lst ds) (.lst es)):=by
    by_cases hl:ds.length=es.length
    ·have hsz:its.toArray.size=its'.toArray.size:=by rw [l1,l2,hl]
     have rc:=RcAt.lists p p2 hsz hu0 he
     have rn:=RcNeAt.lists p p2 hsz hu0 he
     rw [l1,←Bz0A ds es hl] at rc rn
     rw [eqD]
     exact ⟨rc,rn⟩
    ·have hsz:(its.toArray.size != its'.toArray.size)=true:=by rw [l1,l2];simpa using hl
     rw [eqD,Bz8V ds es hl]
     exact ⟨RcAt.lists_lengths p p2 hsz hu0,RcNeAt.lists_lengths p p2 hsz hu0⟩
   refine ⟨?_,both⟩
   by_cases ha:a=a'
   ·subst ha
    rw [same rfl]
    exact EqAt.same _
   ·exact EqAt.of_refs ha both.1
end
end L3
namespace L3
open PySem PySem.Spec PyProof.Rows L2 SeqAt
section
variable {K:PySem.W.Frag} {xw:XW} {W:WS} {H:Hp} {Q:VK}
theorem RE.int {i:Int} (h:RE K xw W H (.ok (.int i)) Q):Q (.int i) H:=h _ H (Same.refl H) (by rw [Has])
theorem RE.bl {i:Bool} (h:RE K xw W H (.ok (.bl i)) Q):Q (.bl i) H:=h _ H (Same.refl H) (by rw [Has])
theorem RE.str {i:Str} (h:RE K xw W H (.ok (.str i)) Q):Q (.str i) H:=h _ H (Same.refl H) (by rw [Has])
theorem RE.non (h:RE K xw W H (.ok .non) Q):Q .non H:=h _ H (Same.refl H) (by rw [Has])
theorem Az1G {a:Addr} {o:HO} (h:H a=none):Same H (upd H a o):=fun b u e=>by rw [upd_ne (Az0J e h)];exact e
theorem RE.newT {ds:List D} {xs:List V} {p:Addr} (h:RE K xw W H (.ok (.tup ds)) Q) (w:WL W H) (hp:H p=none) (q:HasL K W H ds xs):Q (.ref p) (upd H p (.tup xs)):=
 h _ _ (Az1G hp) (by rw [Has];exact ⟨p,xs,rfl, .of Az0L,q.same (Az1G hp) w⟩)
theorem Cz2M {a:Addr} (w:WL W H) (h:H a=none):¬ W a:=fun z=>by
 obtain ⟨xs,e,_⟩:=w a z
 rw [h] at e;cases e
end
section
variable {X:Cx} {xw:XW} {a b c e:Expr} {fa fb fc f:DSt→Res D} {pos:Pos}
theorem DE.p (h:DE X xw e f):DP X xw e f:=PE.weak h fun σ H Q ⟨W₀,H₀,W,δ,st,q⟩=>⟨W₀,H₀,W,δ,st,by
 cases hf:f δ with
 |ok d=>rw [hf] at q;exact fun v H' k h=>q v H' k (.inl h)
 |ex c fs=>rw [hf] at q;exact q
 |stuck=>rw [hf] at q;exact q⟩
theorem DF.de {f:DSt→Res (List D)} (h:DF X xw e f):DE X xw e (fun δ=>(f δ).bind fun ds=> .ok (.lst ds)):=PE.weak h fun σ H Q ⟨W₀,H₀,W,δ,st,q⟩=>⟨W₀,H₀,W,δ,st,by
 dsimp only at q
 cases hf:f δ with
 |ok d=>
  rw [hf] at q
  refine fun a xs H1 k n r=>q _ _ (k.trans (Az1G n)) ?_
  have w1:=st.fr.wl.same k
  rw [Has]
  exact ⟨a,xs,rfl, .inl ⟨Az0L,Cz2M w1 n⟩,r.same (Az1G n) w1⟩
 |ex c fs=>rw [hf] at q;exact q
 |stuck=>rw [hf] at q;exact q⟩
def slotD (i:Nat) (δ:DSt):Res D:=match δ[i]? with
 |some (some (.d x))=> .ok x
 |_=> .stuck
def slotP (i:Nat) (δ:DSt):Res D:=match δ[i]? with
 |some (some (.d x))=> .ok x
 |some (some (.o ds))=> .ok (.lst ds)
 |_=> .stuck
theorem de_var (i:Nat) {x:Str} (hN:X.N[i]? =some x:=by rfl) (hv:Vis X.env.scope x:=by first|exact Or.inl rfl|exact Or.inr (Or.inl rfl)|exact Or.inr (Or.inr rfl)) (hd:(x==("__debug__":Str))=false:=by decide)
  (hcd:(x==("__classdict__":Str))=false:=by decide):DE X xw (.Name x pos) (slotD i):=PE.weak (pe_var hN hv hd hcd) fun σ H Q ⟨W₀,H₀,W,δ,st,q⟩=>by
 unfold slotD at q
 split at q
 ·rename_i d h
  obtain ⟨v,e,r⟩:=st.at' i _ h
  exact ⟨v,e,q v H (Same.refl H) r⟩
 ·exact q.elim
theorem dp_var (i:Nat) {x:Str} (hN:X.N[i]? =some x:=by rfl) (hv:Vis X.env.scope x:=by first|exact Or.inl rfl|exact Or.inr (Or.inl rfl)|exact Or.inr (Or.inr rfl)) (hd:(x==("__debug__":Str))=false:=by decide)
  (hcd:(x==("__classdict__":Str))=false:=by decide):DP X xw (.Name x pos) (slotP i):=PE.weak (pe_var hN hv hd hcd) fun σ H Q ⟨W₀,H₀,W,δ,st,q⟩=>by
 unfold slotP at q
 split at q
 ·rename_i d h
  obtain ⟨v,e,r⟩:=st.at' i _ h
  exact ⟨v,e,q v H (Same.refl H) (.inl r)⟩
 ·rename_i ds h
  obtain ⟨v,e,a,xs,r1,r2,r3,r4,r5⟩:=st.at' i _ h
  exact ⟨v,e,q v H (Same.refl H) (.inr ⟨ds,a,xs,rfl,r1,r4,r5⟩)⟩
 ·exact q.elim
theorem de_int {i:Int} {j}:DE X xw (.Constant (.int i) j pos) (fun _=> .ok (.int i)):=PE.weak pe_int fun σ H Q ⟨_,_,_,_,_,q⟩=>q.int
theorem de_bl {i:Bool} {j}:DE X xw (.Constant (.bool i) j pos) (fun _=> .ok (.bl i)):=PE.weak pe_bl fun σ H Q ⟨_,_,_,_,_,q⟩=>q.bl
theorem de_str {i:Str} {j}:DE X xw (.Constant (.str i) j pos) (fun _=> .ok (.str i)):=PE.weak pe_str fun σ H Q ⟨_,_,_,_,_,q⟩=>q.str
theorem de_non {j}:DE X xw (.Constant .none j pos) (fun _=> .ok .non):=PE.weak pe_non fun σ H Q ⟨_,_,_,_,_,q⟩=>q.non
theorem Cz2Z {x:Str} {v:V} {u:Value} {d:D} (hm:X.mg x=some u) (r:RelV v u) (hd:∀ W H,Has X.K W H d v) (hg:Gl X x:=by rfl) (hdb:(x==("__debug__":Str))=false:=by decide):DE X xw (.Name x pos) (fun _=> .ok d):=
 PE.weak (Cz7Q hg hm r hdb) fun σ H Q ⟨_,_,W,_,_,q⟩=>q v H (Same.refl H) (hd W H)
def Op2 (X:Cx) (xw:XW) (r:R2) (op:D→D→Res D):Prop:=∀ (W:WS) (H:Hp) (d e:D) (v u:V) (Q:VK),WL W H→HasT X.K W H d v→HasT X.K W H e u→RE X.K xw W H (op d e) Q→r v u H Q
theorem Az4Y {σ:L2.St} {H:Hp} {W₀ W:WS} {H₀:Hp} {δ:DSt} {op:D→D→Res D} {Q:VK} {R:V→V→Hp→Prop} (st:StHas X.K W₀ H₀ W H σ δ)
  (q:RE X.K xw W H ((fa δ).bind fun x=>(fb δ).bind fun y=>op x y) Q)
  (h:∀ H2 d e v u,Same H H2→WL W H2→HasT X.K W H2 d v→HasT X.K W H2 e u→fa δ= .ok d→fb δ= .ok e→RE X.K xw W H2 (op d e) Q→R v u H2):
  tDP X.K xw fa σ H fun x H1=>tDP X.K xw fb σ H1 fun y H2=>R x y H2:=by
 refine ⟨W₀,H₀,W,δ,st,?_⟩
 cases h1:fa δ with
 |stuck=>rw [h1] at q;exact q
 |ex c fs=>rw [h1] at q;exact q
 |ok d=>
  rw [h1] at q
  intro v H1 k1 hv
  refine ⟨W₀,H₀,W,δ,st.same k1,?_⟩
  have q':RE X.K xw W H ((fb δ).bind fun y=>op d y) Q:=q
  cases h2:fb δ with
  |stuck=>rw [h2] at q';exact q'
  |ex c fs=>rw [h2] at q';exact fun H2 k2=>q' H2 (k1.trans k2)
  |ok e=>
   rw [h2] at q'
   intro u H2 k2 hu
   have q2:RE X.K xw W H (op d e) Q:=q'
   exact h H2 d e v u (k1.trans k2) (st.fr.wl.same (k1.trans k2)) (hv.same k2 (st.fr.wl.same k1)) hu h1 h2 (q2.same (k1.trans k2))
theorem de_op2 {o:Operator} {r:R2} {op:D→D→Res D} (ho:OpR X (binaryOp o) r) (hr:Op2 X xw r op) (ha:DP X xw a fa) (hb:DP X xw b fb):
  DE X xw (.BinOp a o b pos) (fun δ=>(fa δ).bind fun x=>(fb δ).bind fun y=>op x y):=
 PE.weak (pe_op ho ha hb) fun σ H Q ⟨W₀,H₀,W,δ,st,q⟩=>Az4Y st q fun H2 d e v u k w hv hu _ _ q2=>hr W H2 d e v u Q w hv hu q2
theorem op_catT0:OpR X (binaryOp .Add) (fun x y H Q=>∃ a b ys,x= .ref a∧y= .ref b∧SqT X.K H a []∧SqT X.K H b ys∧Q (.ref b) H):=by
 intro pins s σ H x y v u Q I rx ry h
 obtain ⟨a,b,ys,rfl,rfl,ha,hb,q⟩:=h
 cases rx
 cases ry
 obtain ⟨its,r1,p1,_⟩:=I.tuple ha
 obtain ⟨its2,r2,p2,_⟩:=I.tuple hb
 have e0:its= []:=r1.nil_iff.mpr rfl
 subst e0
 obtain ⟨⟨cls,dd,data,sl⟩,ho,hc,n,hd⟩:=id p1
 obtain ⟨⟨cls2,dd2,data2,sl2⟩,ho2,hc2,n2,hd2⟩:=id p2
 simp only at hc hd hc2 hd2
 subst hc hd hc2 hd2
 exact concat_meets ⟨_,ho,rfl⟩ ⟨_,ho2,rfl⟩ noFill_tuple_add seq_tuple_add PySem.F.slot_tuple_add PySem.F.entry_tuple_add (PySem.F.args_tuple_add_2 _ _)
   (tuple_addW0 a b _ its2.toArray n n2 dd dd2 sl sl2 (by simp)) ⟨ho,ho2,⟨.ref b,H,I,rfl,q⟩⟩
noncomputable def addD:D→D→Res D
 | .int i, .int j=> .ok (.int (i+j))
 | .str x, .str y=>@ite (Res D) (x.length+y.length≤sizeLine) (Classical.propDecidable _) (.ok (.str (x++y))) .stuck
 | .tup xs, .tup ys=>@ite (Res D) (xs.length+ys.length≤sizeLine) (Classical.propDecidable _) (.ok (.tup (xs++ys))) .stuck
 |_,_=> .stuck
theorem de_add (ha:DP X xw a fa) (hb:DP X xw b fb):DE X xw (.BinOp a .Add b pos) (fun δ=>(fa δ).bind fun x=>(fb δ).bind fun y=>addD x y):=by
 refine de_op2 ((op_add.or Bz7H).or (op_catT0.or Cz7Z)) (fun W H d e v u Q w hv hu q=> ?_) ha hb
 unfold addD at q
 split at q
 ·exact .inl (.inl ⟨_,_,hv.int,hu.int,q.int⟩)
 ·split at q
  ·rename_i hz
   exact .inl (.inr ⟨_,_,hv.str,hu.str,hz,q.str⟩)
  ·exact q.elim
 ·rename_i ds es
  split at q
  ·rename_i hz
   obtain ⟨a1,xs,e1,s1,r1⟩:=hv.tup
   obtain ⟨a2,ys,e2,s2,r2⟩:=hu.tup
   by_cases hx:xs= []
   ·subst hx
    have hd:ds= []:=by
     have:=r1.length
     exact List.eq_nil_of_length_eq_zero (by simpa using this)
    subst hd
    refine .inr (.inl ⟨a1,a2,ys,e1,e2,s1,s2,q _ H (Same.refl H) ?_⟩)
    rw [Has];exact ⟨a2,ys,rfl,s2,r2⟩
   ·refine .inr (.inr ⟨a1,a2,xs,ys,e1,e2,s1,s2,hx,by rw [←r1.length,←r2.length];exact hz,fun hy=> ?_,fun _ p hp=>q.newT w hp (r1.append r2)⟩)
    subst hy
    have he:es= []:=by
     have:=r2.length
     exact List.eq_nil_of_length_eq_zero (by simpa using this)
    subst he
    refine q _ H (Same.refl H) ?_
    rw [Has,List.append_nil];exact ⟨a1,xs,rfl,s1,r1⟩
  ·exact q.elim
 ·exact q.elim
def subD:D→D→Res D
 | .int i, .int j=> .ok (.int (i-j))
 |_,_=> .stuck
theorem de_sub (ha:DP X xw a fa) (hb:DP X xw b fb):DE X xw (.BinOp a .Sub b pos) (fun δ=>(fa δ).bind fun x=>(fb δ).bind fun y=>subD x y):=by
 refine de_op2 op_sub (fun W H d e v u Q w hv hu q=> ?_) ha hb
 unfold subD at q
 split at q
 ·exact ⟨_,_,hv.int,hu.int,q.int⟩
 ·exact q.elim
noncomputable def modD:D→D→Res D
 | .int i, .int j=>@ite (Res D) (0<j) (Classical.propDecidable _) (.ok (.int (i%j))) .stuck
 |_,_=> .stuck
theorem de_mod (ha:DP X xw a fa) (hb:DP X xw b fb):DE X xw (.BinOp a .Mod b pos) (fun δ=>(fa δ).bind fun x=>(fb δ).bind fun y=>modD x y):=by
 refine de_op2 op_mod (fun W H d e v u Q w hv hu q=> ?_) ha hb
 unfold modD at q
 split at q
 ·split at q
  ·rename_i hj
   exact ⟨_,_,hv.int,hu.int,hj,q.int⟩
  ·exact q.elim
 ·exact q.elim
noncomputable def fdivD:D→D→Res D
 | .int i, .int j=>@ite (Res D) (0<j∧j<1073741824) (Classical.propDecidable _) (.ok (.int (i / j))) .stuck
 |_,_=> .stuck
theorem Cz9X (ha:DP X xw a fa) (hb:DP X xw b fb):DE X xw (.BinOp a .FloorDiv b pos) (fun δ=>(fa δ).bind fun x=>(fb δ).bind fun y=>fdivD x y):=by
 refine de_op2 Cz7Y (fun W H d e v u Q w hv hu q=> ?_) ha hb
 unfold fdivD at q
 split at q
 ·split at q
  ·rename_i hj
   exact ⟨_,_,hv.int,hu.int,hj,q.int⟩
  ·exact q.elim
 ·exact q.elim
noncomputable def mulD:D→D→Res D
 | .int i, .int j=>@ite (Res D) ((-(2^64)<i∧i<2^64)∨(-(2^64)<j∧j<2^64)) (Classical.propDecidable _) (.ok (.int (i*j))) .stuck
 |_,_=> .stuck
def negD:D→Res D
 | .int i=> .ok (.int (-i))
 |_=> .stuck
theorem Az5X {σ:L2.St} {H:Hp} {W₀ W:WS} {H₀:Hp} {δ:DSt} {op:D→Res D} {Q:VK} {R:V→Hp→Prop} (st:StHas X.K W₀ H₀ W H σ δ)
  (q:RE X.K xw W H ((fa δ).bind op) Q)
  (h:∀ H2 d v,Same H H2→WL W H2→StHas X.K W₀ H₀ W H2 σ δ→HasT X.K W H2 d v→fa δ= .ok d→RE X.K xw W H2 (op d) Q→R v H2):
  tDP X.K xw fa σ H fun x H1=>R x H1:=by
 refine ⟨W₀,H₀,W,δ,st,?_⟩
 cases h1:fa δ with
 |stuck=>rw [h1] at q;exact q
 |ex c fs=>rw [h1] at q;exact q
 |ok d=>
  rw [h1] at q
  intro v H1 k1 hv
  exact h H1 d v k1 (st.fr.wl.same k1) (st.same k1) hv h1 (RE.same (r:=op d) q k1)
theorem de_neg (ha:DP X xw a fa):DE X xw (.UnaryOp .USub a pos) (fun δ=>(fa δ).bind negD):=
 PE.weak (pe_un un_neg ha) fun σ H Q ⟨W₀,H₀,W,δ,st,q⟩=>Az5X st q fun H2 d v k w st2 hv _ q2=>by
  unfold negD at q2
  split at q2
  ·exact ⟨_,hv.int,q2.int⟩
  ·exact q2.elim
def eqR (d e:D):Res D:=if (shal 40 d&&shal 40 e)=true then .ok (.bl (eqD d e)) else .stuck
def neR (d e:D):Res D:=if (shal 40 d&&shal 40 e)=true then .ok (.bl (!eqD d e)) else .stuck
def ltR:D→D→Res D
 | .int i, .int j=> .ok (.bl (decide (i<j)))
 |_,_=> .stuck
def leR:D→D→Res D
 | .int i, .int j=> .ok (.bl (decide (i≤j)))
 |_,_=> .stuck
def gtR:D→D→Res D
 | .int i, .int j=> .ok (.bl (decide (j<i)))
 |_,_=> .stuck
def geR:D→D→Res D
 | .int i, .int j=> .ok (.bl (decide (j≤i)))
 |_,_=> .stuck
structure CmpR (X:Cx) (xw:XW) (o:CmpOp) (op:D→D→Res D):Prop where
 ex:∃ r,OpR X (compareOp o) r∧Op2 X xw r op
 bl:∀ d e z,op d e= .ok z→∃ k,z= .bl k
 nm:o≠ .In∧o≠ .NotIn
theorem op_eqD (hu:X.A.units+40<cLine):OpR X (compareOp .Eq) (fun x y H Q=>∃ W d e,HasT X.K W H d x∧HasT X.K W H e y∧shal 40 d=true∧shal 40 e=true∧Q (.bl (eqD d e)) H):=by
 intro pins s σ H x y v u Q I rx ry h
 obtain ⟨W,d,e,h1,h2,s1,s2,q⟩:=h
 exact (eqAt_D I 40 X.A hu h1 h2 rx ry s1 s2).2.1 _ _ _ _ ⟨.bl _,H,I,rfl,q⟩
theorem op_neD (hu:X.A.units+40<cLine):OpR X (compareOp .NotEq) (fun x y H Q=>∃ W d e,HasT X.K W H d x∧HasT X.K W H e y∧shal 40 d=true∧shal 40 e=true∧Q (.bl (!eqD d e)) H):=by
 intro pins s σ H x y v u Q I rx ry h
 obtain ⟨W,d,e,h1,h2,s1,s2,q⟩:=h
 exact (eqAt_D I 40 X.A hu h1 h2 rx ry s1 s2).2.2 _ _ _ _ ⟨.bl _,H,I,rfl,q⟩
theorem c_eq (hu:X.A.units+40<cLine):CmpR X xw .Eq eqR:=⟨⟨_,op_eqD hu,fun W H d e v u Q w hv hu q=>by
  unfold eqR at q
  split at q
  ·rename_i hs
   rw [Bool.and_eq_true] at hs
   exact ⟨W,d,e,hv,hu,hs.1,hs.2,q.bl⟩
  ·exact q.elim⟩,fun d e z h=>by unfold eqR at h;split at h<;>cases h;exact ⟨_,rfl⟩,by decide,by decide⟩
theorem c_ne (hu:X.A.units+40<cLine):CmpR X xw .NotEq neR:=⟨⟨_,op_neD hu,fun W H d e v u Q w hv hu q=>by
  unfold neR at q
  split at q
  ·rename_i hs
   rw [Bool.and_eq_true] at hs
   exact ⟨W,d,e,hv,hu,hs.1,hs.2,q.bl⟩
  ·exact q.elim⟩,fun d e z h=>by unfold neR at h;split at h<;>cases h;exact ⟨_,rfl⟩,by decide,by decide⟩
theorem c_lt:CmpR X xw .Lt ltR:=⟨⟨_,op_lt,fun W H d e v u Q w hv hu q=>by
  unfold ltR at q
  split at q
  ·exact ⟨_,_,hv.int,hu.int,q.bl⟩
  ·exact q.elim⟩,fun d e z h=>by unfold ltR at h;split at h<;>cases h;exact ⟨_,rfl⟩,by decide,by decide⟩
theorem c_le:CmpR X xw .LtE leR:=⟨⟨_,op_le,fun W H d e v u Q w hv hu q=>by
  unfold leR at q
  split at q
  ·exact ⟨_,_,hv.int,hu.int,q.bl⟩
  ·exact q.elim⟩,fun d e z h=>by unfold leR at h;split at h<;>cases h;exact ⟨_,rfl⟩,by decide,by decide⟩
theorem c_ge:CmpR X xw .GtE geR:=⟨⟨_,op_ge,fun W H d e v u Q w hv hu q=>by
  unfold geR at q
  split at q
  ·exact ⟨_,_,hv.int,hu.int,q.bl⟩
  ·exact q.elim⟩,fun d e z h=>by unfold geR at h;split at h<;>cases h;exact ⟨_,rfl⟩,by decide,by decide⟩
def isNR (d:D):Res D:=match d with
 | .non=> .ok (.bl true)
 |_=> .ok (.bl false)
theorem HasT.isN {K:PySem.W.Frag} {W:WS} {H:Hp} {d:D} {v:V} (h:HasT K W H d v) (hd:d≠ .non):v≠ .non:=by
 rintro rfl
 rcases h with h|⟨ds,a,xs,h1,h2,_⟩
 ·cases d with
  |non=>exact hd rfl
  |bl b=>rw [Has] at h;cases h
  |int b=>rw [Has] at h;cases h
  |str b=>rw [Has] at h;cases h
  |tup b=>rw [Has] at h;obtain ⟨_,_,z,_⟩:=h;cases z
  |lst b=>rw [Has] at h;obtain ⟨_,_,z,_⟩:=h;cases z
  |dct k b=>rw [Has] at h;obtain ⟨_,_,z,_⟩:=h;cases z
  |exc k b=>rw [Has] at h;obtain ⟨_,_,_,z,_⟩:=h;cases z
  |obj c k b=>rw [Has] at h;obtain ⟨_,_,_,_,z,_⟩:=h;cases z
 ·cases h2
theorem de_isN {j pos'} (ha:DP X xw a fa):DE X xw (.Compare a [.Is] [.Constant .none j pos'] pos) (fun δ=>(fa δ).bind isNR):=
 PE.weak (pe_cmp (pc_isN ha)) fun σ H Q ⟨W₀,H₀,W,δ,st,q⟩=>Az5X st q fun H2 d v k w st2 hv _ q2=>by
  unfold isNR at q2
  split at q2
  ·rw [hv.non];exact q2.bl
  ·rename_i hd
   rw [decide_eq_false (hv.isN hd)];exact q2.bl
theorem de_cmp {o:CmpOp} {op:D→D→Res D} (hc:CmpR X xw o op) (ha:DP X xw a fa) (hb:DP X xw b fb):DE X xw (.Compare a [o] [b] pos) (fun δ=>(fa δ).bind fun x=>(fb δ).bind fun y=>op x y):=by
 obtain ⟨⟨r,ho,hr⟩,_,h1,h2⟩:=hc
 exact PE.weak (Cz2K ho ha hb (nomark b h1 h2)) fun σ H Q ⟨W₀,H₀,W,δ,st,q⟩=>Az4Y st q fun H2 d e v u k w hv hu _ _ q2=>hr W H2 d e v u Q w hv hu q2
def boolR:D→Res Bool
 | .bl k=> .ok k
 |_=> .stuck
theorem DE.t_of (ht:PT X e (tB (tDE X.K xw f))):DT X xw e (fun δ=>(f δ).bind boolR):=PT.weak ht fun σ H Q ⟨W₀,H₀,W,δ,st,q⟩=>by
 dsimp only at q
 refine ⟨W₀,H₀,W,δ,st,?_⟩
 cases h1:f δ with
 |stuck=>rw [h1] at q;exact q
 |ex c fs=>rw [h1] at q;exact q
 |ok d=>
  rw [h1] at q
  intro v H1 k1 hv
  have q':RT xw H (boolR d) Q:=q
  unfold boolR at q'
  split at q'
  ·rw [Has] at hv
   exact ⟨_,hv,q' H1 k1⟩
  ·exact q'.elim
theorem DE.t (h:DE X xw e f) (he:∀ whole,isTrue e X.env whole=(do let v ←whole;standAt e.pos;holding [v] (truthy v)):=by intro _;rfl):DT X xw e (fun δ=>(f δ).bind boolR):=DE.t_of (pt_val h he)
theorem dt_cmp {o:CmpOp} {op:D→D→Res D} (hc:CmpR X xw o op) (ha:DP X xw a fa) (hb:DP X xw b fb):DT X xw (.Compare a [o] [b] pos) (fun δ=>((fa δ).bind fun x=>(fb δ).bind fun y=>op x y).bind boolR):=by
 obtain ⟨⟨r,ho,hr⟩,_,h1,h2⟩:=hc
 refine DE.t_of (f:=fun δ=>(fa δ).bind fun x=>(fb δ).bind fun y=>op x y) (PT.weak (Bz3R ho ha hb (nomark b h1 h2)) fun σ H Q q=> ?_)
 obtain ⟨W₀,H₀,W,δ,st,q⟩:=q
 exact Az4Y st q fun H2 d e v u k w hv hu _ _ q2=>hr W H2 d e v u _ w hv hu q2
theorem dt_isN {j pos'} (ha:DP X xw a fa):DT X xw (.Compare a [.Is] [.Constant .none j pos'] pos) (fun δ=>((fa δ).bind isNR).bind boolR):=
 DE.t_of (f:=fun δ=>(fa δ).bind isNR) (PT.weak (pt_cmp (pc_isN ha)) fun σ H Q q=>by
  obtain ⟨W₀,H₀,W,δ,st,q⟩:=q
  exact Az5X st q fun H2 d v k w st2 hv _ q2=>by
   unfold isNR at q2
   split at q2
   ·rw [hv.non];exact q2.bl
   ·rename_i hd
    rw [decide_eq_false (hv.isN hd)];exact q2.bl)
theorem DW.t {g:DSt→Res Bool} (h:DW X xw e g):DT X xw e g:=PW.pt h
def chainR (op op':D→D→Res D) (x y:D) (z:Res D):Res D:=(op x y).bind fun k=>match k with
 | .bl true=>z.bind fun w=>op' y w
 | .bl false=> .ok (.bl false)
 |_=> .stuck
theorem Bz1N {o o':CmpOp} {op op':D→D→Res D} {r r':R2} (hr:Op2 X xw r op) (hr':Op2 X xw r' op') (hbl:∀ d e z,op d e= .ok z→∃ k,z= .bl k)
  {σ:L2.St} {H:Hp} {Q:VK} (q:tDE X.K xw (fun δ=>(fa δ).bind fun x=>(fb δ).bind fun y=>chainR op op' x y (fc δ)) σ H Q):
  tChain r r' (tDP X.K xw fa) (tDP X.K xw fb) (tDP X.K xw fc) σ H Q:=by
 obtain ⟨W₀,H₀,W,δ,st,q⟩:=q
 refine Az4Y (op:=fun x y=>chainR op op' x y (fc δ)) st q fun H2 d e v u k w hv hu _ _ q2=> ?_
 refine hr W H2 d e v u _ w hv hu ?_
 unfold chainR at q2
 cases h1:op d e with
 |stuck=>rw [h1] at q2;exact q2
 |ex c fs=>rw [h1] at q2;exact q2
 |ok z=>
  obtain ⟨k0,rfl⟩:=hbl _ _ _ h1
  rw [h1] at q2
  intro v' H3 k3 hv'
  rw [Has] at hv'
  refine ⟨k0,hv',?_⟩
  cases k0 with
  |false=>
   have q3:RE X.K xw W H2 (.ok (.bl false)) Q:=q2
   rw [if_neg Bool.false_ne_true]
   exact (q3.same k3).bl
  |true=>
   rw [if_pos rfl]
   have q3:RE X.K xw W H2 ((fc δ).bind fun w=>op' e w) Q:=q2
   refine ⟨W₀,H₀,W,δ,(st.same k).same k3,?_⟩
   cases h3:fc δ with
   |stuck=>rw [h3] at q3;exact q3
   |ex c fs=>rw [h3] at q3;exact fun H' k'=>q3 H' (k3.trans k')
   |ok g=>
    rw [h3] at q3
    intro x4 H4 k4 h4
    have q4:RE X.K xw W H2 (op' e g) Q:=q3
    exact hr' W H4 e g u x4 Q ((w.same k3).same k4) ((hu.same k3 w).same k4 (w.same k3)) h4 (q4.same (k3.trans k4))
theorem Cz5W {o o':CmpOp} {op op':D→D→Res D} (hc:CmpR X xw o op) (hc':CmpR X xw o' op') (ha:DP X xw a fa) (hb:DP X xw b fb) (hcc:DP X xw c fc) (hm:lastMarks [o,o'] [b,c]=false:=by with_unfolding_all rfl):
  DE X xw (.Compare a [o,o'] [b,c] pos) (fun δ=>(fa δ).bind fun x=>(fb δ).bind fun y=>chainR op op' x y (fc δ)):=by
 obtain ⟨⟨r,ho,hr⟩,hbl,_⟩:=hc
 obtain ⟨⟨r',ho',hr'⟩,_,_⟩:=hc'
 exact PE.weak (Cz4J ho ho' ha hb hcc hm) fun σ H Q q=>Bz1N (o:=o) (o':=o') hr hr' hbl q
theorem Cz5N {o o':CmpOp} {op op':D→D→Res D} (hc:CmpR X xw o op) (hc':CmpR X xw o' op') (ha:DP X xw a fa) (hb:DP X xw b fb) (hcc:DP X xw c fc) (hm:lastMarks [o,o'] [b,c]=false:=by with_unfolding_all rfl):
  DT X xw (.Compare a [o,o'] [b,c] pos) (fun δ=>((fa δ).bind fun x=>(fb δ).bind fun y=>chainR op op' x y (fc δ)).bind boolR):=by
 obtain ⟨⟨r,ho,hr⟩,hbl,_⟩:=hc
 obtain ⟨⟨r',ho',hr'⟩,_,_⟩:=hc'
 exact DE.t_of (f:=fun δ=>(fa δ).bind fun x=>(fb δ).bind fun y=>chainR op op' x y (fc δ)) (PT.weak (Cz4B ho ho' ha hb hcc hm) fun σ H Q q=>Bz1N (o:=o) (o':=o') hr hr' hbl q)
def andB (x:Res Bool) (y:Res Bool):Res Bool:=x.bind fun k=>if k=true then y else .ok false
def orB (x:Res Bool) (y:Res Bool):Res Bool:=x.bind fun k=>if k=true then .ok true else y
variable {ga gb:DSt→Res Bool} {rest:List Expr}
theorem Az9K {σ:L2.St} {H:Hp} {W₀ W:WS} {H₀:Hp} {δ:DSt} {k:Bool→Res Bool} {Q:Bool→Hp→Prop} {R:Bool→Hp→Prop} (st:StHas X.K W₀ H₀ W H σ δ) (q:RT xw H ((ga δ).bind k) Q)
  (h:∀ H2 c,Same H H2→StHas X.K W₀ H₀ W H2 σ δ→ga δ= .ok c→RT xw H2 (k c) Q→R c H2):tDT X.K xw ga σ H R:=by
 refine ⟨W₀,H₀,W,δ,st,?_⟩
 cases h1:ga δ with
 |stuck=>rw [h1] at q;exact q
 |ex c fs=>rw [h1] at q;exact q
 |ok c=>
  rw [h1] at q
  exact fun H1 k1=>h H1 c k1 (st.same k1) h1 (RT.same (r:=k c) q k1)
theorem Cz9G (ha:DT X xw a ga):DW X xw (.BoolOp .And [a] pos) ga:=Cz7B ha
theorem dw_or1 (ha:DT X xw a ga):DW X xw (.BoolOp .Or [a] pos) ga:=pw_or1 ha
theorem dw_and (ha:DT X xw a ga) (hb:DW X xw (.BoolOp .And (b::rest) pos) gb):DW X xw (.BoolOp .And (a::b::rest) pos) (fun δ=>andB (ga δ) (gb δ)):=
 PW.weak (pw_and ha hb) fun σ H Q ⟨W₀,H₀,W,δ,st,q⟩=>Az9K st q fun H2 c k st2 _ q2=>by
  cases c with
  |true=>rw [if_pos rfl] at q2 ⊢;exact ⟨W₀,H₀,W,δ,st2,q2⟩
  |false=>rw [if_neg Bool.false_ne_true] at q2 ⊢;exact q2 H2 (Same.refl _)
theorem dw_or (ha:DT X xw a ga) (hb:DW X xw (.BoolOp .Or (b::rest) pos) gb):DW X xw (.BoolOp .Or (a::b::rest) pos) (fun δ=>orB (ga δ) (gb δ)):=
 PW.weak (pw_or ha hb) fun σ H Q ⟨W₀,H₀,W,δ,st,q⟩=>Az9K st q fun H2 c k st2 _ q2=>by
  cases c with
  |true=>rw [if_pos rfl] at q2 ⊢;exact q2 H2 (Same.refl _)
  |false=>rw [if_neg Bool.false_ne_true] at q2 ⊢;exact ⟨W₀,H₀,W,δ,st2,q2⟩
theorem dt_not (ha:DT X xw a ga):DT X xw (.UnaryOp .Not a pos) (fun δ=>(ga δ).bind fun k=> .ok (!k)):=
 PT.weak (pt_not ha) fun σ H Q ⟨W₀,H₀,W,δ,st,q⟩=>Az9K st q fun H2 c k st2 _ q2=>q2 H2 (Same.refl _)
def andD (x:Res D) (y:Res D):Res D:=x.bind fun k=>match k with
 | .bl true=>y
 | .bl false=> .ok (.bl false)
 |_=> .stuck
def orD (x:Res D) (y:Res D):Res D:=x.bind fun k=>match k with
 | .bl true=> .ok (.bl true)
 | .bl false=>y
 |_=> .stuck
def notD:D→Res D
 | .bl k=> .ok (.bl (!k))
 |_=> .stuck
theorem Az9Q {σ:L2.St} {H:Hp} {W₀ W:WS} {H₀:Hp} {δ:DSt} {op:D→Res D} {Q:VK} {R:V→Hp→Prop} (st:StHas X.K W₀ H₀ W H σ δ)
  (q:RE X.K xw W H ((fa δ).bind op) Q)
  (h:∀ H2 d v,Same H H2→WL W H2→StHas X.K W₀ H₀ W H2 σ δ→Has X.K W H2 d v→fa δ= .ok d→RE X.K xw W H2 (op d) Q→R v H2):
  tDE X.K xw fa σ H fun x H1=>R x H1:=by
 refine ⟨W₀,H₀,W,δ,st,?_⟩
 cases h1:fa δ with
 |stuck=>rw [h1] at q;exact q
 |ex c fs=>rw [h1] at q;exact q
 |ok d=>
  rw [h1] at q
  intro v H1 k1 hv
  exact h H1 d v k1 (st.fr.wl.same k1) (st.same k1) hv h1 (RE.same (r:=op d) q k1)
theorem de_one {op} (h:DE X xw a fa):DE X xw (.BoolOp op [a] pos) fa:=pe_one h
theorem de_and (ha:DE X xw a fa) (hb:DE X xw (.BoolOp .And (b::rest) pos) fb):DE X xw (.BoolOp .And (a::b::rest) pos) (fun δ=>andD (fa δ) (fb δ)):=
 PE.weak (pe_and ha hb) fun σ H Q ⟨W₀,H₀,W,δ,st,q⟩=>Az9Q st q fun H2 d v k w st2 hv _ q2=>by
  split at q2
  ·rw [Has] at hv
   exact ⟨true,hv,by rw [if_pos rfl];exact ⟨W₀,H₀,W,δ,st2,q2⟩⟩
  ·rw [Has] at hv
   exact ⟨false,hv,by rw [if_neg Bool.false_ne_true];exact q2.bl⟩
  ·exact q2.elim
theorem de_or (ha:DE X xw a fa) (hb:DE X xw (.BoolOp .Or (b::rest) pos) fb):DE X xw (.BoolOp .Or (a::b::rest) pos) (fun δ=>orD (fa δ) (fb δ)):=
 PE.weak (pe_or ha hb) fun σ H Q ⟨W₀,H₀,W,δ,st,q⟩=>Az9Q st q fun H2 d v k w st2 hv _ q2=>by
  split at q2
  ·rw [Has] at hv
   exact ⟨true,hv,by rw [if_pos rfl];exact q2.bl⟩
  ·rw [Has] at hv
   exact ⟨false,hv,by rw [if_neg Bool.false_ne_true];exact ⟨W₀,H₀,W,δ,st2,q2⟩⟩
  ·exact q2.elim
theorem de_not (ha:DE X xw a fa):DE X xw (.UnaryOp .Not a pos) (fun δ=>(fa δ).bind notD):=
 PE.weak (pe_not ha) fun σ H Q ⟨W₀,H₀,W,δ,st,q⟩=>Az9Q st q fun H2 d v k w st2 hv _ q2=>by
  unfold notD at q2
  split at q2
  ·rw [Has] at hv
   exact ⟨_,hv,q2.bl⟩
  ·exact q2.elim
variable {es:List Expr} {fs:DSt→Res (List D)}
theorem da_nil:DA X xw [] (fun _=> .ok []):=PA.weak pa_nil fun σ H Q ⟨W₀,H₀,W,δ,st,q⟩=>q [] H (Same.refl H) HasL.nil
def consR (x:Res D) (r:Res (List D)):Res (List D):=x.bind fun d=>r.bind fun ds=> .ok (d::ds)
theorem Dz0A (ha:DE X xw a fa) (hr:DA X xw es fs) (hs:starEach (a::es) X.env=(false,eval a X.env)::starEach es X.env:=by rfl):DA X xw (a::es) (fun δ=>consR (fa δ) (fs δ)):=
 PA.weak (Az7V ha hr hs) fun σ H Q ⟨W₀,H₀,W,δ,st,q⟩=>by
  refine ⟨W₀,H₀,W,δ,st,?_⟩
  unfold consR at q
  dsimp only at q
  cases h1:fa δ with
  |stuck=>rw [h1] at q;exact q
  |ex c fs=>rw [h1] at q;exact q
  |ok d=>
   rw [h1] at q
   intro v H1 k1 hv
   refine ⟨W₀,H₀,W,δ,st.same k1,?_⟩
   have q':RA X.K xw W H ((fs δ).bind fun ds=> .ok (d::ds)) Q:=q
   cases h2:fs δ with
   |stuck=>rw [h2] at q';exact q'
   |ex c gs=>rw [h2] at q';exact fun H2 k2=>q' H2 (k1.trans k2)
   |ok ds=>
    rw [h2] at q'
    intro vs H2 k2 hvs
    have q2:RA X.K xw W H (.ok (d::ds)) Q:=q'
    exact q2 (v::vs) H2 (k1.trans k2) (HasL.cons (hv.same k2 (st.fr.wl.same k1)) hvs)
theorem Az7Q {σ:L2.St} {H:Hp} {W₀ W:WS} {H₀:Hp} {δ:DSt} {op:List D→Res D} {Q:VK} {R:List V→Hp→Prop} (st:StHas X.K W₀ H₀ W H σ δ)
  (q:RE X.K xw W H ((fs δ).bind op) Q)
  (h:∀ H2 ds vs,Same H H2→WL W H2→StHas X.K W₀ H₀ W H2 σ δ→HasL X.K W H2 ds vs→fs δ= .ok ds→RE X.K xw W H2 (op ds) Q→R vs H2):
  tDA X.K xw fs σ H fun x H1=>R x H1:=by
 refine ⟨W₀,H₀,W,δ,st,?_⟩
 cases h1:fs δ with
 |stuck=>rw [h1] at q;exact q
 |ex c gs=>rw [h1] at q;exact q
 |ok d=>
  rw [h1] at q
  intro v H1 k1 hv
  exact h H1 d v k1 (st.fr.wl.same k1) (st.same k1) hv h1 (RE.same (r:=op d) q k1)
noncomputable def tupR (ds:List D):Res D:=@ite (Res D) (ds.length≤1000) (Classical.propDecidable _) (.ok (.tup ds)) .stuck
theorem k1000:(1000:Nat)≤sizeLine:=by rw [sizeLine_eq];decide
theorem de_tup {x1} (h:DA X xw es fs):DE X xw (.Tuple es x1 pos) (fun δ=>(fs δ).bind tupR):=
 PE.weak (pe_tup h) fun σ H Q ⟨W₀,H₀,W,δ,st,q⟩=>Az7Q st q fun H2 ds vs k w st2 hv _ q2=>by
  unfold tupR at q2
  split at q2
  ·rename_i hz
   exact ⟨by rw [←hv.length];exact Nat.le_trans hz k1000,fun p hp=>q2.newT w hp hv⟩
  ·exact q2.elim
noncomputable def lstR (ds:List D):Res (List D):=@ite (Res (List D)) (ds.length≤1000) (Classical.propDecidable _) (.ok ds) .stuck
theorem df_lst (h:DA X xw es fs):DF X xw (.List es pos) (fun δ=>(fs δ).bind lstR):=
 PE.weak (pe_lst h) fun σ H Q ⟨W₀,H₀,W,δ,st,q⟩=>by
  dsimp only at q
  refine ⟨W₀,H₀,W,δ,st,?_⟩
  cases h1:fs δ with
  |stuck=>rw [h1] at q;exact q
  |ex c gs=>rw [h1] at q;exact q
  |ok ds=>
   rw [h1] at q
   intro vs H1 k1 hv
   have q':RF X.K xw W H (lstR ds) Q:=q
   unfold lstR at q'
   split at q'
   ·rename_i hz
    exact ⟨by rw [←hv.length];exact Nat.le_trans hz k1000,fun p hp=>q' p vs H1 k1 hp hv⟩
   ·exact q'.elim
noncomputable def ixR:D→D→Res D
 | .tup ds, .int i=>match atI ds i with
  |some d=> .ok d
  |none=> .stuck
 | .lst ds, .int i=>match atI ds i with
  |some d=> .ok d
  |none=> .stuck
 | .str z, .int i=>@ite (Res D) (z.length≤sizeLine) (Classical.propDecidable _) (match atI z.cps.toList i with
  |some c=> .ok (.str ⟨#[c]⟩)
  |none=> .stuck) .stuck
 |_,_=> .stuck
theorem Cz3E {K:PySem.W.Frag} {W:WS} {H:Hp} {ds:List D} {xs:List V} {i:Int} {d:D} (r:HasL K W H ds xs) (h:atI ds i=some d):∃ x,atI xs i=some x∧Has K W H d x:=by
 unfold atI at h ⊢
 rw [r.length] at h
 cases e:ixN xs.length i with
 |none=>rw [e] at h;cases h
 |some j=>
  rw [e] at h
  obtain ⟨x,h1,h2⟩:=r.get (show ds[j]? =some d from h)
  exact ⟨x,h1,h2⟩
theorem de_ix (ha:DP X xw a fa) (hb:DP X xw b fb) (hs:Bz9O b:=by intro _ _;rfl):DE X xw (.Subscript a b pos) (fun δ=>(fa δ).bind fun x=>(fb δ).bind fun y=>ixR x y):=
 PE.weak (pe_ix ix_seq ha hb hs) fun σ H Q ⟨W₀,H₀,W,δ,st,q⟩=>Az4Y st q fun H2 d e v u k w hv hu _ _ q2=>by
  unfold ixR at q2
  split at q2
  ·split at q2
   ·rename_i d' hd
    obtain ⟨p,xs,e1,sq,r⟩:=hv.tup
    obtain ⟨x,h1,h2⟩:=Cz3E r hd
    exact .inr (.inl ⟨p,xs,_,x,e1,hu.int,sq,h1,q2 x H2 (Same.refl _) h2⟩)
   ·exact q2.elim
  ·split at q2
   ·rename_i d' hd
    obtain ⟨p,xs,e1,sq,r⟩:=hv.lst
    obtain ⟨x,h1,h2⟩:=Cz3E r hd
    exact .inl ⟨p,xs,_,x,e1,hu.int,sq,h1,q2 x H2 (Same.refl _) h2⟩
   ·exact q2.elim
  ·split at q2
   ·rename_i hz
    split at q2
    ·rename_i cc hc
     exact .inr (.inr ⟨_,_,cc,hv.str,hu.int,hz,hc,q2.str⟩)
    ·exact q2.elim
   ·exact q2.elim
  ·exact q2.elim
def DO (X:Cx) (xw:XW) (e:Option Expr) (f:DSt→Res (Option Int)):Prop:=PO X e (fun σ H Q=>∃ W₀ H₀ W δ,StHas X.K W₀ H₀ W H σ δ∧match f δ with
 | .ok o=>∀ H',Same H H'→Q o H'
 | .ex c fs=>∀ H',Same H H'→xw c fs H'
 | .stuck=>False)
theorem PO.weak {X:Cx} {e:Option Expr} {t t':TO} (h:PO X e t) (k:∀ σ H Q,t' σ H Q→t σ H Q):PO X e t':=fun pins s σ H Q I q=>h pins s σ H Q I (k σ H Q q)
theorem Cz9O:DO X xw none (fun _=> .ok none):=PO.weak Cz7J fun σ H Q ⟨_,_,_,_,_,q⟩=>q H (Same.refl H)
def partR:D→Res (Option Int)
 | .int i=> .ok (some i)
 |_=> .stuck
theorem Cz9N (h:DE X xw e f):DO X xw (some e) (fun δ=>(f δ).bind partR):=PO.weak (Cz7I h) fun σ H Q ⟨W₀,H₀,W,δ,st,q⟩=>by
 dsimp only at q
 refine ⟨W₀,H₀,W,δ,st,?_⟩
 cases h1:f δ with
 |stuck=>rw [h1] at q;exact q
 |ex c fs=>rw [h1] at q;exact q
 |ok d=>
  rw [h1] at q
  intro v H1 k1 hv
  cases d with
  |int i=>rw [Has] at hv;exact ⟨i,hv,q H1 k1⟩
  |_=>exact q.elim
def cutD (xs:List D) (lo hi:Option Int):List D:=(xs.drop (HT.sIx xs.length 0 lo)).take (HT.sIx xs.length xs.length hi-HT.sIx xs.length 0 lo)
theorem Cz3A {K:PySem.W.Frag} {W:WS} {H:Hp} {ds:List D} {xs:List V} (r:HasL K W H ds xs) (lo hi:Option Int):HasL K W H (cutD ds lo hi) (cutV xs lo hi):=by
 unfold cutD cutV
 rw [r.length]
 exact (r.drop _).take _
variable {lo hi:Option Expr} {fl fh:DSt→Res (Option Int)} {p2:Pos}
def whole (n:Nat) (lo hi:Option Int):Prop:=HT.sIx n 0 lo=0∧HT.sIx n n hi=n
instance {n:Nat} {lo hi:Option Int}:Decidable (whole n lo hi):=inferInstanceAs (Decidable (_∧_))
theorem Cz6S {σ:L2.St} {H:Hp} {W₀ W:WS} {H₀:Hp} {δ:DSt} {α:Type} {op:D→Option Int→Option Int→Res α} {R:V→Option Int→Option Int→Hp→Prop} {G:Hp→Res α→Prop} (st:StHas X.K W₀ H₀ W H σ δ)
  (hex:∀ H c gs,G H (.ex c gs)→∀ H',Same H H'→xw c gs H') (hst:∀ H,G H .stuck→False) (hG:∀ H H' r,Same H H'→G H r→G H' r)
  (q:G H ((fa δ).bind fun x=>(fl δ).bind fun l=>(fh δ).bind fun u=>op x l u))
  (h:∀ H2 d v l u,Same H H2→WL W H2→HasT X.K W H2 d v→G H2 (op d l u)→R v l u H2):
  tDP X.K xw fa σ H fun x H1=>(fun σ H Q=>∃ W₀ H₀ W δ,StHas X.K W₀ H₀ W H σ δ∧match fl δ with
 | .ok o=>∀ H',Same H H'→Q o H'
 | .ex c fs=>∀ H',Same H H'→xw c fs H'
 | .stuck=>False:TO) σ H1 fun l H2=>(fun σ H Q=>∃ W₀ H₀ W δ,StHas X.K W₀ H₀ W H σ δ∧match fh δ with
 | .ok o=>∀ H',Same H H'→Q o H'
 | .ex c fs=>∀ H',Same H H'→xw c fs H'
 | .stuck=>False:TO) σ H2 fun u H3=>R x l u H3:=by
 refine ⟨W₀,H₀,W,δ,st,?_⟩
 cases h1:fa δ with
 |stuck=>rw [h1] at q;exact hst _ q
 |ex c fs=>rw [h1] at q;exact hex _ _ _ q
 |ok d=>
  rw [h1] at q
  intro v H1 k1 hv
  refine ⟨W₀,H₀,W,δ,st.same k1,?_⟩
  have q':G H ((fl δ).bind fun l=>(fh δ).bind fun u=>op d l u):=q
  cases h2:fl δ with
  |stuck=>rw [h2] at q';exact hst _ q'
  |ex c fs=>rw [h2] at q';exact fun H2 k2=>hex _ _ _ q' H2 (k1.trans k2)
  |ok l=>
   rw [h2] at q'
   intro H2 k2
   refine ⟨W₀,H₀,W,δ,(st.same k1).same k2,?_⟩
   have q2:G H ((fh δ).bind fun u=>op d l u):=q'
   cases h3:fh δ with
   |stuck=>rw [h3] at q2;exact hst _ q2
   |ex c fs=>rw [h3] at q2;exact fun H3 k3=>hex _ _ _ q2 H3 ((k1.trans k2).trans k3)
   |ok u=>
    rw [h3] at q2
    intro H3 k3
    have w1:=st.fr.wl.same k1
    exact h H3 d v l u ((k1.trans k2).trans k3) (st.fr.wl.same ((k1.trans k2).trans k3)) (hv.same (k2.trans k3) w1) (hG _ _ _ ((k1.trans k2).trans k3) q2)
end
end L3
namespace L3
open PySem PySem.Spec PyProof.Rows L2 SeqAt
inductive Out where
 |nx (δ:DSt)|rt (d:D)|bk (δ:DSt)|ct (δ:DSt)|ex (c:Str) (fs:List D)|stuck
structure Step (W:WS) (H:Hp) (W':WS) (H':Hp):Prop where
 keep:Keep W H H'
 new:∀ b,W' b→W b∨H b=none
section
variable {W W1 W2:WS} {H H1 H2:Hp}
theorem Step.refl:Step W H W H:=⟨fun _ _ e _=>e,fun _ z=> .inl z⟩
theorem Step.same (k:Same H H1):Step W H W H1:=⟨Same.keep k,fun _ z=> .inl z⟩
theorem Step.trans (a:Step W H W1 H1) (b:Step W1 H1 W2 H2):Step W H W2 H2:=by
 refine ⟨fun c o e n=>b.keep c o (a.keep c o e n) fun z=> ?_,fun c z=> ?_⟩
 ·rcases a.new c z with q|q
  ·exact n q
  ·rw [e] at q;cases q
 ·rcases b.new c z with q|q
  ·exact a.new c q
  ·by_cases hw:W c
   ·exact .inl hw
   ·right
    cases e:H c with
    |none=>rfl
    |some o=>rw [a.keep c o e hw] at q;cases q
end
section
variable (K:PySem.W.Frag) (xw:XW)
def RS (W₀:WS) (H₀:Hp) (W:WS) (H:Hp) (o:Out) (Dn:Ends):Prop:=match o with
 | .nx δ=>∀ W' H' σ,Step W H W' H'→StHas K W₀ H₀ W' H' σ δ→Dn.nx σ H'
 | .bk δ=>∀ W' H' σ,Step W H W' H'→StHas K W₀ H₀ W' H' σ δ→Dn.bk σ H'
 | .ct δ=>∀ W' H' σ,Step W H W' H'→StHas K W₀ H₀ W' H' σ δ→Dn.ct σ H'
 | .rt d=>∀ v H',Same H₀ H'→Has K W₀ H' d v→Dn.rt v H'
 | .ex c fs=>∀ H',Same H₀ H'→xw c fs H'
 | .stuck=>False
def tDS (g:DSt→Out):TS:=fun Dn σ H=>∃ W₀ H₀ W δ,StHas K W₀ H₀ W H σ δ∧RS K xw W₀ H₀ W H (g δ) Dn
end
def DS (X:Cx) (xw:XW) (st:Stmt) (g:DSt→Out):Prop:=PS X st (tDS X.K xw g)
def DSs (X:Cx) (xw:XW) (sts:List Stmt) (g:DSt→Out):Prop:=PSs X sts (tDS X.K xw g)
theorem PS.weak {X:Cx} {st:Stmt} {t t':TS} (h:PS X st t) (k:∀ Dn σ H,t' Dn σ H→t Dn σ H):PS X st t':=fun pins s σ H Dn I q=>h pins s σ H Dn I (k Dn σ H q)
theorem PSs.weak {X:Cx} {st:List Stmt} {t t':TS} (h:PSs X st t) (k:∀ Dn σ H,t' Dn σ H→t Dn σ H):PSs X st t':=fun pins s σ H Dn I q=>h pins s σ H Dn I (k Dn σ H q)
section
variable {K:PySem.W.Frag} {xw:XW} {W₀ W W1:WS} {H₀ H H1:Hp} {o:Out} {Dn:Ends}
theorem RS.step (h:RS K xw W₀ H₀ W H o Dn) (k:Step W H W1 H1):RS K xw W₀ H₀ W1 H1 o Dn:=by
 cases o with
 |nx δ=>exact fun W' H' σ k' st=>h W' H' σ (k.trans k') st
 |bk δ=>exact fun W' H' σ k' st=>h W' H' σ (k.trans k') st
 |ct δ=>exact fun W' H' σ k' st=>h W' H' σ (k.trans k') st
 |rt d=>exact h
 |ex c fs=>exact h
 |stuck=>exact h
end
def ofR {α:Type} (r:Res α) (k:α→Out):Out:=match r with
 | .ok a=>k a
 | .ex c fs=> .ex c fs
 | .stuck=> .stuck
def seqO (o:Out) (g:DSt→Out):Out:=match o with
 | .nx δ=>g δ
 |o=>o
section
variable {X:Cx} {xw:XW} {e:Expr} {f:DSt→Res D} {pos:Pos} {st:Stmt} {sts:List Stmt} {g g1 g2:DSt→Out}
theorem Cz9K:DSs X xw [] .nx:=PSs.weak Cz7F fun Dn σ H ⟨W₀,H₀,W,δ,st,q⟩=>q W H σ Step.refl st
theorem Cz5O (h1:DS X xw st g1) (h2:DSs X xw sts g2):DSs X xw (st::sts) (fun δ=>seqO (g1 δ) g2):=PSs.weak (Cz4C h1 h2) fun Dn σ H ⟨W₀,H₀,W,δ,st,q⟩=>by
 refine ⟨W₀,H₀,W,δ,st,?_⟩
 dsimp only at q
 cases h:g1 δ with
 |nx δ'=>
  rw [h] at q
  exact fun W' H' σ' k st'=>⟨W₀,H₀,W',δ',st',RS.step (o:=g2 δ') q k⟩
 |bk δ'=>rw [h] at q;exact q
 |ct δ'=>rw [h] at q;exact q
 |rt d=>rw [h] at q;exact q
 |ex c fs=>rw [h] at q;exact q
 |stuck=>rw [h] at q;exact q
theorem Cz9J (h1:DS X xw st g1):DSs X xw [st] g1:=Cz7E h1
theorem Cz5Q:DS X xw (.Break pos) .bk:=PS.weak Cz4F fun Dn σ H ⟨W₀,H₀,W,δ,st,q⟩=>q W H σ Step.refl st
theorem Az7T {σ:L2.St} {H:Hp} {W₀ W:WS} {H₀:Hp} {δ:DSt} {k:D→Out} {Dn:Ends} {R:V→Hp→Prop} (st:StHas X.K W₀ H₀ W H σ δ) (q:RS X.K xw W₀ H₀ W H (ofR (f δ) k) Dn)
  (h:∀ H2 d v,StHas X.K W₀ H₀ W H2 σ δ→Has X.K W H2 d v→RS X.K xw W₀ H₀ W H2 (k d) Dn→R v H2):tDE X.K xw f σ H R:=by
 refine ⟨W₀,H₀,W,δ,st,?_⟩
 cases h1:f δ with
 |stuck=>rw [h1] at q;exact q
 |ex c fs=>rw [h1] at q;exact fun H' k'=>q H' (st.fr.ext.trans k')
 |ok d=>
  rw [h1] at q
  exact fun v H1 k1 hv=>h H1 d v (st.same k1) hv (RS.step (o:=k d) q (Step.same k1))
theorem ds_ret (he:DE X xw e f):DS X xw (.Return (some e) pos) (fun δ=>ofR (f δ) fun d=> .rt d):=PS.weak (ps_ret he) fun Dn σ H ⟨W₀,H₀,W,δ,st,q⟩=>
 Az7T st q fun H2 d v st2 hv q2=>q2 v H2 st2.fr.ext (Has.keep (fun _ _ e _=>e) st2.fr.wl (fun b z=> .inl (st2.fr.sub b z)) hv)
theorem Cz9L (i:Nat) {x:Str} {pos':Pos} (hN:X.N[i]? =some x:=by rfl) (hv:Vis X.env.scope x:=by first|exact Or.inl rfl|exact Or.inr (Or.inl rfl)|exact Or.inr (Or.inr rfl)) (hd:(x==("__debug__":Str))=false:=by decide)
  (hcd:(x==("__classdict__":Str))=false:=by decide):DS X xw (.Return (some (.Name x pos')) pos) (fun δ=>ofR (slotP i δ) fun d=> .rt d):=PS.weak (ps_ret (pe_var hN hv hd hcd)) fun Dn σ H ⟨W₀,H₀,W,δ,st,q⟩=>by
 have up:∀ b,W₀ b→W b∨H b=none:=fun b z=> .inl (st.fr.sub b z)
 unfold slotP at q
 dsimp only at q
 split at q
 ·rename_i d h
  obtain ⟨v,e,r⟩:=st.at' i _ h
  exact ⟨v,e,q v H st.fr.ext (Has.keep (fun _ _ e _=>e) st.fr.wl up r)⟩
 ·rename_i ds h
  obtain ⟨v,e,a,xs,r1,r2,r3,r4,r5⟩:=st.at' i _ h
  refine ⟨v,e,q v H st.fr.ext ?_⟩
  rw [Has]
  refine ⟨a,xs,r1, .inl ⟨r4,fun z=> ?_⟩,HasL.keep (fun _ _ e _=>e) st.fr.wl up r5⟩
  obtain ⟨ys,z',_⟩:=st.fr.wl0 a z
  rw [r3] at z';cases z'
 ·exact q.elim
theorem ds_set (i:Nat) {x:Str} {pos':Pos} (hN:X.N.Nodup) (he:DE X xw e f) (hi:X.N[i]? =some x:=by rfl) (hx:Loc X.env.scope x:=by first|exact Or.inl rfl|exact Or.inr rfl) (hs:swapsWith e (some (.Name x pos')) pos.line X.env=pure false:=by rfl)
  (hf:X.fn x=true∨X.env.scope.names.lookup x=some .local:=by first|exact .inl rfl|exact .inr rfl|assumption):DS X xw (.Assign [.Name x pos'] e pos) (fun δ=>ofR (f δ) fun d=> .nx (δ.set i (some (.d d)))):=
 PS.weak (ps_set hN hi hx he hs hf) fun Dn σ H ⟨W₀,H₀,W,δ,st,q⟩=>Az7T st q fun H2 d v st2 hv q2=>q2 W H2 _ Step.refl (st2.set hv)
theorem Bz7W {σ:L2.St} {H:Hp} {W₀ W:WS} {H₀:Hp} {δ:DSt} {ff:DSt→Res (List D)} {i:Nat} {Dn:Ends} (st:StHas X.K W₀ H₀ W H σ δ) (q:RS X.K xw W₀ H₀ W H (ofR (ff δ) fun ds=> .nx (δ.set i (some (.o ds)))) Dn):
  tDF X.K xw ff σ H fun x H1=>gName i x σ H1 Dn.nx:=by
 refine ⟨W₀,H₀,W,δ,st,?_⟩
 cases h1:ff δ with
 |stuck=>rw [h1] at q;exact q
 |ex c fs=>rw [h1] at q;exact fun H' k'=>q H' (st.fr.ext.trans k')
 |ok ds=>
  rw [h1] at q
  intro a xs H1 k n r
  have st1:=(st.same k).own (i:=i) n r
  refine q _ _ _ ⟨fun b o e nb=> ?_,fun b z=>z.elim .inl fun z=> .inr (by rw [z];exact Same.free k n)⟩ st1
  rw [upd_ne (Az0J (k b o e) n)];exact k b o e
theorem ds_own (i:Nat) {x:Str} {pos':Pos} {ff:DSt→Res (List D)} (hN:X.N.Nodup) (he:DF X xw e ff) (hi:X.N[i]? =some x:=by rfl) (hx:Loc X.env.scope x:=by first|exact Or.inl rfl|exact Or.inr rfl) (hs:swapsWith e (some (.Name x pos')) pos.line X.env=pure false:=by rfl)
  (hf:X.fn x=true∨X.env.scope.names.lookup x=some .local:=by first|exact .inl rfl|exact .inr rfl|assumption):DS X xw (.Assign [.Name x pos'] e pos) (fun δ=>ofR (ff δ) fun ds=> .nx (δ.set i (some (.o ds)))):=
 PS.weak (ps_set hN hi hx he hs hf) fun Dn σ H ⟨W₀,H₀,W,δ,st,q⟩=>Bz7W st q
def ifO (c:Res Bool) (a b:Out):Out:=ofR c fun k=>if k=true then a else b
variable {c:Expr} {ga:DSt→Res Bool} {as bs:List Stmt}
theorem ds_if (hc:DT X xw c ga) (ha:DSs X xw as g1) (hb:DSs X xw bs g2):DS X xw (.If c as bs pos) (fun δ=>ifO (ga δ) (g1 δ) (g2 δ)):=PS.weak (ps_if hc ha hb) fun Dn σ H ⟨W₀,H₀,W,δ,st,q⟩=>by
 refine ⟨W₀,H₀,W,δ,st,?_⟩
 unfold ifO at q
 dsimp only at q
 cases h1:ga δ with
 |stuck=>rw [h1] at q;exact q
 |ex c fs=>rw [h1] at q;exact fun H' k'=>q H' (st.fr.ext.trans k')
 |ok k=>
  rw [h1] at q
  intro H1 k1
  have q':RS X.K xw W₀ H₀ W H (if k=true then g1 δ else g2 δ) Dn:=q
  cases k with
  |true=>rw [if_pos rfl] at q' ⊢;exact ⟨W₀,H₀,W,δ,st.same k1,q'.step (Step.same k1)⟩
  |false=>rw [if_neg Bool.false_ne_true] at q' ⊢;exact ⟨W₀,H₀,W,δ,st.same k1,q'.step (Step.same k1)⟩
def tDG (K:PySem.W.Frag) (t:D→DSt→Res DSt):TG:=fun v σ H Q=>∃ W₀ H₀ W δ d,StHas K W₀ H₀ W H σ δ∧Has K W H d v∧match t d δ with
 | .ok δ'=>∀ σ',StHas K W₀ H₀ W H σ' δ'→Q σ' H
 |_=>False
def DG (X:Cx) (tg:Expr) (t:D→DSt→Res DSt):Prop:=PG X tg (tDG X.K t)
theorem PG.weak {X:Cx} {tg:Expr} {t t':TG} (h:PG X tg t) (k:∀ v σ H Q,t' v σ H Q→t v σ H Q):PG X tg t':=fun pins s σ H v u Q I r q=>h pins s σ H v u Q I r (k v σ H Q q)
def setI (i:Nat) (d:D) (δ:DSt):Res DSt:= .ok (δ.set i (some (.d d)))
theorem Cz9T (i:Nat) {x:Str} (hN:X.N.Nodup) (hi:X.N[i]? =some x:=by rfl) (hx:Loc X.env.scope x:=by first|exact Or.inl rfl|exact Or.inr rfl) (hf:X.fn x=true∨X.env.scope.names.lookup x=some .local:=by first|exact .inl rfl|exact .inr rfl|assumption):
  DG X (.Name x pos) (setI i):=PG.weak (Cz7O hN hi hx hf) fun v σ H Q ⟨W₀,H₀,W,δ,d,st,hv,q⟩=>q _ (st.set hv)
def tDGs (K:PySem.W.Frag) (t:List D→DSt→Res DSt):TGs:=fun vs σ H Q=>∃ W₀ H₀ W δ ds,StHas K W₀ H₀ W H σ δ∧HasL K W H ds vs∧match t ds δ with
 | .ok δ'=>∀ σ',StHas K W₀ H₀ W H σ' δ'→Q σ' H
 |_=>False
def DGs (X:Cx) (tgs:List Expr) (t:List D→DSt→Res DSt):Prop:=PGs X tgs (tDGs X.K t)
theorem PGs.weak {X:Cx} {tg:List Expr} {t t':TGs} (h:PGs X tg t) (k:∀ v σ H Q,t' v σ H Q→t v σ H Q):PGs X tg t':=fun pins s σ H v u Q I r q=>h pins s σ H v u Q I r (k v σ H Q q)
def unNil (ds:List D) (δ:DSt):Res DSt:=match ds with
 | []=> .ok δ
 |_=> .stuck
def unCons (t:D→DSt→Res DSt) (r:List D→DSt→Res DSt) (ds:List D) (δ:DSt):Res DSt:=match ds with
 |d::ds=>(t d δ).bind fun δ'=>r ds δ'
 | []=> .stuck
variable {tg:Expr} {tgs:List Expr} {t:D→DSt→Res DSt} {ts:List D→DSt→Res DSt}
theorem Cz9S:DGs X [] unNil:=PGs.weak Cz7N fun vs σ H Q ⟨W₀,H₀,W,δ,ds,st,hv,q⟩=>by
 unfold unNil at q
 cases ds with
 |nil=>rw [HasL] at hv;exact ⟨hv,q σ st⟩
 |cons=>exact q.elim
theorem Cz5S (h1:DG X tg t) (h2:DGs X tgs ts) (hs:(assignEach (tg::tgs) X.env).map (·.2)=assign tg X.env::(assignEach tgs X.env).map (·.2):=by rfl):DGs X (tg::tgs) (unCons t ts):=
 PGs.weak (Cz4H h1 h2 hs) fun vs σ H Q ⟨W₀,H₀,W,δ,ds,st,hv,q⟩=>by
  unfold unCons at q
  cases ds with
  |nil=>exact q.elim
  |cons d ds=>
   rw [HasL] at hv
   obtain ⟨x,r,e,h,hr⟩:=hv
   refine ⟨x,r,e,W₀,H₀,W,δ,d,st,h,?_⟩
   dsimp only at q
   cases h1:t d δ with
   |stuck=>rw [h1] at q;exact q
   |ex c fs=>rw [h1] at q;exact q
   |ok δ'=>
    rw [h1] at q
    exact fun σ' st'=>⟨W₀,H₀,W,δ',ds,st',hr,q⟩
def unTup (n:Nat) (ts:List D→DSt→Res DSt) (d:D) (δ:DSt):Res DSt:=match d with
 | .tup ds=>if ds.length=n then ts ds δ else .stuck
 |_=> .stuck
theorem dg_tup {k:Nat} {n:Nat} (hc:X.calm=true) (h:DGs X tgs ts) (hn:(assignEach tgs X.env).length=n:=by rfl) (hst:(assignEach tgs X.env).findIdx? (·.1)=none:=by rfl):DG X (.Tuple tgs k pos) (unTup n ts):=
 PG.weak (pg_tup hc h hn hst) fun v σ H Q ⟨W₀,H₀,W,δ,d,st,hv,q⟩=>by
  unfold unTup at q
  cases d with
  |tup ds=>
   dsimp only at q
   split at q
   ·rename_i hl
    split at hl
    ·rename_i hl'
     rw [Has] at hv
     obtain ⟨a,xs,e,sq,r⟩:=hv
     refine ⟨a,xs,e,sq,by rw [←r.length];exact hl',W₀,H₀,W,δ,ds,st,r,?_⟩
     rw [hl]
     exact q
    ·cases hl
   ·exact q.elim
  |_=>exact q.elim
def ItOk (K:PySem.W.Frag) (W:WS) (H:Hp) (J:It) (ds:List D):Prop:=∀ W' H2,Step W H W' H2→WL W' H2→
 (∀ i d,ds[i]? =some d→J.go i H2∧∀ x H3,J.yld i H2 x H3→Same H2 H3∧Has K W' H3 d x)∧J.stop ds.length H2
def tDI (K:PySem.W.Frag) (xw:XW) (f:DSt→Res (List D)):TI:=fun σ H R=>∃ W₀ H₀ W δ,StHas K W₀ H₀ W H σ δ∧match f δ with
 | .ok ds=>∀ J H',Same H H'→ItOk K W H' J ds→R J H'
 | .ex c fs=>∀ H',Same H H'→xw c fs H'
 | .stuck=>False
def DI (X:Cx) (xw:XW) (tg iter:Expr) (f:DSt→Res (List D)):Prop:=PI X tg iter (tDI X.K xw f)
theorem PI.weak {X:Cx} {tg iter:Expr} {t t':TI} (h:PI X tg iter t) (k:∀ σ H R,t' σ H R→t σ H R):PI X tg iter t':=fun pins s σ H R I q=>h pins s σ H R I (k σ H R q)
theorem SqL.lr {K:PySem.W.Frag} {W W':WS} {H H2:Hp} {a:Addr} {xs:List V} (h:LR K W H a xs) (k:Step W H W' H2) (w:WL W H):LR K W' H2 a xs:=h.keep k.keep w k.new
theorem itl_ok {K:PySem.W.Frag} {W:WS} {H:Hp} {a:Addr} {xs:List V} {ds:List D} (w:WL W H) (h:LR K W H a xs) (r:HasL K W H ds xs):ItOk K W H (Itl K a) ds:=by
 intro W' H2 k w2
 have h2:=(SqL.lr h k w).sq
 refine ⟨fun i d e=> ?_,xs,h2,by rw [r.length];exact Nat.le_refl _⟩
 obtain ⟨x,e1,hx⟩:=r.get e
 refine ⟨⟨xs,x,h2,e1⟩,fun y H3 z=> ?_⟩
 obtain ⟨rfl,z⟩:=z
 have:y=x:=by
  have q:=z xs h2
  rw [e1] at q;exact (Option.some.inj q).symm
 subst this
 exact ⟨Same.refl _,Has.keep k.keep w k.new hx⟩
theorem itt_ok {K:PySem.W.Frag} {W:WS} {H:Hp} {a:Addr} {xs:List V} {ds:List D} (w:WL W H) (h:SqT K H a xs) (r:HasL K W H ds xs):ItOk K W H (Itt K a) ds:=by
 intro W' H2 k w2
 have h2:=Az9N k.keep w h
 refine ⟨fun i d e=> ?_,xs,h2,by rw [r.length];exact Nat.le_refl _⟩
 obtain ⟨x,e1,hx⟩:=r.get e
 refine ⟨⟨xs,x,h2,e1⟩,fun y H3 z=> ?_⟩
 obtain ⟨rfl,z⟩:=z
 have:y=x:=by
  have q:=z xs h2
  rw [e1] at q;exact (Option.some.inj q).symm
 subst this
 exact ⟨Same.refl _,Has.keep k.keep w k.new hx⟩
def rngD (lo:Int) (n:Nat):List D:=(List.range n).map fun (i:Nat)=>D.int (lo+i)
theorem itr_ok {K:PySem.W.Frag} {W:WS} {H:Hp} (lo:Int) (n:Nat):ItOk K W H (Itr lo n) (rngD lo n):=by
 intro W' H2 k w2
 unfold rngD
 refine ⟨fun i d e=> ?_,by simp [Itr]⟩
 rw [List.getElem?_map] at e
 have hi:i<n:=by
  refine Nat.lt_of_not_le fun z=> ?_
  rw [List.getElem?_eq_none (by simpa using z)] at e;cases e
 rw [List.getElem?_range hi] at e
 have e':D.int (lo+(i:Nat))=d:=Option.some.inj e
 subst e'
 refine ⟨hi,fun x H3 z=> ?_⟩
 obtain ⟨rfl,rfl⟩:=z
 exact ⟨Same.refl _,by rw [Has]⟩
noncomputable def rng1R (ds:List D):Res (List D):=match ds with
 | [.int j]=>@ite (Res (List D)) (-(2^62)≤j∧j<2^62) (Classical.propDecidable _) (.ok (rngD 0 j.toNat)) .stuck
 |_=> .stuck
theorem HasL.one {K:PySem.W.Frag} {W:WS} {H:Hp} {i:Int} {vs:List V} (h:HasL K W H [.int i] vs):vs= [.int i]:=by
 rw [HasL] at h
 obtain ⟨x,r,rfl,h1,h2⟩:=h
 rw [HasL] at h2
 rw [Has] at h1
 rw [h1,h2]
theorem HasL.two {K:PySem.W.Frag} {W:WS} {H:Hp} {i j:Int} {vs:List V} (h:HasL K W H [.int i, .int j] vs):vs= [.int i, .int j]:=by
 rw [HasL] at h
 obtain ⟨x,r,rfl,h1,h2⟩:=h
 rw [Has] at h1
 rw [h1,h2.one]
variable {a b:Expr} {fs:DSt→Res (List D)} {p:Pos}
theorem Cz1N (hm:X.mg "range"=none) (ha:DA X xw [a] fs) (hg:Gl X "range":=by rfl) (hs:starEach [a] X.env= [(false,eval a X.env)]:=by rfl):DI X xw tg (.Call (.Name "range" p) [a] [] pos) (fun δ=>(fs δ).bind rng1R):=
 PI.weak (Cz0N hg hm ha hs) fun σ H R ⟨W₀,H₀,W,δ,st,q⟩=>by
  refine ⟨W₀,H₀,W,δ,st,?_⟩
  dsimp only at q
  cases h1:fs δ with
  |stuck=>rw [h1] at q;exact q
  |ex c fs=>rw [h1] at q;exact q
  |ok ds=>
   rw [h1] at q
   intro vs H1 k1 hv
   dsimp only [Res.bind] at q
   unfold rng1R at q
   split at q
   ·rename_i ds' hq
    split at hq
    ·rename_i j
     split at hq
     ·rename_i hj
      have e':rngD 0 j.toNat=ds':=by cases hq;rfl
      subst e'
      exact ⟨j,hv.one,hj.1,hj.2,q _ H1 k1 (itr_ok 0 _)⟩
     ·cases hq
    ·cases hq
   ·rename_i hq
    split at hq
    ·split at hq<;>cases hq
    ·cases hq
   ·exact q.elim
def forD (t:D→DSt→Res DSt) (body:DSt→Out):List D→DSt→Out
 | [],δ=> .nx δ
 |d::ds,δ=>match t d δ with
  | .ok δ'=>match body δ' with
   | .nx δ2=>forD t body ds δ2
   | .ct δ2=>forD t body ds δ2
   | .bk δ2=> .nx δ2
   | .rt d=> .rt d
   | .ex c fs=> .ex c fs
   | .stuck=> .stuck
  |_=> .stuck
theorem ds_for {iter:Expr} {fi:DSt→Res (List D)} (hp:PassesOwn (model X.prog X.w) X.A X.env X.xe) (hc:X.calm=true) (hi:DI X xw tg iter fi) (hg:DG X tg t) (hb:DSs X xw sts g)
  (hs:∀ x,foldedSetIterable iter X.env x=pure x:=by intro _;rfl):DS X xw (.For tg iter sts [] pos) (fun δ=>ofR (fi δ) fun ds=>forD t g ds δ):=
 PS.weak (ps_for hp hc hi hg hb hs) fun Dn σ H ⟨W₀,H₀,W,δ,st,q⟩=>by
  refine ⟨W₀,H₀,W,δ,st,?_⟩
  dsimp only at q
  cases h1:fi δ with
  |stuck=>rw [h1] at q;exact q
  |ex c fs=>rw [h1] at q;exact fun H' k'=>q H' (st.fr.ext.trans k')
  |ok ds=>
   rw [h1] at q
   intro J H1 k1 it
   have q1:RS X.K xw W₀ H₀ W H1 (forD t g ds δ) Dn:=RS.step (o:=forD t g ds δ) q (Step.same k1)
   refine ⟨fun i m σ' H'=>∃ W' δ',m=ds.length-i∧i≤ds.length∧StHas X.K W₀ H₀ W' H' σ' δ'∧Step W H1 W' H'∧RS X.K xw W₀ H₀ W' H' (forD t g (ds.drop i) δ') Dn,
    ⟨_,W,δ,rfl,Nat.zero_le _,st.same k1,Step.refl,q1⟩,?_⟩
   rintro i m σ' H' ⟨W',δ',rfl,hi,st',k',q'⟩
   obtain ⟨items,stop⟩:=it W' H' k' st'.fr.wl
   by_cases hl:i<ds.length
   ·right
    have e:ds[i]? =some ds[i]:=List.getElem?_eq_getElem hl
    obtain ⟨go,yld⟩:=items i _ e
    have ed:ds.drop i=ds[i]::ds.drop (i+1):=List.drop_eq_getElem_cons hl
    rw [ed] at q'
    unfold forD at q'
    refine ⟨go,fun σ2 H2=>∃ W2 δ2,StHas X.K W₀ H₀ W2 H2 σ2 δ2∧Step W H1 W2 H2∧RS X.K xw W₀ H₀ W2 H2 (forD t g (ds.drop (i+1)) δ2) Dn,fun σ2 H2 ⟨W2,δ2,a1,a2,a3⟩=>⟨ds.length-(i+1),by omega,W2,δ2,rfl,hl,a1,a2,a3⟩,fun x H3 z=> ?_⟩
    obtain ⟨k3,hx⟩:=yld x H3 z
    refine ⟨W₀,H₀,W',δ',ds[i],st'.same k3,hx,?_⟩
    cases h2:t ds[i] δ' with
    |stuck=>rw [h2] at q';exact q'
    |ex c fs=>rw [h2] at q';exact q'
    |ok δ2=>
     rw [h2] at q'
     intro σ2 st2
     refine ⟨W₀,H₀,W',δ2,st2,?_⟩
     dsimp only at q'
     have kk:Step W' H' W' H3:=Step.same k3
     cases h3:g δ2 with
     |nx δ3=>rw [h3] at q';exact fun W3 H4 σ3 k4 st3=>⟨W3,δ3,st3,(k'.trans kk).trans k4,RS.step (o:=forD t g (ds.drop (i+1)) δ3) q' (kk.trans k4)⟩
     |ct δ3=>rw [h3] at q';exact fun W3 H4 σ3 k4 st3=>⟨W3,δ3,st3,(k'.trans kk).trans k4,RS.step (o:=forD t g (ds.drop (i+1)) δ3) q' (kk.trans k4)⟩
     |bk δ3=>rw [h3] at q';exact fun W3 H4 σ3 k4 st3=>q' W3 H4 σ3 (kk.trans k4) st3
     |rt d=>rw [h3] at q';exact q'
     |ex c fs=>rw [h3] at q';exact q'
     |stuck=>rw [h3] at q';exact q'
   ·left
    have ei:i=ds.length:=by omega
    subst ei
    rw [List.drop_length] at q'
    exact ⟨stop,q' W' H' σ' Step.refl st'⟩
def whileD (c:DSt→Res Bool) (body:DSt→Out):Nat→DSt→Out
 |0,_=> .stuck
 |n+1,δ=>match c δ with
  | .ok true=>match body δ with
   | .nx δ2=>whileD c body n δ2
   | .ct δ2=>whileD c body n δ2
   | .bk δ2=> .nx δ2
   | .rt d=> .rt d
   | .ex c fs=> .ex c fs
   | .stuck=> .stuck
  | .ok false=> .nx δ
  | .ex c fs=> .ex c fs
  | .stuck=> .stuck
theorem Cz5P (n:Nat) (hp:PassesOwn (model X.prog X.w) X.A X.env X.xe) (hc:DT X xw c ga) (hb:DSs X xw sts g):DS X xw (.While c sts [] pos) (fun δ=>whileD ga g n δ):=
 PS.weak (Cz4D hp hc hb) fun Dn σ H ⟨W₀,H₀,W,δ,st,q⟩=>by
  refine ⟨fun m σ' H'=>∃ W' δ',StHas X.K W₀ H₀ W' H' σ' δ'∧RS X.K xw W₀ H₀ W' H' (whileD ga g m δ') Dn,⟨n,W,δ,st,q⟩,?_⟩
  rintro m σ' H' ⟨W',δ',st',q'⟩
  cases m with
  |zero=>exact q'.elim
  |succ m=>
   unfold whileD at q'
   refine ⟨W₀,H₀,W',δ',st',?_⟩
   cases h1:ga δ' with
   |stuck=>rw [h1] at q';exact q'
   |ex c fs=>rw [h1] at q';exact fun H2 k2=>q' H2 (st'.fr.ext.trans k2)
   |ok k=>
    rw [h1] at q'
    intro H2 k2
    cases k with
    |false=>rw [if_neg Bool.false_ne_true];exact q' W' H2 σ' (Step.same k2) (st'.same k2)
    |true=>
     rw [if_pos rfl]
     refine ⟨fun σ3 H3=>∃ W3 δ3,StHas X.K W₀ H₀ W3 H3 σ3 δ3∧RS X.K xw W₀ H₀ W3 H3 (whileD ga g m δ3) Dn,fun σ3 H3 z=>⟨m,Nat.lt_succ_self m,z⟩,W₀,H₀,W',δ',st'.same k2,?_⟩
     dsimp only at q'
     have kk:Step W' H' W' H2:=Step.same k2
     cases h3:g δ' with
     |nx δ3=>rw [h3] at q';exact fun W3 H4 σ3 k4 st3=>⟨W3,δ3,st3,RS.step (o:=whileD ga g m δ3) q' (kk.trans k4)⟩
     |ct δ3=>rw [h3] at q';exact fun W3 H4 σ3 k4 st3=>⟨W3,δ3,st3,RS.step (o:=whileD ga g m δ3) q' (kk.trans k4)⟩
     |bk δ3=>rw [h3] at q';exact fun W3 H4 σ3 k4 st3=>q' W3 H4 σ3 (kk.trans k4) st3
     |rt d=>rw [h3] at q';exact q'
     |ex c fs=>rw [h3] at q';exact q'
     |stuck=>rw [h3] at q';exact q'
end
end L3
namespace L3
open PySem PySem.Spec PyProof.Rows L2 SeqAt
def noex {α:Type}:Res α→Res α
 | .ok a=> .ok a
 |_=> .stuck
def compD (t:D→DSt→Res DSt) (c:DSt→Res Bool) (fe:DSt→Res D):List D→DSt→Res (List D)
 | [],_=> .ok []
 |d::ds,δ=>match t d δ with
  | .ok δ'=>(noex (c δ')).bind fun k=>if k=true then (noex (fe δ')).bind fun x=>(compD t c fe ds δ').bind fun r=> .ok (x::r) else compD t c fe ds δ'
  |_=> .stuck
abbrev xwF:XW:=fun _ _ _=>False
section
variable {K:PySem.W.Frag} {W₀ W:WS} {H₀ H:Hp} {σ:L2.St} {δ:DSt} {a:Addr}
theorem StHas.acc {xs ys:List V} (h:StHas K W₀ (upd H₀ a (.lst xs)) W H σ δ) (ha:H a=some (.lst xs)) (hW:W a):StHas K W₀ (upd H₀ a (.lst ys)) W (upd H a (.lst ys)) σ δ:=by
 have kk:Keep W H (upd H a (.lst ys)):=fun b o e n=>by
  rw [upd_ne (fun z=>n (by rw [z];exact hW))];exact e
 have hw:∀ b,W b→W b∨H b=none:=fun b z=> .inl z
 have fr':FrOk W₀ (upd H₀ a (.lst ys)) W (upd H a (.lst ys)):=by
  refine ⟨fun b o e=> ?_,h.fr.sub,fun b z=> ?_,fun b z=> ?_⟩
  ·by_cases hb:b=a
   ·subst hb;rw [Az0L] at e ⊢;exact e
   ·rw [upd_ne hb] at e ⊢
    exact h.fr.ext b o (by rw [upd_ne hb];exact e)
  ·by_cases hb:b=a
   ·rw [hb];exact ⟨_,Az0L,trivial⟩
   ·rw [upd_ne hb];exact h.fr.wl b z
  ·by_cases hb:b=a
   ·rw [hb];exact ⟨_,Az0L,trivial⟩
   ·have:=h.fr.wl0 b z
    rw [upd_ne hb] at this ⊢;exact this
 refine ⟨fr',h.len,fun j s e=> ?_,h.ap⟩
 obtain ⟨v,h1,h2⟩:=h.at' j s e
 refine ⟨v,h1,?_⟩
 cases s with
 |d x=>exact Has.keep kk h.fr.wl hw h2
 |o ds'=>
  obtain ⟨b,zs,e',g1,g2,g3,g4⟩:=h2
  have hb:b≠a:=fun z=>by
   rw [z,Az0L] at g2;cases g2
  rw [upd_ne hb] at g2
  exact ⟨b,zs,e',g1,by rw [upd_ne hb];exact g2,by rw [upd_ne hb];exact g3,HasL.keep kk h.fr.wl hw g4⟩
 |q ks' ds'=>
  obtain ⟨b,zs,e',g1,g2,g3,g4,g5⟩:=h2
  have hb:b≠a:=fun z=>by
   rw [z,Az0L] at g2;cases g2
  rw [upd_ne hb] at g2
  exact ⟨b,zs,e',g1,by rw [upd_ne hb];exact g2,by rw [upd_ne hb];exact g3,g4,HasL.keep kk h.fr.wl hw g5⟩
theorem StHas.block (n:Nat) (h:StHas K W₀ H₀ W H σ δ) (ha:H a=none):StHas K W₀ (upd H₀ a (.lst [])) (fun b=>W b∨b=a) (upd H a (.lst [])) (List.replicate n none++σ) (List.replicate n none++δ):=by
 have hw:∀ b,(W b∨b=a)→W b∨H b=none:=fun b z=>z.elim .inl fun z=> .inr (by rw [z];exact ha)
 have k:Same H (upd H a (.lst [])):=Az1G ha
 have kk:Keep W H (upd H a (.lst [])):=Same.keep k
 have ha0:H₀ a=none:=Same.free h.fr.ext ha
 have fr':FrOk W₀ (upd H₀ a (.lst [])) (fun b=>W b∨b=a) (upd H a (.lst [])):=by
  refine ⟨fun b o e=> ?_,fun b z=> .inl (h.fr.sub b z),fun b z=>z.elim (h.fr.wl.same k b) fun z=>by rw [z];exact ⟨_,Az0L,trivial⟩,h.fr.wl0.same (Az1G ha0)⟩
  by_cases hb:b=a
  ·subst hb;rw [Az0L] at e ⊢;exact e
  ·rw [upd_ne hb] at e ⊢
   exact h.fr.ext b o e
 have idx:∀ {α:Type} (l:List (Option α)) (j:Nat) (x:α),(List.replicate n none++l)[j]? =some (some x)→n≤j∧l[j-n]? =some (some x):=fun l j x e=>by
  by_cases hj:j<n
  ·rw [List.getElem?_append_left (by simpa using hj),List.getElem?_replicate] at e
   split at e<;>cases e
  ·refine ⟨Nat.le_of_not_lt hj,?_⟩
   rw [List.getElem?_append_right (by simpa using hj),List.length_replicate] at e;exact e
 have back:∀ {α:Type} (l:List (Option α)) (j:Nat) (x:Option α),n≤j→l[j-n]? =some x→(List.replicate n none++l)[j]? =some x:=fun l j x hj e=>by
  rw [List.getElem?_append_right (by simpa using hj),List.length_replicate];exact e
 refine ⟨fr',by simp [h.len],fun j s e=> ?_,fun i j s1 s2 b hij os ot e1 e2 e3 e4=> ?_⟩
 ·obtain ⟨hj,e⟩:=idx _ _ _ e
  obtain ⟨v,h1,h2⟩:=h.at' _ s e
  refine ⟨v,back _ _ _ hj h1,?_⟩
  cases s with
  |d x=>exact Has.keep kk h.fr.wl hw h2
  |o ds'=>
   obtain ⟨b,ys,e',g1,g2,g3,g4⟩:=h2
   have hb:b≠a:=Az0J g3 ha
   exact ⟨b,ys,e', .inl g1,by rw [upd_ne hb];exact g2,k _ _ g3,HasL.keep kk h.fr.wl hw g4⟩
  |q ks' ds'=>
   obtain ⟨b,ys,e',g1,g2,g3,g4,g5⟩:=h2
   have hb:b≠a:=Az0J g3 ha
   exact ⟨b,ys,e', .inl g1,by rw [upd_ne hb];exact g2,k _ _ g3,g4,HasL.keep kk h.fr.wl hw g5⟩
 ·obtain ⟨hi,e1⟩:=idx _ _ _ e1
  obtain ⟨hj,e2⟩:=idx _ _ _ e2
  obtain ⟨_,e3⟩:=idx _ _ _ e3
  obtain ⟨_,e4⟩:=idx _ _ _ e4
  exact h.ap (i-n) (j-n) s1 s2 b (by omega) os ot e1 e2 e3 e4
end
section
variable {X:Cx} {xw:XW} {scope:Scope} {elt tg iter e:Expr} {ifs:List Expr} {pos:Pos} {fi:DSt→Res (List D)} {t:D→DSt→Res DSt} {gc:DSt→Res Bool} {fe f:DSt→Res D}
noncomputable def compR (n:Nat) (t:D→DSt→Res DSt) (gc:DSt→Res Bool) (fe:DSt→Res D) (δ:DSt) (ds:List D):Res (List D):=@ite (Res (List D)) (ds.length≤100000) (Classical.propDecidable _) (noex (compD t gc fe ds (List.replicate n none++δ))) .stuck
def DTs (X:Cx) (ifs:List Expr) (g:DSt→Res Bool):Prop:=PTs X ifs (tDT X.K xwF g)
theorem Cz9I:DTs X [] (fun _=> .ok true):=fun pins s σ H Q I ⟨_,_,_,_,_,q⟩=>Cz7D pins s σ H Q I (q H (Same.refl H))
theorem Cz9H {c:Expr} (h:DT X xwF c gc):DTs X [c] gc:=Cz7C h
theorem Bz4P {Nc:Nat} {σ:L2.St} {H:Hp} {Q:VK} (q:tDF X.K xw (fun δ=>(fi δ).bind fun ds=>compR Nc t gc fe δ ds) σ H Q):
  tComp Nc (tDI X.K xw fi) (tDG X.K t) (tDT X.K xwF gc) (tDE X.K xwF fe) σ H Q:=by
 obtain ⟨W₀,H₀,W,δ,st,q⟩:=q
 refine ⟨W₀,H₀,W,δ,st,?_⟩
 dsimp only at q
 cases h1:fi δ with
 |stuck=>rw [h1] at q;exact q
 |ex c fs=>rw [h1] at q;exact q
 |ok ds=>
  rw [h1] at q
  intro J H1 k1 it a ha
  have q1:RF X.K xw W H (compR Nc t gc fe δ ds) Q:=q
  unfold compR at q1
  split at q1
  case isFalse=>exact q1.elim
  rename_i hlen
  have st1:=st.same k1
  cases hc:compD t gc fe ds (List.replicate Nc none++δ) with
  |stuck=>rw [hc] at q1;exact q1.elim
  |ex c fs=>rw [hc] at q1;exact q1.elim
  |ok all=>
  rw [hc] at q1
  have q2:∀ a xs H1,Same H H1→H1 a=none→HasL X.K W H1 all xs→Q (.ref a) (upd H1 a (.lst xs)):=q1
  refine ⟨fun i m xs σ' H'=>∃ δ' acc rest,m=ds.length-i∧i≤ds.length∧StHas X.K W₀ (upd H₀ a (.lst xs)) (fun b=>W b∨b=a) H' σ' δ'∧H' a=some (.lst xs)∧(∀ b o,H1 b=some o→H' b=some o)∧
    HasL X.K (fun b=>W b∨b=a) H' acc xs∧compD t gc fe (ds.drop i) δ'= .ok rest∧acc++rest=all∧xs.length≤i,
   ⟨_,List.replicate Nc none++δ,[],all,rfl,Nat.zero_le _,st1.block Nc ha,Az0L,fun b o e=>by rw [upd_ne (Az0J e ha)];exact e,HasL.nil,hc,rfl,Nat.zero_le _⟩,?_⟩
  rintro i m xs σ' H' ⟨δ',acc,rest,rfl,hi,st',hxs,ks,hacc,hrest,hall,hxl⟩
  refine ⟨hxs,?_⟩
  have k':Step W H1 (fun b=>W b∨b=a) H':=⟨fun b o e _=>ks b o e,fun b z=>z.elim .inl fun z=> .inr (by rw [z];exact ha)⟩
  obtain ⟨items,stop⟩:=it _ H' k' st'.fr.wl
  by_cases hl:i<ds.length
  ·right
   have e:ds[i]? =some ds[i]:=List.getElem?_eq_getElem hl
   obtain ⟨go,yld⟩:=items i _ e
   have ed:ds.drop i=ds[i]::ds.drop (i+1):=List.drop_eq_getElem_cons hl
   rw [ed] at hrest
   unfold compD at hrest
   refine ⟨go,fun x H3 z=> ?_⟩
   obtain ⟨k3,hx⟩:=yld x H3 z
   refine ⟨W₀,_,_,δ',ds[i],st'.same k3,hx,?_⟩
   cases h2:t ds[i] δ' with
   |stuck=>rw [h2] at hrest;cases hrest
   |ex c fs=>rw [h2] at hrest;cases hrest
   |ok δ2=>
    rw [h2] at hrest
    dsimp only at hrest
    intro σ2 st2
    refine ⟨W₀,_,_,δ2,st2,?_⟩
    cases h3:gc δ2 with
    |stuck=>rw [h3] at hrest;cases hrest
    |ex c fs=>rw [h3] at hrest;cases hrest
    |ok k=>
     rw [h3] at hrest
     intro H4 k4
     cases k with
     |false=>
      rw [if_neg Bool.false_ne_true]
      have hr':compD t gc fe (ds.drop (i+1)) δ2= .ok rest:=hrest
      exact ⟨ds.length-(i+1),by omega,δ2,acc,rest,rfl,hl,st2.same k4,k4 _ _ (k3 _ _ hxs),fun b o e=>k4 _ _ (k3 _ _ (ks b o e)),(hacc.same k3 st'.fr.wl).same k4 (st'.fr.wl.same k3),hr',hall,by omega⟩
     |true=>
      rw [if_pos rfl]
      have hr':(noex (fe δ2)).bind (fun x=>(compD t gc fe (ds.drop (i+1)) δ2).bind fun r=> .ok (x::r))= .ok rest:=hrest
      refine ⟨W₀,_,_,δ2,st2.same k4,?_⟩
      cases h5:fe δ2 with
      |stuck=>rw [h5] at hr';cases hr'
      |ex c fs=>rw [h5] at hr';cases hr'
      |ok y=>
       rw [h5] at hr'
       intro v H5 k5 hv
       have hr2:(compD t gc fe (ds.drop (i+1)) δ2).bind (fun r=> .ok (y::r))= .ok rest:=hr'
       cases h6:compD t gc fe (ds.drop (i+1)) δ2 with
       |stuck=>rw [h6] at hr2;cases hr2
       |ex c fs=>rw [h6] at hr2;cases hr2
       |ok r=>
        rw [h6] at hr2
        have er:y::r=rest:=by cases hr2;rfl
        have h5a:H5 a=some (.lst xs):=k5 _ _ (k4 _ _ (k3 _ _ hxs))
        have w3:=st'.fr.wl.same k3
        have w4:=w3.same k4
        have w5:=w4.same k5
        have acc5:=((hacc.same k3 st'.fr.wl).same k4 w3).same k5 w4
        have kk:Keep (fun b=>W b∨b=a) H5 (upd H5 a (.lst (xs++ [v]))):=fun b o e n=>by
         rw [upd_ne (fun z=>n (.inr z))];exact e
        have sz:sizeLine=16777216:=sizeLine_eq
        refine ⟨h5a,by omega,ds.length-(i+1),by omega,δ2,acc++ [y],r,rfl,hl,((st2.same k4).same k5).acc h5a (.inr rfl),Az0L,fun b o e=> ?_,HasL.keep kk w5 (fun b z=> .inl z) (acc5.snoc hv),h6,?_,?_⟩
        ·rw [upd_ne (Az0J e ha)];exact k5 _ _ (k4 _ _ (k3 _ _ (ks b o e)))
        ·rw [List.append_assoc];show acc++(y::r)=all;rw [er];exact hall
        ·rw [List.length_append,List.length_singleton];omega
  ·left
   have ei:i=ds.length:=by omega
   subst ei
   rw [List.drop_length] at hrest
   unfold compD at hrest
   have er:rest= []:=by cases hrest;rfl
   subst er
   rw [List.append_nil] at hall
   subst hall
   refine ⟨stop,?_⟩
   have hm:(fun b=>if b=a then none else H' b:Hp) a=none:=if_pos rfl
   have eu:upd (fun b=>if b=a then none else H' b:Hp) a (.lst xs)=H':=by
    funext b
    by_cases hb:b=a
    ·rw [hb,Az0L,hxs]
    ·rw [upd_ne hb,if_neg hb]
   have r:=q2 a xs (fun b=>if b=a then none else H' b) (fun b o e=>by
    have e1:=k1 b o e
    show (if b=a then none else H' b)=some o
    rw [if_neg (Az0J e1 ha)];exact ks b o e1) hm (HasL.keep (W:=fun b=>W b∨b=a) (W':=W) (fun b o e n=>by show (if b=a then none else H' b)=some o;rw [if_neg (fun z=>n (.inr z))];exact e) st'.fr.wl (fun b z=> .inl (.inl z)) hacc)
   rw [eu] at r
   exact r
theorem Cz9U (Nc Nx:List Str) (c:CompOk X scope Nc Nx) (hcalm:X.calm=true) (hi:DI X xw tg iter fi)
  (hY:∀ (C:Addr) (fp:List Addr) (pins:List (Addr×Obj)) (s:Shared) (H:Hp),DG (compCx X scope Nc Nx C fp pins s H) tg t∧DTs (compCx X scope Nc Nx C fp pins s H) ifs gc∧DE (compCx X scope Nc Nx C fp pins s H) xwF elt fe)
  (hs:∀ x,foldedSetIterable iter X.env x=pure x:=by intro _;rfl):
  DF X xw (.ListComp elt [⟨tg,iter,ifs,0⟩] scope pos) (fun δ=>(fi δ).bind fun ds=>compR Nc.length t gc fe δ ds):=
 PE.weak (Cz7S (g:=tDG X.K t) (tt:=tDT X.K xwF gc) (te:=tDE X.K xwF fe) c hcalm hi hY hs) fun σ H Q q=>Bz4P q
theorem Cz9M (i:Nat) {x:Str} {py:Pos} (hN:X.N.Nodup) (Nc Nx:List Str) (c:CompOk X scope Nc Nx) (hcalm:X.calm=true) (hi:DI X xw tg iter fi)
  (hY:∀ (C:Addr) (fp:List Addr) (pins:List (Addr×Obj)) (s:Shared) (H:Hp),DG (compCx X scope Nc Nx C fp pins s H) tg t∧DTs (compCx X scope Nc Nx C fp pins s H) ifs gc∧DE (compCx X scope Nc Nx C fp pins s H) xwF elt fe)
  {spos:Pos} (hiN:X.N[i]? =some x:=by rfl) (hx:Loc X.env.scope x:=by first|exact Or.inl rfl|exact Or.inr rfl)
  (hsw:swapsWith (.ListComp elt [⟨tg,iter,ifs,0⟩] scope pos) (some (.Name x py)) spos.line X.env=pure true:=by rfl)
  (hf:X.fn x=true∨X.env.scope.names.lookup x=some .local:=by first|exact .inl rfl|exact .inr rfl|assumption)
  (hs:∀ x,foldedSetIterable iter X.env x=pure x:=by intro _;rfl):
  DS X xw (.Assign [.Name x py] (.ListComp elt [⟨tg,iter,ifs,0⟩] scope pos) spos) (fun δ=>ofR ((fi δ).bind fun ds=>compR Nc.length t gc fe δ ds) fun ds=> .nx (δ.set i (some (.o ds)))):=
 PS.weak (Cz7H (g:=tDG X.K t) (tt:=tDT X.K xwF gc) (te:=tDE X.K xwF fe) c hcalm hi hY hN hiN hx hsw hf hs) fun Dn σ H ⟨W₀,H₀,W,δ,st,q⟩=>Bz4P (Bz7W st q)
noncomputable def appO (i:Nat) (δ:DSt) (r:Res D):Out:=match δ[i]? with
 |some (some (.o ds))=>@ite Out (ds.length≤100000) (Classical.propDecidable _) (ofR r fun d=> .nx (δ.set i (some (.o (ds++ [d]))))) .stuck
 |_=> .stuck
theorem Cz1M (i:Nat) {x:Str} {p1 p2 p3:Pos} (he:DE X xw e f) (hN:X.N[i]? =some x:=by rfl) (hv:Vis X.env.scope x:=by first|exact Or.inl rfl|exact Or.inr (Or.inl rfl)|exact Or.inr (Or.inr rfl)) (hd:(x==("__debug__":Str))=false:=by decide)
  (hcd:(x==("__classdict__":Str))=false:=by decide)
  (hsE:starEach [e] X.env=(false,eval e X.env)::starEach [] X.env:=by rfl)
  (hbase:attributeBase (.Name x p1) "append" X.env (eval (.Name x p1) X.env)=eval (.Name x p1) X.env:=by rfl)
  (hfew:((backTo p3 (starEach [e] X.env)).all (fun x=> !x.1)&&(backToKw p3 (keywordEach [] X.env)).all (fun x=>x.1.isSome)
   &&decide (([e]:List Expr).length+([]:List Keyword).length+(if ([]:List Keyword).isEmpty then 0 else 1)<30))=true:=by rfl)
  (hline:(p2.endLine==p3.line)=true:=by rfl) (hplain:(backTo p3 (starEach [] X.env)).any (·.1)=false:=by rfl)
  (hsw:swapsWith (.Call (.Attribute (.Name x p1) "append" p2) [e] [] p3) none pos.line X.env=pure false:=by rfl):
  DS X xw (.Expr (.Call (.Attribute (.Name x p1) "append" p2) [e] [] p3) pos) (fun δ=>appO i δ (f δ)):=
 PS.weak (Cz7G (pe_bm PySem.F.plainAttrs_list PySem.F.slot_list_append PySem.F.type_list_append Bz4E (pe_var hN hv hd hcd) (Az7V he pa_nil hsE) hbase hfew hline hsE hplain) hsw) fun Dn σ H ⟨W₀,H₀,W,δ,st,q⟩=>by
  unfold appO at q
  dsimp only at q
  split at q
  ·rename_i ds h
   split at q
   ·rename_i hlen
    obtain ⟨v,e1,a,xs,rfl,r2,r3,r4,r5⟩:=st.at' i _ h
    refine ⟨_,e1, .inl ⟨rfl,xs, .of r4⟩,?_⟩
    refine Az7T st q fun H2 d u st2 hu q2=> ?_
    obtain ⟨v',e1',a',ys,e',r2',r3',r4',r5'⟩:=st2.at' i _ h
    rw [e1] at e1'
    cases e1'
    cases e'
    have sz:sizeLine=16777216:=sizeLine_eq
    refine ⟨a,ys,u,rfl,rfl,r4',?_,?_⟩
    ·rw [←r5'.length];omega
    ·refine q2 W _ σ ⟨fun b o e n=> ?_,fun _ z=> .inl z⟩ (st2.change h e1 r4' r2' (r5'.snoc hu))
     rw [upd_ne (fun z=>n (by rw [z];exact r2'))];exact e
   ·exact q.elim
  ·exact q.elim
def spD (K:PySem.W.Frag) (n:Nat) (m:List D→Res D):Sp:=fun vs H Q _=>vs.length=n∧∃ W ds,WL W H∧HasL K W H ds vs∧match m ds with
 | .ok d=>∀ v H',Same H H'→Has K W H' d v→Q v H'
 |_=>False
structure Fn (P:Program) (w:World) (K:PySem.W.Frag) (mg:Str→Option Value) (base:Heap) (k:Nat) (x:Str) (n:Nat) (m:List D→Res D):Prop where
 ex:∃ f fd ps,FnOk P w K mg base CX0 k f fd ps (spD K n m)∧mg x=some (.ref f)∧PySem.W.keepIn K (.ref f)=true∧Binds K fd ps []
theorem Fn.mono {P:Program} {w:World} {K:PySem.W.Frag} {mg:Str→Option Value} {base:Heap} {j k n:Nat} {x:Str} {m:List D→Res D} (F:Fn P w K mg base j x n m) (h:j≤k):Fn P w K mg base k x n m:=by
 obtain ⟨f,fd,ps,a,b⟩:=F.ex
 exact ⟨f,fd,ps,a.mono h,b⟩
def startD (n:Nat) (ds:List D):DSt:=ds.map (fun d=>some (.d d))++List.replicate (n-ds.length) none
def runD (n:Nat) (g:DSt→Out) (ds:List D):Res D:=match g (startD n ds) with
 | .rt d=> .ok d
 | .nx _=> .ok .non
 |_=> .stuck
theorem Az7L {K:PySem.W.Frag} {W:WS} {H:Hp} {N:List Str} {ds:List D} {vs:List V} (w:WL W H) (r:HasL K W H ds vs):StHas K W H W H (L2.start N vs) (startD N.length ds):=by
 have hl:=r.length
 have idx:∀ {α:Type} (l:List α) (j:Nat) (x:α) (m:Nat),(l.map some++List.replicate m none)[j]? =some (some x)→l[j]? =some x:=fun l j x m e=>by
  by_cases hj:j<l.length
  ·rw [List.getElem?_append_left (by simpa using hj),List.getElem?_map] at e
   cases q:l[j]? with
   |none=>rw [q] at e;cases e
   |some z=>rw [q] at e;cases e;rfl
  ·rw [List.getElem?_append_right (by simpa using hj),List.getElem?_replicate] at e
   split at e<;>cases e
 have eS:startD N.length ds=(ds.map S.d).map some++List.replicate (N.length-ds.length) none:=by
  unfold startD;rw [List.map_map];rfl
 refine ⟨⟨Same.refl _,fun _ z=>z,w,w⟩,?_,fun i s e=> ?_,fun i j s1 s2 a _ os ot e1 _ _ _=> ?_⟩
 ·unfold L2.start startD;simp [hl]
 ·rw [eS] at e
  have e':=idx _ _ _ _ e
  rw [List.getElem?_map] at e'
  cases q:ds[i]? with
  |none=>rw [q] at e';cases e'
  |some d=>
   rw [q] at e'
   cases e'
   obtain ⟨x,h1,h2⟩:=r.get q
   refine ⟨x,?_,h2⟩
   unfold L2.start
   have hi:i<vs.length:=(List.getElem?_eq_some_iff.mp h1).1
   rw [List.getElem?_append_left (by simpa using hi),List.getElem?_map,h1];rfl
 ·rw [eS] at e1
  have e':=idx _ _ _ _ e1
  rw [List.getElem?_map] at e'
  cases q:ds[i]? with
  |none=>rw [q] at e';cases e'
  |some d=>rw [q] at e';cases e';exact os
theorem Cz9A {P:Program} {w:World} {K:PySem.W.Frag} {mg:Str→Option Value} {base:Heap} {k:Nat} {x qual:Str} {st:Stmt} {fa:Addr} {fd:FuncData} {N ps:List Str} {g:DSt→Out} (F:Fun K x qual st fa fd) (S:FnScope N ps (Az0A st))
  (hm:mg x=some (.ref fa)) (hb:Binds K fd ps [])
  (body:∀ (cdv:Value) (A:Around) (outer:List Env) (s:Shared) (H:Hp) (E:XK),Room k (A.deeper (envOfC qual (Az0A st) s.heap.objs.size fa cdv))→
   DSs (cxOf CX0 P w K mg base N qual (Az0A st) fa cdv A outer s H E).nox xwF (Az0F st) g):Fn P w K mg base (k+1) x ps.length (runD N.length g):=by
 refine ⟨fa,fd,ps,F.ok S (fun vs H Q E h=>h.1) (fun cdv A outer s H vs Q E hr h=> ?_),hm,F.kp,hb⟩
 obtain ⟨hl,W,ds,hw,hd,q⟩:=h
 refine ⟨_,body cdv A outer s H E hr,W,H,W,startD N.length ds,Az7L hw hd,?_⟩
 unfold runD at q
 cases h:g (startD N.length ds) with
 |rt d=>rw [h] at q;exact fun v H' k hv=>q v H' k hv
 |nx δ=>rw [h] at q;exact fun W' H' σ' k st'=>q .non H' st'.fr.ext (by rw [Has])
 |bk δ=>rw [h] at q;exact q.elim
 |ct δ=>rw [h] at q;exact q.elim
 |ex c fs=>rw [h] at q;exact q.elim
 |stuck=>rw [h] at q;exact q.elim
def callR (n:Nat) (m:List D→Res D) (ds:List D):Res D:=if ds.length=n then noex (m ds) else .stuck
theorem Cz9Y {a:Expr} {es:List Expr} {k n:Nat} {x:Str} {m:List D→Res D} {fs:DSt→Res (List D)} {p:Pos} (F:Fn X.prog X.w X.K X.mg X.base k x n m) (hr:Room k X.A) (ha:DA X xw (a::es) fs) (hg:Gl X x:=by rfl)
  (hdb:(x==("__debug__":Str))=false:=by decide) (he:starEach (a::es) X.env=(false,eval a X.env)::starEach es X.env:=by rfl) (hpl:(backTo pos (starEach es X.env)).any (·.1)=false:=by rfl):
  DE X xw (.Call (.Name x p) (a::es) [] pos) (fun δ=>(fs δ).bind fun ds=>callR n m ds):=by
 obtain ⟨fa,fd,ps,G,hm,hk,hb⟩:=F.ex
 refine PE.weak (Cz2L G hr hg hm hk hb .nil pass0 ha hdb he hpl) fun σ H Q ⟨W₀,H₀,W,δ,st,q⟩=> ?_
 refine Az7Q st q fun H2 ds vs k w st2 hv _ q2=> ?_
 unfold callR at q2
 split at q2
 ·rename_i hn
  rw [List.append_nil]
  refine ⟨by rw [←hv.length];exact hn,W,ds,w,hv,?_⟩
  cases h:m ds with
  |ok d=>rw [h] at q2;exact q2
  |ex c fs=>rw [h] at q2;exact q2
  |stuck=>rw [h] at q2;exact q2
 ·exact q2.elim
theorem Az7P {a:Expr} {fa:DSt→Res D} {x:Str} {id:String} {r:List V→Hp→VK→Prop} {op:D→Res D} {p:Pos} (hc:CallR X (.builtin id) r) (hop:∀ W H d v Q,WL W H→HasT X.K W H d v→RE X.K xw W H (op d) Q→r [v] H Q)
  (hm:X.mg x=none) (hv:bootBuiltins x=some (.builtin id)) (ha:DP X xw a fa) (hg:Gl X x) (hn:x≠"__name__") (hdb:(x==("__debug__":Str))=false)
  (he:starEach [a] X.env=(false,eval a X.env)::starEach [] X.env) (hpl:(backTo pos (starEach [] X.env)).any (·.1)=false):DE X xw (.Call (.Name x p) [a] [] pos) (fun δ=>(fa δ).bind op):=
 PE.weak (Bz2M hc hg hm hv (Az7V ha pa_nil he) hn hdb he hpl) fun σ H Q ⟨W₀,H₀,W,δ,st,q⟩=>Az5X st q fun H2 d v k w st2 hv _ q2=>hop W H2 d v Q w hv q2
theorem Az7O {a:Expr} {fa:DSt→Res D} {x:Str} {id:String} {r:List V→Hp→VK→Prop} {op:D→Res D} {p:Pos} (hc:CallR X (.type id) r) (hop:∀ W H d v Q,WL W H→HasT X.K W H d v→RE X.K xw W H (op d) Q→r [v] H Q)
  (hm:X.mg x=none) (hv:bootBuiltins x=some (.type id)) (ha:DP X xw a fa) (hg:Gl X x) (hn:x≠"__name__") (hdb:(x==("__debug__":Str))=false)
  (he:starEach [a] X.env=(false,eval a X.env)::starEach [] X.env) (hpl:(backTo pos (starEach [] X.env)).any (·.1)=false):DE X xw (.Call (.Name x p) [a] [] pos) (fun δ=>(fa δ).bind op):=
 PE.weak (Bz3T hc hg hm hv (Az7V ha pa_nil he) hn hdb he hpl) fun σ H Q ⟨W₀,H₀,W,δ,st,q⟩=>Az5X st q fun H2 d v k w st2 hv _ q2=>hop W H2 d v Q w hv q2
noncomputable def lenR:D→Res D
 | .tup ds=> .ok (.int ds.length)
 | .lst ds=> .ok (.int ds.length)
 | .str z=>@ite (Res D) (z.length≤sizeLine) (Classical.propDecidable _) (.ok (.int z.length)) .stuck
 |_=> .stuck
variable {a b:Expr} {fa fb:DSt→Res D} {p:Pos}
theorem de_len (hm:X.mg "len"=none) (ha:DP X xw a fa) (hg:Gl X "len":=by rfl) (he:starEach [a] X.env=(false,eval a X.env)::starEach [] X.env:=by rfl) (hpl:(backTo pos (starEach [] X.env)).any (·.1)=false:=by rfl):
  DE X xw (.Call (.Name "len" p) [a] [] pos) (fun δ=>(fa δ).bind lenR):=
 Az7P Cz6C (fun W H d v Q w hv q=>by
  unfold lenR at q
  split at q
  ·obtain ⟨p,xs,e,sq,r⟩:=hv.tup
   rw [e]
   exact ⟨_,xs.length,rfl, .inr ⟨xs,sq,rfl⟩,by rw [←r.length];exact q.int⟩
  ·obtain ⟨p,xs,e,sq,r⟩:=hv.lst
   rw [e]
   exact ⟨_,xs.length,rfl, .inl ⟨xs,sq,rfl⟩,by rw [←r.length];exact q.int⟩
  ·split at q
   ·rename_i hz
    rw [hv.str]
    exact ⟨_,_,rfl,⟨hz,rfl⟩,q.int⟩
   ·exact q.elim
  ·exact q.elim) hm PySem.boot_len ha hg (by decide) (by decide) he hpl
def tyD:D→Option String
 | .non=>some "NoneType"
 | .bl _=>some "bool"
 | .int _=>some "int"
 | .str _=>some "str"
 | .tup _=>some "tuple"
 | .lst _=>some "list"
 | .dct _ _=>some "dict"
 | .exc _ _=>none
 | .obj _ _ _=>none
def isiB (T C:String):Bool:=T==C||(T=="bool"&&C=="int")
def isiR (C:String) (d:D):Res D:=match tyD d with
 |some T=> .ok (.bl (isiB T C))
 |none=> .stuck
def isiOk (C:String):Prop:=∀ (K:PySem.W.Frag),∀ T∈ ["NoneType","bool","int","str","tuple","list","dict"],PySem.W.kitOne K (.type T) (.type C)=some (isiB T C)
theorem Cz8S:isiOk "int":=by intro K T hT;simp only [List.mem_cons,List.not_mem_nil,or_false] at hT;rcases hT with rfl|rfl|rfl|rfl|rfl|rfl|rfl<;>kernel_rfl
theorem Cz5A:isiOk "bool":=by intro K T hT;simp only [List.mem_cons,List.not_mem_nil,or_false] at hT;rcases hT with rfl|rfl|rfl|rfl|rfl|rfl|rfl<;>kernel_rfl
theorem Cz2T:isiOk "str":=by intro K T hT;simp only [List.mem_cons,List.not_mem_nil,or_false] at hT;rcases hT with rfl|rfl|rfl|rfl|rfl|rfl|rfl<;>kernel_rfl
theorem Az9V:isiOk "tuple":=by intro K T hT;simp only [List.mem_cons,List.not_mem_nil,or_false] at hT;rcases hT with rfl|rfl|rfl|rfl|rfl|rfl|rfl<;>kernel_rfl
theorem Cz6D {C:String} (hC:isiOk C):CallR X (.builtin "isinstance") (fun xs H Q=>∃ W d x T,xs= [x, .ty C]∧HasT X.K W H d x∧tyD d=some T∧Q (.bl (isiB T C)) H):=by
 intro pins s σ H xs us Q I r h
 obtain ⟨W,d,x,T,rfl,hd,ht,q⟩:=h
 obtain ⟨u,u2,rfl,rx,rc⟩:=r.two
 obtain rfl:u2=Value.type C:=rc
 have hk:=hC X.K T (by cases d<;>cases ht<;>simp)
 have fin:∀ tk,EP X pins σ Q (.bool (isiB T C)) {s with toks:=tk}:=fun tk=>⟨.bl _,H,I.tok tk,rfl,q⟩
 cases d with
 |non=>
  cases ht
  have:=hd.non;subst this
  cases (show u=Value.none from rx)
  exact PySem.W.kia_one PySem.W.kitx_none I.kIn True.intro hk (fun z=>nomatch z) fin
 |bl b=>
  cases ht
  have:=hd.bl;subst this
  cases (show u=Value.bool b from rx)
  exact PySem.W.kia_one PySem.W.kitx_bool I.kIn True.intro hk (fun z=>nomatch z) fin
 |int b=>
  cases ht
  have:=hd.int;subst this
  obtain ⟨t,rfl⟩:=(show ∃ t,u=Value.int b t from rx)
  exact PySem.W.kia_one PySem.W.kitx_int I.kIn True.intro hk (fun z=>nomatch z) fin
 |str b=>
  cases ht
  have:=hd.str;subst this
  obtain ⟨t,rfl⟩:=(show ∃ t,u=Value.str b t from rx)
  exact PySem.W.kia_one PySem.W.kitx_str I.kIn True.intro hk (fun z=>nomatch z) fin
 |tup ds=>
  cases ht
  obtain ⟨a,xs,rfl,sq,_⟩:=hd.tup
  cases (show u=Value.ref a from rx)
  obtain ⟨its,_,⟨o,h1,h2,_⟩,_⟩:=I.tuple sq
  exact PySem.W.kia_one PySem.W.kitx_tuple I.kIn ⟨o,h1,h2⟩ hk (fun z=>nomatch z) fin
 |lst ds=>
  cases ht
  obtain ⟨a,xs,rfl,sq,_⟩:=hd.lst
  cases (show u=Value.ref a from rx)
  obtain ⟨its,_,⟨o,n,h1,h2,_⟩,_⟩:=I.list sq
  exact PySem.W.kia_one PySem.W.kitx_list I.kIn ⟨o,h1,h2⟩ hk (fun z=>nomatch z) fin
 |dct ks ds=>
  cases ht
  rcases hd with hd|⟨_,_,_,z,_⟩
  ·rw [Has] at hd
   obtain ⟨a,kvs,rfl,⟨ob,ea⟩,_⟩:=hd
   cases (show u=Value.ref a from rx)
   obtain ⟨_,_,_,vs,_,p⟩:=(show ObjOk X.prog X.w H s.heap a (.frz ob (.dK kvs)) from I.hok a _ ea)
   obtain ⟨o,es,ep,h1,h2,_⟩:=p
   exact PySem.W.kia_one PySem.W.kitx_dict I.kIn ⟨o,h1,h2.1⟩ hk (fun z=>nomatch z) fin
  ·cases z
 |exc c ds=>cases ht
 |obj c k ds=>cases ht
theorem de_isi {C:String} {c:Str} {p2:Pos} (hC:isiOk C) (hbc:bootBuiltins c=some (.type C)) (hm:X.mg "isinstance"=none) (hmc:X.mg c=none) (ha:DP X xw a fa) (hg:Gl X "isinstance":=by rfl) (hgc:Gl X c:=by rfl) (hcn:c≠"__name__":=by decide)
  (hcd:(c==("__debug__":Str))=false:=by decide)
  (he:starEach [a, .Name c p2] X.env=(false,eval a X.env)::starEach [.Name c p2] X.env:=by rfl) (he2:starEach [.Name c p2] X.env=(false,eval (.Name c p2) X.env)::starEach [] X.env:=by rfl)
  (hpl:(backTo pos (starEach [.Name c p2] X.env)).any (·.1)=false:=by rfl):
  DE X xw (.Call (.Name "isinstance" p) [a, .Name c p2] [] pos) (fun δ=>(fa δ).bind (isiR C)):=
 PE.weak (Bz2M (Cz6D hC) hg hm (by decide +kernel) (Az7V ha (Az7V (Cz7T (v:= .ty C) hgc hmc hbc rfl hcn hcd) pa_nil he2) he) (by decide) (by decide) he hpl) fun σ H Q ⟨W₀,H₀,W,δ,st,q⟩=>Az5X st q fun H2 d v k w st2 hv _ q2=>by
  unfold isiR at q2
  split at q2
  ·rename_i T hT
   exact ⟨W,d,v,T,rfl,hv,hT,q2.bl⟩
  ·exact q2.elim
def Az0V:List D→Option (List Bool)
 | []=>some []
 | .bl b::r=>(Az0V r).map (b:: ·)
 |_=>none
def allR:D→Res D
 | .lst ds=>match Az0V ds with
  |some bs=> .ok (.bl (bs.all id))
  |none=> .stuck
 |_=> .stuck
theorem Az9G:∀ {ds:List D} {bs:List Bool} {i:Nat} {d:D},Az0V ds=some bs→ds[i]? =some d→∃ b,d= .bl b∧bs[i]? =some b
 | [],_,_,_,_,e=>by simp at e
 | .bl b::r,bs,i,d,h,e=>by
  rw [Az0V] at h
  obtain ⟨bs',h1,rfl⟩:=Option.map_eq_some_iff.mp h
  cases i with
  |zero=>simp at e;subst e;exact ⟨b,rfl,rfl⟩
  |succ i=>
   obtain ⟨b',e1,e2⟩:=Az9G h1 (by simpa using e)
   exact ⟨b',e1,by simpa using e2⟩
 | .non::_,_,_,_,h,_=>by simp [Az0V] at h
 | .int _::_,_,_,_,h,_=>by simp [Az0V] at h
 | .str _::_,_,_,_,h,_=>by simp [Az0V] at h
 | .tup _::_,_,_,_,h,_=>by simp [Az0V] at h
 | .lst _::_,_,_,_,h,_=>by simp [Az0V] at h
 | .dct _ _::_,_,_,_,h,_=>by simp [Az0V] at h
 | .exc _ _::_,_,_,_,h,_=>by simp [Az0V] at h
 | .obj _ _ _::_,_,_,_,h,_=>by simp [Az0V] at h
theorem Az9F:∀ {ds:List D} {bs:List Bool},Az0V ds=some bs→bs.length=ds.length
 | [],_,h=>by rw [Az0V] at h;cases h;rfl
 | .bl b::r,bs,h=>by
  rw [Az0V] at h
  obtain ⟨bs',h1,rfl⟩:=Option.map_eq_some_iff.mp h
  rw [List.length_cons,List.length_cons,Az9F h1]
 | .non::_,_,h=>by simp [Az0V] at h
 | .int _::_,_,h=>by simp [Az0V] at h
 | .str _::_,_,h=>by simp [Az0V] at h
 | .tup _::_,_,h=>by simp [Az0V] at h
 | .lst _::_,_,h=>by simp [Az0V] at h
 | .dct _ _::_,_,h=>by simp [Az0V] at h
 | .exc _ _::_,_,h=>by simp [Az0V] at h
 | .obj _ _ _::_,_,h=>by simp [Az0V] at h
theorem Cz0K (bs:List Bool):(List.range bs.length).all (fun i=>bs.getD i false)=bs.all id:=by
 induction bs with
 |nil=>rfl
 |cons b bs ih=>
  rw [List.length_cons,List.range_succ_eq_map,List.all_cons,List.all_map,List.all_cons,←ih]
  rfl
theorem Cz1W (hc:X.calm=true):CallR X (.builtin "all") (fun xs H Q=>∃ W ds bs v,xs= [v]∧HasT X.K W H (.lst ds) v∧Az0V ds=some bs∧Q (.bl (bs.all id)) H):=by
 intro pins s σ H xs us Q I r h
 obtain ⟨W,ds,bs,v,rfl,hd,hb,q⟩:=h
 obtain ⟨u,rfl,rx⟩:=vals1 r
 obtain ⟨a,ys,rfl,sq,rl⟩:=hd.lst
 cases (show u=Value.ref a from rx)
 obtain ⟨its,rv,pl,hz⟩:=I.list sq
 have hlt:a<s.heap.objs.size:=by obtain ⟨_,e,_⟩:=pl.isList;exact Heap.lt_size e
 have hh:X.A.in1.handled=none:=I.ok.hd hc
 refine call_all_walk (wpAny_pyIter_list pl.isList ?_)
 refine ⟨s.heap.objs.size,_,_,_,_,_,fun i=>bs.getD i false,rfl,Walks.list hh s.heap.objs.size a (Nat.ne_of_lt hlt) its.toArray,⟨⟨_,Heap.get?_push_size _ rfl,rfl,rfl⟩,pl.isList.push _⟩,fun i v s' Q' E' hP hQ'=> ?_,fun h' tk hk=> ?_⟩
 ·have hi:its[i]? =some v:=by simpa using hP
  have hil:i<ys.length:=by rw [rv.length];exact (List.getElem?_eq_some_iff.mp hi).1
  obtain ⟨x,e1⟩:∃ x,ys[i]? =some x:=⟨_,List.getElem?_eq_getElem hil⟩
  obtain ⟨d,e2,hx⟩:=rl.at' e1
  obtain ⟨b,rfl,e3⟩:=Az9G hb e2
  rw [Has] at hx
  subst hx
  obtain ⟨w',e4,rw'⟩:=rv.get e1
  rw [hi] at e4;cases e4
  cases (show v=Value.bool b from rw')
  refine wpAny_truthy_bool ?_
  have:bs.getD i false=b:=by rw [List.getD_eq_getElem?_getD,e3];rfl
  dsimp only at hQ'
  rw [this] at hQ'
  exact hQ'
 ·have e:its.toArray.size=bs.length:=by rw [List.size_toArray,Az9F hb,rl.length,rv.length]
  rw [e,Cz0K]
  refine ⟨.bl _,H,?_,rfl,q⟩
  refine I.kept (fun b o e=>hk b o ?_ (Heap.get?_push_of_some _ e))
  intro z
  have:b=s.heap.objs.size:=by simpa using z
  exact absurd (Heap.lt_size e) (by rw [this];exact Nat.lt_irrefl _)
theorem de_all (hc:X.calm=true) (hm:X.mg "all"=none) (ha:DP X xw a fa) (hg:Gl X "all":=by rfl) (he:starEach [a] X.env=(false,eval a X.env)::starEach [] X.env:=by rfl) (hpl:(backTo pos (starEach [] X.env)).any (·.1)=false:=by rfl):
  DE X xw (.Call (.Name "all" p) [a] [] pos) (fun δ=>(fa δ).bind allR):=
 Az7P (Cz1W hc) (fun W H d v Q w hv q=>by
  unfold allR at q
  split at q
  ·split at q
   ·rename_i hb
    exact ⟨W,_,_,v,rfl,hv,hb,q.bl⟩
   ·exact q.elim
  ·exact q.elim) hm PyProof.Rows.boot_all ha hg (by decide) (by decide) he hpl
end
end L3
namespace L3
open PySem PySem.Spec PyProof.Rows L2 SeqAt
def kD (d:D):DSt→Res D:=fun _=> .ok d
def b1 {α β:Type} (op:α→Res β) (f:DSt→Res α):DSt→Res β:=fun δ=>(f δ).bind op
def b2 (op:D→D→Res D) (f g:DSt→Res D):DSt→Res D:=fun δ=>(f δ).bind fun x=>(g δ).bind fun y=>op x y
def b3 {β:Type} (op:D→Option Int→Option Int→Res β) (f:DSt→Res D) (g h:DSt→Res (Option Int)):DSt→Res β:=fun δ=>(f δ).bind fun x=>(g δ).bind fun l=>(h δ).bind fun u=>op x l u
def bCh (op op':D→D→Res D) (fa fb fc:DSt→Res D):DSt→Res D:=fun δ=>(fa δ).bind fun x=>(fb δ).bind fun y=>chainR op op' x y (fc δ)
def tR (f:DSt→Res D):DSt→Res Bool:=fun δ=>(f δ).bind boolR
def tAnd2 (a b:DSt→Res Bool):DSt→Res Bool:=fun δ=>andB (a δ) (b δ)
def tOr2 (a b:DSt→Res Bool):DSt→Res Bool:=fun δ=>orB (a δ) (b δ)
def tNot1 (a:DSt→Res Bool):DSt→Res Bool:=fun δ=>(a δ).bind fun k=> .ok (!k)
def vAnd (a b:DSt→Res D):DSt→Res D:=fun δ=>andD (a δ) (b δ)
def vOr (a b:DSt→Res D):DSt→Res D:=fun δ=>orD (a δ) (b δ)
def vIf (c:DSt→Res Bool) (a b:DSt→Res D):DSt→Res D:=fun δ=>(c δ).bind fun k=>if k=true then a δ else b δ
def aNil:DSt→Res (List D):=fun _=> .ok []
def aCons (f:DSt→Res D) (fs:DSt→Res (List D)):DSt→Res (List D):=fun δ=>consR (f δ) (fs δ)
def oNone:DSt→Res (Option Int):=fun _=> .ok none
def asD (f:DSt→Res (List D)):DSt→Res D:=fun δ=>(f δ).bind fun ds=> .ok (.lst ds)
noncomputable def vComp (n:Nat) (t:D→DSt→Res DSt) (gc:DSt→Res Bool) (fe:DSt→Res D) (fi:DSt→Res (List D)):DSt→Res (List D):=fun δ=>(fi δ).bind fun ds=>compR n t gc fe δ ds
def sSeq (g1 g2:DSt→Out):DSt→Out:=fun δ=>seqO (g1 δ) g2
def sSet (i:Nat) (f:DSt→Res D):DSt→Out:=fun δ=>ofR (f δ) fun d=> .nx (δ.set i (some (.d d)))
def sOwn (i:Nat) (f:DSt→Res (List D)):DSt→Out:=fun δ=>ofR (f δ) fun ds=> .nx (δ.set i (some (.o ds)))
def sIf (c:DSt→Res Bool) (a b:DSt→Out):DSt→Out:=fun δ=>ifO (c δ) (a δ) (b δ)
def sFor (t:D→DSt→Res DSt) (g:DSt→Out) (fi:DSt→Res (List D)):DSt→Out:=fun δ=>ofR (fi δ) fun ds=>forD t g ds δ
def sWhile (n:Nat) (c:DSt→Res Bool) (g:DSt→Out):DSt→Out:=fun δ=>whileD c g n δ
noncomputable def sApp (i:Nat) (f:DSt→Res D):DSt→Out:=fun δ=>appO i δ (f δ)
def sRet (f:DSt→Res D):DSt→Out:=fun δ=>ofR (f δ) fun d=> .rt d
def sRetN:DSt→Out:=fun _=> .rt .non
def sExpr (f:DSt→Res D):DSt→Out:=fun δ=>ofR (f δ) fun _=> .nx δ
def asgO (t:D→DSt→Res DSt) (δ:DSt) (d:D):Out:=match t d δ with
 | .ok δ'=> .nx δ'
 |_=> .stuck
def sAsg (t:D→DSt→Res DSt) (f:DSt→Res D):DSt→Out:=fun δ=>ofR (f δ) (asgO t δ)
section
variable {X:Cx} {xw:XW} {e a b c:Expr} {f fa fb:DSt→Res D} {pos p:Pos} {st:Stmt} {tg:Expr} {t:D→DSt→Res DSt} {fs:DSt→Res (List D)}
theorem ds_no:DS X xw st (fun _=> .stuck):=PS.weak Cz4E fun Dn σ H ⟨W₀,H₀,W,δ,st,q⟩=>q
theorem Cz5V {x:Str} {i:Int} (hm:∃ t,X.mg x=some (.int i t)) (hg:Gl X x:=by rfl) (hdb:(x==("__debug__":Str))=false:=by decide):DE X xw (.Name x pos) (kD (.int i)):=by
 obtain ⟨t,hm⟩:=hm
 exact Cz2Z (v:= .int i) hm ⟨t,rfl⟩ (fun W H=>by rw [Has]) hg hdb
theorem Cz5U {x y:Str} (hm:∃ t,X.mg x=some (.str y t)) (hg:Gl X x:=by rfl) (hdb:(x==("__debug__":Str))=false:=by decide):DE X xw (.Name x pos) (kD (.str y)):=by
 obtain ⟨t,hm⟩:=hm
 exact Cz2Z (v:= .str y) hm ⟨t,rfl⟩ (fun W H=>by rw [Has]) hg hdb
theorem Bz4A {σ:L2.St} {H:Hp} {W₀ W:WS} {H₀:Hp} {δ:DSt} {op:D→Res (List D)} {Q:VK} {R:V→Hp→Prop} (st:StHas X.K W₀ H₀ W H σ δ)
  (q:RF X.K xw W H ((fa δ).bind op) Q)
  (h:∀ H2 d v,Same H H2→WL W H2→StHas X.K W₀ H₀ W H2 σ δ→HasT X.K W H2 d v→fa δ= .ok d→RF X.K xw W H2 (op d) Q→R v H2):
  tDP X.K xw fa σ H fun x H1=>R x H1:=by
 refine ⟨W₀,H₀,W,δ,st,?_⟩
 cases h1:fa δ with
 |stuck=>rw [h1] at q;exact q
 |ex c fs=>rw [h1] at q;exact q
 |ok d=>
  rw [h1] at q
  intro v H1 k1 hv
  exact h H1 d v k1 (st.fr.wl.same k1) (st.same k1) hv h1 (RF.same (r:=op d) q k1)
def seqR:D→Res (List D)
 | .tup ds=> .ok ds
 | .lst ds=> .ok ds
 |_=> .stuck
theorem Cz1O (hm:X.mg "list"=none) (ha:DP X xw a fa) (hg:Gl X "list":=by rfl) (he:starEach [a] X.env=(false,eval a X.env)::starEach [] X.env:=by rfl) (hpl:(backTo pos (starEach [] X.env)).any (·.1)=false:=by rfl):
  DF X xw (.Call (.Name "list" p) [a] [] pos) (b1 seqR fa):=
 PE.weak (Bz3T Bz3D hg hm (by decide +kernel) (Az7V ha pa_nil he) (by decide) (by decide) he hpl) fun σ H Q ⟨W₀,H₀,W,δ,st,q⟩=>Bz4A st q fun H2 d v k w st2 hv _ q2=>by
  unfold seqR at q2
  split at q2
  ·obtain ⟨p,xs,e,sq,r⟩:=hv.tup
   rw [e]
   exact ⟨p,xs,rfl, .inr sq,fun l hl=>q2 l xs H2 (Same.refl _) hl r⟩
  ·obtain ⟨p,xs,e,sq,r⟩:=hv.lst
   rw [e]
   exact ⟨p,xs,rfl, .inl sq,fun l hl=>q2 l xs H2 (Same.refl _) hl r⟩
  ·exact q2.elim
def tupofR:D→Res D
 | .tup ds=> .ok (.tup ds)
 | .lst ds=> .ok (.tup ds)
 |_=> .stuck
theorem Cz5T (hm:X.mg "tuple"=none) (ha:DP X xw a fa) (hg:Gl X "tuple":=by rfl) (he:starEach [a] X.env=(false,eval a X.env)::starEach [] X.env:=by rfl) (hpl:(backTo pos (starEach [] X.env)).any (·.1)=false:=by rfl):
  DE X xw (.Call (.Name "tuple" p) [a] [] pos) (b1 tupofR fa):=
 Az7O Bz1O (fun W H d v Q w hv q2=>by
  unfold tupofR at q2
  split at q2
  ·obtain ⟨p,xs,e,sq,r⟩:=hv.tup
   rw [e]
   exact ⟨p,xs,rfl, .inr ⟨sq,q2 _ H (Same.refl _) (by rw [Has];exact ⟨p,xs,rfl,sq,r⟩)⟩⟩
  ·obtain ⟨p,xs,e,sq,r⟩:=hv.lst
   rw [e]
   exact ⟨p,xs,rfl, .inl ⟨sq,fun l hl=>q2.newT w hl r⟩⟩
  ·exact q2.elim) hm (by decide +kernel) ha hg (by decide) (by decide) he hpl
theorem Bz4O {x:Str} {id:String} {r:List V→Hp→VK→Prop} {op:List D→Res D} {es:List Expr} (hc:CallR X (.builtin id) r) (hop:∀ W H ds vs Q,WL W H→HasL X.K W H ds vs→RE X.K xw W H (op ds) Q→r vs H Q)
  (hm:X.mg x=none) (hv:bootBuiltins x=some (.builtin id)) (ha:DA X xw (a::es) fs) (hg:Gl X x) (hn:x≠"__name__") (hdb:(x==("__debug__":Str))=false)
  (he:starEach (a::es) X.env=(false,eval a X.env)::starEach es X.env) (hpl:(backTo pos (starEach es X.env)).any (·.1)=false):DE X xw (.Call (.Name x p) (a::es) [] pos) (b1 op fs):=
 PE.weak (Bz2M hc hg hm hv ha hn hdb he hpl) fun σ H Q ⟨W₀,H₀,W,δ,st,q⟩=>Az7Q st q fun H2 ds vs k w st2 hv _ q2=>hop W H2 ds vs Q w hv q2
def maxR:List D→Res D
 | [.int i, .int j]=> .ok (.int (max i j))
 |_=> .stuck
def minR:List D→Res D
 | [.int i, .int j]=> .ok (.int (min i j))
 |_=> .stuck
theorem Cz9W {b:Expr} (hc:X.calm=true) (hm:X.mg "max"=none) (ha:DA X xw [a,b] fs) (hg:Gl X "max":=by rfl) (he:starEach [a,b] X.env=(false,eval a X.env)::starEach [b] X.env:=by rfl) (hpl:(backTo pos (starEach [b] X.env)).any (·.1)=false:=by rfl):
  DE X xw (.Call (.Name "max" p) [a,b] [] pos) (b1 maxR fs):=
 Bz4O (Cz1T hc) (fun W H ds vs Q w hv q=>by
  unfold maxR at q
  split at q
  ·rename_i i j
   refine ⟨i,j,hv.two,?_⟩
   have e:(if j>i then j else i)=max i j:=by split<;>omega
   rw [e]
   exact q.int
  ·exact q.elim) hm (by decide +kernel) ha hg (by decide) (by decide) he hpl
theorem Cz9V {b:Expr} (hc:X.calm=true) (hm:X.mg "min"=none) (ha:DA X xw [a,b] fs) (hg:Gl X "min":=by rfl) (he:starEach [a,b] X.env=(false,eval a X.env)::starEach [b] X.env:=by rfl) (hpl:(backTo pos (starEach [b] X.env)).any (·.1)=false:=by rfl):
  DE X xw (.Call (.Name "min" p) [a,b] [] pos) (b1 minR fs):=
 Bz4O (Cz1S hc) (fun W H ds vs Q w hv q=>by
  unfold minR at q
  split at q
  ·rename_i i j
   refine ⟨i,j,hv.two,?_⟩
   have e:(if j<i then j else i)=min i j:=by split<;>omega
   rw [e]
   exact q.int
  ·exact q.elim) hm (by decide +kernel) ha hg (by decide) (by decide) he hpl
def absR:D→Res D
 | .int i=> .ok (.int (if i<0 then -i else i))
 |_=> .stuck
theorem de_abs (hm:X.mg "abs"=none) (ha:DP X xw a fa) (hg:Gl X "abs":=by rfl) (he:starEach [a] X.env=(false,eval a X.env)::starEach [] X.env:=by rfl) (hpl:(backTo pos (starEach [] X.env)).any (·.1)=false:=by rfl):
  DE X xw (.Call (.Name "abs" p) [a] [] pos) (b1 absR fa):=
 Az7P Cz6E (fun W H d v Q w hv q=>by
  unfold absR at q
  split at q
  ·exact ⟨_,by rw [hv.int],q.int⟩
  ·exact q.elim) hm (by decide +kernel) ha hg (by decide) (by decide) he hpl
variable {lo hi:Option Expr} {fl fh:DSt→Res (Option Int)} {p2:Pos}
def slD (d:D) (lo hi:Option Int):Res D:=match d with
 | .tup ds=>if whole ds.length lo hi then .stuck else .ok (.tup (cutD ds lo hi))
 | .lst ds=> .ok (.lst (cutD ds lo hi))
 |_=> .stuck
def iSeq (K:PySem.W.Frag) (tl:TE):TI:=fun σ H R=>tl σ H fun x H1=>∃ a,x= .ref a∧(((∃ xs,SqL K H1 a xs)∧R (Itl K a) H1)∨((∃ xs,SqT K H1 a xs)∧R (Itt K a) H1))
theorem pi_seq {l:Expr} {tl:TE} (hl:PE X l tl):PI X tg l (iSeq X.K tl):=by
 intro pins s σ H R I h
 refine thn (hl pins s σ H _ I h) fun v s1 ⟨x,H1,I1,r1,q1⟩=> ?_
 obtain ⟨a,e,q1⟩:=q1
 subst e
 cases r1
 rcases q1 with ⟨⟨xs,hq⟩,q⟩|⟨⟨xs,hq⟩,q⟩
 ·obtain ⟨its,rv,p,hz⟩:=I1.list hq
  refine wpAny_pyIter_list p.isList ?_
  refine ⟨s1.heap.objs.size,[s1.heap.objs.size],_,_,H1,rfl,I1.kept (t':=s1.toks) fun b o e=>Heap.get?_push_of_some _ e,Bz9V a _,⟨_,Heap.get?_push_size _ rfl,rfl,rfl⟩,fun b hb=> ?_,q⟩
  have e:b=s1.heap.objs.size:=by simpa using hb
  subst e
  exact I1.fpOk (Nat.le_refl _) (I1.hok.fresh (Nat.le_refl _))
 ·obtain ⟨its,rv,p,hz⟩:=I1.tuple hq
  refine wpAny_pyIter_tuple (show s1.heap.IsTuple a its.toArray from p) ?_
  refine ⟨s1.heap.objs.size,[s1.heap.objs.size],_,_,H1,rfl,I1.kept (t':=s1.toks) fun b o e=>Heap.get?_push_of_some _ e,Bz6M a _,⟨_,Heap.get?_push_size _ rfl,rfl,rfl⟩,fun b hb=> ?_,q⟩
  have e:b=s1.heap.objs.size:=by simpa using hb
  subst e
  exact I1.fpOk (Nat.le_refl _) (I1.hok.fresh (Nat.le_refl _))
theorem di_seq (h:DE X xw e f):DI X xw tg e (b1 seqR f):=PI.weak (pi_seq h) fun σ H R ⟨W₀,H₀,W,δ,st,q⟩=>by
 refine ⟨W₀,H₀,W,δ,st,?_⟩
 simp only [b1] at q
 cases h1:f δ with
 |stuck=>rw [h1] at q;exact q
 |ex c fs=>rw [h1] at q;exact q
 |ok d=>
  rw [h1] at q
  intro v H1 k1 hv
  cases d with
  |lst ds=>
   rw [Has] at hv
   obtain ⟨a,xs,e,sq,r⟩:=hv
   exact ⟨a,e, .inl ⟨⟨xs,sq.sq⟩,q _ H1 k1 (itl_ok (st.fr.wl.same k1) sq r)⟩⟩
  |tup ds=>
   rw [Has] at hv
   obtain ⟨a,xs,e,sq,r⟩:=hv
   exact ⟨a,e, .inr ⟨⟨xs,sq⟩,q _ H1 k1 (itt_ok (st.fr.wl.same k1) sq r)⟩⟩
  |_=>exact q.elim
theorem Cz5R {P:Program} {w:World} {H:Hp} (h:Heap) (hb:sysModules<h.objs.size):ObjOk P w H (h.push {cls:= .type "dict",data:= .dict #[]}) h.objs.size (.dK []):=
 ⟨Nat.zero_le _,beq_eq_false_iff_ne.mpr (Ne.symm (Nat.ne_of_lt hb)),[], .nil,Heap.DictOf.new h⟩
end
def notNR (d:D):Res D:=match d with
 | .non=> .ok (.bl false)
 |_=> .ok (.bl true)
section
variable {X:Cx} {xw:XW} {a:Expr} {fa:DSt→Res D} {pos:Pos}
theorem dt_notN' {j pos'} (ha:DP X xw a fa):DT X xw (.Compare a [.IsNot] [.Constant .none j pos'] pos) (tR (b1 notNR fa)):=
 DE.t_of (f:=b1 notNR fa) (PT.weak (pt_cmp (Cz7U ha)) fun σ H Q q=>by
  obtain ⟨W₀,H₀,W,δ,st,q⟩:=q
  exact Az5X st q fun H2 d v k w st2 hv _ q2=>by
   unfold notNR at q2
   split at q2
   ·rw [hv.non];exact q2.bl
   ·rename_i hd
    rw [decide_eq_false (hv.isN hd)];exact q2.bl)
end
theorem hu40 {A:Around} {k:Nat} (hr:Room k A):A.units+40<cLine:=by have:=hr.units;omega
theorem Cz5K {P:Program} {w:World} {K:PySem.W.Frag} {mg:Str→Option Value} {base:Heap} {k:Nat} {x qual:Str} {st:Stmt} {fa:Addr} {fd:FuncData} {N ps:List Str} {g:DSt→Out} (F:Fun K x qual st fa fd) (S:FnScope N ps (Az0A st))
  (body:∀ (cdv:Value) (A:Around) (outer:List Env) (s:Shared) (H:Hp) (E:XK),Room k (A.deeper (envOfC qual (Az0A st) s.heap.objs.size fa cdv))→
   DSs (cxOf CX0 P w K mg base N qual (Az0A st) fa cdv A outer s H E).nox xwF (Az0F st) g):FnOk P w K mg base CX0 (k+1) fa fd ps (spD K ps.length (runD N.length g)):=by
 refine F.ok S (fun vs H Q E h=>h.1) (fun cdv A outer s H vs Q E hr h=> ?_)
 obtain ⟨hl,W,ds,hw,hd,q⟩:=h
 refine ⟨_,body cdv A outer s H E hr,W,H,W,startD N.length ds,Az7L hw hd,?_⟩
 unfold runD at q
 cases h:g (startD N.length ds) with
 |rt d=>rw [h] at q;exact fun v H' k hv=>q v H' k hv
 |nx δ=>rw [h] at q;exact fun W' H' σ' k st'=>q .non H' st'.fr.ext (by rw [Has])
 |bk δ=>rw [h] at q;exact q.elim
 |ct δ=>rw [h] at q;exact q.elim
 |ex c fs=>rw [h] at q;exact q.elim
 |stuck=>rw [h] at q;exact q.elim
def spLaw (K:PySem.W.Frag):Sp:=fun vs H Q _=>∃ (a:Addr) (ns:List Int),vs= [.ref a]∧SqL K H a (ns.map V.int)∧ns.length≤63∧∀ H',Q (.bl true) H'
theorem law_of {P:Program} {w:World} {K:PySem.W.Frag} {mg:Str→Option Value} {base:Heap} {k:Nat} {f:Addr} {fd:FuncData} {ps:List Str} {m:List D→Res D} (G:FnOk P w K mg base CX0 k f fd ps (spD K 1 m))
  (h:∀ ns:List Int,ns.length≤63→m [.lst (ns.map D.int)]= .ok (.bl true)):FnOk P w K mg base CX0 k f fd ps (spLaw K):=by
 refine G.imp fun vs H Q E q=> ?_
 obtain ⟨a,ns,rfl,sq,hl,q⟩:=q
 refine ⟨rfl,fun _=>False,[.lst (ns.map D.int)],fun b z=>z.elim,HasL.cons ?_ HasL.nil,?_⟩
 ·rw [Has]
  refine ⟨a,_,rfl,?_,HasL.ints⟩
  rcases sq with (z|z)|z
  ·exact .inl ⟨z,fun z=>z⟩
  ·exact .inr (.inl z)
  ·exact .inr (.inr z)
 ·rw [h ns hl]
  intro v H' k hv
  rw [Has] at hv
  rw [hv]
  exact q H'
end L3
namespace L3
open PySem
section
variable {prog:Program} {w:World} {A:Around} {E:Value→Shared→Prop} {s:Shared}
theorem Bz7V {it t:Addr} {i:Nat} {items:Array Value} {x:Value} {Q:Value→Shared→Prop} (hi:s.heap.IsTupleIter it t i) (ht:s.heap.IsTuple t items) (hx:items[i]? =some x)
  (hQ:∀ h',h'.IsTupleIter it t (i+1)→Heap.SameBut it s.heap h'→Q x {s with heap:=h'}):wpAny (model prog w) A (Builtin.SmallTypes.nextOf (.ref it)) Q E s:=by
 obtain ⟨o,h1,h2,h3⟩:=id hi
 obtain ⟨u,g1,g2,m,g3⟩:=ht
 unfold Builtin.SmallTypes.nextOf
 refine wpAny_bind (wpAny_callSpecial?_slot (name:=Str.ofString "__next__") hi.typeIs F.slot_tuple_iterator_next (wpAny_call_entry F.slot_tuple_iterator_next hi.typeIs F.entry_tuple_iterator_next ?_ (F.args_tuple_iterator_next_1 _)))
 show wpAny _ _ (field (.ref it) 0 >>= _) _ _ s;refine wpAny_bind (wpAny_field h1 h3 (x:= .ref t) rfl ?_)
 show wpAny _ _ (if (Value.ref t==Value.none)=true then _ else _) _ _ s;rw [if_neg (show ¬ ((Value.ref t==Value.none)=true) from Bool.false_ne_true)]
 show wpAny _ _ (field (.ref it) 1 >>= _) _ _ s;refine wpAny_bind (wpAny_field h1 h3 (x:= .int i 0) rfl ?_)
 show wpAny _ _ (seqItems? (.ref t) >>= _) _ _ s;refine wpAny_bind (wpAny_seqItems g1 g3 ?_)
 simp only [Int.toNat_natCast,hx]
 refine wpAny_bind (wpAny_setField h1 h3 (by simp) (wpAny_pure ⟨x,rfl,wpAny_pure (hQ _ ⟨_,Heap.get?_update_self _ h1 (Obj.isFreed_of_fields (Obj.data_mapFields h3 _)),(Obj.cls_mapFields ..).trans h2,?_⟩ (Heap.SameBut.update ..))⟩))
 rw [Obj.data_mapFields h3];simp [rawInt]
theorem Cz0U {it t:Addr} {i:Nat} {items:Array Value} {Q:Value→Shared→Prop} (hh:A.handled=none) (hi:s.heap.IsTupleIter it t i) (ht:s.heap.IsTuple t items) (hx:items[i]? =none)
  (hE:∀ h' e,Heap.ExtBut it s.heap h'→(∃ o,h'.get? e=some o∧o.cls= .type "StopIteration")→E (.ref e) {s with heap:=h'}):wpAny (model prog w) A (Builtin.SmallTypes.nextOf (.ref it)) Q E s:=by
 obtain ⟨o,h1,h2,h3⟩:=id hi
 obtain ⟨u,g1,g2,m,g3⟩:=ht
 unfold Builtin.SmallTypes.nextOf
 refine wpAny_bind (wpAny_callSpecial?_slot (name:=Str.ofString "__next__") hi.typeIs F.slot_tuple_iterator_next (wpAny_call_entry F.slot_tuple_iterator_next hi.typeIs F.entry_tuple_iterator_next ?_ (F.args_tuple_iterator_next_1 _)))
 show wpAny _ _ (field (.ref it) 0 >>= _) _ _ s;refine wpAny_bind (wpAny_field h1 h3 (x:= .ref t) rfl ?_)
 show wpAny _ _ (if (Value.ref t==Value.none)=true then _ else _) _ _ s;rw [if_neg (show ¬ ((Value.ref t==Value.none)=true) from Bool.false_ne_true)]
 show wpAny _ _ (field (.ref it) 1 >>= _) _ _ s;refine wpAny_bind (wpAny_field h1 h3 (x:= .int i 0) rfl ?_)
 show wpAny _ _ (seqItems? (.ref t) >>= _) _ _ s;refine wpAny_bind (wpAny_seqItems g1 g3 ?_)
 simp only [Int.toNat_natCast,hx]
 refine wpAny_bind (wpAny_rule (wpAny_bind (wpAny_setField h1 h3 (by simp) ?_)));show wpAny _ _ (newExc (.type "StopIteration") [] >>= _) _ _ _
 refine wpAny_bind ?_;simp only [newExc,newTuple]
 refine wpAny_bind (wpAny_newObj_type ?_ (by size_fits));refine wpAny_bind (m:=firstArgMember _ _) (wpAny_of_eq (a:=Value.none) (by first|rfl|(simp only [firstArgMember];rfl)) ?_)
 refine wpAny_newObj_type ?_ (by size_fits);simp only [raiseNew]
 refine wpAny_bind (wpAny_handled ?_);first|rw [show A.in1.handled=none from hh]|rw [hh]
 refine wpAny_bind (wpAny_pure (wpAny_throw (hE _ _ (((Heap.SameBut.update ..).extBut.push _).push _) ⟨_,Heap.get?_push_size _ rfl,rfl⟩)))
end
theorem drawsT {prog:Program} {w:World} {A:Around} (hh:A.handled=none) (it t:Addr) (hne:t≠it) (items:Array Value):Draws prog w A it [it,t] items.size (fun i v=>items[i]? =some v) (fun i h=>h.IsTupleIter it t i∧h.IsTuple t items) where
 live:=fun _ _ st=>let ⟨o,ho,_⟩:=st.1;⟨o,ho⟩
 frame:=fun _ _ _ st hk=>⟨let ⟨o,e,r⟩:=st.1;⟨o,hk it (by simp) o e,r⟩,let ⟨o,e,r⟩:=st.2;⟨o,hk t (by simp) o e,r⟩⟩
 item:=fun i s Q E hi st hQ=>Bz7V st.1 st.2 (x:=items[i]) (by simp [hi]) fun h' z hs=>hQ _ h' s.toks (by simp [hi]) ⟨z,let ⟨o,e,r⟩:=st.2;⟨o,hs.extBut _ _ hne e,r⟩⟩ hs
 done:=fun s Q E st hE=>Cz0U hh st.1 st.2 (by simp) hE
structure ZA (z TI TO i1 i2:Addr) (f1 f2:List Addr):Prop where
 a1:TI≠z
 a2:TO≠z
 a3:TI≠TO
 m1:i1∈f1
 m2:i2∈f2
 z1:z∉f1
 z2:z∉f2
 o1:TO∉f1
 o2:TO∉f2
 t1:TI∉f1
 t2:TI∉f2
 x1:i2∉f1
 x2:i1∉f2
section
variable {prog:Program} {w:World} {A:Around} {E:Value→Shared→Prop} {s:Shared} {z TI TO i1 i2:Addr} {f1 f2:List Addr} {n1 n2 k:Nat} {P1 P2:Nat→Value→Prop} {S1 S2:Nat→Heap→Prop} {a b:Value}
theorem Bz9Q (D1:Draws prog w A i1 f1 n1 P1 S1) (D2:Draws prog w A i2 f2 n2 P2 S2) (Z:ZA z TI TO i1 i2 f1 f2) (hz:IsZip s.heap z TI TO .none) (hTI:IsPair s.heap TI (.ref i1) (.ref i2)) (hTO:IsPair s.heap TO a b)
  (s1:S1 k s.heap) (s2:S2 k s.heap) (hk1:k<n1) (hk2:k<n2) {Q:Value→Shared→Prop}
  (hQ:∀ x y h' tk,P1 k x→P2 k y→IsZip h' z TI TO (rawInt s.heap.objs.size)→IsPair h' TO x y→S1 (k+1) h'→S2 (k+1) h'→IsPair h' s.heap.objs.size x y→h'.objs.size=s.heap.objs.size+1→
   (∀ c o,c≠z→c≠TO→c≠i1→c≠i2→s.heap.get? c=some o→h'.get? c=some o)→Q (.ref s.heap.objs.size) {s with heap:=h',toks:=tk}):
  wpAny (model prog w) A (Builtin.«zip.__next__» ⟨[.ref z],[]⟩) (fun fin s'=>∃ v,fin= .done (.ret v)∧Q v s') E s:=by
 have ne1:∀ {c},c∉f1→c≠i1:=fun h e=>h (e▸Z.m1)
 have ne2:∀ {c},c∉f2→c≠i2:=fun h e=>h (e▸Z.m2)
 have out1:∀ {c d},c∉f1→d∈f1→d≠c:=fun h m e=>h (e▸m)
 have out2:∀ {c d},c∉f2→d∈f2→d≠c:=fun h m e=>h (e▸m)
 show wpAny _ _ (field (.ref z) 2 >>= _) _ _ _;refine wpAny_bind (wpAny_field hz rfl (x:= .bool false) rfl ?_)
 show wpAny _ _ (field (.ref z) 3 >>= _) _ _ _;refine wpAny_bind (wpAny_field hz rfl (x:= .ref TI) rfl (wpAny_bind (wpAny_seqItems hTI rfl ?_)))
 show wpAny _ _ (Builtin.SmallTypes.ownedTupleIsFree (.ref z) >>= _) _ _ _
 refine wpAny_bind ?_;unfold Builtin.SmallTypes.ownedTupleIsFree
 refine wpAny_bind (wpAny_field hz rfl (x:= .none) rfl (wpAny_pure ?_));simp only [if_true]
 refine wpAny_bind (wpAny_rule (wpAny_bind (wpAny_field hz rfl (x:= .ref TO) rfl (wpAny_bind (wpAny_setField_rec hz (by simp) fun g1 z1 c1=> ?_)))))
 replace z1:IsZip g1 z TI TO .ellipsis:=z1
 refine wpAny_bind ?_;simp only [List.zipIdx_cons,List.zipIdx_nil,List.forIn_cons,List.forIn_nil]
 have s11:S1 k g1:=D1.frame _ _ _ s1 fun c hc o e=>c1.extBut _ _ (out1 Z.z1 hc) e
 have s21:S2 k g1:=D2.frame _ _ _ s2 fun c hc o e=>c1.extBut _ _ (out2 Z.z2 hc) e
 refine wpAny_bind (wpAny_bind (wpAny_onRaise ?_));show wpAny _ _ (Builtin.SmallTypes.nextOf (.ref i1) >>= _) _ _ _
 refine wpAny_bind (D1.item k _ _ _ hk1 s11 fun x g2 tk2 px s12 c2=>wpAny_pure ?_)
 have s22:S2 k g2:=D2.frame _ _ _ s21 fun c hc o e=>c2.extBut _ _ (fun q=>Z.x2 (q▸hc)) e
 have T2:IsPair g2 TO a b:=c2.extBut _ _ (ne1 Z.o1) (c1.extBut _ _ Z.a2 hTO)
 refine wpAny_bind (wpAny_seqItems T2 rfl (wpAny_bind (wpAny_updateSeq_pair T2 fun g3 T3 c3=> ?_)))
 replace T3:IsPair g3 TO x b:=T3
 have s13:S1 (k+1) g3:=D1.frame _ _ _ s12 fun c hc o e=>c3.extBut _ _ (out1 Z.o1 hc) e
 have s23:S2 k g3:=D2.frame _ _ _ s22 fun c hc o e=>c3.extBut _ _ (out2 Z.o2 hc) e
 refine wpAny_bind (wpAny_letGo (wpAny_pure (wpAny_bind (wpAny_bind (wpAny_onRaise ?_)))));show wpAny _ _ (Builtin.SmallTypes.nextOf (.ref i2) >>= _) _ _ _
 refine wpAny_bind (D2.item k _ _ _ hk2 s23 fun y g4 tk4 py s24 c4=>wpAny_pure ?_)
 have s14:S1 (k+1) g4:=D1.frame _ _ _ s13 fun c hc o e=>c4.extBut _ _ (fun q=>Z.x1 (q▸hc)) e
 have T4:IsPair g4 TO x b:=c4.extBut _ _ (ne2 Z.o2) T3
 refine wpAny_bind (wpAny_seqItems T4 rfl (wpAny_bind (wpAny_updateSeq_pair T4 fun g5 T5 c5=> ?_)))
 replace T5:IsPair g5 TO x y:=T5
 have s15:S1 (k+1) g5:=D1.frame _ _ _ s14 fun c hc o e=>c5.extBut _ _ (out1 Z.o1 hc) e
 have s25:S2 (k+1) g5:=D2.frame _ _ _ s24 fun c hc o e=>c5.extBut _ _ (out2 Z.o2 hc) e
 refine wpAny_bind (wpAny_letGo (wpAny_pure (wpAny_pure (wpAny_bind (wpAny_seqItems T5 rfl (wpAny_bind (wpAny_newTuple ?_)))))))
 have hsz:g5.objs.size=s.heap.objs.size:=by rw [c5.1,c4.1,c3.1,c2.1,c1.1]
 have z5:IsZip g5 z TI TO .ellipsis:=c5.extBut _ _ Z.a2.symm (c4.extBut _ _ (ne2 Z.z2) (c3.extBut _ _ Z.a2.symm (c2.extBut _ _ (ne1 Z.z1) z1)))
 have kk:∀ c o,c≠z→c≠TO→c≠i1→c≠i2→s.heap.get? c=some o→g5.get? c=some o:=fun c o e1 e2 e3 e4 e=>c5.extBut _ _ e2 (c4.extBut _ _ e4 (c3.extBut _ _ e2 (c2.extBut _ _ e3 (c1.extBut _ _ e1 e))))
 have lz:z<g5.objs.size:=Heap.lt_size z5
 show wpAny _ _ (Builtin.SmallTypes.ownedTupleHandOut (.ref z) (.ref g5.objs.size) >>= _) _ _ _
 refine wpAny_bind ?_;unfold Builtin.SmallTypes.ownedTupleHandOut
 have z6:IsZip (g5.push {cls:= .type "tuple",data:= .seq #[x,y]}) z TI TO .ellipsis:=Heap.get?_push_of_some _ z5
 refine wpAny_bind (wpAny_setField_rec z6 (by simp) fun g7 z7 c7=> ?_)
 replace z7:IsZip g7 z TI TO (rawInt g5.objs.size):=z7
 refine wpAny_setField_rec z7 (by simp) fun g8 z8 c8=> ?_
 replace z8:IsZip g8 z TI TO (rawInt g5.objs.size):=z8
 have up:∀ c o,c≠z→g5.get? c=some o→g8.get? c=some o:=fun c o e1 e=>c8.extBut _ _ e1 (c7.extBut _ _ e1 (Heap.get?_push_of_some _ e))
 have N8:IsPair g8 g5.objs.size x y:=c8.extBut _ _ (Nat.ne_of_gt lz) (c7.extBut _ _ (Nat.ne_of_gt lz) (Heap.get?_push_size _ rfl))
 have sz8:g8.objs.size=g5.objs.size+1:=by rw [c8.1,c7.1,Heap.size_push]
 rw [hsz] at z8 N8 sz8
 refine wpAny_pure ⟨_,rfl,?_⟩
 show Q (.ref g5.objs.size) _
 rw [hsz]
 exact hQ x y g8 _ px py z8 (up _ _ Z.a2 T5) (D1.frame _ _ _ s15 fun c hc o e=>up _ _ (out1 Z.z1 hc) e) (D2.frame _ _ _ s25 fun c hc o e=>up _ _ (out2 Z.z2 hc) e) N8 sz8 fun c o e1 e2 e3 e4 e=>up c o e1 (kk c o e1 e2 e3 e4 e)
theorem Cz3I (hh:A.handled=none) (D1:Draws prog w A i1 f1 n1 P1 S1) (D2:Draws prog w A i2 f2 n2 P2 S2) (Z:ZA z TI TO i1 i2 f1 f2) (hz:IsZip s.heap z TI TO .none) (hTI:IsPair s.heap TI (.ref i1) (.ref i2)) (hTO:IsPair s.heap TO a b)
  (s1:S1 k s.heap) (s2:S2 k s.heap) (hend:k=n1∨(k<n1∧k=n2)) {Q:Fin→Shared→Prop}
  (hE:∀ h' e tk,(∀ c o,c≠z→c≠TO→c≠i1→c≠i2→s.heap.get? c=some o→h'.get? c=some o)→(∃ o,h'.get? e=some o∧o.cls= .type "StopIteration")→E (.ref e) {s with heap:=h',toks:=tk}):
  wpAny (model prog w) A (Builtin.«zip.__next__» ⟨[.ref z],[]⟩) Q E s:=by
 have ne1:∀ {c},c∉f1→c≠i1:=fun h e=>h (e▸Z.m1)
 have ne2:∀ {c},c∉f2→c≠i2:=fun h e=>h (e▸Z.m2)
 have out1:∀ {c d},c∉f1→d∈f1→d≠c:=fun h m e=>h (e▸m)
 have out2:∀ {c d},c∉f2→d∈f2→d≠c:=fun h m e=>h (e▸m)
 show wpAny _ _ (field (.ref z) 2 >>= _) _ _ _;refine wpAny_bind (wpAny_field hz rfl (x:= .bool false) rfl ?_)
 show wpAny _ _ (field (.ref z) 3 >>= _) _ _ _;refine wpAny_bind (wpAny_field hz rfl (x:= .ref TI) rfl (wpAny_bind (wpAny_seqItems hTI rfl ?_)))
 show wpAny _ _ (Builtin.SmallTypes.ownedTupleIsFree (.ref z) >>= _) _ _ _
 refine wpAny_bind ?_;unfold Builtin.SmallTypes.ownedTupleIsFree
 refine wpAny_bind (wpAny_field hz rfl (x:= .none) rfl (wpAny_pure ?_));simp only [if_true]
 refine wpAny_bind (wpAny_rule (wpAny_bind (wpAny_field hz rfl (x:= .ref TO) rfl (wpAny_bind (wpAny_setField_rec hz (by simp) fun g1 z1 c1=> ?_)))))
 replace z1:IsZip g1 z TI TO .ellipsis:=z1
 refine wpAny_bind ?_;simp only [List.zipIdx_cons,List.zipIdx_nil,List.forIn_cons,List.forIn_nil]
 have s11:S1 k g1:=D1.frame _ _ _ s1 fun c hc o e=>c1.extBut _ _ (out1 Z.z1 hc) e
 have s21:S2 k g1:=D2.frame _ _ _ s2 fun c hc o e=>c1.extBut _ _ (out2 Z.z2 hc) e
 refine wpAny_bind (wpAny_bind (wpAny_onRaise ?_));show wpAny _ _ (Builtin.SmallTypes.nextOf (.ref i1) >>= _) _ _ _
 rcases hend with rfl|⟨hk1,rfl⟩
 ·refine wpAny_bind (D1.done _ _ _ s11 fun g2 e c2 he=> ?_)
  obtain ⟨oe,q1,q2⟩:=he
  have z2:IsZip g2 z TI TO .ellipsis:=c2 _ _ (ne1 Z.z1) z1
  have ez:e≠z:=fun q=>by subst q;rw [z2] at q1;cases q1;simp at q2
  refine wpAny_setField_rec z2 (by simp) fun g3 _ c3=>hE g3 e _ (fun c o e1 _ e3 _ q=>c3.extBut _ _ e1 (c2 _ _ e3 (c1.extBut _ _ e1 q))) ⟨oe,c3.extBut _ _ ez q1,q2⟩
 ·refine wpAny_bind (D1.item k _ _ _ hk1 s11 fun x g2 tk2 px s12 c2=>wpAny_pure ?_)
  have s22:S2 k g2:=D2.frame _ _ _ s21 fun c hc o e=>c2.extBut _ _ (fun q=>Z.x2 (q▸hc)) e
  have T2:IsPair g2 TO a b:=c2.extBut _ _ (ne1 Z.o1) (c1.extBut _ _ Z.a2 hTO)
  refine wpAny_bind (wpAny_seqItems T2 rfl (wpAny_bind (wpAny_updateSeq_pair T2 fun g3 T3 c3=> ?_)))
  have s23:S2 k g3:=D2.frame _ _ _ s22 fun c hc o e=>c3.extBut _ _ (out2 Z.o2 hc) e
  refine wpAny_bind (wpAny_letGo (wpAny_pure (wpAny_bind (wpAny_bind (wpAny_onRaise ?_)))));show wpAny _ _ (Builtin.SmallTypes.nextOf (.ref i2) >>= _) _ _ _
  refine wpAny_bind (D2.done _ _ _ s23 fun g4 e c4 he=> ?_)
  obtain ⟨oe,q1,q2⟩:=he
  have z4:IsZip g4 z TI TO .ellipsis:=c4 _ _ (ne2 Z.z2) (c3.extBut _ _ Z.a2.symm (c2.extBut _ _ (ne1 Z.z1) z1))
  have ez:e≠z:=fun q=>by subst q;rw [z4] at q1;cases q1;simp at q2
  refine wpAny_setField_rec z4 (by simp) fun g5 _ c5=>hE g5 e _ (fun c o e1 e2 e3 e4 q=>c5.extBut _ _ e1 (c4 _ _ e4 (c3.extBut _ _ e2 (c2.extBut _ _ e3 (c1.extBut _ _ e1 q))))) ⟨oe,c5.extBut _ _ ez q1,q2⟩
end
end L3
namespace L3
open PySem
def IsSq (tup:Bool) (h:Heap) (l:Addr) (xs:Array Value):Prop:=match tup with
 |true=>h.IsTuple l xs
 |false=>h.IsList l xs
def itO (tup:Bool) (l:Addr):Obj:=match tup with
 |true=> {cls:= .type "tuple_iterator",data:= .fields #[.ref l, .int 0 0]}
 |false=> {cls:= .type "list_iterator",data:= .fields #[.ref l, .int 0 0]}
def SqI (tup:Bool) (h:Heap) (i l:Addr) (k:Nat):Prop:=match tup with
 |true=>h.IsTupleIter i l k
 |false=>h.IsListIter i l k
theorem IsSq.at' {tup:Bool} {h h':Heap} {l:Addr} {xs:Array Value} (q:IsSq tup h l xs) (k:∀ o,h.get? l=some o→h'.get? l=some o):IsSq tup h' l xs:=by
 cases tup with
 |true=>obtain ⟨o,e,r⟩:=q;exact ⟨o,k o e,r⟩
 |false=>exact Heap.IsList.at q k
theorem SqI.at' {tup:Bool} {h h':Heap} {i l:Addr} {k:Nat} (q:SqI tup h i l k) (f:∀ o,h.get? i=some o→h'.get? i=some o):SqI tup h' i l k:=by
 cases tup with
 |true=>obtain ⟨o,e,r⟩:=q;exact ⟨o,f o e,r⟩
 |false=>obtain ⟨o,e,r⟩:=q;exact ⟨o,f o e,r⟩
theorem SqI.rec {tup:Bool} {h:Heap} {i l:Addr} {k:Nat} (q:SqI tup h i l k):∃ o vs,h.get? i=some o∧o.data= .fields vs:=by
 cases tup with
 |true=>obtain ⟨o,e,_,r⟩:=q;exact ⟨o,_,e,r⟩
 |false=>obtain ⟨o,e,_,r⟩:=q;exact ⟨o,_,e,r⟩
theorem IsSq.lt {tup:Bool} {h:Heap} {l:Addr} {xs:Array Value} (q:IsSq tup h l xs):l<h.objs.size:=by
 cases tup with
 |true=>obtain ⟨o,e,_⟩:=q;exact Heap.lt_size e
 |false=>obtain ⟨o,e,_⟩:=q;exact Heap.lt_size e
theorem drawsS {prog:Program} {w:World} {A:Around} (hh:A.handled=none) (tup:Bool) (it l:Addr) (hne:l≠it) (xs:Array Value):Draws prog w A it [it,l] xs.size (fun i v=>xs[i]? =some v) (fun i h=>SqI tup h it l i∧IsSq tup h l xs):=by
 cases tup with
 |true=>exact drawsT hh it l hne xs
 |false=>exact Draws.list hh it l hne xs
theorem Bz0L {prog:Program} {w:World} {A:Around} {E:Value→Shared→Prop} {s:Shared} {tup:Bool} {l:Addr} {xs:Array Value} {Q:Value→Shared→Prop} (q:IsSq tup s.heap l xs) (h:Q (.ref s.heap.objs.size) {s with heap:=s.heap.push (itO tup l)}):
  wpAny (model prog w) A (pyIter (.ref l)) Q E s:=by
 cases tup with
 |true=>exact wpAny_pyIter_tuple q h
 |false=>exact wpAny_pyIter_list q h
abbrev zh1 (t1:Bool) (h:Heap) (l1:Addr):Heap:=h.push (itO t1 l1)
abbrev zh2 (t1 t2:Bool) (h:Heap) (l1 l2:Addr):Heap:=(zh1 t1 h l1).push (itO t2 l2)
abbrev zh3 (t1 t2:Bool) (h:Heap) (l1 l2:Addr):Heap:=(zh2 t1 t2 h l1 l2).push {cls:= .type "tuple",data:= .seq #[.ref h.objs.size, .ref (zh1 t1 h l1).objs.size]}
abbrev zh4 (t1 t2:Bool) (h:Heap) (l1 l2:Addr):Heap:=(zh3 t1 t2 h l1 l2).push {cls:= .type "tuple",data:= .seq #[.none, .none]}
abbrev zh5 (t1 t2:Bool) (h:Heap) (l1 l2:Addr):Heap:=(zh4 t1 t2 h l1 l2).push {cls:= .type "zip",data:= .fields #[.none, .bool false, .bool false, .ref (zh2 t1 t2 h l1 l2).objs.size, .ref (zh3 t1 t2 h l1 l2).objs.size]}
theorem Cz3H (t1 t2:Bool) (l1 l2:Addr) (xs ys:Array Value):Meets (Builtin.«zip.__new__» ⟨[.type "zip", .ref l1, .ref l2],[]⟩) (fun _ R s=>IsSq t1 s.heap l1 xs∧IsSq t2 s.heap l2 ys∧
   R (.ok (.ret (.ref (zh4 t1 t2 s.heap l1 l2).objs.size))) {s with heap:=zh5 t1 t2 s.heap l1 l2}):=
 .of_wp fun prog w A R s h=>by
  obtain ⟨hp,g,d,tk,os⟩:=s;obtain ⟨q1,q2,h⟩:=h
  have hsub:=sub_zip
  have e1:IsSq t1 (Shared.heap ⟨hp,g,d,tk,os⟩) l1 xs:=q1
  have e2:IsSq t2 (Shared.heap ⟨hp.push (itO t1 l1),g,d,tk,os⟩) l2 ys:=IsSq.at' q2 fun o e=>Heap.get?_push_of_some _ e
  wp_walk using Bz0L e1,Bz0L e2
  exact ⟨_,rfl,h⟩
theorem Bz9R {prog:Program} {w:World} {A:Around} {E:Value→Shared→Prop} {s:Shared} {t1 t2:Bool} {l1 l2:Addr} {xs ys:Array Value} {Q:Value→Shared→Prop} (q1:IsSq t1 s.heap l1 xs) (q2:IsSq t2 s.heap l2 ys)
  (h:∀ n h',n=s.heap.objs.size→IsZip h' (n+4) (n+2) (n+3) .none→IsPair h' (n+2) (.ref n) (.ref (n+1))→IsPair h' (n+3) .none .none→SqI t1 h' n l1 0→SqI t2 h' (n+1) l2 0→
   (∀ c o,s.heap.get? c=some o→h'.get? c=some o)→Q (.ref (n+4)) {s with heap:=h'}):wpAny (model prog w) A (call (.type "zip") [.ref l1, .ref l2]) Q E s:=by
 refine callType_new F.called_zip (by decide) (F.typeCall_zip_2 _ _) (F.newCall_zip_2 _ _) (fun obj=>F.args_object_init_3 obj _ _) F.entry_zip_new (Cz3H t1 t2 l1 l2 xs ys) ⟨q1,q2,?_⟩
 have z1:(zh1 t1 s.heap l1).objs.size=s.heap.objs.size+1:=Heap.size_push ..
 have z2:(zh2 t1 t2 s.heap l1 l2).objs.size=s.heap.objs.size+2:=by rw [Heap.size_push,z1]
 have z3:(zh3 t1 t2 s.heap l1 l2).objs.size=s.heap.objs.size+3:=by rw [Heap.size_push,z2]
 have z4:(zh4 t1 t2 s.heap l1 l2).objs.size=s.heap.objs.size+4:=by rw [Heap.size_push,z3]
 have k5:∀ {c o},(zh4 t1 t2 s.heap l1 l2).get? c=some o→(zh5 t1 t2 s.heap l1 l2).get? c=some o:=fun e=>Heap.get?_push_of_some _ e
 have k4:∀ {c o},(zh3 t1 t2 s.heap l1 l2).get? c=some o→(zh5 t1 t2 s.heap l1 l2).get? c=some o:=fun e=>k5 (Heap.get?_push_of_some _ e)
 have k3:∀ {c o},(zh2 t1 t2 s.heap l1 l2).get? c=some o→(zh5 t1 t2 s.heap l1 l2).get? c=some o:=fun e=>k4 (Heap.get?_push_of_some _ e)
 have k2:∀ {c o},(zh1 t1 s.heap l1).get? c=some o→(zh5 t1 t2 s.heap l1 l2).get? c=some o:=fun e=>k3 (Heap.get?_push_of_some _ e)
 have f1:∀ t l,(itO t l).isFreed=false:=fun t l=>by cases t<;>rfl
 have g5:(zh5 t1 t2 s.heap l1 l2).get? (zh4 t1 t2 s.heap l1 l2).objs.size=some _:=Heap.get?_push_size _ rfl
 have g4:(zh5 t1 t2 s.heap l1 l2).get? (zh3 t1 t2 s.heap l1 l2).objs.size=some _:=k5 (Heap.get?_push_size _ rfl)
 have g3:(zh5 t1 t2 s.heap l1 l2).get? (zh2 t1 t2 s.heap l1 l2).objs.size=some _:=k4 (Heap.get?_push_size _ rfl)
 have g2:(zh5 t1 t2 s.heap l1 l2).get? (zh1 t1 s.heap l1).objs.size=some (itO t2 l2):=k3 (Heap.get?_push_size _ (f1 _ _))
 have g1:(zh5 t1 t2 s.heap l1 l2).get? s.heap.objs.size=some (itO t1 l1):=k2 (Heap.get?_push_size _ (f1 _ _))
 show _∧_
 rw [z2,z3,z4] at g5
 rw [z1,z2] at g3
 rw [z3] at g4
 rw [z1] at g2
 rw [z4]
 have sq:∀ {t:Bool} {i l:Addr},(zh5 t1 t2 s.heap l1 l2).get? i=some (itO t l)→SqI t (zh5 t1 t2 s.heap l1 l2) i l 0:=fun {t i l} e=>by
  cases t with
  |true=>exact ⟨_,e,rfl,rfl⟩
  |false=>exact ⟨_,e,rfl,rfl⟩
 exact ⟨⟨_,g5,rfl⟩,h _ _ rfl g5 g3 g4 (sq g1) (sq g2) fun c o e=>k2 (Heap.get?_push_of_some _ e)⟩
theorem Bz3G {prog:Program} {w:World} {A:Around} {E:Value→Shared→Prop} {s:Shared} {z TI TO:Addr} {f0:Value} {Q:Value→Shared→Prop} (hz:IsZip s.heap z TI TO f0) (h:Q (.ref z) s):wpAny (model prog w) A (pyIter (.ref z)) Q E s:=wpAny_pyIter_zip hz h
section
variable {prog:Program} {w:World} {A:Around} {E:Value→Shared→Prop} {s:Shared} {z TI TO i1 i2 l1 l2:Addr} {t1 t2:Bool} {xs ys:Array Value} {k:Nat} {a b x y:Value}
theorem ZA.of (h1:TI≠z) (h2:TO≠z) (h3:TI≠TO) (h:∀ c,c=i1∨c=i2∨c=l1∨c=l2→c≠z∧c≠TO∧c≠TI) (e1:i1≠i2) (e2:l1≠i2) (e3:l2≠i1):ZA z TI TO i1 i2 [i1,l1] [i2,l2]:=by
 obtain ⟨a1,a2,a3⟩:=h i1 (by simp)
 obtain ⟨b1,b2,b3⟩:=h i2 (by simp)
 obtain ⟨c1,c2,c3⟩:=h l1 (by simp)
 obtain ⟨d1,d2,d3⟩:=h l2 (by simp)
 have no:∀ {c p q:Addr},p≠c→q≠c→c∉ [p,q]:=fun u v m=>by
  rcases List.mem_cons.mp m with m|m
  ·exact u m.symm
  ·exact v (List.mem_singleton.mp m).symm
 exact ⟨h1,h2,h3,by simp,by simp,no a1 c1,no b1 d1,no a2 c2,no b2 d2,no a3 c3,no b3 d3,no e1 e2,no e1.symm e3⟩
theorem Bz9P (hh:A.handled=none) (Z:ZA z TI TO i1 i2 [i1,l1] [i2,l2]) (n1:l1≠i1) (n2:l2≠i2) (hz:IsZip s.heap z TI TO .none) (hTI:IsPair s.heap TI (.ref i1) (.ref i2)) (hTO:IsPair s.heap TO a b)
  (s1:SqI t1 s.heap i1 l1 k) (s2:SqI t2 s.heap i2 l2 k) (q1:IsSq t1 s.heap l1 xs) (q2:IsSq t2 s.heap l2 ys) (hx:xs[k]? =some x) (hy:ys[k]? =some y) {Q:Option Value→Shared→Prop}
  (hQ:∀ h' tk,IsZip h' z TI TO (rawInt s.heap.objs.size)→IsPair h' TO x y→SqI t1 h' i1 l1 (k+1)→SqI t2 h' i2 l2 (k+1)→IsPair h' s.heap.objs.size x y→h'.objs.size=s.heap.objs.size+1→
   (∀ c o,c≠z→c≠TO→c≠i1→c≠i2→s.heap.get? c=some o→h'.get? c=some o)→Q (some (.ref s.heap.objs.size)) {s with heap:=h',toks:=tk}):
  wpAny (model prog w) A (pyNext (.ref z)) Q E s:=by
 have hT:s.TypeIs (.ref z) "zip":=⟨_,hz,rfl⟩
 have k1:k<xs.size:=by
  refine Nat.lt_of_not_le fun q=> ?_
  rw [Array.getElem?_eq_none q] at hx;cases hx
 have k2:k<ys.size:=by
  refine Nat.lt_of_not_le fun q=> ?_
  rw [Array.getElem?_eq_none q] at hy;cases hy
 unfold pyNext
 refine wpAny_bind (wpAny_attempt (wpAny_callSpecial?_slot (name:=Str.ofString "__next__") hT F.slot_zip_next (wpAny_call_entry F.slot_zip_next hT F.entry_zip_next (Bz9Q (drawsS (by exact hh) t1 i1 l1 n1 xs) (drawsS (by exact hh) t2 i2 l2 n2 ys) Z hz hTI hTO ⟨s1,q1⟩ ⟨s2,q2⟩ k1 k2
  fun x' y' h' tk e1 e2 z' o' p1 p2 nw sz kk=> ?_) (F.args_zip_next_1 _))))
 have e1':xs[k]? =some x':=e1
 have e2':ys[k]? =some y':=e2
 rw [hx] at e1';rw [hy] at e2'
 cases e1';cases e2'
 exact wpAny_pure (hQ h' tk z' o' p1.1 p2.1 nw sz kk)
theorem Cz3G (hh:A.handled=none) (Z:ZA z TI TO i1 i2 [i1,l1] [i2,l2]) (n1:l1≠i1) (n2:l2≠i2) (hz:IsZip s.heap z TI TO .none) (hTI:IsPair s.heap TI (.ref i1) (.ref i2)) (hTO:IsPair s.heap TO a b)
  (s1:SqI t1 s.heap i1 l1 k) (s2:SqI t2 s.heap i2 l2 k) (q1:IsSq t1 s.heap l1 xs) (q2:IsSq t2 s.heap l2 ys) (hend:k=xs.size∨(k<xs.size∧k=ys.size)) {Q:Option Value→Shared→Prop}
  (hQ:∀ h' tk,(∀ c o,c≠z→c≠TO→c≠i1→c≠i2→s.heap.get? c=some o→h'.get? c=some o)→Q none {s with heap:=h',toks:=tk}):wpAny (model prog w) A (pyNext (.ref z)) Q E s:=by
 have hT:s.TypeIs (.ref z) "zip":=⟨_,hz,rfl⟩
 unfold pyNext
 refine wpAny_bind (wpAny_attempt (wpAny_callSpecial?_slot (name:=Str.ofString "__next__") hT F.slot_zip_next (wpAny_call_entry F.slot_zip_next hT F.entry_zip_next (Cz3I (by exact hh) (drawsS (by exact hh) t1 i1 l1 n1 xs) (drawsS (by exact hh) t2 i2 l2 n2 ys) Z hz hTI hTO ⟨s1,q1⟩ ⟨s2,q2⟩ hend
  fun h' e tk kk he=> ?_) (F.args_zip_next_1 _))))
 obtain ⟨o,ho,hc⟩:=he
 exact wpAny_bind (wpAny_isInstance (T:="StopIteration") (b:=true) ⟨o,ho,hc⟩ isSubtype_stop (wpAny_pure (hQ _ tk kk)))
end
end L3
namespace L3
open PySem PySem.Spec PyProof.Rows L2
def SqK (t:Bool) (K:PySem.W.Frag) (H:Hp) (l:Addr) (xs:List V):Prop:=match t with
 |true=>SqT K H l xs
 |false=>SqL K H l xs
section
variable {X:Cx} {pins:List (Addr×Obj)} {σ:L2.St} {H:Hp} {s:Shared} {h':Heap}
theorem inv_sq (I:Inv X pins σ H s) {t:Bool} {l:Addr} {xs:List V} (h:SqK t X.K H l xs):∃ its:List Value,Vals xs its∧IsSq t s.heap l its.toArray∧xs.length≤sizeLine:=by
 cases t with
 |true=>obtain ⟨its,r,p,z⟩:=I.tuple h;exact ⟨its,r,p,z⟩
 |false=>obtain ⟨its,r,p,z⟩:=I.list h;exact ⟨its,r,p.isList,z⟩
theorem Az8B (I:Inv X pins σ H s) {t:Bool} {l:Addr} {xs ys:List V} (h:SqK t X.K H l xs) (h':SqK t X.K H l ys):xs=ys:=by
 cases t with
 |true=>exact I.tuple_inj h h'
 |false=>exact I.list_inj h h'
theorem Az9Y {t':Nat} {ch:List Addr} {n:Addr} {xs:List V} {its:List Value} (I:Inv X pins σ H s) (hf:∀ b∈ch,FpOk X pins H b) (k:∀ b o,b∉ch→s.heap.get? b=some o→h'.get? b=some o)
  (hn:s.heap.objs.size≤n) (r:Vals xs its) (hz:xs.length≤sizeLine) (new:IsTup h' n its.toArray):Inv X pins σ (upd H n (.tup xs)) {s with heap:=h',toks:=t'}:=by
 have hfree:=I.hok.fresh hn
 have nch:∀ b u,H b=some u→b∉ch:=fun b u e m=>by rw [(hf b m).1] at e;cases e
 have nn:∀ b o,s.heap.get? b=some o→b≠n:=fun b o e=>Nat.ne_of_lt (Nat.lt_of_lt_of_le (Heap.lt_size e) hn)
 refine I.step (g':=s.gens) (d':=s.drawn) (ch:=ch) (fun b hb=>⟨(hf b hb).2.2.2.1,(hf b hb).2.1,(hf b hb).2.2.2.2.1,(hf b hb).2.2.2.2.2⟩) (fun b o _ _ hc e _=>k b o hc e) (fun b o _ _ hc e _=>⟨o.slots,k b o hc e⟩)
  (fun b o hc e q=>by rw [upd_ne (nn b o e)];exact q) (fun b o hc e=>⟨o,k b o hc e⟩) (fun b ys e=>by rw [upd_ne (Az0J e hfree)];exact e) (fun b o u e=>by rw [upd_ne (Az0J e hfree)];exact e)
  (fun b ps e=>⟨#[],by rw [upd_ne (Az0J e hfree),e];simp⟩) (fun m hm=> ?_) (fun b u e=> ?_) I.bare
 ·obtain ⟨o,es,ep,ho,q⟩:=hm
  exact ⟨o,es,ep,k _ o (fun z=>(hf _ z).2.1 rfl) ho,q⟩
 ·by_cases hb:b=n
  ·subst hb
   rw [Az0L] at e;cases e
   exact ⟨hz,its,r,new⟩
  ·rw [upd_ne hb] at e
   refine (I.hok b u e).stay (fun c v hc q=>k c v ?_ q) (fun c q=>by rw [upd_ne (Az0J q hfree)];exact q) fun c ys q=>by rw [upd_ne (Az0J q hfree)];exact q
   rcases hc with z|z
   ·rw [z];exact nch b u e
   ·exact nch c _ z
theorem Az9X {t':Nat} {ch:List Addr} (I:Inv X pins σ H s) (hf:∀ b∈ch,FpOk X pins H b) (k:∀ b o,b∉ch→s.heap.get? b=some o→h'.get? b=some o):Inv X pins σ H {s with heap:=h',toks:=t'}:=by
 have nch:∀ b u,H b=some u→b∉ch:=fun b u e m=>by rw [(hf b m).1] at e;cases e
 refine I.step (g':=s.gens) (d':=s.drawn) (ch:=ch) (fun b hb=>⟨(hf b hb).2.2.2.1,(hf b hb).2.1,(hf b hb).2.2.2.2.1,(hf b hb).2.2.2.2.2⟩) (fun b o _ _ hc e _=>k b o hc e) (fun b o _ _ hc e _=>⟨o.slots,k b o hc e⟩)
  (fun _ _ _ _ q=>q) (fun b o hc e=>⟨o,k b o hc e⟩) (fun _ _ e=>e) (fun _ _ _ e=>e) (fun b ps e=>⟨#[],by rw [e];simp⟩) (fun m hm=> ?_) (fun b u e=> ?_) I.bare
 ·obtain ⟨o,es,ep,ho,q⟩:=hm
  exact ⟨o,es,ep,k _ o (fun z=>(hf _ z).2.1 rfl) ho,q⟩
 ·refine (I.hok b u e).stay (fun c v hc q=>k c v ?_ q) (fun _ q=>q) fun _ _ q=>q
  rcases hc with z|z
  ·rw [z];exact nch b u e
  ·exact nch c _ z
end
def Itz (K : PySem.W.Frag) (t1 t2 : Bool) (l1 l2 : Addr) : It :=
  ⟨fun i H => ∃ xs ys x y, SqK t1 K H l1 xs ∧ SqK t2 K H l2 ys ∧ xs[i]? = some x ∧ ys[i]? = some y,
   fun i H v H' => ∃ p x y, v = .ref p ∧ H p = none ∧ H' = upd H p (.tup [x, y]) ∧ (∀ xs, SqK t1 K H l1 xs → xs[i]? = some x) ∧ ∀ ys, SqK t2 K H l2 ys → ys[i]? = some y,
   fun i H => ∃ xs ys, SqK t1 K H l1 xs ∧ SqK t2 K H l2 ys ∧ (i = xs.length ∨ (i < xs.length ∧ i = ys.length))⟩
theorem Cz3M {P:Program} {w:World} {K:PySem.W.Frag} {elts:List Expr} {kt:Nat} {pt:Pos} {t1 t2:Bool} {z TI TO i1 i2 l1 l2:Addr} (Z:ZA z TI TO i1 i2 [i1,l1] [i2,l2]) (n1:l1≠i1) (n2:l2≠i2):
  Turn P w K (.Tuple elts kt pt) (Itz K t1 t2 l1 l2) [z,TI,TO,i1,i2] z (fun i h=>IsZip h z TI TO .none∧IsPair h TI (.ref i1) (.ref i2)∧(∃ a b,IsPair h TO a b)∧SqI t1 h i1 l1 i∧SqI t2 h i2 l2 i) where
 mem:=by simp
 obj:=fun i h st b hb=>by
  obtain ⟨hz,hTI,⟨a,c,hTO⟩,s1,s2⟩:=st
  simp only [List.mem_cons,List.not_mem_nil,or_false] at hb
  rcases hb with rfl|rfl|rfl|rfl|rfl
  ·exact ⟨_,hz,fun v q=>nomatch q⟩
  ·exact ⟨_,hTI,fun v q=>nomatch q⟩
  ·exact ⟨_,hTO,fun v q=>nomatch q⟩
  ·obtain ⟨o,vs,e,d⟩:=s1.rec
   exact ⟨o,e,fun v q=>by rw [d] at q;cases q⟩
  ·obtain ⟨o,vs,e,d⟩:=s2.rec
   exact ⟨o,e,fun v q=>by rw [d] at q;cases q⟩
 keep:=fun i h h' st k=>by
  obtain ⟨hz,hTI,⟨a,c,hTO⟩,s1,s2⟩:=st
  exact ⟨k z (by simp) _ hz,k TI (by simp) _ hTI,⟨a,c,k TO (by simp) _ hTO⟩,s1.at' fun o e=>k i1 (by simp) o e,s2.at' fun o e=>k i2 (by simp) o e⟩
 item:=by
  intro X hP hw hK hc i pins s σ H E I hf st hg
  subst hP hw hK
  obtain ⟨hz,hTI,⟨a,c,hTO⟩,s1,s2⟩:=st
  obtain ⟨xs,ys,x,y,q1,q2,e1,e2⟩:=hg
  obtain ⟨it1,r1,p1,_⟩:=inv_sq I q1
  obtain ⟨it2,r2,p2,_⟩:=inv_sq I q2
  obtain ⟨u1,hu1,ru1⟩:=r1.get e1
  obtain ⟨u2,hu2,ru2⟩:=r2.get e2
  refine Bz9P (I.ok.hd hc) Z n1 n2 hz hTI hTO s1 s2 p1 p2 (x:=u1) (y:=u2) (by simpa using hu1) (by simpa using hu2) fun h1 tk z1 o1 s11 s21 nw sz kk=>⟨_,rfl,?_⟩
  refine wpAny_letOwnedTupleGo_zip (s:= {s with heap:=h1,toks:=tk}) z1 fun h2 z2 c2=> ?_
  have lz:z<s.heap.objs.size:=Heap.lt_size hz
  have up:∀ b o,b≠z→h1.get? b=some o→h2.get? b=some o:=fun b o ne e=>c2.extBut _ _ ne e
  have i1z:i1≠z:=fun q=>Z.z1 (by simp [q])
  have i2z:i2≠z:=fun q=>Z.z2 (by simp [q])
  have TIi1:TI≠i1:=fun q=>Z.t1 (by simp [q])
  have TIi2:TI≠i2:=fun q=>Z.t2 (by simp [q])
  refine ⟨.ref s.heap.objs.size,upd H s.heap.objs.size (.tup [x,y]),?_,rfl,⟨_,x,y,rfl,I.hok.fresh (Nat.le_refl _),rfl,fun zs hs=>by rw [Az8B I hs q1];exact e1,fun zs hs=>by rw [Az8B I hs q2];exact e2⟩,
   ⟨z2,up _ _ Z.a1 (kk _ _ Z.a1 Z.a3 TIi1 TIi2 hTI),⟨_,_,up _ _ Z.a2 o1⟩,s11.at' fun o e=>up _ _ i1z e,s21.at' fun o e=>up _ _ i2z e⟩,fun b hb=> ?_⟩
  ·show Inv X pins σ (upd H s.heap.objs.size (.tup [x,y])) {s with heap:=h2,toks:=tk}
   refine Az9Y (ch:= [z,TI,TO,i1,i2]) (t':=tk) I hf (fun b o hb e=> ?_) (Nat.le_refl _) (.cons ru1 (.cons ru2 .nil)) (show (2:Nat)≤sizeLine by rw [sizeLine_eq];decide) ⟨_,up _ _ (Nat.ne_of_gt lz) nw,rfl,_,rfl⟩
   simp only [List.mem_cons,List.not_mem_nil,or_false,not_or] at hb
   exact up _ _ hb.1 (kk b o hb.1 hb.2.2.1 hb.2.2.2.1 hb.2.2.2.2 e)
  ·have hb1:=(hf b hb).1
   have:b<s.heap.objs.size:=by
    simp only [List.mem_cons,List.not_mem_nil,or_false] at hb
    rcases hb with rfl|rfl|rfl|rfl|rfl
    ·exact lz
    ·exact Heap.lt_size hTI
    ·exact Heap.lt_size hTO
    ·obtain ⟨o,_,e,_⟩:=s1.rec;exact Heap.lt_size e
    ·obtain ⟨o,_,e,_⟩:=s2.rec;exact Heap.lt_size e
   rw [upd_ne (Nat.ne_of_lt this)];exact hb1
 done:=by
  intro X hP hw hK hc i pins s σ H E I hf st hg
  subst hP hw hK
  obtain ⟨hz,hTI,⟨a,c,hTO⟩,s1,s2⟩:=st
  obtain ⟨xs,ys,q1,q2,he⟩:=hg
  obtain ⟨it1,r1,p1,_⟩:=inv_sq I q1
  obtain ⟨it2,r2,p2,_⟩:=inv_sq I q2
  refine Cz3G (I.ok.hd hc) Z n1 n2 hz hTI hTO s1 s2 p1 p2 (by simpa [←r1.length,←r2.length] using he) fun h1 tk kk=>⟨rfl,?_⟩
  refine Az9X (ch:= [z,TI,TO,i1,i2]) (t':=tk) I hf fun b o hb e=> ?_
  simp only [List.mem_cons,List.not_mem_nil,or_false,not_or] at hb
  exact kk b o hb.1 hb.2.2.1 hb.2.2.2.1 hb.2.2.2.2 e
 self:=fun _ _ _ _ _ st h=>Bz3G st.1 h
theorem za_new (n l1 l2:Nat) (h1:l1<n) (h2:l2<n):ZA (n+4) (n+2) (n+3) n (n+1) [n,l1] [n+1,l2]:=by
 refine ZA.of (show ¬ (n+2:Nat)=n+4 by omega) (show ¬ (n+3:Nat)=n+4 by omega) (show ¬ (n+2:Nat)=n+3 by omega) (fun c hc=> ?_) (show ¬ (n:Nat)=n+1 by omega) (show ¬ (l1:Nat)=n+1 by omega) (show ¬ (l2:Nat)=n by omega)
 have hc':(c:Nat)=n∨(c:Nat)=n+1∨(c:Nat)=l1∨(c:Nat)=l2:=hc
 show ¬ (c:Nat)=n+4∧¬ (c:Nat)=n+3∧¬ (c:Nat)=n+2
 have:∀ m:Nat,(m=n∨m=n+1∨m=l1∨m=l2)→¬ m=n+4∧¬ m=n+3∧¬ m=n+2:=fun m hm=>by omega
 exact this c hc'
theorem za_ge (n c:Nat) (h:c=n+4∨c=n+2∨c=n+3∨c=n∨c=n+1):n≤c:=by omega
section
variable {X:Cx} {xw:XW} {elts:List Expr} {kt:Nat} {pt p pos:Pos} {a b:Expr} {fs:DSt→Res (List D)}
def iZip (K:PySem.W.Frag) (ta:TA):TI:=fun σ H R=>ta σ H fun vs H1=>∃ t1 t2 l1 l2 xs ys,vs= [.ref l1, .ref l2]∧SqK t1 K H1 l1 xs∧SqK t2 K H1 l2 ys∧R (Itz K t1 t2 l1 l2) H1
theorem pi_zip {ta:TA} (hg:Gl X "zip") (hm:X.mg "zip"=none) (ha:PA X [a,b] ta) (hs:starEach [a,b] X.env= [(false,eval a X.env),(false,eval b X.env)]) (hs2:starEach [b] X.env= [(false,eval b X.env)]):
  PI X (.Tuple elts kt pt) (.Call (.Name "zip" p) [a,b] [] pos) (iZip X.K ta):=by
 intro pins s σ H R I h
 refine Call_ (ld_blt I hg hm (show bootBuiltins "zip"=some (.type "zip") by decide +kernel) (PyProof.Rows.callWith_type1 (thn (ha pos pins s σ H _ I h) fun us s1 ⟨vs,H1,I1,r1,q1⟩=> ?_) (by rw [hs,hs2]) (by rw [hs2];rfl)))
 obtain ⟨t1,t2,l1,l2,xs,ys,e,q1,q2,q⟩:=q1
 subst e
 obtain ⟨u1,u2,rfl,ru1,ru2⟩:=r1.two
 cases (show u1=Value.ref l1 from ru1)
 cases (show u2=Value.ref l2 from ru2)
 obtain ⟨it1,v1,p1,_⟩:=inv_sq I1 q1
 obtain ⟨it2,v2,p2,_⟩:=inv_sq I1 q2
 have a1:=p1.lt
 have a2:=p2.lt
 refine Bz9R p1 p2 fun n h' hn hz hTI hTO s1' s2' kk=>Bz3G hz ?_
 subst hn
 have Z:=za_new s1.heap.objs.size l1 l2 a1 a2
 have J:Inv X pins σ H1 {s1 with heap:=h'}:=I1.kept (t':=s1.toks) fun c o e=>kk c o e
 refine ⟨s1.heap.objs.size+4,[s1.heap.objs.size+4,s1.heap.objs.size+2,s1.heap.objs.size+3,s1.heap.objs.size,s1.heap.objs.size+1],_,_,H1,rfl,J,Cz3M (t1:=t1) (t2:=t2) Z (Nat.ne_of_lt a1) (Nat.ne_of_lt (Nat.lt_succ_of_lt a2)),⟨hz,hTI,⟨_,_,hTO⟩,s1',s2'⟩,fun c hc=> ?_,q⟩
 have hcs:s1.heap.objs.size≤c:=by
  simp only [List.mem_cons,List.not_mem_nil,or_false] at hc
  exact za_ge _ _ hc
 exact I1.fpOk hcs (I1.hok.fresh hcs)
def zipD:List D→List D→List D
 |x::xs,y::ys=> .tup [x,y]::zipD xs ys
 |_,_=> []
theorem Bz6E:∀ {xs ys:List D} {i:Nat} {d:D},(zipD xs ys)[i]? =some d→∃ x y,xs[i]? =some x∧ys[i]? =some y∧d= .tup [x,y]
 | [],_,_,_,e=>by simp [zipD] at e
 |_::_,[],_,_,e=>by simp [zipD] at e
 |x::xs,y::ys,0,d,e=>by
  rw [zipD] at e
  simp at e
  exact ⟨x,y,rfl,rfl,e.symm⟩
 |x::xs,y::ys,i+1,d,e=>by
  rw [zipD] at e
  obtain ⟨u,v,h1,h2,h3⟩:=Bz6E (xs:=xs) (ys:=ys) (i:=i) (by simpa using e)
  exact ⟨u,v,by simpa using h1,by simpa using h2,h3⟩
theorem Az6S:∀ (xs ys:List D),(zipD xs ys).length=min xs.length ys.length
 | [],ys=>by simp [zipD]
 |_::_,[]=>by simp [zipD]
 |x::xs,y::ys=>by rw [zipD,List.length_cons,Az6S,List.length_cons,List.length_cons];omega
def itemsD:D→Option (List D)
 | .tup ds=>some ds
 | .lst ds=>some ds
 |_=>none
def zipR (ds:List D):Res (List D):=match ds with
 | [x,y]=>match itemsD x,itemsD y with
  |some xs,some ys=> .ok (zipD xs ys)
  |_,_=> .stuck
 |_=> .stuck
theorem sqk_of {K:PySem.W.Frag} {W:WS} {H:Hp} {d:D} {v:V} {ds:List D} (w:WL W H) (h:Has K W H d v) (e:itemsD d=some ds):
  ∃ t l xs,v= .ref l∧HasL K W H ds xs∧∀ W' H2,Step W H W' H2→SqK t K H2 l xs:=by
 cases d with
 |tup es=>
  cases e
  rw [Has] at h
  obtain ⟨a,xs,e1,sq,r⟩:=h
  exact ⟨true,a,xs,e1,r,fun W' H2 k=>Az9N k.keep w sq⟩
 |lst es=>
  cases e
  rw [Has] at h
  obtain ⟨a,xs,e1,sq,r⟩:=h
  exact ⟨false,a,xs,e1,r,fun W' H2 k=>(sq.keep k.keep w k.new).sq⟩
 |_=>cases e
theorem di_zip (hm:X.mg "zip"=none) (ha:DA X xw [a,b] fs) (hg:Gl X "zip":=by rfl) (hs:starEach [a,b] X.env= [(false,eval a X.env),(false,eval b X.env)]:=by rfl) (hs2:starEach [b] X.env= [(false,eval b X.env)]:=by rfl):
  DI X xw (.Tuple elts kt pt) (.Call (.Name "zip" p) [a,b] [] pos) (b1 zipR fs):=
 PI.weak (pi_zip hg hm ha hs hs2) fun σ H R ⟨W₀,H₀,W,δ,st,q⟩=>by
  refine ⟨W₀,H₀,W,δ,st,?_⟩
  simp only [b1] at q
  cases h1:fs δ with
  |stuck=>rw [h1] at q;exact q
  |ex c gs=>rw [h1] at q;exact q
  |ok ds=>
   rw [h1] at q
   intro vs H1 k1 hv
   dsimp only [Res.bind] at q
   unfold zipR at q
   split at q
   ·rename_i ds' hq
    split at hq
    ·rename_i x y
     split at hq
     ·rename_i xs ys ex ey
      have e':zipD xs ys=ds':=by cases hq;rfl
      subst e'
      rw [HasL] at hv
      obtain ⟨v1,r1,rfl,g1,hv⟩:=hv
      rw [HasL] at hv
      obtain ⟨v2,r2,rfl,g2,hv⟩:=hv
      rw [HasL] at hv
      subst hv
      have w1:=st.fr.wl.same k1
      obtain ⟨t1,l1,xs1,rfl,r1,f1⟩:=sqk_of w1 g1 ex
      obtain ⟨t2,l2,xs2,rfl,r2,f2⟩:=sqk_of w1 g2 ey
      refine ⟨t1,t2,l1,l2,xs1,xs2,rfl,f1 W H1 Step.refl,f2 W H1 Step.refl,q _ H1 k1 ?_⟩
      intro W' H2 k2 w2
      have c1:=f1 W' H2 k2
      have c2:=f2 W' H2 k2
      refine ⟨fun i d e=> ?_,xs1,xs2,c1,c2,?_⟩
      ·obtain ⟨x0,y0,e1,e2,rfl⟩:=Bz6E e
       obtain ⟨x1,o1,hx1⟩:=r1.get e1
       obtain ⟨y1,o2,hy1⟩:=r2.get e2
       refine ⟨⟨xs1,xs2,x1,y1,c1,c2,o1,o2⟩,fun u H3 z=> ?_⟩
       obtain ⟨p0,x2,y2,rfl,hp,rfl,z1,z2⟩:=z
       have:=z1 xs1 c1
       rw [o1] at this;cases this
       have:=z2 xs2 c2
       rw [o2] at this;cases this
       refine ⟨Az1G hp,?_⟩
       rw [Has]
       have hx2:=(Has.keep k2.keep w1 k2.new hx1).same (Az1G (o:= .tup [x1,y1]) hp) w2
       have hy2:=(Has.keep k2.keep w1 k2.new hy1).same (Az1G (o:= .tup [x1,y1]) hp) w2
       exact ⟨p0,[x1,y1],rfl, .of Az0L,HasL.cons hx2 (HasL.cons hy2 HasL.nil)⟩
      ·rw [Az6S,r1.length,r2.length]
       omega
     ·cases hq
    ·cases hq
   ·rename_i hq
    split at hq
    ·split at hq<;>cases hq
    ·cases hq
   ·exact q.elim
end
end L3
namespace L3
open PySem PySem.Spec PyProof.Rows L2
section
variable {α β:Type}
theorem ofR_ok (a:α) (k:α→Out):ofR (.ok a) k=k a:=rfl
theorem ofR_ex (c:Str) (fs:List D) (k:α→Out):ofR (.ex c fs) k= .ex c fs:=rfl
theorem Az7M (k:α→Out):ofR .stuck k= .stuck:=rfl
theorem Az1V (δ:DSt) (g:DSt→Out):seqO (.nx δ) g=g δ:=rfl
theorem Az5B (d:D) (g:DSt→Out):seqO (.rt d) g= .rt d:=rfl
theorem seqO_ex (c:Str) (fs:List D) (g:DSt→Out):seqO (.ex c fs) g= .ex c fs:=rfl
theorem Az6F (g:DSt→Out):seqO .stuck g= .stuck:=rfl
theorem ifO_ok (c:Bool) (a b:Out):ifO (.ok c) a b=if c=true then a else b:=rfl
theorem Az8Q (c:Bool) (y:Res Bool):andB (.ok c) y=if c=true then y else .ok false:=rfl
theorem orB_ok (c:Bool) (y:Res Bool):orB (.ok c) y=if c=true then .ok true else y:=rfl
theorem Bz4Z (c:Bool) (y:Res D):andD (.ok (.bl c)) y=if c=true then y else .ok (.bl false):=by cases c<;>rfl
theorem orD_bl (c:Bool) (y:Res D):orD (.ok (.bl c)) y=if c=true then .ok (.bl true) else y:=by cases c<;>rfl
theorem Az0O (c:Bool):boolR (.bl c)= .ok c:=rfl
theorem Bz4B (c:Bool):notD (.bl c)= .ok (.bl (!c)):=rfl
theorem eqR_ii (i j:Int):eqR (.int i) (.int j)= .ok (.bl (i==j)):=by simp [eqR,shal,eqD]
theorem neR_ii (i j:Int):neR (.int i) (.int j)= .ok (.bl (!(i==j))):=by simp [neR,shal,eqD]
theorem eqR_bb (i j:Bool):eqR (.bl i) (.bl j)= .ok (.bl (i==j)):=by simp [eqR,shal,eqD]
theorem ltR_ii (i j:Int):ltR (.int i) (.int j)= .ok (.bl (decide (i<j))):=rfl
theorem leR_ii (i j:Int):leR (.int i) (.int j)= .ok (.bl (decide (i≤j))):=rfl
theorem gtR_ii (i j:Int):gtR (.int i) (.int j)= .ok (.bl (decide (j<i))):=rfl
theorem geR_ii (i j:Int):geR (.int i) (.int j)= .ok (.bl (decide (j≤i))):=rfl
theorem Az9H (i j:Int):addD (.int i) (.int j)= .ok (.int (i+j)):=rfl
theorem Dz0G (xs ys:List D):addD (.tup xs) (.tup ys)=@ite (Res D) (xs.length+ys.length≤sizeLine) (Classical.propDecidable _) (.ok (.tup (xs++ys))) .stuck:=rfl
theorem Az4T (xs ys:List D) (h:xs.length+ys.length≤1000):addD (.tup xs) (.tup ys)= .ok (.tup (xs++ys)):=by
 rw [Dz0G,if_pos (Nat.le_trans h k1000)]
theorem Bz3K (i j:Int):subD (.int i) (.int j)= .ok (.int (i-j)):=rfl
theorem negD_i (i:Int):negD (.int i)= .ok (.int (-i)):=rfl
theorem Az8V (i j:Int):modD (.int i) (.int j)=@ite (Res D) (0<j) (Classical.propDecidable _) (.ok (.int (i%j))) .stuck:=rfl
theorem Az9Z (i j:Int):fdivD (.int i) (.int j)=@ite (Res D) (0<j∧j<1073741824) (Classical.propDecidable _) (.ok (.int (i / j))) .stuck:=rfl
theorem Bz4G (i j:Int):maxR [.int i, .int j]= .ok (.int (max i j)):=rfl
theorem Bz4F (i j:Int):minR [.int i, .int j]= .ok (.int (min i j)):=rfl
theorem absR_i (i:Int):absR (.int i)= .ok (.int (if i<0 then -i else i)):=rfl
theorem lenR_t (ds:List D):lenR (.tup ds)= .ok (.int ds.length):=rfl
theorem lenR_l (ds:List D):lenR (.lst ds)= .ok (.int ds.length):=rfl
theorem seqR_t (ds:List D):seqR (.tup ds)= .ok ds:=rfl
theorem seqR_l (ds:List D):seqR (.lst ds)= .ok ds:=rfl
theorem Az9I (ds:List D):tupofR (.tup ds)= .ok (.tup ds):=rfl
theorem Az9J (ds:List D):tupofR (.lst ds)= .ok (.tup ds):=rfl
theorem Az7F (i:Int):partR (.int i)= .ok (some i):=rfl
theorem Az0I (d:D) (ds:List D):consR (.ok d) (.ok ds)= .ok (d::ds):=rfl
theorem Bz4C (a:α):noex (.ok a)= .ok a:=rfl
theorem slD_l (ds:List D) (lo hi:Option Int):slD (.lst ds) lo hi= .ok (.lst (cutD ds lo hi)):=rfl
theorem Az0P (x:D) (l:DSt):slotD 0 (some (.d x)::l)= .ok x:=rfl
theorem Az0U (n:Nat) (a:Option S) (l:DSt):slotD (n+1) (a::l)=slotD n l:=by simp [slotD]
theorem Az0R (x:D) (l:DSt):slotP 0 (some (.d x)::l)= .ok x:=rfl
theorem Az7U (x:List D) (l:DSt):slotP 0 (some (.o x)::l)= .ok (.lst x):=rfl
theorem Az1F (n:Nat) (a:Option S) (l:DSt):slotP (n+1) (a::l)=slotP n l:=by simp [slotP]
theorem Az0C (n:Nat) (m:List D→Res D) (ds:List D) (d:D) (h:m ds= .ok d) (hn:ds.length=n):callR n m ds= .ok d:=by
 unfold callR;rw [if_pos hn,h];rfl
theorem ixR_t (ds:List D) (i:Int) (d:D) (h:atI ds i=some d):ixR (.tup ds) (.int i)= .ok d:=by show (match atI ds i with|some d=>Res.ok d|none=>Res.stuck)=_;rw [h]
theorem ixR_l (ds:List D) (i:Int) (d:D) (h:atI ds i=some d):ixR (.lst ds) (.int i)= .ok d:=by show (match atI ds i with|some d=>Res.ok d|none=>Res.stuck)=_;rw [h]
theorem Az6R {xs:List α} {i:Int} {d:α} (h0:0≤i) (h:xs[i.toNat]? =some d):atI xs i=some d:=by
 have hl:=(List.getElem?_eq_some_iff.mp h).1
 unfold atI ixN
 rw [if_pos h0,if_pos (by omega)]
 exact h
theorem atI_in {xs:List α} {i:Int} (h0:0≤i) (h1:i<xs.length):∃ d,atI xs i=some d∧d∈xs:=by
 have hl:i.toNat<xs.length:=by omega
 exact ⟨xs[i.toNat],Az6R h0 (List.getElem?_eq_getElem hl),List.getElem_mem hl⟩
end
section
variable {t:D→DSt→Res DSt} {body:DSt→Out}
theorem Az5U (d:D) (ds:List D) (δ δ':DSt) (h:t d δ= .ok δ'):forD t body (d::ds) δ=(match body δ' with
   | .nx δ2=>forD t body ds δ2
   | .ct δ2=>forD t body ds δ2
   | .bk δ2=> .nx δ2
   | .rt d=> .rt d
   | .ex c fs=> .ex c fs
   | .stuck=> .stuck):=by
 rw [forD,h]
 first|done|rfl|dsimp only
end
section
variable {fe:DSt→Res D} {c:DSt→Res Bool}
theorem Az8G (t:D→DSt→Res DSt) (d:D) (ds:List D) (δ δ':DSt) (h:t d δ= .ok δ'):compD t c fe (d::ds) δ=((noex (c δ')).bind fun k=>if k=true then (noex (fe δ')).bind fun x=>(compD t c fe ds δ').bind fun r=> .ok (x::r) else compD t c fe ds δ'):=by
 rw [compD]
 rw [h]
theorem Az7B (p:D→Bool) (f:D→D) (δ:DSt):∀ (ds:List D) (x:Option S),(∀ d∈ds,c (some (.d d)::δ)= .ok (p d)∧(p d=true→fe (some (.d d)::δ)= .ok (f d)))→compD (setI 0) c fe ds (x::δ)= .ok ((ds.filter p).map f)
 | [],_,_=>rfl
 |d::ds,x,h=>by
  obtain ⟨h1,h2⟩:=h d List.mem_cons_self
  rw [Az8G (setI 0) d ds (x::δ) (some (.d d)::δ) rfl,h1]
  have ih:=Az7B p f δ ds (some (.d d)) fun y hy=>h y (List.mem_cons_of_mem _ hy)
  rw [ih]
  cases hp:p d with
  |false=>rw [List.filter_cons_of_neg (by rw [hp];exact Bool.false_ne_true)];rfl
  |true=>rw [List.filter_cons_of_pos hp,h2 hp];rfl
theorem Az3Y (f:D→D) (δ:DSt) (ds:List D) (x:Option S) (h:∀ d∈ds,fe (some (.d d)::δ)= .ok (f d)):compD (setI 0) (fun _=> .ok true) fe ds (x::δ)= .ok (ds.map f):=by
 rw [Az7B (fun _=>true) f δ ds x fun d hd=>⟨rfl,fun _=>h d hd⟩]
 rw [List.filter_eq_self.mpr fun _ _=>rfl]
end
theorem Bz6C {α:Type} (f:α→Bool) (xs:List α):Az0V (xs.map fun x=>D.bl (f x))=some (xs.map f):=by
 induction xs with
 |nil=>rfl
 |cons x xs ih=>simp [Az0V,ih]
theorem Az5H {α:Type} (f:α→Bool) (xs:List α):allR (.lst (xs.map fun x=>D.bl (f x)))= .ok (.bl (xs.all f)):=by
 show (match Az0V (xs.map fun x=>D.bl (f x)) with|some bs=>Res.ok (D.bl (bs.all id))|none=>Res.stuck)=_
 rw [Bz6C]
 simp [List.all_map]
end L3
namespace L3
open PySem PySem.Spec PyProof.Rows L2
theorem ty_int (i:Int):(tyD (.int i)=none)=False:=by simp [tyD]
theorem ty_str (i:Str):(tyD (.str i)=none)=False:=by simp [tyD]
theorem ty_tup (i:List D):(tyD (.tup i)=none)=False:=by simp [tyD]
def isI:D→Bool
 | .int _=>true
 |_=>false
def isB:D→Bool
 | .bl _=>true
 |_=>false
def isS:D→Bool
 | .str _=>true
 |_=>false
def isT:D→Bool
 | .tup _=>true
 |_=>false
theorem Bz3A (d:D) (h:tyD d≠none):isiR "int" d= .ok (.bl (isI d||isB d)):=by cases d<;>first|exact absurd rfl h|(simp [isiR,tyD,isiB,isI,isB])
theorem Az9W (d:D) (h:tyD d≠none):isiR "bool" d= .ok (.bl (isB d)):=by cases d<;>first|exact absurd rfl h|(simp [isiR,tyD,isiB,isB])
theorem Bz8H (d:D) (h:tyD d≠none):isiR "str" d= .ok (.bl (isS d)):=by cases d<;>first|exact absurd rfl h|(simp [isiR,tyD,isiB,isS])
theorem Az3B (d:D) (h:tyD d≠none):isiR "tuple" d= .ok (.bl (isT d)):=by cases d<;>first|exact absurd rfl h|(simp [isiR,tyD,isiB,isT])
theorem Az5Z (i j k:Int):chainR leR leR (.int i) (.int j) (.ok (.int k))= .ok (.bl (decide (i≤j∧j≤k))):=by
 unfold chainR
 rw [leR_ii]
 by_cases h:i≤j
 ·rw [decide_eq_true h]
  show leR (.int j) (.int k)=_
  rw [leR_ii];simp [h]
 ·rw [decide_eq_false h]
  simp [h,Res.bind]
theorem Az6N (i j k:Int):chainR leR ltR (.int i) (.int j) (.ok (.int k))= .ok (.bl (decide (i≤j∧j<k))):=by
 unfold chainR
 rw [leR_ii]
 by_cases h:i≤j
 ·rw [decide_eq_true h]
  show ltR (.int j) (.int k)=_
  rw [ltR_ii];simp [h]
 ·rw [decide_eq_false h]
  simp [h,Res.bind]
def finO:Out→Res D
 | .rt d=> .ok d
 | .nx _=> .ok .non
 |_=> .stuck
theorem Az2D (n:Nat) (g:DSt→Out) (ds:List D):runD n g ds=finO (g (startD n ds)):=by
 unfold runD finO
 cases g (startD n ds)<;>rfl
theorem Az2C (d:D):finO (.rt d)= .ok d:=rfl
theorem Bz4N (δ:DSt):finO (.nx δ)= .ok .non:=rfl
theorem Cz0F (ns:List Int):shal 40 (.lst (ns.map D.int))=true:=by simp [shal]
theorem Cz9E (ns:List Int):eqR (.lst (ns.map D.int)) (.lst [])= .ok (.bl (ns.isEmpty)):=by
 unfold eqR
 rw [Cz0F]
 cases ns<;>simp [shal,eqD,eqL]
theorem Dz0B (xs:List D) (n:Nat):cutD xs none (some (n:Int))=xs.take n:=by
 unfold cutD
 rw [HT.sIx_nat]
 show (xs.drop 0).take (min n xs.length-0)=_
 rw [List.drop_zero,Nat.sub_zero,List.take_eq_take_iff]
 omega
end L3
namespace L3
open PySem PySem.Spec PyProof.Rows L2 SeqAt
structure XE (X:Cx) (xw:XW) (e:Expr) (f:DSt→Res D):Prop where
 h:DE X xw e f
structure XP (X:Cx) (xw:XW) (e:Expr) (f:DSt→Res D):Prop where
 h:DP X xw e f
structure XF (X:Cx) (xw:XW) (e:Expr) (f:DSt→Res (List D)):Prop where
 h:DF X xw e f
structure XT (X:Cx) (xw:XW) (e:Expr) (f:DSt→Res Bool):Prop where
 h:DT X xw e f
structure XW' (X:Cx) (xw:XW) (e:Expr) (f:DSt→Res Bool):Prop where
 h:DW X xw e f
structure XA (X:Cx) (xw:XW) (e:List Expr) (f:DSt→Res (List D)):Prop where
 h:DA X xw e f
structure XO (X:Cx) (xw:XW) (e:Option Expr) (f:DSt→Res (Option Int)):Prop where
 h:DO X xw e f
structure XG (X:Cx) (e:Expr) (f:D→DSt→Res DSt):Prop where
 h:DG X e f
structure XGs (X:Cx) (e:List Expr) (f:List D→DSt→Res DSt):Prop where
 h:DGs X e f
structure XTs (X:Cx) (e:List Expr) (f:DSt→Res Bool):Prop where
 h:DTs X e f
structure XS (X:Cx) (xw:XW) (e:Stmt) (f:DSt→Out):Prop where
 h:DS X xw e f
structure XSs (X:Cx) (xw:XW) (e:List Stmt) (f:DSt→Out):Prop where
 h:DSs X xw e f
structure XI (X:Cx) (xw:XW) (tg e:Expr) (f:DSt→Res (List D)):Prop where
 h:DI X xw tg e f
section
variable {X:Cx} {xw:XW} {e a b c:Expr} {f fa fb fc:DSt→Res D} {pos p p2:Pos} {st:Stmt} {sts as bs:List Stmt} {tg iter elt:Expr} {t:D→DSt→Res DSt} {fs:DSt→Res (List D)} {es rest:List Expr} {ga gb gc:DSt→Res Bool} {g g1 g2:DSt→Out}
 {lo hi:Option Expr} {fl fh:DSt→Res (Option Int)} {fi:DSt→Res (List D)} {scope:Scope} {ifs:List Expr} {fe:DSt→Res D}
theorem x_var (i:Nat) {x:Str} (hN:X.N[i]? =some x:=by rfl) (hv:Vis X.env.scope x:=by first|exact Or.inl rfl|exact Or.inr (Or.inl rfl)|exact Or.inr (Or.inr rfl)) (hd:(x==("__debug__":Str))=false:=by decide)
  (hcd:(x==("__classdict__":Str))=false:=by decide):XE X xw (.Name x pos) (slotD i):=⟨de_var i hN hv hd hcd⟩
theorem p_var (i:Nat) {x:Str} (hN:X.N[i]? =some x:=by rfl) (hv:Vis X.env.scope x:=by first|exact Or.inl rfl|exact Or.inr (Or.inl rfl)|exact Or.inr (Or.inr rfl)) (hd:(x==("__debug__":Str))=false:=by decide)
  (hcd:(x==("__classdict__":Str))=false:=by decide):XP X xw (.Name x pos) (slotP i):=⟨dp_var i hN hv hd hcd⟩
theorem p_of (h:XE X xw e f):XP X xw e f:=⟨DE.p h.h⟩
theorem Cz6I {x:Str} {i:Int} (hm:∃ t,X.mg x=some (.int i t)) (hg:Gl X x:=by rfl) (hdb:(x==("__debug__":Str))=false:=by decide):XE X xw (.Name x pos) (kD (.int i)):=⟨Cz5V hm hg hdb⟩
theorem Cz6H {x y:Str} (hm:∃ t,X.mg x=some (.str y t)) (hg:Gl X x:=by rfl) (hdb:(x==("__debug__":Str))=false:=by decide):XE X xw (.Name x pos) (kD (.str y)):=⟨Cz5U hm hg hdb⟩
theorem x_one {op} (h:XE X xw a fa):XE X xw (.BoolOp op [a] pos) fa:=⟨de_one h.h⟩
theorem w_and1 (ha:XT X xw a ga):XW' X xw (.BoolOp .And [a] pos) ga:=⟨Cz9G ha.h⟩
theorem w_or1 (ha:XT X xw a ga):XW' X xw (.BoolOp .Or [a] pos) ga:=⟨dw_or1 ha.h⟩
theorem y_w (h:XW' X xw e ga):XT X xw e ga:=⟨DW.t h.h⟩
theorem y_notN {j pos'} (ha:XP X xw a fa):XT X xw (.Compare a [.IsNot] [.Constant .none j pos'] pos) (tR (b1 notNR fa)):=⟨dt_notN' ha.h⟩
theorem Cz5L (hm:X.mg "list"=none) (ha:XP X xw a fa) (hg:Gl X "list":=by rfl) (he:starEach [a] X.env=(false,eval a X.env)::starEach [] X.env:=by rfl) (hpl:(backTo pos (starEach [] X.env)).any (·.1)=false:=by rfl):
  XF X xw (.Call (.Name "list" p) [a] [] pos) (b1 seqR fa):=⟨Cz1O hm ha.h hg he hpl⟩
theorem Az7R (hm:X.mg "tuple"=none) (ha:XP X xw a fa) (hg:Gl X "tuple":=by rfl) (he:starEach [a] X.env=(false,eval a X.env)::starEach [] X.env:=by rfl) (hpl:(backTo pos (starEach [] X.env)).any (·.1)=false:=by rfl):
  XE X xw (.Call (.Name "tuple" p) [a] [] pos) (b1 tupofR fa):=⟨Cz5T hm ha.h hg he hpl⟩
theorem x_max (hc:X.calm=true) (hm:X.mg "max"=none) (ha:XA X xw [a,b] fs) (hg:Gl X "max":=by rfl) (he:starEach [a,b] X.env=(false,eval a X.env)::starEach [b] X.env:=by rfl) (hpl:(backTo pos (starEach [b] X.env)).any (·.1)=false:=by rfl):
  XE X xw (.Call (.Name "max" p) [a,b] [] pos) (b1 maxR fs):=⟨Cz9W hc hm ha.h hg he hpl⟩
theorem x_min (hc:X.calm=true) (hm:X.mg "min"=none) (ha:XA X xw [a,b] fs) (hg:Gl X "min":=by rfl) (he:starEach [a,b] X.env=(false,eval a X.env)::starEach [b] X.env:=by rfl) (hpl:(backTo pos (starEach [b] X.env)).any (·.1)=false:=by rfl):
  XE X xw (.Call (.Name "min" p) [a,b] [] pos) (b1 minR fs):=⟨Cz9V hc hm ha.h hg he hpl⟩
theorem x_abs (hm:X.mg "abs"=none) (ha:XP X xw a fa) (hg:Gl X "abs":=by rfl) (he:starEach [a] X.env=(false,eval a X.env)::starEach [] X.env:=by rfl) (hpl:(backTo pos (starEach [] X.env)).any (·.1)=false:=by rfl):
  XE X xw (.Call (.Name "abs" p) [a] [] pos) (b1 absR fa):=⟨de_abs hm ha.h hg he hpl⟩
theorem i_seq (h:XE X xw e f):XI X xw tg e (b1 seqR f):=⟨di_seq h.h⟩
theorem i_zip {elts:List Expr} {kt:Nat} {pt:Pos} (hm:X.mg "zip"=none) (ha:XA X xw [a,b] fs) (hg:Gl X "zip":=by rfl) (hs:starEach [a,b] X.env= [(false,eval a X.env),(false,eval b X.env)]:=by rfl) (hs2:starEach [b] X.env= [(false,eval b X.env)]:=by rfl):
  XI X xw (.Tuple elts kt pt) (.Call (.Name "zip" p) [a,b] [] pos) (b1 zipR fs):=⟨di_zip hm ha.h hg hs hs2⟩
theorem g_name (i:Nat) {x:Str} (hN:X.N.Nodup) (hi:X.N[i]? =some x:=by rfl) (hx:Loc X.env.scope x:=by first|exact Or.inl rfl|exact Or.inr rfl) (hf:X.fn x=true∨X.env.scope.names.lookup x=some .local:=by first|exact .inl rfl|exact .inr rfl|assumption):
  XG X (.Name x pos) (setI i):=⟨Cz9T i hN hi hx hf⟩
theorem g_nil:XGs X [] unNil:=⟨Cz9S⟩
theorem g_cons {tgs:List Expr} {ts:List D→DSt→Res DSt} (h1:XG X tg t) (h2:XGs X tgs ts) (hs:(assignEach (tg::tgs) X.env).map (·.2)=assign tg X.env::(assignEach tgs X.env).map (·.2):=by rfl):XGs X (tg::tgs) (unCons t ts):=⟨Cz5S h1.h h2.h hs⟩
theorem g_tup {tgs:List Expr} {ts:List D→DSt→Res DSt} {k:Nat} {n:Nat} (hc:X.calm=true) (h:XGs X tgs ts) (hn:(assignEach tgs X.env).length=n:=by rfl) (hst:(assignEach tgs X.env).findIdx? (·.1)=none:=by rfl):XG X (.Tuple tgs k pos) (unTup n ts):=⟨dg_tup hc h.h hn hst⟩
theorem t_nil:XTs X [] (fun _=> .ok true):=⟨Cz9I⟩
theorem t_one (h:XT X xwF c gc):XTs X [c] gc:=⟨Cz9H h.h⟩
theorem s_no:XS X xw st (fun _=> .stuck):=⟨ds_no⟩
theorem ss_nil:XSs X xw [] .nx:=⟨Cz9K⟩
theorem ss_one (h1:XS X xw st g1):XSs X xw [st] g1:=⟨Cz9J h1.h⟩
theorem Cz6W:XS X xw (.Break pos) .bk:=⟨Cz5Q⟩
theorem x_int {i:Int} {j}:XE X xw (.Constant (.int i) j pos) (kD (.int i)):=⟨de_int⟩
theorem x_bl {i:Bool} {j}:XE X xw (.Constant (.bool i) j pos) (kD (.bl i)):=⟨de_bl⟩
theorem x_str {i:Str} {j}:XE X xw (.Constant (.str i) j pos) (kD (.str i)):=⟨de_str⟩
theorem x_non {j}:XE X xw (.Constant .none j pos) (kD .non):=⟨de_non⟩
theorem x_add (ha:XP X xw a fa) (hb:XP X xw b fb):XE X xw (.BinOp a .Add b pos) (b2 addD fa fb):=⟨de_add ha.h hb.h⟩
theorem x_sub (ha:XP X xw a fa) (hb:XP X xw b fb):XE X xw (.BinOp a .Sub b pos) (b2 subD fa fb):=⟨de_sub ha.h hb.h⟩
theorem x_mod (ha:XP X xw a fa) (hb:XP X xw b fb):XE X xw (.BinOp a .Mod b pos) (b2 modD fa fb):=⟨de_mod ha.h hb.h⟩
theorem x_fdiv (ha:XP X xw a fa) (hb:XP X xw b fb):XE X xw (.BinOp a .FloorDiv b pos) (b2 fdivD fa fb):=⟨Cz9X ha.h hb.h⟩
theorem x_neg (ha:XP X xw a fa):XE X xw (.UnaryOp .USub a pos) (b1 negD fa):=⟨de_neg ha.h⟩
theorem x_not (ha:XE X xw a fa):XE X xw (.UnaryOp .Not a pos) (b1 notD fa):=⟨de_not ha.h⟩
theorem x_and (ha:XE X xw a fa) (hb:XE X xw (.BoolOp .And (b::rest) pos) fb):XE X xw (.BoolOp .And (a::b::rest) pos) (vAnd fa fb):=⟨de_and ha.h hb.h⟩
theorem x_or (ha:XE X xw a fa) (hb:XE X xw (.BoolOp .Or (b::rest) pos) fb):XE X xw (.BoolOp .Or (a::b::rest) pos) (vOr fa fb):=⟨de_or ha.h hb.h⟩
theorem x_cmp {o:CmpOp} {op:D→D→Res D} (hc:CmpR X xw o op) (ha:XP X xw a fa) (hb:XP X xw b fb):XE X xw (.Compare a [o] [b] pos) (b2 op fa fb):=⟨de_cmp hc ha.h hb.h⟩
theorem y_cmp {o:CmpOp} {op:D→D→Res D} (hc:CmpR X xw o op) (ha:XP X xw a fa) (hb:XP X xw b fb):XT X xw (.Compare a [o] [b] pos) (tR (b2 op fa fb)):=⟨dt_cmp hc ha.h hb.h⟩
theorem Cz6K {o o':CmpOp} {op op':D→D→Res D} (hc:CmpR X xw o op) (hc':CmpR X xw o' op') (ha:XP X xw a fa) (hb:XP X xw b fb) (hcc:XP X xw c fc) (hm:lastMarks [o,o'] [b,c]=false:=by with_unfolding_all rfl):
  XE X xw (.Compare a [o,o'] [b,c] pos) (bCh op op' fa fb fc):=⟨Cz5W hc hc' ha.h hb.h hcc.h hm⟩
theorem Bz3H {o o':CmpOp} {op op':D→D→Res D} (hc:CmpR X xw o op) (hc':CmpR X xw o' op') (ha:XP X xw a fa) (hb:XP X xw b fb) (hcc:XP X xw c fc) (hm:lastMarks [o,o'] [b,c]=false:=by with_unfolding_all rfl):
  XT X xw (.Compare a [o,o'] [b,c] pos) (tR (bCh op op' fa fb fc)):=⟨Cz5N hc hc' ha.h hb.h hcc.h hm⟩
theorem x_isN {j pos'} (ha:XP X xw a fa):XE X xw (.Compare a [.Is] [.Constant .none j pos'] pos) (b1 isNR fa):=⟨de_isN ha.h⟩
theorem y_isN {j pos'} (ha:XP X xw a fa):XT X xw (.Compare a [.Is] [.Constant .none j pos'] pos) (tR (b1 isNR fa)):=⟨dt_isN ha.h⟩
theorem y_val (h:XE X xw e f) (he:∀ whole,isTrue e X.env whole=(do let v ←whole;standAt e.pos;holding [v] (truthy v)):=by intro _;rfl):XT X xw e (tR f):=⟨DE.t h.h he⟩
theorem y_not (ha:XT X xw a ga):XT X xw (.UnaryOp .Not a pos) (tNot1 ga):=⟨dt_not ha.h⟩
theorem w_and (ha:XT X xw a ga) (hb:XW' X xw (.BoolOp .And (b::rest) pos) gb):XW' X xw (.BoolOp .And (a::b::rest) pos) (tAnd2 ga gb):=⟨dw_and ha.h hb.h⟩
theorem w_or (ha:XT X xw a ga) (hb:XW' X xw (.BoolOp .Or (b::rest) pos) gb):XW' X xw (.BoolOp .Or (a::b::rest) pos) (tOr2 ga gb):=⟨dw_or ha.h hb.h⟩
theorem a_nil:XA X xw [] aNil:=⟨da_nil⟩
theorem a_cons (ha:XE X xw a fa) (hr:XA X xw es fs) (hs:starEach (a::es) X.env=(false,eval a X.env)::starEach es X.env:=by rfl):XA X xw (a::es) (aCons fa fs):=⟨Dz0A ha.h hr.h hs⟩
theorem x_tup {x1} (h:XA X xw es fs):XE X xw (.Tuple es x1 pos) (b1 tupR fs):=⟨de_tup h.h⟩
theorem f_lst (h:XA X xw es fs):XF X xw (.List es pos) (b1 lstR fs):=⟨df_lst h.h⟩
theorem x_new (h:XF X xw e fs):XE X xw e (asD fs):=⟨DF.de h.h⟩
theorem x_ix (ha:XP X xw a fa) (hb:XP X xw b fb) (hs:Bz9O b:=by intro _ _;rfl):XE X xw (.Subscript a b pos) (b2 ixR fa fb):=⟨de_ix ha.h hb.h hs⟩
theorem o_none:XO X xw none oNone:=⟨Cz9O⟩
theorem o_some (h:XE X xw e f):XO X xw (some e) (b1 partR f):=⟨Cz9N h.h⟩
theorem x_len (hm:X.mg "len"=none) (ha:XP X xw a fa) (hg:Gl X "len":=by rfl) (he:starEach [a] X.env=(false,eval a X.env)::starEach [] X.env:=by rfl) (hpl:(backTo pos (starEach [] X.env)).any (·.1)=false:=by rfl):
  XE X xw (.Call (.Name "len" p) [a] [] pos) (b1 lenR fa):=⟨de_len hm ha.h hg he hpl⟩
theorem x_all (hc:X.calm=true) (hm:X.mg "all"=none) (ha:XP X xw a fa) (hg:Gl X "all":=by rfl) (he:starEach [a] X.env=(false,eval a X.env)::starEach [] X.env:=by rfl) (hpl:(backTo pos (starEach [] X.env)).any (·.1)=false:=by rfl):
  XE X xw (.Call (.Name "all" p) [a] [] pos) (b1 allR fa):=⟨de_all hc hm ha.h hg he hpl⟩
theorem x_isi {C:String} {c:Str} {p2:Pos} (hC:isiOk C) (hbc:bootBuiltins c=some (.type C)) (hm:X.mg "isinstance"=none) (hmc:X.mg c=none) (ha:XP X xw a fa) (hg:Gl X "isinstance":=by rfl) (hgc:Gl X c:=by rfl) (hcn:c≠"__name__":=by decide)
  (hcd:(c==("__debug__":Str))=false:=by decide)
  (he:starEach [a, .Name c p2] X.env=(false,eval a X.env)::starEach [.Name c p2] X.env:=by rfl) (he2:starEach [.Name c p2] X.env=(false,eval (.Name c p2) X.env)::starEach [] X.env:=by rfl)
  (hpl:(backTo pos (starEach [.Name c p2] X.env)).any (·.1)=false:=by rfl):
  XE X xw (.Call (.Name "isinstance" p) [a, .Name c p2] [] pos) (b1 (isiR C) fa):=⟨de_isi hC hbc hm hmc ha.h hg hgc hcn hcd he he2 hpl⟩
theorem x_call {k n:Nat} {x:Str} {m:List D→Res D} (F:Fn X.prog X.w X.K X.mg X.base k x n m) (hr:Room k X.A) (ha:XA X xw (a::es) fs) (hg:Gl X x:=by rfl)
  (hdb:(x==("__debug__":Str))=false:=by decide) (he:starEach (a::es) X.env=(false,eval a X.env)::starEach es X.env:=by rfl) (hpl:(backTo pos (starEach es X.env)).any (·.1)=false:=by rfl):
  XE X xw (.Call (.Name x p) (a::es) [] pos) (b1 (callR n m) fs):=⟨Cz9Y F hr ha.h hg hdb he hpl⟩
theorem f_comp (Nc Nx:List Str) (c:CompOk X scope Nc Nx) (hcalm:X.calm=true) (hi:XI X xw tg iter fi)
  (hY:∀ (C:Addr) (fp:List Addr) (pins:List (Addr×Obj)) (s:Shared) (H:Hp),XG (compCx X scope Nc Nx C fp pins s H) tg t∧XTs (compCx X scope Nc Nx C fp pins s H) ifs gc∧XE (compCx X scope Nc Nx C fp pins s H) xwF elt fe)
  (hs:∀ x,foldedSetIterable iter X.env x=pure x:=by intro _;rfl):
  XF X xw (.ListComp elt [⟨tg,iter,ifs,0⟩] scope pos) (vComp Nc.length t gc fe fi):=⟨Cz9U Nc Nx c hcalm hi.h (fun C fp pins s H=>⟨(hY C fp pins s H).1.h,(hY C fp pins s H).2.1.h,(hY C fp pins s H).2.2.h⟩) hs⟩
theorem s_ownC (i:Nat) {x:Str} {py:Pos} (hN:X.N.Nodup) (Nc Nx:List Str) (c:CompOk X scope Nc Nx) (hcalm:X.calm=true) (hi:XI X xw tg iter fi)
  (hY:∀ (C:Addr) (fp:List Addr) (pins:List (Addr×Obj)) (s:Shared) (H:Hp),XG (compCx X scope Nc Nx C fp pins s H) tg t∧XTs (compCx X scope Nc Nx C fp pins s H) ifs gc∧XE (compCx X scope Nc Nx C fp pins s H) xwF elt fe)
  {spos:Pos} (hiN:X.N[i]? =some x:=by rfl) (hx:Loc X.env.scope x:=by first|exact Or.inl rfl|exact Or.inr rfl)
  (hsw:swapsWith (.ListComp elt [⟨tg,iter,ifs,0⟩] scope pos) (some (.Name x py)) spos.line X.env=pure true:=by rfl)
  (hf:X.fn x=true∨X.env.scope.names.lookup x=some .local:=by first|exact .inl rfl|exact .inr rfl|assumption)
  (hs:∀ x,foldedSetIterable iter X.env x=pure x:=by intro _;rfl):
  XS X xw (.Assign [.Name x py] (.ListComp elt [⟨tg,iter,ifs,0⟩] scope pos) spos) (sOwn i (vComp Nc.length t gc fe fi)):=⟨Cz9M i hN Nc Nx c hcalm hi.h (fun C fp pins s H=>⟨(hY C fp pins s H).1.h,(hY C fp pins s H).2.1.h,(hY C fp pins s H).2.2.h⟩) hiN hx hsw hf hs⟩
theorem Bz3C (hm:X.mg "range"=none) (ha:XA X xw [a] fs) (hg:Gl X "range":=by rfl) (hs:starEach [a] X.env= [(false,eval a X.env)]:=by rfl):XI X xw tg (.Call (.Name "range" p) [a] [] pos) (b1 rng1R fs):=⟨Cz1N hm ha.h hg hs⟩
theorem Az0B (h1:XS X xw st g1) (h2:XSs X xw sts g2):XSs X xw (st::sts) (sSeq g1 g2):=⟨Cz5O h1.h h2.h⟩
theorem s_ret (he:XE X xw e f):XS X xw (.Return (some e) pos) (sRet f):=⟨ds_ret he.h⟩
theorem s_retV (i:Nat) {x:Str} {pos':Pos} (hN:X.N[i]? =some x:=by rfl) (hv:Vis X.env.scope x:=by first|exact Or.inl rfl|exact Or.inr (Or.inl rfl)|exact Or.inr (Or.inr rfl)) (hd:(x==("__debug__":Str))=false:=by decide)
  (hcd:(x==("__classdict__":Str))=false:=by decide):XS X xw (.Return (some (.Name x pos')) pos) (sRet (slotP i)):=⟨Cz9L i hN hv hd hcd⟩
theorem s_set (i:Nat) {x:Str} {pos':Pos} (hN:X.N.Nodup) (he:XE X xw e f) (hi:X.N[i]? =some x:=by rfl) (hx:Loc X.env.scope x:=by first|exact Or.inl rfl|exact Or.inr rfl) (hs:swapsWith e (some (.Name x pos')) pos.line X.env=pure false:=by rfl)
  (hf:X.fn x=true∨X.env.scope.names.lookup x=some .local:=by first|exact .inl rfl|exact .inr rfl|assumption):XS X xw (.Assign [.Name x pos'] e pos) (sSet i f):=⟨ds_set i hN he.h hi hx hs hf⟩
theorem s_own (i:Nat) {x:Str} {pos':Pos} {ff:DSt→Res (List D)} (hN:X.N.Nodup) (he:XF X xw e ff) (hi:X.N[i]? =some x:=by rfl) (hx:Loc X.env.scope x:=by first|exact Or.inl rfl|exact Or.inr rfl) (hs:swapsWith e (some (.Name x pos')) pos.line X.env=pure false:=by rfl)
  (hf:X.fn x=true∨X.env.scope.names.lookup x=some .local:=by first|exact .inl rfl|exact .inr rfl|assumption):XS X xw (.Assign [.Name x pos'] e pos) (sOwn i ff):=⟨ds_own i hN he.h hi hx hs hf⟩
theorem s_if (hc:XT X xw c ga) (ha:XSs X xw as g1) (hb:XSs X xw bs g2):XS X xw (.If c as bs pos) (sIf ga g1 g2):=⟨ds_if hc.h ha.h hb.h⟩
theorem s_for (hp:PassesOwn (model X.prog X.w) X.A X.env X.xe) (hc:X.calm=true) (hi:XI X xw tg iter fi) (hg:XG X tg t) (hb:XSs X xw sts g)
  (hs:∀ x,foldedSetIterable iter X.env x=pure x:=by intro _;rfl):XS X xw (.For tg iter sts [] pos) (sFor t g fi):=⟨ds_for hp hc hi.h hg.h hb.h hs⟩
theorem Bz3P (n:Nat) (hp:PassesOwn (model X.prog X.w) X.A X.env X.xe) (hc:XT X xw c ga) (hb:XSs X xw sts g):XS X xw (.While c sts [] pos) (sWhile n ga g):=⟨Cz5P n hp hc.h hb.h⟩
theorem Bz7C (i:Nat) {x:Str} {p1 p2 p3:Pos} (he:XE X xw e f) (hN:X.N[i]? =some x:=by rfl) (hv:Vis X.env.scope x:=by first|exact Or.inl rfl|exact Or.inr (Or.inl rfl)|exact Or.inr (Or.inr rfl)) (hd:(x==("__debug__":Str))=false:=by decide)
  (hcd:(x==("__classdict__":Str))=false:=by decide)
  (hsE:starEach [e] X.env=(false,eval e X.env)::starEach [] X.env:=by rfl)
  (hbase:attributeBase (.Name x p1) "append" X.env (eval (.Name x p1) X.env)=eval (.Name x p1) X.env:=by rfl)
  (hfew:((backTo p3 (starEach [e] X.env)).all (fun x=> !x.1)&&(backToKw p3 (keywordEach [] X.env)).all (fun x=>x.1.isSome)
   &&decide (([e]:List Expr).length+([]:List Keyword).length+(if ([]:List Keyword).isEmpty then 0 else 1)<30))=true:=by rfl)
  (hline:(p2.endLine==p3.line)=true:=by rfl) (hplain:(backTo p3 (starEach [] X.env)).any (·.1)=false:=by rfl)
  (hsw:swapsWith (.Call (.Attribute (.Name x p1) "append" p2) [e] [] p3) none pos.line X.env=pure false:=by rfl):
  XS X xw (.Expr (.Call (.Attribute (.Name x p1) "append" p2) [e] [] p3) pos) (sApp i f):=⟨Cz1M i he.h hN hv hd hcd hsE hbase hfew hline hplain hsw⟩
end
theorem fn_def {P:Program} {w:World} {K:PySem.W.Frag} {mg:Str→Option Value} {base:Heap} {k:Nat} {x qual:Str} {st:Stmt} {fa:Addr} {fd:FuncData} {N ps:List Str} {g:DSt→Out} (F:Fun K x qual st fa fd) (S:FnScope N ps (Az0A st))
  (hm:mg x=some (.ref fa)) (hb:Binds K fd ps [])
  (body:∀ (cdv:Value) (A:Around) (outer:List Env) (s:Shared) (H:Hp) (E:XK),Room k (A.deeper (envOfC qual (Az0A st) s.heap.objs.size fa cdv))→
   XSs (cxOf CX0 P w K mg base N qual (Az0A st) fa cdv A outer s H E).nox xwF (Az0F st) g):Fn P w K mg base (k+1) x ps.length (runD N.length g):=
 Cz9A F S hm hb fun cdv A outer s H E hr=>(body cdv A outer s H E hr).h
theorem fn_law {P:Program} {w:World} {K:PySem.W.Frag} {mg:Str→Option Value} {base:Heap} {k:Nat} {x qual:Str} {st:Stmt} {fa:Addr} {fd:FuncData} {N ps:List Str} {g:DSt→Out} (F:Fun K x qual st fa fd) (S:FnScope N ps (Az0A st))
  (body:∀ (cdv:Value) (A:Around) (outer:List Env) (s:Shared) (H:Hp) (E:XK),Room k (A.deeper (envOfC qual (Az0A st) s.heap.objs.size fa cdv))→
   XSs (cxOf CX0 P w K mg base N qual (Az0A st) fa cdv A outer s H E).nox xwF (Az0F st) g):FnOk P w K mg base CX0 (k+1) fa fd ps (spD K ps.length (runD N.length g)):=
 Cz5K F S fun cdv A outer s H E hr=>(body cdv A outer s H E hr).h
end L3
namespace L3
open PySem PySem.Spec PyProof.Rows L2
section
variable {t:D→DSt→Res DSt} {body:DSt→Out}
theorem Bz8O (I:Nat→DSt→Prop) (ds:List D) (δ:DSt) (hb:∀ i d δ,ds[i]? =some d→I i δ→∃ δ',t d δ= .ok δ'∧∃ δ2,(body δ'= .nx δ2∨body δ'= .ct δ2)∧I (i+1) δ2) (h:I 0 δ):∃ δ2,forD t body ds δ= .nx δ2∧I ds.length δ2:=by
 induction ds generalizing I δ with
 |nil=>exact ⟨δ,rfl,h⟩
 |cons d ds ih=>
  obtain ⟨δ',e1,δ2,e2,h2⟩:=hb 0 d δ rfl h
  obtain ⟨δ3,e3,h3⟩:=ih (fun i=>I (i+1)) δ2 (fun i x δ hx hI=>hb (i+1) x δ (by simpa using hx) hI) h2
  refine ⟨δ3,?_,h3⟩
  rw [Az5U d ds δ δ' e1]
  rcases e2 with e2|e2<;> · rw [e2];exact e3
theorem Cz5J (I:Nat→DSt→Prop) (R:D→Prop) (ds:List D) (δ:DSt) (hb:∀ i d δ,ds[i]? =some d→I i δ→∃ δ',t d δ= .ok δ'∧((∃ δ2,(body δ'= .nx δ2∨body δ'= .ct δ2)∧I (i+1) δ2)∨∃ r,body δ'= .rt r∧R r)) (h:I 0 δ):
  (∃ δ2,forD t body ds δ= .nx δ2∧I ds.length δ2)∨∃ r,forD t body ds δ= .rt r∧R r:=by
 induction ds generalizing I δ with
 |nil=>exact .inl ⟨δ,rfl,h⟩
 |cons d ds ih=>
  obtain ⟨δ',e1,hh⟩:=hb 0 d δ rfl h
  rw [Az5U d ds δ δ' e1]
  rcases hh with ⟨δ2,e2,h2⟩|⟨r,e2,hr⟩
  ·have h3:=ih (fun i=>I (i+1)) δ2 (fun i x δ hx hI=>hb (i+1) x δ (by simpa using hx) hI) h2
   rcases e2 with e2|e2<;> · rw [e2];exact h3
  ·rw [e2];exact .inr ⟨r,rfl,hr⟩
end
section
variable {fe:DSt→Res D} {c:DSt→Res Bool}
abbrev un2:D→DSt→Res DSt:=unTup 2 (unCons (setI 0) (unCons (setI 1) unNil))
theorem Az8F (f:D→D→D) (δ:DSt):∀ (xs ys:List D) (x y:Option S),(∀ (i:Nat) (a b:D),xs[i]? =some a→ys[i]? =some b→fe (some (.d a)::some (.d b)::δ)= .ok (f a b))→compD un2 (fun _=> .ok true) fe (zipD xs ys) (x::y::δ)= .ok (List.zipWith f xs ys)
 | [],_,_,_,_=>by simp [zipD,compD]
 |_::_,[],_,_,_=>by simp [zipD,compD]
 |a::xs,b::ys,x,y,h=>by
  rw [zipD,Az8G un2 (.tup [a,b]) (zipD xs ys) (x::y::δ) (some (.d a)::some (.d b)::δ) rfl,Az8F f δ xs ys _ _ fun i p q h1 h2=>h (i+1) p q (by simpa using h1) (by simpa using h2),h 0 a b rfl rfl]
  rfl
theorem Az0Z {n:Nat} {t:D→DSt→Res DSt} {δ:DSt} {ds r:List D} (h:compD t c fe ds (List.replicate n none++δ)= .ok r) (hl:ds.length≤100000):compR n t c fe δ ds= .ok r:=by
 unfold compR
 rw [if_pos hl,h];rfl
end
theorem rng1_i (j:Int) (h0:0≤j) (h:j<100000):rng1R [.int j]= .ok (rngD 0 j.toNat):=by
 unfold rng1R
 simp only
 rw [if_pos (by omega)]
theorem Bz2L {lo:Int} {n i:Nat} {d:D} (h:(rngD lo n)[i]? =some d):i<n∧d= .int (lo+i):=by
 unfold rngD at h
 rw [List.getElem?_map] at h
 have hi:i<n:=by
  refine Nat.lt_of_not_le fun z=> ?_
  rw [List.getElem?_eq_none (by simpa using z)] at h;cases h
 rw [List.getElem?_range hi] at h
 exact ⟨hi,(Option.some.inj h).symm⟩
theorem Bz2K (lo:Int) (n:Nat):(rngD lo n).length=n:=by simp [rngD]
theorem Bz9L {α:Type} (xs:List α) (v:α):atI (xs++ [v]) (-1)=some v:=L2.atI_last xs v
theorem Cz3F (i:Nat) (δ:DSt) (ds:List D) (d:D) (h:δ[i]? =some (some (.o ds))) (hl:ds.length≤100000):appO i δ (.ok d)= .nx (δ.set i (some (.o (ds++ [d])))):=by
 unfold appO
 rw [h]
 show (@ite Out (ds.length≤100000) (Classical.propDecidable _) _ _)=_
 rw [if_pos hl];rfl
end L3
namespace L3
open PySem
theorem Cz6O:fillsNumberSlot (.type "tuple") "mul"=pure false:=fillsNumberSlot_seq (id:="tuple.__mul__") (r:=some (.builtin "tuple.__rmul__")) F.slot_tuple_mul.lookup (by decide +kernel) F.slot_tuple_rmul.lookup (by decide +kernel)
theorem tm_rep:seqRepeat? (.type "tuple")=pure (some (.builtin "tuple.__mul__")):=by
 unfold seqRepeat?
 rw [seqSlot_of (T:="tuple") (name:="__mul__") (id:="tuple.__mul__") F.slot_tuple_mul.lookup (by decide +kernel),seqSlot_of (T:="tuple") (name:="__rmul__") (id:="tuple.__rmul__") F.slot_tuple_rmul.lookup (by decide +kernel)];rfl
theorem tm_no (a:Int) (t:Tok) (l:Addr) (items:Array Value) (n:Nat) (dd:Option Addr) (sl:Array (Option Value)):
  Meets (Builtin.«int.__rmul__» ⟨[.int a t, .ref l],[]⟩) (fun _ R s=>s.heap.get? l=some {cls:= .type "tuple",dict:=dd,data:= .seq items n,slots:=sl}∧R (.ok (.ret Value.notImplemented)) s):=
 .of_wp fun prog w A R s h=>by
  obtain ⟨hp,g,d,tk,os⟩:=s
  obtain ⟨hl,h⟩:=h
  wp_walk
  exact ⟨_,rfl,h⟩
theorem tm_one (l:Addr) (items:Array Value) (n:Nat) (dd:Option Addr) (sl:Array (Option Value)) (u:Tok):
  Meets (Builtin.«tuple.__mul__» ⟨[.ref l, .int 1 u],[]⟩) (fun _ R s=>s.heap.get? l=some {cls:= .type "tuple",dict:=dd,data:= .seq items n,slots:=sl}∧R (.ok (.ret (Value.ref l))) s):=
 .of_wp fun prog w A R s h=>by
  obtain ⟨hp,g,d,tk,os⟩:=s
  obtain ⟨hl,h⟩:=h
  wp_walk
  exact ⟨_,rfl,h⟩
theorem Cz6N (l:Addr) (items:Array Value) (n:Nat) (dd:Option Addr) (sl:Array (Option Value)) (k:Int) (u:Tok) (h0:(decide (k< -2^63)||decide (k≥2^63))=false) (h1:(items.isEmpty||k==1)=false) (h2:(decide (k≤0)||items.isEmpty)=false) (h3:¬ (items.size*k>(2^63-1) / 8)) (h4:Builtin.Tuple.tupleTooMany (items.size*k)=false) (h5:((List.replicate k.toNat items).foldl (· ++ ·) #[]).size≤sizeLine):
  Meets (Builtin.«tuple.__mul__» ⟨[.ref l, .int k u],[]⟩) (fun _ R s=>s.heap.get? l=some {cls:= .type "tuple",dict:=dd,data:= .seq items n,slots:=sl}∧R (.ok (.ret (Value.ref s.heap.objs.size))) {s with heap:=s.heap.push {cls:= .type "tuple",data:= .seq ((List.replicate k.toNat items).foldl (· ++ ·) #[])}}):=
 .of_wp fun prog w A R s h=>by
  obtain ⟨hp,g,d,tk,os⟩:=s
  obtain ⟨hl,h⟩:=h
  wp_walk
  refine wpAny_ite_false (by rw [h0];rfl) ?_
  wp_walk
  refine wpAny_ite_false (decide_eq_false h3) ?_
  wp_walk
  exact ⟨_,rfl,h⟩
end L3
namespace L3
open PySem PySem.Spec PyProof.Rows L2 SeqAt
section
variable {X:Cx} {xw:XW} {a b:Expr} {fa fb:DSt→Res D} {pos p:Pos}
theorem Cz7W:OpR X (binaryOp .Mult) (fun x y H Q=>∃ l k xs,x= .ref l∧y= .int k∧SqT X.K H l xs∧xs≠ []∧1≤k∧k≤1000∧xs.length≤1000∧(k=1→Q (.ref l) H)∧(k≠1→∀ p,H p=none→Q (.ref p) (upd H p (.tup (List.replicate k.toNat xs).flatten)))):=by
 intro pins s σ H x y v u Q I rx ry h
 obtain ⟨l,k,xs,rfl,rfl,sq,hne,h1,h2,hl,q1,q2⟩:=h
 cases rx
 obtain ⟨t,rfl⟩:=ry
 obtain ⟨its,r,⟨⟨cls,dd,data,sl⟩,ho,hc,n,hd⟩,hz⟩:=I.tuple sq
 simp only at hc hd
 subst hc hd
 have hlen:=r.length
 have hi:its≠ []:=fun e=>hne (by rw [e] at hlen;exact List.eq_nil_of_length_eq_zero hlen)
 have he:its.toArray.isEmpty=false:=by cases its with
  |nil=>exact absurd rfl hi
  |cons=>simp
 have hsz:(its.toArray.size:Int)*k≤1000000:=by
  rw [List.size_toArray,←hlen]
  have h3:(xs.length:Int)*k≤1000*1000:=Int.mul_le_mul (by omega) h2 (by omega) (by decide)
  omega
 have hsz':(its.length:Int)*k≤1000000:=by simpa using hsz
 refine wpAny_binaryOp_repeat_ref (T:="tuple") (U:="int") (by decide) ⟨_,ho,rfl⟩ (fun s'=>typeIs_int s' k t) Cz6O F.fills_int_mul F.slot_int_rmul tm_rep F.slot_int_index.lookup
  (call_meets F.slot_int_rmul (typeIs_int s k t) F.entry_int_rmul (F.args_int_rmul_2 _ _) (tm_no k t l its.toArray n dd sl) ⟨ho,rfl,⟨_,ho,rfl⟩,?_⟩)
 by_cases hk:k=1
 ·subst hk
  exact call_meets F.slot_tuple_mul ⟨_,ho,rfl⟩ F.entry_tuple_mul (F.args_tuple_mul_2 _ _) (tm_one l its.toArray n dd sl t) ⟨ho,⟨.ref l,H,I,rfl,q1 rfl⟩⟩
 ·have hfl:(List.replicate k.toNat its.toArray).foldl (fun x1 x2=>x1++x2) #[]=(List.replicate k.toNat its).flatten.toArray:=by
   have:=Bz4M its k.toNat []
   rw [List.nil_append] at this
   exact this
  have hfz:(List.replicate k.toNat its).flatten.length≤sizeLine:=by
   rw [Cz2P,sizeLine_eq]
   have h3:its.length*k.toNat≤1000*1000:=Nat.mul_le_mul (by omega) (by omega)
   rw [Nat.mul_comm];omega
  refine call_meets F.slot_tuple_mul ⟨_,ho,rfl⟩ F.entry_tuple_mul (F.args_tuple_mul_2 _ _) (Cz6N l its.toArray n dd sl k t ?_ ?_ ?_ ?_ ?_ ?_) ⟨ho,?_⟩
  ·simp only [Bool.or_eq_false_iff,decide_eq_false_iff_not];omega
  ·rw [he];simpa using hk
  ·rw [he];simp;omega
  ·omega
  ·unfold Builtin.Tuple.tupleTooMany
   have:((sizeLine:Nat):Int)=16777216:=by rw [sizeLine_eq];rfl
   rw [this];simp;omega
  ·rw [hfl,List.size_toArray];exact hfz
  ·rw [hfl]
   refine ⟨.ref s.heap.objs.size,_,I.laid (a:=s.heap.objs.size) (o:= .tup (List.replicate k.toNat xs).flatten) (t':=s.toks) (fun _ _ e=>Heap.get?_push_of_some _ e) (Nat.le_refl _) ⟨?_,_,r.rep k.toNat,IsTup.new _ _⟩,rfl,q2 hk _ I.fresh⟩
   rw [Cz2P,sizeLine_eq]
   have h3:xs.length*k.toNat≤1000*1000:=Nat.mul_le_mul (by omega) (by omega)
   rw [Nat.mul_comm];omega
noncomputable def mulE:D→D→Res D
 | .int i, .int j=>mulD (.int i) (.int j)
 | .tup xs, .int k=>@ite (Res D) (xs≠ []∧1≤k∧k≤1000∧xs.length≤1000) (Classical.propDecidable _) (.ok (.tup (List.replicate k.toNat xs).flatten)) .stuck
 |_,_=> .stuck
theorem Bz1H (i j:Int):mulE (.int i) (.int j)=@ite (Res D) ((-18446744073709551616<i∧i<18446744073709551616)∨(-18446744073709551616<j∧j<18446744073709551616)) (Classical.propDecidable _) (.ok (.int (i*j))) .stuck:=rfl
theorem mulE_t (xs:List D) (k:Int) (h:xs≠ []∧1≤k∧k≤1000∧xs.length≤1000):mulE (.tup xs) (.int k)= .ok (.tup (List.replicate k.toNat xs).flatten):=if_pos h
theorem HasL.rep {K:PySem.W.Frag} {W:WS} {H:Hp} {ds:List D} {xs:List V} (h:HasL K W H ds xs):∀ k:Nat,HasL K W H (List.replicate k ds).flatten (List.replicate k xs).flatten
 |0=>by simp [HasL]
 |k+1=>by
  rw [List.replicate_succ,List.flatten_cons,List.replicate_succ,List.flatten_cons]
  exact h.append (HasL.rep h k)
theorem x_mulE (ha:XP X xw a fa) (hb:XP X xw b fb):XE X xw (.BinOp a .Mult b pos) (b2 mulE fa fb):=⟨by
 refine de_op2 (op_mul.or Cz7W) (fun W H d e v u Q w hv hu q=> ?_) ha.h hb.h
 unfold mulE at q
 split at q
 ·unfold mulD at q
  dsimp only at q
  split at q
  ·rename_i hj
   exact .inl ⟨_,_,hv.int,hu.int,hj,q.int⟩
  ·exact q.elim
 ·split at q
  ·rename_i xs k hj
   obtain ⟨l,ys,e,sq,r⟩:=hv.tup
   refine .inr ⟨l,k,ys,e,hu.int,sq,?_,hj.2.1,hj.2.2.1,by rw [←r.length];exact hj.2.2.2,fun hk=> ?_,fun _ p hp=>q.newT w hp (r.rep _)⟩
   ·intro z
    subst z
    exact hj.1 (List.eq_nil_of_length_eq_zero (by simpa using r.length))
   ·subst hk
    refine q _ H (Same.refl _) ?_
    rw [Has]
    exact ⟨l,ys,rfl,sq,by simpa using r⟩
  ·exact q.elim
 ·exact q.elim⟩
def intsOf:List D→Option (List Int)
 | []=>some []
 | .int i::r=>(intsOf r).map (i:: ·)
 |_=>none
theorem Bz4I:∀ {ds:List D} {ns:List Int},intsOf ds=some ns→ds=ns.map D.int
 | [],ns,h=>by rw [intsOf] at h;cases h;rfl
 | .int i::r,ns,h=>by
  rw [intsOf] at h
  obtain ⟨ms,h1,rfl⟩:=Option.map_eq_some_iff.mp h
  rw [List.map_cons,Bz4I h1]
 | .non::_,_,h=>by simp [intsOf] at h
 | .bl _::_,_,h=>by simp [intsOf] at h
 | .str _::_,_,h=>by simp [intsOf] at h
 | .tup _::_,_,h=>by simp [intsOf] at h
 | .lst _::_,_,h=>by simp [intsOf] at h
 | .dct _ _::_,_,h=>by simp [intsOf] at h
 | .exc _ _::_,_,h=>by simp [intsOf] at h
 | .obj _ _ _::_,_,h=>by simp [intsOf] at h
def tupT (ns:List Int):Str:=(PyData.tuple (ns.map PyData.int)).shown
theorem Az7E {h:Heap}:∀ {us:List Value} {ns:List Int},IntsAre us ns→ReadsAll h us (ns.map PyData.int) []
 |_,_, .nil=> .nil
 |_,_, .cons n t r=> .cons (.int n t) (Az7E r)
theorem Cz1R {k:Nat} (hr:Room k X.A):CallR X (.type "str") (fun xs H Q=>∃ a ns,xs= [.ref a]∧SqT X.K H a (ns.map V.int)∧(PyData.tuple (ns.map PyData.int)).showable=true∧(tupT ns).length≤sizeLine∧Q (.str (tupT ns)) H):=by
 intro pins s σ H xs us Q I r h
 obtain ⟨a,ns,rfl,sq,hs,hz,q⟩:=h
 obtain ⟨u,rfl,rx⟩:=vals1 r
 cases (show u=Value.ref a from rx)
 obtain ⟨its,rv,⟨o,ho,hc,n,hd⟩,_⟩:=I.tuple sq
 have hI:IntsAre its ns:=Bz8J rv
 have rd:Reads s.heap (.ref a) (.tuple (ns.map PyData.int)) []:= .tuple ho hc hd (by simpa using Az7E hI)
 have hdict:∀ ms:List Int,PyData.hasDictAll (ms.map PyData.int)=false:=fun ms=>by
  induction ms with
  |nil=>rfl
  |cons m ms ih=>rw [List.map_cons,PyData.hasDictAll,ih];rfl
 have hdep:∀ ms:List Int,PyData.depthAll (ms.map PyData.int)≤1:=fun ms=>by
  induction ms with
  |nil=>simp [PyData.depthAll]
  |cons m ms ih=>rw [List.map_cons,PyData.depthAll];simp [PyData.depth];omega
 refine str_of_reads rd hs (fun z=>by rw [PyData.hasDict,hdict] at z;cases z) hr.gd ?_ (fun _ _ e=>e) (fun h' u tk hk=>⟨.str (tupT ns),H,I.kept (t':=tk) hk,⟨u,rfl⟩,q⟩) hz
 have:=hr.units
 have:=hdep ns
 rw [PyData.depth]
 omega
noncomputable def strR:D→Res D
 | .int i=>@ite (Res D) (i.natAbs.log2<1920) (Classical.propDecidable _) (.ok (.str (toString i))) .stuck
 | .tup ds=>match intsOf ds with
  |some ns=>@ite (Res D) ((PyData.tuple (ns.map PyData.int)).showable=true∧(tupT ns).length≤sizeLine) (Classical.propDecidable _) (.ok (.str (tupT ns))) .stuck
  |none=> .stuck
 |_=> .stuck
theorem Cz2A {k:Nat} (hr:Room k X.A) (hm:X.mg "str"=none) (ha:XP X xw a fa) (hg:Gl X "str":=by rfl) (he:starEach [a] X.env=(false,eval a X.env)::starEach [] X.env:=by rfl) (hpl:(backTo pos (starEach [] X.env)).any (·.1)=false:=by rfl):
  XE X xw (.Call (.Name "str" p) [a] [] pos) (b1 strR fa):=⟨
 Az7O (call_str_int.or (Cz1R hr)) (fun W H d v Q w hv q=>by
  unfold strR at q
  split at q
  ·split at q
   ·rename_i i hi
    exact .inl ⟨i,by rw [hv.int],hi,q.str⟩
   ·exact q.elim
  ·split at q
   ·rename_i ns hn
    split at q
    ·rename_i hz
     obtain ⟨a,xs,e,sq,r⟩:=hv.tup
     rw [Bz4I hn] at r
     have ex:xs=ns.map V.int:=by
      clear sq q hz hn
      induction ns generalizing xs with
      |nil=>rw [List.map_nil,HasL] at r;exact r
      |cons n ns ih=>
       rw [List.map_cons,HasL] at r
       obtain ⟨x,r',rfl,h1,h2⟩:=r
       rw [Has] at h1
       rw [h1,ih _ h2];rfl
     rw [ex] at sq
     exact .inr ⟨a,ns,by rw [e],sq,hz.1,hz.2,q.str⟩
    ·exact q.elim
   ·exact q.elim
  ·exact q.elim) hm (by decide +kernel) ha.h hg (by decide) (by decide) he hpl⟩
end
end L3
namespace L3
open PySem PySem.Spec PyProof.Rows L2 SeqAt
section
variable {K:PySem.W.Frag} {W₀ W:WS} {H₀ H H':Hp} {σ:L2.St} {δ:DSt}
theorem StHas.freeze {i:Nat} {ds:List D} {a:Addr} (h:StHas K W₀ H₀ W H σ δ) (hi:δ[i]? =some (some (.o ds))) (hs:σ[i]? =some (some (.ref a))):
  StHas K W₀ H₀ (fun b=>W b∧b≠a) H σ (δ.set i (some (.d (.lst ds))))∧Has K (fun b=>W b∧b≠a) H (.lst ds) (.ref a):=by
 obtain ⟨v,h1,b,xs,e',hW,h0,h3,h4⟩:=h.at' i _ hi
 rw [hs] at h1
 cases h1
 cases e'
 have hd:Has K (fun b=>W b∧b≠a) H (.lst ds) (.ref a):=by
  rw [Has]
  exact ⟨a,xs,rfl, .inl ⟨h3,fun z=>z.2 rfl⟩,HasL.keep (fun _ _ e _=>e) h.fr.wl (fun b z=> .inl z.1) h4⟩
 exact ⟨h.freezeG (owo ds) hi hs hd,hd⟩
end
section
variable {X:Cx} {xw:XW} {pos p p2:Pos} {tg a b c:Expr} {fa fb:DSt→Res D} {fs:DSt→Res (List D)}
def b2F (op:D→D→Res (List D)) (f g:DSt→Res D):DSt→Res (List D):=fun δ=>(f δ).bind fun x=>(g δ).bind fun y=>op x y
noncomputable def catR:D→D→Res (List D)
 | .lst xs, .lst ys=>@ite (Res (List D)) (xs.length+ys.length≤sizeLine) (Classical.propDecidable _) (.ok (xs++ys)) .stuck
 |_,_=> .stuck
theorem Cz8A:OpR X (binaryOp .Add) (fun x y H Q=>∃ l b xs zs,x= .ref l∧y= .ref b∧SqL X.K H l xs∧SqL X.K H b zs∧xs.length+zs.length≤sizeLine∧∀ p,H p=none→Q (.ref p) (upd H p (.lst (xs++zs)))):=by
 intro pins s σ H x y v u Q I rx ry h
 obtain ⟨l,b,xs,zs,rfl,rfl,hH,hB,hz,q⟩:=h
 cases rx
 cases ry
 obtain ⟨its,r,⟨⟨cls,dd,data,sl⟩,n,e,hc,hd,hs⟩,hz1⟩:=I.list hH
 obtain ⟨its2,r2,⟨⟨cls2,dd2,data2,sl2⟩,n2,e2,hc2,hd2,hs2⟩,hz2⟩:=I.list hB
 simp only at hc hd hs hc2 hd2 hs2
 subst hc hd hs hc2 hd2 hs2
 have hl:=r.length
 have hl2:=r2.length
 refine concat_meets ⟨_,e,rfl⟩ ⟨_,e2,rfl⟩ noFill_list_add seq_list_add PySem.F.slot_list_add PySem.F.entry_list_add (PySem.F.args_list_add_2 _ _) (list_addW l b its.toArray its2.toArray n n2 none none sl sl2 (by rw [List.size_toArray,List.size_toArray];omega)) ⟨e,e2,?_⟩
 have ea:its.toArray++its2.toArray=(its++its2).toArray:=by simp
 rw [ea]
 exact ⟨.ref _,_,I.lnew (t':=s.toks) (r.append r2) (by rw [List.length_append];omega),rfl,q _ I.fresh⟩
theorem Bz9S {σ:L2.St} {H:Hp} {W₀ W:WS} {H₀:Hp} {δ:DSt} {op:D→D→Res (List D)} {Q:VK} {R:V→V→Hp→Prop} (st:StHas X.K W₀ H₀ W H σ δ)
  (q:RF X.K xw W H ((fa δ).bind fun x=>(fb δ).bind fun y=>op x y) Q)
  (h:∀ H2 d e v u,Same H H2→WL W H2→HasT X.K W H2 d v→HasT X.K W H2 e u→RF X.K xw W H2 (op d e) Q→R v u H2):
  tDP X.K xw fa σ H fun x H1=>tDP X.K xw fb σ H1 fun y H2=>R x y H2:=by
 refine ⟨W₀,H₀,W,δ,st,?_⟩
 cases h1:fa δ with
 |stuck=>rw [h1] at q;exact q
 |ex c fs=>rw [h1] at q;exact q
 |ok d=>
  rw [h1] at q
  intro v H1 k1 hv
  refine ⟨W₀,H₀,W,δ,st.same k1,?_⟩
  have q':RF X.K xw W H ((fb δ).bind fun y=>op d y) Q:=q
  cases h2:fb δ with
  |stuck=>rw [h2] at q';exact q'
  |ex c fs=>rw [h2] at q';exact fun H2 k2=>q' H2 (k1.trans k2)
  |ok e=>
   rw [h2] at q'
   intro u H2 k2 hu
   have q2:RF X.K xw W H (op d e) Q:=q'
   exact h H2 d e v u (k1.trans k2) (st.fr.wl.same (k1.trans k2)) (hv.same k2 (st.fr.wl.same k1)) hu (RF.same q2 (k1.trans k2))
theorem f_cat (ha:XP X xw a fa) (hb:XP X xw b fb):XF X xw (.BinOp a .Add b pos) (b2F catR fa fb):=
 ⟨PE.weak (pe_op Cz8A ha.h hb.h) fun σ H Q ⟨W₀,H₀,W,δ,st,q⟩=>Bz9S st q fun H2 d e v u k w hv hu q2=>by
  unfold catR at q2
  split at q2
  ·split at q2
   ·rename_i hz
    obtain ⟨a1,xs,e1,s1,r1⟩:=hv.lst
    obtain ⟨a2,ys,e2,s2,r2⟩:=hu.lst
    exact ⟨a1,a2,xs,ys,e1,e2,s1,s2,by rw [←r1.length,←r2.length];exact hz,fun p hp=>q2 p _ H2 (Same.refl _) hp (r1.append r2)⟩
   ·exact q2.elim
  ·exact q2.elim⟩
def Itd (hi:Int) (n:Nat):It:=⟨fun i _=>i<n,fun i H x H'=>H'=H∧x= .int (hi+i*(-1)),fun i _=>n≤i⟩
theorem Bz9X {P:Program} {w:World} {K:PySem.W.Frag} {tg:Expr} (it:Addr) (lo:Int) (n:Nat):Turn P w K tg (Itd lo n) [it] it (fun i h=>IsRangeIter h it (lo+(i:Nat)*(-1)) ((n:Int)-(i:Nat)) (-1)) where
 mem:=by simp
 obj:=fun i h st b hb=>by
  have e:b=it:=by simpa using hb
  subst e
  exact ⟨_,st,fun v z=>by
   have z':Data.fields _=Data.cell v:=z
   cases z'⟩
 keep:=fun i h h' st k=>k it (by simp) _ st
 item:=by
  intro X hP hw hK hc i pins s σ H E I hf st hg
  subst hP hw hK
  obtain ⟨f0,f1,f2,f3,f4,f5⟩:=hf it (by simp)
  have W:=Walks.range (prog:=X.prog) (w:=X.w) (I.ok.hd hc) it lo (-1) n
  refine W.item i s _ _ hg st fun v h' tk hv st' kk=> ?_
  obtain ⟨t,rfl⟩:=hv
  have I1:Inv X pins σ H {s with heap:=h',toks:=tk}:=I.turned (fun b o hb e=>kk b o (by simpa using hb) e) f0 f1 f3 f4 f5
  exact ⟨_,rfl,go_of (s:= {s with heap:=h',toks:=tk}) (n:="range_iterator") st' rfl rfl (by decide) ⟨.int (lo+i*(-1)),H,I1,⟨t,rfl⟩,⟨rfl,rfl⟩,st',fun b hb=>(hf b hb).1⟩⟩
 done:=by
  intro X hP hw hK hc i pins s σ H E I hf st hg
  subst hP hw hK
  obtain ⟨f0,f1,f2,f3,f4,f5⟩:=hf it (by simp)
  exact wpAny_pyNext_range_end (I.ok.hd hc) st (by have:n≤i:=hg;omega) fun h' eb=>⟨rfl,I.turned (t':=s.toks) (fun b o hb e=>eb b o hb e) f0 f1 f3 f4 f5⟩
 self:=fun _ _ _ _ _ st h=>wpAny_pyIter_rangeiter st h
theorem Az6G (a b:Int):Builtin.Range.rangeSize a b (-1)=if b<a then a-b else 0:=by
 unfold Builtin.Range.rangeSize
 simp
theorem Bz6R {a b:Int} (ha: -(2^62)≤a) (ha':a<2^62) (hb: -(2^62)≤b) (hb':b<2^62):Builtin.Range.small a b (-1)=true:=by
 unfold Builtin.Range.small
 rw [Az6G]
 simp only [Builtin.Range.rangeFitsLong,Bool.and_eq_true,Bool.or_eq_true,decide_eq_true_eq,beq_iff_eq,show ¬ (-1:Int)>0 by decide,if_false]
 split<;>simp<;>omega
theorem Cz0J {pins:List (Addr×Obj)} {σ:L2.St} {H:Hp} {s:Shared} {R:It→Hp→Prop} {E:Value→Shared→Prop} {lo hi:Int} {t u v:Tok} {tk:Nat} (I:Inv X pins σ H s) (h1: -(2^62)≤lo) (h2:lo<2^62) (h3: -(2^62)≤hi) (h4:hi<2^62)
  (q:R (Itd lo (lo-hi).toNat) H):wpAny (model X.prog X.w) X.A (pyIter (.ref s.heap.objs.size)) (PIE X pins σ tg R) E {s with heap:=s.heap.push {cls:= .type "range",data:= .fields #[.int lo t, .int hi u, .int (-1) v]},toks:=tk}:=by
 refine wpAny_pyIter_range (IsRange.new ..) (Bz6R h1 h2 h3 h4) ?_
 have I1:Inv X pins σ H {s with heap:=s.heap.push {cls:= .type "range",data:= .fields #[.int lo t, .int hi u, .int (-1) v]},toks:=tk}:=I.kept fun b o e=>Heap.get?_push_of_some _ e
 refine ⟨(s.heap.push {cls:= .type "range",data:= .fields #[.int lo t, .int hi u, .int (-1) v]}).objs.size,[(s.heap.push {cls:= .type "range",data:= .fields #[.int lo t, .int hi u, .int (-1) v]}).objs.size],_,_,H,rfl,
  I1.kept (t':=tk) fun b o e=>Heap.get?_push_of_some _ e,Bz9X _ lo (lo-hi).toNat,?_,fun b hb=> ?_,q⟩
 ·have e1:lo+((0:Nat):Int)*(-1)=lo:=by simp
  have e2:(((lo-hi).toNat:Nat):Int)-((0:Nat):Int)=Builtin.Range.rangeSize lo hi (-1):=by rw [Az6G];split<;>omega
  show IsRangeIter _ _ (lo+((0:Nat):Int)*(-1)) ((((lo-hi).toNat:Nat):Int)-((0:Nat):Int)) (-1)
  rw [e1,e2]
  exact Heap.get?_push_size _ rfl
 ·have e:b=(s.heap.push {cls:= .type "range",data:= .fields #[.int lo t, .int hi u, .int (-1) v]}).objs.size:=by simpa using hb
  subst e
  exact I1.fpOk (Nat.le_refl _) (I1.hok.fresh (Nat.le_refl _))
def iRngD (ta:TA):TI:=fun σ H R=>ta σ H fun vs H1=>∃ i j:Int,vs= [.int i, .int j, .int (-1)]∧(-(2^62)≤i∧i<2^62∧ -(2^62)≤j∧j<2^62)∧R (Itd i (i-j).toNat) H1
theorem Cz0M {ta:TA} (hg:Gl X "range") (hm:X.mg "range"=none) (ha:PA X [a,b,c] ta) (hs:starEach [a,b,c] X.env= [(false,eval a X.env),(false,eval b X.env),(false,eval c X.env)]:=by rfl) (hs2:starEach [b,c] X.env= [(false,eval b X.env),(false,eval c X.env)]:=by rfl):
  PI X tg (.Call (.Name "range" p) [a,b,c] [] pos) (iRngD ta):=by
 intro pins s σ H R I h
 refine Call_ (ld_blt I hg hm boot_range (PyProof.Rows.callWith_type1 (thn (ha pos pins s σ H _ I h) fun us s1 ⟨vs,H1,I1,r1,q1⟩=> ?_) (by rw [hs,hs2]) (by rw [hs2];rfl)))
 obtain ⟨i,j,e,⟨q1,q2,q3,q4⟩,q⟩:=q1
 subst e
 cases r1 with
 |cons r rr=>
  cases rr with
  |cons r' rr=>
   cases rr with
   |cons r'' rr=>
    cases rr
    obtain ⟨t,rfl⟩:=r
    obtain ⟨t',rfl⟩:=r'
    obtain ⟨t'',rfl⟩:=r''
    exact call_range_3 (by decide) (Cz0J I1 q1 q2 q3 q4 q) (.inl (PyProof.noPylong_small (by decide)))
def dwnD (hi:Int) (n:Nat):List D:=(List.range n).map fun (i:Nat)=>D.int (hi-i)
theorem itd_ok {K:PySem.W.Frag} {W:WS} {H:Hp} (lo:Int) (n:Nat):ItOk K W H (Itd lo n) (dwnD lo n):=by
 intro W' H2 k w2
 unfold dwnD
 refine ⟨fun i d e=> ?_,by simp [Itd]⟩
 rw [List.getElem?_map] at e
 have hi:i<n:=by
  refine Nat.lt_of_not_le fun z=> ?_
  rw [List.getElem?_eq_none (by simpa using z)] at e;cases e
 rw [List.getElem?_range hi] at e
 have e':D.int (lo-(i:Nat))=d:=Option.some.inj e
 subst e'
 refine ⟨hi,fun x H3 z=> ?_⟩
 obtain ⟨rfl,rfl⟩:=z
 exact ⟨Same.refl _,by rw [Has];congr 1;omega⟩
noncomputable def rng3R (ds:List D):Res (List D):=match ds with
 | [.int i, .int j, .int k]=>@ite (Res (List D)) (k= -1∧(-(2^62)≤i∧i<2^62)∧ -(2^62)≤j∧j<2^62) (Classical.propDecidable _) (.ok (dwnD i (i-j).toNat)) .stuck
 |_=> .stuck
theorem HasL.three {K:PySem.W.Frag} {W:WS} {H:Hp} {i j k:Int} {vs:List V} (h:HasL K W H [.int i, .int j, .int k] vs):vs= [.int i, .int j, .int k]:=by
 rw [HasL] at h
 obtain ⟨x,r,rfl,h1,h2⟩:=h
 rw [Has] at h1
 rw [h1,h2.two]
theorem Cz5E (hm:X.mg "range"=none) (ha:XA X xw [a,b,c] fs) (hg:Gl X "range":=by rfl) (hs:starEach [a,b,c] X.env= [(false,eval a X.env),(false,eval b X.env),(false,eval c X.env)]:=by rfl) (hs2:starEach [b,c] X.env= [(false,eval b X.env),(false,eval c X.env)]:=by rfl):
  XI X xw tg (.Call (.Name "range" p) [a,b,c] [] pos) (b1 rng3R fs):=
 ⟨PI.weak (Cz0M hg hm ha.h hs hs2) fun σ H R ⟨W₀,H₀,W,δ,st,q⟩=>by
  refine ⟨W₀,H₀,W,δ,st,?_⟩
  unfold b1 at q
  cases h1:fs δ with
  |stuck=>rw [h1] at q;exact q
  |ex c fs=>rw [h1] at q;exact q
  |ok ds=>
   rw [h1] at q
   intro vs H1 k1 hv
   dsimp only [Res.bind] at q
   unfold rng3R at q
   split at q
   ·rename_i ds' hq
    split at hq
    ·rename_i i j k
     split at hq
     ·rename_i hj
      obtain ⟨rfl,hj⟩:=hj
      have e':dwnD i (i-j).toNat=ds':=by cases hq;rfl
      subst e'
      exact ⟨i,j,hv.three,⟨hj.1.1,hj.1.2,hj.2.1,hj.2.2⟩,q _ H1 k1 (itd_ok i _)⟩
     ·cases hq
    ·cases hq
   ·rename_i hq
    split at hq
    ·split at hq<;>cases hq
    ·cases hq
   ·exact q.elim⟩
end
end L3
namespace L3
open PySem PySem.Spec PyProof.Rows L2 SeqAt
def flatD:D→Bool
 | .non=>true
 | .bl _=>true
 | .int _=>true
 | .str _=>true
 |_=>false
section
variable {K:PySem.W.Frag} {W:WS} {H:Hp}
theorem Az8C {d:D} {v:V} (h:Has K W H d v) (f:flatD d=true):flatV v=true:=by
 cases d with
 |non=>rw [Has] at h;subst h;rfl
 |bl b=>rw [Has] at h;subst h;rfl
 |int i=>rw [Has] at h;subst h;rfl
 |str x=>rw [Has] at h;subst h;rfl
 |_=>cases f
theorem eq_has {d e:D} {v u:V} (h:Has K W H d v) (g:Has K W H e u) (f:flatD d=true) (f2:flatD e=true):eqV v u=eqD d e:=by
 cases d with
 |non=>rw [Has] at h;subst h;cases e<;>first|exact absurd (show false=true from f2) Bool.false_ne_true|(rw [Has] at g;subst g;simp [eqV,eqD])
 |bl b=>rw [Has] at h;subst h;cases e<;>first|exact absurd (show false=true from f2) Bool.false_ne_true|(rw [Has] at g;subst g;simp [eqV,eqD])
 |int i=>rw [Has] at h;subst h;cases e<;>first|exact absurd (show false=true from f2) Bool.false_ne_true|(rw [Has] at g;subst g;simp [eqV,eqD])
 |str x=>rw [Has] at h;subst h;cases e<;>first|exact absurd (show false=true from f2) Bool.false_ne_true|(rw [Has] at g;subst g;simp [eqV,eqD])
 |_=>cases f
theorem in_has {d:D} {v:V} (h:Has K W H d v) (f:flatD d=true):∀ {ds:List D} {xs:List V},HasL K W H ds xs→ds.all flatD=true→xs.all flatV=true∧inV v xs=ds.any (fun y=>eqD y d)
 | [],_,r,_=>by rw [HasL] at r;subst r;exact ⟨rfl,rfl⟩
 |e::ds,_,r,fs=>by
  rw [HasL] at r
  obtain ⟨x,q,rfl,hx,hq⟩:=r
  rw [List.all_cons,Bool.and_eq_true] at fs
  obtain ⟨h1,h2⟩:=in_has h f hq fs.2
  refine ⟨by rw [List.all_cons,Az8C hx fs.1,h1];rfl,?_⟩
  show (eqV x v||inV v q)=(eqD e d||ds.any fun y=>eqD y d)
  rw [eq_has hx h fs.1 f,h2]
end
def subS (i j:Str):Bool:= !(Builtin.Str.occurrences j i 0 j.length 1).isEmpty
def inB (d:D) (ds:List D):Bool:=ds.any fun y=>eqD y d
def inR:D→D→Res D
 | .str i, .str j=> .ok (.bl (subS i j))
 |d, .tup ds=>if (flatD d&&ds.all flatD)=true then .ok (.bl (inB d ds)) else .stuck
 |d, .lst ds=>if (flatD d&&ds.all flatD)=true then .ok (.bl (inB d ds)) else .stuck
 |_,_=> .stuck
def ninR:D→D→Res D
 | .str i, .str j=> .ok (.bl (!subS i j))
 |d, .tup ds=>if (flatD d&&ds.all flatD)=true then .ok (.bl (!inB d ds)) else .stuck
 |d, .lst ds=>if (flatD d&&ds.all flatD)=true then .ok (.bl (!inB d ds)) else .stuck
 |_,_=> .stuck
section
variable {X:Cx} {xw:XW} {pos p p2:Pos} {tg a b c e:Expr} {f fa fb:DSt→Res D} {fs:DSt→Res (List D)}
theorem flatT {K:PySem.W.Frag} {W:WS} {H:Hp} {d:D} {v:V} (h:HasT K W H d v) (f:flatD d=true):Has K W H d v:=by
 rcases h with h|⟨ds,_,_,rfl,_⟩
 ·exact h
 ·cases f
theorem op2_in:Op2 X xw (fun x y H Q=>(∃ i j,x= .str i∧y= .str j∧Q (.bl (!(Builtin.Str.occurrences j i 0 j.length 1).isEmpty)) H)∨rIn X.K false x y H Q) inR:=by
 intro W H d e v u Q w hv hu q
 unfold inR at q
 split at q
 ·exact .inl ⟨_,_,hv.str,hu.str,q.bl⟩
 ·split at q
  ·rename_i hf
   rw [Bool.and_eq_true] at hf
   obtain ⟨a1,xs,e1,sq,r⟩:=hu.tup
   obtain ⟨h1,h2⟩:=in_has (flatT hv hf.1) hf.1 r hf.2
   exact .inr ⟨a1,xs,e1, .inr sq,Az8C (flatT hv hf.1) hf.1,h1,by rw [if_neg Bool.false_ne_true,h2];exact q.bl⟩
  ·exact q.elim
 ·split at q
  ·rename_i hf
   rw [Bool.and_eq_true] at hf
   obtain ⟨a1,xs,e1,sq,r⟩:=hu.lst
   obtain ⟨h1,h2⟩:=in_has (flatT hv hf.1) hf.1 r hf.2
   exact .inr ⟨a1,xs,e1, .inl sq,Az8C (flatT hv hf.1) hf.1,h1,by rw [if_neg Bool.false_ne_true,h2];exact q.bl⟩
  ·exact q.elim
 ·exact q.elim
theorem Cz8B:Op2 X xw (fun x y H Q=>(∃ i j,x= .str i∧y= .str j∧Q (.bl (!(!(Builtin.Str.occurrences j i 0 j.length 1).isEmpty))) H)∨rIn X.K true x y H Q) ninR:=by
 intro W H d e v u Q w hv hu q
 unfold ninR at q
 split at q
 ·exact .inl ⟨_,_,hv.str,hu.str,q.bl⟩
 ·split at q
  ·rename_i hf
   rw [Bool.and_eq_true] at hf
   obtain ⟨a1,xs,e1,sq,r⟩:=hu.tup
   obtain ⟨h1,h2⟩:=in_has (flatT hv hf.1) hf.1 r hf.2
   exact .inr ⟨a1,xs,e1, .inr sq,Az8C (flatT hv hf.1) hf.1,h1,by rw [if_pos rfl,h2];exact q.bl⟩
  ·exact q.elim
 ·split at q
  ·rename_i hf
   rw [Bool.and_eq_true] at hf
   obtain ⟨a1,xs,e1,sq,r⟩:=hu.lst
   obtain ⟨h1,h2⟩:=in_has (flatT hv hf.1) hf.1 r hf.2
   exact .inr ⟨a1,xs,e1, .inl sq,Az8C (flatT hv hf.1) hf.1,h1,by rw [if_pos rfl,h2];exact q.bl⟩
  ·exact q.elim
 ·exact q.elim
theorem x_in (ha:XP X xw a fa) (hb:XP X xw b fb) (hm:behindInMarks .In b=false:=by rfl):XE X xw (.Compare a [.In] [b] pos) (b2 inR fa fb):=
 ⟨PE.weak (Cz2K (op_in_str.or Bz3Z) ha.h hb.h hm) fun σ H Q ⟨W₀,H₀,W,δ,st,q⟩=>Az4Y st q fun H2 d e v u k w hv hu _ _ q2=>op2_in W H2 d e v u Q w hv hu q2⟩
theorem y_in (ha:XP X xw a fa) (hb:XP X xw b fb) (hm:behindInMarks .In b=false:=by rfl):XT X xw (.Compare a [.In] [b] pos) (tR (b2 inR fa fb)):=
 ⟨DE.t_of (f:=b2 inR fa fb) (PT.weak (Bz3R (op_in_str.or Bz3Z) ha.h hb.h hm) fun σ H Q ⟨W₀,H₀,W,δ,st,q⟩=>Az4Y st q fun H2 d e v u k w hv hu _ _ q2=>op2_in W H2 d e v u _ w hv hu q2)⟩
theorem y_nin (ha:XP X xw a fa) (hb:XP X xw b fb) (hm:behindInMarks .NotIn b=false:=by rfl):XT X xw (.Compare a [.NotIn] [b] pos) (tR (b2 ninR fa fb)):=
 ⟨DE.t_of (f:=b2 ninR fa fb) (PT.weak (Bz3R (op_notin_str.or Bz2O) ha.h hb.h hm) fun σ H Q ⟨W₀,H₀,W,δ,st,q⟩=>Az4Y st q fun H2 d e v u k w hv hu _ _ q2=>Cz8B W H2 d e v u _ w hv hu q2)⟩
def Its (x:Str):It:=⟨fun i _=>i<x.cps.size,fun i H v H'=>H'=H∧∃ c,x.cps[i]? =some c∧v= .str ⟨#[c]⟩,fun i _=>i=x.cps.size⟩
theorem Bz9U {P:Program} {w:World} {K:PySem.W.Frag} {tg:Expr} (it:Addr) (x:Str) (t:Tok):Turn P w K tg (Its x) [it] it (fun i h=>h.IsStrIter it "str_ascii_iterator" x t i) where
 mem:=by simp
 obj:=fun i h st b hb=>by
  have e:b=it:=by simpa using hb
  subst e
  obtain ⟨o,e,c,d⟩:=st
  exact ⟨o,e,fun v z=>by rw [d] at z;cases z⟩
 keep:=fun i h h' st k=>let ⟨o,ho,r⟩:=st;⟨o,k it (by simp) o ho,r⟩
 item:=by
  intro X hP hw hK hc i pins s σ H E I hf st hg
  subst hP hw hK
  obtain ⟨f0,f1,f2,f3,f4,f5⟩:=hf it (by simp)
  have W:=Walks.strAscii (prog:=X.prog) (w:=X.w) (I.ok.hd hc) it x t
  refine W.item i s _ _ hg st fun v h' tk hv st' kk=> ?_
  obtain ⟨c,u,hcx,rfl⟩:=hv
  have I1:Inv X pins σ H {s with heap:=h',toks:=tk}:=I.turned (fun b o hb e=>kk b o (by simpa using hb) e) f0 f1 f3 f4 f5
  obtain ⟨o,e,cc,d⟩:=id st'
  exact ⟨_,rfl,go_of (s:= {s with heap:=h',toks:=tk}) e cc d (by decide) ⟨.str ⟨#[c]⟩,H,I1,⟨u,rfl⟩,⟨rfl,c,hcx,rfl⟩,st',fun b hb=>(hf b hb).1⟩⟩
 done:=by
  intro X hP hw hK hc i pins s σ H E I hf st hg
  subst hP hw hK
  have hi:i=x.cps.size:=hg
  subst hi
  obtain ⟨f0,f1,f2,f3,f4,f5⟩:=hf it (by simp)
  have W:=Walks.strAscii (prog:=X.prog) (w:=X.w) (I.ok.hd hc) it x t
  exact W.done s _ _ st fun h' tk eb=>⟨rfl,I.turned (fun b o hb e=>eb b o (by simpa using hb) e) f0 f1 f3 f4 f5⟩
 self:=fun _ _ _ _ _ st h=>wpAny_pyIter_striter_ascii st h
theorem Bz9T {P:Program} {w:World} {K:PySem.W.Frag} {tg:Expr} (it:Addr) (x:Str) (t:Tok):Turn P w K tg (Its x) [it] it (fun i h=>h.IsStrIter it "str_iterator" x t i) where
 mem:=by simp
 obj:=fun i h st b hb=>by
  have e:b=it:=by simpa using hb
  subst e
  obtain ⟨o,e,c,d⟩:=st
  exact ⟨o,e,fun v z=>by rw [d] at z;cases z⟩
 keep:=fun i h h' st k=>let ⟨o,ho,r⟩:=st;⟨o,k it (by simp) o ho,r⟩
 item:=by
  intro X hP hw hK hc i pins s σ H E I hf st hg
  subst hP hw hK
  obtain ⟨f0,f1,f2,f3,f4,f5⟩:=hf it (by simp)
  have W:=Walks.strWide (prog:=X.prog) (w:=X.w) (I.ok.hd hc) it x t
  refine W.item i s _ _ hg st fun v h' tk hv st' kk=> ?_
  obtain ⟨c,u,hcx,rfl⟩:=hv
  have I1:Inv X pins σ H {s with heap:=h',toks:=tk}:=I.turned (fun b o hb e=>kk b o (by simpa using hb) e) f0 f1 f3 f4 f5
  obtain ⟨o,e,cc,d⟩:=id st'
  exact ⟨_,rfl,go_of (s:= {s with heap:=h',toks:=tk}) e cc d (by decide) ⟨.str ⟨#[c]⟩,H,I1,⟨u,rfl⟩,⟨rfl,c,hcx,rfl⟩,st',fun b hb=>(hf b hb).1⟩⟩
 done:=by
  intro X hP hw hK hc i pins s σ H E I hf st hg
  subst hP hw hK
  have hi:i=x.cps.size:=hg
  subst hi
  obtain ⟨f0,f1,f2,f3,f4,f5⟩:=hf it (by simp)
  have W:=Walks.strWide (prog:=X.prog) (w:=X.w) (I.ok.hd hc) it x t
  exact W.done s _ _ st fun h' tk eb=>⟨rfl,I.turned (fun b o hb e=>eb b o (by simpa using hb) e) f0 f1 f3 f4 f5⟩
 self:=fun _ _ _ _ _ st h=>wpAny_pyIter_striter_wide st h
def iStr (tl:TE):TI:=fun σ H R=>tl σ H fun v H1=>∃ x,v= .str x∧R (Its x) H1
theorem pi_str {l:Expr} {tl:TE} (hl:PE X l tl):PI X tg l (iStr tl):=by
 intro pins s σ H R I h
 refine thn (hl pins s σ H _ I h) fun v s1 ⟨x,H1,I1,r1,q1⟩=> ?_
 obtain ⟨y,e,q⟩:=q1
 subst e
 obtain ⟨t,rfl⟩:=r1
 have key:∀ (T:String) (o:Obj),(s1.heap.push o).IsStrIter s1.heap.objs.size T y t 0→Turn X.prog X.w X.K tg (Its y) [s1.heap.objs.size] s1.heap.objs.size (fun i h=>h.IsStrIter s1.heap.objs.size T y t i)→PIE X pins σ tg R (.ref s1.heap.objs.size) {s1 with heap:=s1.heap.push o}:=fun T o h1 h2=>by
  refine ⟨s1.heap.objs.size,[s1.heap.objs.size],_,_,H1,rfl,I1.kept (t':=s1.toks) fun b o e=>Heap.get?_push_of_some _ e,h2,h1,fun b hb=> ?_,q⟩
  have e:b=s1.heap.objs.size:=by simpa using hb
  subst e
  exact I1.fpOk (Nat.le_refl _) (I1.hok.fresh (Nat.le_refl _))
 cases ha:y.cps.all (· <128)
 ·exact wpAny_pyIter_wide ha (key _ _ ⟨_,Heap.get?_push_size _ rfl,rfl,rfl⟩ (Bz9T _ _ _))
 ·exact wpAny_pyIter_ascii ha (key _ _ ⟨_,Heap.get?_push_size _ rfl,rfl,rfl⟩ (Bz9U _ _ _))
def signL (x:Str):List D:=x.cps.toList.map fun c=>D.str ⟨#[c]⟩
def signR:D→Res (List D)
 | .str x=> .ok (signL x)
 |_=> .stuck
theorem its_ok {K:PySem.W.Frag} {W:WS} {H:Hp} (x:Str):ItOk K W H (Its x) (signL x):=by
 intro W' H2 k w2
 unfold signL
 refine ⟨fun i d e=> ?_,by simp [Its]⟩
 rw [List.getElem?_map] at e
 obtain ⟨c,hc,rfl⟩:=Option.map_eq_some_iff.mp e
 have hc':x.cps[i]? =some c:=by simpa using hc
 have hi:i<x.cps.size:=by
  refine Nat.lt_of_not_le fun z=> ?_
  rw [Array.getElem?_eq_none z] at hc';cases hc'
 refine ⟨hi,fun v H3 z=> ?_⟩
 obtain ⟨rfl,c',e',rfl⟩:=z
 rw [hc'] at e'
 cases e'
 exact ⟨Same.refl _,by rw [Has]⟩
theorem i_str (h:XE X xw e f):XI X xw tg e (b1 signR f):=⟨PI.weak (pi_str h.h) fun σ H R ⟨W₀,H₀,W,δ,st,q⟩=>by
 refine ⟨W₀,H₀,W,δ,st,?_⟩
 unfold b1 at q
 cases h1:f δ with
 |stuck=>rw [h1] at q;exact q
 |ex c fs=>rw [h1] at q;exact q
 |ok d=>
  rw [h1] at q
  intro v H1 k1 hv
  cases d with
  |str x=>
   rw [Has] at hv
   exact ⟨x,hv,q _ H1 k1 (its_ok x)⟩
  |_=>exact q.elim⟩
variable {lo hi:Option Expr} {fl fh:DSt→Res (Option Int)}
theorem Cz3K {K:PySem.W.Frag} {W:WS} {H:Hp} (xs:List Str):HasL K W H (xs.map D.str) (xs.map V.str):=by
 induction xs with
 |nil=>exact HasL.nil
 |cons x xs ih=>exact HasL.cons (by rw [Has]) ih
structure GlobT (K:PySem.W.Frag) (mg:Str→Option Value) (x:Str) (xs:List Str):Prop where
 h:∃ (ad:Addr) (o:Obj) (its:Array Value) (n:Nat),mg x=some (.ref ad)∧K.lookup ad=some o∧o.cls= .type "tuple"∧o.data= .seq its n∧its.size≤sizeLine∧Vals (xs.map V.str) its.toList
theorem Cz6Z {P:Program} {w:World} {k:Key} {u:Value} (r:RelV (kV k) u):(Az3W P w).is k u=true:=by
 cases k with
 |inl i=>obtain ⟨t,rfl⟩:=r;exact Bz5S P w i t
 |inr x=>obtain ⟨t,rfl⟩:=r;exact Bz5R P w x t
def keyD:D→Option Key
 | .str x=>some (.inr x)
 | .int i=>some (.inl i)
 |_=>none
end
end L3
namespace L3
open PySem PySem.Spec PyProof.Rows L2 SeqAt
open Builtin Builtin.Str
theorem Az7C:∀ (tk:Nat) (xs:List Str),Vals (xs.map V.str) (strsFrom tk xs)
 |_,[]=> .nil
 |tk,x::r=> .cons ⟨tk,rfl⟩ (Az7C (tk+1) r)
theorem Cz0B (x y:Str) (h:(partsBetween x (occurrences x y 0 x.length (x.length+1)) y.length).length≤1000):(PySem.Txt.split x y).length≤1000:=by
 unfold PySem.Txt.split
 split
 ·simp
 ·split
  ·simp
  ·exact h
section
variable {X:Cx} {xw:XW} {pos p p2 apos cpos:Pos} {tg a b c e o:Expr} {es:List Expr} {f fa fb:DSt→Res D} {fs:DSt→Res (List D)}
def rSplit:V→List V→Hp→VK→Prop:=fun x vs H Q=>∃ z y,x= .str z∧vs= [.str y]∧(y.length==0)=false∧z.length≤1000∧(partsBetween z (occurrences z y 0 z.length (z.length+1)) y.length).length≤1000∧
 ∀ p,H p=none→Q (.ref p) (upd H p (.lst ((PySem.Txt.split z y).map V.str)))
theorem Cz4Q:MtR X "str.split" rSplit:=by
 intro pins s σ H x vs v us Q I rx rv h
 obtain ⟨z,y,rfl,rfl,hy,hz,hp,q⟩:=h
 obtain ⟨t,rfl⟩:=rx
 obtain ⟨u',rfl,ru⟩:=rv.one
 obtain ⟨u,rfl⟩:=ru
 have hz':z.length≤sizeLine:=Nat.le_trans hz k1000
 have hp':=Nat.le_trans hp k1000
 have hs:=Nat.le_trans (Cz0B z y hp) k1000
 have one:PySem.Txt.split z y= [z]→∀ tk,EP X pins σ Q (.ref s.heap.objs.size) {s with heap:=s.heap.push {cls:= .type "list",data:= .seq [Value.str z t].toArray},toks:=tk}:=fun e tk=>by
  rw [e] at q
  exact ⟨.ref _,_,I.lnew (t':=tk) (ys:= [.str z]) (its:= [.str z t]) (.cons ⟨t,rfl⟩ .nil) (by rw [sizeLine_eq,List.length_singleton];decide),rfl,q _ I.fresh⟩
 cases h1:(decide (z.length<y.length)||decide (strKind z<strKind y))
 ·cases hf:(occurrences z y 0 z.length (z.length+1)).isEmpty
  ·refine call_meets F.slot_str_split (typeIs_str _ _ _) F.entry_str_split (F.args_str_split_2 _ _) (meets_str_split_sep z y t u h1 hy hf hz' hp') ?_
   have e:PySem.Txt.split z y=partsBetween z (occurrences z y 0 z.length (z.length+1)) y.length:=(if_neg (ne_true_of_eq_false h1)).trans (if_neg (ne_true_of_eq_false hf))
   rw [e] at q hs
   exact ⟨.ref _,_,I.lnew (Az7C s.toks _) (by rw [List.length_map];exact hs),rfl,q _ I.fresh⟩
  ·exact call_meets F.slot_str_split (typeIs_str _ _ _) F.entry_str_split (F.args_str_split_2 _ _) (meets_str_split_not_found z y t u h1 hy hf) (one ((if_neg (ne_true_of_eq_false h1)).trans (if_pos hf)) s.toks)
 ·exact call_meets F.slot_str_split (typeIs_str _ _ _) F.entry_str_split (F.args_str_split_2 _ _) (meets_str_split_cannot_occur z y t u h1) (one (if_pos h1) s.toks)
def bM {α:Type} (op:Str→List D→Res α) (f:DSt→Res D) (g:DSt→Res (List D)):DSt→Res α:=fun δ=>(f δ).bind fun x=>match x with
 | .str z=>(g δ).bind (op z)
 |_=> .stuck
noncomputable def splitR (z:Str):List D→Res (List D)
 | [.str y]=>@ite (Res (List D)) ((y.length==0)=false∧z.length≤1000∧(partsBetween z (occurrences z y 0 z.length (z.length+1)) y.length).length≤1000) (Classical.propDecidable _) (.ok ((PySem.Txt.split z y).map D.str)) .stuck
 |_=> .stuck
theorem Cz2Y (ho:XE X xw o f) (ha:XA X xw [e] fs)
  (hbase:attributeBase o "split" X.env (eval o X.env)=eval o X.env:=by rfl)
  (hfew:((backTo cpos (starEach [e] X.env)).all (fun x=> !x.1)&&(backToKw cpos (keywordEach [] X.env)).all (fun x=>x.1.isSome)
   &&decide (([e]:List Expr).length+([]:List Keyword).length+(if ([]:List Keyword).isEmpty then 0 else 1)<30))=true:=by rfl)
  (hline:(apos.endLine==cpos.line)=true:=by rfl) (hs:starEach [e] X.env=(false,eval e X.env)::starEach [] X.env:=by rfl) (hplain:(backTo cpos (starEach [] X.env)).any (·.1)=false:=by rfl):
  XF X xw (.Call (.Attribute o "split" apos) [e] [] cpos) (bM splitR f fs):=
 ⟨PE.weak (pe_bm (T:="str") F.plainAttrs_str F.slot_str_split F.type_str_split Cz4Q ho.h ha.h hbase hfew hline hs hplain) fun σ H Q ⟨W₀,H₀,W,δ,st,q⟩=>by
  unfold bM at q
  refine ⟨W₀,H₀,W,δ,st,?_⟩
  cases h1:f δ with
  |stuck=>rw [h1] at q;exact q
  |ex c fs=>rw [h1] at q;exact q
  |ok d=>
   rw [h1] at q
   intro v H1 k1 hv
   cases d with
   |str z=>
    rw [Has] at hv
    subst hv
    have q':RF X.K xw W H ((fs δ).bind (splitR z)) Q:=q
    refine ⟨rfl,W₀,H₀,W,δ,st.same k1,?_⟩
    cases h2:fs δ with
    |stuck=>rw [h2] at q';exact q'
    |ex c gs=>rw [h2] at q';exact fun H2 k2=>q' H2 (k1.trans k2)
    |ok ds=>
     rw [h2] at q'
     intro vs H2 k2 hvs
     have q2:RF X.K xw W H (splitR z ds) Q:=q'
     unfold splitR at q2
     split at q2
     ·rename_i y
      split at q2
      ·rename_i hz
       rw [HasL] at hvs
       obtain ⟨x,r,rfl,hx,hr⟩:=hvs
       rw [HasL] at hr
       subst hr
       rw [Has] at hx
       subst hx
       exact ⟨z,y,rfl,rfl,hz.1,hz.2.1,hz.2.2,fun p hp=>q2 p _ H2 (k1.trans k2) hp (Cz3K _)⟩
      ·exact q2.elim
     ·exact q2.elim
   |_=>exact False.elim q⟩
theorem Bz3L:∀ {xs:List Str} {us:List Value},Vals (xs.map V.str) us→∃ l:List (Str×Tok),us=strValues l∧l.map (·.1)=xs
 | [],_, .nil=>⟨[],rfl,rfl⟩
 |x::xs,_, .cons ⟨t,h⟩ r=>by
  obtain ⟨l,e1,e2⟩:=Bz3L r
  refine ⟨(x,t)::l,?_,by rw [List.map_cons,e2]⟩
  rw [h,e1];rfl
def rJoin (K:PySem.W.Frag):V→List V→Hp→VK→Prop:=fun x vs H Q=>∃ z p xs,x= .str z∧vs= [.ref p]∧SqL K H p (xs.map V.str)∧JoinOk z xs=true∧Q (.str (PySem.Txt.join z xs)) H
theorem Cz8H:MtR X "str.join" (rJoin X.K):=by
 intro pins s σ H x vs v us Q I rx rv h
 obtain ⟨z,p,xs,rfl,rfl,hq,hok,q⟩:=h
 obtain ⟨t,rfl⟩:=rx
 obtain ⟨u',rfl,ru⟩:=rv.one
 cases ru
 obtain ⟨its,r,pl,_⟩:=I.list hq
 obtain ⟨l,e1,e2⟩:=Bz3L r
 subst e1
 exact PySem.SC.join pl.isList e2 hok fun t' k=>⟨.str _,H,I.tok _,⟨t',rfl⟩,q⟩
def strsOf:List D→Option (List Str)
 | []=>some []
 | .str x::ds=>(strsOf ds).map (x:: ·)
 |_=>none
theorem Bz0K {K:PySem.W.Frag} {W:WS} {H:Hp}:∀ {ds:List D} {xs:List Str} {vs:List V},strsOf ds=some xs→HasL K W H ds vs→vs=xs.map V.str
 | [],xs,vs,h,r=>by cases h;rw [HasL] at r;exact r
 |d::ds,xs,vs,h,r=>by
  cases d with
  |str x=>
   obtain ⟨ys,h1,rfl⟩:=Option.map_eq_some_iff.mp (show (strsOf ds).map (x:: ·)=some xs from h)
   rw [HasL] at r
   obtain ⟨v,q,rfl,hv,hq⟩:=r
   rw [Has] at hv
   rw [hv,Bz0K h1 hq];rfl
  |_=>cases h
def joinR (z:Str):List D→Res D
 | [.lst ds]=>match strsOf ds with
  |some xs=>if JoinOk z xs=true then .ok (.str (PySem.Txt.join z xs)) else .stuck
  |none=> .stuck
 |_=> .stuck
theorem x_join (ho:XE X xw o f) (ha:XA X xw [e] fs)
  (hbase:attributeBase o "join" X.env (eval o X.env)=eval o X.env:=by rfl)
  (hfew:((backTo cpos (starEach [e] X.env)).all (fun x=> !x.1)&&(backToKw cpos (keywordEach [] X.env)).all (fun x=>x.1.isSome)
   &&decide (([e]:List Expr).length+([]:List Keyword).length+(if ([]:List Keyword).isEmpty then 0 else 1)<30))=true:=by rfl)
  (hline:(apos.endLine==cpos.line)=true:=by rfl) (hs:starEach [e] X.env=(false,eval e X.env)::starEach [] X.env:=by rfl) (hplain:(backTo cpos (starEach [] X.env)).any (·.1)=false:=by rfl):
  XE X xw (.Call (.Attribute o "join" apos) [e] [] cpos) (bM joinR f fs):=
 ⟨PE.weak (pe_bm (T:="str") F.plainAttrs_str F.slot_str_join F.type_str_join Cz8H ho.h ha.h hbase hfew hline hs hplain) fun σ H Q ⟨W₀,H₀,W,δ,st,q⟩=>by
  unfold bM at q
  refine ⟨W₀,H₀,W,δ,st,?_⟩
  cases h1:f δ with
  |stuck=>rw [h1] at q;exact q
  |ex c fs=>rw [h1] at q;exact q
  |ok d=>
   rw [h1] at q
   intro v H1 k1 hv
   cases d with
   |str z=>
    rw [Has] at hv
    subst hv
    have q':RE X.K xw W H ((fs δ).bind (joinR z)) Q:=q
    refine ⟨rfl,W₀,H₀,W,δ,st.same k1,?_⟩
    cases h2:fs δ with
    |stuck=>rw [h2] at q';exact q'
    |ex c gs=>rw [h2] at q';exact fun H2 k2=>q' H2 (k1.trans k2)
    |ok ds=>
     rw [h2] at q'
     intro vs H2 k2 hvs
     have q2:RE X.K xw W H2 (joinR z ds) Q:=RE.same (r:=joinR z ds) q' (k1.trans k2)
     unfold joinR at q2
     split at q2
     ·rename_i es
      split at q2
      ·rename_i xs hx
       split at q2
       ·rename_i hok
        rw [HasL] at hvs
        obtain ⟨x,r,rfl,hv,hr⟩:=hvs
        rw [HasL] at hr
        subst hr
        rw [Has] at hv
        obtain ⟨p,ys,rfl,sq,r⟩:=hv
        have:=Bz0K hx r
        subst this
        exact ⟨z,p,xs,rfl,rfl,sq.sq,hok,q2.str⟩
       ·exact q2.elim
      ·exact q2.elim
     ·exact q2.elim
   |_=>exact False.elim q⟩
theorem Cz1U:CallR X (.type "int") (fun xs H Q=>∃ z n,xs= [.str z]∧PySem.intText? z=some n∧z.length≤640∧Q (.int n) H):=by
 intro pins s σ H xs us Q I r h
 obtain ⟨z,n,rfl,hn,hl,q⟩:=h
 obtain ⟨u,rfl,t,rfl⟩:=vals1 r
 exact PySem.W.KIN.call_text hn hl ⟨.int n,H,I.tok _,⟨_,rfl⟩,q⟩
def intS:D→Res D
 | .int i=> .ok (.int i)
 | .bl k=> .ok (.int (if k then 1 else 0))
 | .str z=>match PySem.intText? z with
  |some n=>if z.length≤640 then .ok (.int n) else .stuck
  |none=> .stuck
 |_=> .stuck
theorem x_intS (hm:X.mg "int"=none) (ha:XP X xw a fa) (hg:Gl X "int":=by rfl) (he:starEach [a] X.env=(false,eval a X.env)::starEach [] X.env:=by rfl) (hpl:(backTo pos (starEach [] X.env)).any (·.1)=false:=by rfl):
  XE X xw (.Call (.Name "int" p) [a] [] pos) (b1 intS fa):=
 ⟨Az7O (CallR.or Cz1V Cz1U) (fun W H d v Q w hv q=>by
  unfold intS at q
  split at q
  ·exact .inl (.inl ⟨_,by rw [hv.int],q.int⟩)
  ·exact .inl (.inr ⟨_,by rw [hv.bl],q.int⟩)
  ·split at q
   ·rename_i hn
    split at q
    ·rename_i hl
     exact .inr ⟨_,_,by rw [hv.str],hn,hl,q.int⟩
    ·exact q.elim
   ·exact q.elim
  ·exact q.elim) hm (by decide +kernel) ha.h hg (by decide) (by decide) he hpl⟩
end
end L3
namespace L3
open PySem PySem.Spec PyProof.Rows L2 SeqAt
section
variable {X:Cx} {xw:XW} {pos p p2 apos cpos:Pos} {tg a b c e o ie:Expr} {es:List Expr} {f fi fa fb:DSt→Res D} {fs:DSt→Res (List D)}
def setJ (i:Nat) (δ:DSt) (ds:List D) (d ix:D):Out:=match ix with
 | .int k=>match ixN ds.length k with
  |some j=> .nx (δ.set i (some (.o (ds.set j d))))
  |none=> .stuck
 |_=> .stuck
def setO (i:Nat) (fi:DSt→Res D) (δ:DSt) (d:D):Out:=match δ[i]? with
 |some (some (.o ds))=>ofR (fi δ) (setJ i δ ds d)
 |_=> .stuck
def sSetI (i:Nat) (fi f:DSt→Res D):DSt→Out:=fun δ=>ofR (f δ) (setO i fi δ)
end
end L3
namespace L3
open PySem PySem.Spec PyProof.Rows L2 SeqAt
theorem Bz3B:∀ {ns:List Int} {us:List Value},Vals (ns.map V.int) us→IntsAre us ns
 | [],_, .nil=> .nil
 |n::ns,_, .cons ⟨t,h⟩ r=>by rw [h];exact .cons n t (Bz3B r)
section
variable {X:Cx} {xw:XW} {pos p:Pos} {a:Expr} {fa:DSt→Res D}
theorem Az5E {K:PySem.W.Frag} {W:WS} {H:Hp}:∀ {ds:List D} {ns:List Int} {vs:List V},intsOf ds=some ns→HasL K W H ds vs→vs=ns.map V.int
 | [],ns,vs,h,r=>by cases h;rw [HasL] at r;exact r
 |d::ds,ns,vs,h,r=>by
  cases d with
  |int x=>
   obtain ⟨ys,h1,rfl⟩:=Option.map_eq_some_iff.mp (show (intsOf ds).map (x:: ·)=some ns from h)
   rw [HasL] at r
   obtain ⟨v,q,rfl,hv,hq⟩:=r
   rw [Has] at hv
   rw [hv,Az5E h1 hq];rfl
  |_=>cases h
end
end L3
namespace HT
open PySem PyProof.Rows
section
open PySem.SeqAt
open PySem.AutoSeq1 (wpAny_loadPart')
open PySem.MeetsSeq PySem.MeetsSeq2 PySem.MeetsSeq3
end
section
variable {prog:Program} {w:World} {A:Around} {E:Value→Shared→Prop} {s:Shared}
end
end HT
namespace L3
open PySem PySem.Spec PyProof.Rows L2 SeqAt
section
variable {X:Cx} {xw:XW}
end
end L3
namespace L3
open PySem
def Rise (xs:Array Nat):Prop:=xs.toList.Pairwise (fun a b=>a<b)
theorem Rise.lt {xs:Array Nat} (r:Rise xs) {i j:Nat} {a b:Nat} (h:i<j) (ha:xs[i]? =some a) (hb:xs[j]? =some b):a<b:=by
 unfold Rise at r;rw [List.pairwise_iff_getElem] at r
 rw [←Array.getElem?_toList] at ha hb
 obtain ⟨p,e⟩:=List.getElem?_eq_some_iff.mp ha
 obtain ⟨q,f⟩:=List.getElem?_eq_some_iff.mp hb
 have z:=r i j p q h
 rw [e,f] at z;exact z
def Parts (xs:Array Nat) (j p:Nat):Prop:=p≤xs.size∧(∀ i a,i<p→xs[i]? =some a→a<j)∧∀ i a,p≤i→xs[i]? =some a→j≤a
theorem Bz5Y {xs:Array Nat} (r:Rise xs) (j:Nat):∀ (n lo hi:Nat),hi-lo≤n→lo≤hi→hi≤xs.size→(∀ i a,i<lo→xs[i]? =some a→a<j)→(∀ i a,hi≤i→xs[i]? =some a→j≤a)→
  Parts xs j (SetTable.below.go xs j n lo hi):=by
 intro n
 induction n with
 |zero=>
  intro lo hi h1 h2 h3 h4 h5
  have:lo=hi:=by omega
  subst this
  exact ⟨h3,h4,h5⟩
 |succ n ih=>
  intro lo hi h1 h2 h3 h4 h5
  unfold SetTable.below.go
  by_cases hl:lo<hi
  ·rw [if_pos hl];dsimp only
   have hm:(lo+hi) / 2<xs.size:=by omega
   have hg:xs[(lo+hi) / 2]? =some xs[(lo+hi) / 2]:=Array.getElem?_eq_getElem hm
   have hd:xs.getD ((lo+hi) / 2) j=xs[(lo+hi) / 2]:=by simp [Array.getD,hm]
   rw [hd]
   by_cases hc:xs[(lo+hi) / 2]<j
   ·rw [if_pos hc]
    refine ih _ _ (by omega) (by omega) h3 (fun i a hi' ha=> ?_) h5
    rcases Nat.lt_or_ge i ((lo+hi) / 2) with q|q
    ·exact Nat.lt_trans (r.lt q ha hg) hc
    ·have:i=(lo+hi) / 2:=by omega
     subst this;rw [hg] at ha;cases ha;exact hc
   ·rw [if_neg hc]
    refine ih _ _ (by omega) (by omega) (by omega) h4 (fun i a hi' ha=> ?_)
    rcases Nat.lt_or_ge ((lo+hi) / 2) i with q|q
    ·exact Nat.le_trans (Nat.le_of_not_lt hc) (Nat.le_of_lt (r.lt q hg ha))
    ·have:i=(lo+hi) / 2:=by omega
     subst this;rw [hg] at ha;cases ha;exact Nat.le_of_not_lt hc
  ·rw [if_neg hl]
   have:lo=hi:=by omega
   subst this
   exact ⟨h3,h4,h5⟩
theorem Bz9I {xs:Array Nat} (r:Rise xs) (j:Nat):Parts xs j (SetTable.below xs j):=
 Bz5Y r j xs.size 0 xs.size (by omega) (Nat.zero_le _) (Nat.le_refl _) (fun _ _ h=>absurd h (Nat.not_lt_zero _)) fun i a h e=>by
  have:=(Array.getElem?_eq_some_iff.mp e).1;omega
theorem Bz5V {xs:Array Nat} (r:Rise xs) {j:Nat} (hj:xs[SetTable.below xs j]? ≠some j):Rise (SetTable.insertAt xs (SetTable.below xs j) j):=by
 obtain ⟨h1,h2,h3⟩:=Bz9I r j
 generalize SetTable.below xs j=p at*
 have strict:∀ i a,p≤i→xs[i]? =some a→j<a:=fun i a hi ha=>by
  rcases Nat.lt_or_ge j a with q|q
  ·exact q
  ·have e:a=j:=Nat.le_antisymm q (h3 i a hi ha)
   subst e
   rcases Nat.eq_or_lt_of_le hi with z|z
   ·subst z;exact absurd ha hj
   ·have hp:p<xs.size:=Nat.lt_trans z (Array.getElem?_eq_some_iff.mp ha).1
    have hg:xs[p]? =some xs[p]:=Array.getElem?_eq_getElem hp
    have:=r.lt z hg ha
    have:=h3 p _ (Nat.le_refl _) hg
    omega
 unfold Rise at r ⊢
 rw [SetTable.toList_insertAt,List.pairwise_append]
 refine ⟨List.Pairwise.sublist (List.take_sublist _ _) r,List.pairwise_cons.mpr ⟨fun b hb=> ?_,List.Pairwise.sublist (List.drop_sublist _ _) r⟩,fun a ha b hb=> ?_⟩
 ·obtain ⟨i,hi,e⟩:=List.mem_iff_getElem.mp hb
  rw [List.getElem_drop] at e
  refine strict (p+i) b (Nat.le_add_right _ _) ?_
  rw [←Array.getElem?_toList,←e];exact List.getElem?_eq_getElem _
 ·have hlt:a<j:=by
   obtain ⟨i,hi,e⟩:=List.mem_iff_getElem.mp ha
   rw [List.getElem_take] at e
   have hi':i<p:=by rw [List.length_take] at hi;omega
   refine h2 i a hi' ?_
   rw [←Array.getElem?_toList,←e];exact List.getElem?_eq_getElem _
  rcases List.mem_cons.mp hb with rfl|hb
  ·exact hlt
  ·obtain ⟨i,hi,e⟩:=List.mem_iff_getElem.mp hb
   rw [List.getElem_drop] at e
   refine Nat.lt_trans hlt (strict (p+i) b (Nat.le_add_right _ _) ?_)
   rw [←Array.getElem?_toList,←e];exact List.getElem?_eq_getElem _
structure TOk (txt:Bool) (t:SetTable):Prop where
 led:t.led= !txt
 ok:t.plain=true→Rise t.place∧t.dummies= #[]
theorem Az6C {txt:Bool} {t:SetTable} (h:TOk txt t) (n:Nat):TOk txt (t.standIn n):=⟨h.led,fun e=>by cases e⟩
theorem Bz2N {txt:Bool} {t:SetTable} (h:TOk txt t) (n:Nat):TOk txt (t.orStandIn n):=by
 unfold SetTable.orStandIn;split
 ·exact h
 ·exact Az6C h n
theorem Bz8L (j:Nat):SetTable.has #[] j=false:=by simp [SetTable.has]
theorem Bz7E {t:SetTable} (hd:t.dummies= #[]) (h:Int) {j:Nat} {d:Option Nat}:∀ (n:Nat) (p:SetTable.Probe),p.dummy=none→SetTable.probe.go t (fun _=>h+1) h n p=some (.empty j d)→t.slot j= .empty∧d=none:=by
 intro n
 induction n with
 |zero=>intro p _ e;cases e
 |succ n ih=>
  intro p hp e
  unfold SetTable.probe.go at e
  split at e
  ·rename_i hs
   cases e;exact ⟨hs,hp⟩
  ·rename_i hs
   unfold SetTable.slot at hs;dsimp only at hs
   split at hs
   ·cases hs
   ·rw [hd,Bz8L] at hs;simp at hs
  ·rw [if_neg (by simp;omega)] at e
   refine ih _ ?_ e
   unfold SetTable.advance
   split
   ·exact hp
   ·exact hp
theorem put_ok {txt:Bool} {t:SetTable} (k:TOk txt t) {h:Int} {j:Nat} {b:Bool} (e:t.freeSlot h=some (j,b)):TOk txt (t.put j).1:=by
 refine ⟨k.led,fun hp=> ?_⟩
 obtain ⟨r,d⟩:=k.ok hp
 unfold SetTable.freeSlot at e
 split at e
 ·rename_i j' d' e'
  obtain ⟨z1,z2⟩:=Bz7E d h _ _ rfl e'
  subst z2
  cases e
  show Rise (SetTable.insertAt t.place (SetTable.below t.place j') j')∧(if SetTable.has t.dummies j'=true then _ else t.dummies)= #[]
  refine ⟨Bz5V r fun q=> ?_,?_⟩
  ·unfold SetTable.slot at z1;dsimp only at z1
   rw [if_pos (by rw [q];simp)] at z1;cases z1
  ·rw [d,Bz8L];rfl
 ·cases e
theorem Cz0Y {txt:Bool} {t:SetTable} (k:TOk txt t) (es:Array (Int×Value)) (h:Int) (x:Value):TOk txt (layNew t es h x).2.1:=by
 unfold layNew
 split
 ·rename_i j b e
  exact Bz2N (put_ok k e) _
 ·exact Az6C k _
theorem Cz8O {m f v:Nat} {l p:Bool} {hs:Array Int} {t:SetTable} {o:Array Nat} (e:SetTable.laid m f v l p hs=some (t,o)):t.led=l∧t.plain=p∧Rise t.place∧t.dummies= #[]:=by
 unfold SetTable.laid at e
 cases hc:SetTable.layClean m hs with
 |none=>rw [hc] at e;cases e
 |some ow=>
  rw [hc] at e
  cases e
  refine ⟨rfl,rfl,?_,rfl⟩
  show List.Pairwise _ (List.map _ (List.filterMap _ (List.range (m+1)))).toArray.toList
  rw [List.toList_toArray,List.map_filterMap]
  refine List.Pairwise.filterMap _ (R:=fun a b=>a<b) ?_ List.pairwise_lt_range
  intro a a' h b hb b' hb'
  cases h1:ow.getD a none with
  |none=>rw [h1] at hb;cases hb
  |some z=>
   cases h2:ow.getD a' none with
   |none=>rw [h2] at hb';cases hb'
   |some z'=>rw [h1] at hb;rw [h2] at hb';cases hb;cases hb';exact h
theorem Cz3X {txt:Bool} {t:SetTable} (k:TOk txt t) (es:Array (Int×Value)) (n:Nat):TOk txt (relayAll t es n).2.1:=by
 unfold relayAll
 split
 ·rename_i t' o e
  dsimp only
  split
  ·obtain ⟨a1,a2,a3,a4⟩:=Cz8O (show SetTable.laid _ _ _ _ _ _=_ from e)
   exact ⟨a1.trans k.led,fun _=>⟨a3,a4⟩⟩
  ·exact Az6C k _
 ·exact Az6C k _
theorem pulled {α:Type}:∀ (l:List α) (i:Nat) (h:i<l.length),(l[i]::l.eraseIdx i).Perm l
 | [],_,h=>absurd h (Nat.not_lt_zero _)
 |a::l,0,_=>List.Perm.refl _
 |a::l,i+1,h=>by
  have hi:i<l.length:=by simpa using h
  rw [List.getElem_cons_succ,List.eraseIdx_cons_succ]
  exact (List.Perm.swap a _ _).trans (List.Perm.cons a (pulled l i hi))
theorem picked {α:Type} (next:Nat→Nat):∀ (n k:Nat) (left:List α) (out:Array α),n=left.length→(pickOrder.go next n k left out).toList.Perm (out.toList++left):=by
 intro n
 induction n with
 |zero=>intro k left out e;have:left= []:=List.length_eq_zero_iff.mp e.symm;subst this;unfold pickOrder.go;simp
 |succ n ih=>
  intro k left out e
  have hl:next k%left.length<left.length:=Nat.mod_lt _ (by omega)
  unfold pickOrder.go
  rw [List.getElem?_eq_getElem hl]
  dsimp only
  refine (ih _ _ _ (by rw [List.length_eraseIdx_of_lt hl];omega)).trans ?_
  rw [Array.toList_push,List.append_assoc]
  exact List.Perm.append_left _ (by simpa using pulled left _ hl)
theorem Az9P {α:Type} (next:Nat→Nat) (xs:Array α):(pickOrder next xs).toList.Perm xs.toList:=by
 unfold pickOrder;simpa using picked next xs.size 0 xs.toList #[] (by simp)
end L3
namespace L3
open PySem
def nv:Value→Int
 | .int n _=>n
 |_=>0
def ddp (σ:List Int) (k:Int):List Int:=if k∈σ then σ else σ++ [k]
section
variable {prog:Program} {w:World} {A:Around} {E:Value→Shared→Prop} {s:Shared}
def SI (prog:Program) (w:World) (h:Heap) (a:Addr) (σ:List Int):Prop:=
 ∃ o es ep t,h.get? a=some o∧o.ExactSet∧o.data= .set es ep t∧ElemsOf (intKind prog w) es.toList∧(es.toList.map fun e=>nv e.2).Perm σ∧es.size<scanBound∧t.fits es.size=true∧TOk (w.params.followText "set-order") t
theorem SI.at' {h h':Heap} {a:Addr} {σ:List Int} (x:SI prog w h a σ) (k:∀ o,h.get? a=some o→h'.get? a=some o):SI prog w h' a σ:=by
 obtain ⟨o,es,ep,t,ho,r⟩:=x;exact ⟨o,es,ep,t,k o ho,r⟩
theorem is_nv {k:Int} {v:Value} (h:(intKind prog w).is k v=true):nv v=k:=by
 obtain ⟨t,rfl⟩:=Value.isInt_shape (show Value.isInt k v=true from h);rfl
theorem is_int (k:Int) (t:Tok):(intKind prog w).is k (.int k t)=true:=by
 show Value.isInt k (.int k t)=true;simp [Value.isInt]
theorem Bz6T {h:Heap} {a:Addr} {o:Obj} {es es':Array (Int×Value)} {ep:Nat} {t t':SetTable} {σ:List Int} (ho:h.get? a=some o) (hex:o.ExactSet) (hd:o.data= .set es ep t)
  (hel:ElemsOf (intKind prog w) es'.toList) (hp:(es'.toList.map fun e=>nv e.2).Perm σ) (hb:es'.size<scanBound) (hf:t'.fits es'.size=true) (ht:TOk (w.params.followText "set-order") t'):
  (h.update a (Obj.putSet es' t')).get? a=some {o with data:= .set es' (ep+1) t'}∧SI prog w (h.update a (Obj.putSet es' t')) a σ:=by
 have hg:=Heap.get?_update_self (Obj.putSet es' t') ho (by rw [putSet_of es' t' hd];rfl)
 rw [putSet_of es' t' hd] at hg
 exact ⟨hg,{o with data:= .set es' (ep+1) t'},es',ep+1,t',hg,hex,rfl,hel,hp,hb,hf,ht⟩
theorem Cz2G {g:Bool→Sem Unit} (hg:∀ (b:Bool) (s₁:Shared) (Q':Unit→Shared→Prop),Q' () s₁→wpAny (model prog w) A (g b) Q' E s₁) {a:Addr} {o:Obj} {es es1:Array (Int×Value)} {ep:Nat} {t t2:SetTable} {σ:List Int}
  (ho:s.heap.get? a=some o) (hex:o.ExactSet) (hd:o.data= .set es ep t) (hel:ElemsOf (intKind prog w) es1.toList) (hp:(es1.toList.map fun e=>nv e.2).Perm σ) (hb:es1.size<scanBound) (hf:t2.fits es1.size=true)
  (ht:TOk (w.params.followText "set-order") t2) {wd:Bool} {R:Option Bool→Shared→Prop} (h:∀ h',Heap.SameBut a s.heap h'→SI prog w h' a σ→R (some true) {s with heap:=h'}):
  wpAny (model prog w) A (storeSet a es1 t2 >>= fun _=>if (!wd&&t2.tooFull)=true then (g (relayAll t2 es1 (SetTable.grown es1.size)).2.2 >>= fun _=>
   storeSet a (relayAll t2 es1 (SetTable.grown es1.size)).1 (relayAll t2 es1 (SetTable.grown es1.size)).2.1 >>= fun _=>pure (some true)) else pure (some true)) R E s:=by
 obtain ⟨ho1,hS1⟩:=Bz6T (prog:=prog) (w:=w) ho hex hd hel hp hb hf ht
 have sb:=Heap.SameBut.update s.heap a (Obj.putSet es1 t2)
 refine wpAny_bind (wpAny_storeSet_of ho hd (wpAny_ite_split (fun _=> ?_) fun _=>wpAny_pure (h _ sb hS1)) (fits_of_scanBound hb))
 have pp:=relayAll_perm t2 es1 (SetTable.grown es1.size)
 have ff:=relayAll_fits t2 es1 (SetTable.grown es1.size)
 have kk:=Cz3X ht es1 (SetTable.grown es1.size)
 generalize relayAll t2 es1 (SetTable.grown es1.size)=R' at pp ff kk ⊢
 obtain ⟨es2,t3,g2⟩:=R'
 dsimp only at pp ff kk ⊢
 have hz:es2.size=es1.size:=by rw [←Array.length_toList,pp.length_eq,Array.length_toList]
 have hb2:es2.size<scanBound:=by rw [hz];exact hb
 refine wpAny_bind (hg _ _ _ (wpAny_bind (wpAny_storeSet_of ho1 rfl (wpAny_pure ?_) (fits_of_scanBound hb2))))
 exact h _ (sb.trans (Heap.SameBut.update _ a _)) (Bz6T (prog:=prog) (w:=w) ho1 hex rfl (hel.perm pp) ((pp.map _).trans hp) hb2 ff kk).2
theorem si_add {a:Addr} {σ:List Int} {k:Int} {u:Tok} {Q:Bool→Shared→Prop} (hS:SI prog w s.heap a σ) (room:σ.length+1<scanBound)
  (h:∀ h' b,Heap.SameBut a s.heap h'→SI prog w h' a (ddp σ k)→Q b {s with heap:=h'}):wpAny (model prog w) A (setAddHashed a (.int k u) (hashInt k)) Q E s:=by
 obtain ⟨o,es,ep,t,ho,hex,hd,hel,hp,hb,hf,ht⟩:=hS
 have hl:es.size=σ.length:=by rw [←hp.length_eq,List.length_map,Array.length_toList]
 have hk:(intKind prog w).is k (.int k u)=true:=is_int k u
 unfold setAddHashed setAddHashedIn
 refine wpAny_holding (wpAny_bind (wpAny_setState_of ho hd hf ?_));dsimp only
 rw [byScan_of (knd:=intKind prog w) rfl hb hel,if_pos rfl]
 unfold setAddByScan
 refine wpAny_bind (wpAny_bind (wpAny_rule (wpAny_bind (wpAny_setScan_of (knd:=intKind prog w) hk ho hd hf hel ?_))))
 cases hr:List.findIdx? (fun e=>(intKind prog w).is k e.2) es.toList with
 |some j=>
  obtain ⟨hj,hpj,_⟩:=List.findIdx?_eq_some_iff_getElem.mp hr
  have hm:k∈σ:=hp.mem_iff.mp (List.mem_map.mpr ⟨es.toList[j],List.getElem_mem hj,is_nv hpj⟩)
  refine wpAny_pure (wpAny_pure (h s.heap _ (Heap.SameBut.refl a s.heap) ?_))
  rw [ddp,if_pos hm];exact ⟨o,es,ep,t,ho,hex,hd,hel,hp,hb,hf,ht⟩
 |none=>
  have hm:k∉σ:=fun z=>by
   obtain ⟨e,he,q⟩:=List.mem_map.mp (hp.mem_iff.mpr z)
   obtain ⟨⟨k',hk',_⟩,_⟩:=hel e he
   have:k'=k:=(is_nv hk').symm.trans q
   subst this
   have:=List.findIdx?_eq_none_iff.mp hr e he
   rw [hk'] at this;cases this
  have pp:=layNew_perm t es (hashInt k) (.int k u)
  have ff:=layNew_fits t es (hashInt k) (.int k u)
  have kk:=Cz0Y ht es (hashInt k) (.int k u)
  dsimp only
  generalize layNew t es (hashInt k) (.int k u)=L at pp ff kk ⊢
  obtain ⟨es1,t1,wd,gv⟩:=L
  dsimp only at pp ff kk ⊢
  rw [Array.toList_push] at pp
  have hp1:(es1.toList.map fun e=>nv e.2).Perm (ddp σ k):=by
   rw [ddp,if_neg hm]
   refine (pp.map _).trans ?_
   rw [List.map_append]
   exact hp.append_right _
  have hz:es1.size<scanBound:=by rw [←Array.length_toList,pp.length_eq,List.length_append,Array.length_toList,hl];exact room
  have gw:∀ (b:Bool) (s₁:Shared) (Q':Unit→Shared→Prop),Q' () s₁→wpAny (model prog w) A (match b with|true=>rule "set.scan.the-table-gave-way"|false=>(pure ():Sem Unit)) Q' E s₁:=fun b s₁ Q' q=>by
   cases b
   ·exact wpAny_pure q
   ·exact wpAny_rule q
  refine wpAny_bind (gw gv _ _ ?_)
  have fin:∀ h',Heap.SameBut a s.heap h'→SI prog w h' a (ddp σ k)→wpAny (model prog w) A (pure true) Q E {s with heap:=h'}:=fun h' q1 q2=>wpAny_pure (h h' true q1 q2)
  refine wpAny_ite_split (fun hpl=> ?_) (fun hpl=> ?_)
  ·refine wpAny_bind ?_
   rw [hashByValue_scannable 8 (show (Value.int k u).scannable=true from rfl)]
   refine wpAny_pure ?_
   exact Cz2G gw ho hex hd ((hel.push hk rfl).perm pp) hp1 hz ff kk fin
  ·refine wpAny_bind (wpAny_pure ?_)
   exact Cz2G gw ho hex hd ((hel.push hk rfl).perm pp) hp1 hz ff kk fin
end
end L3
namespace L3
open PySem
namespace F
theorem slot_si_next:Slot "set_iterator" "__next__" "set_iterator.__next__":=
 .of (owner:="set_iterator") (n:="__next__") (by rw [typeLookup_type,builtinLookup_eq_fast];kernel_rfl) (by decide +kernel) (by decide +kernel) (by decide +kernel) (by first|exact .inl (by decide +kernel)|exact .inr (by decide +kernel)) (by rw [isSubtype_type];kernel_rfl)
theorem entry_si_next:entryFor table "set_iterator.__next__"=some Builtin.«set_iterator.__next__» :=entryFor_of_fast (by kernel_rfl)
theorem args_si_next (a:Value):argsOk "set_iterator.__next__" ⟨[a],[]⟩:=by unfold argsOk;kernel_rfl
theorem entry_set_iter:entryFor table "set.__iter__"=some Builtin.«frozenset.__iter__» :=entryFor_alias (id':="frozenset.__iter__") (by kernel_rfl) rfl (by decide +kernel) (by kernel_rfl)
end F
abbrev IsSIt (h:Heap) (I:Addr) (first:Value) (i:Nat) (S:Addr) (n ep:Nat):Prop:=
 h.get? I=some {cls:= .type "set_iterator",dict:=none,data:= .fields #[first,rawInt i, .ref S,rawInt n,rawInt ep],slots:= #[]}
section
variable {prog:Program} {w:World} {A:Around} {E:Value→Shared→Prop} {s:Shared} {S I:Addr} {o:Obj} {es:Array (Int×Value)} {ep:Nat} {t:SetTable}
theorem Dz0E {src:Source} {n:Nat} {Q:Nat→Shared→Prop} (hn:n≠0) (h:∀ k d,k<n→Q k {s with drawn:=d}):wpAny (model prog w) A (choose src n) Q E s:=fun Γ p hΓ=>by
 unfold choose
 rw [Sem.wp_choose]
 exact ⟨hn,by rw [Sem.wp_pure];exact h _ _ (Nat.mod_lt _ (Nat.pos_of_ne_zero hn))⟩
theorem Bz1K {α:Type}:∀ (n:Nat) (xs:List α) (s:Shared) {Q:List α→Shared→Prop},n=xs.length→(∀ ys d,ys.Perm xs→Q ys {s with drawn:=d})→wpAny (model prog w) A (drawOrder n xs) Q E s
 |0,xs,s,Q,e,h=>by
  have:xs= []:=List.length_eq_zero_iff.mp e.symm
  subst this
  unfold drawOrder
  exact wpAny_pure (h [] s.drawn (List.Perm.refl _))
 |n+1,[],s,Q,e,h=>by simp at e
 |n+1,x::xs,s,Q,e,h=>by
  unfold drawOrder
  refine wpAny_bind (Dz0E (by simp) fun k d hk=> ?_)
  rw [List.getElem?_eq_getElem hk]
  dsimp only
  refine wpAny_bind (Bz1K n _ _ (by rw [List.length_eraseIdx_of_lt hk];omega) fun ys d' hp=>wpAny_pure ?_)
  exact h _ d' ((List.Perm.cons _ hp).trans (pulled _ _ hk))
theorem Bz4Q {b:Bool} {Q:Bool→Shared→Prop} (e:w.params.followText "set-order"=b) (h:Q b s):wpAny (model prog w) A setsByText Q E s:=by
 unfold setsByText
 refine wpAny_bind (wpAny_askSetting (wpAny_pure ?_))
 show Q (w.params.followText "set-order") s
 rw [e];exact h
theorem Bz2E {slot given:Nat} {Q:Option (Value×Nat)→Shared→Prop} (bt:w.params.followText "set-order"=true) (ho:s.heap.get? S=some o) (hd:o.data= .set es ep t) (hf:t.fits es.size=true)
  (h:Q (((pickOrder (w.params.setOrder S ep) es)[given]?).map fun e=>(e.2,slot)) s):wpAny (model prog w) A (setNext S slot given ep) Q E s:=by
 unfold setNext
 refine wpAny_bind (wpAny_setState_of ho hd hf ?_);dsimp only
 refine wpAny_bind (Bz4Q bt ?_)
 rw [if_pos rfl]
 rw [if_neg (by simp)]
 refine wpAny_bind ?_
 unfold setWalk
 refine wpAny_bind (wpAny_setState_of ho hd hf ?_);dsimp only
 refine wpAny_bind (Bz4Q bt ?_)
 rw [if_pos rfl]
 exact wpAny_bind (wpAny_askSetting (wpAny_pure (wpAny_pure h)))
theorem Bz0Q {slot given:Nat} {Q:Option (Value×Nat)→Shared→Prop} (bt:w.params.followText "set-order"=false) (ho:s.heap.get? S=some o) (hd:o.data= .set es ep t) (hf:t.fits es.size=true)
  (hl:t.led=true) (hp:t.plain=true∨es.size≤1) (h:Q (match es[SetTable.below t.place slot]?,t.place[SetTable.below t.place slot]? with|some (_,x),some j=>some (x,j+1)|_,_=>none) s):
  wpAny (model prog w) A (setNext S slot given ep) Q E s:=by
 unfold setNext
 refine wpAny_bind (wpAny_setState_of ho hd hf ?_);dsimp only
 refine wpAny_bind (Bz4Q bt ?_)
 rw [if_neg (by simp)]
 refine wpAny_ite_split (fun hc=> ?_) (fun _=> ?_)
 ·have hc':(!t.plain&&decide (es.size>1))=true:=hc
  rcases hp with q|q
  ·rw [q] at hc';cases hc'
  ·rw [show decide (es.size>1)=false from decide_eq_false (by omega),Bool.and_false] at hc';cases hc'
 ·refine wpAny_bind ?_
  refine wpAny_ite_split (fun hc=> ?_) (fun _=>wpAny_pure (wpAny_pure h))
  have hc':(!t.led&& !es.isEmpty)=true:=hc
  rw [hl] at hc';cases hc'
theorem Bz7U {sl:Nat} {i:Nat} {Q:Fin→Shared→Prop} (hi:IsSIt s.heap I (rawInt sl) i S es.size ep) (ho:s.heap.get? S=some o) (hd:o.data= .set es ep t) (hf:t.fits es.size=true)
  (h:wpAny (model prog w) A (setNext S sl i ep >>= fun r=>match r with
    |some (x,next)=>setField (.ref I) 0 (rawInt next) >>= fun _=>setField (.ref I) 1 (rawInt ((i:Int)+1)) >>= fun _=>ret x
    |none=>setField (.ref I) 2 .none >>= fun _=>newExc (.type "StopIteration") [] >>= fun e=>raiseNew e) Q E s):wpAny (model prog w) A (Builtin.«set_iterator.__next__» ⟨[.ref I],[]⟩) Q E s:=by
 unfold Builtin.«set_iterator.__next__»
 show wpAny _ _ (fieldsOf (.ref I) >>= _) _ _ s
 refine wpAny_bind (wpAny_fieldsOf hi rfl ?_)
 show wpAny _ _ (setEntries S >>= _) _ _ s
 refine wpAny_bind (wpAny_setEntries_of ho hd hf ?_)
 refine wpAny_ite_split (fun hc=>absurd hc (by simp)) (fun _=> ?_)
 exact h
theorem Bz7T {T:Addr} {i:Nat} {Q:Fin→Shared→Prop} (hi:IsSIt s.heap I (.ref T) i S es.size ep) (ho:s.heap.get? S=some o) (hd:o.data= .set es ep t) (hf:t.fits es.size=true) {ps:Array Value} (hT:s.heap.get? T=some {cls:= .type "tuple",data:= .seq ps})
  (h:wpAny (model prog w) A (match ps[i]? with
     |some (.int place _)=>setNextDrawn S place.toNat ep >>= fun x=>setField (.ref I) 1 (rawInt ((i:Int)+1)) >>= fun _=>ret x
     |some _=>unsupported "internal:set_iterator"
     |none=>setField (.ref I) 0 (rawInt 0) >>= fun _=>setField (.ref I) 2 .none >>= fun _=>newExc (.type "StopIteration") [] >>= fun e=>raiseNew e) Q E s):wpAny (model prog w) A (Builtin.«set_iterator.__next__» ⟨[.ref I],[]⟩) Q E s:=by
 unfold Builtin.«set_iterator.__next__»
 show wpAny _ _ (fieldsOf (.ref I) >>= _) _ _ s
 refine wpAny_bind (wpAny_fieldsOf hi rfl ?_)
 show wpAny _ _ (setEntries S >>= _) _ _ s
 refine wpAny_bind (wpAny_setEntries_of ho hd hf ?_)
 refine wpAny_ite_split (fun hc=>absurd hc (by simp)) (fun _=> ?_)
 show wpAny _ _ (seqItems? (.ref T) >>= _) _ _ _
 refine wpAny_bind (wpAny_seqItems hT rfl ?_)
 dsimp only
 simp only [Int.toNat_natCast]
 exact h
end
end L3
namespace L3
open PySem
namespace F
theorem slot_si_iter:Slot "set_iterator" "__iter__" "set_iterator.__iter__":=
 .of (owner:="set_iterator") (n:="__iter__") (by rw [typeLookup_type,builtinLookup_eq_fast];kernel_rfl) (by decide +kernel) (by decide +kernel) (by decide +kernel) (by first|exact .inl (by decide +kernel)|exact .inr (by decide +kernel)) (by rw [isSubtype_type];kernel_rfl)
theorem entry_si_iter:entryFor table "set_iterator.__iter__"=some Builtin.«dict_keyiterator.__iter__» :=entryFor_alias (id':="dict_keyiterator.__iter__") (by kernel_rfl) rfl (by decide +kernel) (by kernel_rfl)
theorem args_si_iter (a:Value):argsOk "set_iterator.__iter__" ⟨[a],[]⟩:=by unfold argsOk;kernel_rfl
end F
section
variable {prog:Program} {w:World} {A:Around} {E:Value→Shared→Prop} {s:Shared} {S I T:Addr} {o:Obj} {es:Array (Int×Value)} {ep:Nat} {t:SetTable} {first:Value} {i:Nat}
theorem Cz2H {n:Nat} {Q:Value→Shared→Prop} (hi:IsSIt s.heap I first i S n ep) (h:Q (.ref I) s):wpAny (model prog w) A (pyIter (.ref I)) Q E s:=
 wpAny_pyIter_slot ⟨_,hi,rfl⟩ F.slot_si_iter (wpAny_call_entry F.slot_si_iter ⟨_,hi,rfl⟩ F.entry_si_iter (wpAny_pure ⟨_,rfl,"set_iterator",_,⟨_,hi,rfl⟩,F.slot_si_next.lookup,h⟩) (F.args_si_iter _))
theorem Bz3O {n:Nat} {Q:Option Value→Shared→Prop} (hi:IsSIt s.heap I first i S n ep)
  (h:wpAny (model prog w) A.in1 (Builtin.«set_iterator.__next__» ⟨[.ref I],[]⟩) (fun f s'=>∃ v,f= .done (.ret v)∧Q (some v) s') (fun e s'=>(∃ a o,e= .ref a∧s'.heap.get? a=some o∧o.cls= .type "StopIteration")∧Q none s') s):
  wpAny (model prog w) A (pyNext (.ref I)) Q E s:=by
 unfold pyNext
 refine wpAny_bind (wpAny_attempt (wpAny_callSpecial?_slot (name:=Str.ofString "__next__") ⟨_,hi,rfl⟩ F.slot_si_next (wpAny_call_entry F.slot_si_next ⟨_,hi,rfl⟩ F.entry_si_next (wpAny_mono h (fun f s' z=> ?_) fun e s' z=> ?_) (F.args_si_next _))))
 ·obtain ⟨v,rfl,q⟩:=z
  exact ⟨v,rfl,wpAny_pure q⟩
 ·obtain ⟨⟨a,oe,rfl,ho,hc⟩,q⟩:=z
  exact wpAny_bind (wpAny_isInstance (T:="StopIteration") (b:=true) ⟨oe,ho,hc⟩ isSubtype_stop (wpAny_pure q))
theorem stop_ {Q:Fin→Shared→Prop} (hh:A.handled=none) (h:∀ h' e,(∀ b o,s.heap.get? b=some o→h'.get? b=some o)→(∃ o,h'.get? e=some o∧o.cls= .type "StopIteration")→E (.ref e) {s with heap:=h'}):
  wpAny (model prog w) A (newExc (.type "StopIteration") [] >>= fun e=>raiseNew e) Q E s:=by
 refine wpAny_bind ?_;simp only [newExc,newTuple]
 refine wpAny_bind (wpAny_newObj_type ?_ (by size_fits));refine wpAny_bind (m:=firstArgMember _ _) (wpAny_of_eq (a:=Value.none) (by first|rfl|(simp only [firstArgMember];rfl)) ?_)
 refine wpAny_newObj_type ?_ (by size_fits);simp only [raiseNew]
 refine wpAny_bind (wpAny_handled ?_);rw [hh]
 exact wpAny_bind (wpAny_pure (wpAny_throw (h _ _ (fun b o e=>Heap.get?_push_of_some _ (Heap.get?_push_of_some _ e)) ⟨_,Heap.get?_push_size _ rfl,rfl⟩)))
theorem Bz0I (hh:A.handled=none) (hne:S≠I) (ord:List Value) (hlen:ord.length=es.size) (sl:Nat→Nat) (hd:o.data= .set es ep t) (hf:t.fits es.size=true)
  (hN:∀ (A':Around) i (s:Shared) (Q:Option (Value×Nat)→Shared→Prop) (E:Value→Shared→Prop),i≤es.size→s.heap.get? S=some o→Q (ord[i]?.map fun x=>(x,sl (i+1))) s→wpAny (model prog w) A' (setNext S (sl i) i ep) Q E s):
  Walks prog w A I [I,S] [I] es.size (fun i v=>ord[i]? =some v) (fun i h=>IsSIt h I (rawInt (sl i)) i S es.size ep∧h.get? S=some o) where
 sub:=fun b hb=>by simp at hb;simp [hb]
 frame:=fun _ _ _ st hk=>⟨hk I (by simp) _ st.1,hk S (by simp) _ st.2⟩
 item:=fun i s Q E hi st hQ=>by
  refine Bz3O st.1 (Bz7U st.1 st.2 hd hf ?_)
  refine wpAny_bind (hN _ i s _ _ (Nat.le_of_lt hi) st.2 ?_)
  have hx:ord[i]? =some (ord[i]'(by omega)):=List.getElem?_eq_getElem (by omega)
  rw [hx]
  show wpAny _ _ (setField (.ref I) 0 (rawInt (sl (i+1))) >>= _) _ _ _
  refine wpAny_bind (wpAny_setField_rec st.1 (by simp) fun h1 a1 c1=> ?_)
  refine wpAny_bind (wpAny_setField_rec (s:= {s with heap:=h1}) a1 (by simp) fun h2 a2 c2=> ?_)
  refine wpAny_pure ⟨_,rfl,hQ _ h2 s.toks hx ⟨?_,?_⟩ fun b ob hb e=> ?_⟩
  ·show h2.get? I=_
   rw [a2];rfl
  ·exact c2.extBut _ _ hne (c1.extBut _ _ hne st.2)
  ·have hb':b≠I:=fun z=>hb (by simp [z])
   exact c2.extBut _ _ hb' (c1.extBut _ _ hb' e)
 done:=fun s Q E st hQ=>by
  refine Bz3O st.1 (Bz7U st.1 st.2 hd hf ?_)
  refine wpAny_bind (hN _ _ s _ _ (Nat.le_refl _) st.2 ?_)
  rw [List.getElem?_eq_none (by omega)]
  show wpAny _ _ (setField (.ref I) 2 .none >>= _) _ _ _
  refine wpAny_bind (wpAny_setField_rec st.1 (by simp) fun h1 a1 c1=> ?_)
  refine stop_ (by simpa using hh) fun h2 e k he=>⟨⟨e,he.choose,rfl,he.choose_spec⟩,hQ h2 s.toks fun b ob hb q=>k _ _ (c1.extBut _ _ (fun z=>hb (by simp [z])) q)⟩
 self:=fun _ _ _ _ st hQ=>Cz2H st.1 hQ
theorem Bz6J (hh:A.handled=none) (hne:S≠I) (hT:T≠I) (ys:List Nat) (hp:ys.Perm (List.range es.size)) (hd:o.data= .set es ep t) (hf:t.fits es.size=true):
  Walks prog w A I [I,S,T] [I] es.size (fun i v=>(ys.map fun j=>(es.getD j (0, .none)).2)[i]? =some v)
   (fun i h=>IsSIt h I (.ref T) i S es.size ep∧h.get? S=some o∧h.get? T=some {cls:= .type "tuple",data:= .seq (ys.map fun (j:Nat)=>rawInt (j:Int)).toArray}):=by
 have hl:ys.length=es.size:=by rw [hp.length_eq,List.length_range]
 exact {
 sub:=fun b hb=>by simp at hb;simp [hb]
 frame:=fun _ _ _ st hk=>⟨hk I (by simp) _ st.1,hk S (by simp) _ st.2.1,hk T (by simp) _ st.2.2⟩
 item:=fun i s Q E hi st hQ=>by
  refine Bz3O st.1 (Bz7T st.1 st.2.1 hd hf st.2.2 ?_)
  have hx:ys[i]? =some (ys[i]'(by omega)):=List.getElem?_eq_getElem (by omega)
  have hm:ys[i]'(by omega)<es.size:=List.mem_range.mp (hp.mem_iff.mp (List.getElem_mem (by omega)))
  generalize ys[i]'(by omega)=j at hx hm
  rw [show (ys.map fun (j:Nat)=>rawInt (j:Int)).toArray[i]? =some (rawInt j) by simp [hx]]
  show wpAny _ _ (setNextDrawn S j ep >>= _) _ _ _
  refine wpAny_bind ?_
  unfold setNextDrawn
  refine wpAny_bind (wpAny_setState_of st.2.1 hd hf ?_);dsimp only
  refine wpAny_ite_split (fun hc=>absurd hc (by simp)) (fun _=> ?_)
  rw [Array.getElem?_eq_getElem hm]
  refine wpAny_pure ?_
  refine wpAny_bind (wpAny_setField_rec st.1 (by simp) fun h2 a2 c2=> ?_)
  refine wpAny_pure ⟨_,rfl,hQ _ h2 s.toks ?_ ⟨?_,?_,?_⟩ fun b ob hb e=>c2.extBut _ _ (fun z=>hb (by simp [z])) e⟩
  ·rw [List.getElem?_map,hx];simp [Array.getD,hm]
  ·show h2.get? I=_
   rw [a2];rfl
  ·exact c2.extBut _ _ hne st.2.1
  ·exact c2.extBut _ _ hT st.2.2
 done:=fun s Q E st hQ=>by
  refine Bz3O st.1 (Bz7T st.1 st.2.1 hd hf st.2.2 ?_)
  rw [show (ys.map fun (j:Nat)=>rawInt (j:Int)).toArray[es.size]? =none by simp [hl]]
  show wpAny _ _ (setField (.ref I) 0 (rawInt 0) >>= _) _ _ _
  refine wpAny_bind (wpAny_setField_rec st.1 (by simp) fun h1 a1 c1=> ?_)
  refine wpAny_bind (wpAny_setField_rec (s:= {s with heap:=h1}) a1 (by simp) fun h2 a2 c2=> ?_)
  refine stop_ (by simpa using hh) fun h3 e k he=>⟨⟨e,he.choose,rfl,he.choose_spec⟩,hQ h3 s.toks fun b ob hb q=>k _ _ (c2.extBut _ _ (fun z=>hb (by simp [z])) (c1.extBut _ _ (fun z=>hb (by simp [z])) q))⟩
 self:=fun _ _ _ _ st hQ=>Cz2H st.1 hQ}
end
structure SW (prog:Program) (w:World) (A:Around) (I:Addr) (fp:List Addr) (ord:List Value) (St:Nat→Heap→Prop):Prop where
 W:Walks prog w A I fp [I] ord.length (fun i v=>ord[i]? =some v) St
 mem:I∈fp
def slotAt (xs:Array Nat):Nat→Nat
 |0=>0
 |i+1=>xs.getD i 0+1
theorem Cz3P {xs:Array Nat} (r:Rise xs) (i:Nat) (hi:i≤xs.size):SetTable.below xs (slotAt xs i)=i:=by
 obtain ⟨h1,h2,h3⟩:=Bz9I r (slotAt xs i)
 generalize SetTable.below xs (slotAt xs i)=p at*
 cases i with
 |zero=>
  cases p with
  |zero=>rfl
  |succ p=>
   have hg:xs[p]? =some xs[p]:=Array.getElem?_eq_getElem (by omega)
   exact absurd (show xs[p]<0 from h2 p _ (Nat.lt_succ_self _) hg) (Nat.not_lt_zero _)
 |succ i=>
  simp only [slotAt] at h2 h3
  have hgi:xs[i]? =some xs[i]:=Array.getElem?_eq_getElem (by omega)
  have hd:xs.getD i 0=xs[i]:=by simp [Array.getD,show i<xs.size by omega]
  rw [hd] at h2 h3
  rcases Nat.lt_trichotomy p (i+1) with q|q|q
  ·have:=h3 i _ (by omega) hgi;omega
  ·exact q
  ·have hg:xs[i+1]? =some xs[i+1]:=Array.getElem?_eq_getElem (by omega)
   have a:=h2 (i+1) _ q hg
   have b:=r.lt (Nat.lt_succ_self i) hgi hg
   omega
theorem Bz7D {xs:Array Nat} (h:xs.size≤1):Rise xs:=by
 unfold Rise
 match hx:xs.toList with
 | []=>exact List.Pairwise.nil
 | [a]=>exact List.pairwise_singleton _ _
 |a::b::l=>have:=congrArg List.length hx;simp at this;omega
end L3
namespace L3
open PySem
section
variable {prog:Program} {w:World} {A:Around} {E:Value→Shared→Prop} {s:Shared} {S I T:Addr} {o:Obj} {es:Array (Int×Value)} {ep:Nat} {t:SetTable} {first:Value} {i:Nat} {σ:List Int}
theorem Cz0G {b:Bool} {Q:Bool→Shared→Prop} (e:w.params.followText "set-order"=b) (ho:s.heap.get? S=some o) (hd:o.data= .set es ep t) (hf:t.fits es.size=true) (h:Q (!b&&(!t.plain&&decide (es.size>1))) s):
  wpAny (model prog w) A (setDrawn S) Q E s:=by
 unfold setDrawn
 refine wpAny_bind (wpAny_setState_of ho hd hf ?_);dsimp only
 exact wpAny_bind (Bz4Q e (wpAny_pure h))
theorem Cz4K {prog:Program} {w:World} {l:List (Int×Value)} (h:ElemsOf (intKind prog w) l):∀ v∈l.map (·.2),∃ n u,v=Value.int n u:=by
 intro v hv
 obtain ⟨e,he,rfl⟩:=List.mem_map.mp hv
 obtain ⟨⟨k,hk,_⟩,_⟩:=h e he
 obtain ⟨u,q⟩:=Value.isInt_shape (show Value.isInt k e.2=true from hk)
 exact ⟨k,u,q⟩
theorem Bz6U {Q:Fin→Shared→Prop} (hz:∀ (h':Heap) I,h'=s.heap.push {cls:= .type "set_iterator",data:= .fields #[first,rawInt 0, .ref S,rawInt es.size,rawInt ep]}→I=s.heap.objs.size→
   IsSIt h' I first 0 S es.size ep→(∀ b o,s.heap.get? b=some o→h'.get? b=some o)→Q (.done (.ret (.ref I))) {s with heap:=h'}) (ho:s.heap.get? S=some o) (hd:o.data= .set es ep t) (hf:t.fits es.size=true):
  wpAny (model prog w) A (setEpoch S >>= fun e=>newFields "set_iterator" [first,rawInt 0, .ref S,rawInt es.size,rawInt e] >>= fun v=>ret v) Q E s:=by
 refine wpAny_bind (wpAny_setEpoch_of ho hd hf ?_)
 exact wpAny_bind (wpAny_newObj_type (wpAny_pure (hz _ _ rfl rfl (Heap.get?_push_size _ rfl) fun b o e=>Heap.get?_push_of_some _ e)))
theorem Cz6V {Q:Value→Shared→Prop} (hS:SI prog w s.heap S σ)
  (h:∀ I fp ord St h' d,(∀ A':Around,A'.handled=none→SW prog w A' I fp ord St)→(ord.map nv).Perm σ→(∀ v∈ord,∃ n u,v=Value.int n u)→St 0 h'→(∀ b o,s.heap.get? b=some o→h'.get? b=some o)→s.heap.objs.size≤I→
   (∀ b∈fp,b=S∨s.heap.objs.size≤b)→Q (.ref I) {s with heap:=h',drawn:=d}):wpAny (model prog w) A (pyIter (.ref S)) Q E s:=by
 obtain ⟨o,es,ep,t,ho,hex,hd,hel,hp,hb,hf,ht⟩:=hS
 have lS:S<s.heap.objs.size:=Heap.lt_size ho
 have hT:s.TypeIs (.ref S) "set":=⟨o,ho,hex.1⟩
 refine wpAny_pyIter_slot hT PySem.F.slot_set_iter (wpAny_call_entry PySem.F.slot_set_iter hT F.entry_set_iter ?_ (PySem.F.args_set_iter_1 _))
 unfold Builtin.«frozenset.__iter__»
 show wpAny _ _ (Builtin.Frozenset.sizeOf S >>= _) _ _ s
 refine wpAny_bind ?_
 unfold Builtin.Frozenset.sizeOf
 refine wpAny_bind (wpAny_setEntries_of ho hd hf (wpAny_pure ?_))
 refine wpAny_bind (Cz0G rfl ho hd hf ?_)
 have ord1:∀ (ord:Array (Int×Value)),ord.toList.Perm es.toList→((ord.toList.map (·.2)).map nv).Perm σ∧∀ v∈ord.toList.map (·.2),∃ n u,v=Value.int n u:=fun ord q=>
  ⟨by rw [List.map_map];exact (q.map _).trans hp,Cz4K (hel.perm q)⟩
 cases hw:(!w.params.followText "set-order"&&(!t.plain&&decide (es.size>1)))
 ·rw [if_neg (by simp)]
  refine wpAny_bind (wpAny_pure ?_)
  cases bt:w.params.followText "set-order"
  ·have hpl:t.plain=true∨es.size≤1:=by
    rw [bt] at hw
    cases hq:t.plain
    ·rw [hq] at hw
     exact .inr (by simpa using hw)
    ·exact .inl rfl
   have rr:Rise t.place:=by
    rcases hpl with q|q
    ·exact (ht.ok q).1
    ·refine Bz7D ?_
     have hf':=hf
     simp only [SetTable.fits,Bool.and_eq_true,beq_iff_eq] at hf'
     omega
   have hps:t.place.size=es.size:=by
    have hf':=hf
    simp only [SetTable.fits,Bool.and_eq_true,beq_iff_eq] at hf'
    exact hf'.1
   have hl:t.led=true:=by rw [ht.led,bt];rfl
   refine Bz6U (first:=rawInt 0) (fun h' I eh eI hi k=>⟨_,rfl,"set_iterator",_,⟨_,hi,rfl⟩,F.slot_si_next.lookup,?_⟩) ho hd hf
   have hSI:S≠I:=by rw [eI];exact Nat.ne_of_lt lS
   have hll:(es.toList.map (·.2)).length=es.size:=by simp
   refine h I [I,S] (es.toList.map (·.2)) (fun i h=>IsSIt h I (rawInt (slotAt t.place i)) i S es.size ep∧h.get? S=some o) h' s.drawn (fun A' hA=>⟨?_,by simp⟩) (ord1 es (List.Perm.refl _)).1 (ord1 es (List.Perm.refl _)).2 ⟨hi,k _ _ ho⟩ k (by rw [eI];exact Nat.le_refl _) fun b hb=> ?_
   ·rw [hll]
    refine Bz0I hA hSI _ hll (slotAt t.place) hd hf fun A'' i s' Q' E' hi' hs' q=>Bz0Q bt hs' hd hf hl hpl ?_
    rw [Cz3P rr i (by omega)]
    rcases Nat.lt_or_ge i es.size with z|z
    ·rw [Array.getElem?_eq_getElem z,Array.getElem?_eq_getElem (show i<t.place.size by omega)]
     have e1:(es.toList.map (·.2))[i]? =some (es[i]).2:=by simp [z]
     rw [e1] at q
     have e2:slotAt t.place (i+1)=t.place[i]'(by omega)+1:=by simp [slotAt,Array.getD,show i<t.place.size by omega]
     rw [e2] at q
     exact q
    ·rw [Array.getElem?_eq_none z]
     rw [List.getElem?_eq_none (by simpa using z)] at q
     exact q
   ·simp only [List.mem_cons,List.not_mem_nil,or_false] at hb
    rcases hb with z|z
    ·exact .inr (by rw [z,eI];exact Nat.le_refl _)
    ·exact .inl z
  ·refine Bz6U (first:=rawInt 0) (fun h' I eh eI hi k=>⟨_,rfl,"set_iterator",_,⟨_,hi,rfl⟩,F.slot_si_next.lookup,?_⟩) ho hd hf
   have hSI:S≠I:=by rw [eI];exact Nat.ne_of_lt lS
   have pk:=Az9P (w.params.setOrder S ep) es
   have hll:((pickOrder (w.params.setOrder S ep) es).toList.map (·.2)).length=es.size:=by rw [List.length_map,pk.length_eq,Array.length_toList]
   refine h I [I,S] ((pickOrder (w.params.setOrder S ep) es).toList.map (·.2)) (fun i h=>IsSIt h I (rawInt ((0:Nat):Int)) i S es.size ep∧h.get? S=some o) h' s.drawn (fun A' hA=>⟨?_,by simp⟩) (ord1 _ pk).1 (ord1 _ pk).2 ⟨hi,k _ _ ho⟩ k (by rw [eI];exact Nat.le_refl _) fun b hb=> ?_
   ·rw [hll]
    refine Bz0I hA hSI _ hll (fun _=>0) hd hf fun A'' i s' Q' E' hi' hs' q=>Bz2E bt hs' hd hf ?_
    have e1:((pickOrder (w.params.setOrder S ep) es).toList.map (·.2))[i]? =((pickOrder (w.params.setOrder S ep) es)[i]?).map (·.2):=by simp
    rw [e1,Option.map_map] at q
    exact q
   ·simp only [List.mem_cons,List.not_mem_nil,or_false] at hb
    rcases hb with z|z
    ·exact .inr (by rw [z,eI];exact Nat.le_refl _)
    ·exact .inl z
 ·rw [if_pos rfl]
  refine wpAny_bind (Bz1K _ _ _ (by simp) fun ys d py=> ?_)
  have hyl:ys.length=es.size:=by rw [py.length_eq,List.length_range]
  refine wpAny_bind (wpAny_newTuple ?_ (by rw [List.length_map,hyl];exact fits_of_scanBound hb))
  generalize hTd:s.heap.push {cls:= .type "tuple",data:= .seq (ys.map fun (j:Nat)=>rawInt (j:Int)).toArray}=h1
  have hT1:h1.get? s.heap.objs.size=some {cls:= .type "tuple",data:= .seq (ys.map fun (j:Nat)=>rawInt (j:Int)).toArray}:=by rw [←hTd];exact Heap.get?_push_size _ rfl
  have k1:∀ b o,s.heap.get? b=some o→h1.get? b=some o:=fun b o e=>by rw [←hTd];exact Heap.get?_push_of_some _ e
  have z1:h1.objs.size=s.heap.objs.size+1:=by rw [←hTd,Heap.size_push]
  refine Bz6U (s:= {s with heap:=h1,drawn:=d}) (first:= .ref s.heap.objs.size) (fun h' I eh eI hi k=>⟨_,rfl,"set_iterator",_,⟨_,hi,rfl⟩,F.slot_si_next.lookup,?_⟩) (k1 _ _ ho) hd hf
  have eI':I=s.heap.objs.size+1:=eI.trans z1
  have hSI:S≠I:=by rw [eI'];exact Nat.ne_of_lt (Nat.lt_succ_of_lt lS)
  have hTI:s.heap.objs.size≠I:=by rw [eI'];exact Nat.ne_of_lt (Nat.lt_succ_self _)
  have hll:(ys.map fun j=>(es.getD j (0, .none)).2).length=es.size:=by rw [List.length_map,hyl]
  have hyp:(ys.map fun j=>(es.getD j (0, .none)).2).Perm (es.toList.map (·.2)):=by
   refine (py.map _).trans (List.Perm.of_eq ?_)
   apply List.ext_getElem?
   intro j
   rcases Nat.lt_or_ge j es.size with z|z
   ·simp [z,Array.getD]
   ·rw [List.getElem?_eq_none (by simpa using z),List.getElem?_eq_none (by simpa using z)]
  refine h I [I,S,s.heap.objs.size] (ys.map fun j=>(es.getD j (0, .none)).2) (fun i h=>IsSIt h I (.ref s.heap.objs.size) i S es.size ep∧h.get? S=some o∧h.get? s.heap.objs.size=some {cls:= .type "tuple",data:= .seq (ys.map fun (j:Nat)=>rawInt (j:Int)).toArray}) h' d
   (fun A' hA=>⟨?_,by simp⟩) ((hyp.map nv).trans (ord1 es (List.Perm.refl _)).1) (fun v hv=>(ord1 es (List.Perm.refl _)).2 v (hyp.mem_iff.mp hv)) ⟨hi,k _ _ (k1 _ _ ho),k _ _ hT1⟩ (fun b o e=>k _ _ (k1 _ _ e)) (by rw [eI'];exact Nat.le_succ _) fun b hb=> ?_
  ·rw [hll]
   exact Bz6J hA hSI hTI ys py hd hf
  ·simp only [List.mem_cons,List.not_mem_nil,or_false] at hb
   rcases hb with z|z|z
   ·exact .inr (by rw [z,eI'];exact Nat.le_succ _)
   ·exact .inl z
   ·exact .inr (by rw [z];exact Nat.le_refl _)
end
end L3
namespace L3
open PySem
open Sem (wp)
section
variable {prog:Program} {w:World} {A:Around} {E:Value→Shared→Prop} {s:Shared} {S:Addr} {σ:List Int}
theorem Cz5F {Q:Bool→Shared→Prop} (hT:s.TypeIs (.ref S) "set") (h:Q false s):wpAny (model prog w) A (Builtin.List.listLengthHint (.ref S)) Q E s:=by
 unfold Builtin.List.listLengthHint
 refine wpAny_bind (wpAny_specialOf hT PySem.F.slot_set_len.lookup ?_)
 generalize hid:("set.__len__":String)=id0
 wp_delta
 rw [show splitId id0=some ("set","__len__") from by subst hid;decide +kernel]
 subst hid
 refine wpAny_bind (wpAny_isInstance (T:="set") (b:=true) hT (by rw [isSubtype_type];kernel_rfl) (wpAny_ite_split (fun z=>absurd z (by decide)) fun _=> ?_))
 refine wpAny_ite_split (fun _=>wpAny_bind (wpAny_typeOf hT (wpAny_pure h))) fun z=>absurd (by decide +kernel) z
theorem Bz6V {Q:List Value→Shared→Prop} (hh:A.handled=none) (hS:SI prog w s.heap S σ) (hz:σ.length≤sizeLine)
  (h:∀ vs h' d tk,(vs.map nv).Perm σ→(∀ v∈vs,∃ n u,v=Value.int n u)→(∀ b o,s.heap.get? b=some o→h'.get? b=some o)→s.heap.objs.size<h'.objs.size→Q vs {s with heap:=h',drawn:=d,toks:=tk}):
  wpAny (model prog w) A (collect (.ref S)) Q E s:=by
 have hT:s.TypeIs (.ref S) "set":=let ⟨o,_,_,_,ho,hex,_⟩:=hS;⟨o,ho,hex.1⟩
 have lS:S<s.heap.objs.size:=let ⟨_,_,_,_,ho,_⟩:=hS;Heap.lt_size ho
 generalize hg:s.heap.push {cls:= .type "list",data:= .seq ([]:List Value).toArray}=h1
 have k1:∀ b o,s.heap.get? b=some o→h1.get? b=some o:=fun b o e=>by rw [←hg];exact Heap.get?_push_of_some _ e
 have n1:h1.get? s.heap.objs.size=some {cls:= .type "list",data:= .seq ([]:List Value).toArray}:=by rw [←hg];exact Heap.get?_push_size _ rfl
 have z1:h1.objs.size=s.heap.objs.size+1:=by rw [←hg,Heap.size_push]
 unfold collect
 refine wpAny_bind (wpAny_runValue (codeAny_builtin PySem.F.entry_proto_collect ?_));rw [Around.under_plainId PySem.F.plain_proto_collect _]
 show wpAny _ A.in1 (newList [] >>= fun l=>again (.builtin "list.__iadd__" ⟨[l, .ref S],[]⟩)) _ _ s
 refine wpAny_bind (wpAny_newObj_type (wpAny_pure ⟨plainId_quiet PySem.F.plain_list_iadd _,codeAny_builtin PySem.F.entry_list_iadd ?_⟩));rw [Around.under_plainId PySem.F.plain_list_iadd _,hg]
 show wpAny _ A.in1 (Builtin.List.listExtendWith (.ref s.heap.objs.size) (.ref S) (.ref s.heap.objs.size)) _ _ {s with heap:=h1}
 unfold Builtin.List.listExtendWith
 have hT1:Shared.TypeIs {s with heap:=h1} (.ref S) "set":=let ⟨o,ho,c⟩:=hT;⟨o,k1 _ _ ho,c⟩
 refine wpAny_bind (wpAny_typeOf hT1 ?_)
 have e1:Builtin.List.listSameRef (.ref s.heap.objs.size) (.ref S)=false:=by simp [Builtin.List.listSameRef];exact Nat.ne_of_gt lS
 rw [if_neg (by rw [e1];decide)]
 refine wpAny_bind (Cz6V (hS.at' fun o e=>k1 _ _ e) fun I fp ord St h2 d sw po nums st k2 hI hfp=> ?_)
 have hT2:Shared.TypeIs {s with heap:=h2,drawn:=d} (.ref S) "set":=let ⟨o,ho,c⟩:=hT1;⟨o,k2 _ _ ho,c⟩
 refine wpAny_bind (wpAny_holding (Cz5F hT2 ?_))
 have hI':s.heap.objs.size+1≤I:=by rw [←z1];exact hI
 have hnf:s.heap.objs.size∉fp:=fun z=>by
  rcases hfp _ z with q|q
  ·rw [q] at lS;exact Nat.lt_irrefl _ lS
  ·have q':s.heap.objs.size+1≤s.heap.objs.size:=by rw [←z1];exact q
   exact Nat.lt_irrefl _ q'
 show wpAny _ A.in1 (rule "list.extend.makes-room" >>= fun _=>Builtin.List.listTouch (.ref s.heap.objs.size) >>= fun _=>again (.builtin "list.extend.loop" ⟨[.ref s.heap.objs.size, .ref I, .ref s.heap.objs.size],[]⟩)) _ _ _
 refine wpAny_bind (wpAny_rule (wpAny_bind ?_))
 have n2:=k2 _ _ n1
 show wpAny _ A.in1 (updateSeq s.heap.objs.size (·.push .none) >>= fun _=>updateSeq s.heap.objs.size (·.pop)) _ _ _
 refine wpAny_bind (wpAny_updateSeq n2 rfl ?_)
 have n3:=Heap.get?_update_self (Obj.mapSeq (·.push Value.none)) n2 rfl
 refine wpAny_updateSeq (s:= {s with heap:=h2.update s.heap.objs.size (Obj.mapSeq (·.push Value.none)),drawn:=d}) n3 rfl ?_
 have n4:=Heap.get?_update_self (Obj.mapSeq (·.pop)) n3 rfl
 have oth:∀ b o,b≠s.heap.objs.size→h2.get? b=some o→((h2.update s.heap.objs.size (Obj.mapSeq (·.push Value.none))).update s.heap.objs.size (Obj.mapSeq (·.pop))).get? b=some o:=fun b o hb e=>
  (Heap.get?_update_other _ _ (Ne.symm hb)).trans ((Heap.get?_update_other _ _ (Ne.symm hb)).trans e)
 have W:=(sw A.in1 (by simpa using hh)).W
 have ho:ord.length≤sizeLine:=by rw [←List.length_map (f:=nv),po.length_eq];exact hz
 refine wpAny_pure ⟨plainId_quiet PySem.F.plain_extend_loop _,codeAny_extend_loopS W.toS ho _ hnf _ ord.length 0 _ _ _ rfl (Nat.zero_le _) (W.frame 0 h2 _ st fun b hb o e=>oth b o (fun q=>hnf (q▸hb)) e) n4 (ItemsOf.nil _) fun s' acc c mv n5 its=> ?_⟩
 show wpAny _ A (load s.heap.objs.size >>= _) _ _ s'
 refine wpAny_bind (wpAny_load n5 (wpAny_pure ?_))
 obtain ⟨hp',g',d',tk',os'⟩:=s'
 have e1:g'=s.gens:=mv.gens
 have e2:d'=d:=mv.drawn
 have e3:os'=s.os:=mv.os
 subst e1 e2 e3
 have ea:acc.toList=ord:=by
  apply List.ext_getElem?
  intro j
  rw [Array.getElem?_toList]
  cases hj:acc[j]? with
  |some v=>exact (its.2 j v hj).symm
  |none=>
   have:acc.size≤j:=by
    rcases Nat.lt_or_ge j acc.size with q|q
    ·rw [Array.getElem?_eq_getElem q] at hj;cases hj
    ·exact q
   rw [its.1] at this
   exact (List.getElem?_eq_none this).symm
 rw [ea]
 refine h ord hp' _ tk' po nums (fun b o e=> ?_) (Heap.lt_size n5)
 have lb:b<s.heap.objs.size:=Heap.lt_size e
 refine mv.heap b o (fun z=> ?_) (oth b o (Nat.ne_of_lt lb) (k2 _ _ (k1 _ _ e)))
 simp only [List.mem_cons,List.not_mem_nil,or_false] at z
 rcases z with z|z
 ·rw [z] at lb;exact Nat.lt_irrefl _ lb
 ·rw [z] at lb;exact absurd (Nat.lt_of_lt_of_le lb (Nat.le_trans (Nat.le_succ _) hI')) (Nat.lt_irrefl _)
end
end L3
namespace L3
open PySem
open Sem (wp)
def met (ns:List Int):List Int:=ns.foldl ddp []
theorem Cz9Z (σ:List Int) (k:Int):(ddp σ k).length≤σ.length+1:=by unfold ddp;split<;>simp
theorem Bz8Q:∀ (ns σ:List Int),(ns.foldl ddp σ).length≤σ.length+ns.length
 | [],σ=>by simp
 |n::ns,σ=>by have:=Bz8Q ns (ddp σ n);have:=Cz9Z σ n;rw [List.foldl_cons,List.length_cons];omega
theorem Cz2O (ns:List Int):(met ns).length≤ns.length:=by have:=Bz8Q ns [];simpa [met] using this
theorem Cz4S {ns:List Int} {i:Nat} (h:i<ns.length):met (ns.take (i+1))=ddp (met (ns.take i)) (ns.getD i 0):=by
 unfold met
 rw [List.take_add_one,List.foldl_append,List.getElem?_eq_getElem h]
 simp [List.getD,List.getElem?_eq_getElem h]
section
variable {prog:Program} {w:World} {A:Around} {R:Result→Shared→Prop} {I:Addr} {fp wr:List Addr} {G:Array GenState→Array GenState→Prop} {n:Nat} {P:Nat→Value→Prop} {St:Nat→Shared→Prop} {E:Value→Shared→Prop} {s:Shared}
theorem Cz6U (W:WalksS prog w A.in1 I fp wr G n P St) (S:Addr) (hSf:S∉fp) (ns:List Int) (hn:ns.length=n) (hv:∀ i v,P i v→∃ u,v=Value.int (ns.getD i 0) u) (hb:n+1<scanBound):
  ∀ (k i:Nat) (s:Shared),n-i=k→i≤n→St i s→SI prog w s.heap S (met (ns.take i))→(∀ s',Moved (S::wr) G s s'→SI prog w s'.heap S (met ns)→R (.ok (.ret .none)) s')→
   codeAny (model prog w) A (.builtin "set.update.loop" ⟨[.ref S, .ref I],[]⟩) R s:=by
 have hSw:S∉wr:=fun h=>hSf (W.sub _ h)
 have up:∀ b∈wr,b∈S::wr:=fun b hb=>List.mem_cons_of_mem _ hb
 intro k
 induction k with
 |zero=>
  intro i s hk hi st hS hR
  have:i=n:=by omega
  subst this
  refine codeAny_builtin PyProof.Rows.F.entry_set_update_loop ?_;rw [Around.under_plainId PyProof.Rows.F.plain_set_update_loop _]
  show wpAny _ A.in1 (pyNext (.ref I) >>= _) _ _ s
  refine wpAny_bind (W.done s _ _ st fun s' mv=>wpAny_pure (hR s' (mv.mono up) ?_))
  rw [List.take_of_length_le (Nat.le_of_eq hn)] at hS
  exact hS.at' fun o e=>mv.heap S o hSw e
 |succ k ih=>
  intro i s hk hi st hS hR
  have lt:i<n:=by omega
  refine codeAny_builtin PyProof.Rows.F.entry_set_update_loop ?_;rw [Around.under_plainId PyProof.Rows.F.plain_set_update_loop _]
  show wpAny _ A.in1 (pyNext (.ref I) >>= _) _ _ s
  refine wpAny_bind (W.item i s _ _ lt st fun v s' pv st' mv=> ?_)
  obtain ⟨u,rfl⟩:=hv i v pv
  have hS':SI prog w s'.heap S (met (ns.take i)):=hS.at' fun o e=>mv.heap S o hSw e
  have room:(met (ns.take i)).length+1<scanBound:=by have:=Cz2O (ns.take i);rw [List.length_take] at this;omega
  show wpAny _ A.in1 (holding [Value.int (ns.getD i 0) u] (setAdd S (.int (ns.getD i 0) u)) >>= _) _ _ s'
  refine wpAny_bind (wpAny_holding ?_)
  unfold setAdd
  refine wpAny_holding (wpAny_bind ((intKind prog w).pyHash (k:=ns.getD i 0) (is_int _ _) ?_))
  refine si_add (s:= {s' with toks:=s'.toks+1}) hS' room fun h' b sb hS2=>wpAny_pure ⟨plainId_quiet PyProof.Rows.F.plain_set_update_loop _,?_⟩
  refine ih (i+1) _ (by omega) lt (W.frame _ s' _ _ st' (Nat.le_succ _) fun b hb o e=>sb.extBut _ _ (fun q=>hSf (q▸hb)) e) (by rw [Cz4S (by omega)];exact hS2) fun s'' mv2 hS3=>hR s'' ?_ hS3
  exact Moved.trans W.gtrans ((mv.mono up).then_heap (Nat.le_succ _) fun b o hb e=>sb.extBut _ _ (fun q=>hb (by rw [q];exact List.mem_cons_self)) e) mv2
def Itr (prog:Program) (w:World) (l:Addr) (ol:Obj) (items:Array Value):Prop:=∀ (A:Around) (s':Shared) (Q:Value→Shared→Prop) (E:Value→Shared→Prop),s'.heap.get? l=some ol→
 (∀ I St h',(∀ A':Around,A'.handled=none→Walks prog w A' I [I,l] [I] items.size (fun i v=>items[i]? =some v) St)→St 0 h'→I=s'.heap.objs.size→(∀ b o,s'.heap.get? b=some o→h'.get? b=some o)→Q (.ref I) {s' with heap:=h'})→
 wpAny (model prog w) A (pyIter (.ref l)) Q E s'
theorem Cz4Z {l:Addr} {ol:Obj} {items:Array Value} {nl:Nat} (hc:ol.cls= .type "list") (hd:ol.data= .seq items nl):Itr prog w l ol items:=fun A s' Q E hl h=>by
 have hL:s'.heap.IsList l items:=⟨ol,hl,hc,nl,hd⟩
 have hne:l≠s'.heap.objs.size:=Nat.ne_of_lt (Heap.lt_size hl)
 exact wpAny_pyIter_list hL (h _ (fun i h=>h.IsListIter s'.heap.objs.size l i∧h.IsList l items) _ (fun A' hA=>Walks.list hA _ l hne items) ⟨⟨_,Heap.get?_push_size _ rfl,rfl,rfl⟩,hL.push _⟩ rfl fun b o e=>Heap.get?_push_of_some _ e)
theorem Cz1D {l:Addr} {ol:Obj} {items:Array Value} {nl:Nat} (hc:ol.cls= .type "tuple") (hd:ol.data= .seq items nl):Itr prog w l ol items:=fun A s' Q E hl h=>by
 have hL:s'.heap.IsTuple l items:=⟨ol,hl,hc,nl,hd⟩
 have hne:l≠s'.heap.objs.size:=Nat.ne_of_lt (Heap.lt_size hl)
 exact wpAny_pyIter_tuple hL (h _ (fun i h=>h.IsTupleIter s'.heap.objs.size l i∧h.IsTuple l items) _ (fun A' hA=>Walks.tuple hA _ l hne items) ⟨⟨_,Heap.get?_push_size _ rfl,rfl,rfl⟩,hL.push _⟩ rfl fun b o e=>Heap.get?_push_of_some _ e)
theorem Cz3U (a:Value) {Q₁:Value→Shared→Prop} (h:∀ led:Bool,led=(!w.params.followText "set-order")→Q₁ (.ref s.heap.objs.size) {s with heap:=s.heap.push {cls:= .type "set",dict:=none,data:= .set #[] 0 (.fresh 0 0 led)}}):
  codeAny (model prog w) A (.call (.builtin "set.__new__") ⟨[.type "set",a],[]⟩) (wants Q₁ E) s:=by
 refine codeAny_of_tree ?_
 show wpAny _ A.in1 (checkBuiltinCall "set.__new__" ⟨[.type "set",a],[]⟩ >>= fun _=>again (.builtin "set.__new__" ⟨[.type "set",a],[]⟩)) _ _ s
 refine wpAny_bind (wpAny_of_eq (PySem.F.newCall_set_1 a) (wpAny_pure ⟨plainId_quiet PySem.F.plain_set_new _,codeAny_builtin PySem.F.entry_set_new ?_⟩));rw [Around.under_plainId PySem.F.plain_set_new _]
 unfold Builtin.«set.__new__» Builtin.Frozenset.newClass
 have hsub:=sub_set_self
 obtain ⟨hp,g,d,tk,os⟩:=s
 dsimp only;wp_walk
 refine wpAny_askSetting (wpAny_pure ?_)
 dsimp only;simp only [newObj]
 exact wpAny_bind (wpAny_alloc (wpAny_pure (wpAny_pure (h _ rfl))))
end
end L3
namespace L3
open PySem
open Sem (wp)
section
variable {prog:Program} {w:World} {A:Around} {E:Value→Shared→Prop} {s:Shared}
theorem Cz3Q {h:Heap} {a:Addr} {led:Bool} (e:led=(!w.params.followText "set-order")) (hg:h.get? a=some {cls:= .type "set",dict:=none,data:= .set #[] 0 (.fresh 0 0 led)}):SI prog w h a []:=
 ⟨_,#[],0,_,hg,⟨rfl,rfl,rfl⟩,rfl,fun e he=>by simp at he,by simp,by decide,by rfl,⟨e,fun _=>⟨List.Pairwise.nil,rfl⟩⟩⟩
theorem Az8H {T:String} {l:Addr} {ol:Obj} {items:Array Value} {ns:List Int} {Q:Value→Shared→Prop} (hh:A.handled=none) (hol:s.heap.get? l=some ol) (hcl:ol.cls= .type T) (hs1:isSubtype (.type T) (.type "set")=pure false)
  (hs2:isSubtype (.type T) (.type "frozenset")=pure false) (hnd:(Value.type T==Value.type "dict")=false) (hit:Itr prog w l ol items) (hn:ns.length=items.size) (hv:∀ i v,items[i]? =some v→∃ u,v=Value.int (ns.getD i 0) u) (hb:items.size+1<scanBound)
  (h:∀ h' tk,SI prog w h' s.heap.objs.size (met ns)→(∀ b o,s.heap.get? b=some o→h'.get? b=some o)→Q (.ref s.heap.objs.size) {s with heap:=h',toks:=tk}):wpAny (model prog w) A (call (.type "set") [.ref l]) Q E s:=by
 obtain ⟨c,tl,hmro⟩:=PySem.F.called_set.mro
 have hmade:=PySem.F.called_set.made
 have hsub:=PySem.F.called_set.sub
 refine wpAny_call (codeAny_of_tree ?_);show wpAny _ _ (callAny (.type "set") _) _ _ _
 refine wpAny_pure ⟨Code.quiet_builtin _ (by decide +kernel),codeAny_builtin PySem.F.entry_type_call ?_⟩;rw [Around.under_plain (weight_type_call_type "set" [.ref l] []) rfl]
 have q1:=PySem.F.called_set.notType
 have q2:=PySem.F.called_set.canCreate
 have q3:=PySem.F.typeCall_set_1 (.ref l)
 repeat (any_goals (first|assumption|wp_step))
 refine codeAny_mono (Cz3U (.ref l) (E:=E) (Q₁:=fun obj s₁=>∃ led:Bool,led=(!w.params.followText "set-order")∧obj= .ref s.heap.objs.size∧s₁= {s with heap:=s.heap.push {cls:= .type "set",dict:=none,data:= .set #[] 0 (.fresh 0 0 led)}}) fun led e=>⟨led,e,rfl,rfl⟩) fun r s₁ hr=> ?_
 cases r with
 |error e=>exact hr
 |ok fl=>
  cases fl with
  |ret obj=>
   obtain ⟨led,hled,rfl,rfl⟩:=hr
   generalize hg:s.heap.push {cls:= .type "set",dict:=none,data:= .set #[] 0 (.fresh 0 0 led)}=h1
   have k1:∀ b o,s.heap.get? b=some o→h1.get? b=some o:=fun b o e=>by rw [←hg];exact Heap.get?_push_of_some _ e
   have n1:h1.get? s.heap.objs.size=some {cls:= .type "set",dict:=none,data:= .set #[] 0 (.fresh 0 0 led)}:=by rw [←hg];exact Heap.get?_push_size _ rfl
   have z1:h1.objs.size=s.heap.objs.size+1:=by rw [←hg,Heap.size_push]
   clear hg
   have hT:Shared.TypeIs {s with heap:=h1} (.ref s.heap.objs.size) "set":=⟨_,n1,rfl⟩
   have q4:=PySem.F.called_set.init.lookup
   have q5:=PySem.F.called_set.init.bind (.ref s.heap.objs.size)
   repeat (any_goals (first|assumption|wp_step))
   refine codeAny_mono (codeAny_call_builtin (R:=wants (fun r s₂=>r= .none∧∃ h' tk,s₂= {s with heap:=h',toks:=tk}∧SI prog w h' s.heap.objs.size (met ns)∧∀ b o,s.heap.get? b=some o→h'.get? b=some o) E)
    PySem.F.called_set.init.plain PySem.F.entry_set_init (check_set_init_1 hT ?_)) fun r₂ s₂ hr₂=> ?_
   ·have hol':=k1 _ _ hol
    have hTl:Shared.TypeIs {s with heap:=h1} (.ref l) T:=⟨_,hol',hcl⟩
    unfold Builtin.«set.__init__» noKeywords Builtin.Frozenset.updateFrom
    generalize hPI:pyIter=PI
    wp_walk
    subst hPI
    refine hit _ _ _ _ hol' fun I St h2 W st eI k2=> ?_
    refine wpAny_bind (wpAny_runValue ?_)
    have lS:s.heap.objs.size<I:=by rw [eI];show _<h1.objs.size;rw [z1];exact Nat.lt_succ_self _
    have ll:l<s.heap.objs.size:=Heap.lt_size hol
    have hSf:s.heap.objs.size∉ [I,l]:=by
     simp only [List.mem_cons,List.not_mem_nil,or_false,not_or]
     exact ⟨Nat.ne_of_lt lS,Nat.ne_of_gt ll⟩
    refine Cz6U ((W _ (by simp [hh])).toS) s.heap.objs.size hSf ns hn hv hb items.size 0 _ (by omega) (Nat.zero_le _) st (Cz3Q hled (k2 _ _ n1)) fun s' mv hS=> ?_
    obtain ⟨h',g',d',tk',os'⟩:=s'
    have eg:g'=s.gens:=mv.gens
    have ed:d'=s.drawn:=mv.drawn
    have eo:os'=s.os:=mv.os
    subst eg ed eo
    refine wpAny_pure (wpAny_pure ⟨rfl,h',tk',rfl,hS,fun b o e=> ?_⟩)
    have lb:b<s.heap.objs.size:=Heap.lt_size e
    refine mv.heap b o (fun z=> ?_) (k2 _ _ (k1 _ _ e))
    simp only [List.mem_cons,List.not_mem_nil,or_false] at z
    rcases z with z|z
    ·rw [z] at lb;exact Nat.lt_irrefl _ lb
    ·rw [z] at lb;exact Nat.lt_irrefl _ (Nat.lt_trans lb lS)
   ·cases r₂ with
    |error e=>exact hr₂
    |ok fl₂=>
     cases fl₂ with
     |ret r=>
      obtain ⟨rfl,h',tk,rfl,hS',hk'⟩:=hr₂
      repeat (any_goals (first|assumption|wp_step))
      exact h _ _ hS' hk'
     |_=>exact hr₂.elim
  |_=>exact hr.elim
end
end L3
namespace L3
open PySem PyProof.Rows
section
variable {prog:Program} {w:World} {A:Around} {E:Value→Shared→Prop} {s:Shared}
theorem num_nv {v:Value} (h:∃ n u,v=Value.int n u):numOf v=nv v:=by obtain ⟨n,u,rfl⟩:=h;rfl
theorem Bz6P {S:Addr} {σ:List Int} {Q:Value→Shared→Prop} (hh:A.handled=none) (hS:SI prog w s.heap S σ) (h64:σ.length<64)
  (h:∀ h' d tk p (out:List Value) (ns:List Int) (e:Nat),IntsAre out ns→ns.Perm σ→ns.Pairwise (· ≤ ·)→h'.get? p=some (seqObj "list" out.toArray e)→s.heap.objs.size≤p→(∀ b o,s.heap.get? b=some o→h'.get? b=some o)→
   Q (.ref p) {s with heap:=h',drawn:=d,toks:=tk}):wpAny (model prog w) A (call (.builtin "sorted") [.ref S]) Q E s:=by
 refine Calls.call_function_entry kind_sorted plain_sorted entry_sorted (args_sorted1 _) ?_
 unfold Builtin.«sorted»
 refine wpAny_bind (m:=checkCount "sorted" 1 1 _) (wpAny_pure ?_)
 refine wpAny_bind (Bz6V (by simpa using hh) hS (by rw [sizeLine_eq];omega) fun vs h1 d tk po nums k1 z1=> ?_)
 have hm:vs.map numOf=vs.map nv:=List.map_congr_left fun v hv=>num_nv (nums v hv)
 have hI:IntsAre vs (vs.map nv):=by rw [←hm];exact intsAre_map vs nums
 have hl:vs.length<64:=by rw [←List.length_map (f:=nv),po.length_eq];exact h64
 refine wpAny_bind (wpAny_newList ?_ (by rw [sizeLine_eq];omega))
 have n1:(h1.push {cls:= .type "list",data:= .seq vs.toArray}).get? h1.objs.size=some (seqObj "list" vs.toArray 0):=Heap.get?_push_size _ rfl
 refine wpAny_bind (wpAny_holding (wpAny_call_entry slot_list_sort ⟨_,n1,rfl⟩ entry_list_sort (list_sort_tree n1 hI hl fun out ns' a1 a2 a3=>⟨_,rfl,wpAny_pure ⟨_,rfl,?_⟩⟩) (args_list_sort _)))
 obtain ⟨e,he⟩:=sortedHeap_at (out:=out) n1
 have old:∀ b o,s.heap.get? b=some o→b<h1.objs.size∧b≠h1.objs.size:=fun b o q=>⟨Heap.lt_size (k1 _ _ q),Nat.ne_of_lt (Heap.lt_size (k1 _ _ q))⟩
 have hz:s.heap.objs.size≤h1.objs.size:=Nat.le_of_lt z1
 refine h _ d tk h1.objs.size out.toList ns' e a1 (a2.trans po) a3 (by simpa using he) hz fun b o q=> ?_
 rw [sortedHeap_old (old b o q).2 (by rw [size_push'];exact Nat.lt_succ_of_lt (old b o q).1)]
 exact Heap.get?_push_of_some _ (k1 _ _ q)
end
end L3
namespace L3
def insI (k:Int):List Int→List Int
 | []=> [k]
 |x::xs=>if k<x then k::x::xs else if k=x then x::xs else x::insI k xs
def sortI:List Int→List Int
 | []=> []
 |n::ns=>insI n (sortI ns)
abbrev Up (l:List Int):Prop:=l.Pairwise (fun a b=>a<b)
theorem mem_insI {k a:Int}:∀ {l:List Int},a∈insI k l↔a=k∨a∈l
 | []=>by simp [insI]
 |x::xs=>by
  unfold insI
  split
  ·simp
  ·split
   ·rename_i h;subst h;simp
   ·rw [List.mem_cons,mem_insI (l:=xs),List.mem_cons]
    constructor
    ·rintro (h|h|h)<;>simp [h]
    ·rintro (h|h|h)<;>simp [h]
theorem Cz2D {k:Int}:∀ {l:List Int},Up l→Up (insI k l)
 | [],_=>by simp [insI]
 |x::xs,h=>by
  obtain ⟨h1,h2⟩:=List.pairwise_cons.mp h
  unfold insI
  split
  ·rename_i hk
   refine List.pairwise_cons.mpr ⟨fun b hb=> ?_,h⟩
   rcases List.mem_cons.mp hb with rfl|hb
   ·exact hk
   ·have:=h1 b hb;omega
  ·split
   ·exact h
   ·refine List.pairwise_cons.mpr ⟨fun b hb=> ?_,Cz2D h2⟩
    rcases mem_insI.mp hb with rfl|hb
    ·omega
    ·exact h1 b hb
theorem mem_sortI {a:Int}:∀ {l:List Int},a∈sortI l↔a∈l
 | []=>Iff.rfl
 |x::xs=>by rw [sortI,mem_insI,mem_sortI,List.mem_cons]
theorem Bz1Y:∀ (l:List Int),Up (sortI l)
 | []=>List.Pairwise.nil
 |x::xs=>Cz2D (Bz1Y xs)
theorem Bz3J:∀ {a b:List Int},Up a→Up b→(∀ x,x∈a↔x∈b)→a=b
 | [],[],_,_,_=>rfl
 | [],y::ys,_,_,h=>absurd ((h y).mpr List.mem_cons_self) (by simp)
 |x::xs,[],_,_,h=>absurd ((h x).mp List.mem_cons_self) (by simp)
 |x::xs,y::ys,ha,hb,h=>by
  obtain ⟨a1,a2⟩:=List.pairwise_cons.mp ha
  obtain ⟨b1,b2⟩:=List.pairwise_cons.mp hb
  have e:x=y:=by
   rcases List.mem_cons.mp ((h x).mp List.mem_cons_self) with p|p
   ·exact p
   ·rcases List.mem_cons.mp ((h y).mpr List.mem_cons_self) with q|q
    ·exact q.symm
    ·have:=b1 x p;have:=a1 y q;omega
  subst e
  refine congrArg _ (Bz3J a2 b2 fun z=> ?_)
  constructor
  ·intro hz
   rcases List.mem_cons.mp ((h z).mp (List.mem_cons_of_mem _ hz)) with p|p
   ·have:=a1 z hz;omega
   ·exact p
  ·intro hz
   rcases List.mem_cons.mp ((h z).mpr (List.mem_cons_of_mem _ hz)) with p|p
   ·have:=b1 z hz;omega
   ·exact p
theorem up_of {l:List Int} (h:l.Pairwise (fun a b=>a≤b)) (n:l.Nodup):Up l:=by
 induction l with
 |nil=>exact List.Pairwise.nil
 |cons x xs ih=>
  obtain ⟨h1,h2⟩:=List.pairwise_cons.mp h
  obtain ⟨n1,n2⟩:=List.nodup_cons.mp n
  refine List.pairwise_cons.mpr ⟨fun b hb=> ?_,ih h2 n2⟩
  have:=h1 b hb
  rcases Int.lt_or_eq_of_le this with q|q
  ·exact q
  ·subst q;exact absurd hb n1
end L3
namespace L3
open PySem PySem.Spec PyProof.Rows L2
abbrev eh1 (t:Bool) (h:Heap) (l:Addr):Heap:=h.push (itO t l)
abbrev eh2 (t:Bool) (h:Heap) (l:Addr):Heap:=(eh1 t h l).push {cls:= .type "enumerate",data:= .fields #[.none, .bool false, .ref h.objs.size,rawInt 0, .none, .none]}
theorem Cz1K (t:Bool) (l:Addr) (xs:Array Value):Meets (Builtin.«enumerate.__new__» ⟨[.type "enumerate", .ref l],[]⟩) (fun _ R s=>IsSq t s.heap l xs∧
   R (.ok (.ret (.ref (eh1 t s.heap l).objs.size))) {s with heap:=eh2 t s.heap l}):=
 .of_wp fun prog w A R s h=>by
  obtain ⟨hp,g,d,tk,os⟩:=s;obtain ⟨q,h⟩:=h
  have hsub:=sub_enumerate
  have e1:IsSq t (Shared.heap ⟨hp,g,d,tk,os⟩) l xs:=q
  wp_walk
  refine wpAny_stack_any fun st=>wpAny_pure ?_
  split
  ·rename_i c _ _ _ _ _
   cases (c==Value.type "enumerate")
   ·wp_walk using Bz0L e1
    exact ⟨_,rfl,h⟩
   ·wp_walk using Bz0L e1
    exact ⟨_,rfl,h⟩
  ·wp_walk using Bz0L e1
   exact ⟨_,rfl,h⟩
theorem Bz8X {prog:Program} {w:World} {A:Around} {E:Value→Shared→Prop} {s:Shared} {t:Bool} {l:Addr} {xs:Array Value} {Q:Value→Shared→Prop} (q:IsSq t s.heap l xs)
  (h:∀ n h',n=s.heap.objs.size→IsEnum h' (n+1) n ((0:Nat):Int) .none→SqI t h' n l 0→(∀ c o,s.heap.get? c=some o→h'.get? c=some o)→Q (.ref (n+1)) {s with heap:=h'}):
  wpAny (model prog w) A (call (.type "enumerate") [.ref l]) Q E s:=by
 refine callType_new F.called_enumerate (by decide) (F.typeCall_enumerate_1 _) (F.newCall_enumerate_1 _) (fun obj=>F.args_object_init_2 obj _) F.entry_enumerate_new (Cz1K t l xs) ⟨q,?_⟩
 have z1:(eh1 t s.heap l).objs.size=s.heap.objs.size+1:=Heap.size_push ..
 have g2:(eh2 t s.heap l).get? (eh1 t s.heap l).objs.size=some _:=Heap.get?_push_size _ rfl
 have f1:(itO t l).isFreed=false:=by cases t<;>rfl
 have g1:(eh2 t s.heap l).get? s.heap.objs.size=some (itO t l):=Heap.get?_push_of_some _ (Heap.get?_push_size _ f1)
 show _∧_
 rw [z1] at g2 ⊢
 refine ⟨⟨_,g2,rfl⟩,h _ _ rfl g2 ?_ fun c o e=>Heap.get?_push_of_some _ (Heap.get?_push_of_some _ e)⟩
 cases t with
 |true=>exact ⟨_,g1,rfl,rfl⟩
 |false=>exact ⟨_,g1,rfl,rfl⟩
def Ite (K : PySem.W.Frag) (t : Bool) (l : Addr) : It :=
  ⟨fun i H => ∃ xs x, SqK t K H l xs ∧ xs[i]? = some x,
   fun i H v H' => ∃ p x, v = .ref p ∧ H p = none ∧ H' = upd H p (.tup [.int i, x]) ∧ ∀ xs, SqK t K H l xs → xs[i]? = some x,
   fun i H => ∃ xs, SqK t K H l xs ∧ i = xs.length⟩
theorem Bz9W {P:Program} {w:World} {K:PySem.W.Frag} {elts:List Expr} {kt:Nat} {pt:Pos} {t:Bool} {e it l:Addr} (n1:l≠it) (n2:e≠it) (n3:e≠l):
  Turn P w K (.Tuple elts kt pt) (Ite K t l) [e,it] e (fun i h=>(∃ old,IsEnum h e it i old)∧SqI t h it l i) where
 mem:=by simp
 obj:=fun i h st b hb=>by
  obtain ⟨⟨old,he⟩,s1⟩:=st
  simp only [List.mem_cons,List.not_mem_nil,or_false] at hb
  rcases hb with rfl|rfl
  ·exact ⟨_,he,fun v q=>nomatch q⟩
  ·obtain ⟨o,vs,e,d⟩:=s1.rec
   exact ⟨o,e,fun v q=>by rw [d] at q;cases q⟩
 keep:=fun i h h' st k=>by
  obtain ⟨⟨old,he⟩,s1⟩:=st
  exact ⟨⟨old,k e (by simp) _ he⟩,s1.at' fun o q=>k it (by simp) o q⟩
 item:=by
  intro X hP hw hK hc i pins s σ H E I hf st hg
  subst hP hw hK
  obtain ⟨⟨old,he⟩,s1⟩:=st
  obtain ⟨xs,x,q1,e1⟩:=hg
  obtain ⟨it1,r1,p1,_⟩:=inv_sq I q1
  obtain ⟨u1,hu1,ru1⟩:=r1.get e1
  have hef:e∉ [it,l]:=by simp only [List.mem_cons,List.not_mem_nil,or_false,not_or];exact ⟨n2,n3⟩
  have hlt:i<it1.toArray.size:=by
   rcases Nat.lt_or_ge i it1.length with z|z
   ·simpa using z
   ·rw [List.getElem?_eq_none z] at hu1;cases hu1
  refine wpAny_pyNext_enum_itemD (drawsS (show X.A.in1.handled=none from I.ok.hd hc) t it l n1 it1.toArray) he ⟨s1,p1⟩ hlt n2 hef fun x' h1 tk px eo st1 nw sz kk=>⟨_,rfl,?_⟩
  have px':it1[i]? =some x':=by simpa using px
  rw [hu1] at px';cases px'
  refine wpAny_letOwnedTupleGo_enum (s:= {s with heap:=h1,toks:=tk+1}) eo fun h2 e2 c2=> ?_
  have le:e<s.heap.objs.size:=Heap.lt_size he
  have lit:it<s.heap.objs.size:=by obtain ⟨o,_,q,_⟩:=s1.rec;exact Heap.lt_size q
  have up:∀ b o,b≠e→h1.get? b=some o→h2.get? b=some o:=fun b o ne q=>c2.extBut _ _ ne q
  refine ⟨.ref s.heap.objs.size,upd H s.heap.objs.size (.tup [.int i,x]),?_,rfl,⟨_,x,rfl,I.hok.fresh (Nat.le_refl _),rfl,fun zs hs=>by rw [Az8B I hs q1];exact e1⟩,⟨⟨_,e2⟩,st1.1.at' fun o q=>up _ _ (Ne.symm n2) q⟩,fun b hb=> ?_⟩
  ·show Inv X pins σ (upd H s.heap.objs.size (.tup [.int i,x])) {s with heap:=h2,toks:=tk+1}
   refine Az9Y (ch:= [e,it]) (t':=tk+1) I hf (fun b o hb q=> ?_) (Nat.le_refl _) (.cons (by exact ⟨tk,rfl⟩) (.cons ru1 .nil)) (show (2:Nat)≤sizeLine by rw [sizeLine_eq];decide) ⟨_,up _ _ (Nat.ne_of_gt le) nw,rfl,_,rfl⟩
   simp only [List.mem_cons,List.not_mem_nil,or_false,not_or] at hb
   exact up _ _ hb.1 (kk b o hb.1 hb.2 q)
  ·have hb1:=(hf b hb).1
   have:b<s.heap.objs.size:=by
    simp only [List.mem_cons,List.not_mem_nil,or_false] at hb
    rcases hb with rfl|rfl
    ·exact le
    ·exact lit
   rw [upd_ne (Nat.ne_of_lt this)];exact hb1
 done:=by
  intro X hP hw hK hc i pins s σ H E I hf st hg
  subst hP hw hK
  obtain ⟨⟨old,he⟩,s1⟩:=st
  obtain ⟨xs,q1,rfl⟩:=hg
  obtain ⟨it1,r1,p1,_⟩:=inv_sq I q1
  have hsz:xs.length=it1.toArray.size:=by simp [r1.length]
  rw [hsz] at s1 he
  refine wpAny_pyNext_enum_endD (drawsS (show X.A.in1.handled=none from I.ok.hd hc) t it l n1 it1.toArray) he ⟨s1,p1⟩ fun h1 k=>⟨rfl,?_⟩
  refine Az9X (ch:= [e,it]) (t':=s.toks) I hf fun b o hb q=> ?_
  simp only [List.mem_cons,List.not_mem_nil,or_false,not_or] at hb
  exact k b o hb.2 q
 self:=fun _ _ _ _ _ st h=>let ⟨⟨_,he⟩,_⟩:=st;wpAny_pyIter_enum he h
section
variable {X:Cx} {xw:XW} {elts:List Expr} {kt:Nat} {pt p pos:Pos} {a b:Expr} {fs:DSt→Res (List D)}
def iEnum (K:PySem.W.Frag) (ta:TA):TI:=fun σ H R=>ta σ H fun vs H1=>∃ t l xs,vs= [.ref l]∧SqK t K H1 l xs∧R (Ite K t l) H1
theorem Cz7M {ta:TA} (hg:Gl X "enumerate") (hm:X.mg "enumerate"=none) (ha:PA X [a] ta) (hs:starEach [a] X.env= [(false,eval a X.env)]):
  PI X (.Tuple elts kt pt) (.Call (.Name "enumerate" p) [a] [] pos) (iEnum X.K ta):=by
 intro pins s σ H R I h
 refine Call_ (ld_blt I hg hm (show bootBuiltins "enumerate"=some (.type "enumerate") by decide +kernel) (PyProof.Rows.callWith_type1 (thn (ha pos pins s σ H _ I h) fun us s1 ⟨vs,H1,I1,r1,q1⟩=> ?_) (by rw [hs];rfl) (by rfl)))
 obtain ⟨t,l,xs,e,q1,q⟩:=q1
 subst e
 obtain ⟨u1,rfl,ru1⟩:=r1.one
 cases (show u1=Value.ref l from ru1)
 obtain ⟨it1,v1,p1,_⟩:=inv_sq I1 q1
 have a1:=p1.lt
 refine Bz8X p1 fun n h' hn he s1' kk=>wpAny_pyIter_enum he ?_
 subst hn
 have J:Inv X pins σ H1 {s1 with heap:=h'}:=I1.kept (t':=s1.toks) fun c o e=>kk c o e
 refine ⟨s1.heap.objs.size+1,[s1.heap.objs.size+1,s1.heap.objs.size],_,_,H1,rfl,J,Bz9W (t:=t) (Nat.ne_of_lt a1) (Nat.ne_of_gt (Nat.lt_succ_self _)) (Nat.ne_of_gt (Nat.lt_succ_of_lt a1)),⟨⟨_,he⟩,s1'⟩,fun c hc=> ?_,q⟩
 have hcs:s1.heap.objs.size≤c:=by
  simp only [List.mem_cons,List.not_mem_nil,or_false] at hc
  rcases hc with rfl|rfl
  ·exact Nat.le_succ _
  ·exact Nat.le_refl _
 exact I1.fpOk hcs (I1.hok.fresh hcs)
def enumD:Nat→List D→List D
 |_,[]=> []
 |k,x::xs=> .tup [.int k,x]::enumD (k+1) xs
theorem Bz0C:∀ {xs:List D} {k i:Nat} {d:D},(enumD k xs)[i]? =some d→∃ x,xs[i]? =some x∧d= .tup [.int ((k+i:Nat):Int),x]
 | [],_,_,_,e=>by simp [enumD] at e
 |x::xs,k,0,d,e=>by
  rw [enumD] at e
  simp at e
  exact ⟨x,rfl,by simp [←e]⟩
 |x::xs,k,i+1,d,e=>by
  rw [enumD] at e
  obtain ⟨u,h1,h2⟩:=Bz0C (xs:=xs) (k:=k+1) (i:=i) (by simpa using e)
  exact ⟨u,by simpa using h1,by rw [h2,show k+1+i=k+(i+1) by omega]⟩
theorem Bz0B:∀ (k:Nat) (xs:List D),(enumD k xs).length=xs.length
 |_,[]=>rfl
 |k,x::xs=>by rw [enumD,List.length_cons,Bz0B,List.length_cons]
def enumR (ds:List D):Res (List D):=match ds with
 | [x]=>match itemsD x with
  |some xs=> .ok (enumD 0 xs)
  |_=> .stuck
 |_=> .stuck
theorem Cz9R (hm:X.mg "enumerate"=none) (ha:DA X xw [a] fs) (hg:Gl X "enumerate":=by rfl) (hs:starEach [a] X.env= [(false,eval a X.env)]:=by rfl):
  DI X xw (.Tuple elts kt pt) (.Call (.Name "enumerate" p) [a] [] pos) (b1 enumR fs):=
 PI.weak (Cz7M hg hm ha hs) fun σ H R ⟨W₀,H₀,W,δ,st,q⟩=>by
  refine ⟨W₀,H₀,W,δ,st,?_⟩
  simp only [b1] at q
  cases h1:fs δ with
  |stuck=>rw [h1] at q;exact q
  |ex c gs=>rw [h1] at q;exact q
  |ok ds=>
   rw [h1] at q
   intro vs H1 k1 hv
   dsimp only [Res.bind] at q
   unfold enumR at q
   split at q
   ·rename_i ds' hq
    split at hq
    ·rename_i x
     split at hq
     ·rename_i xs ex
      have e':enumD 0 xs=ds':=by cases hq;rfl
      subst e'
      rw [HasL] at hv
      obtain ⟨v1,r1,rfl,g1,hv⟩:=hv
      rw [HasL] at hv
      subst hv
      have w1:=st.fr.wl.same k1
      obtain ⟨t1,l1,xs1,rfl,r1,f1⟩:=sqk_of w1 g1 ex
      refine ⟨t1,l1,xs1,rfl,f1 W H1 Step.refl,q _ H1 k1 ?_⟩
      intro W' H2 k2 w2
      have c1:=f1 W' H2 k2
      refine ⟨fun i d e=> ?_,xs1,c1,?_⟩
      ·obtain ⟨x0,e1,rfl⟩:=Bz0C e
       obtain ⟨x1,o1,hx1⟩:=r1.get e1
       refine ⟨⟨xs1,x1,c1,o1⟩,fun u H3 z=> ?_⟩
       obtain ⟨p0,x2,rfl,hp,rfl,z1⟩:=z
       have:=z1 xs1 c1
       rw [o1] at this;cases this
       refine ⟨Az1G hp,?_⟩
       rw [Has]
       have hx2:=(Has.keep k2.keep w1 k2.new hx1).same (Az1G (o:= .tup [.int i,x1]) hp) w2
       refine ⟨p0,[.int i,x1],rfl, .of Az0L,HasL.cons ?_ (HasL.cons hx2 HasL.nil)⟩
       rw [Has,Nat.zero_add]
      ·rw [Bz0B,r1.length]
     ·cases hq
    ·cases hq
   ·rename_i hq
    split at hq
    ·split at hq<;>cases hq
    ·cases hq
   ·exact q.elim
end
end L3
namespace L3
open PySem PySem.Spec PyProof.Rows L2 SeqAt
theorem Cz8J {σ:List Int} {k a:Int}:a∈ddp σ k↔a∈σ∨a=k:=by
 unfold ddp
 split
 ·rename_i h
  exact ⟨.inl,fun q=>q.elim id fun e=>e▸h⟩
 ·simp
theorem Cz0R {σ:List Int} {k:Int} (h:σ.Nodup):(ddp σ k).Nodup:=by
 unfold ddp
 split
 ·exact h
 ·rename_i hk
  rw [List.nodup_append]
  exact ⟨h,by simp,fun a ha b hb=>by simp at hb;subst hb;exact fun e=>hk (e▸ha)⟩
theorem Bz8R:∀ (ns σ:List Int),σ.Nodup→(ns.foldl ddp σ).Nodup∧∀ a,a∈ns.foldl ddp σ↔a∈σ∨a∈ns
 | [],σ,h=>⟨h,fun a=>by simp⟩
 |n::ns,σ,h=>by
  obtain ⟨h1,h2⟩:=Bz8R ns (ddp σ n) (Cz0R h)
  refine ⟨h1,fun a=> ?_⟩
  rw [List.foldl_cons,h2,Cz8J,List.mem_cons,or_assoc]
theorem Bz6Q {ns out:List Int} (hp:out.Perm (met ns)) (hs:out.Pairwise (fun a b=>a≤b)):out=sortI ns:=by
 obtain ⟨h1,h2⟩:=Bz8R ns [] List.nodup_nil
 refine Bz3J (up_of hs (hp.nodup_iff.mpr h1)) (Bz1Y ns) fun x=> ?_
 rw [hp.mem_iff,mem_sortI]
 exact (h2 x).trans (by simp)
theorem vals_ints:∀ {us:List Value} {ns:List Int},IntsAre us ns→Vals (ns.map V.int) us
 |_,_, .nil=> .nil
 |_,_, .cons n t r=> .cons ⟨t,rfl⟩ (vals_ints r)
theorem Cz8U {us:List Value} {ns:List Int} (h:IntsAre us ns):ns.length=us.length∧∀ i v,us[i]? =some v→∃ t,v=Value.int (ns.getD i 0) t:=
 ⟨h.length.symm,fun i v e=>h.int_at i v e⟩
section
variable {X:Cx} {xw:XW} {pos p pos2 p2:Pos} {a:Expr} {fa:DSt→Res D} {pins:List (Addr×Obj)} {σ:L2.St} {H:Hp} {s:Shared}
theorem Bz5U {d:Drawn} {t:Nat} (I:Inv X pins σ H s):Inv X pins σ H {s with drawn:=d,toks:=t}:=
 I.step (g':=s.gens) (d':=d) (t':=t) (h':=s.heap) (ch:= []) (fun _ z=>nomatch z) (fun _ _ _ _ _ e _=>e) (fun b o _ _ _ e _=>⟨o.slots,e⟩) (fun _ _ _ _ n=>n) (fun b o _ e=>⟨o,e⟩) (fun _ _ e=>e) (fun _ _ _ e=>e) (fun b ps e=>⟨#[],by rw [e];simp⟩) (fun _ h=>h) I.hok I.bare
def tSS (K:PySem.W.Frag) (ta:TE):TE:=fun σ H Q=>ta σ H fun v H1=>∃ t l ns,v= .ref l∧SqK t K H1 l (ns.map V.int)∧ns.length<64∧∀ p,H1 p=none→Q (.ref p) (upd H1 p (.lst ((sortI ns).map V.int)))
theorem Az9O (ns : List Int) : (sortI ns).length ≤ ns.length := by
  induction ns with
  | nil => exact Nat.le_refl _
  | cons n ns ih =>
    have : ∀ (k : Int) (l : List Int), (insI k l).length ≤ l.length + 1 := fun k l => by
      induction l with
      | nil => exact Nat.le_refl _
      | cons x xs ih => unfold insI; split; · simp
                        split <;> simp; exact ih
    have := this n (sortI ns)
    rw [sortI, List.length_cons]; omega
theorem Bz7G {ta:TE} (hc:X.calm=true) (hg1:Gl X "sorted") (hm1:X.mg "sorted"=none) (hg2:Gl X "set") (hm2:X.mg "set"=none) (ha:PE X a ta)
  (h1:starEach [.Call (.Name "set" p2) [a] [] pos2] X.env=(false,eval (.Call (.Name "set" p2) [a] [] pos2) X.env)::starEach [] X.env) (h2:starEach [a] X.env=(false,eval a X.env)::starEach [] X.env)
  (h3:(backTo pos (starEach [] X.env)).any (·.1)=false) (h4:(backTo pos2 (starEach [] X.env)).any (·.1)=false):PE X (.Call (.Name "sorted" p) [.Call (.Name "set" p2) [a] [] pos2] [] pos) (tSS X.K ta):=by
 intro pins s σ H Q I h
 refine wpAny_Call_Name_kw (ld_blt I hg1 hm1 (show bootBuiltins "sorted"=some (.builtin "sorted") by decide +kernel) ?_)
 refine PyProof.Rows.callWith_builtin1 ?_ h1 h3
 rw [h1]
 show wpAny _ _ (spliced ((false,eval (.Call (.Name "set" p2) [a] [] pos2) X.env)::backTo pos (starEach [] X.env))) _ _ s
 refine Calls.spliced_cons ?_
 refine wpAny_Call_Name_kw (ld_blt I hg2 hm2 (show bootBuiltins "set"=some (.type "set") by decide +kernel) ?_)
 refine PyProof.Rows.callWith_type1 ?_ h2 h4
 rw [h2]
 show wpAny _ _ (spliced ((false,eval a X.env)::backTo pos2 (starEach [] X.env))) _ _ s
 refine Calls.spliced_cons (thn (ha pins s σ H _ I h) fun u s1 ⟨x,H1,I1,r1,q1⟩=> ?_)
 refine Calls.spliced_nil ?_
 obtain ⟨t,l,ns,rfl,sq,hl,q⟩:=q1
 cases (show u=Value.ref l from r1)
 obtain ⟨its,rv,ps,_⟩:=inv_sq I1 sq
 obtain ⟨el,hat⟩:=Cz8U (Bz3B rv)
 have fin:∀ h' tk,SI X.prog X.w h' s1.heap.objs.size (met ns)→(∀ b o,s1.heap.get? b=some o→h'.get? b=some o)→
   wpAny (model X.prog X.w) X.A (spliced (backTo pos (starEach [] X.env))) (fun vs s'=>wpAny (model X.prog X.w) X.A (call (.builtin "sorted") (Value.ref s1.heap.objs.size::vs)) (EP X pins σ Q) X.xe s') X.xe {s1 with heap:=h',toks:=tk}:=fun h' tk hS k=>by
  refine Calls.spliced_nil ?_
  have hm:=Cz2O ns
  refine Bz6P (s:= {s1 with heap:=h',toks:=tk}) (I1.ok.hd hc) hS (by omega) fun h2 d tk2 p out os e a1 a2 a3 ho hz k2=> ?_
  have eo:=Bz6Q a2 a3
  subst eo
  have hsl:=Az9O ns
  have lz:s1.heap.objs.size<h'.objs.size:=let ⟨_,_,_,_,ho,_⟩:=hS;Heap.lt_size ho
  have hp:s1.heap.objs.size≤p:=Nat.le_trans (Nat.le_of_lt lz) hz
  refine ⟨.ref p,upd H1 p (.lst ((sortI ns).map V.int)),?_,rfl,q p (I1.hok.fresh hp)⟩
  exact Bz5U (d:=d) (t:=tk2) (I1.laid (o:= .lst ((sortI ns).map V.int)) (h':=h2) (t':=tk2) (fun b o e=>k2 _ _ (k _ _ e)) hp ⟨by rw [List.length_map,sizeLine_eq];omega,out,e,vals_ints a1,ho⟩)
 have hb:its.toArray.size+1<scanBound:=by rw [List.size_toArray,←el];unfold scanBound;omega
 cases t with
 |true=>
  obtain ⟨ol,hol,hcl,nl,hd⟩:=ps
  exact Az8H (I1.ok.hd hc) hol hcl (by rw [isSubtype_type];kernel_rfl) (by rw [isSubtype_type];kernel_rfl) (by decide) (Cz1D hcl hd) (by rw [List.size_toArray];exact el) (fun i v e=>hat i v (by simpa using e)) hb fin
 |false=>
  obtain ⟨ol,hol,hcl,nl,hd⟩:=ps
  exact Az8H (I1.ok.hd hc) hol hcl (by rw [isSubtype_type];kernel_rfl) (by rw [isSubtype_type];kernel_rfl) (by decide) (Cz4Z hcl hd) (by rw [List.size_toArray];exact el) (fun i v e=>hat i v (by simpa using e)) hb fin
theorem i_enum {elts:List Expr} {kt:Nat} {pt:Pos} {fs:DSt→Res (List D)} (hm:X.mg "enumerate"=none) (ha:XA X xw [a] fs) (hg:Gl X "enumerate":=by rfl) (hs:starEach [a] X.env= [(false,eval a X.env)]:=by rfl):
  XI X xw (.Tuple elts kt pt) (.Call (.Name "enumerate" p) [a] [] pos) (b1 enumR fs):=⟨Cz9R hm ha.h hg hs⟩
noncomputable def sortR:D→Res (List D)
 | .tup ds=>match intsOf ds with
  |some ns=>@ite _ (ns.length<64) (Classical.propDecidable _) (.ok ((sortI ns).map D.int)) .stuck
  |none=> .stuck
 | .lst ds=>match intsOf ds with
  |some ns=>@ite _ (ns.length<64) (Classical.propDecidable _) (.ok ((sortI ns).map D.int)) .stuck
  |none=> .stuck
 |_=> .stuck
theorem Cz1I (hc:X.calm=true) (hm1:X.mg "sorted"=none) (hm2:X.mg "set"=none) (ha:XP X xw a fa) (hg1:Gl X "sorted":=by rfl) (hg2:Gl X "set":=by rfl)
  (h1:starEach [.Call (.Name "set" p2) [a] [] pos2] X.env=(false,eval (.Call (.Name "set" p2) [a] [] pos2) X.env)::starEach [] X.env:=by rfl) (h2:starEach [a] X.env=(false,eval a X.env)::starEach [] X.env:=by rfl)
  (h3:(backTo pos (starEach [] X.env)).any (·.1)=false:=by rfl) (h4:(backTo pos2 (starEach [] X.env)).any (·.1)=false:=by rfl):
  XF X xw (.Call (.Name "sorted" p) [.Call (.Name "set" p2) [a] [] pos2] [] pos) (b1 sortR fa):=
 ⟨PE.weak (Bz7G hc hg1 hm1 hg2 hm2 ha.h h1 h2 h3 h4) fun σ H Q ⟨W₀,H₀,W,δ,st,q⟩=>Bz4A st q fun H2 d v k w st2 hv _ q2=>by
  unfold sortR at q2
  split at q2
  ·split at q2
   ·rename_i ns hn
    split at q2
    ·rename_i hl
     obtain ⟨p,xs,e,sq,r⟩:=hv.tup
     have:=Az5E hn r
     subst this
     exact ⟨true,p,ns,e,sq,hl,fun l hl'=>q2 l _ H2 (Same.refl _) hl' HasL.ints⟩
    ·exact q2.elim
   ·exact q2.elim
  ·split at q2
   ·rename_i ns hn
    split at q2
    ·rename_i hl
     obtain ⟨p,xs,e,sq,r⟩:=hv.lst
     have:=Az5E hn r
     subst this
     exact ⟨false,p,ns,e,sq,hl,fun l hl'=>q2 l _ H2 (Same.refl _) hl' HasL.ints⟩
    ·exact q2.elim
   ·exact q2.elim
  ·exact q2.elim⟩
end
end L3
namespace HT
open PySem PyProof.Rows
section
variable {prog:Program} {w:World} {A:Around} {E:Value→Shared→Prop} {s:Shared}
theorem getItem_tuple_all {t sl:Addr} {items:Array Value} {vl vu:Value} {lo hi:Option Int} {Q:Value→Shared→Prop} (ht:IsTup s.heap t items) (hs:s.heap.IsSliceOf sl vl vu .none) (pl:IsPart vl lo) (pu:IsPart vu hi)
  (hw:sIx items.size 0 lo=0∧sIx items.size items.size hi=items.size) (h:Q (.ref t) s):wpAny (model prog w) A (getItem (.ref t) (.ref sl)) Q E s:=by
 obtain ⟨os,hos,hcs,hds⟩:=id hs
 have hTs:s.TypeIs (.ref sl) "slice":=⟨os,hos,hcs⟩
 unfold getItem
 try with_reducible refine wpAny_holding ?_
 first|refine wpAny_bind (wpAny_pure ?_)|skip
 refine wpAny_bind (wpAny_sequenceKey ht.typeIs (by decide) ?_)
 refine wpAny_bind (wpAny_callSpecial?_slot (name:=Str.ofString "__getitem__") ht.typeIs PyProof.Rows.slot_tuple_getitem (wpAny_call_entry PyProof.Rows.slot_tuple_getitem ht.typeIs entry_tuple_getitem ?_ (args_tuple_getitem _ _)))
 show wpAny _ _ (Builtin.Tuple.tupleItemsOf (.ref t) >>= _) _ _ s
 refine wpAny_bind (tupleItemsOf_ ht (wpAny_bind (wpAny_typeOf hTs ?_)))
 rw [if_pos (by decide)]
 refine wpAny_bind (Az5A hs pl pu ?_)
 rw [hw.1,hw.2]
 show wpAny _ _ (if ((((0:Nat):Int)==0&&(1:Int)==1&&(items.size-0)==items.size)=true) then _ else _) _ _ s
 rw [if_pos (by simp)]
 refine wpAny_bind ?_
 unfold Builtin.Tuple.tupleIsExact
 refine wpAny_bind (wpAny_typeOf ht.typeIs (wpAny_pure ?_))
 rw [if_pos (by decide)]
 exact wpAny_bind (wpAny_rule (wpAny_pure ⟨_,rfl,wpAny_pure h⟩))
end
end HT
namespace L3
open PySem PySem.Spec PyProof.Rows L2 SeqAt
section
variable {X:Cx} {xw:XW} {a:Expr} {lo hi:Option Expr} {fa:DSt→Res D} {fl fh:DSt→Res (Option Int)} {pos p2:Pos}
def rSlA (K:PySem.W.Frag):V→Option Int→Option Int→Hp→VK→Prop:=fun x lo hi H Q=>∃ a xs,x= .ref a∧SqT K H a xs∧(HT.sIx xs.length 0 lo=0∧HT.sIx xs.length xs.length hi=xs.length)∧Q (.ref a) H
theorem Cz6R:SlR X (rSlA X.K):=by
 intro pins s σ H x v vl vu lo hi sl Q I rx hs pl pu h
 obtain ⟨a,xs,rfl,hx,hw,q⟩:=h
 cases rx
 obtain ⟨its,r,ht,hz⟩:=I.tuple hx
 have hlen:its.toArray.size=xs.length:=by rw [List.size_toArray];exact r.length.symm
 refine ⟨"tuple",_,PyProof.Rows.slot_tuple_getitem.lookup,ht.typeIs,?_⟩
 exact HT.getItem_tuple_all ht hs pl pu (by rw [hlen];exact hw) ⟨.ref a,H,I,rfl,q⟩
def slW (d:D) (lo hi:Option Int):Res D:=match d with
 | .tup ds=> .ok (.tup (cutD ds lo hi))
 | .lst ds=> .ok (.lst (cutD ds lo hi))
 |_=> .stuck
theorem x_slW (ha:XP X xw a fa) (hl:XO X xw lo fl) (hh:XO X xw hi fh):XE X xw (.Subscript a (.Slice lo hi none p2) pos) (b3 slW fa fl fh):=
 ⟨PE.weak (Cz4I (SlR.or Cz6R (SlR.or sl_tup Cz6T)) ha.h hl.h hh.h) fun σ H Q ⟨W₀,H₀,W,δ,st,q⟩=>Cz6S (G:=fun H r=>RE X.K xw W H r Q) st (fun _ _ _ q=>q) (fun _ q=>q) (fun _ _ _ k q=>RE.same q k) q fun H2 d v l u k w hv q2=>by
  unfold slW at q2
  split at q2
  ·rename_i ds
   obtain ⟨a1,xs,e1,sq,r⟩:=hv.tup
   by_cases hw:whole ds.length l u
   ·have hw':HT.sIx xs.length 0 l=0∧HT.sIx xs.length xs.length u=xs.length:=by rw [←r.length];exact hw
    refine .inl ⟨a1,xs,e1,sq,hw',q2 _ _ (Same.refl _) ?_⟩
    have:cutD ds l u=ds:=by unfold cutD;rw [hw.1,hw.2];simp
    rw [this,Has]
    exact ⟨a1,xs,rfl,sq,r⟩
   ·refine .inr (.inl ⟨a1,xs,e1,sq,?_,fun p hp=>q2.newT w hp (Cz3A r l u)⟩)
    rw [←r.length];exact hw
  ·obtain ⟨a1,xs,e1,sq,r⟩:=hv.lst
   refine .inr (.inr ⟨a1,xs,e1,sq,fun p hp=>q2 _ _ (Az1G hp) ?_⟩)
   rw [Has]
   exact ⟨p,_,rfl, .inl ⟨Az0L,Cz2M w hp⟩,(Cz3A r l u).same (Az1G hp) w⟩
  ·exact q2.elim⟩
end
theorem slW_l (ds:List D) (lo hi:Option Int):slW (.lst ds) lo hi= .ok (.lst (cutD ds lo hi)):=rfl
theorem slW_to (ds:List D) (a:Nat):slW (.tup ds) none (some (a:Int))= .ok (.tup (ds.take a)):=by
 show Res.ok (D.tup (cutD ds none (some (a:Int))))=_
 rw [Dz0B]
theorem Bz6S (ds:List D) (a:Nat) (h:a≤ds.length):slW (.tup ds) (some (a:Int)) none= .ok (.tup (ds.drop a)):=by
 show Res.ok (D.tup (cutD ds (some (a:Int)) none))=_
 unfold cutD
 rw [HT.sIx_nat,HT.sIx_none,Nat.min_eq_left h,List.take_of_length_le (by simp)]
end L3
namespace HT
open PySem PyProof.Rows
section
variable {prog:Program} {w:World} {A:Around} {E:Value→Shared→Prop} {s:Shared}
end
end HT
namespace L3
open PySem PySem.Spec PyProof.Rows L2 SeqAt
section
variable {X:Cx} {xw:XW} {a st:Expr} {fa:DSt→Res D} {pos p2:Pos}
end
end L3
namespace L3
open PySem PySem.Spec PyProof.Rows L2
section
variable {K:PySem.W.Frag} {xw:XW} {W₀ W W1:WS} {H₀ H H1:Hp} {Dn:Ends}
def RSO (K:PySem.W.Frag) (xw:XW) (W₀:WS) (H₀:Hp) (W:WS) (H:Hp) (o:Out) (Dn:Ends):Prop:=match o with
 | .rt (.lst ds)=>∀ a xs H',Same H₀ H'→H₀ a=none→H' a=some (.lst xs)→HasL K (fun b=>W₀ b∨b=a) H' ds xs→Dn.rt (.ref a) H'
 |o=>RS K xw W₀ H₀ W H o Dn
theorem RSO.step {o:Out} (h:RSO K xw W₀ H₀ W H o Dn) (k:Step W H W1 H1):RSO K xw W₀ H₀ W1 H1 o Dn:=by
 cases o with
 |rt d=>cases d<;>exact h
 |nx δ=>exact RS.step (xw:=xw) (o:= .nx δ) h k
 |bk δ=>exact RS.step (xw:=xw) (o:= .bk δ) h k
 |ct δ=>exact RS.step (xw:=xw) (o:= .ct δ) h k
 |ex c fs=>exact h
 |stuck=>exact h
def tDSO (K:PySem.W.Frag) (xw:XW) (g:DSt→Out):TS:=fun Dn σ H=>∃ W₀ H₀ W δ,StHas K W₀ H₀ W H σ δ∧RSO K xw W₀ H₀ W H (g δ) Dn
end
structure NoL (g:DSt→Out):Prop where
 h:∀ δ ds,g δ≠ .rt (.lst ds)
theorem NoL.seq {a b:DSt→Out} (ha:NoL a) (hb:NoL b):NoL (sSeq a b):=⟨fun δ ds=>by
 show seqO (a δ) b≠_
 cases h:a δ with
 |nx δ'=>exact hb.h δ' ds
 |rt d=>intro e;exact ha.h δ ds (by rw [h];exact e)
 |bk δ'=>intro e;cases e
 |ct δ'=>intro e;cases e
 |ex c fs=>intro e;cases e
 |stuck=>intro e;cases e⟩
theorem ofR_no {α:Type} {r:Res α} {k:α→Out} {ds:List D} (h:∀ a,k a≠ .rt (.lst ds)):ofR r k≠ .rt (.lst ds):=by
 cases r with
 |ok a=>exact h a
 |ex c fs=>intro e;cases e
 |stuck=>intro e;cases e
theorem NoL.nx:NoL Out.nx:=⟨fun δ ds e=>by cases e⟩
theorem NoL.own {i:Nat} {f:DSt→Res (List D)}:NoL (sOwn i f):=⟨fun δ ds=>ofR_no fun k e=>by cases e⟩
theorem NoL.set {i:Nat} {f:DSt→Res D}:NoL (sSet i f):=⟨fun δ ds=>ofR_no fun k e=>by cases e⟩
section
variable {X:Cx} {xw:XW} {st:Stmt} {sts:List Stmt} {g1 g2:DSt→Out} {pos p:Pos} {a:Expr} {es:List Expr}
structure XSO (X:Cx) (xw:XW) (sts:List Stmt) (g:DSt→Out):Prop where
 h:PSs X sts (tDSO X.K xw g)
def spO (K:PySem.W.Frag) (n:Nat) (m:List D→Res D):Sp:=fun vs H Q _=>vs.length=n∧∃ W ds,WL W H∧HasL K W H ds vs∧match m ds with
 | .ok (.lst fs)=>∀ a xs H',Same H H'→H a=none→H' a=some (.lst xs)→HasL K (fun b=>W b∨b=a) H' fs xs→Q (.ref a) H'
 | .ok d=>∀ v H',Same H H'→Has K W H' d v→Q v H'
 |_=>False
structure FnO (P:Program) (w:World) (K:PySem.W.Frag) (mg:Str→Option Value) (base:Heap) (k:Nat) (x:Str) (n:Nat) (m:List D→Res D):Prop where
 ex:∃ f fd ps,FnOk P w K mg base CX0 k f fd ps (spO K n m)∧mg x=some (.ref f)∧PySem.W.keepIn K (.ref f)=true∧Binds K fd ps []
theorem FnO.mono {P:Program} {w:World} {K:PySem.W.Frag} {mg:Str→Option Value} {base:Heap} {j k n:Nat} {x:Str} {m:List D→Res D} (F:FnO P w K mg base j x n m) (h:j≤k):FnO P w K mg base k x n m:=by
 obtain ⟨f,fd,ps,a,b⟩:=F.ex
 exact ⟨f,fd,ps,a.mono h,b⟩
theorem FnO.fn {P:Program} {w:World} {K:PySem.W.Frag} {mg:Str→Option Value} {base:Heap} {k n:Nat} {x:Str} {m:List D→Res D} (F:FnO P w K mg base k x n m):Fn P w K mg base k x n m:=by
 obtain ⟨f,fd,ps,a,b⟩:=F.ex
 refine ⟨f,fd,ps,a.imp fun vs H Q E ⟨hl,W,ds,hw,hd,q⟩=>⟨hl,W,ds,hw,hd,?_⟩,b⟩
 cases h:m ds with
 |ex c fs=>rw [h] at q;exact q
 |stuck=>rw [h] at q;exact q
 |ok d=>
  rw [h] at q
  cases d with
  |lst fs=>
   intro a xs H' k hn ha hx
   refine q (.ref a) H' k ?_
   rw [Has]
   refine ⟨a,xs,rfl, .inl ⟨ha,fun z=> ?_⟩,HasL.keep (fun _ _ e _=>e) (fun b z=>z.elim (hw.same k b) fun z=>by rw [z];exact ⟨_,ha,trivial⟩) (fun b z=> .inl (.inl z)) hx⟩
   obtain ⟨ys,e,_⟩:=hw a z
   rw [hn] at e;cases e
  |_=>exact q
def ownO (i:Nat) (δ:DSt):D→Out
 | .lst ds=> .nx (δ.set i (some (.o ds)))
 |d=> .nx (δ.set i (some (.d d)))
def sOwnR (i:Nat) (f:DSt→Res D):DSt→Out:=fun δ=>ofR (f δ) (ownO i δ)
def HasTL (K:PySem.W.Frag) (W:WS) (H:Hp):List D→List V→Prop
 | [],xs=>xs= []
 |d::ds,xs=>∃ x r,xs=x::r∧HasT K W H d x∧HasTL K W H ds r
def RAP (K:PySem.W.Frag) (xw:XW) (W:WS) (H:Hp) (r:Res (List D)) (Q:List V→Hp→Prop):Prop:=match r with
 | .ok ds=>∀ vs H',Same H H'→HasTL K W H' ds vs→Q vs H'
 | .ex c fs=>∀ H',Same H H'→xw c fs H'
 | .stuck=>False
structure XAP (X:Cx) (xw:XW) (es:List Expr) (f:DSt→Res (List D)):Prop where
 h:PA X es fun σ H Q=>∃ W₀ H₀ W δ,StHas X.K W₀ H₀ W H σ δ∧RAP X.K xw W H (f δ) Q
end
end L3
namespace L3
open PySem PySem.Spec PyProof.Rows L2 SeqAt
section
variable {α β:Type}
def tGet (l:List (Key×α)) (k:Key):Option α:=(l.find? fun p=>decide (p.1=k)).map (·.2)
def tHas (l:List (Key×α)) (k:Key):Bool:=l.any fun p=>decide (p.1=k)
def tPut (l:List (Key×α)) (k:Key) (y:α):List (Key×α):=if tHas l k=true then l.map (fun p=>if p.1=k then (p.1,y) else p) else l++ [(k,y)]
theorem Az6U {p:Key×α} {r:List (Key×α)} {k:Key} (e:p.1=k):tGet (p::r) k=some p.2:=by simp [tGet,List.find?_cons,e]
theorem Az6V {p:Key×α} {r:List (Key×α)} {k:Key} (e:¬ p.1=k):tGet (p::r) k=tGet r k:=by simp [tGet,List.find?_cons,e]
theorem Az9L (k:Key):∀ l:List (Key×α),tHas l k=(tGet l k).isSome
 | []=>rfl
 |p::r=>by
  by_cases e:p.1=k
  ·rw [Az6U e];simp [tHas,e]
  ·rw [Az6V e,←Az9L k r];simp [tHas,e]
theorem Bz6O (l:List (Key×α)) (k:Key) (y:α):(tPut l k y).length≤l.length+1:=by
 unfold tPut;split
 ·rw [List.length_map];omega
 ·simp
end
theorem kv_get {kvs:List (Key×V)} {vs:List (Key×Value)} (r:KV kvs vs) (k:Key):(∀ v,tGet kvs k=some v→∃ u,valueAt vs k=some u∧RelV v u)∧(tGet kvs k=none→valueAt vs k=none):=by
 unfold KV at r
 induction r with
 |nil=>exact ⟨(fun v e=>by cases e),fun _=>rfl⟩
 |@cons p q ps qs h t ih=>
  obtain ⟨h1,h2⟩:=h
  by_cases e:p.1=k
  ·have b:valueAt (q::qs) k=some q.2:=by simp [valueAt,List.find?_cons,h1.symm.trans e]
   rw [Az6U e,b]
   exact ⟨fun v z=>by cases z;exact ⟨_,rfl,h2⟩,fun z=>by cases z⟩
  ·have e':¬ q.1=k:=fun z=>e (h1.trans z)
   have b:valueAt (q::qs) k=valueAt qs k:=by simp [valueAt,List.find?_cons,e']
   rw [Az6V e,b];exact ih
theorem kv_has {kvs:List (Key×V)} {vs:List (Key×Value)} (r:KV kvs vs) (k:Key):tHas kvs k=vs.any fun p=>decide (p.1=k):=by
 unfold KV at r
 induction r with
 |nil=>rfl
 |cons h t ih=>unfold tHas at ih ⊢;rw [List.any_cons,List.any_cons,ih,h.1]
theorem kv_put {kvs:List (Key×V)} {vs:List (Key×Value)} (r:KV kvs vs) (k:Key) {y:V} {u:Value} (ry:RelV y u):KV (tPut kvs k y) (stored vs k u):=by
 unfold tPut stored
 rw [kv_has r k]
 by_cases e:(vs.any fun p=>decide (p.1=k))=true
 ·rw [if_pos e,if_pos e]
  unfold KV at r ⊢
  clear e
  induction r with
  |nil=>exact .nil
  |@cons p q ps qs h t ih=>
   rw [List.map_cons,List.map_cons]
   refine .cons ?_ ih
   obtain ⟨h1,h2⟩:=h
   by_cases e:p.1=k
   ·rw [if_pos e,if_pos (h1.symm.trans e)];exact ⟨h1,ry⟩
   ·rw [if_neg e,if_neg (fun z=>e (h1.trans z))];exact ⟨h1,h2⟩
 ·rw [if_neg e,if_neg e]
  unfold KV at r ⊢
  clear e
  induction r with
  |nil=>exact .cons ⟨rfl,ry⟩ .nil
  |cons h t ih=>exact .cons h ih
theorem kv_len {kvs:List (Key×V)} {vs:List (Key×Value)} (r:KV kvs vs):kvs.length=vs.length:=by
 unfold KV at r
 induction r with
 |nil=>rfl
 |cons h t ih=>rw [List.length_cons,List.length_cons,ih]
section
variable {K:PySem.W.Frag} {W:WS} {H:Hp}
def HasP (K:PySem.W.Frag) (W:WS) (H:Hp) (l:List (Key×D)) (kvs:List (Key×V)):Prop:=kvs.map (·.1)=l.map (·.1)∧HasL K W H (l.map (·.2)) (kvs.map (·.2))
theorem HasP.nil:HasP K W H [] []:=⟨rfl,HasL.nil⟩
theorem HasP.cons {p:Key×D} {l:List (Key×D)} {kvs:List (Key×V)} (h:HasP K W H (p::l) kvs):∃ v r,kvs=(p.1,v)::r∧Has K W H p.2 v∧HasP K W H l r:=by
 obtain ⟨h1,h2⟩:=h
 cases kvs with
 |nil=>cases h1
 |cons q r=>
  rw [List.map_cons,List.map_cons] at h1 h2
  rw [HasL] at h2
  obtain ⟨x,t,e,g1,g2⟩:=h2
  cases e
  have h3:=List.cons.inj h1
  exact ⟨q.2,r,by rw [←h3.1],g1,h3.2,g2⟩
theorem HasP.mk {k:Key} {d:D} {v:V} {l:List (Key×D)} {kvs:List (Key×V)} (h:Has K W H d v) (t:HasP K W H l kvs):HasP K W H ((k,d)::l) ((k,v)::kvs):=⟨by rw [List.map_cons,List.map_cons,t.1],by rw [List.map_cons,List.map_cons];exact HasL.cons h t.2⟩
theorem HasP.len {l:List (Key×D)} {kvs:List (Key×V)} (h:HasP K W H l kvs):l.length=kvs.length:=by
 have:=congrArg List.length h.1
 simpa using this.symm
theorem HasP.of {ks:List Key} {ds:List D} {kvs:List (Key×V)} (h1:kvs.map (·.1)=ks) (h2:HasL K W H ds (kvs.map (·.2))):HasP K W H (ks.zip ds) kvs∧(ks.zip ds).map (·.1)=ks∧(ks.zip ds).map (·.2)=ds:=by
 have hl:ks.length=ds.length:=by rw [←h1,h2.length,List.length_map,List.length_map]
 have e1:(ks.zip ds).map (·.1)=ks:=by rw [←List.unzip_fst,List.unzip_zip hl]
 have e2:(ks.zip ds).map (·.2)=ds:=by rw [←List.unzip_snd,List.unzip_zip hl]
 exact ⟨⟨by rw [e1,h1],by rw [e2];exact h2⟩,e1,e2⟩
theorem HasP.keep {W':WS} {H':Hp} {l:List (Key×D)} {kvs:List (Key×V)} (k:Keep W H H') (w:WL W H) (hw:∀ b,W' b→W b∨H b=none) (h:HasP K W H l kvs):HasP K W' H' l kvs:=⟨h.1,HasL.keep k w hw h.2⟩
theorem HasP.same {H':Hp} {l:List (Key×D)} {kvs:List (Key×V)} (h:HasP K W H l kvs) (k:Same H H') (w:WL W H):HasP K W H' l kvs:=⟨h.1,h.2.same k w⟩
theorem HasP.get:∀ {l:List (Key×D)} {kvs:List (Key×V)},HasP K W H l kvs→∀ (k:Key),(∀ d,tGet l k=some d→∃ v,tGet kvs k=some v∧Has K W H d v)∧(tGet l k=none→tGet kvs k=none)
 | [],kvs,h,k=>by
  obtain ⟨h1,_⟩:=h
  cases kvs with
  |nil=>exact ⟨(fun d e=>by cases e),fun _=>rfl⟩
  |cons _ _=>cases h1
 |p::l,kvs,h,k=>by
  obtain ⟨v,r,rfl,h1,h2⟩:=h.cons
  by_cases e:p.1=k
  ·rw [Az6U e,Az6U (p:=(p.1,v)) e]
   exact ⟨fun d z=>by cases z;exact ⟨v,rfl,h1⟩,fun z=>by cases z⟩
  ·rw [Az6V e,Az6V (p:=(p.1,v)) e];exact h2.get k
theorem HasP.has {l:List (Key×D)} {kvs:List (Key×V)} (h:HasP K W H l kvs) (k:Key):tHas kvs k=tHas l k:=by
 have:=h.1
 unfold tHas
 rw [show (kvs.any fun p=>decide (p.1=k))=(kvs.map (·.1)).any (fun z=>decide (z=k)) by rw [List.any_map];rfl,this,List.any_map];rfl
theorem HasP.put {l:List (Key×D)} {kvs:List (Key×V)} {d:D} {v:V} (h:HasP K W H l kvs) (k:Key) (hd:Has K W H d v):HasP K W H (tPut l k d) (tPut kvs k v):=by
 unfold tPut
 rw [h.has k]
 split
 ·rename_i hh;clear hh
  induction l generalizing kvs with
  |nil=>
   obtain ⟨h1,_⟩:=h
   cases kvs with
   |nil=>exact HasP.nil
   |cons _ _=>cases h1
  |cons p l ih=>
   obtain ⟨u,r,rfl,h1,h2⟩:=h.cons
   rw [List.map_cons,List.map_cons]
   by_cases e:p.1=k
   ·rw [if_pos e,if_pos e];exact HasP.mk hd (ih h2)
   ·rw [if_neg e,if_neg e];exact HasP.mk h1 (ih h2)
 ·rename_i hh;clear hh
  induction l generalizing kvs with
  |nil=>
   obtain ⟨h1,_⟩:=h
   cases kvs with
   |nil=>exact HasP.mk hd HasP.nil
   |cons _ _=>cases h1
  |cons p l ih=>
   obtain ⟨u,r,rfl,h1,h2⟩:=h.cons
   exact HasP.mk h1 (ih h2)
end
section
variable {X:Cx} {xw:XW} {a b e ie:Expr} {pos p p1 p2:Pos} {fa fb f fi:DSt→Res D}
theorem key_is {P:Program} {w:World} {k:Key} {u:Value} (r:RelV (kV k) u):(Az3W P w).is k u=true:=Cz6Z r
theorem rd_dk {P:Program} {w:World} {H:Hp} {h:Heap} {a:Addr} {kvs:List (Key×V)} (ok:HOk P w H h) (e:Rd H a (.dK kvs)):kvs.length≤sizeLine∧(a==sysModules)=false∧∃ vs,KV kvs vs∧h.DictOf (Az3W P w) a vs:=by
 rcases e with e|⟨o,e⟩
 ·exact ok a _ e
 ·exact (show _∧_ from ok a _ e).2
theorem Rd.same {H H':Hp} {a:Addr} {u:HO} (h:Rd H a u) (k:Same H H'):Rd H' a u:=h.imp (k _ _) fun ⟨o,e⟩=>⟨o,k _ _ e⟩
def rSetQ:V→V→V→Hp→(Hp→Prop)→Prop:=fun o i v H Q=>∃ a kvs k,o= .ref a∧i=kV k∧H a=some (.dK kvs)∧kvs.length<sizeLine∧Q (upd H a (.dK (tPut kvs k v)))
theorem Cz3V:PSet X rSetQ:=by
 intro pins s σ H o i v ov iv u Q I ro ri rv h
 obtain ⟨a,kvs,k,rfl,rfl,ha,hl,q⟩:=h
 cases ro
 obtain ⟨z,hS,vs,rel,dd⟩:=I.hok _ _ ha
 refine wpAny_setItem_pairs (hsz:=by rw [←kv_len rel];exact z) (key_is ri) dd fun h' dd' hs=>⟨_,?_,q⟩
 refine I.write (x:=a) (e:=a) (by rw [ha];exact trivial) (.inl rfl) (fun b' w hb hw=>(hs.2 b' hb).trans hw) ?_ ?_
 ·obtain ⟨ob,_,_,hq,_⟩:=dd';exact ⟨ob,hq⟩
 ·exact ⟨by have:=Bz6O kvs k v;omega,hS,_,kv_put rel k rv,dd'⟩
def RQ (K:PySem.W.Frag) (xw:XW) (W:WS) (H:Hp) (r:Res (List (Key×D))) (Q:VK):Prop:=match r with
 | .ok l=>∀ a kvs H',Same H H'→Rd H' a (.dK kvs)→HasP K W H' l kvs→Q (.ref a) H'
 | .ex c fs=>∀ H',Same H H'→xw c fs H'
 | .stuck=>False
def tDQ (K:PySem.W.Frag) (xw:XW) (f:DSt→Res (List (Key×D))):TE:=fun σ H Q=>∃ W₀ H₀ W δ,StHas K W₀ H₀ W H σ δ∧RQ K xw W H (f δ) Q
structure XQ (X:Cx) (xw:XW) (e:Expr) (f:DSt→Res (List (Key×D))):Prop where
 h:PE X e (tDQ X.K xw f)
def slotQ (i:Nat):DSt→Res (List (Key×D)):=fun δ=>match δ[i]? with
 |some (some (.q ks ds))=> .ok (ks.zip ds)
 |some (some (.d (.dct ks ds)))=> .ok (ks.zip ds)
 |_=> .stuck
theorem q_var (i:Nat) {x:Str} (hN:X.N[i]? =some x:=by rfl) (hv:Vis X.env.scope x:=by first|exact Or.inl rfl|exact Or.inr (Or.inl rfl)|exact Or.inr (Or.inr rfl)) (hd:(x==("__debug__":Str))=false:=by decide)
  (hcd:(x==("__classdict__":Str))=false:=by decide):XQ X xw (.Name x pos) (slotQ i):=
 ⟨PE.weak (pe_var hN hv hd hcd) fun σ H Q ⟨W₀,H₀,W,δ,st,q⟩=>by
  unfold slotQ at q
  split at q
  ·rename_i ks ds h
   obtain ⟨v,e1,a,kvs,rfl,r2,r3,r4,r5,r6⟩:=st.at' i _ h
   exact ⟨_,e1,q a kvs H (Same.refl H) (.inl r4) (HasP.of r5 r6).1⟩
  ·rename_i ks ds h
   obtain ⟨v,e1,r⟩:=st.at' i _ h
   have r':Has X.K W H (.dct ks ds) v:=r
   rw [Has] at r'
   obtain ⟨a,kvs,rfl,r4,r5,r6⟩:=r'
   exact ⟨_,e1,q a kvs H (Same.refl H) (.inr r4) (HasP.of r5 r6).1⟩
  ·exact q.elim⟩
theorem HasT.dct {K:PySem.W.Frag} {W:WS} {H:Hp} {ks:List Key} {ds:List D} {v:V} (h:HasT K W H (.dct ks ds) v):Has K W H (.dct ks ds) v:=by
 rcases h with h|⟨_,_,_,h1,_⟩
 ·exact h
 ·cases h1
def b1Q {α:Type} (op:D→Res α) (f:DSt→Res D):DSt→Res α:=fun δ=>(f δ).bind op
def b2Q {α:Type} (op:List (Key×D)→D→Res α) (f:DSt→Res (List (Key×D))) (g:DSt→Res D):DSt→Res α:=fun δ=>(f δ).bind fun l=>(g δ).bind fun d=>op l d
theorem Bz2X {K:PySem.W.Frag} {W:WS} {H:Hp} {d:D} {v:V} {k:Key} (h:HasT K W H d v) (e:keyD d=some k):v=kV k:=by
 cases d with
 |int i=>cases e;exact h.int
 |str x=>cases e;exact h.str
 |_=>cases e
def sOwnQ (i:Nat):DSt→Out:=fun δ=> .nx (δ.set i (some (.q [] [])))
theorem Cz7R {t:TE} (ht:∀ σ H Q,t σ H Q→∀ a,H a=none→Q (.ref a) (upd H a (.dK []))):PE X (.Dict [] [] pos) t:=by
 intro pins s σ H Q I q
 have big:sysModules<s.heap.objs.size:=by
  have h:mainGlobals<s.heap.objs.size:=(I.mod.glob.keeps I.bk).lt
  exact Nat.lt_trans (by decide) h
 exact wpAny_Dict_empty ⟨.ref s.heap.objs.size,_,I.laid (a:=s.heap.objs.size) (o:= .dK []) (t':=s.toks) (fun _ _ q=>Heap.get?_push_of_some _ q) (Nat.le_refl _) (Cz5R s.heap big),rfl,ht σ H Q q _ (I.hok.fresh (Nat.le_refl s.heap.objs.size))⟩
theorem s_ownQ (i:Nat) {x:Str} {pos' pos'':Pos} (hN:X.N.Nodup) (hi:X.N[i]? =some x:=by rfl) (hx:Loc X.env.scope x:=by first|exact Or.inl rfl|exact Or.inr rfl) (hs:swapsWith (.Dict [] [] pos'') (some (.Name x pos')) pos.line X.env=pure false:=by rfl)
  (hf:X.fn x=true∨X.env.scope.names.lookup x=some .local:=by first|exact .inl rfl|exact .inr rfl|assumption):XS X xw (.Assign [.Name x pos'] (.Dict [] [] pos'') pos) (sOwnQ i):=
 ⟨PS.weak (ps_set hN hi hx (Cz7R (t:=fun _ H Q=>∀ a,H a=none→Q (.ref a) (upd H a (.dK []))) fun _ _ _ q=>q) hs hf) fun Dn σ H ⟨W₀,H₀,W,δ,st,q⟩=>by
  intro a ha
  have st1:=st.ownQ (i:=i) (ks:= []) (ds:= []) (kvs:= []) ha rfl HasL.nil
  have q':RS X.K xw W₀ H₀ W H (.nx (δ.set i (some (.q [] [])))) Dn:=q
  refine q' _ _ _ ⟨fun b o e nb=> ?_,fun b z=>z.elim .inl fun z=> .inr (by rw [z];exact ha)⟩ st1
  rw [upd_ne (Az0J e ha)];exact e⟩
def putJ (i:Nat) (δ:DSt) (l:List (Key×D)) (d ix:D):Out:=match keyD ix with
 |some k=>if l.length≤1000 then .nx (δ.set i (some (.q ((tPut l k d).map (·.1)) ((tPut l k d).map (·.2))))) else .stuck
 |none=> .stuck
def putO (i:Nat) (fi:DSt→Res D) (δ:DSt) (d:D):Out:=match δ[i]? with
 |some (some (.q ks ds))=>ofR (fi δ) (putJ i δ (ks.zip ds) d)
 |_=> .stuck
def sPutI (i:Nat) (fi f:DSt→Res D):DSt→Out:=fun δ=>ofR (f δ) (putO i fi δ)
theorem s_puti (i:Nat) {x:Str} (he:XE X xw e f) (hi:XE X xw ie fi) (hN:X.N[i]? =some x:=by rfl) (hv:Vis X.env.scope x:=by first|exact Or.inl rfl|exact Or.inr (Or.inl rfl)|exact Or.inr (Or.inr rfl)) (hd:(x==("__debug__":Str))=false:=by decide)
  (hcd:(x==("__classdict__":Str))=false:=by decide)
  (ha:∀ v,assign (.Subscript (.Name x p1) ie p2) X.env v=(do
   let ov ←holding [v] (eval (.Name x p1) X.env)
   let iv ←holding [v,ov] (eval ie X.env)
   standAt p2
   holding [v,ov,iv] (setItem ov iv v)
   release [v,ov,iv] []):=by intro _;rfl)
  (hs:swapsWithSole [.Subscript (.Name x p1) ie p2] e pos.line X.env=pure false:=by rfl) (hw:swappedStores [.Subscript (.Name x p1) ie p2] e X.env=pure none:=by rfl)
  (h1:(assignEach [.Subscript (.Name x p1) ie p2] X.env).map (·.2)= [assign (.Subscript (.Name x p1) ie p2) X.env]:=by rfl):
  XS X xw (.Assign [.Subscript (.Name x p1) ie p2] e pos) (sPutI i fi f):=
 ⟨PS.weak (ps_asg he.h (pg_sub (pe_var hN hv hd hcd) hi.h Cz3V ha) hs hw h1) fun Dn σ H ⟨W₀,H₀,W,δ,st,q⟩=>by
  unfold sPutI at q
  refine Az7T st q fun H2 d v st2 hv q2=> ?_
  unfold putO at q2
  split at q2
  ·rename_i ks ds h
   obtain ⟨v0,e1,a,kvs,rfl,r2,r3,r4,r5,r6⟩:=st2.at' i _ h
   refine ⟨_,e1,W₀,H₀,W,δ,st2,?_⟩
   cases hf:fi δ with
   |stuck=>rw [hf] at q2;exact q2.elim
   |ex c gs=>rw [hf] at q2;exact fun H3 k3=>q2 H3 (st2.fr.ext.trans k3)
   |ok ix=>
    rw [hf] at q2
    have q3:RS X.K xw W₀ H₀ W H2 (putJ i δ (ks.zip ds) d ix) Dn:=q2
    unfold putJ at q3
    split at q3
    ·rename_i k hk
     split at q3
     ·rename_i hlen
      intro vi H3 k3 hvi
      have hkk:=Bz2X (.inl hvi) hk
      subst hkk
      have st3:=st2.same k3
      obtain ⟨v',e1',a',kvs',e',r2',r3',r4',r5',r6'⟩:=st3.at' i _ h
      rw [e1] at e1'
      cases e1'
      cases e'
      have hp:=(HasP.of r5' r6').1
      have hp2:=hp.put k (hv.same k3 st2.fr.wl)
      refine ⟨a,kvs',k,rfl,rfl,r4',by have:=hp.len;rw [sizeLine_eq];omega,?_⟩
      refine q3 W _ σ ⟨fun b o e n=> ?_,fun _ z=> .inl z⟩ ?_
      ·rw [upd_ne (fun z=>n (by rw [z];exact r2'))];exact k3 _ _ e
      ·exact st3.changeQ h e1 r2' hp2.1 hp2.2
     ·exact q3.elim
    ·exact q3.elim
  ·exact q2.elim⟩
def frzD (i:Nat) (δ:DSt):DSt:=match δ[i]? with
 |some (some (.q ks ds))=>δ.set i (some (.d (.dct ks ds)))
 |some (some (.o ds))=>δ.set i (some (.d (.lst ds)))
 |_=>δ
theorem StHas.frzQ {K:PySem.W.Frag} {W₀ W:WS} {H₀ H:Hp} {σ:L2.St} {δ:DSt} {i:Nat} {ks:List Key} {ds:List D} {a:Addr} {kvs:List (Key×V)} (o:Obj) (h:StHas K W₀ H₀ W H σ δ) (hi:δ[i]? =some (some (.q ks ds))) (hs:σ[i]? =some (some (.ref a)))
  (hW:W a) (h4:kvs.map (·.1)=ks) (h5:HasL K W H ds (kvs.map (·.2))):StHas K W₀ H₀ (fun b=>W b∧b≠a) (upd H a (.frz o (.dK kvs))) σ (δ.set i (some (.d (.dct ks ds)))):=by
 have kk:Keep W H (upd H a (.frz o (.dK kvs))):=fun b u e n=>by rw [upd_ne (fun z=>n (by rw [z];exact hW))];exact e
 refine h.freezeH (owq ks ds) hi hs ?_
 rw [Has]
 exact ⟨a,kvs,rfl,⟨o,Az0L⟩,h4,HasL.keep kk h.fr.wl (fun b z=> .inl z.1) h5⟩
theorem Step.less {W W1 W2:WS} {H H2:Hp} (hw:∀ b,W1 b→W b) (k:Step W1 H W2 H2):Step W H W2 H2:=⟨fun b o e n=>k.keep b o e fun z=>n (hw b z),fun b z=>(k.new b z).imp (hw b) id⟩
theorem RS.less {K:PySem.W.Frag} {xw:XW} {W₀ W W1:WS} {H₀ H:Hp} {o:Out} {Dn:Ends} (hw:∀ b,W1 b→W b) (q:RS K xw W₀ H₀ W H o Dn):RS K xw W₀ H₀ W1 H o Dn:=by
 cases o with
 |nx δ=>exact fun W' H' σ k s=>q W' H' σ (k.less hw) s
 |bk δ=>exact fun W' H' σ k s=>q W' H' σ (k.less hw) s
 |ct δ=>exact fun W' H' σ k s=>q W' H' σ (k.less hw) s
 |rt d=>exact q
 |ex c fs=>exact q
 |stuck=>exact q
def sFrz (i:Nat) (g:DSt→Out):DSt→Out:=fun δ=>g (frzD i δ)
theorem RS.note {K:PySem.W.Frag} {xw:XW} {W₀ W:WS} {H₀ H:Hp} {o:Out} {Dn:Ends} {a:Addr} {ob:HO} (hW:W a) (q:RS K xw W₀ H₀ W H o Dn):RS K xw W₀ H₀ (fun b=>W b∧b≠a) (upd H a ob) o Dn:=by
 have st:∀ W' H',Step (fun b=>W b∧b≠a) (upd H a ob) W' H'→Step W H W' H':=fun W' H' k=>⟨fun b u e n=>by
   have hb:b≠a:=fun z=>n (by rw [z];exact hW)
   exact k.keep b u (by rw [upd_ne hb];exact e) fun z=>n z.1,fun b z=>by
   rcases k.new b z with z|z
   ·exact .inl z.1
   ·by_cases hb:b=a
    ·rw [hb,Az0L] at z;cases z
    ·rw [upd_ne hb] at z;exact .inr z⟩
 cases o with
 |nx δ=>exact fun W' H' σ k s=>q W' H' σ (st _ _ k) s
 |bk δ=>exact fun W' H' σ k s=>q W' H' σ (st _ _ k) s
 |ct δ=>exact fun W' H' σ k s=>q W' H' σ (st _ _ k) s
 |rt d=>exact q
 |ex c fs=>exact q
 |stuck=>exact q
theorem Cz5H {i:Nat} {g:DSt→Out} {Dn:Ends} {σ:L2.St} {H:Hp} {pins:List (Addr×Obj)} {s:Shared} (I:Inv X pins σ H s) (h:tDS X.K xw (sFrz i g) Dn σ H):∃ H',Inv X pins σ H' s∧tDS X.K xw g Dn σ H':=by
 obtain ⟨W₀,H₀,W,δ,st,q⟩:=h
 have q':RS X.K xw W₀ H₀ W H (g (frzD i δ)) Dn:=q
 unfold frzD at q'
 split at q'
 ·rename_i ks ds h
  obtain ⟨v,e,a,kvs,rfl,r2,r3,r4,r5,r6⟩:=st.at' i _ h
  have ok:=I.hok _ _ r4
  obtain ⟨z,hS,vs,rel,dd⟩:=id ok
  obtain ⟨o,es,ep,ho,_⟩:=dd
  refine ⟨_,I.write (x:=a) (e:=a) (o:= .frz o (.dK kvs)) (h':=s.heap) (t':=s.toks) (by rw [r4];exact trivial) (.inl rfl) (fun b' u hb hu=>hu) ⟨_,ho⟩ ⟨ho,ok⟩,W₀,H₀,_,_,st.frzQ o h e r2 r5 r6,RS.note r2 q'⟩
 ·rename_i ds h
  obtain ⟨v,e,a,xs,rfl,_⟩:=st.at' i _ h
  exact ⟨H,I,W₀,H₀,_,_,(st.freeze h e).1,RS.less (fun b z=>z.1) q'⟩
 ·exact ⟨H,I,W₀,H₀,W,δ,st,q'⟩
theorem s_frz (i:Nat) {st:Stmt} {g:DSt→Out} (h:XS X xw st g):XS X xw st (sFrz i g):=⟨fun pins s σ H Dn I q=>let ⟨H',I',q'⟩:=Cz5H I q;h.h pins s σ H' Dn I' q'⟩
end
end L3
namespace L3
open PySem PySem.Spec PyProof.Rows L2 SeqAt
theorem is_key {P:Program} {w:World} {k:Key} {u:Value} (h:(Az3W P w).is k u=true):RelV (kV k) u:=by
 rcases Az1C h with ⟨i,t,rfl,rfl⟩|⟨x,t,rfl,rfl⟩
 ·exact ⟨t,rfl⟩
 ·exact ⟨t,rfl⟩
theorem frz_at {P:Program} {w:World} {H:Hp} {h:Heap} {a:Addr} {o:Obj} {kvs:List (Key×V)} {es:Array DictEntry} {ep:Nat} (ok:HOk P w H h) (e:H a=some (.frz o (.dK kvs))) (hd:o.data= .dict es ep):
  (a==sysModules)=false∧∃ vs,KV kvs vs∧h.DictAt (Az3W P w) a vs ep:=by
 obtain ⟨h1,_,h2,vs,r,o',es',ep',g1,g2,g3,g4⟩:=(show _∧_ from ok a _ e)
 rw [h1] at g1;cases g1
 rw [hd] at g3;cases g3
 exact ⟨h2,vs,r,o,es,h1,g2,hd,g4⟩
theorem kv_at {kvs:List (Key×V)} {vs:List (Key×Value)} (r:KV kvs vs) {i:Nat} {p:Key×V} (h:kvs[i]? =some p):∃ u,vs[i]? =some (p.1,u)∧RelV p.2 u:=by
 unfold KV at r
 induction r generalizing i with
 |nil=>cases h
 |@cons p' q ps qs hh t ih=>
  cases i with
  |zero=>cases h;exact ⟨q.2,by rw [List.getElem?_cons_zero,hh.1],hh.2⟩
  |succ i=>exact ih (by simpa using h)
section
variable {X:Cx} {xw:XW} {e b tg:Expr} {f:DSt→Res D} {pos apos:Pos}
def keyOf:Key→D
 | .inl i=> .int i
 | .inr x=> .str x
theorem Cz1A {K:PySem.W.Frag} {W:WS} {H:Hp} (k:Key):Has K W H (keyOf k) (kV k):=by
 cases k with
 |inl i=>show Has K W H (.int i) (.int i);rw [Has]
 |inr x=>show Has K W H (.str x) (.str x);rw [Has]
theorem Cz5I {W W':WS} {H H2:Hp} {a:Addr} {o:Obj} {u:HO} (w:WL W H) (k:Step W H W' H2) (h:H a=some (.frz o u)):H2 a=some (.frz o u):=k.keep _ _ h fun z=>by
 obtain ⟨o',e',m⟩:=w a z
 rw [h] at e';cases e';exact m
def Iti (a:Addr) (o:Obj) (kvs:List (Key×V)):It:=
 ⟨fun i H=>H a=some (.frz o (.dK kvs))∧i<kvs.length,fun i H x H'=>∃ n p,x= .ref n∧H n=none∧kvs[i]? =some p∧H'=upd H n (.tup [kV p.1,p.2]),fun i H=>H a=some (.frz o (.dK kvs))∧i=kvs.length⟩
theorem Az6L:entryFor table "dict_itemiterator.__iter__"=some Builtin.«dict_keyiterator.__iter__» :=
 entryFor_alias (id':="dict_keyiterator.__iter__") (by kernel_rfl) rfl (by decide +kernel) (by kernel_rfl)
theorem Az8S {prog:Program} {w:World} {A:Around} {E:Value→Shared→Prop} {s:Shared} {it d:Addr} {i n ep:Nat} {ok ov:Value} {Q:Value→Shared→Prop} (hit:IsItemIter s.heap it d i n ep ok ov) (h:Q (.ref it) s):wpAny (model prog w) A (pyIter (.ref it)) Q E s:=by
 have hT:s.TypeIs (.ref it) "dict_itemiterator":=⟨_,hit,rfl⟩
 refine wpAny_pyIter_slot hT F.slot_dict_itemiterator_iter (wpAny_call_entry F.slot_dict_itemiterator_iter hT Az6L ?_ (F.args_dict_itemiterator_iter_1 _))
 show wpAny _ _ (ret (.ref it)) _ _ s
 exact wpAny_pure ⟨_,rfl,"dict_itemiterator",_,hT,F.slot_dict_itemiterator_next.lookup,h⟩
theorem Cz6M {P:Program} {w:World} {K:PySem.W.Frag} {elts:List Expr} {kt:Nat} {pt:Pos} {a it:Addr} {o:Obj} {kvs:List (Key×V)} {es:Array DictEntry} {ep:Nat} (hdat:o.data= .dict es ep):
  Turn P w K (.Tuple elts kt pt) (Iti a o kvs) [it] it (fun i h=>∃ ok ov,IsItemIter h it a i kvs.length ep ok ov) where
 mem:=by simp
 obj:=fun i h st b hb=>by
  have e:b=it:=by simpa using hb
  subst e
  obtain ⟨ok,ov,e⟩:=st
  exact ⟨_,e,fun v z=>nomatch z⟩
 keep:=fun i h h' st k=>by
  obtain ⟨ok,ov,e⟩:=st
  exact ⟨ok,ov,k it (by simp) _ e⟩
 item:=by
  intro X hP hw hK hc i pins s σ H E I hf st hg
  subst hP hw hK
  obtain ⟨hq,hi⟩:=hg
  obtain ⟨ok,ov,st⟩:=st
  obtain ⟨_,vs,rel,dat⟩:=frz_at I.hok hq hdat
  obtain ⟨u,hu,ru⟩:=kv_at rel (List.getElem?_eq_getElem hi)
  rw [kv_len rel] at st
  refine wpAny_pyNext_items_item st dat hu fun key h1 hkey eo nw sz kk=>⟨_,rfl,?_⟩
  refine wpAny_letOwnedTupleGo_items (s:= {s with heap:=h1}) eo fun h2 e2 c2=> ?_
  have li:it<s.heap.objs.size:=Heap.lt_size st
  have up:∀ b o,b≠it→h1.get? b=some o→h2.get? b=some o:=fun b o ne q=>c2.extBut _ _ ne q
  rw [←kv_len rel] at e2
  refine ⟨.ref s.heap.objs.size,upd H s.heap.objs.size (.tup [kV (kvs[i]).1,(kvs[i]).2]),?_,rfl,⟨_,_,rfl,I.hok.fresh (Nat.le_refl _),List.getElem?_eq_getElem hi,rfl⟩,⟨_,_,e2⟩,fun b hb=> ?_⟩
  ·show Inv X pins σ (upd H s.heap.objs.size (.tup [kV (kvs[i]).1,(kvs[i]).2])) {s with heap:=h2,toks:=s.toks}
   refine Az9Y (ch:= [it]) (t':=s.toks) I hf (fun b o hb q=> ?_) (Nat.le_refl _) (.cons (is_key hkey) (.cons ru .nil)) (show (2:Nat)≤sizeLine by rw [sizeLine_eq];decide) ⟨_,up _ _ (Nat.ne_of_gt li) nw,rfl,_,rfl⟩
   simp only [List.mem_cons,List.not_mem_nil,or_false] at hb
   exact up _ _ hb (kk b o hb q)
  ·have hb1:=(hf b hb).1
   have:b=it:=by simpa using hb
   subst this
   rw [upd_ne (Nat.ne_of_lt li)];exact hb1
 done:=by
  intro X hP hw hK hc i pins s σ H E I hf st hg
  subst hP hw hK
  obtain ⟨hq,rfl⟩:=hg
  obtain ⟨ok,ov,st⟩:=st
  obtain ⟨_,vs,rel,dat⟩:=frz_at I.hok hq hdat
  rw [kv_len rel] at st
  refine wpAny_pyNext_items_end (I.ok.hd hc) st dat (by simp) fun h' eb=>⟨rfl,Az9X (ch:= [it]) (t':=s.toks) I hf fun b o hb q=> ?_⟩
  exact eb b o (by simpa using hb) q
 self:=fun _ _ _ _ _ st h=>let ⟨_,_,e⟩:=st;Az8S e h
variable {elts:List Expr} {kt:Nat} {pt:Pos}
def iQi (te:TE):TI:=fun σ H R=>te σ H fun x H1=>∃ a o kvs,x= .ref a∧H1 a=some (.frz o (.dK kvs))∧R (Iti a o kvs) H1
theorem pi_qi {te:TE} (h:PE X e te) (hbase:attributeBase e "items" X.env (eval e X.env)=eval e X.env) (hline:(apos.endLine==pos.line)=true):PI X (.Tuple elts kt pt) (.Call (.Attribute e "items" apos) [] [] pos) (iQi te):=by
 intro pins s σ H R I h1
 refine wpAny_Call_method0_late hbase hline (thn (h pins s σ H _ I h1) fun v s1 ⟨x,H1,I1,r1,q1⟩=> ?_)
 obtain ⟨a,o,kvs,rfl,hq,q⟩:=q1
 cases r1
 obtain ⟨h1',_,hS,vs',r',o',es,ep,g1,g2,g3,g4⟩:=(show _∧_ from I1.hok a _ hq)
 rw [h1'] at g1;cases g1
 obtain ⟨hs,vs,rel,dat⟩:=frz_at I1.hok hq g3
 refine ⟨"dict","dict.items",F.plainAttrs_dict,F.slot_dict_items,F.type_dict_items,dat.dictOf.typeIs,fun b z=>by cases z;exact ⟨o,h1',g2.2.1⟩,Calls.callWith_builtin rfl (PySem.evalArgs_none ?_)⟩
 refine call_meetsIn F.slot_dict_items dat.dictOf.typeIs F.entry_dict_items (F.args_dict_items_1 _) (meets_dict_items (Az3W X.prog X.w) a hs) ⟨⟨vs,dat.dictOf⟩,?_⟩
 have v1:Heap.IsItemsView (s1.heap.push {cls:= .type "dict_items",data:= .fields #[.ref a]}) s1.heap.objs.size a:=⟨_,Heap.get?_push_size _ rfl,rfl,rfl⟩
 refine wpAny_pyIter_items (s:= {s1 with heap:=s1.heap.push {cls:= .type "dict_items",data:= .fields #[.ref a]}}) v1 (dat.push _) ?_
 have sz:(s1.heap.push {cls:= .type "dict_items",data:= .fields #[.ref a]}).objs.size=s1.heap.objs.size+1:=Heap.size_push ..
 refine ⟨_,[s1.heap.objs.size+1],_,_,H1,by rw [←sz],I1.kept (t':=s1.toks) fun b o e=>Heap.get?_push_of_some _ (Heap.get?_push_of_some _ e),Cz6M g3,⟨.none, .none,?_⟩,fun b hb=> ?_,q⟩
 ·rw [kv_len rel,←sz];exact Heap.get?_push_size _ rfl
 ·have e:b=s1.heap.objs.size+1:=by simpa using hb
  subst e
  exact I1.fpOk (Nat.le_succ _) (I1.hok.fresh (Nat.le_succ _))
def pairsR:D→Res (List D)
 | .dct ks ds=> .ok ((ks.zip ds).map fun p=> .tup [keyOf p.1,p.2])
 |_=> .stuck
theorem iti_ok {K:PySem.W.Frag} {W:WS} {H:Hp} {a:Addr} {o:Obj} {kvs:List (Key×V)} {l:List (Key×D)} (w:WL W H) (h:H a=some (.frz o (.dK kvs))) (hp:HasP K W H l kvs):ItOk K W H (Iti a o kvs) (l.map fun p=> .tup [keyOf p.1,p.2]):=by
 intro W' H2 k w2
 have h2:=Cz5I w k h
 have hl:=hp.len
 refine ⟨fun i d ed=> ?_,h2,by rw [List.length_map,hl]⟩
 have hi:i<l.length:=by
  have:=(List.getElem?_eq_some_iff.mp ed).1
  rw [List.length_map] at this;exact this
 refine ⟨⟨h2,by omega⟩,fun x H3 z=> ?_⟩
 obtain ⟨n,p,rfl,hn,hpi,rfl⟩:=z
 refine ⟨Az1G hn,?_⟩
 rw [List.getElem?_map,List.getElem?_eq_getElem hi] at ed
 cases ed
 have e1:p.1=(l[i]).1:=by
  have:=congrArg (fun z=>z[i]?) hp.1
  simp only [List.getElem?_map,hpi,List.getElem?_eq_getElem hi] at this
  exact Option.some.inj this
 obtain ⟨v,g1,g2⟩:=hp.2.get (i:=i) (d:=(l[i]).2) (by rw [List.getElem?_map,List.getElem?_eq_getElem hi];rfl)
 rw [List.getElem?_map,hpi] at g1
 cases g1
 rw [Has]
 have g3:=(Has.keep k.keep w k.new g2).same (Az1G (o:= .tup [kV p.1,p.2]) hn) w2
 refine ⟨n,[kV p.1,p.2],rfl, .of Az0L,HasL.cons ?_ (HasL.cons g3 HasL.nil)⟩
 rw [e1];exact Cz1A _
theorem Bz4J (h:XE X xw e f) (hbase:attributeBase e "items" X.env (eval e X.env)=eval e X.env:=by rfl) (hline:(apos.endLine==pos.line)=true:=by rfl):XI X xw (.Tuple elts kt pt) (.Call (.Attribute e "items" apos) [] [] pos) (b1Q pairsR f):=⟨PI.weak (pi_qi h.h hbase hline) fun σ H R ⟨W₀,H₀,W,δ,st,q⟩=>by
 refine ⟨W₀,H₀,W,δ,st,?_⟩
 unfold b1Q at q
 cases h1:f δ with
 |stuck=>rw [h1] at q;exact q
 |ex c fs=>rw [h1] at q;exact q
 |ok d=>
  rw [h1] at q
  intro v H1 k1 hv
  cases d with
  |dct ks ds=>
   rw [Has] at hv
   obtain ⟨a,kvs,rfl,⟨o,ea⟩,r5,r6⟩:=hv
   exact ⟨a,o,kvs,rfl,ea,q _ H1 k1 (iti_ok (st.fr.wl.same k1) ea (HasP.of r5 r6).1)⟩
  |_=>exact q.elim⟩
end
end L3
namespace L3
open PySem PySem.Spec PyProof.Rows L2 SeqAt
section
variable {X:Cx} {xw:XW} {pos p pos2 apos:Pos} {a e:Expr} {fa f:DSt→Res D}
theorem Cz1Q (hc:X.calm=true):CallR X (.builtin "sum") (fun xs H Q=>∃ (l:Addr) (ns:List Int),xs= [.ref l]∧SqL X.K H l (ns.map V.int)∧Q (.int ns.sum) H):=by
 intro pins s σ H xs us Q I r h
 obtain ⟨l,ns,rfl,hq,q⟩:=h
 obtain ⟨u,rfl,ru⟩:=vals1 r
 cases ru
 obtain ⟨its,rv,pl,_⟩:=I.list hq
 have hi:=Bz3B rv
 have hl:=pl.isList
 obtain ⟨xs,e⟩:=hi.allInts.items
 have hns:ns=xs.toList.map (·.1):=by
  rw [←hi.numsOf,←nums_intItems,←e]
 rw [e] at hl
 refine sum_intListG (I.ok.hd hc) hl fun h' tk t' hk=> ?_
 refine ⟨.int _,H,I.kept hk,⟨t',rfl⟩,?_⟩
 rw [preSum_eq,List.take_of_length_le (by simp),←hns];exact q
def sumLR:D→Res D
 | .lst ds=>match intsOf ds with
  |some ns=> .ok (.int ns.sum)
  |none=> .stuck
 |_=> .stuck
theorem x_sum (hc:X.calm=true) (hm:X.mg "sum"=none) (ha:XP X xw a fa) (hg:Gl X "sum":=by rfl) (he:starEach [a] X.env=(false,eval a X.env)::starEach [] X.env:=by rfl) (hpl:(backTo pos (starEach [] X.env)).any (·.1)=false:=by rfl):
  XE X xw (.Call (.Name "sum" p) [a] [] pos) (b1 sumLR fa):=
 ⟨Az7P (Cz1Q hc) (fun W H d v Q w hv q=>by
  unfold sumLR at q
  split at q
  ·split at q
   ·rename_i ns hn
    obtain ⟨l,xs,e1,sq,r⟩:=hv.lst
    have:=Az5E hn r
    subst this
    exact ⟨l,ns,by rw [e1],sq,q.int⟩
   ·exact q.elim
  ·exact q.elim) hm (by decide +kernel) ha.h hg (by decide) (by decide) he hpl⟩
def vwO (a:Addr):Obj:= {cls:= .type "dict_values",data:= .fields #[.ref a]}
theorem Cz1J {te:TE} {pins:List (Addr×Obj)} {σ:L2.St} {H:Hp} {s:Shared} {Z:Addr→Obj→List (Key×V)→Hp→Prop} {Q':Value→Shared→Prop} (h:PE X e te) (hbase:attributeBase e "values" X.env (eval e X.env)=eval e X.env) (hline:(apos.endLine==pos.line)=true) (I:Inv X pins σ H s)
  (q:te σ H fun x H1=>∃ a o kvs,x= .ref a∧H1 a=some (.frz o (.dK kvs))∧Z a o kvs H1)
  (k:∀ (s1:Shared) H1 a o kvs (vs:List (Key×Value)) ep,Inv X pins σ H1 s1→(a==sysModules)=false→KV kvs vs→s1.heap.DictAt (Az3W X.prog X.w) a vs ep→Z a o kvs H1→Q' (.ref s1.heap.objs.size) {s1 with heap:=s1.heap.push (vwO a)}):
  wpAny (model X.prog X.w) X.A (eval (.Call (.Attribute e "values" apos) [] [] pos) X.env) Q' X.xe s:=by
 refine wpAny_Call_method0_late hbase hline (thn (h pins s σ H _ I q) fun v s1 ⟨x,H1,I1,r1,q1⟩=> ?_)
 obtain ⟨a,o,kvs,rfl,hq,z⟩:=q1
 cases r1
 obtain ⟨h1',_,hS,vs',r',o',es,ep,g1,g2,g3,g4⟩:=(show _∧_ from I1.hok a _ hq)
 rw [h1'] at g1;cases g1
 obtain ⟨hs,vs,rel,dat⟩:=frz_at I1.hok hq g3
 refine ⟨"dict","dict.values",F.plainAttrs_dict,F.slot_dict_values,F.type_dict_values,dat.dictOf.typeIs,fun b z=>by cases z;exact ⟨o,h1',g2.2.1⟩,Calls.callWith_builtin rfl (PySem.evalArgs_none ?_)⟩
 exact call_meetsIn F.slot_dict_values dat.dictOf.typeIs F.entry_dict_values (F.args_dict_values_1 _) (meets_dict_values (Az3W X.prog X.w) a hs) ⟨⟨vs,dat.dictOf⟩,k s1 H1 a o kvs vs ep I1 hs rel dat z⟩
theorem Cz8P {kvs:List (Key×V)} {vs:List (Key×Value)} {ns:List Int} (r:KV kvs vs) (h:kvs.map (·.2)=ns.map V.int):∀ i k v,vs[i]? =some (k,v)→∃ t,v=Value.int (ns.getD i 0) t:=by
 unfold KV at r
 induction r generalizing ns with
 |nil=>intro i k v e;cases e
 |@cons p q ps qs hh t ih=>
  intro i k v e
  cases ns with
  |nil=>cases h
  |cons n ns=>
   rw [List.map_cons,List.map_cons] at h
   obtain ⟨h1,h2⟩:=List.cons.inj h
   cases i with
   |zero=>
    cases e
    have:=hh.2
    rw [h1] at this
    exact this
   |succ i=>exact ih h2 i k v (by simpa using e)
theorem Cz7P {te:TE} (hc:X.calm=true) (hm:X.mg "sum"=none) (hg:Gl X "sum") (h:PE X e te) (hbase:attributeBase e "values" X.env (eval e X.env)=eval e X.env) (hline:(apos.endLine==pos2.line)=true)
  (he:starEach [.Call (.Attribute e "values" apos) [] [] pos2] X.env=(false,eval (.Call (.Attribute e "values" apos) [] [] pos2) X.env)::starEach [] X.env) (hpl:(backTo pos (starEach [] X.env)).any (·.1)=false):
  PE X (.Call (.Name "sum" p) [.Call (.Attribute e "values" apos) [] [] pos2] [] pos) (fun σ H Q=>te σ H fun x H1=>∃ a o kvs,x= .ref a∧H1 a=some (.frz o (.dK kvs))∧∃ ns:List Int,kvs.map (·.2)=ns.map V.int∧Q (.int ns.sum) H1):=by
 intro pins s σ H Q I q
 refine wpAny_Call_Name_kw (ld_blt I hg hm (show bootBuiltins "sum"=some (.builtin "sum") by decide +kernel) ?_ (by decide) (by decide))
 refine PyProof.Rows.callWith_builtin1 ?_ he hpl
 rw [he]
 show wpAny _ _ (spliced ((false,eval _ X.env)::backTo pos (starEach [] X.env))) _ _ s
 refine Calls.spliced_cons (Cz1J h hbase hline I q fun s1 H1 a o kvs vs ep I1 hs rel dat z=> ?_)
 refine Calls.spliced_nil ?_
 obtain ⟨ns,hns,qn⟩:=z
 have v1:Heap.IsValuesView (s1.heap.push (vwO a)) s1.heap.objs.size a:=⟨_,Heap.get?_push_size _ rfl,rfl,rfl⟩
 have la:a<s1.heap.objs.size:=dat.lt_size
 have sz:(s1.heap.push (vwO a)).objs.size=s1.heap.objs.size+1:=Heap.size_push ..
 refine call_sum_walkG (wpAny_pyIter_values (s:= {s1 with heap:=s1.heap.push (vwO a)}) v1 (dat.push _) ?_)
 have hne:a≠(s1.heap.push (vwO a)).objs.size:=by rw [sz];exact Nat.ne_of_lt (Nat.lt_succ_of_lt la)
 refine ⟨_,_,_,_,_,_,fun i=>ns.getD i 0,rfl,Walks.dictValues (prog:=X.prog) (w:=X.w) (A:=X.A.in1) (knd:=Az3W X.prog X.w) (show X.A.in1.handled=none from I1.ok.hd hc) _ a hne vs ep,⟨⟨_,Heap.get?_push_size _ rfl,rfl,rfl⟩,(dat.push _).push _⟩,fun b hb=> ?_,fun i v ⟨k,e⟩=>Cz8P rel hns i k v e,fun h' tk t' kk=> ?_⟩
 ·simp only [List.mem_cons,List.not_mem_nil,or_false] at hb
  rw [Heap.size_push]
  rcases hb with rfl|rfl
  ·exact Nat.lt_succ_self _
  ·rw [sz];exact Nat.lt_succ_of_lt (Nat.lt_succ_of_lt la)
 ·have hl:vs.length=ns.length:=by
   rw [←kv_len rel];have:=congrArg List.length hns;simpa using this
  refine ⟨.int ns.sum,H1,I1.kept (t':=tk) fun b o e=>kk b o ?_ (Heap.get?_push_of_some _ (Heap.get?_push_of_some _ e)),⟨t',?_⟩,qn⟩
  ·have:=Heap.lt_size e
   simp only [List.mem_cons,List.not_mem_nil,or_false,sz]
   exact Nat.ne_of_lt (Nat.lt_succ_of_lt this)
  ·rw [preSum_getD,hl,List.take_of_length_le (Nat.le_refl _)]
def sumvR:D→Res D
 | .dct _ ds=>match intsOf ds with
  |some ns=> .ok (.int ns.sum)
  |none=> .stuck
 |_=> .stuck
theorem x_sumV (hc:X.calm=true) (hm:X.mg "sum"=none) (h:XE X xw e f) (hg:Gl X "sum":=by rfl) (hbase:attributeBase e "values" X.env (eval e X.env)=eval e X.env:=by rfl) (hline:(apos.endLine==pos2.line)=true:=by rfl)
  (he:starEach [.Call (.Attribute e "values" apos) [] [] pos2] X.env=(false,eval (.Call (.Attribute e "values" apos) [] [] pos2) X.env)::starEach [] X.env:=by rfl) (hpl:(backTo pos (starEach [] X.env)).any (·.1)=false:=by rfl):
  XE X xw (.Call (.Name "sum" p) [.Call (.Attribute e "values" apos) [] [] pos2] [] pos) (b1 sumvR f):=
 ⟨PE.weak (Cz7P hc hm hg h.h hbase hline he hpl) fun σ H Q ⟨W₀,H₀,W,δ,st,q⟩=>by
  refine ⟨W₀,H₀,W,δ,st,?_⟩
  unfold b1 at q
  cases h1:f δ with
  |stuck=>rw [h1] at q;exact q
  |ex c fs=>rw [h1] at q;exact q
  |ok d=>
   rw [h1] at q
   intro v H1 k1 hv
   have q':RE X.K xw W H (sumvR d) Q:=q
   unfold sumvR at q'
   split at q'
   ·rename_i ks ds
    split at q'
    ·rename_i ns hn
     rw [Has] at hv
     obtain ⟨a,kvs,rfl,⟨o,ea⟩,r5,r6⟩:=hv
     exact ⟨a,o,kvs,rfl,ea,ns,Az5E hn r6,(RE.same q' k1).int⟩
    ·exact q'.elim
   ·exact q'.elim⟩
end
end L3
namespace L3
open PySem PySem.Spec PyProof.Rows L2 SeqAt
theorem Bz3Y:Manifest.owners.lookup (String.ofList ['d','e','s','r','e','v','e','r'].reverse)=some Manifest.sig_reversed:=by kernel_rfl
theorem slot_rev_next:Slot "reversed" "__next__" "reversed.__next__":=
 .of (owner:="reversed") (n:="__next__") (by rw [typeLookup_type,builtinLookup_eq_fast];kernel_rfl) (by decide +kernel) (by decide +kernel) (by decide +kernel)
  (by first|exact .inl (by decide +kernel)|exact .inr (by decide +kernel)) (by rw [isSubtype_type];kernel_rfl)
theorem Az6K:entryFor table "reversed.__next__"=some Builtin.«reversed.__next__» :=entryFor_of_tree (by kernel_rfl)
theorem Az7K (a:Value):argsOk "reversed.__next__" ⟨[a],[]⟩:=by
 unfold argsOk;rw [signature?_of (id:="reversed.__next__") (n:= ['_','_','t','x','e','n','_','_']) (o:= ['d','e','s','r','e','v','e','r']) (by kernel_rfl) Bz3Y];kernel_rfl
theorem Az7D:Slot "reversed" "__iter__" "reversed.__iter__":=
 .of (owner:="reversed") (n:="__iter__") (by rw [typeLookup_type,builtinLookup_eq_fast];kernel_rfl) (by decide +kernel) (by decide +kernel) (by decide +kernel)
  (by first|exact .inl (by decide +kernel)|exact .inr (by decide +kernel)) (by rw [isSubtype_type];kernel_rfl)
theorem Bz1U (a:Value):argsOk "reversed.__iter__" ⟨[a],[]⟩:=by
 unfold argsOk;rw [signature?_of (id:="reversed.__iter__") (n:= ['_','_','r','e','t','i','_','_']) (o:= ['d','e','s','r','e','v','e','r']) (by kernel_rfl) Bz3Y];kernel_rfl
theorem Bz0D:entryFor table "reversed.__iter__"=some Builtin.«dict_keyiterator.__iter__» :=
 entryFor_alias (id':="dict_keyiterator.__iter__") (by kernel_rfl) (by first|rfl|decide +kernel|(unfold String.splitOn;simp +decide [String.splitOnAux])) (by decide +kernel) (by kernel_rfl)
theorem Bz5A:typeLookup (.type "tuple") "__reversed__"=pure none:=by rw [typeLookup_type,builtinLookup_eq_fast];kernel_rfl
theorem Bz2B:isSubtype (.type "tuple") (.type "dict")=pure false:=by rw [isSubtype_type];kernel_rfl
def rvO (l:Addr) (i:Int):Obj:= {cls:= .type "reversed",data:= .fields #[.ref l,rawInt i]}
def IsRv (h:Heap) (a l:Addr) (i:Int):Prop:=∃ o,h.get? a=some o∧o.cls= .type "reversed"∧o.data= .fields #[.ref l,rawInt i]
theorem IsRv.typeIs {s:Shared} {a l:Addr} {i:Int} (x:IsRv s.heap a l i):s.TypeIs (.ref a) "reversed":=let ⟨o,ho,hc,_⟩:=x;⟨o,ho,hc⟩
theorem IsRv.at {h h':Heap} {a l:Addr} {i:Int} (x:IsRv h a l i) (e:∀ o,h.get? a=some o→h'.get? a=some o):IsRv h' a l i:=let ⟨o,ho,r⟩:=x;⟨o,e _ ho,r⟩
section
variable {prog:Program} {w:World} {A:Around} {E:Value→Shared→Prop} {s:Shared}
theorem Bz0N:Slot "reversed" "__init__" "object.__init__":=
 .of (owner:="object") (n:="__init__") (by rw [typeLookup_type,builtinLookup_eq_fast];kernel_rfl) (by decide +kernel) (by decide +kernel) (by decide +kernel)
  (by first|exact .inl (by decide +kernel)|exact .inr (by decide +kernel)) (by rw [isSubtype_type];kernel_rfl)
theorem Bz9G:TypeCalled "reversed" "reversed.__new__" "object.__init__":=
 ⟨by decide +kernel,F.create_reversed,⟨_,_,F.mro_reversed⟩,F.made_reversed,F.plain_reversed_new,F.sub_reversed_self,Bz0N⟩
theorem Cz6Y {l:Addr} {items:Array Value} (hsz:(items.size:Int)<2^63):Meets (Builtin.«reversed.__new__» ⟨[.type "reversed", .ref l],[]⟩) (fun _ R s=>IsTup s.heap l items∧
   ∀ tk,R (.ok (.ret (.ref s.heap.objs.size))) {s with heap:=s.heap.push (rvO l ((items.size:Int)-1)),toks:=tk}):=
 .of_wp fun prog w A R s h=>by
  obtain ⟨hl,h⟩:=h
  unfold Builtin.«reversed.__new__»
  refine wpAny_bind (wpAny_of_eq (newClass_reversed _) ?_)
  try dsimp only
  refine wpAny_bind (wpAny_of_eq (a:=()) (by first|rfl|kernel_rfl) ?_)
  refine wpAny_bind (wpAny_of_eq (a:=()) (by first|rfl|kernel_rfl) ?_)
  try dsimp only
  have hT:s.TypeIs (.ref l) "tuple":=let ⟨o,h1,h2,_⟩:=hl;⟨o,h1,h2⟩
  have n1:=Bz5A
  have n2:=Bz2B
  have n3:=F.slot_tuple_getitem.lookup
  unfold call
  generalize hCL:@runValue=CL
  wp_walk
  subst hCL
  show wpAny _ _ (call (.builtin "len") [.ref l]) _ _ s
  refine len_tuple hl hsz ?_
  wp_walk
  exact ⟨_,rfl,h _⟩
theorem Cz6B {l:Addr} {items:Array Value} {Q:Value→Shared→Prop} (hl:IsTup s.heap l items) (hsz:(items.size:Int)<2^63)
  (h:∀ tk,Q (.ref s.heap.objs.size) {s with heap:=s.heap.push (rvO l ((items.size:Int)-1)),toks:=tk}):wpAny (model prog w) A (call (.type "reversed") [.ref l]) Q E s:=by
 refine callType_new Bz9G (by decide) (F.typeCall_reversed_1 _) (F.newCall_reversed_1 _) (fun obj=>F.args_object_init_2 obj _) F.entry_reversed_new (Cz6Y hsz) ⟨hl,fun tk=> ?_⟩
 exact ⟨⟨_,Heap.get?_push_size _ rfl,rfl⟩,h tk⟩
theorem Cz4P {it l:Addr} {i:Nat} {items:Array Value} {x:Value} {Q:Option Value→Shared→Prop} (hit:IsRv s.heap it l (i:Int)) (hl:IsTup s.heap l items) (hx:items[i]? =some x) (hsz:(items.size:Int)<2^63)
  (hQ:∀ h' tk,IsRv h' it l ((i:Int)-1)→Heap.SameBut it s.heap h'→Q (some x) {s with heap:=h',toks:=tk}):wpAny (model prog w) A (pyNext (.ref it)) Q E s:=by
 obtain ⟨o,ho,hc,hd⟩:=id hit
 unfold pyNext
 refine wpAny_bind (wpAny_attempt (wpAny_callSpecial?_slot (name:=Str.ofString "__next__") hit.typeIs slot_rev_next
  (wpAny_call_entry slot_rev_next hit.typeIs Az6K ?_ (Az7K _))))
 unfold Builtin.«reversed.__next__»
 have hT:s.TypeIs (.ref l) "tuple":=let ⟨o,h1,h2,_⟩:=hl;⟨o,h1,h2⟩
 have n3:=F.slot_tuple_getitem.lookup
 refine wpAny_bind (wpAny_of_eq (a:=(Value.ref it,[])) rfl ?_)
 try dsimp only
 refine wpAny_bind (wpAny_field ho hd (x:= .ref l) rfl ?_)
 refine wpAny_bind (wpAny_field ho hd (x:=rawInt (i:Int)) rfl ?_)
 show wpAny _ _ (if (i:Int)<0 then _ else _) _ _ s
 rw [if_neg (by omega)]
 generalize hGI:@getItem=GI
 wp_walk
 subst hGI
 have hi:i<items.size:=by
  rcases Nat.lt_or_ge i items.size with z|z
  ·exact z
  ·rw [Array.getElem?_eq_none z] at hx;cases hx
 refine getItem_tuple (s:= {s with toks:=s.toks+1}) hl (by omega) (by omega) (j:=i) (by unfold seqIndex?;simp;omega) hx ?_
 show wpAny _ _ (field (.ref it) 1 >>= _) _ _ _
 refine wpAny_bind (wpAny_field (s:= {s with toks:=s.toks+1}) ho hd (x:=rawInt (i:Int)) rfl ?_)
 show wpAny _ _ (setField (.ref it) 1 (rawInt ((i:Int)-1)) >>= _) _ _ _
 refine wpAny_bind (wpAny_setField (s:= {s with toks:=s.toks+1}) ho hd (by simp) ?_)
 refine wpAny_pure ⟨x,rfl,wpAny_pure (hQ _ _ ?_ (Heap.SameBut.update ..))⟩
 exact ⟨_,Heap.get?_update_self _ ho (Obj.isFreed_of_fields (Obj.data_mapFields hd _)),(Obj.cls_mapFields ..).trans hc,by
  rw [Obj.data_mapFields hd];simp⟩
theorem Cz9F {it l:Addr} {Q:Option Value→Shared→Prop} (hh:A.handled=none) (hit:IsRv s.heap it l (-1))
  (hQ:∀ h',Heap.ExtBut it s.heap h'→Q none {s with heap:=h'}):wpAny (model prog w) A (pyNext (.ref it)) Q E s:=by
 obtain ⟨o,ho,hc,hd⟩:=id hit
 unfold pyNext
 refine wpAny_bind (wpAny_attempt (wpAny_callSpecial?_slot (name:=Str.ofString "__next__") hit.typeIs slot_rev_next
  (wpAny_call_entry slot_rev_next hit.typeIs Az6K ?_ (Az7K _))))
 unfold Builtin.«reversed.__next__»
 refine wpAny_bind (wpAny_of_eq (a:=(Value.ref it,[])) rfl ?_)
 try dsimp only
 refine wpAny_bind (wpAny_field ho hd (x:= .ref l) rfl ?_)
 refine wpAny_bind (wpAny_field ho hd (x:=rawInt (-1)) rfl ?_)
 show wpAny _ _ (if (-1:Int)<0 then _ else _) _ _ s
 rw [if_pos (by decide)]
 have hh1:A.in1.handled=none:=hh
 obtain ⟨cls,dd,data,sl⟩:=o
 simp only at hc hd
 subst hc hd
 generalize hST:@Builtin.SmallTypes.stopIteration=ST
 wp_walk
 subst hST
 unfold Builtin.SmallTypes.stopIteration
 show wpAny _ _ (newExc (.type "StopIteration") [] >>= _) _ _ _
 refine wpAny_bind ?_
 simp only [newExc,newTuple]
 refine wpAny_bind (wpAny_newObj_type ?_ (by size_fits))
 refine wpAny_bind (m:=firstArgMember _ _) (wpAny_of_eq (a:=Value.none) (by first|rfl|(simp only [firstArgMember];rfl)) ?_)
 refine wpAny_newObj_type ?_ (by size_fits)
 simp only [raiseNew]
 refine wpAny_bind (wpAny_handled ?_)
 first|rw [show A.in1.handled=none from hh]|rw [hh]
 refine wpAny_bind (wpAny_pure (wpAny_throw ?_))
 refine wpAny_bind (wpAny_isInstance (T:="StopIteration") (b:=true) ⟨_,Heap.get?_push_size _ rfl,rfl⟩ isSubtype_stop ?_)
 refine wpAny_pure (hQ _ (Heap.ExtBut.push (Heap.ExtBut.push (fun b o hb e=> ?_) _) _))
 exact (Heap.get?_update_other _ _ (Ne.symm hb)).trans ((Heap.get?_update_other _ _ (Ne.symm hb)).trans e)
theorem Bz8G {it l:Addr} {i:Int} {Q:Value→Shared→Prop} (hit:IsRv s.heap it l i) (h:Q (.ref it) s):wpAny (model prog w) A (pyIter (.ref it)) Q E s:=by
 refine wpAny_pyIter_slot hit.typeIs Az7D (wpAny_call_entry Az7D hit.typeIs Bz0D ?_ (Bz1U _))
 show wpAny _ _ (ret (.ref it)) _ _ s
 exact wpAny_pure ⟨_,rfl,"reversed",_,hit.typeIs,slot_rev_next.lookup,h⟩
end
def Itv (K:PySem.W.Frag) (a:Addr):It:=
 ⟨fun i H=>∃ xs,SqT K H a xs∧i<xs.length,fun i H x H'=>H'=H∧∀ xs,SqT K H a xs→xs[xs.length-1-i]? =some x,fun i H=>∃ xs,SqT K H a xs∧i=xs.length⟩
theorem Cz3N {P:Program} {w:World} {K:PySem.W.Frag} {tg:Expr} (a it:Addr) (n:Nat):Turn P w K tg ⟨fun i H=>∃ xs,SqT K H a xs∧xs.length=n∧i<n,(Itv K a).yld,fun i H=>∃ xs,SqT K H a xs∧xs.length=n∧i=n⟩ [it] it (fun i h=>IsRv h it a ((n:Int)-1-(i:Int))) where
 mem:=by simp
 obj:=fun i h st b hb=>by
  have e:b=it:=by simpa using hb
  subst e
  obtain ⟨o,e,c,d⟩:=st
  exact ⟨o,e,fun v z=>by rw [d] at z;cases z⟩
 keep:=fun i h h' st k=>st.at fun o e=>k it (by simp) o e
 item:=by
  intro X hP hw hK hc i pins s σ H E I hf st hg
  subst hP hw hK
  obtain ⟨xs,hq,hn,hi⟩:=hg
  obtain ⟨its,rv,p,hz⟩:=I.tuple hq
  have hl:=rv.length
  obtain ⟨u,hu,ru⟩:=rv.get (List.getElem?_eq_getElem (show xs.length-1-i<xs.length by omega))
  obtain ⟨f0,f1,f2,f3,f4,f5⟩:=hf it (by simp)
  have e:(n:Int)-1-(i:Int)=((xs.length-1-i:Nat):Int):=by omega
  rw [e] at st
  have h63:=line63
  refine Cz4P st p (by simpa using hu) (by simp;omega) fun h' tk st' sb=> ?_
  have e2:((xs.length-1-i:Nat):Int)-1=(n:Int)-1-((i+1:Nat):Int):=by omega
  rw [e2] at st'
  have I1:Inv X pins σ H {s with heap:=h',toks:=tk}:=I.turned (t':=tk) (fun b o hb e=>(sb.2 b hb).trans e) f0 f1 f3 f4 f5
  obtain ⟨o,e,c,d⟩:=id st'
  exact ⟨u,rfl,go_of (s:= {s with heap:=h',toks:=tk}) e c d (by decide) ⟨_,H,I1,ru,⟨rfl,fun ys hy=>by rw [I.tuple_inj hy hq];exact List.getElem?_eq_getElem _⟩,st',fun b hb=>(hf b hb).1⟩⟩
 done:=by
  intro X hP hw hK hc i pins s σ H E I hf st hg
  subst hP hw hK
  obtain ⟨xs,hq,hn,rfl⟩:=hg
  obtain ⟨f0,f1,f2,f3,f4,f5⟩:=hf it (by simp)
  have e:(i:Int)-1-(i:Int)= -1:=by omega
  rw [e] at st
  exact Cz9F (I.ok.hd hc) st fun h' eb=>⟨rfl,I.turned (t':=s.toks) (fun b o hb e=>eb b o hb e) f0 f1 f3 f4 f5⟩
 self:=fun _ _ _ _ _ st h=>Bz8G st h
section
variable {X:Cx} {xw:XW} {tg a:Expr} {p pos:Pos} {fs:DSt→Res (List D)}
def Itv' (K:PySem.W.Frag) (a:Addr) (n:Nat):It:=⟨fun i H=>∃ xs,SqT K H a xs∧xs.length=n∧i<n,(Itv K a).yld,fun i H=>∃ xs,SqT K H a xs∧xs.length=n∧i=n⟩
def iRev (K:PySem.W.Frag) (ta:TA):TI:=fun σ H R=>ta σ H fun vs H1=>∃ l xs,vs= [.ref l]∧SqT K H1 l xs∧R (Itv' K l xs.length) H1
theorem pi_rev {ta:TA} (hg:Gl X "reversed") (hm:X.mg "reversed"=none) (ha:PA X [a] ta) (hs:starEach [a] X.env= [(false,eval a X.env)]):
  PI X tg (.Call (.Name "reversed" p) [a] [] pos) (iRev X.K ta):=by
 intro pins s σ H R I h
 refine Call_ (ld_blt I hg hm (show bootBuiltins "reversed"=some (.type "reversed") by decide +kernel) (PyProof.Rows.callWith_type1 (thn (ha pos pins s σ H _ I h) fun us s1 ⟨vs,H1,I1,r1,q1⟩=> ?_) (by rw [hs];rfl) (by rfl)))
 obtain ⟨l,xs,e,q1,q⟩:=q1
 subst e
 obtain ⟨u1,rfl,ru1⟩:=r1.one
 cases (show u1=Value.ref l from ru1)
 obtain ⟨its,rv,pl,hz⟩:=I1.tuple q1
 have hl:=rv.length
 have h63:=line63
 refine Cz6B pl (by simp;omega) fun tk=> ?_
 have e0:((its.toArray.size:Nat):Int)-1=(xs.length:Int)-1-((0:Nat):Int):=by simp;omega
 have st:IsRv (s1.heap.push (rvO l ((its.toArray.size:Int)-1))) s1.heap.objs.size l ((xs.length:Int)-1-((0:Nat):Int)):=⟨_,Heap.get?_push_size _ rfl,rfl,by rw [←e0];rfl⟩
 refine Bz8G (s:= {s1 with heap:=s1.heap.push (rvO l ((its.toArray.size:Int)-1)),toks:=tk}) st ?_
 refine ⟨s1.heap.objs.size,[s1.heap.objs.size],_,_,H1,rfl,I1.kept (t':=tk) fun b o e=>Heap.get?_push_of_some _ e,Cz3N l _ xs.length,st,fun b hb=> ?_,q⟩
 have e:b=s1.heap.objs.size:=by simpa using hb
 subst e
 exact I1.fpOk (Nat.le_refl _) (I1.hok.fresh (Nat.le_refl _))
def revWR (ds:List D):Res (List D):=match ds with
 | [.tup xs]=> .ok xs.reverse
 |_=> .stuck
theorem itv_ok {K:PySem.W.Frag} {W:WS} {H:Hp} {a:Addr} {xs:List V} {ds:List D} (w:WL W H) (h:SqT K H a xs) (r:HasL K W H ds xs):ItOk K W H (Itv' K a xs.length) ds.reverse:=by
 intro W' H2 k w2
 have h2:=Az9N k.keep w h
 have hl:=r.length
 refine ⟨fun i d e=> ?_,xs,h2,rfl,by rw [List.length_reverse,hl]⟩
 have hi:i<ds.length:=by
  have:=(List.getElem?_eq_some_iff.mp e).1
  rwa [List.length_reverse] at this
 rw [List.getElem?_reverse hi] at e
 obtain ⟨x,e1,hx⟩:=r.get e
 refine ⟨⟨xs,h2,rfl,by omega⟩,fun y H3 z=> ?_⟩
 obtain ⟨rfl,z⟩:=z
 have:y=x:=by
  have q:=z xs h2
  rw [←hl,e1] at q;exact (Option.some.inj q).symm
 subst this
 exact ⟨Same.refl _,Has.keep k.keep w k.new hx⟩
theorem i_rev (hm:X.mg "reversed"=none) (ha:XA X xw [a] fs) (hg:Gl X "reversed":=by rfl) (hs:starEach [a] X.env= [(false,eval a X.env)]:=by rfl):
  XI X xw tg (.Call (.Name "reversed" p) [a] [] pos) (b1 revWR fs):=
 ⟨PI.weak (pi_rev hg hm ha.h hs) fun σ H R ⟨W₀,H₀,W,δ,st,q⟩=>by
  refine ⟨W₀,H₀,W,δ,st,?_⟩
  simp only [b1] at q
  cases h1:fs δ with
  |stuck=>rw [h1] at q;exact q
  |ex c gs=>rw [h1] at q;exact q
  |ok ds=>
   rw [h1] at q
   intro vs H1 k1 hv
   dsimp only [Res.bind] at q
   unfold revWR at q
   split at q
   ·rename_i ds' hq
    split at hq
    ·rename_i xs
     cases hq
     rw [HasL] at hv
     obtain ⟨v1,r1,rfl,g1,hv⟩:=hv
     rw [HasL] at hv
     subst hv
     rw [Has] at g1
     obtain ⟨l,ys,rfl,sq,r⟩:=g1
     exact ⟨l,ys,rfl,sq,q _ H1 k1 (itv_ok (st.fr.wl.same k1) sq r)⟩
    ·cases hq
   ·rename_i hq
    split at hq<;>cases hq
   ·exact q.elim⟩
end
end L3
namespace L3
open PySem PySem.Spec PyProof.Rows L2 SeqAt
theorem Az8X:entryFor table "dict.update.loop"=some Builtin.«dict.update.loop» :=entryFor_of_tree (by kernel_rfl)
theorem Az5Q:plainId "dict.update.loop"=true:=by decide +kernel
section
variable {prog:Program} {w:World} {KK:Type} [DecidableEq KK] {knd:KeyKind prog w KK} {A:Around} {R:Result→Shared→Prop} {I:Addr} {fp wr:List Addr} {G:Array GenState→Array GenState→Prop} {n:Nat} {P:Nat→Value→Prop} {St:Nat→Shared→Prop} {E:Value→Shared→Prop} {s:Shared}
theorem Cz9P (W:WalksS prog w A.in1 I fp wr G n P St) (S:Addr) (hSf:S∉fp) (base:Heap) (hnew:∀ b∈S::wr,base.objs.size≤b) (kvs:List (KK×Value)) (hn:kvs.length=n) (hsz:n≤sizeLine)
  (hv:∀ i v,P i v→∃ t key k val,v= .ref t∧kvs[i]? =some (k,val)∧knd.is k key=true∧IsTup base t #[key,val]):
  ∀ (j i:Nat) (s:Shared),n-i=j→i≤n→St i s→(∀ b o,base.get? b=some o→s.heap.get? b=some o)→s.heap.DictOf knd S (merged [] (kvs.take i))→(∀ s',Moved (S::wr) G s s'→s'.heap.DictOf knd S (merged [] kvs)→R (.ok (.ret .none)) s')→
   codeAny (model prog w) A (.builtin "dict.update.loop" ⟨[.ref S, .ref I,rawInt (i:Int), .none],[]⟩) R s:=by
 have hSw:S∉wr:=fun h=>hSf (W.sub _ h)
 have up:∀ b∈wr,b∈S::wr:=fun b hb=>List.mem_cons_of_mem _ hb
 have old:∀ b o,base.get? b=some o→b∉S::wr:=fun b o e m=>absurd (Heap.lt_size e) (Nat.not_lt.mpr (hnew b m))
 intro j
 induction j with
 |zero=>
  intro i s hk hi st hb hS hR
  have:i=n:=by omega
  subst this
  refine codeAny_builtin Az8X ?_;rw [Around.under_plainId Az5Q _]
  show wpAny _ A.in1 (pyNext (.ref I) >>= _) _ _ s
  refine wpAny_bind (W.done s _ _ st fun s' mv=> ?_)
  show wpAny _ _ (Builtin.Dict.addKeywords S [] >>= _) _ _ s'
  refine wpAny_bind (wpAny_pure (wpAny_pure (hR s' (mv.mono up) ?_)))
  rw [List.take_of_length_le (Nat.le_of_eq hn)] at hS
  obtain ⟨o,es,ep,ho,r⟩:=hS
  exact ⟨o,es,ep,mv.heap S o hSw ho,r⟩
 |succ j ih=>
  intro i s hk hi st hb hS hR
  have lt:i<n:=by omega
  refine codeAny_builtin Az8X ?_;rw [Around.under_plainId Az5Q _]
  show wpAny _ A.in1 (pyNext (.ref I) >>= _) _ _ s
  refine wpAny_bind (W.item i s _ _ lt st fun v s' pv st' mv=> ?_)
  obtain ⟨t,key,k,val,rfl,hkv,hkey,ht⟩:=hv i v pv
  have hS':s'.heap.DictOf knd S (merged [] (kvs.take i)):=by
   obtain ⟨o,es,ep,ho,r⟩:=hS
   exact ⟨o,es,ep,mv.heap S o hSw ho,r⟩
  obtain ⟨ot,e1,e2,e3⟩:=ht
  obtain ⟨m,e3⟩:=e3
  have et:=mv.heap t ot (fun z=>old t ot e1 (up _ z)) (hb t ot e1)
  have hT:s'.TypeIs (.ref t) "tuple":=⟨ot,et,e2⟩
  show wpAny _ A.in1 (holding [Value.ref t] _ >>= _) _ _ s'
  refine wpAny_bind (wpAny_holding ?_)
  refine wpAny_bind (wpAny_tryCatch ?_)
  unfold Builtin.Dict.pairItems
  refine wpAny_bind (wpAny_typeOf hT ?_)
  rw [if_pos (by decide)]
  refine wpAny_bind (wpAny_seqItems et e3 (wpAny_pure ?_))
  show wpAny _ _ (holding [key,val] (dictSet S key val)) _ _ _
  have hs0:(merged ([]:List (KK×Value)) (kvs.take i)).length≤sizeLine:=by
   have:=merged_length_le ([]:List (KK×Value)) (kvs.take i)
   rw [List.length_take,List.length_nil,Nat.zero_add] at this
   have h2:min i kvs.length≤i:=Nat.min_le_left _ _
   exact Nat.le_trans this (Nat.le_trans h2 (Nat.le_trans hi hsz))
  refine wpAny_holding (wpAny_dictSet_pairs (hsz:=hs0) hkey hS' fun h' hS2 sb=> ?_)
  refine wpAny_pure (show _∧codeAny (model prog w) A (.builtin "dict.update.loop" ⟨[.ref S, .ref I,rawInt ((i:Int)+1), .none],[]⟩) R {s' with heap:=h',toks:=s'.toks+1} from ⟨plainId_quiet Az5Q _,?_⟩)
  have e5:rawInt ((i:Int)+1)=rawInt ((i+1:Nat):Int):=by congr 1
  rw [e5]
  refine ih (i+1) _ (by omega) lt (W.frame _ s' _ _ st' (Nat.le_succ _) fun b hb o e=>sb.extBut _ _ (fun q=>hSf (q▸hb)) e) (fun b o e=>sb.extBut _ _ (fun q=>old b o e (by rw [q];exact List.mem_cons_self)) (mv.heap b o (fun z=>old b o e (up _ z)) (hb b o e))) (by rw [merged_take_succ _ _ i _ hkv];exact hS2) fun s'' mv2 hS3=>hR s'' ?_ hS3
  exact Moved.trans W.gtrans ((mv.mono up).then_heap (Nat.le_succ _) fun b o hb e=>sb.extBut _ _ (fun q=>hb (by rw [q];exact List.mem_cons_self)) e) mv2
theorem Bz5T:typeLookup (.type "list") "keys"=pure none:=by rw [typeLookup_type,builtinLookup_eq_fast];kernel_rfl
theorem Cz0Z {a:Addr} {o:Obj} {xs:Array Value} {k:Nat} {Q:Option Value→Shared→Prop} (hx:s.heap.get? a=some o) (hc:o.cls= .type "list") (hdat:o.data= .seq xs k) (hd:o.dict=none) (hA:A.handled=none)
  (h:∀ h' tk,(∀ b ob,s.heap.get? b=some ob→h'.get? b=some ob)→Q none {s with heap:=h',toks:=tk}):
  wpAny (model prog w) A (getAttr? (.ref a) "keys") Q E s:=by
 obtain ⟨c,dct,dat,sl⟩:=o
 simp only at hc hdat hd
 subst hc hdat hd
 obtain ⟨hp,g,d,tk,os⟩:=s
 have hT:∀ tk',(⟨hp,g,d,tk',os⟩:Shared).TypeIs (.ref a) "list":=fun _=>⟨_,hx,rfl⟩
 have f1:=sub_AttributeError
 have f3:=F.slot_list_getattribute.lookup
 have f4:=F.slot_list_getattribute.bind (.ref a)
 have f5:=am_list_getattr_none
 unfold getAttr? getAttrBy? getAttrBy
 repeat (any_goals (first|assumption|exact hT _|((with_reducible show wpAny _ _ (call (Value.builtin "list.__getattribute__") _ _) _ _ _);refine call_meets F.slot_list_getattribute (hT _) am_entry_list_getattribute (F.args_list_getattribute_2 _ _) (meets_getattribute_miss_list a xs k sl "keys" _ Bz5T (by decide) (by rw [sizeLine_eq];decide)) ⟨hx,hA,fun h' tk' e hx'=> ?_⟩)|wp_step))
 obtain ⟨t',u',he⟩:=hx'.there
 show wpAny _ _ (getattributeRaised _ _ _ _ _ _ _) _ _ _
 unfold getattributeRaised
 repeat (any_goals (first|assumption|wp_step))
 exact h h' tk' hx'.keeps
theorem Bz0E {l:Addr} {o:Obj} {items:Array Value} {n0:Nat} {kvs:List (KK×Value)} {Q:Value→Shared→Prop} (hh:A.handled=none) (hx:s.heap.get? l=some o) (hc:o.cls= .type "list") (hdat:o.data= .seq items n0) (hd:o.dict=none) (hn:kvs.length=items.size) (hsz:items.size≤sizeLine)
  (hv:∀ (i:Nat) (v:Value),items[i]? =some v→∃ t key k val,v=Value.ref t∧kvs[i]? =some (k,val)∧knd.is k key=true∧IsTup s.heap t #[key,val])
  (h:∀ h' tk,h'.DictOf knd s.heap.objs.size (merged [] kvs)→(∀ b o,s.heap.get? b=some o→h'.get? b=some o)→Q (.ref s.heap.objs.size) {s with heap:=h',toks:=tk}):
  wpAny (model prog w) A (call (.type "dict") [.ref l]) Q E s:=by
 refine callType_codes (Q₁:=fun obj s₁=>obj= .ref s.heap.objs.size∧s₁= {s with heap:=s.heap.push {cls:= .type "dict",data:= .dict #[]}}) F.kt_called_dict (F.kt_typeCall_dict_1 _) F.entry_dict_init (kt_code_dict_new _ ⟨rfl,rfl⟩) ?_
 rintro obj s₁ ⟨rfl,rfl⟩
 have hnew:(s.heap.push {cls:= .type "dict",data:= .dict #[]}).DictOf knd s.heap.objs.size []:=Heap.DictOf.new s.heap
 have hx':=Heap.get?_push_of_some {cls:= .type "dict",data:= .dict #[]} hx
 have z1:(s.heap.push {cls:= .type "dict",data:= .dict #[]}).objs.size=s.heap.objs.size+1:=Heap.size_push ..
 have k1:∀ b o,s.heap.get? b=some o→(s.heap.push {cls:= .type "dict",data:= .dict #[]}).get? b=some o:=fun b o e=>Heap.get?_push_of_some _ e
 generalize (s.heap.push {cls:= .type "dict",data:= .dict #[]})=h1 at hnew hx' z1 k1 ⊢
 refine ⟨hnew.typeIs,F.args_dict_init_2 _ _,?_⟩
 unfold Builtin.«dict.__init__»
 refine wpAny_bind ?_
 unfold Builtin.Dict.selfAndRest
 refine wpAny_bind (wpAny_notOrdered_dict hnew.typeIs ?_)
 show wpAny _ _ (pure (s.heap.objs.size,[Value.ref l])) _ _ _
 refine wpAny_pure ?_
 show wpAny _ _ (Builtin.Dict.updateFrom "dict.__init__" s.heap.objs.size (.ref l) [] .none) _ _ _
 unfold Builtin.Dict.updateFrom
 have hT:Shared.TypeIs {s with heap:=h1} (.ref l) "list":=⟨_,hx',hc⟩
 refine wpAny_bind (wpAny_typeOf hT ?_)
 rw [if_pos (by decide)]
 refine wpAny_bind (Cz0Z (s:= {s with heap:=h1}) hx' hc hdat hd hh fun h2 tk2 k2=> ?_)
 rw [if_pos (show (none:Option Value).isNone=true from rfl)]
 refine wpAny_bind (wpAny_rule ?_)
 have hl2:h2.IsList l items:=⟨o,k2 _ _ hx',hc,n0,hdat⟩
 refine wpAny_bind (wpAny_pyIter_list (s:= {s with heap:=h2,toks:=tk2}) hl2 ?_)
 have lS:s.heap.objs.size<h2.objs.size:=by
  obtain ⟨ob,_,_,hg,_⟩:=hnew
  exact Heap.lt_size (k2 _ _ hg)
 have ll:l<s.heap.objs.size:=Heap.lt_size hx
 have hS2:h2.DictOf knd s.heap.objs.size []:=by
  obtain ⟨ob,es,ep,hg,r⟩:=hnew
  exact ⟨ob,es,ep,k2 _ _ hg,r⟩
 have hlI:l≠h2.objs.size:=Nat.ne_of_lt (Nat.lt_trans ll lS)
 have W:=(Walks.list (prog:=prog) (w:=w) (A:=A.in1.in1) (show A.in1.in1.handled=none from hh) h2.objs.size l hlI items).toS
 refine wpAny_pure ⟨plainId_quiet Az5Q _,?_⟩
 refine Cz9P (knd:=knd) (A:=A.in1) W s.heap.objs.size ?_ s.heap ?_ kvs hn hsz (fun i v pv=>hv i v pv) items.size 0 _ (by omega) (Nat.zero_le _) ?_ ?_ ?_ ?_
 ·simp only [List.mem_cons,List.not_mem_nil,or_false,not_or]
  exact ⟨Nat.ne_of_lt lS,Nat.ne_of_gt ll⟩
 ·intro b hb
  simp only [List.mem_cons,List.not_mem_nil,or_false] at hb
  rcases hb with rfl|rfl
  ·exact Nat.le_refl _
  ·exact Nat.le_of_lt lS
 ·exact ⟨⟨_,Heap.get?_push_size _ rfl,rfl,rfl⟩,⟨o,Heap.get?_push_of_some _ (k2 _ _ hx'),hc,n0,hdat⟩⟩
 ·exact fun b o e=>Heap.get?_push_of_some _ (k2 _ _ (k1 _ _ e))
 ·obtain ⟨ob,es,ep,hg,r⟩:=hS2
  exact ⟨ob,es,ep,Heap.get?_push_of_some _ hg,r⟩
 ·intro s' mv hS
  obtain ⟨h',g',d',tk',os'⟩:=s'
  have eg:g'=s.gens:=mv.gens
  have ed:d'=s.drawn:=mv.drawn
  have eo:os'=s.os:=mv.os
  subst eg ed eo
  refine ⟨rfl,h h' tk' hS fun b ob e=>mv.heap b ob ?_ (Heap.get?_push_of_some _ (k2 _ _ (k1 _ _ e)))⟩
  have hb:=Heap.lt_size e
  simp only [List.mem_cons,List.not_mem_nil,or_false,not_or]
  exact ⟨Nat.ne_of_lt hb,Nat.ne_of_lt (Nat.lt_trans hb lS)⟩
end
def mergeT {α:Type} (l:List (Key×α)):List (Key×α):=l.foldl (fun acc p=>tPut acc p.1 p.2) []
theorem Cz4X {kvs:List (Key×V)} {vs:List (Key×Value)} (r:KV kvs vs):KV (mergeT kvs) (merged [] vs):=by
 have go:∀ {kvs:List (Key×V)} {vs:List (Key×Value)},KV kvs vs→∀ {a:List (Key×V)} {b:List (Key×Value)},KV a b→KV (kvs.foldl (fun acc p=>tPut acc p.1 p.2) a) (vs.foldl (fun acc kv=>stored acc kv.1 kv.2) b):=by
  intro kvs vs r
  unfold KV at r
  induction r with
  |nil=>intro a b h;exact h
  |@cons p q ps qs h t ih=>
   intro a b hab
   obtain ⟨h1,h2⟩:=h
   rw [List.foldl_cons,List.foldl_cons,←h1]
   exact ih (kv_put hab p.1 h2)
 exact go r .nil
theorem HasP.merge {K:PySem.W.Frag} {W:WS} {H:Hp} {l:List (Key×D)} {kvs:List (Key×V)} (h:HasP K W H l kvs):HasP K W H (mergeT l) (mergeT kvs):=by
 have go:∀ (l:List (Key×D)) (kvs:List (Key×V)),HasP K W H l kvs→∀ (a:List (Key×D)) (b:List (Key×V)),HasP K W H a b→HasP K W H (l.foldl (fun acc p=>tPut acc p.1 p.2) a) (kvs.foldl (fun acc p=>tPut acc p.1 p.2) b):=by
  intro l
  induction l with
  |nil=>
   intro kvs h a b hab
   obtain ⟨h1,_⟩:=h
   cases kvs with
   |nil=>exact hab
   |cons _ _=>cases h1
  |cons p l ih=>
   intro kvs h a b hab
   obtain ⟨v,r,rfl,h1,h2⟩:=h.cons
   exact ih r h2 _ _ (hab.put p.1 h1)
 exact go l kvs h [] [] HasP.nil
theorem Bz7Y {α:Type} (l:List (Key×α)):(mergeT l).length≤l.length:=by
 have go:∀ (l a:List (Key×α)),(l.foldl (fun acc p=>tPut acc p.1 p.2) a).length≤a.length+l.length:=by
  intro l
  induction l with
  |nil=>intro a;simp
  |cons p l ih=>
   intro a
   have h1:=ih (tPut a p.1 p.2)
   have h2:=Bz6O a p.1 p.2
   rw [List.foldl_cons,List.length_cons];omega
 have:=go l [];simpa [mergeT] using this
section
variable {X:Cx} {xw:XW} {pos p:Pos} {a:Expr} {fa:DSt→Res D}
def PairsAt (K:PySem.W.Frag) (H:Hp):List V→List (Key×V)→Prop
 | [],kvs=>kvs= []
 |x::xs,kvs=>∃ t k v r,x= .ref t∧kvs=(k,v)::r∧SqT K H t [kV k,v]∧PairsAt K H xs r
theorem PairsAt.len {K:PySem.W.Frag} {H:Hp}:∀ {xs:List V} {kvs:List (Key×V)},PairsAt K H xs kvs→xs.length=kvs.length
 | [],_,h=>by rw [show _= [] from h];rfl
 |x::xs,_,h=>by
  obtain ⟨t,k,v,r,_,rfl,_,h⟩:=h
  rw [List.length_cons,List.length_cons,h.len]
theorem Bz3V {pins:List (Addr×Obj)} {σ:L2.St} {H:Hp} {s:Shared} (I:Inv X pins σ H s):∀ {xs:List V} {its:List Value} {kvs:List (Key×V)},PairsAt X.K H xs kvs→Vals xs its→
  ∃ vs:List (Key×Value),KV kvs vs∧∀ (i:Nat) (v:Value),its[i]? =some v→∃ t key k val,v=Value.ref t∧vs[i]? =some (k,val)∧(Az3W X.prog X.w).is k key=true∧IsTup s.heap t #[key,val]
 | [],its,kvs,h,r=>by
  cases r
  rw [show kvs= [] from h]
  exact ⟨[], .nil,fun i v e=>by simp at e⟩
 |x::xs,its,kvs,h,r=>by
  obtain ⟨t,k,v,rr,rfl,rfl,sq,h⟩:=h
  cases r with
  |@cons _ u _ us r1 r2=>
   cases (show u=Value.ref t from r1)
   obtain ⟨vs,e1,e2⟩:=Bz3V I h r2
   obtain ⟨ys,ry,py,_⟩:=I.tuple sq
   cases ry with
   |@cons _ key _ _ q1 q2=>
    cases q2 with
    |@cons _ val _ _ q3 q4=>
     cases q4
     refine ⟨(k,val)::vs, .cons ⟨rfl,q3⟩ e1,fun i w hw=> ?_⟩
     cases i with
     |zero=>cases hw;exact ⟨t,key,k,val,rfl,rfl,key_is q1,py⟩
     |succ i=>exact e2 i w (by simpa using hw)
theorem Bz9H (hc:X.calm=true):CallR X (.type "dict") (fun xs H Q=>∃ (l:Addr) (ys:List V) (kvs:List (Key×V)),xs= [.ref l]∧SqL X.K H l ys∧PairsAt X.K H ys kvs∧∀ n o,H n=none→Q (.ref n) (upd H n (.frz o (.dK (mergeT kvs))))):=by
 intro pins s σ H xs us Q I r h
 obtain ⟨l,ys,kvs,rfl,hq,hp,q⟩:=h
 obtain ⟨u,rfl,ru⟩:=vals1 r
 cases ru
 obtain ⟨its,rv,⟨ob,n0,e,hcl,hd,hs⟩,hz⟩:=I.list hq
 obtain ⟨vs,kv,hv⟩:=Bz3V I hp rv
 have hl1:=hp.len
 have hl2:=rv.length
 have hl3:=kv_len kv
 have big:sysModules<s.heap.objs.size:=by
  have h:mainGlobals<s.heap.objs.size:=(I.mod.glob.keeps I.bk).lt
  exact Nat.lt_trans (by decide) h
 refine Bz0E (knd:=Az3W X.prog X.w) (kvs:=vs) (I.ok.hd hc) e hcl hs hd (by simp;omega) (by simp;omega) (fun i v hw=>hv i v (by simpa using hw)) fun h' tk dd kk=> ?_
 obtain ⟨ob',es,ep,ho',rr⟩:=id dd
 refine ⟨.ref s.heap.objs.size,_,I.laid (a:=s.heap.objs.size) (o:= .frz ob' (.dK (mergeT kvs))) (t':=tk) kk (Nat.le_refl _) ⟨ho',?_,beq_eq_false_iff_ne.mpr (Ne.symm (Nat.ne_of_lt big)),_,Cz4X kv,dd⟩,rfl,q _ ob' I.fresh⟩
 have:=Bz7Y kvs
 omega
def Az6X:List D→Option (List (Key×D))
 | []=>some []
 | .tup [k,v]::ds=>match keyD k,Az6X ds with
  |some kk,some l=>some ((kk,v)::l)
  |_,_=>none
 |_=>none
theorem Bz3W {K:PySem.W.Frag} {W:WS} {H:Hp}:∀ {ds:List D} {l:List (Key×D)} {xs:List V},Az6X ds=some l→HasL K W H ds xs→∃ kvs,PairsAt K H xs kvs∧HasP K W H l kvs
 | [],l,xs,e,h=>by
  cases e
  rw [HasL] at h
  subst h
  exact ⟨[],rfl,HasP.nil⟩
 |d::ds,l,xs,e,h=>by
  unfold Az6X at e
  split at e
  ·rename_i h1;cases h1
  ·rename_i k v ds' h1
   cases h1
   split at e
   ·rename_i kk l' e1 e2
    cases e
    rw [HasL] at h
    obtain ⟨x,r,rfl,g1,g2⟩:=h
    obtain ⟨kvs,p1,p2⟩:=Bz3W e2 g2
    rw [Has] at g1
    obtain ⟨t,ys,rfl,sq,hy⟩:=g1
    rw [HasL] at hy
    obtain ⟨y1,r1,rfl,hk,hy⟩:=hy
    rw [HasL] at hy
    obtain ⟨y2,r2,rfl,hv,hy⟩:=hy
    rw [HasL] at hy
    subst hy
    have:=Bz2X (.inl hk) e1
    subst this
    exact ⟨(kk,y2)::kvs,⟨t,kk,y2,kvs,rfl,rfl,sq,p1⟩,HasP.mk hv p2⟩
   ·cases e
  ·cases e
def dictLR:D→Res D
 | .lst ds=>match Az6X ds with
  |some l=> .ok (.dct ((mergeT l).map (·.1)) ((mergeT l).map (·.2)))
  |none=> .stuck
 |_=> .stuck
theorem Cz6J (hc:X.calm=true) (hm:X.mg "dict"=none) (ha:XP X xw a fa) (hg:Gl X "dict":=by rfl) (he:starEach [a] X.env=(false,eval a X.env)::starEach [] X.env:=by rfl) (hpl:(backTo pos (starEach [] X.env)).any (·.1)=false:=by rfl):
  XE X xw (.Call (.Name "dict" p) [a] [] pos) (b1 dictLR fa):=
 ⟨Az7O (Bz9H hc) (fun W H d v Q w hv q=>by
  unfold dictLR at q
  split at q
  ·split at q
   ·rename_i l hl
    obtain ⟨ad,xs,e1,sq,r⟩:=hv.lst
    obtain ⟨kvs,p1,p2⟩:=Bz3W hl r
    refine ⟨ad,xs,kvs,by rw [e1],sq,p1,fun n o hn=>q _ _ (Az1G hn) ?_⟩
    have m:=(p2.merge).same (Az1G (o:= .frz o (.dK (mergeT kvs))) hn) w
    rw [Has]
    exact ⟨n,mergeT kvs,rfl,⟨o,Az0L⟩,m.1,m.2⟩
   ·exact q.elim
  ·exact q.elim) hm (by decide +kernel) ha.h hg (by decide) (by decide) he hpl⟩
end
end L3
namespace L3
open PySem PySem.Spec PyProof.Rows L2 SeqAt
section
variable {X:Cx} {xw:XW} {a b e:Expr} {pos:Pos} {fa f:DSt→Res D} {fq:DSt→Res (List (Key×D))}
theorem Cz3L {kvs:List (Key×V)} {vs:List (Key×Value)} (r:KV kvs vs) (k:Key):(valueAt vs k).isSome=(tGet kvs k).isSome:=by
 cases h:tGet kvs k with
 |none=>rw [(kv_get r k).2 h];rfl
 |some v=>obtain ⟨u,e,_⟩:=(kv_get r k).1 v h;rw [e];rfl
theorem Cz7X:OpR X (compareOp .NotIn) (fun y x H Q=>∃ ad kvs k,x= .ref ad∧Rd H ad (.dK kvs)∧y=kV k∧Q (.bl (!(tGet kvs k).isSome)) H):=by
 intro pins s σ H y x u v Q I ry rx h
 obtain ⟨ad,kvs,k,rfl,hd,rfl,q⟩:=h
 cases rx
 obtain ⟨_,hS,vs,rel,dd⟩:=rd_dk I.hok hd
 refine wpAny_notIn_of (key_is ry) hS dd.mapOf ?_
 exact ⟨.bl (!(tGet kvs k).isSome),H,I.tok _,by rw [←Cz3L rel k];rfl,q⟩
def ninQR (d:D) (l:List (Key×D)):Res D:=match keyD d with
 |some k=> .ok (.bl (!(tGet l k).isSome))
 |none=> .stuck
def b2R (op:D→List (Key×D)→Res D) (f:DSt→Res D) (g:DSt→Res (List (Key×D))):DSt→Res D:=fun δ=>(f δ).bind fun d=>(g δ).bind fun l=>op d l
theorem Cz5C {σ:L2.St} {H:Hp} {W₀ W:WS} {H₀:Hp} {δ:DSt} {op:D→List (Key×D)→Res D} {Q:VK} {R:V→V→Hp→Prop} (st:StHas X.K W₀ H₀ W H σ δ) (q:RE X.K xw W H (b2R op fa fq δ) Q)
  (h:∀ H2 d l v ad kvs,Same H H2→HasT X.K W H2 d v→Rd H2 ad (.dK kvs)→HasP X.K W H2 l kvs→RE X.K xw W H2 (op d l) Q→R v (.ref ad) H2):
  tDP X.K xw fa σ H fun x H1=>tDQ X.K xw fq σ H1 fun y H2=>R x y H2:=by
 refine ⟨W₀,H₀,W,δ,st,?_⟩
 unfold b2R at q
 cases h1:fa δ with
 |stuck=>rw [h1] at q;exact q
 |ex c fs=>rw [h1] at q;exact q
 |ok d=>
  rw [h1] at q
  intro v H1 k1 hv
  refine ⟨W₀,H₀,W,δ,st.same k1,?_⟩
  have q':RE X.K xw W H ((fq δ).bind fun l=>op d l) Q:=q
  cases h2:fq δ with
  |stuck=>rw [h2] at q';exact q'
  |ex c fs=>rw [h2] at q';exact fun H2 k2=>q' H2 (k1.trans k2)
  |ok l=>
   rw [h2] at q'
   intro ad kvs H2 k2 hd hp
   exact h H2 d l v ad kvs (k1.trans k2) (hv.same k2 (st.fr.wl.same k1)) hd hp (RE.same q' (k1.trans k2))
theorem Bz9Z {K:PySem.W.Frag} {W:WS} {H:Hp} {l:List (Key×D)} {kvs:List (Key×V)} (h:HasP K W H l kvs) (k:Key):(tGet kvs k).isSome=(tGet l k).isSome:=by
 rw [←Az9L,←Az9L,h.has k]
theorem Cz4O {H:Hp} {W:WS} {d:D} {l:List (Key×D)} {v:V} {ad:Addr} {kvs:List (Key×V)} {Q:VK} (hv:HasT X.K W H d v) (hd:Rd H ad (.dK kvs)) (hp:HasP X.K W H l kvs) (q:RE X.K xw W H (ninQR d l) Q):
  ∃ ad' kvs' k,V.ref ad= .ref ad'∧Rd H ad' (.dK kvs')∧v=kV k∧Q (.bl (!(tGet kvs' k).isSome)) H:=by
 unfold ninQR at q
 split at q
 ·rename_i k hk
  exact ⟨ad,kvs,k,rfl,hd,Bz2X hv hk,by rw [Bz9Z hp k];exact q.bl⟩
 ·exact q.elim
theorem y_ninQ (ha:XP X xw a fa) (hb:XQ X xw b fq) (hm:behindInMarks .NotIn b=false:=by rfl):XT X xw (.Compare a [.NotIn] [b] pos) (tR (b2R ninQR fa fq)):=
 ⟨DE.t_of (f:=b2R ninQR fa fq) (PT.weak (Bz3R Cz7X ha.h hb.h hm) fun σ H Q ⟨W₀,H₀,W,δ,st,q⟩=>Cz5C st q fun H2 d l v ad kvs k hv hd hp q2=>Cz4O hv hd hp q2)⟩
def augO (i:Nat) (δ:DSt) (d:D):Out:=match δ[i]?,d with
 |some (some (.d (.int m))), .int n=> .nx (δ.set i (some (.d (.int (m+n)))))
 |_,_=> .stuck
def sAug (i:Nat) (f:DSt→Res D):DSt→Out:=fun δ=>match δ[i]? with
 |some (some (.d (.int _)))=>ofR (f δ) (augO i δ)
 |_=> .stuck
theorem s_aug (i:Nat) {x:Str} {pos':Pos} (hN:X.N.Nodup) (he:XE X xw e f) (hi:X.N[i]? =some x:=by rfl) (hx:Loc X.env.scope x:=by first|exact Or.inl rfl|exact Or.inr rfl)
  (hf:X.fn x=true∨X.env.scope.names.lookup x=some .local:=by first|exact .inl rfl|exact .inr rfl|assumption):XS X xw (.AugAssign (.Name x pos') .Add e pos) (sAug i f):=
 ⟨PS.weak (ps_aug hN hi hx he.h ip_add hf) fun Dn σ H ⟨W₀,H₀,W,δ,st,q⟩=>by
  unfold sAug at q
  split at q
  ·rename_i m hm
   obtain ⟨v,e1,r⟩:=st.at' i _ hm
   have r':Has X.K W H (.int m) v:=r
   rw [Has] at r'
   subst r'
   refine ⟨_,e1,?_⟩
   refine Az7T st q fun H2 d v st2 hv q2=> ?_
   unfold augO at q2
   split at q2
   ·rename_i m' n hm'
    rw [hm] at hm'
    cases hm'
    rw [Has] at hv
    subst hv
    exact ⟨m,n,rfl,rfl,q2 W H2 _ Step.refl (st2.set (by rw [Has]))⟩
   ·exact q2.elim
  ·exact q.elim⟩
end
end L3
namespace L3
open PySem PySem.Spec PyProof.Rows L2 SeqAt
structure FunD (K:PySem.W.Frag) (x qual:Str) (st:Stmt) (f:Addr) (fd:FuncData) (dV:Value):Prop where
 ex:∃ (oc:Value) (od:Option Addr) (kV doc pm:Value) (an:Option Addr) (cdv ct:Value) (osl:Array (Option Value)),
  fd=PySem.W.fnOf x qual (Az0H st) (Az0F st) (Az0A st) dV kV doc pm an cdv ct∧K.lookup f=some ⟨oc,od, .func fd,osl⟩∧PySem.W.codeIn K cdv qual=true
 kp:PySem.W.keepIn K (.ref f)=true
section
variable {P:Program} {w:World} {K:PySem.W.Frag} {mg:Str→Option Value} {base:Heap}
theorem FunD.ok {x qual:Str} {st:Stmt} {f:Addr} {fd:FuncData} {dV:Value} {N ps:List Str} {k:Nat} {sp:Sp} (F:FunD K x qual st f fd dV) (S:FnScope N ps (Az0A st)) (len:∀ vs H Q E,sp vs H Q E→vs.length=ps.length)
  (hbody:∀ (cdv:Value) (A:Around) (outer:List Env) (s:Shared) (H:Hp) (vs:List V) (Q:VK) (E:XK),Room k (A.deeper (envOfC qual (Az0A st) s.heap.objs.size f cdv))→sp vs H Q E→
   ∃ t,PSs (cxOf CX0 P w K mg base N qual (Az0A st) f cdv A outer s H E).nox (Az0F st) t∧t {nx:=fun _ H'=>Q .non H',rt:=Q} (start N vs) H):FnOk P w K mg base CX0 (k+1) f fd ps sp:=by
 obtain ⟨oc,od,kV,doc,pm,an,cdv,ct,osl,rfl,lk,hcd⟩:=F.ex
 refine fn_of lk hcd S len fun A outer s H vs Q E hr hsp=> ?_
 obtain ⟨t,h,q⟩:=hbody cdv A outer s H vs Q E hr hsp
 exact ⟨t,h.nox,q⟩
theorem FunD.binds {x qual:Str} {st:Stmt} {f:Addr} {fd:FuncData} {dV:Value} {ps:List Str} (F:FunD K x qual st f fd dV)
  (h:∀ (kV doc pm:Value) (an:Option Addr) (cdv ct:Value) (us:List Value),us.length=ps.length→bindArgs (PySem.W.fnOf x qual (Az0H st) (Az0F st) (Az0A st) dV kV doc pm an cdv ct) ⟨us,[]⟩=pure (ps.zip us)):Binds K fd ps []:=by
 obtain ⟨oc,od,kV,doc,pm,an,cdv,ct,osl,rfl,lk,hcd⟩:=F.ex
 exact .all (h kV doc pm an cdv ct)
theorem FunD.binds1 {x qual:Str} {st:Stmt} {f T:Addr} {fd:FuncData} {oT:Obj} {v0:Value} {un:Nat} {ps:List Str} (F:FunD K x qual st f fd (.ref T)) (hT:K.lookup T=some oT) (hs:oT.data= .seq #[v0] un)
  (h:∀ (kV doc pm:Value) (an:Option Addr) (cdv ct:Value) (us:List Value),us.length=ps.length→∃ k,bindArgs (PySem.W.fnOf x qual (Az0H st) (Az0F st) (Az0A st) (.ref T) kV doc pm an cdv ct) ⟨us,[]⟩=seqItems? (.ref T) >>= k∧k (some #[v0])=pure (ps.zip us)):Binds K fd ps []:=by
 obtain ⟨oc,od,kV,doc,pm,an,cdv,ct,osl,rfl,lk,hcd⟩:=F.ex
 intro s us KX hl
 rw [List.append_nil] at hl ⊢
 obtain ⟨k,e1,e2⟩:=h kV doc pm an cdv ct us hl
 exact .of_defaults (T:=T) rfl (KX _ _ hT) hs e1 e2
theorem Cz2V {x qual:Str} {st:Stmt} {f:Addr} {oc dV:Value} {od an:Option Addr} {osl:Array (Option Value)} {kV doc pm cdv ct:Value} (l:K.lookup f=some ⟨oc,od, .func (PySem.W.fnOf x qual (Az0H st) (Az0F st) (Az0A st) dV kV doc pm an cdv ct),osl⟩)
  (c:PySem.W.codeIn K cdv qual=true) (k:PySem.W.keepIn K (.ref f)=true):FunD K x qual st f (PySem.W.fnOf x qual (Az0H st) (Az0F st) (Az0A st) dV kV doc pm an cdv ct) dV:=⟨⟨oc,od,kV,doc,pm,an,cdv,ct,osl,rfl,l,c⟩,k⟩
theorem Cz8Z {k:Nat} {x qual:Str} {st:Stmt} {fa:Addr} {fd:FuncData} {dV:Value} {N ps:List Str} {g:DSt→Out} (F:FunD K x qual st fa fd dV) (S:FnScope N ps (Az0A st))
  (hm:mg x=some (.ref fa)) (hb:Binds K fd ps [])
  (body:∀ (cdv:Value) (A:Around) (outer:List Env) (s:Shared) (H:Hp) (E:XK),Room k (A.deeper (envOfC qual (Az0A st) s.heap.objs.size fa cdv))→
   XSs (cxOf CX0 P w K mg base N qual (Az0A st) fa cdv A outer s H E).nox xwF (Az0F st) g):Fn P w K mg base (k+1) x ps.length (runD N.length g):=by
 refine ⟨fa,fd,ps,F.ok S (fun vs H Q E h=>h.1) (fun cdv A outer s H vs Q E hr h=> ?_),hm,F.kp,hb⟩
 obtain ⟨hl,W,ds,hw,hd,q⟩:=h
 refine ⟨_,(body cdv A outer s H E hr).h,W,H,W,startD N.length ds,Az7L hw hd,?_⟩
 unfold runD at q
 cases h:g (startD N.length ds) with
 |rt d=>rw [h] at q;exact fun v H' k hv=>q v H' k hv
 |nx δ=>rw [h] at q;exact fun W' H' σ' k st'=>q .non H' st'.fr.ext (by rw [Has])
 |bk δ=>rw [h] at q;exact q.elim
 |ct δ=>rw [h] at q;exact q.elim
 |ex c fs=>rw [h] at q;exact q.elim
 |stuck=>rw [h] at q;exact q.elim
end
end L3
namespace L3
open PySem PySem.Spec PyProof.Rows L2 SeqAt
section
variable {X:Cx} {xw:XW} {a b:Expr} {fa fb:DSt→Res D} {pos p:Pos}
end
structure FnL (P:Program) (w:World) (K:PySem.W.Frag) (mg:Str→Option Value) (base:Heap) (k:Nat) (x:Str) (n:Nat) (m:List D→Res D) (i:Int):Prop where
 ex:∃ (fa:Addr) (fd:FuncData) (ps:List Str) (v0:Value),FnOk P w K mg base CX0 k fa fd ps (spD K n m)∧mg x=some (.ref fa)∧PySem.W.keepIn K (.ref fa)=true∧Binds K fd ps [v0]∧RelV (.int i) v0
theorem FnL.mono {P:Program} {w:World} {K:PySem.W.Frag} {mg:Str→Option Value} {base:Heap} {j k n:Nat} {x:Str} {m:List D→Res D} {i:Int} (F:FnL P w K mg base j x n m i) (h:j≤k):FnL P w K mg base k x n m i:=
 let ⟨fa,fd,ps,v0,G,hm,hk,hb,hv⟩:=F.ex
 ⟨fa,fd,ps,v0,G.mono h,hm,hk,hb,hv⟩
theorem FunD.bindsL {K:PySem.W.Frag} {x qual:Str} {st:Stmt} {f T:Addr} {fd:FuncData} {oT:Obj} {v0:Value} {un:Nat} {ps:List Str} (F:FunD K x qual st f fd (.ref T)) (hT:K.lookup T=some oT) (hs:oT.data= .seq #[v0] un)
  (h:∀ (kV doc pm:Value) (an:Option Addr) (cdv ct:Value) (us:List Value),us.length+1=ps.length→∃ k,bindArgs (PySem.W.fnOf x qual (Az0H st) (Az0F st) (Az0A st) (.ref T) kV doc pm an cdv ct) ⟨us,[]⟩=seqItems? (.ref T) >>= k∧k (some #[v0])=pure (ps.zip (us++ [v0]))):Binds K fd ps [v0]:=by
 obtain ⟨oc,od,kV,doc,pm,an,cdv,ct,osl,rfl,lk,hcd⟩:=F.ex
 intro s us KX hl
 obtain ⟨k,e1,e2⟩:=h kV doc pm an cdv ct us (by rw [←hl,List.length_append];rfl)
 exact .of_defaults (T:=T) rfl (KX _ _ hT) hs e1 e2
theorem Cz8Y {P:Program} {w:World} {K:PySem.W.Frag} {mg:Str→Option Value} {base:Heap} {k:Nat} {x qual:Str} {st:Stmt} {fa:Addr} {fd:FuncData} {dV v0:Value} {i:Int} {N ps:List Str} {g:DSt→Out} (F:FunD K x qual st fa fd dV) (S:FnScope N ps (Az0A st))
  (hm:mg x=some (.ref fa)) (hb:Binds K fd ps [v0]) (hv:RelV (.int i) v0)
  (body:∀ (cdv:Value) (A:Around) (outer:List Env) (s:Shared) (H:Hp) (E:XK),Room k (A.deeper (envOfC qual (Az0A st) s.heap.objs.size fa cdv))→
   XSs (cxOf CX0 P w K mg base N qual (Az0A st) fa cdv A outer s H E).nox xwF (Az0F st) g):FnL P w K mg base (k+1) x ps.length (runD N.length g) i:=by
 refine ⟨fa,fd,ps,v0,F.ok S (fun vs H Q E h=>h.1) (fun cdv A outer s H vs Q E hr h=> ?_),hm,F.kp,hb,hv⟩
 obtain ⟨hl,W,ds,hw,hd,q⟩:=h
 refine ⟨_,(body cdv A outer s H E hr).h,W,H,W,startD N.length ds,Az7L hw hd,?_⟩
 unfold runD at q
 cases h:g (startD N.length ds) with
 |rt d=>rw [h] at q;exact fun v H' k hv=>q v H' k hv
 |nx δ=>rw [h] at q;exact fun W' H' σ' k st'=>q .non H' st'.fr.ext (by rw [Has])
 |bk δ=>rw [h] at q;exact q.elim
 |ct δ=>rw [h] at q;exact q.elim
 |ex c fs=>rw [h] at q;exact q.elim
 |stuck=>rw [h] at q;exact q.elim
def leftR (n:Nat) (m:List D→Res D) (i:Int) (ds:List D):Res D:=callR n m (ds++ [.int i])
theorem x_left {X:Cx} {xw:XW} {pos:Pos} {a:Expr} {es:List Expr} {k n:Nat} {x:Str} {m:List D→Res D} {i:Int} {fs:DSt→Res (List D)} {p:Pos} (F:FnL X.prog X.w X.K X.mg X.base k x n m i) (hr:Room k X.A) (ha:XA X xw (a::es) fs) (hg:Gl X x:=by rfl)
  (hdb:(x==("__debug__":Str))=false:=by decide) (he:starEach (a::es) X.env=(false,eval a X.env)::starEach es X.env:=by rfl) (hpl:(backTo pos (starEach es X.env)).any (·.1)=false:=by rfl):
  XE X xw (.Call (.Name x p) (a::es) [] pos) (b1 (leftR n m i) fs):=⟨by
 obtain ⟨fa,fd,ps,v0,G,hm,hk,hb,hv0⟩:=F.ex
 refine PE.weak (Cz2L G hr hg hm hk hb (.cons hv0 .nil) pass0 ha.h hdb he hpl) fun σ H Q ⟨W₀,H₀,W,δ,st,q⟩=> ?_
 refine Az7Q st q fun H2 ds vs k w st2 hv _ q2=> ?_
 unfold leftR callR at q2
 split at q2
 ·rename_i hn
  have hv':HasL X.K W H2 (ds++ [.int i]) (vs++ [.int i]):=hv.append (HasL.cons (by rw [Has]) HasL.nil)
  refine ⟨by rw [←hv'.length];exact hn,W,ds++ [.int i],w,hv',?_⟩
  cases h:m (ds++ [.int i]) with
  |ok d=>rw [h] at q2;exact q2
  |ex c fs=>rw [h] at q2;exact q2
  |stuck=>rw [h] at q2;exact q2
 ·exact q2.elim⟩
end L3
namespace L3
open PySem PySem.Spec PyProof.Rows L2 SeqAt
structure Fly (P:Program) (w:World) (l:List Env) (H:Hp) (s:Shared) (H':Hp) (a:Addr) (cls:Value) (h:Heap):Prop where
 un:Un (frs l) [] H H' s.heap h
 hok:HOk P w H' h
 frf:∀ b∈frs l,H' b=none
 new:s.heap.get? a=none
 nh:H' a=none
 fl:∃ B a0,Heap.FlyingW B l a cls a0 h∧∀ b,b∉frs l→((H' b).isSome=true∨(s.heap.get? b).isSome=true)→(B.get? b).isSome=true
section
variable {P:Program} {w:World} {l:List Env} {H H':Hp} {s:Shared} {a:Addr} {cls a0:Value} {h h' B:Heap}
end
def CXD (P:Program) (w:World):CXT:=fun l H s E e s'=>∃ a cls H',e= .ref a∧s'.os=s.os∧AllBare s'.gens∧Fly P w l H s H' a cls s'.heap∧E cls none H'
section
variable {X:Cx} {pins:List (Addr×Obj)} {σ:L2.St} {H H':Hp} {s s':Shared} {a:Addr} {cls:Value} {M:Model} {Ex:Value→Shared→Prop}
end
end L3
namespace L3
open PySem PySem.Spec PyProof.Rows L2 SeqAt
def spX (K:PySem.W.Frag) (n:Nat) (m:List D→Res D):Sp:=fun vs H Q E=>vs.length=n∧∃ W ds,WL W H∧HasL K W H ds vs∧match m ds with
 | .ok d=>∀ v H',Same H H'→Has K W H' d v→Q v H'
 | .ex c _=>∀ cls H',PySem.W.nsIn K mainGlobals c=some (some cls)→Same H H'→E cls none H'
 | .stuck=>False
structure FnX (P:Program) (w:World) (K:PySem.W.Frag) (mg:Str→Option Value) (base:Heap) (k:Nat) (x:Str) (n:Nat) (m:List D→Res D):Prop where
 ex:∃ f fd ps,FnOk P w K mg base (CXD P w) k f fd ps (spX K n m)∧mg x=some (.ref f)∧PySem.W.keepIn K (.ref f)=true∧Binds K fd ps []
theorem FnX.mono {P:Program} {w:World} {K:PySem.W.Frag} {mg:Str→Option Value} {base:Heap} {j k n:Nat} {x:Str} {m:List D→Res D} (F:FnX P w K mg base j x n m) (h:j≤k):FnX P w K mg base k x n m:=by
 obtain ⟨f,fd,ps,a,b⟩:=F.ex
 exact ⟨f,fd,ps,a.mono h,b⟩
structure FnXL (P:Program) (w:World) (K:PySem.W.Frag) (mg:Str→Option Value) (base:Heap) (k:Nat) (x:Str) (n:Nat) (m:List D→Res D) (i:Int):Prop where
 ex:∃ (fa:Addr) (fd:FuncData) (ps:List Str) (v0:Value),FnOk P w K mg base (CXD P w) k fa fd ps (spX K n m)∧mg x=some (.ref fa)∧PySem.W.keepIn K (.ref fa)=true∧Binds K fd ps [v0]∧RelV (.int i) v0
theorem FnXL.mono {P:Program} {w:World} {K:PySem.W.Frag} {mg:Str→Option Value} {base:Heap} {j k n:Nat} {x:Str} {m:List D→Res D} {i:Int} (F:FnXL P w K mg base j x n m i) (h:j≤k):FnXL P w K mg base k x n m i:=
 let ⟨fa,fd,ps,v0,G,hm,hk,hb,hv⟩:=F.ex
 ⟨fa,fd,ps,v0,G.mono h,hm,hk,hb,hv⟩
def runX (n:Nat) (g:DSt→Out) (ds:List D):Res D:=match g (startD n ds) with
 | .rt d=> .ok d
 | .nx _=> .ok .non
 | .ex c fs=> .ex c fs
 |_=> .stuck
section
variable {P:Program} {w:World} {K:PySem.W.Frag} {mg:Str→Option Value} {base:Heap}
end
def noexO:Out→Out
 | .ex _ _=> .stuck
 |o=>o
section
variable {X:Cx} {xw:XW} {e a:Expr} {es:List Expr} {f:DSt→Res D} {ga:DSt→Res Bool} {fs:DSt→Res (List D)} {pos p:Pos} {st:Stmt} {sts:List Stmt} {g:DSt→Out}
theorem PS.nox {st:Stmt} {t:TS} (h:PS X.nox st t):PS X st t:=fun pins s σ H D I hw=>
 wpAny_mono (h pins s σ H D (I.wish _) hw) (fun _ _ q=>q.unwish) fun _ _ z=>False.elim z
theorem PA.nox {t:TA} (h:PA X.nox es t):PA X es t:=fun ps pins s σ H Q I hw=>
 wpAny_mono (h ps pins s σ H Q (I.wish _) hw) (fun _ _ ⟨v,H',I',r,q⟩=>⟨v,H',I'.unwish,r,q⟩) fun _ _ z=>False.elim z
def noxA (f:DSt→Res (List D)):DSt→Res (List D):=fun δ=>noex (f δ)
def noxB (f:DSt→Res Bool):DSt→Res Bool:=fun δ=>noex (f δ)
def noxS (g:DSt→Out):DSt→Out:=fun δ=>noexO (g δ)
end
abbrev bmV:List Value:= [.type "ValueError", .type "Exception", .type "BaseException", .type "object"]
structure ClsX (K:PySem.W.Frag) (c:Str):Prop where
 ex:∃ C,PySem.W.nsIn K mainGlobals c=some (some (.ref C))∧PySem.W.excIn K C bmV "ValueError.__new__"=true
def sRaise (c:Str) (fs:DSt→Res (List D)):DSt→Out:=fun δ=>ofR (fs δ) fun ds=>if ds.length=1 then .ex c [] else .stuck
section
variable {X:Cx} {xw:XW} {a:Expr} {es:List Expr} {fs:DSt→Res (List D)} {pos np cpos:Pos} {c:Str}
end
end L3
namespace L3
open PySem PySem.Spec PyProof.Rows L2 SeqAt
abbrev tryX (X:Cx) (pins:List (Addr×Obj)) (E:Value→Shared→Prop):Cx:= {X with pn:=X.pn++pins,xe:=E}
section
variable {X:Cx} {pins:List (Addr×Obj)} {σ:L2.St} {H H':Hp} {s s':Shared} {a:Addr} {cls:Value} {Ex:Value→Shared→Prop}
end
structure MatchX (K:PySem.W.Frag) (C c:Str):Prop where
 ex:∃ vc vC,PySem.W.nsIn K mainGlobals c=some (some vc)∧PySem.W.nsIn K mainGlobals C=some (some vC)∧PySem.W.exmOne K vc vC=some true
section
variable {X:Cx} {pins:List (Addr×Obj)} {σ:L2.St} {H H':Hp} {s s':Shared} {a:Addr} {cls vC:Value} {Ex:Value→Shared→Prop} {C n:Str} {np pos:Pos} {b₀:Stmt} {suite:List Stmt} {rest:List ExceptHandler} {Q:Flow→Shared→Prop}
end
end L3
namespace L3
open PySem PySem.Spec PyProof.Rows L2 SeqAt
section
variable {X:Cx} {CX:CXT} {k:Nat} {f:Addr} {fd:FuncData} {ps:List Str} {sp:Sp} {dvs:List V} {ds:List Value} {E:L2.St→XK} {x:Str} {p pos:Pos} {e:Expr} {es:List Expr} {t:TA}
end
structure KindX (X:Cx) (e:Expr) (st:Stmt) (gK:D→DSt→Out):Prop where
 ex:∃ cont:Ends→L2.St→VK,(∀ (pins:List (Addr×Obj)) (Ex:Value→Shared→Prop) (te:TE),PE (tryX X pins Ex) e te→PS (tryX X pins Ex) st (fun Dn σ H=>te σ H (cont Dn σ)))∧
  ∀ (xw:XW) (W₀:WS) (H₀:Hp) (W:WS) (H:Hp) (d:D) (v:V) (σ:L2.St) (δ:DSt) (Dn:Ends),StHas X.K W₀ H₀ W H σ δ→Has X.K W H d v→RS X.K xw W₀ H₀ W H (gK d δ) Dn→cont Dn σ v H
section
variable {X:Cx} {e:Expr} {pos:Pos}
end
section
variable {X:Cx} {xw:XW} {a:Expr} {es:List Expr} {fs:DSt→Res (List D)} {p pos cpos hpos tpos np:Pos} {st b₀:Stmt} {suite orelse:List Stmt} {k nn:Nat} {x C n:Str} {m:List D→Res D} {gK:D→DSt→Out} {go gsu:DSt→Out}
end
end L3
namespace L3
open PySem PySem.Spec PyProof.Rows L2 SeqAt
section
variable {X:Cx} {xw:XW} {a:Expr} {es:List Expr} {fs:DSt→Res (List D)} {p pos cpos hpos tpos np:Pos} {st b₀:Stmt} {suite orelse:List Stmt} {k nn:Nat} {x C n:Str} {m:List D→Res D} {gK:D→DSt→Out} {go gsu:DSt→Out}
end
end L3
namespace L3
open PySem PySem.Spec PySem.Calls PyProof.Rows PySem.W Builtin Builtin.ObjectAttr Builtin.Getset_descriptor
structure ExcK (K:Frag) (C:Addr):Prop where
 ga:findIn K (.ref C) "__getattribute__"=some (some (.builtin "BaseException.__getattribute__"))
 gt:findIn K (.ref C) "__getattr__"=some none
 cl:findIn K (.ref C) "__class__"=some (some (.builtin "object.__class__"))
 ob:mroIn K C (.type "object")=some true
 be:mroIn K C (.type "BaseException")=some true
section
variable {prog:Program} {w:World} {A:Around} {E:Value→Shared→Prop} {h:Heap} {g:Array GenState} {d:Drawn} {t:Nat} {os:OsState} {K:Frag} {a C:Addr} {o:Obj}
end
end L3
namespace L3
open PySem PySem.Spec PyProof.Rows L2 SeqAt
section
variable {X:Cx} {xw:XW} {a:Expr} {es:List Expr} {fa:DSt→Res D} {fs:DSt→Res (List D)} {pos p p2:Pos} {c:Str}
inductive IsC (K:PySem.W.Frag) (mg:Str→Option Value):Str→V→Prop
 |own {c:Str} {C:Addr}:mg c=some (.ref C)→IsC K mg c (.ref C)
 |blt {c:Str} {T:String}:mg c=none→bootBuiltins c=some (.type T)→c≠"__name__"→IsC K mg c (.ty T)
structure XC (X:Cx) (e:Expr) (v:V):Prop where
 h:PE X e (tC v)
structure XCs (X:Cx) (es:List Expr) (vs:List V):Prop where
 h:PA X es (fun _ H Q=>Q vs H)
def valC:V→Value
 | .ref a=> .ref a
 | .ty T=> .type T
 |_=> .none
structure IsiX (K:PySem.W.Frag) (tb:List (Str×Bool)) (vs:List V):Prop where
 cls:∀ v∈vs,(∃ a,v= .ref a)∨∃ T,v= .ty T
 ok:∀ c b,tb.lookup c=some b→∃ C,PySem.W.nsIn K mainGlobals c=some (some (.ref C))∧ExcK K C∧PySem.W.kitAny K (.ref C) (vs.map valC)=some b
end
end L3
namespace L3
open PySem PySem.Spec PyProof.Rows L2 SeqAt
section
variable {X:Cx} {xw:XW} {a b c tg:Expr} {pos p:Pos}
end
section
variable {X:Cx} {xw:XW} {a:Expr} {lo:Option Expr} {st:Expr} {fa:DSt→Res D} {fl fh:DSt→Res (Option Int)} {pos p2:Pos}
end
end L3
namespace L3
open PySem PySem.Spec PyProof.Rows L2 SeqAt
section
variable {X:Cx} {xw:XW}
end
end L3
namespace L3
open PySem PySem.Spec PyProof.Rows L2 SeqAt
theorem us1 {P:List Value→Prop} (h:∀ a0:Value,P [a0]):∀ us:List Value,us.length=1→P us
 | [a0],_=>h a0
theorem us2 {P:List Value→Prop} (h:∀ a0 a1:Value,P [a0,a1]):∀ us:List Value,us.length=2→P us
 | [a0,a1],_=>h a0 a1
theorem us3 {P:List Value→Prop} (h:∀ a0 a1 a2:Value,P [a0,a1,a2]):∀ us:List Value,us.length=3→P us
 | [a0,a1,a2],_=>h a0 a1 a2
section
variable {K:PySem.W.Frag} {W₀ W:WS} {H₀ H H':Hp} {σ:L2.St} {δ:DSt}
end
def fldsR:List (Str×(DSt→Res D))→DSt→Res (List D)
 | [],_=> .ok []
 |p::r,δ=>(p.2 δ).bind fun d=>(fldsR r δ).bind fun ds=> .ok (d::ds)
def RI (K:PySem.W.Frag) (W₀:WS) (H₀:Hp) (W:WS) (δ:DSt) (σ:L2.St) (C dx x:Addr) (ks:List Str) (ds:List D) (r:Res (List D)) (Dn:Ends):Prop:=match r with
 | .ok es=>∀ H' fl',StHas K W₀ H₀ W H' σ δ→H' x=some (.ins C dx fl')→fl'.map (·.1)=ks→HasL K W H' (ds++es) (fl'.map (·.2))→Dn.nx σ H'
 |_=>False
def tInit (K:PySem.W.Frag) (C:Addr) (fs:List (Str×(DSt→Res D))):TS:=fun Dn σ H=>∃ W₀ H₀ W δ x dx fl ds,StHas K W₀ H₀ W H σ δ∧σ[0]? =some (some (.ref x))∧W x∧H₀ x=none∧H x=some (.ins C dx fl)∧
 HasL K W H ds (fl.map (·.2))∧(fl.map (·.1)++fs.map (·.1)).Nodup∧fl.length+fs.length<1000∧RI K W₀ H₀ W δ σ C dx x (fl.map (·.1)++fs.map (·.1)) ds (fldsR fs δ) Dn
structure XIn (X:Cx) (C:Addr) (sts:List Stmt) (fs:List (Str×(DSt→Res D))):Prop where
 h:PSs X sts (tInit X.K C fs)
section
variable {X:Cx} {xw:XW} {C:Addr} {e a:Expr} {es:List Expr} {f fa fb:DSt→Res D} {fs:List (Str×(DSt→Res D))} {sts:List Stmt} {pos p p1 p2 p3:Pos} {fld c:Str}
end
def spI (K:PySem.W.Frag) (C:Addr) (n:Nat) (nl:Nat) (c:Str) (fs:List (Str×(DSt→Res D))):Sp:=fun vs H Q _=>∃ x dx vs' H1 W ds,vs=V.ref x::vs'∧vs'.length=n∧H=upd (upd H1 dx (.own x)) x (.ins C dx [])∧H1 x=none∧H1 dx=none∧dx≠x∧
 WL W H1∧HasL K W H1 ds vs'∧match fldsR fs (none::startD nl ds) with
  | .ok es=>∀ H' fl,Same H1 H'→H' x=some (.ins C dx fl)→fl.map (·.1)=fs.map (·.1)→HasL K W H' es (fl.map (·.2))→Q .non H'
  |_=>False
structure FnI (P:Program) (w:World) (K:PySem.W.Frag) (mg:Str→Option Value) (base:Heap) (k:Nat) (c:Str) (n nl:Nat) (fs:List (Str×(DSt→Res D))):Prop where
 ex:∃ j C f fd ps,j+1≤k∧FnOk P w K mg base CX0 j f fd ps (spI K C n nl c fs)∧Mk K C f∧mg c=some (.ref C)∧PySem.W.nsIn K mainGlobals c=some (some (.ref C))∧Binds K fd ps []
theorem FnI.mono {P:Program} {w:World} {K:PySem.W.Frag} {mg:Str→Option Value} {base:Heap} {j k n nl:Nat} {c:Str} {fs:List (Str×(DSt→Res D))} (F:FnI P w K mg base j c n nl fs) (h:j≤k):FnI P w K mg base k c n nl fs:=by
 obtain ⟨i,C,f,fd,ps,a,b⟩:=F.ex
 exact ⟨i,C,f,fd,ps,Nat.le_trans a h,b⟩
section
variable {X:Cx} {xw:XW} {e a b:Expr} {es:List Expr} {f fa fb:DSt→Res D} {gs:DSt→Res (List D)} {fs:List (Str×(DSt→Res D))} {pos p p1 p2 p3:Pos} {fld c:Str}
structure FldK (K:PySem.W.Frag) (c fld:Str):Prop where
 ex:∃ C,PySem.W.nsIn K mainGlobals c=some (some (.ref C))∧Cls K C∧NoAttr K C fld
def EntT (w:World) (e:DictEntry) (p:Str×Str):Prop:=e.hash=keyH w (.inr p.1)∧(∃ t,e.key= .str p.1 t)∧∃ t,e.val= .str p.2 t
structure GlobQ (w:World) (K:PySem.W.Frag) (mg:Str→Option Value) (x:Str) (l:List (Str×Str)):Prop where
 h:∃ (ad:Addr) (o:Obj) (es:Array DictEntry) (n:Nat),mg x=some (.ref ad)∧K.lookup ad=some o∧o.ExactDict∧o.data= .dict es n∧Paired (EntT w) es.toList l∧(l.map (·.1)).Nodup
end
end L3
namespace L3
open PySem PySem.Spec PyProof.Rows L2 SeqAt
section
variable {X:Cx} {xw:XW} {e a b:Expr} {f fa fb:DSt→Res D} {pos pos' p p1 p2 p3:Pos}
theorem HasL.dropLast {K:PySem.W.Frag} {W:WS} {H:Hp} {ds:List D} {xs:List V} (h:HasL K W H ds xs):HasL K W H ds.dropLast xs.dropLast:=by
 rw [List.dropLast_eq_take,List.dropLast_eq_take,h.length]
 exact HasL.take _ h
end
end L3
namespace L3
open PySem PySem.Spec PyProof.Rows L2 SeqAt
section
variable {X:Cx} {xw:XW} {e:Expr} {ff:DSt→Res (List D)} {pos:Pos}
end
end L3
namespace L3
open PySem PySem.Spec PyProof.Rows L2 SeqAt
section
variable {X:Cx} {xw:XW} {a b:Expr} {fa fb:DSt→Res D} {pos:Pos}
end
end L3
namespace G
open PySem PySem.Spec PyProof.Rows L2 L3
noncomputable def Az8P:DSt→Out:=(sSeq (sIf (tR (b2 eqR (slotP 0) (asD (b1 lstR aNil)))) (sRet (b2 addD (b2 mulE (slotP 1) (kD (.int 7919))) (kD (.int 5)))) Out.nx)
  (sRet (b2 modD (b2 mulE (b2 addD (b2 addD (b2 ixR (slotP 0) (b2 modD (slotP 1) (b1 lenR (slotP 0)))) (kD (.int 1))) (slotP 1)) (b2 addD (kD (.int 48271)) (b2 mulE (kD (.int 7919)) (slotP 1)))) (kD (.int 2147483647)))))
noncomputable def Az0K:List D→Res D:=runD 2 Az8P
noncomputable def Az2X:DSt→Res D:=(b2 modD (b1 (callR 2 Az0K) (aCons (slotD 2) (aCons (b2 addD (b2 addD (slotP 3) (slotP 5)) (b2 mulE (kD (.int 31)) (slotP 0))) aNil))) (b2 ixR (slotP 1) (kD (.int 1))))
noncomputable def Az2W:DSt→Out:=(sSeq (sSet 5 (b2 addD (kD (.int 1)) (b2 modD (b2 fdivD (b1 (callR 2 Az0K) (aCons (slotD 1) (aCons (b2 addD (slotP 2) (slotP 4)) aNil))) (kD (.int 97))) (b1 minR (aCons (b2 ixR (slotP 0) (kD (.int 2))) (aCons (kD (.int 5)) aNil))))))
  (sSeq (sOwn 6 (vComp 1 (setI 0) (fun _=> .ok true) Az2X (b1 rng1R (aCons (slotD 5) aNil))))
  (sApp 3 (b1 tupofR (asD (b1 sortR (slotP 6)))))))
noncomputable def Az7J:DSt→Out:=(sSeq (sOwn 3 (b1 lstR aNil))
  (sSeq (sFor (setI 4) Az2W (b1 rng1R (aCons (b2 ixR (slotP 0) (kD (.int 0))) aNil)))
  (sRet (b1 tupofR (slotP 3)))))
noncomputable def Az2A:List D→Res D:=runD 7 Az7J
noncomputable def Bz6B:DSt→Out:=(sRet (b2 ixR (slotP 0) (kD (.int 1))))
noncomputable def Az0D:List D→Res D:=runD 1 Bz6B
noncomputable def Cz1Z:DSt→Out:=(sRet (b2 ixR (slotP 0) (kD (.int 3))))
noncomputable def Az0G:List D→Res D:=runD 1 Cz1Z
noncomputable def Az4X:DSt→Out:=(sSeq (sSet 3 (b2 addD (b2 ixR (slotP 1) (slotP 2)) (kD (.int 1))))
  (sSeq (sIf (tR (b2 geR (slotP 3) (b1 (callR 1 Az0D) (aCons (slotD 0) aNil)))) (sRet (kD (.bl false))) Out.nx)
  (sRet (vOr (b2 eqR (slotP 2) (kD (.int 0))) (b2 leR (b2 subD (slotP 3) (b2 ixR (slotP 1) (b2 subD (slotP 2) (kD (.int 1))))) (b1 (callR 1 Az0G) (aCons (slotD 0) aNil)))))))
noncomputable def Az0N:List D→Res D:=runD 4 Az4X
noncomputable def Bz6A:DSt→Out:=(sRet (b2 ixR (slotP 0) (kD (.int 0))))
noncomputable def Az0E:List D→Res D:=runD 1 Bz6A
noncomputable def Az2G:DSt→Out:=(sApp 2 (b1 maxR (aCons (kD (.int 0)) (aCons (b2 subD (b2 ixR (slotP 2) (b1 negD (kD (.int 1)))) (b1 (callR 1 Az0G) (aCons (slotD 0) aNil))) aNil))))
noncomputable def Az2H:DSt→Res Bool:=(tR (b2 ltR (b1 lenR (slotP 2)) (b1 (callR 1 Az0E) (aCons (slotD 0) aNil))))
noncomputable def Az8K:DSt→Out:=(sSeq (sOwn 2 (b1 seqR (slotP 1)))
  (sSeq (sWhile 100000 Az2H Az2G)
  (sRet (b1 tupofR (slotP 2)))))
noncomputable def Az1J:List D→Res D:=runD 3 Az8K
noncomputable def Az1N:DSt→Out:=(sIf (tR (b1 (callR 3 Az0N) (aCons (slotD 0) (aCons (slotD 1) (aCons (slotD 2) aNil))))) (sRet (b1 (callR 2 Az1J) (aCons (slotD 0) (aCons (b2 addD (b3 slW (slotP 1) oNone (b1 partR (slotD 2))) (b1 tupR (aCons (b2 addD (b2 ixR (slotP 1) (slotP 2)) (kD (.int 1))) aNil))) aNil)))) Out.nx)
noncomputable def Az9B:DSt→Out:=(sSeq (sFor (setI 2) Az1N (b1 rng3R (aCons (b2 subD (b1 lenR (slotP 1)) (kD (.int 1))) (aCons (b1 negD (kD (.int 1))) (aCons (b1 negD (kD (.int 1))) aNil)))))
  (sRet (kD .non)))
noncomputable def Az1R:List D→Res D:=runD 3 Az9B
noncomputable def Az3F:DSt→Out:=(sIf (tR (b2 ninR (b2 ixR (slotP 1) (slotP 2)) (slotP 3))) (sRet (slotD 2)) Out.nx)
noncomputable def Az6A:DSt→Out:=(sSeq (sFor (unTup 2 (unCons (setI 2) (unCons (setI 3) unNil))) Az3F (b1 enumR (aCons (slotD 0) aNil)))
  (sRet (kD .non)))
noncomputable def Az1H:List D→Res D:=runD 4 Az6A
noncomputable def Bz1P:DSt→Out:=(sRet (b1 isNR (b1 (callR 2 Az1H) (aCons (slotD 0) (aCons (slotD 1) aNil)))))
noncomputable def Az1I:List D→Res D:=runD 2 Bz1P
noncomputable def Az3A:DSt→Out:=(sSet 3 (b1 (callR 2 Az1R) (aCons (slotD 0) (aCons (slotD 3) aNil))))
noncomputable def Az0S:DSt→Res Bool:=(tAnd2 (tR (b1 notNR (slotP 3))) (tNot1 (tR (b1 (callR 2 Az1I) (aCons (slotD 1) (aCons (slotD 3) aNil))))))
noncomputable def Az9D:DSt→Out:=(sSeq (sSet 3 (b1 (callR 2 Az1R) (aCons (slotD 0) (aCons (slotD 2) aNil))))
  (sSeq (sWhile 100000 Az0S Az3A)
  (sRet (slotD 3))))
noncomputable def Az1B:List D→Res D:=runD 4 Az9D
noncomputable def Az8M:DSt→Out:=(sRet (b2 mulE (b1 tupR (aCons (kD (.int 0)) aNil)) (b1 (callR 1 Az0E) (aCons (slotD 0) aNil))))
noncomputable def Az0T:List D→Res D:=runD 1 Az8M
noncomputable def Az6B:DSt→Out:=(sSeq (sSet 2 (b1 (callR 1 Az0T) (aCons (slotD 0) aNil)))
  (sSeq (sIf (tR (b1 (callR 2 Az1I) (aCons (slotD 1) (aCons (slotD 2) aNil)))) (sRet (slotD 2)) Out.nx)
  (sRet (b1 (callR 3 Az1B) (aCons (slotD 0) (aCons (slotD 1) (aCons (slotD 2) aNil)))))))
noncomputable def Az0Y:List D→Res D:=runD 3 Az6B
noncomputable def Az4U:DSt→Res D:=(b2 geR (slotP 1) (slotP 0))
noncomputable def Bz1S:DSt→Out:=(sRet (b1 allR (asD (vComp 2 (unTup 2 (unCons (setI 0) (unCons (setI 1) unNil))) (fun _=> .ok true) Az4U (b1 zipR (aCons (slotD 0) (aCons (slotD 1) aNil)))))))
noncomputable def Az3X:List D→Res D:=runD 2 Bz1S
noncomputable def Az8N:DSt→Out:=(sRet (b2 leR (b1 absR (b2 subD (slotP 1) (slotP 2))) (b1 (callR 1 Az0G) (aCons (slotD 0) aNil))))
noncomputable def Az1A:List D→Res D:=runD 3 Az8N
noncomputable def Az5V:DSt→Res D:=(slotD 1)
noncomputable def Az4R:DSt→Res Bool:=(tR (b1 (callR 3 Az1A) (aCons (slotD 2) (aCons (slotD 3) (aCons (slotD 0) aNil)))))
noncomputable def Bz0F:DSt→Out:=(sSeq (sIf (tR (b2 eqR (b1 lenR (slotP 2)) (kD (.int 0)))) (sRet (kD (.int 1))) Out.nx)
  (sRet (b1 sumLR (asD (vComp 2 (unTup 2 (unCons (setI 0) (unCons (setI 1) unNil))) Az4R Az5V (b1Q pairsR (b2 ixR (slotP 2) (kD (.int 0)))))))))
noncomputable def Az2E:List D→Res D:=runD 3 Bz0F
noncomputable def Az5T:DSt→Out:=(sIf (tR (b2 inR (slotP 4) (slotP 1))) (sPutI 3 (slotD 4) (b1 (callR 3 Az2E) (aCons (slotD 0) (aCons (slotD 4) (aCons (slotD 2) aNil))))) Out.nx)
noncomputable def Bz4X:DSt→Out:=(sSeq (sOwnQ 3)
  (sSeq (sFor (setI 4) Az5T (b1 rng1R (aCons (b1 (callR 1 Az0D) (aCons (slotD 0) aNil)) aNil)))
  (sFrz 3 (sRet (slotP 3)))))
noncomputable def Az5R:List D→Res D:=runD 5 Bz4X
noncomputable def Az6Z:DSt→Out:=(sSet 2 (asD (b2F catR (asD (b1 lstR (aCons (b1 (callR 3 Az5R) (aCons (slotD 0) (aCons (slotD 3) (aCons (slotD 2) aNil)))) aNil))) (slotP 2))))
noncomputable def Bz4W:DSt→Out:=(sSeq (sSet 2 (asD (b1 lstR aNil)))
  (sSeq (sFor (setI 3) Az6Z (b1 revWR (aCons (slotD 1) aNil)))
  (sRet (slotD 2))))
noncomputable def Az2F:List D→Res D:=runD 4 Bz4W
noncomputable def Bz1R:DSt→Out:=(sRet (b1 sumvR (b2 ixR (b1 (callR 2 Az2F) (aCons (slotD 0) (aCons (slotD 1) aNil))) (kD (.int 0)))))
noncomputable def Az2Z:List D→Res D:=runD 2 Bz1R
noncomputable def Az4C:DSt→Res D:=(slotD 0)
noncomputable def Az2Y:DSt→Res Bool:=(tR (b2 geR (slotP 0) (slotP 2)))
noncomputable def Az1E:DSt→Res D:=(b1 tupofR (asD (vComp 1 (setI 0) Az2Y Az4C (b1 seqR (slotD 0)))))
noncomputable def Az7I:DSt→Out:=(sSeq (sOwn 3 (vComp 2 (unTup 2 (unCons (setI 0) (unCons (setI 1) unNil))) (fun _=> .ok true) Az1E (b1 zipR (aCons (slotD 1) (aCons (slotD 2) aNil)))))
  (sRet (b1 (callR 2 Az2Z) (aCons (slotD 0) (aCons (b1 tupofR (slotP 3)) aNil)))))
noncomputable def Az0W:List D→Res D:=runD 4 Az7I
noncomputable def Az6P:DSt→Out:=(sRet (vAnd (b1 (isiR "int") (slotP 0)) (b1 notD (b1 (isiR "bool") (slotP 0)))))
noncomputable def Az0Q:List D→Res D:=runD 1 Az6P
noncomputable def Az8L:DSt→Out:=(sRet (vAnd (b1 (callR 1 Az0Q) (aCons (slotD 1) aNil)) (bCh leR ltR (kD (.int 0)) (slotP 1) (b1 (callR 1 Az0D) (aCons (slotD 0) aNil)))))
noncomputable def Az1L:List D→Res D:=runD 2 Az8L
noncomputable def Az3U:DSt→Res D:=(b1 (callR 2 Az1L) (aCons (slotD 1) (aCons (slotD 0) aNil)))
noncomputable def Az4O:DSt→Res D:=(b1 (callR 3 Az1A) (aCons (slotD 2) (aCons (slotD 0) (aCons (slotD 1) aNil))))
noncomputable def Az6Q:DSt→Out:=(sSeq (sIf (tOr2 (tNot1 (tR (b1 (isiR "tuple") (slotP 1)))) (tR (b2 neR (b1 lenR (slotP 1)) (b1 (callR 1 Az0E) (aCons (slotD 0) aNil))))) (sRet (kD (.bl false))) Out.nx)
  (sSeq (sIf (tNot1 (tR (b1 allR (asD (vComp 1 (setI 0) (fun _=> .ok true) Az3U (b1 seqR (slotD 1))))))) (sRet (kD (.bl false))) Out.nx)
  (sRet (b1 allR (asD (vComp 2 (unTup 2 (unCons (setI 0) (unCons (setI 1) unNil))) (fun _=> .ok true) Az4O (b1 zipR (aCons (slotD 1) (aCons (b3 slW (slotP 1) (b1 partR (kD (.int 1))) oNone) aNil)))))))))
noncomputable def Az0X:List D→Res D:=runD 2 Az6Q
noncomputable def Az8E:DSt→Res D:=(b2 inR (slotP 0) (slotP 2))
noncomputable def Bz1Q:DSt→Out:=(sRet (b1 allR (asD (vComp 1 (setI 0) (fun _=> .ok true) Az8E (b1 signR (slotD 0))))))
noncomputable def Az4L:List D→Res D:=runD 2 Bz1Q
noncomputable def Az4W:DSt→Out:=(sSeq (sIf (tOr2 (tNot1 (tR (bCh leR leR (kD (.int 1)) (b1 lenR (slotP 0)) (slotP 1)))) (tNot1 (tR (b1 (callR 2 Az4L) (aCons (slotD 0) (aCons (kD (.str "0123456789")) aNil)))))) (sRet (kD (.bl false))) Out.nx)
  (sRet (vOr (b2 eqR (slotP 0) (kD (.str "0"))) (b2 neR (b2 ixR (slotP 0) (kD (.int 0))) (kD (.str "0"))))))
noncomputable def Az1K:List D→Res D:=runD 2 Az4W
noncomputable def Az3I:DSt→Res D:=(b1 (callR 2 Az1K) (aCons (slotD 0) (aCons (kD (.int 3)) aNil)))
noncomputable def Az3H:DSt→Res D:=(b1 intS (slotP 0))
noncomputable def Az8J:DSt→Out:=(sSeq (sIf (tNot1 (tR (b1 (isiR "str") (slotP 0)))) (sRet (kD .non)) Out.nx)
  (sSeq (sSet 2 (asD (bM splitR (slotD 0) (aCons (slotD 1) aNil))))
  (sSeq (sIf (tNot1 (tR (b1 allR (asD (vComp 1 (setI 0) (fun _=> .ok true) Az3I (b1 seqR (slotD 2))))))) (sRet (kD .non)) Out.nx)
  (sRet (b1 tupofR (asD (vComp 1 (setI 0) (fun _=> .ok true) Az3H (b1 seqR (slotD 2)))))))))
noncomputable def Az0M:List D→Res D:=runD 3 Az8J
noncomputable def Az9A:DSt→Out:=(sSeq (sSet 2 (b1 (callR 2 Az0M) (aCons (slotD 1) (aCons (kD (.str "-")) aNil))))
  (sSeq (sIf (tNot1 (tR (b1 (callR 2 Az0X) (aCons (slotD 0) (aCons (slotD 2) aNil))))) (fun _=> .stuck) Out.nx)
  (sRet (slotD 2))))
noncomputable def Az3S:List D→Res D:=runD 3 Az9A
noncomputable def Az3G:DSt→Res D:=(b1 strR (slotP 0))
noncomputable def Az8I:DSt→Out:=(sRet (bM joinR (kD (.str "-")) (aCons (asD (vComp 1 (setI 0) (fun _=> .ok true) Az3G (b1 seqR (slotD 0)))) aNil)))
noncomputable def Az1T:List D→Res D:=runD 1 Az8I
noncomputable def Az9E:DSt→Out:=(sSeq (sIf (tOr2 (tNot1 (tR (b1 (callR 2 Az1I) (aCons (slotD 1) (aCons (slotD 2) aNil))))) (tOr2 (tNot1 (tR (b1 (callR 2 Az3X) (aCons (slotD 2) (aCons (slotD 2) aNil))))) (tR (b2 ltR (b1 (callR 3 Az0W) (aCons (slotD 0) (aCons (slotD 1) (aCons (slotD 2) aNil)))) (kD (.int 1)))))) (sRet (kD (.bl false))) Out.nx)
  (sRet (b2 eqR (b1 (callR 2 Az3S) (aCons (slotD 0) (aCons (b1 (callR 1 Az1T) (aCons (slotD 2) aNil)) aNil))) (slotP 2))))
noncomputable def Az3T:List D→Res D:=runD 3 Az9E
noncomputable def Az8O:DSt→Out:=(sSeq (sSet 1 (b2 addD (kD (.int 2)) (b2 modD (b1 (callR 2 Az0K) (aCons (slotD 0) (aCons (kD (.int 0)) aNil))) (kD (.int 4)))))
  (sSeq (sSet 2 (b2 addD (kD (.int 1)) (b2 modD (b1 (callR 2 Az0K) (aCons (slotD 0) (aCons (kD (.int 1)) aNil))) (kD (.int 4)))))
  (sRet (b1 tupR (aCons (slotD 2) (aCons (slotD 1) (aCons (b2 addD (kD (.int 1)) (b2 modD (b1 (callR 2 Az0K) (aCons (slotD 0) (aCons (kD (.int 2)) aNil))) (slotP 1))) (aCons (b2 addD (kD (.int 1)) (b2 modD (b1 (callR 2 Az0K) (aCons (slotD 0) (aCons (kD (.int 3)) aNil))) (b2 subD (slotP 1) (kD (.int 1))))) aNil))))))))
noncomputable def Az2U:List D→Res D:=runD 3 Az8O
noncomputable def Az4P:DSt→Res D:=(b1 tupR (aCons (slotD 0) (aCons (slotD 1) aNil)))
noncomputable def Az4S:DSt→Res Bool:=(tR (b1 (callR 3 Az1A) (aCons (slotD 2) (aCons (b2 ixR (slotP 4) (b1 negD (kD (.int 1)))) (aCons (slotD 0) aNil)))))
noncomputable def Bz0H:DSt→Out:=(sSeq (sSet 3 (b2 ixR (slotP 1) (b1 lenR (slotP 2))))
  (sSeq (sIf (tR (b2 eqR (b1 lenR (slotP 2)) (kD (.int 0)))) (sRet (slotD 3)) Out.nx)
  (sRet (b1 dictLR (asD (vComp 2 (unTup 2 (unCons (setI 0) (unCons (setI 1) unNil))) Az4S Az4P (b1Q pairsR (slotD 3))))))))
noncomputable def Az2V:List D→Res D:=runD 4 Bz0H
noncomputable def Az4V:DSt→Res D:=(slotD 1)
noncomputable def Az3Z:DSt→Res Bool:=(tR (b2 ltR (slotP 0) (slotP 8)))
noncomputable def Az1U:DSt→Out:=(sSeq (sSet 7 (b1 (callR 3 Az2V) (aCons (slotD 0) (aCons (slotD 3) (aCons (b3 slW (slotP 2) oNone (b1 partR (slotD 5))) aNil)))))
  (sSeq (sAug 4 (b1 sumLR (asD (vComp 2 (unTup 2 (unCons (setI 0) (unCons (setI 1) unNil))) Az3Z Az4V (b1Q pairsR (slotD 7))))))
  (sIf (tR (b2R ninQR (slotP 6) (slotQ 7))) Out.bk Out.nx)))
noncomputable def Bz1T:DSt→Out:=(sSeq (sSet 3 (b1 (callR 2 Az2F) (aCons (slotD 0) (aCons (slotD 1) aNil))))
  (sSeq (sSet 4 (kD (.int 0)))
  (sSeq (sFor (unTup 2 (unCons (setI 5) (unCons (setI 6) unNil))) Az1U (b1 enumR (aCons (slotD 2) aNil)))
  (sRet (slotD 4)))))
noncomputable def Az4M:List D→Res D:=runD 8 Bz1T
noncomputable def Az7A:DSt→Out:=(sSeq (sIf (tR (b2 ltR (slotP 1) (b2 addD (slotP 2) (slotP 4)))) (sRet (b1 tupR (aCons (slotD 3) (aCons (b2 subD (slotP 1) (slotP 2)) aNil)))) Out.nx)
  (sAug 2 (slotD 4)))
noncomputable def b_pick:DSt→Out:=(sSeq (sSet 2 (kD (.int 0)))
  (sSeq (sFor (unTup 2 (unCons (setI 3) (unCons (setI 4) unNil))) Az7A (b1Q pairsR (slotD 0)))
  (sRet (kD .non))))
noncomputable def m_pick:List D→Res D:=runD 5 b_pick
noncomputable def Az5D:DSt→Out:=(sSeq (sSet 6 (b1 (callR 2 m_pick) (aCons (b1 (callR 3 Az2V) (aCons (slotD 0) (aCons (slotD 3) (aCons (slotD 4) aNil)))) (aCons (slotD 5) aNil))))
  (sSeq (sSet 4 (b2 addD (slotP 4) (b1 tupR (aCons (b2 ixR (slotP 6) (kD (.int 0))) aNil))))
  (sSet 5 (b2 ixR (slotP 6) (kD (.int 1))))))
noncomputable def Az5G:DSt→Res Bool:=(tR (b2 ltR (b1 lenR (slotP 4)) (b1 lenR (slotP 3))))
noncomputable def Bz9K:DSt→Out:=(sSeq (sSet 3 (b1 (callR 2 Az2F) (aCons (slotD 0) (aCons (slotD 1) aNil))))
  (sSeq (sIf (tOr2 (tNot1 (tR (b1 (callR 1 Az0Q) (aCons (slotD 2) aNil)))) (tNot1 (tR (bCh leR ltR (kD (.int 0)) (slotP 2) (b1 sumvR (b2 ixR (slotP 3) (kD (.int 0)))))))) (fun _=> .stuck) Out.nx)
  (sSeq (sSet 4 (b1 tupR aNil))
  (sSeq (sSet 5 (slotD 2))
  (sSeq (sWhile 100000 Az5G Az5D)
  (sRet (slotD 4)))))))
noncomputable def Az3C:List D→Res D:=runD 7 Bz9K
noncomputable def Bz3F:DSt→Out:=(sRet (b2 ixR (slotP 0) (kD (.int 2))))
noncomputable def Az1M:List D→Res D:=runD 1 Bz3F
noncomputable def Az5F:DSt→Res D:=(b1 (callR 2 Az1L) (aCons (slotD 1) (aCons (slotD 0) aNil)))
noncomputable def Az8D:DSt→Res D:=(b2 ltR (slotP 0) (slotP 1))
noncomputable def Bz0G:DSt→Out:=(sSeq (sIf (tOr2 (tNot1 (tR (b1 (isiR "tuple") (slotP 1)))) (tNot1 (tR (bCh leR leR (kD (.int 1)) (b1 lenR (slotP 1)) (b1 (callR 1 Az1M) (aCons (slotD 0) aNil)))))) (sRet (kD (.bl false))) Out.nx)
  (sSeq (sIf (tNot1 (tR (b1 allR (asD (vComp 1 (setI 0) (fun _=> .ok true) Az5F (b1 seqR (slotD 1))))))) (sRet (kD (.bl false))) Out.nx)
  (sRet (b1 allR (asD (vComp 2 (unTup 2 (unCons (setI 0) (unCons (setI 1) unNil))) (fun _=> .ok true) Az8D (b1 zipR (aCons (slotD 1) (aCons (b3 slW (slotP 1) (b1 partR (kD (.int 1))) oNone) aNil)))))))))
noncomputable def Az3D:List D→Res D:=runD 2 Bz0G
noncomputable def Az4B:DSt→Res D:=(b1 (callR 2 Az3D) (aCons (slotD 1) (aCons (slotD 0) aNil)))
noncomputable def Az9C:DSt→Out:=(sSeq (sIf (tOr2 (tNot1 (tR (b1 (isiR "tuple") (slotP 1)))) (tR (b2 neR (b1 lenR (slotP 1)) (b1 (callR 1 Az0E) (aCons (slotD 0) aNil))))) (sRet (kD (.bl false))) Out.nx)
  (sRet (b1 allR (asD (vComp 1 (setI 0) (fun _=> .ok true) Az4B (b1 seqR (slotD 1)))))))
noncomputable def Az2T:List D→Res D:=runD 2 Az9C
noncomputable def Az4N:DSt→Res D:=(b1 (callR 2 Az0M) (aCons (slotD 0) (aCons (kD (.str ",")) aNil)))
noncomputable def Bz4Y:DSt→Out:=(sSeq (sIf (tNot1 (tR (b1 (isiR "str") (slotP 0)))) (sRet (kD .non)) Out.nx)
  (sRet (b1 tupofR (asD (vComp 1 (setI 0) (fun _=> .ok true) Az4N (b1 seqR (asD (bM splitR (slotD 0) (aCons (kD (.str " ")) aNil)))))))))
noncomputable def Az5S:List D→Res D:=runD 1 Bz4Y
noncomputable def Az7H:DSt→Out:=(sSeq (sSet 2 (b1 (callR 1 Az5S) (aCons (slotD 1) aNil)))
  (sSeq (sIf (tNot1 (tR (b1 (callR 2 Az2T) (aCons (slotD 0) (aCons (slotD 2) aNil))))) (fun _=> .stuck) Out.nx)
  (sRet (slotD 2))))
noncomputable def Az1Z:List D→Res D:=runD 3 Az7H
noncomputable def Az4A:DSt→Res D:=(b1 strR (slotP 0))
noncomputable def Az8Z:DSt→Out:=(sRet (bM joinR (kD (.str ",")) (aCons (asD (vComp 1 (setI 0) (fun _=> .ok true) Az4A (b1 seqR (slotD 0)))) aNil)))
noncomputable def Az3R:List D→Res D:=runD 1 Az8Z
noncomputable def Az1O:DSt→Res D:=(b1 (callR 1 Az3R) (aCons (slotD 0) aNil))
noncomputable def Az6O:DSt→Out:=(sRet (bM joinR (kD (.str " ")) (aCons (asD (vComp 1 (setI 0) (fun _=> .ok true) Az1O (b1 seqR (slotD 0)))) aNil)))
noncomputable def Az1Q:List D→Res D:=runD 1 Az6O
noncomputable def Az8A:DSt→Out:=(sSeq (sIf (tOr2 (tNot1 (tR (b1 (callR 3 Az3T) (aCons (slotD 1) (aCons (slotD 3) (aCons (slotD 5) aNil)))))) (tR (b2 neR (b1 (callR 3 Az4M) (aCons (slotD 1) (aCons (slotD 3) (aCons (slotD 5) aNil)))) (slotP 6)))) (sRet (kD (.bl false))) Out.nx)
  (sSeq (sSet 5 (b1 (callR 3 Az1B) (aCons (slotD 1) (aCons (slotD 3) (aCons (slotD 5) aNil)))))
  (sSeq (sSet 6 (b2 addD (slotP 6) (kD (.int 1))))
  (sSeq (sIf (tR (b1 isNR (slotP 5))) (sRet (b2 eqR (slotP 6) (slotP 4))) Out.nx)
  (sIf (tOr2 (tR (b2 geR (slotP 6) (slotP 4))) (tR (b2 neR (b1 (callR 3 Az3C) (aCons (slotD 1) (aCons (slotD 3) (aCons (slotD 6) aNil)))) (slotP 5)))) (sRet (kD (.bl false))) Out.nx)))))
noncomputable def b_law:DSt→Out:=(sSeq (sSet 1 (b1 (callR 1 Az2U) (aCons (slotD 0) aNil)))
  (sSeq (sSet 2 (b1 (callR 3 Az2A) (aCons (slotD 1) (aCons (slotD 0) (aCons (kD (.int 4)) aNil)))))
  (sSeq (sSet 3 (b1 (callR 2 Az1Z) (aCons (slotD 1) (aCons (b1 (callR 1 Az1Q) (aCons (slotD 2) aNil)) aNil))))
  (sSeq (sSet 4 (b1 (callR 2 Az2Z) (aCons (slotD 1) (aCons (slotD 3) aNil))))
  (sSeq (sIf (tOr2 (tR (b2 neR (slotP 3) (slotP 2))) (tR (b2 neR (b1 (callR 3 Az0W) (aCons (slotD 1) (aCons (slotD 3) (aCons (b1 (callR 1 Az0T) (aCons (slotD 1) aNil)) aNil)))) (slotP 4)))) (sRet (kD (.bl false))) Out.nx)
  (sSeq (sSet 5 (b1 (callR 2 Az0Y) (aCons (slotD 1) (aCons (slotD 3) aNil))))
  (sSeq (sIf (tR (b2 eqR (slotP 4) (kD (.int 0)))) (sRet (b1 isNR (slotP 5))) Out.nx)
  (sSeq (sIf (tR (b2 neR (slotP 5) (b1 (leftR 3 Az3C 0) (aCons (slotD 1) (aCons (slotD 3) aNil))))) (sRet (kD (.bl false))) Out.nx)
  (sSeq (sSet 6 (b2 modD (b1 (callR 2 Az0K) (aCons (slotD 0) (aCons (kD (.int 50)) aNil))) (slotP 4)))
  (sSeq (sSet 5 (b1 (callR 3 Az3C) (aCons (slotD 1) (aCons (slotD 3) (aCons (slotD 6) aNil)))))
  (sSeq (sFor (setI 7) Az8A (b1 seqR (asD (b2F catR (b3 slW (slotP 0) oNone (b1 partR (kD (.int 16)))) (asD (b1 lstR (aCons (kD (.int 0)) aNil)))))))
  (sRet (kD (.bl true))))))))))))))
noncomputable def m_law:List D→Res D:=runD 8 b_law
end G
namespace G
open PySem PySem.Spec PyProof.Rows L2 L3
local macro_rules| `(tactic| walk_at "ev")=> `(tactic| simp only [Az2D,startD,List.map_cons,List.map_nil,List.length_cons,List.length_nil,List.cons_append,List.nil_append,Nat.reduceAdd,Nat.reduceSub,List.replicate,
 kD,b1,b2,b3,bCh,tR,tAnd2,tOr2,tNot1,vAnd,vOr,vIf,aNil,aCons,oNone,asD,vComp,sSeq,sSet,sOwn,sIf,sFor,sWhile,b2F,sApp,sRet,sRetN,sExpr,sAsg,sSetI,sOwnR,sOwnQ,sPutI,b1Q,b2Q,
 Az0P,Az0U,Az0R,Az7U,Az1F,Res.bind_ok,Res.bind_ex,Res.bind_stuck,ofR_ok,ofR_ex,Az7M,Az1V,Az5B,Az6F,ifO_ok,Az8Q,orB_ok,Bz4Z,orD_bl,Az0O,Bz4B,
 eqR_ii,neR_ii,eqR_bb,ltR_ii,leR_ii,gtR_ii,geR_ii,Az9H,Az4T,Bz3K,negD_i,Az8V,Az9Z,Bz1H,Bz4G,Bz4F,absR_i,lenR_t,lenR_l,seqR_t,seqR_l,Az9I,Az9J,Az7F,Az0I,Bz4C,slD_l,slW_l,Az2C,Bz4N,Az5Z,Az6N,
 List.set_cons_zero,List.set_cons_succ,lstR,tupR,if_true,if_false,reduceIte,Bool.not_true,Bool.not_false,Bool.false_eq_true,Nat.zero_le,Nat.reduceLeDiff,Nat.zero_add,Int.reduceLT,true_and,and_true,and_self])
local macro_rules| `(tactic| walk_at "ev*")=> `(tactic| simp only [Az2D,startD,List.map_cons,List.map_nil,List.length_cons,List.length_nil,List.cons_append,List.nil_append,Nat.reduceAdd,Nat.reduceSub,List.replicate,
 kD,b1,b2,b3,bCh,tR,tAnd2,tOr2,tNot1,vAnd,vOr,vIf,aNil,aCons,oNone,asD,vComp,sSeq,sSet,sOwn,sIf,sFor,sWhile,b2F,sApp,sRet,sRetN,sExpr,sAsg,sSetI,sOwnR,sOwnQ,sPutI,b1Q,b2Q,
 Az0P,Az0U,Az0R,Az7U,Az1F,Res.bind_ok,Res.bind_ex,Res.bind_stuck,ofR_ok,ofR_ex,Az7M,Az1V,Az5B,Az6F,ifO_ok,Az8Q,orB_ok,Bz4Z,orD_bl,Az0O,Bz4B,
 eqR_ii,neR_ii,eqR_bb,ltR_ii,leR_ii,gtR_ii,geR_ii,Az9H,Az4T,Bz3K,negD_i,Az8V,Az9Z,Bz1H,Bz4G,Bz4F,absR_i,lenR_t,lenR_l,seqR_t,seqR_l,Az9I,Az9J,Az7F,Az0I,Bz4C,slD_l,slW_l,Az2C,Bz4N,Az5Z,Az6N,
 List.set_cons_zero,List.set_cons_succ,lstR,tupR,if_true,if_false,reduceIte,Bool.not_true,Bool.not_false,Bool.false_eq_true,Nat.zero_le,Nat.reduceLeDiff,Nat.zero_add,Int.reduceLT,true_and,and_true,and_self, *])
local macro_rules| `(tactic| walk_at "evs")=> `(tactic| simp [Az2D,startD,List.map_cons,List.map_nil,List.length_cons,List.length_nil,List.cons_append,List.nil_append,Nat.reduceAdd,Nat.reduceSub,List.replicate,
 kD,b1,b2,b3,bCh,tR,tAnd2,tOr2,tNot1,vAnd,vOr,vIf,aNil,aCons,oNone,asD,vComp,sSeq,sSet,sOwn,sIf,sFor,sWhile,b2F,sApp,sRet,sRetN,sExpr,sAsg,sSetI,sOwnR,sOwnQ,sPutI,b1Q,b2Q,
 Az0P,Az0U,Az0R,Az7U,Az1F,Res.bind_ok,Res.bind_ex,Res.bind_stuck,ofR_ok,ofR_ex,Az7M,Az1V,Az5B,Az6F,ifO_ok,Az8Q,orB_ok,Bz4Z,orD_bl,Az0O,Bz4B,
 eqR_ii,neR_ii,eqR_bb,ltR_ii,leR_ii,gtR_ii,geR_ii,Az9H,Az4T,Bz3K,negD_i,Az8V,Az9Z,Bz1H,Bz4G,Bz4F,absR_i,lenR_t,lenR_l,seqR_t,seqR_l,Az9I,Az9J,Az7F,Az0I,Bz4C,slD_l,slW_l,Az2C,Bz4N,Az5Z,Az6N,
 List.set_cons_zero,List.set_cons_succ,lstR,tupR,if_true,if_false,reduceIte,Bool.not_true,Bool.not_false,Bool.false_eq_true,Nat.zero_le,Nat.reduceLeDiff,Nat.zero_add,Int.reduceLT,true_and,and_true,and_self, *])
theorem Cz4N (δ:DSt):noexO (.nx δ)= .nx δ:=rfl
theorem Cz4M (d:D):noexO (.rt d)= .rt d:=rfl
def finX:Out→Res D
 | .rt d=> .ok d
 | .nx _=> .ok .non
 | .ex c fs=> .ex c fs
 |_=> .stuck
theorem Cz6X (n:Nat) (g:DSt→Out) (ds:List D):runX n g ds=finX (g (startD n ds)):=by unfold runX finX;cases g (startD n ds)<;>rfl
theorem Cz9B (d:D):finX (.rt d)= .ok d:=rfl
theorem Cz9C (δ:DSt):finX (.nx δ)= .ok .non:=rfl
theorem Cz9D (c:Str) (fs:List D):finX (.ex c fs)= .ex c fs:=rfl
theorem seqO_ex (c:Str) (fs:List D) (g:DSt→Out):seqO (.ex c fs) g= .ex c fs:=rfl
local macro_rules| `(tactic| walk_at "evx*")=> `(tactic| simp only [noxS,noxB,noxA,Cz4N,Cz4M,Cz6X,Cz9B,Cz9C,Cz9D,seqO_ex,sRaise,ofR_ok,Az2D,startD,List.map_cons,List.map_nil,List.length_cons,List.length_nil,List.cons_append,List.nil_append,Nat.reduceAdd,Nat.reduceSub,List.replicate,
 kD,b1,b2,b3,bCh,tR,tAnd2,tOr2,tNot1,vAnd,vOr,vIf,aNil,aCons,oNone,asD,vComp,sSeq,sSet,sOwn,sIf,sFor,sWhile,b2F,sApp,sRet,sRetN,sExpr,sAsg,sSetI,sOwnR,sOwnQ,sPutI,b1Q,b2Q,
 Az0P,Az0U,Az0R,Az7U,Az1F,Res.bind_ok,Res.bind_ex,Res.bind_stuck,ofR_ok,ofR_ex,Az7M,Az1V,Az5B,Az6F,ifO_ok,Az8Q,orB_ok,Bz4Z,orD_bl,Az0O,Bz4B,
 eqR_ii,neR_ii,eqR_bb,ltR_ii,leR_ii,gtR_ii,geR_ii,Az9H,Az4T,Bz3K,negD_i,Az8V,Az9Z,Bz1H,Bz4G,Bz4F,absR_i,lenR_t,lenR_l,seqR_t,seqR_l,Az9I,Az9J,Az7F,Az0I,Bz4C,slD_l,slW_l,Az2C,Bz4N,Az5Z,Az6N,
 List.set_cons_zero,List.set_cons_succ,lstR,tupR,if_true,if_false,reduceIte,Bool.not_true,Bool.not_false,Bool.false_eq_true,Nat.zero_le,Nat.reduceLeDiff,Nat.zero_add,Int.reduceLT,true_and,and_true,and_self, *])
theorem Cz4R (ns:List Int) (k:Int) (h0:0≤k) (h1:k≤1000000):∃ v,Az0K [.lst (ns.map D.int), .int k]= .ok (.int v):=by
 unfold Az0K Az8P
 walk_at "ev"
 rw [Cz9E]
 cases hn:ns.isEmpty with
 |true=>first|(refine ⟨k,?_⟩;walk_at "evs";done)|(refine ⟨k*7919+5,?_⟩;walk_at "evs";done)
 |false=>
  have hl:(0:Int)<(ns.length:Int):=by
   cases ns with
   |nil=>cases hn
   |cons n r=>simp only [List.length_cons];omega
  have hl2:0<ns.length:=by omega
  obtain ⟨d,e,hd⟩:=atI_in (xs:=ns.map D.int) (i:=k%ns.length) (Int.emod_nonneg _ (by omega)) (by rw [List.length_map];exact Int.emod_lt_of_pos _ hl)
  obtain ⟨v,_,rfl⟩:=List.mem_map.mp hd
  have hb:(-18446744073709551616<(48271+7919*k)∧(48271+7919*k)<18446744073709551616):=by omega
  have e':=ixR_l _ _ _ e
  have hq:ns≠ []:=by rintro rfl;cases hn
  refine ⟨(v+1+k)*(48271+7919*k)%2147483647,?_⟩
  walk_at "evs"
theorem Az3V (ns:List Int) (k:Int) (h0:0≤k) (h1:k≤1000000):∃ v,callR 2 Az0K [.lst (ns.map D.int), .int k]= .ok (.int v):=by
 obtain ⟨v,h⟩:=Cz4R ns k h0 h1
 exact ⟨v,Az0C _ _ _ _ h rfl⟩
def pD (p:List Int):D:= .tup (p.map D.int)
def bD (B:List (List Int)):D:= .tup (B.map pD)
structure PinOk (d h:Int) (p:List Int):Prop where
 up:Up p
 bd:∀ c∈p,0≤c∧c<d
 ne:1≤p.length
 le:(p.length:Int)≤h
 l5:p.length≤5
theorem Az5Y:∀ (ns:List Int),intsOf (ns.map D.int)=some ns
 | []=>rfl
 |n::ns=>by show (intsOf (ns.map D.int)).map (n:: ·)=_;rw [Az5Y ns];rfl
theorem Cz6Q (ns:List Int) (h:ns.length<64):sortR (.lst (ns.map D.int))= .ok ((sortI ns).map D.int):=by
 unfold sortR;dsimp only;rw [Az5Y];dsimp only;rw [if_pos h]
theorem Cz3O {ns:List Int} (h:1≤ns.length):1≤(sortI ns).length:=by
 cases ns with
 |nil=>simp at h
 |cons n ns=>
  have:n∈sortI (n::ns):=mem_sortI.mpr List.mem_cons_self
  exact List.length_pos_of_mem this
theorem Cz0V (ns:List Int):∃ f:Int→Int,∀ k,0≤k→k≤1000000→callR 2 Az0K [.lst (ns.map D.int), .int k]= .ok (.int (f k)):=by
 refine ⟨fun k=>if h:0≤k∧k≤1000000 then (Az3V ns k h.1 h.2).choose else 0,fun k h0 h1=> ?_⟩
 simp only [dif_pos (And.intro h0 h1)]
 exact (Az3V ns k h0 h1).choose_spec
theorem Bz5Z (ns:List Int) (p d h s b k:Int) (B:List (List Int)) (y z:Option L3.S) (hB:B.length≤1000) (hd:2≤d) (hh:1≤h) (hk:0≤b+k) (hk2:b+k≤900000):
  ∃ pn y' z',Az2W [some (.d (.tup [.int p, .int d, .int h, .int s])),some (.d (.lst (ns.map D.int))),some (.d (.int b)),some (.o (B.map pD)),some (.d (.int k)),y,z]
   = .nx [some (.d (.tup [.int p, .int d, .int h, .int s])),some (.d (.lst (ns.map D.int))),some (.d (.int b)),some (.o ((B++ [pn]).map pD)),some (.d (.int k)),y',z']∧PinOk d h pn:=by
 obtain ⟨f,hf⟩:=Cz0V ns
 have e0:=hf (b+k) hk (by omega)
 have i1:ixR (.tup [.int p, .int d, .int h, .int s]) (.int 1)= .ok (.int d):=rfl
 have i2:ixR (.tup [.int p, .int d, .int h, .int s]) (.int 2)= .ok (.int h):=rfl
 have hm:0<min h 5:=by omega
 have a1:=Int.emod_nonneg (f (b+k) / 97) (show min h 5≠0 by omega)
 have a2:=Int.emod_lt_of_pos (f (b+k) / 97) hm
 obtain ⟨M,hM⟩:∃ M,M=1+f (b+k) / 97%min h 5:=⟨_,rfl⟩
 have hM1:1≤M∧M≤h∧M≤5:=by omega
 have hr:=rng1_i M (by omega) (by omega)
 have hd0:0<d:=by omega
 generalize hms:(List.range M.toNat).map (fun (j:Nat)=>f (b+k+31*(0+(j:Int)))%d)=ms
 have hml:ms.length=M.toNat:=by rw [←hms];simp
 have hc:compR 1 (setI 0) (fun _=> .ok true) Az2X [some (.d (.tup [.int p, .int d, .int h, .int s])),some (.d (.lst (ns.map D.int))),some (.d (.int b)),some (.o (B.map pD)),some (.d (.int k)),some (.d (.int M)),z] (rngD 0 M.toNat)= .ok (ms.map D.int):=by
  refine Az0Z ?_ (by rw [Bz2K];omega)
  have:=Az3Y (fe:=Az2X) (fun d'=>match d' with| .int j=> .int (f (b+k+31*j)%d)|_=> .non) [some (.d (.tup [.int p, .int d, .int h, .int s])),some (.d (.lst (ns.map D.int))),some (.d (.int b)),some (.o (B.map pD)),some (.d (.int k)),some (.d (.int M)),z] (rngD 0 M.toNat) none (fun d' hd'=>by
   obtain ⟨i,hi⟩:=List.getElem?_of_mem hd'
   obtain ⟨h1,rfl⟩:=Bz2L hi
   have e1:=hf (b+k+31*(0+(i:Int))) (by omega) (by omega)
   have m1:mulE (.int 31) (.int (0+(i:Int)))= .ok (.int (31*(0+(i:Int)))):=by simp [Bz1H]
   have md:modD (.int (f (b+k+31*(0+(i:Int))))) (.int d)= .ok (.int (f (b+k+31*(0+(i:Int)))%d)):=by rw [Az8V,if_pos hd0]
   unfold Az2X
   simp only [b1,b2,kD,aCons,aNil,Az0P,Az0U,Az0R,Az7U,Az1F,Res.bind_ok,Az0I,Az9H,m1,e1,i1,md])
  rw [show (rngD 0 M.toNat).map (fun d'=>match d' with| .int j=> .int (f (b+k+31*j)%d)|_=> .non)=ms.map D.int by rw [←hms,rngD,List.map_map,List.map_map];rfl] at this
  exact this
 have hs:=Cz6Q ms (by omega)
 have ap:=fun x=>Cz3F 3 [some (.d (.tup [.int p, .int d, .int h, .int s])),some (.d (.lst (ns.map D.int))),some (.d (.int b)),some (.o (B.map pD)),some (.d (.int k)),some (.d (.int M)),some (.o (ms.map D.int))] (B.map pD) x rfl (by rw [List.length_map];omega)
 refine ⟨sortI ms,some (.d (.int M)),some (.o (ms.map D.int)),?_,Bz1Y _,fun c hc=> ?_,Cz3O (by omega),?_,?_⟩
 ·have hM':=hM.symm
  clear hms hml hM1 a1 a2 hd hh hk hk2 hB hf hM
  unfold Az2W
  walk_at "ev*"
  rw [List.map_append];rfl
 ·rw [mem_sortI,←hms] at hc
  obtain ⟨j,_,rfl⟩:=List.mem_map.mp hc
  exact ⟨Int.emod_nonneg _ (by omega),Int.emod_lt_of_pos _ hd0⟩
 ·have:=Az9O ms;omega
 ·have:=Az9O ms;omega
theorem Cz1Y (ns:List Int) (p d h s b:Int) (hd:2≤d) (hh:1≤h) (hp:0≤p) (hp2:p≤100) (hb:0≤b) (hb2:b≤800000):
  ∃ B:List (List Int),callR 3 Az2A [.tup [.int p, .int d, .int h, .int s], .lst (ns.map D.int), .int b]= .ok (bD B)∧B.length=p.toNat∧∀ q∈B,PinOk d h q:=by
 have i0:ixR (.tup [.int p, .int d, .int h, .int s]) (.int 0)= .ok (.int p):=rfl
 have hr:=rng1_i p hp (by omega)
 obtain ⟨δ2,f,B,k,y,z,rfl,hl,hc⟩:=Bz8O (t:=setI 4) (body:=Az2W) (fun i δ=>∃ (B:List (List Int)) (k y z:Option L3.S),δ= [some (.d (.tup [.int p, .int d, .int h, .int s])),some (.d (.lst (ns.map D.int))),some (.d (.int b)),some (.o (B.map pD)),k,y,z]∧B.length=i∧∀ q∈B,PinOk d h q)
  (rngD 0 p.toNat) [some (.d (.tup [.int p, .int d, .int h, .int s])),some (.d (.lst (ns.map D.int))),some (.d (.int b)),some (.o []),none,none,none] (fun i x δ hx hI=>by
   obtain ⟨B,k,y,z,rfl,hl,hc⟩:=hI
   obtain ⟨hi,rfl⟩:=Bz2L hx
   obtain ⟨pn,y',z',e,hc'⟩:=Bz5Z ns p d h s b (0+i) B y z (by omega) hd hh (by omega) (by omega)
   refine ⟨_,rfl,_, .inl e,B++ [pn],_,_,_,rfl,by simp [hl],fun q hq=> ?_⟩
   rcases List.mem_append.mp hq with hq|hq
   ·exact hc q hq
   ·rw [List.mem_singleton.mp hq];exact hc') ⟨[],none,none,none,rfl,rfl,fun q hq=>by simp at hq⟩
 refine ⟨B,Az0C _ _ _ _ ?_ rfl,by rw [hl,Bz2K],hc⟩
 unfold Az2A Az7J
 walk_at "ev*"
 rfl
def First (ok:Nat→Bool) (n:Nat) (x:D):Prop:=(x= .non∧∀ i,i<n→ok i=true)∨∃ i,i<n∧ok i=false∧(∀ j,j<i→ok j=true)∧x= .int i
theorem Bz8P {t:D→DSt→Res DSt} {body:DSt→Out} (I:Nat→DSt→Prop) (ok:Nat→Bool) (r:Nat→D) (ds:List D) (δ:DSt)
  (hb:∀ i d δ,ds[i]? =some d→I i δ→∃ δ',t d δ= .ok δ'∧((ok i=true∧∃ δ2,(body δ'= .nx δ2∨body δ'= .ct δ2)∧I (i+1) δ2)∨(ok i=false∧body δ'= .rt (r i)))) (h:I 0 δ):
  (∃ δ2,forD t body ds δ= .nx δ2∧I ds.length δ2∧∀ i,i<ds.length→ok i=true)∨∃ i,i<ds.length∧ok i=false∧(∀ j,j<i→ok j=true)∧forD t body ds δ= .rt (r i):=by
 induction ds generalizing I δ ok r with
 |nil=>exact .inl ⟨δ,rfl,h,fun i hi=>absurd hi (Nat.not_lt_zero _)⟩
 |cons d ds ih=>
  obtain ⟨δ',e1,hh⟩:=hb 0 d δ rfl h
  rw [Az5U d ds δ δ' e1]
  rcases hh with ⟨o0,δ2,e2,h2⟩|⟨o0,e2⟩
  ·have h3:=ih (fun i=>I (i+1)) (fun i=>ok (i+1)) (fun i=>r (i+1)) δ2 (fun i x δ hx hI=>hb (i+1) x δ (by simpa using hx) hI) h2
   have h4:(∃ δ2',forD t body ds δ2= .nx δ2'∧I (ds.length+1) δ2'∧∀ i,i<ds.length+1→ok i=true)∨∃ i,i<ds.length+1∧ok i=false∧(∀ j,j<i→ok j=true)∧forD t body ds δ2= .rt (r i):=by
    rcases h3 with ⟨δ3,a,b,c⟩|⟨i,a,b,c,e⟩
    ·refine .inl ⟨δ3,a,b,fun i hi=> ?_⟩
     cases i with
     |zero=>exact o0
     |succ i=>exact c i (by omega)
    ·refine .inr ⟨i+1,by omega,b,fun j hj=> ?_,e⟩
     cases j with
     |zero=>exact o0
     |succ j=>exact c j (by omega)
   rcases e2 with e2|e2<;> · rw [e2];exact h4
  ·rw [e2]
   exact .inr ⟨0,Nat.succ_pos _,o0,fun j hj=>absurd hj (Nat.not_lt_zero _),rfl⟩
def nr (s a b:Int):Bool:=decide ((if a-b<0 then -(a-b) else a-b)≤s)
def sm {α:Type} (f:α→Int):List α→Int
 | []=>0
 |a::l=>f a+sm f l
section
variable {α β:Type}
theorem Az4Z (f:α→Int) (a:α) (l:List α):sm f (a::l)=f a+sm f l:=rfl
theorem sm_sum (f:α→Int):∀ l:List α,(l.map f).sum=sm f l
 | []=>rfl
 |a::l=>by rw [List.map_cons,List.sum_cons,sm_sum f l];rfl
theorem Cz2F:∀ l:List α,sm (fun _=>0) l=0
 | []=>rfl
 |a::l=>by rw [Az4Z,Cz2F l];rfl
theorem Bz2C {f g:α→Int}:∀ {l:List α},(∀ a∈l,f a=g a)→sm f l=sm g l
 | [],_=>rfl
 |a::l,h=>by rw [Az4Z,Az4Z,h a List.mem_cons_self,Bz2C fun b hb=>h b (List.mem_cons_of_mem _ hb)]
theorem sm_map (f:β→Int) (g:α→β):∀ l:List α,sm f (l.map g)=sm (fun a=>f (g a)) l
 | []=>rfl
 |a::l=>by rw [List.map_cons,Az4Z,Az4Z,sm_map f g l]
theorem Az6E (f:α→Int) (p:α→Bool):∀ l:List α,sm f (l.filter p)=sm (fun a=>if p a=true then f a else 0) l
 | []=>rfl
 |a::l=>by
  rw [List.filter_cons,Az4Z]
  split
  ·rw [Az4Z,Az6E f p l]
  ·rw [Az6E f p l];omega
end
def go (s:Int):List (List Int)→Int→Int
 | [],_=>1
 |p::P,x=>sm (fun b=>if nr s x b=true then go s P b else 0) p
def cnt (s:Int):List (List Int)→Int
 | []=>0
 |p::P=>sm (go s P) p
def zt (t:List (Int×Int)):List (Key×D):=t.map fun q=>(Sum.inl q.1, .int q.2)
def ksT (t:List (Int×Int)):List Key:=t.map fun q=>Sum.inl q.1
def dsT (t:List (Int×Int)):List D:=t.map fun q=> .int q.2
def tD (t:List (Int×Int)):D:= .dct (ksT t) (dsT t)
theorem zip_t:∀ t:List (Int×Int),(ksT t).zip (dsT t)=zt t
 | []=>rfl
 |q::t=>by
  show (_,_)::(ksT t).zip (dsT t)=_
  rw [zip_t t];rfl
theorem fst_zt (t:List (Int×Int)):(zt t).map (·.1)=ksT t:=by unfold zt ksT;rw [List.map_map];rfl
theorem snd_zt (t:List (Int×Int)):(zt t).map (·.2)=dsT t:=by unfold zt dsT;rw [List.map_map];rfl
theorem get_zt:∀ (t:List (Int×Int)) (x:Int),tGet (zt t) (.inl x)=(t.find? fun q=>q.1==x).map fun q=>D.int q.2
 | [],_=>rfl
 |q::t,x=>by
  show tGet ((Sum.inl q.1,D.int q.2)::zt t) (.inl x)=_
  by_cases h:q.1=x
  ·rw [Az6U (p:=(Sum.inl q.1,D.int q.2)) (by rw [h]),List.find?_cons_of_pos (by simp [h])];rfl
  ·rw [Az6V (p:=(Sum.inl q.1,D.int q.2)) (fun z=>h (Sum.inl.inj z)),List.find?_cons_of_neg (by simp [h]),get_zt t x]
theorem has_zt {t:List (Int×Int)} {x:Int} (h:∀ q∈t,q.1≠x):tHas (zt t) (.inl x)=false:=by
 rw [Az9L,get_zt,List.find?_eq_none.mpr (fun q hq=>by simpa using h q hq)];rfl
theorem Cz2J {t:List (Int×Int)} {x:Int} (m:Int) (h:∀ q∈t,q.1≠x):tPut (zt t) (.inl x) (.int m)=zt (t++ [(x,m)]):=by
 unfold tPut
 rw [has_zt h,if_neg Bool.false_ne_true]
 unfold zt;rw [List.map_append];rfl
theorem Cz2U (t:List (Int×Int)):intsOf (dsT t)=some (t.map (·.2)):=by
 have:dsT t=(t.map (·.2)).map D.int:=by unfold dsT;rw [List.map_map];rfl
 rw [this,Az5Y]
def ch (s:Int) (last:Option Int) (p:List Int):List Int:=match last with
 |none=>p
 |some l=>p.filter fun x=>nr s l x
theorem ch_up {s:Int} {last:Option Int} {p:List Int} (h:Up p):Up (ch s last p):=by
 cases last with
 |none=>exact h
 |some l=>exact h.filter _
def tot (s:Int) (last:Option Int):List (List Int)→Int
 | []=>1
 |p::P=>sm (go s P) (ch s last p)
theorem Az5W (s x:Int) (P:List (List Int)):tot s (some x) P=go s P x:=by
 cases P with
 |nil=>rfl
 |cons p P=>exact Az6E (go s P) (fun b=>nr s x b) p
theorem Bz1Z (s:Int) (p:List Int) (P:List (List Int)):tot s none (p::P)=cnt s (p::P):=rfl
theorem Az6D {α:Type} {f:α→Int}:∀ {l:List α},(∀ a∈l,0≤f a)→0≤sm f l
 | [],_=>Int.le_refl _
 |a::l,h=>by
  have h1:=h a List.mem_cons_self
  have h2:=Az6D (f:=f) (l:=l) fun b hb=>h b (List.mem_cons_of_mem _ hb)
  rw [Az4Z];omega
theorem Az1S (s:Int):∀ (P:List (List Int)) (x:Int),0≤go s P x
 | [],_=>by show (0:Int)≤1;decide
 |p::P,x=>Az6D fun b _=>by
  split
  ·exact Az1S s P b
  ·exact Int.le_refl _
def bel (f:Int→Int) (l:List Int) (c:Int):Int:=sm (fun y=>if y<c then f y else 0) l
def pk (f:Int→Int):List Int→Int→Option (Int×Int)
 | [],_=>none
 |x::l,n=>if n<f x then some (x,n) else pk f l (n-f x)
theorem Bz4V {f:Int→Int} {l:List Int} {c:Int} (h:∀ y∈l,c≤y):bel f l c=0:=by
 unfold bel
 rw [Bz2C (g:=fun _=>0) fun y hy=>if_neg (by have:=h y hy;omega)]
 exact Cz2F l
theorem pk_up {f:Int→Int} (hf:∀ x,0≤f x):∀ {l:List Int} {n:Int},Up l→0≤n→n<sm f l→∃ x r,pk f l n=some (x,r)∧x∈l∧0≤r∧r<f x∧n=bel f l x+r
 | [],n,_,h0,h1=>by rw [show sm f []=0 from rfl] at h1;omega
 |a::l,n,hu,h0,h1=>by
  obtain ⟨u1,u2⟩:=List.pairwise_cons.mp hu
  by_cases h:n<f a
  ·refine ⟨a,n,by rw [pk,if_pos h],List.mem_cons_self,h0,h,?_⟩
   rw [Bz4V]
   ·omega
   ·intro y hy
    rcases List.mem_cons.mp hy with rfl|hy
    ·exact Int.le_refl _
    ·have:=u1 y hy;omega
  ·rw [Az4Z] at h1
   obtain ⟨x,r,e,hx,r0,r1,en⟩:=pk_up hf (l:=l) (n:=n-f a) u2 (by omega) (by omega)
   refine ⟨x,r,by rw [pk,if_neg h,e],List.mem_cons_of_mem _ hx,r0,r1,?_⟩
   have:=u1 x hx
   show n=(if a<x then f a else 0)+bel f l x+r
   rw [if_pos this];omega
theorem pk_of {f:Int→Int} (hf:∀ x,0≤f x):∀ {l:List Int} {x r:Int},Up l→x∈l→0≤r→r<f x→pk f l (bel f l x+r)=some (x,r)
 | [],x,r,_,h,_,_=>by simp at h
 |a::l,x,r,hu,h,r0,r1=>by
  obtain ⟨u1,u2⟩:=List.pairwise_cons.mp hu
  have eb:bel f (a::l) x=(if a<x then f a else 0)+bel f l x:=rfl
  rcases List.mem_cons.mp h with rfl|h
  ·have z:bel f l x=0:=Bz4V fun y hy=>by have:=u1 y hy;omega
   rw [eb,if_neg (by omega),z,pk,if_pos (by omega)]
   rw [show (0:Int)+0+r=r by omega]
  ·have:=u1 x h
   have b0:0≤bel f l x:=Az6D fun y _=>by
    split
    ·exact hf y
    ·exact Int.le_refl _
   rw [eb,if_pos this,pk,if_neg (by omega),show f a+bel f l x+r-f a=bel f l x+r by omega]
   exact pk_of hf u2 h r0 r1
theorem bel_le {f:Int→Int} (hf:∀ x,0≤f x):∀ {l:List Int} {c:Int},0≤bel f l c∧bel f l c≤sm f l
 | [],_=>⟨Int.le_refl _,Int.le_refl _⟩
 |a::l,c=>by
  have ih:=bel_le hf (l:=l) (c:=c)
  have ha:=hf a
  have eb:bel f (a::l) c=(if a<c then f a else 0)+bel f l c:=rfl
  rw [eb,Az4Z]
  split<;>omega
theorem Bz3E {f:Int→Int} (hf:∀ x,0≤f x):∀ {l:List Int} {x c:Int},Up l→x∈l→x<c→bel f l x+f x≤bel f l c
 | [],x,c,_,h,_=>by simp at h
 |a::l,x,c,hu,h,hc=>by
  obtain ⟨u1,u2⟩:=List.pairwise_cons.mp hu
  have eb:∀ c,bel f (a::l) c=(if a<c then f a else 0)+bel f l c:=fun c=>rfl
  rw [eb,eb]
  rcases List.mem_cons.mp h with rfl|h
  ·have z:bel f l x=0:=Bz4V fun y hy=>by have:=u1 y hy;omega
   have:=(bel_le hf (l:=l) (c:=c)).1
   rw [if_neg (by omega),if_pos hc,z];omega
  ·have ih:=Bz3E hf u2 h hc
   have:=u1 x h
   rw [if_pos this,if_pos (by omega)];omega
theorem Bz9J {f:Int→Int} (hf:∀ x,0≤f x):∀ {l:List Int} {x:Int},Up l→x∈l→bel f l x+f x≤sm f l
 | [],x,_,h=>by simp at h
 |a::l,x,hu,h=>by
  obtain ⟨u1,u2⟩:=List.pairwise_cons.mp hu
  have eb:bel f (a::l) x=(if a<x then f a else 0)+bel f l x:=rfl
  rw [eb,Az4Z]
  rcases List.mem_cons.mp h with rfl|h
  ·have z:bel f l x=0:=Bz4V fun y hy=>by have:=u1 y hy;omega
   have:=Az6D (f:=f) (l:=l) fun y _=>hf y
   rw [if_neg (by omega),z];omega
  ·have ih:=Bz9J hf u2 h
   have:=hf a
   split<;>omega
def nthP (s:Int):List (List Int)→Option Int→Int→List Int
 | [],_,_=> []
 |p::P,last,n=>match pk (go s P) (ch s last p) n with
  |some (x,r)=>x::nthP s P (some x) r
  |none=> []
def ahP (s:Int):List (List Int)→Option Int→List Int→Int
 |p::P,last,c::cs=>bel (go s P) (ch s last p) c+if c∈ch s last p then ahP s P (some c) cs else 0
 |_,_,_=>0
def val (s:Int):List (List Int)→Option Int→List Int→Prop
 | [],_,cs=>cs= []
 |p::P,last,cs=>∃ c r,cs=c::r∧c∈ch s last p∧val s P (some c) r
theorem nth_ah (s:Int):∀ (P:List (List Int)) (last:Option Int) (n:Int),(∀ p∈P,Up p)→0≤n→n<tot s last P→ahP s P last (nthP s P last n)=n∧val s P last (nthP s P last n)
 | [],last,n,_,h0,h1=>by
  have:n<1:=h1
  exact ⟨by show (0:Int)=n;omega,rfl⟩
 |p::P,last,n,hu,h0,h1=>by
  obtain ⟨x,r,e,hx,r0,r1,en⟩:=pk_up (Az1S s P) (ch_up (s:=s) (last:=last) (hu p List.mem_cons_self)) h0 h1
  have ih:=nth_ah s P (some x) r (fun q hq=>hu q (List.mem_cons_of_mem _ hq)) r0 (by rw [Az5W];exact r1)
  have en':nthP s (p::P) last n=x::nthP s P (some x) r:=by rw [nthP,e]
  rw [en']
  refine ⟨?_,x,_,rfl,hx,ih.2⟩
  rw [ahP,if_pos hx,ih.1,en]
theorem ah_nth (s:Int):∀ (P:List (List Int)) (last:Option Int) (cs:List Int),(∀ p∈P,Up p)→val s P last cs→0≤ahP s P last cs∧ahP s P last cs<tot s last P∧nthP s P last (ahP s P last cs)=cs
 | [],last,cs,_,h=>by
  rw [show cs= [] from h]
  exact ⟨Int.le_refl _,by show (0:Int)<1;decide,rfl⟩
 |p::P,last,cs,hu,h=>by
  obtain ⟨c,r,rfl,hc,hr⟩:=h
  obtain ⟨i0,i1,i2⟩:=ah_nth s P (some c) r (fun q hq=>hu q (List.mem_cons_of_mem _ hq)) hr
  rw [Az5W] at i1
  have up:=ch_up (s:=s) (last:=last) (hu p List.mem_cons_self)
  have e:ahP s (p::P) last (c::r)=bel (go s P) (ch s last p) c+ahP s P (some c) r:=by rw [ahP,if_pos hc]
  have b:=Bz9J (Az1S s P) up hc
  have b0:=(bel_le (Az1S s P) (l:=ch s last p) (c:=c)).1
  rw [e]
  refine ⟨by omega,by show _<sm (go s P) (ch s last p);omega,?_⟩
  rw [nthP,pk_of (Az1S s P) up hc i0 i1]
  show c::nthP s P (some c) (ahP s P (some c) r)=_
  rw [i2]
theorem ah_le (s:Int):∀ (P:List (List Int)) (last:Option Int) (cs:List Int),(∀ p∈P,Up p)→0≤ahP s P last cs∧ahP s P last cs≤tot s last P
 | [],last,cs,_=>by
  have:ahP s [] last cs=0:=by unfold ahP;rfl
  rw [this];exact ⟨Int.le_refl _,by show (0:Int)≤1;decide⟩
 |p::P,last,[],_=>⟨by show (0:Int)≤0;exact Int.le_refl _,Az6D fun y _=>Az1S s P y⟩
 |p::P,last,c::cs,hu=>by
  have up:=ch_up (s:=s) (last:=last) (hu p List.mem_cons_self)
  obtain ⟨i0,i1⟩:=ah_le s P (some c) cs fun q hq=>hu q (List.mem_cons_of_mem _ hq)
  rw [Az5W] at i1
  have b:=bel_le (Az1S s P) (l:=ch s last p) (c:=c)
  have e:ahP s (p::P) last (c::cs)=bel (go s P) (ch s last p) c+if c∈ch s last p then ahP s P (some c) cs else 0:=rfl
  rw [e]
  show _∧_≤sm (go s P) (ch s last p)
  split
  ·rename_i hc
   have:=Bz9J (Az1S s P) up hc
   omega
  ·omega
theorem Cz3D {f:Int→Int} (hf:∀ x,0≤f x) {c x:Int} (z:c<x):∀ {l:List Int},bel f l c≤bel f l x
 | []=>Int.le_refl _
 |a::l=>by
  have ih:=Cz3D hf z (l:=l)
  have ha:=hf a
  have eb:∀ c,bel f (a::l) c=(if a<c then f a else 0)+bel f l c:=fun c=>rfl
  rw [eb,eb]
  split<;>split<;>omega
theorem ah_lex (s:Int):∀ (P:List (List Int)) (last:Option Int) (cs:List Int) (m:Int),(∀ p∈P,Up p)→cs.length=P.length→0≤m→m<tot s last P→
  (m<ahP s P last cs→HT.lexLt (nthP s P last m) cs=true)∧(ahP s P last cs≤m→nthP s P last m=cs∨HT.lexLt cs (nthP s P last m)=true)
 | [],last,cs,m,_,hl,h0,h1=>by
  have h1':m<1:=h1
  have e:cs= []:=List.length_eq_zero_iff.mp hl
  subst e
  exact ⟨fun h=>by have:m<0:=h;omega,fun _=> .inl rfl⟩
 |p::P,last,[],m,_,hl,_,_=>by simp at hl
 |p::P,last,c::cs,m,hu,hl,h0,h1=>by
  have up:=ch_up (s:=s) (last:=last) (hu p List.mem_cons_self)
  have hu':∀ q∈P,Up q:=fun q hq=>hu q (List.mem_cons_of_mem _ hq)
  obtain ⟨x,r,e,hx,r0,r1,en⟩:=pk_up (Az1S s P) up h0 h1
  have en':nthP s (p::P) last m=x::nthP s P (some x) r:=by rw [nthP,e]
  obtain ⟨i0,i1⟩:=ah_le s P (some c) cs hu'
  rw [Az5W] at i1
  have ea:ahP s (p::P) last (c::cs)=bel (go s P) (ch s last p) c+if c∈ch s last p then ahP s P (some c) cs else 0:=rfl
  rw [en',ea]
  rcases Int.lt_trichotomy x c with z|z|z
  ·have b:=Bz3E (Az1S s P) up hx z
   have l1:HT.lexLt (x::nthP s P (some x) r) (c::cs)=true:=by rw [HT.lexLt_cons,if_neg (by omega),decide_eq_true z]
   refine ⟨fun _=>l1,fun h=> ?_⟩
   split at h<;>omega
  ·subst z
   rw [if_pos hx]
   obtain ⟨j1,j2⟩:=ah_lex s P (some x) cs r hu' (by simpa using hl) r0 (by rw [Az5W];exact r1)
   refine ⟨fun h=> ?_,fun h=> ?_⟩
   ·rw [HT.lexLt_cons,if_pos rfl];exact j1 (by omega)
   ·rcases j2 (by omega) with j|j
    ·exact .inl (by rw [j])
    ·exact .inr (by rw [HT.lexLt_cons,if_pos rfl];exact j)
  ·have l1:HT.lexLt (c::cs) (x::nthP s P (some x) r)=true:=by rw [HT.lexLt_cons,if_neg (by omega),decide_eq_true z]
   refine ⟨fun h=> ?_,fun _=> .inr l1⟩
   split at h
   ·rename_i hc
    have b:=Bz3E (Az1S s P) up hc z
    omega
   ·have b:bel (go s P) (ch s last p) c≤bel (go s P) (ch s last p) x:=Cz3D (Az1S s P) z
    omega
def enu (s:Int):List (List Int)→Option Int→List (List Int)
 | [],_=> [[]]
 |p::P,last=>(ch s last p).flatMap fun x=>(enu s P (some x)).map (x:: ·)
theorem Bz8S {α:Type} {g:Int→List α} {f:Int→Int}:∀ {l:List Int},(∀ x∈l,((g x).length:Int)=f x)→((l.flatMap g).length:Int)=sm f l
 | [],_=>rfl
 |a::l,h=>by
  rw [List.flatMap_cons,List.length_append,Int.natCast_add,h a List.mem_cons_self,Bz8S fun x hx=>h x (List.mem_cons_of_mem _ hx)];rfl
theorem Bz8Y (s:Int):∀ (P:List (List Int)) (last:Option Int),((enu s P last).length:Int)=tot s last P
 | [],_=>rfl
 |p::P,last=>by
  rw [enu]
  refine Bz8S fun x _=> ?_
  rw [List.length_map,Bz8Y s P (some x),Az5W]
theorem Az6M {c:DSt→Res Bool} {fe:DSt→Res D} (P:D→D→Bool) (F:D→D→D) (δ:DSt):∀ (L:List (D×D)) (x y:Option L3.S),(∀ p∈L,c (some (.d p.1)::some (.d p.2)::δ)= .ok (P p.1 p.2)∧fe (some (.d p.1)::some (.d p.2)::δ)= .ok (F p.1 p.2))→
  compD un2 c fe (L.map fun p=>D.tup [p.1,p.2]) (x::y::δ)= .ok ((L.filter fun p=>P p.1 p.2).map fun p=>F p.1 p.2)
 | [],_,_,_=>by simp [compD]
 |p::L,x,y,h=>by
  obtain ⟨h1,h2⟩:=h p List.mem_cons_self
  rw [List.map_cons,Az8G un2 (.tup [p.1,p.2]) _ (x::y::δ) (some (.d p.1)::some (.d p.2)::δ) rfl,Az6M P F δ L _ _ fun q hq=>h q (List.mem_cons_of_mem _ hq),h1,h2,List.filter_cons]
  cases P p.1 p.2<;>rfl
theorem near_call (T:D) (s u v:Int) (es:callR 1 Az0G [T]= .ok (.int s)):callR 3 Az1A [T, .int u, .int v]= .ok (.bl (nr s u v)):=by
 refine Az0C _ _ _ _ ?_ rfl
 unfold Az1A Az8N nr
 walk_at "ev*"
theorem on_nil (T:D) (x:Int):callR 3 Az2E [T, .int x, .lst []]= .ok (.int 1):=by
 have e:lenR (.lst [])= .ok (.int 0):=rfl
 have z:((0:Int)==0)=true:=rfl
 refine Az0C _ _ _ _ ?_ rfl
 unfold Az2E Bz0F
 walk_at "ev*"
theorem Bz3U (t:List (Int×Int)):pairsR (tD t)= .ok ((t.map fun q=>(D.int q.1,D.int q.2)).map fun p=>D.tup [p.1,p.2]):=by
 show Res.ok (((ksT t).zip (dsT t)).map fun p=>D.tup [keyOf p.1,p.2])=_
 rw [zip_t]
 unfold zt
 rw [List.map_map,List.map_map];rfl
theorem Cz8D (T:D) (s x:Int) (t:List (Int×Int)) (R:List D) (ht:t.length≤1000) (es:callR 1 Az0G [T]= .ok (.int s)):
  callR 3 Az2E [T, .int x, .lst (tD t::R)]= .ok (.int (sm (fun q=>if nr s x q.1=true then q.2 else 0) t)):=by
 have e:lenR (.lst (tD t::R))= .ok (.int ((tD t::R).length:Int)):=rfl
 have z:(((tD t::R).length:Int)==0)=false:=by
  rw [beq_eq_false_iff_ne,List.length_cons];omega
 have ix:ixR (.lst (tD t::R)) (.int 0)= .ok (tD t):=ixR_l _ _ _ (Az6R (by omega) rfl)
 have pr:=Bz3U t
 have hc:compR 2 (unTup 2 (unCons (setI 0) (unCons (setI 1) unNil))) Az4R Az5V [some (.d T),some (.d (.int x)),some (.d (.lst (tD t::R)))] ((t.map fun q=>(D.int q.1,D.int q.2)).map fun p=>D.tup [p.1,p.2])
   = .ok (((t.filter fun q=>nr s x q.1).map (·.2)).map D.int):=by
  refine Az0Z ?_ (by rw [List.length_map,List.length_map];omega)
  have:=Az6M (c:=Az4R) (fe:=Az5V) (fun a _=>match a with| .int b=>nr s x b|_=>false) (fun _ b=>b) [some (.d T),some (.d (.int x)),some (.d (.lst (tD t::R)))] (t.map fun q=>(D.int q.1,D.int q.2)) none none (fun p hp=>by
   obtain ⟨q,_,rfl⟩:=List.mem_map.mp hp
   have nc:=near_call T s x q.1 es
   refine ⟨?_,rfl⟩
   unfold Az4R
   simp only [tR,b1,aCons,aNil,Az0P,Az0U,Res.bind_ok,Az0I,nc,Az0O])
  refine (show compD (unTup 2 (unCons (setI 0) (unCons (setI 1) unNil))) Az4R Az5V _ _=_ from this).trans ?_
  rw [List.filter_map,List.map_map,List.map_map];rfl
 have sl:sumLR (.lst (((t.filter fun q=>nr s x q.1).map (·.2)).map D.int))= .ok (.int (sm (fun q=>if nr s x q.1=true then q.2 else 0) t)):=by
  unfold sumLR;dsimp only;rw [Az5Y];dsimp only
  rw [sm_sum,Az6E]
 generalize hn:((tD t::R).length:Int)=n at e z
 generalize hL:D.lst (tD t::R)=L at*
 clear hn
 refine Az0C _ _ _ _ ?_ rfl
 unfold Az2E Bz0F
 walk_at "ev*"
def inP (p:List Int) (n:Nat):List Int:=((List.range n).map fun (j:Nat)=>(j:Int)).filter fun x=>decide (x∈p)
theorem Bz8K (p:List Int) (n:Nat):inP p (n+1)=if (n:Int)∈p then inP p n++ [(n:Int)] else inP p n:=by
 unfold inP
 rw [List.range_succ,List.map_append,List.filter_append]
 split
 ·rename_i h;simp [h]
 ·rename_i h;simp [h]
theorem inP_lt {p:List Int} {n:Nat} {x:Int} (h:x∈inP p n):x<n:=by
 unfold inP at h
 obtain ⟨h1,_⟩:=List.mem_filter.mp h
 obtain ⟨j,hj,rfl⟩:=List.mem_map.mp h1
 have:=List.mem_range.mp hj
 omega
theorem inB_ints (x:Int):∀ q:List Int,inB (.int x) (q.map D.int)=decide (x∈q)
 | []=>rfl
 |y::q=>by
  have ih:=inB_ints x q
  unfold inB at ih ⊢
  rw [List.map_cons,List.any_cons,ih]
  by_cases e:y=x
  ·subst e;simp [eqD]
  ·have:x≠y:=fun z=>e z.symm
   simp [eqD,e,this]
theorem flat_ints (q:List Int):(q.map D.int).all flatD=true:=by
 rw [List.all_eq_true];intro d hd;obtain ⟨i,_,rfl⟩:=List.mem_map.mp hd;rfl
theorem Cz5D (x:Int) (q:List Int):inR (.int x) (pD q)= .ok (.bl (decide (x∈q))):=by
 show (if (flatD (.int x)&&(q.map D.int).all flatD)=true then _ else _)=_
 rw [flat_ints,inB_ints];rfl
theorem at_eq (T B:D) (p:List Int) (d:Int) (f:Int→Int) (h0:0≤d) (h1:d≤1000) (ed:callR 1 Az0D [T]= .ok (.int d)) (hf:∀ x,callR 3 Az2E [T, .int x,B]= .ok (.int (f x))):
  callR 3 Az5R [T,pD p,B]= .ok (tD ((inP p d.toNat).map fun x=>(x,f x))):=by
 have hr:=rng1_i d h0 (by omega)
 obtain ⟨δ2,fo,z4,rfl⟩:=Bz8O (t:=setI 4) (body:=Az5T) (fun i δ=>∃ z4:Option L3.S,δ= [some (.d T),some (.d (pD p)),some (.d B),some (.q (ksT ((inP p i).map fun x=>(x,f x))) (dsT ((inP p i).map fun x=>(x,f x)))),z4])
  (rngD 0 d.toNat) [some (.d T),some (.d (pD p)),some (.d B),some (.q [] []),none] (fun i x δ hx hI=>by
   obtain ⟨z4,rfl⟩:=hI
   obtain ⟨hi,rfl⟩:=Bz2L hx
   rw [show (0+(i:Int))=(i:Int) by omega]
   refine ⟨_,rfl,?_⟩
   simp only [List.set_cons_zero,List.set_cons_succ]
   have ir:=Cz5D (i:Int) p
   have hw:=hf (i:Int)
   by_cases hp:(i:Int)∈p
   ·rw [decide_eq_true hp] at ir
    have nk:∀ q∈((inP p i).map fun x=>(x,f x)),q.1≠(i:Int):=fun q hq=>by
     obtain ⟨x,hx,rfl⟩:=List.mem_map.mp hq
     have:=inP_lt hx
     show x≠_
     omega
    have hl:((inP p i).map fun x=>(x,f x)).length≤1000:=by
     rw [List.length_map]
     unfold inP
     refine Nat.le_trans (List.length_filter_le _ _) ?_
     simp;omega
    have pj:putO 3 (slotD 4) [some (.d T),some (.d (pD p)),some (.d B),some (.q (ksT ((inP p i).map fun x=>(x,f x))) (dsT ((inP p i).map fun x=>(x,f x)))),some (.d (.int i))] (.int (f i))
      = .nx [some (.d T),some (.d (pD p)),some (.d B),some (.q (ksT ((inP p (i+1)).map fun x=>(x,f x))) (dsT ((inP p (i+1)).map fun x=>(x,f x)))),some (.d (.int i))]:=by
     show ofR (.ok (.int (i:Int))) (putJ 3 _ _ (.int (f i)))=_
     rw [zip_t,Bz8K,if_pos hp,List.map_append]
     show putJ 3 _ (zt _) (.int (f i)) (.int (i:Int))=_
     unfold putJ keyD
     dsimp only
     rw [if_pos (by unfold zt;rw [List.length_map];exact hl),Cz2J _ nk,fst_zt,snd_zt]
     rfl
    refine ⟨_, .inl ?_,some (.d (.int i)),rfl⟩
    clear nk hl hf
    unfold Az5T
    walk_at "ev*"
   ·rw [decide_eq_false hp] at ir
    refine ⟨[some (.d T),some (.d (pD p)),some (.d B),some (.q (ksT ((inP p (i+1)).map fun x=>(x,f x))) (dsT ((inP p (i+1)).map fun x=>(x,f x)))),some (.d (.int i))], .inl ?_,_,rfl⟩
    rw [Bz8K,if_neg hp]
    clear hf
    unfold Az5T
    walk_at "ev*") ⟨none,rfl⟩
 rw [Bz2K] at fo
 refine Az0C _ _ _ _ ?_ rfl
 have fz:∀ (t:List (Int×Int)),sFrz 3 (sRet (slotP 3)) [some (.d T),some (.d (pD p)),some (.d B),some (.q (ksT t) (dsT t)),z4]= .rt (tD t):=fun t=>rfl
 have fz':=fz ((inP p d.toNat).map fun x=>(x,f x))
 clear hf fz
 unfold Az5R Bz4X
 walk_at "ev*"
theorem up_ext:∀ {a b:List Int},Up a→Up b→(∀ x,x∈a↔x∈b)→a=b
 | [],[],_,_,_=>rfl
 | [],y::b,_,_,h=>by have:=(h y).mpr List.mem_cons_self;simp at this
 |x::a,[],_,_,h=>by have:=(h x).mp List.mem_cons_self;simp at this
 |x::a,y::b,ha,hb,h=>by
  obtain ⟨a1,a2⟩:=List.pairwise_cons.mp ha
  obtain ⟨b1,b2⟩:=List.pairwise_cons.mp hb
  have e:x=y:=by
   rcases List.mem_cons.mp ((h x).mp List.mem_cons_self) with z|z
   ·exact z
   ·rcases List.mem_cons.mp ((h y).mpr List.mem_cons_self) with w|w
    ·exact w.symm
    ·have:=b1 x z;have:=a1 y w;omega
  subst e
  refine congrArg (x:: ·) (up_ext a2 b2 fun z=>⟨fun hz=> ?_,fun hz=> ?_⟩)
  ·rcases List.mem_cons.mp ((h z).mp (List.mem_cons_of_mem _ hz)) with w|w
   ·have:=a1 z hz;omega
   ·exact w
  ·rcases List.mem_cons.mp ((h z).mpr (List.mem_cons_of_mem _ hz)) with w|w
   ·have:=b1 z hz;omega
   ·exact w
structure PU (d:Int) (p:List Int):Prop where
 up:Up p
 bd:∀ c∈p,0≤c∧c<d
 le:p.length≤100
theorem Bz6L (n:Nat):Up ((List.range n).map fun (j:Nat)=>(j:Int)):=by
 induction n with
 |zero=>exact List.Pairwise.nil
 |succ n ih=>
  rw [List.range_succ,List.map_append]
  refine List.pairwise_append.mpr ⟨ih,List.pairwise_singleton _ _,fun a ha b hb=> ?_⟩
  obtain ⟨j,hj,rfl⟩:=List.mem_map.mp ha
  have:=List.mem_range.mp hj
  simp at hb
  omega
theorem Cz8V {d:Int} {p:List Int} (h:PU d p):inP p d.toNat=p:=by
 refine up_ext ((Bz6L _).filter _) h.up fun x=> ?_
 unfold inP
 rw [List.mem_filter,List.mem_map]
 constructor
 ·rintro ⟨_,h2⟩;simpa using h2
 ·intro hx
  obtain ⟨b1,b2⟩:=h.bd x hx
  exact ⟨⟨x.toNat,List.mem_range.mpr (by omega),by omega⟩,by simpa using hx⟩
def tabs (s:Int):List (List Int)→List (List (Int×Int))
 | []=> []
 |p::P=>(p.map fun x=>(x,go s P x))::tabs s P
theorem Cz8C (T:D) (d s:Int) (es:callR 1 Az0G [T]= .ok (.int s)) (P:List (List Int)) (hP:∀ q∈P,PU d q) (x:Int):callR 3 Az2E [T, .int x, .lst ((tabs s P).map tD)]= .ok (.int (go s P x)):=by
 cases P with
 |nil=>exact on_nil T x
 |cons p P=>
  show callR 3 Az2E [T, .int x, .lst (tD (p.map fun x=>(x,go s P x))::(tabs s P).map tD)]=_
  rw [Cz8D T s x _ _ (by rw [List.length_map];have:=(hP p List.mem_cons_self).le;omega) es,sm_map]
  rfl
theorem Bz6I (T:D) (d s:Int) (h0:0≤d) (h1:d≤1000) (ed:callR 1 Az0D [T]= .ok (.int d)) (es:callR 1 Az0G [T]= .ok (.int s)) (P:List (List Int)) (hP:∀ q∈P,PU d q) (hl:P.length≤1000):
  callR 2 Az2F [T,bD P]= .ok (.lst ((tabs s P).map tD)):=by
 have tl:∀ P,(tabs s P).length=P.length:=fun P=>by
  induction P with
  |nil=>rfl
  |cons p P ih=>show (tabs s P).length+1=_;rw [ih];rfl
 have hrv:revWR [bD P]= .ok (P.map pD).reverse:=rfl
 obtain ⟨δ2,fo,z3,rfl⟩:=Bz8O (t:=setI 3) (body:=Az6Z) (fun i δ=>∃ z3:Option L3.S,δ= [some (.d T),some (.d (bD P)),some (.d (.lst ((tabs s (P.drop (P.length-i))).map tD))),z3])
  (P.map pD).reverse [some (.d T),some (.d (bD P)),some (.d (.lst [])),none] (fun i x δ hx hI=>by
   obtain ⟨z3,rfl⟩:=hI
   have hi:i<P.length:=by
    have:=(List.getElem?_eq_some_iff.mp hx).1
    simpa using this
   rw [List.getElem?_reverse (by simpa using hi),List.length_map,List.getElem?_map,List.getElem?_eq_getElem (show P.length-1-i<P.length by omega)] at hx
   cases hx
   refine ⟨_,rfl,?_⟩
   simp only [List.set_cons_zero,List.set_cons_succ]
   obtain ⟨p,hp⟩:∃ p,p=P[P.length-1-i]:=⟨_,rfl⟩
   obtain ⟨R,hR⟩:∃ R,R=P.drop (P.length-i):=⟨_,rfl⟩
   have hd:P.drop (P.length-(i+1))=p::R:=by
    rw [hp,hR,show P.length-i=P.length-1-i+1 by omega,show P.length-(i+1)=P.length-1-i by omega]
    exact List.drop_eq_getElem_cons _
   have hpu:PU d p:=hP p (by rw [hp];exact List.getElem_mem _)
   have hRu:∀ q∈R,PU d q:=fun q hq=>hP q (by rw [hR] at hq;exact List.mem_of_mem_drop hq)
   have a1:=at_eq T (.lst ((tabs s R).map tD)) p d (go s R) h0 h1 ed (fun x=>Cz8C T d s es R hRu x)
   rw [Cz8V hpu] at a1
   rw [←hp,←hR]
   have c1:catR (.lst [tD (p.map fun x=>(x,go s R x))]) (.lst ((tabs s R).map tD))= .ok (tD (p.map fun x=>(x,go s R x))::(tabs s R).map tD):=by
    unfold catR;dsimp only
    rw [if_pos]
    ·rfl
    ·rw [sizeLine_eq,List.length_map,tl,hR,List.length_drop];simp;omega
   refine ⟨[some (.d T),some (.d (bD P)),some (.d (.lst ((tabs s (P.drop (P.length-(i+1)))).map tD))),some (.d (pD p))], .inl ?_,_,rfl⟩
   rw [hd]
   show _=Out.nx [some (.d T),some (.d (bD P)),some (.d (.lst (tD (p.map fun x=>(x,go s R x))::(tabs s R).map tD))),some (.d (pD p))]
   clear hd hpu hRu hP hp hR
   unfold Az6Z
   walk_at "ev*") ⟨none,by rw [Nat.sub_zero,List.drop_length];rfl⟩
 rw [List.length_reverse,List.length_map,Nat.sub_self,List.drop_zero] at fo
 refine Az0C _ _ _ _ ?_ rfl
 clear hP tl
 unfold Az2F Bz4W
 walk_at "ev*"
theorem Bz9A (T:D) (d s:Int) (h0:0≤d) (h1:d≤1000) (ed:callR 1 Az0D [T]= .ok (.int d)) (es:callR 1 Az0G [T]= .ok (.int s)) (P:List (List Int)) (hP:∀ q∈P,PU d q) (hl:P.length≤1000) (hn:1≤P.length):
  callR 2 Az2Z [T,bD P]= .ok (.int (cnt s P)):=by
 have w:=Bz6I T d s h0 h1 ed es P hP hl
 cases P with
 |nil=>simp at hn
 |cons p P=>
  have ix:ixR (.lst ((tabs s (p::P)).map tD)) (.int 0)= .ok (tD (p.map fun x=>(x,go s P x))):=ixR_l _ _ _ (Az6R (by omega) rfl)
  have sv:sumvR (tD (p.map fun x=>(x,go s P x)))= .ok (.int (cnt s (p::P))):=by
   unfold sumvR tD;dsimp only;rw [Cz2U];dsimp only
   rw [List.map_map]
   show Res.ok (D.int ((p.map (go s P)).sum))=_
   rw [sm_sum];rfl
  refine Az0C _ _ _ _ ?_ rfl
  clear hP
  unfold Az2Z Bz1R
  walk_at "ev*"
theorem Bz2A (s:Int):∀ P:List (List Int),(tabs s P).length=P.length
 | []=>rfl
 |p::P=>by show (tabs s P).length+1=_;rw [Bz2A s P];rfl
theorem Cz2E (s:Int):∀ (B:List (List Int)) (k:Nat),k<B.length→((tabs s B).map tD)[k]? =some (tD ((B.getD k []).map fun x=>(x,go s (B.drop (k+1)) x)))
 | [],k,h=>absurd h (Nat.not_lt_zero _)
 |p::B,0,_=>rfl
 |p::B,k+1,h=>Cz2E s B k (by simpa using h)
theorem Bz3X:∀ t:List (Int×Int),Az6X (t.map fun q=>D.tup [.int q.1, .int q.2])=some (zt t)
 | []=>rfl
 |q::t=>by
  show (match keyD (D.int q.1),Az6X (t.map fun q=>D.tup [.int q.1, .int q.2]) with|some kk,some l=>some ((kk,D.int q.2)::l)|_,_=>none)=_
  rw [Bz3X t];rfl
theorem Cz8I (t:List (Int×Int)) (h:Up (t.map (·.1))):mergeT (zt t)=zt t:=by
 have go:∀ (b a:List (Int×Int)),Up ((a++b).map (·.1))→(zt b).foldl (fun acc p=>tPut acc p.1 p.2) (zt a)=zt (a++b):=by
  intro b
  induction b with
  |nil=>intro a _;rw [List.append_nil];rfl
  |cons q b ih=>
   intro a ha
   have nk:∀ r∈a,r.1≠q.1:=fun r hr=>by
    rw [List.map_append] at ha
    have:=(List.pairwise_append.mp ha).2.2 r.1 (List.mem_map.mpr ⟨r,hr,rfl⟩) q.1 (by simp)
    omega
   show (zt b).foldl (fun acc p=>tPut acc p.1 p.2) (tPut (zt a) (Sum.inl q.1) (D.int q.2))=_
   rw [Cz2J _ nk,ih (a++ [q]) (by rw [List.append_assoc];exact ha),List.append_assoc];rfl
 exact go t [] h
theorem Cz9Q (t:List (Int×Int)) (h:Up (t.map (·.1))):dictLR (.lst (t.map fun q=>D.tup [.int q.1, .int q.2]))= .ok (tD t):=by
 unfold dictLR;dsimp only;rw [Bz3X];dsimp only
 rw [Cz8I t h,fst_zt,snd_zt];rfl
theorem Bz1M (T:D) (d s:Int) (es:callR 1 Az0G [T]= .ok (.int s)) (B:List (List Int)) (hB:∀ q∈B,PU d q) (st:List Int) (hk:st.length<B.length):
  callR 3 Az2V [T, .lst ((tabs s B).map tD),pD st]= .ok (tD ((ch s st.getLast? (B.getD st.length [])).map fun x=>(x,go s (B.drop (st.length+1)) x))):=by
 have hm:B.getD st.length []∈B:=by rw [List.getD_eq_getElem?_getD,List.getElem?_eq_getElem hk];exact List.getElem_mem _
 have pu:=hB _ hm
 have ln:lenR (pD st)= .ok (.int st.length):=by show Res.ok (D.int ((st.map D.int).length:Int))=_;rw [List.length_map]
 have ix:ixR (.lst ((tabs s B).map tD)) (.int st.length)= .ok (tD ((B.getD st.length []).map fun x=>(x,go s (B.drop (st.length+1)) x))):=ixR_l _ _ _ (Az6R (by omega) (by rw [show ((st.length:Int)).toNat=st.length by omega];exact Cz2E s B _ hk))
 generalize B.drop (st.length+1)=R at ix ⊢
 generalize B.getD st.length []=p at ix pu ⊢
 generalize D.lst ((tabs s B).map tD)=Ws at ix ⊢
 rcases List.eq_nil_or_concat st with rfl|⟨pre,l,rfl⟩
 ·have z:(((([]:List Int).length:Nat):Int)==0)=true:=rfl
  show _=Res.ok (tD (p.map fun x=>(x,go s R x)))
  generalize ((([]:List Int).length:Nat):Int)=n at ln ix z
  refine Az0C _ _ _ _ ?_ rfl
  unfold Az2V Bz0H
  walk_at "ev*"
 ·rw [List.concat_eq_append] at ln ix ⊢
  have z:((((pre++ [l]).length:Nat):Int)==0)=false:=by rw [beq_eq_false_iff_ne,List.length_append,List.length_singleton];omega
  have gl:(pre++ [l]).getLast? =some l:=by simp
  rw [gl]
  have eix:ixR (pD (pre++ [l])) (.int (-1))= .ok (.int l):=ixR_t _ _ _ (by rw [List.map_append];exact Bz9L _ _)
  have pr:=Bz3U (p.map fun x=>(x,go s R x))
  have hc:compR 2 (unTup 2 (unCons (setI 0) (unCons (setI 1) unNil))) Az4S Az4P [some (.d T),some (.d Ws),some (.d (pD (pre++ [l]))),some (.d (tD (p.map fun x=>(x,go s R x))))] (((p.map fun x=>(x,go s R x)).map fun q=>(D.int q.1,D.int q.2)).map fun p=>D.tup [p.1,p.2])
    = .ok (((ch s (some l) p).map fun x=>(x,go s R x)).map fun q=>D.tup [.int q.1, .int q.2]):=by
   refine Az0Z ?_ (by rw [List.length_map,List.length_map,List.length_map];have:=pu.le;omega)
   have:=Az6M (c:=Az4S) (fe:=Az4P) (fun a _=>match a with| .int b=>nr s l b|_=>false) (fun a b=> .tup [a,b]) [some (.d T),some (.d Ws),some (.d (pD (pre++ [l]))),some (.d (tD (p.map fun x=>(x,go s R x))))] ((p.map fun x=>(x,go s R x)).map fun q=>(D.int q.1,D.int q.2)) none none (fun pq hpq=>by
    obtain ⟨q,_,rfl⟩:=List.mem_map.mp hpq
    have nc:=near_call T s l q.1 es
    refine ⟨?_,by unfold Az4P;walk_at "ev"⟩
    unfold Az4S
    generalize pD (pre++ [l])=St at*
    simp only [tR,b1,b2,kD,negD_i,aCons,aNil,Az0P,Az0U,Az0R,Az1F,Res.bind_ok,Az0I,eix,nc,Az0O])
   refine (show compD (unTup 2 (unCons (setI 0) (unCons (setI 1) unNil))) Az4S Az4P _ _=_ from this).trans ?_
   unfold ch
   dsimp only
   rw [List.map_map,List.filter_map,List.map_map,List.map_map];rfl
  have dl:=Cz9Q ((ch s (some l) p).map fun x=>(x,go s R x)) (by rw [List.map_map];exact (show Up ((ch s (some l) p).map id) by rw [List.map_id];exact ch_up pu.up))
  generalize (((pre++ [l]).length:Nat):Int)=n at ln ix z
  generalize pD (pre++ [l])=St at*
  refine Az0C _ _ _ _ ?_ rfl
  unfold Az2V Bz0H
  walk_at "ev*"
theorem Bz3S (H:D) (n:Int) (f:Int→Int):∀ (l:List Int) (acc x r:Int) (y3 y4:Option L3.S),pk f l (n-acc)=some (x,r)→
  forD (unTup 2 (unCons (setI 3) (unCons (setI 4) unNil))) Az7A ((l.map fun x=>(D.int x,D.int (f x))).map fun p=>D.tup [p.1,p.2]) [some (.d H),some (.d (.int n)),some (.d (.int acc)),y3,y4]= .rt (.tup [.int x, .int r])
 | [],_,_,_,_,_,h=>by cases h
 |a::l,acc,x,r,y3,y4,h=>by
  rw [List.map_cons,List.map_cons,Az5U _ _ _ [some (.d H),some (.d (.int n)),some (.d (.int acc)),some (.d (.int a)),some (.d (.int (f a)))] rfl]
  rw [pk] at h
  by_cases hn:n-acc<f a
  ·rw [if_pos hn] at h
   cases h
   have lt:ltR (.int n) (.int (acc+f a))= .ok (.bl true):=by rw [ltR_ii,decide_eq_true (by omega)]
   have e:Az7A [some (.d H),some (.d (.int n)),some (.d (.int acc)),some (.d (.int a)),some (.d (.int (f a)))]= .rt (.tup [.int a, .int (n-acc)]):=by
    clear hn
    unfold Az7A
    walk_at "ev*"
   rw [e]
  ·rw [if_neg hn] at h
   have lt:ltR (.int n) (.int (acc+f a))= .ok (.bl false):=by rw [ltR_ii,decide_eq_false (by omega)]
   have au:sAug 2 (slotD 4) [some (.d H),some (.d (.int n)),some (.d (.int acc)),some (.d (.int a)),some (.d (.int (f a)))]= .nx [some (.d H),some (.d (.int n)),some (.d (.int (acc+f a))),some (.d (.int a)),some (.d (.int (f a)))]:=rfl
   have e:Az7A [some (.d H),some (.d (.int n)),some (.d (.int acc)),some (.d (.int a)),some (.d (.int (f a)))]= .nx [some (.d H),some (.d (.int n)),some (.d (.int (acc+f a))),some (.d (.int a)),some (.d (.int (f a)))]:=by
    clear hn h
    unfold Az7A
    walk_at "ev*"
   rw [e]
   exact Bz3S H n f l (acc+f a) x r _ _ (by rw [show n-(acc+f a)=n-acc-f a by omega];exact h)
theorem Cz7L (f:Int→Int) (l:List Int) (n x r:Int) (h:pk f l n=some (x,r)):callR 2 m_pick [tD (l.map fun x=>(x,f x)), .int n]= .ok (.tup [.int x, .int r]):=by
 have pr:=Bz3U (l.map fun x=>(x,f x))
 have fo:=Bz3S (tD (l.map fun x=>(x,f x))) n f l 0 x r none none (by rw [Int.sub_zero];exact h)
 have pr':pairsR (tD (l.map fun x=>(x,f x)))= .ok ((l.map fun x=>(D.int x,D.int (f x))).map fun p=>D.tup [p.1,p.2]):=by rw [pr,List.map_map,List.map_map,List.map_map];rfl
 clear pr h
 refine Az0C _ _ _ _ ?_ rfl
 unfold m_pick b_pick
 walk_at "ev*"
theorem Az5I {c:DSt→Res Bool} {b:DSt→Out} {δ:DSt} (n:Nat) (h:c δ= .ok false):whileD c b (n+1) δ= .nx δ:=by rw [whileD,h]
theorem Az6T {c:DSt→Res Bool} {b:DSt→Out} {δ δ2:DSt} (n:Nat) (h:c δ= .ok true) (h2:b δ= .nx δ2):whileD c b (n+1) δ=whileD c b n δ2:=by rw [whileD,h];show (match b δ with| .nx δ2=>_| .ct δ2=>_| .bk δ2=>_| .rt d=>_| .ex c fs=>_| .stuck=>_)=_;rw [h2]
theorem nth_c (T Bd N:D) (W:List D) (st:List Int) (l:Int) (y6:Option L3.S):Az5G [some (.d T),some (.d Bd),some (.d N),some (.d (.lst W)),some (.d (pD st)),some (.d (.int l)),y6]= .ok (decide (st.length<W.length)):=by
 have ln:lenR (pD st)= .ok (.int st.length):=by show Res.ok (D.int ((st.map D.int).length:Int))=_;rw [List.length_map]
 have lw:lenR (.lst W)= .ok (.int W.length):=rfl
 have e:decide ((st.length:Int)<(W.length:Int))=decide (st.length<W.length):=by
  by_cases h:st.length<W.length
  ·rw [decide_eq_true h,decide_eq_true (by omega)]
  ·rw [decide_eq_false h,decide_eq_false (by omega)]
 rw [←e]
 unfold Az5G
 simp only [tR,b1,b2,Az0R,Az1F,Res.bind_ok,ln,lw,ltR_ii,Az0O]
theorem Bz7P (T:D) (d s:Int) (es:callR 1 Az0G [T]= .ok (.int s)) (B:List (List Int)) (hB:∀ q∈B,PU d q) (hl:B.length≤100) (N:D):∀ (k:Nat) (st:List Int) (n:Int) (j:Nat) (y6:Option L3.S),k+st.length=B.length→0≤n→n<tot s st.getLast? (B.drop st.length)→
  ∃ z5 z6,whileD Az5G Az5D (k+1+j) [some (.d T),some (.d (bD B)),some (.d N),some (.d (.lst ((tabs s B).map tD))),some (.d (pD st)),some (.d (.int n)),y6]
   = .nx [some (.d T),some (.d (bD B)),some (.d N),some (.d (.lst ((tabs s B).map tD))),some (.d (pD (st++nthP s (B.drop st.length) st.getLast? n))),z5,z6]
 |0,st,n,j,y6,hk,h0,h1=>by
  have hd:B.drop st.length= []:=List.drop_eq_nil_of_le (by omega)
  rw [hd]
  refine ⟨some (.d (.int n)),y6,?_⟩
  rw [show 0+1+j=j+1 by omega,Az5I j (by rw [nth_c,decide_eq_false (by rw [List.length_map,Bz2A];omega)])]
  show _=Out.nx [_,_,_,_,some (.d (pD (st++ []))),_,_]
  rw [List.append_nil]
 |k+1,st,n,j,y6,hk,h0,h1=>by
  have hlt:st.length<B.length:=by omega
  have hd:B.drop st.length=B.getD st.length []::B.drop (st.length+1):=by
   rw [List.drop_eq_getElem_cons hlt,List.getD_eq_getElem?_getD,List.getElem?_eq_getElem hlt];rfl
  have ce:=Bz1M T d s es B hB st hlt
  rw [hd] at h1 ⊢
  have hm:B.getD st.length []∈B:=by rw [List.getD_eq_getElem?_getD,List.getElem?_eq_getElem hlt];exact List.getElem_mem _
  obtain ⟨x,r,e,hx,r0,r1,en⟩:=pk_up (Az1S s _) (ch_up (s:=s) (last:=st.getLast?) (hB _ hm).up) h0 h1
  have pe:=Cz7L _ _ _ _ _ e
  have en':nthP s (B.getD st.length []::B.drop (st.length+1)) st.getLast? n=x::nthP s (B.drop (st.length+1)) (some x) r:=by rw [nthP,e]
  have gl:(st++ [x]).getLast? =some x:=by simp
  obtain ⟨z5,z6,ih⟩:=Bz7P T d s es B hB hl N k (st++ [x]) r j (some (.d (.tup [.int x, .int r]))) (by rw [List.length_append,List.length_singleton];omega) r0 (by rw [gl,Az5W,List.length_append,List.length_singleton];exact r1)
  refine ⟨z5,z6,?_⟩
  have a1:addD (pD st) (.tup [.int x])= .ok (pD (st++ [x])):=by
   unfold pD
   rw [Az4T _ _ (by rw [List.length_map,List.length_singleton];omega),List.map_append];rfl
  have i0:ixR (.tup [.int x, .int r]) (.int 0)= .ok (.int x):=rfl
  have i1:ixR (.tup [.int x, .int r]) (.int 1)= .ok (.int r):=rfl
  have step:Az5D [some (.d T),some (.d (bD B)),some (.d N),some (.d (.lst ((tabs s B).map tD))),some (.d (pD st)),some (.d (.int n)),y6]= .nx [some (.d T),some (.d (bD B)),some (.d N),some (.d (.lst ((tabs s B).map tD))),some (.d (pD (st++ [x]))),some (.d (.int r)),some (.d (.tup [.int x, .int r]))]:=by
   clear ih en' en gl e h1 hd hB
   generalize D.lst ((tabs s B).map tD)=Ws at*
   generalize bD B=Bd at*
   unfold Az5D
   walk_at "ev*"
  rw [show k+1+1+j=(k+1+j)+1 by omega,Az6T (k+1+j) (by rw [nth_c,decide_eq_true (by rw [List.length_map,Bz2A];omega)]) step,ih,gl,List.length_append,List.length_singleton,en',List.append_assoc]
  rfl
theorem Cz6L (n:Int):callR 1 Az0Q [.int n]= .ok (.bl true):=by
 have e1:isiR "int" (.int n)= .ok (.bl true):=Bz3A _ (by simp [ty_int])
 have e2:isiR "bool" (.int n)= .ok (.bl false):=Az9W _ (by simp [ty_int])
 refine Az0C _ _ _ _ ?_ rfl
 unfold Az0Q Az6P
 walk_at "ev*"
theorem nth_eq (T:D) (d s:Int) (h0:0≤d) (h1:d≤1000) (ed:callR 1 Az0D [T]= .ok (.int d)) (es:callR 1 Az0G [T]= .ok (.int s)) (B:List (List Int)) (hB:∀ q∈B,PU d q) (hl:B.length≤100) (hn:1≤B.length) (n:Int) (n0:0≤n) (n1:n<cnt s B):
  callR 3 Az3C [T,bD B, .int n]= .ok (pD (nthP s B none n)):=by
 have w:=Bz6I T d s h0 h1 ed es B hB (by omega)
 have wi:=Cz6L n
 cases B with
 |nil=>simp at hn
 |cons p P=>
  have ix:ixR (.lst ((tabs s (p::P)).map tD)) (.int 0)= .ok (tD (p.map fun x=>(x,go s P x))):=ixR_l _ _ _ (Az6R (by omega) rfl)
  have sv:sumvR (tD (p.map fun x=>(x,go s P x)))= .ok (.int (cnt s (p::P))):=by
   unfold sumvR tD;dsimp only;rw [Cz2U];dsimp only
   rw [List.map_map]
   show Res.ok (D.int ((p.map (go s P)).sum))=_
   rw [sm_sum];rfl
  obtain ⟨z5,z6,lp⟩:=Bz7P T d s es (p::P) hB hl (.int n) (p::P).length [] n (100000-(p::P).length-1) none (by simp) n0 n1
  rw [show (p::P).length+1+(100000-(p::P).length-1)=100000 by omega] at lp
  have lp':whileD Az5G Az5D 100000 [some (.d T),some (.d (bD (p::P))),some (.d (.int n)),some (.d (.lst ((tabs s (p::P)).map tD))),some (.d (.tup [])),some (.d (.int n)),none]= .nx [some (.d T),some (.d (bD (p::P))),some (.d (.int n)),some (.d (.lst ((tabs s (p::P)).map tD))),some (.d (pD (nthP s (p::P) none n))),z5,z6]:=lp
  have dt:decide (0≤n∧n<cnt s (p::P))=true:=decide_eq_true ⟨n0,n1⟩
  refine Az0C _ _ _ _ ?_ rfl
  clear hB lp n0 n1
  generalize D.lst ((tabs s (p::P)).map tD)=Ws at*
  generalize bD (p::P)=Bd at*
  generalize pD (nthP s (p::P) none n)=Ans at*
  unfold Az3C Bz9K
  walk_at "ev*"
theorem get_map (f:Int→Int):∀ (l:List Int) (c:Int),(tGet (zt (l.map fun x=>(x,f x))) (.inl c)).isSome=decide (c∈l)
 | [],c=>by simp [zt,tGet]
 |a::l,c=>by
  show (tGet ((Sum.inl a,D.int (f a))::zt (l.map fun x=>(x,f x))) (.inl c)).isSome=_
  by_cases h:a=c
  ·rw [Az6U (p:=(Sum.inl a,D.int (f a))) (by rw [h])];simp [h]
  ·rw [Az6V (p:=(Sum.inl a,D.int (f a))) (fun z=>h (Sum.inl.inj z)),get_map f l c]
   have:c≠a:=fun z=>h z.symm
   simp [this]
theorem Cz8L (δ:DSt) (f:Int→Int) (l:List Int) (c:Int) (hl:l.length≤1000) (T Bd cs Ws acc pl H:Option L3.S) (e:δ= [T,Bd,cs,Ws,acc,pl,some (.d (.int c)),H]):
  compR 2 (unTup 2 (unCons (setI 0) (unCons (setI 1) unNil))) Az3Z Az4V δ (((l.map fun x=>(x,f x)).map fun q=>(D.int q.1,D.int q.2)).map fun p=>D.tup [p.1,p.2])= .ok (((l.filter fun x=>decide (x<c)).map f).map D.int):=by
 subst e
 refine Az0Z ?_ (by rw [List.length_map,List.length_map,List.length_map];omega)
 have:=Az6M (c:=Az3Z) (fe:=Az4V) (fun a _=>match a with| .int b=>decide (b<c)|_=>false) (fun _ b=>b) [T,Bd,cs,Ws,acc,pl,some (.d (.int c)),H] ((l.map fun x=>(x,f x)).map fun q=>(D.int q.1,D.int q.2)) none none (fun pq hpq=>by
  obtain ⟨q,_,rfl⟩:=List.mem_map.mp hpq
  refine ⟨?_,rfl⟩
  unfold Az3Z
  simp only [tR,b2,Az0R,Az1F,Res.bind_ok,ltR_ii,Az0O])
 refine (show compD (unTup 2 (unCons (setI 0) (unCons (setI 1) unNil))) Az3Z Az4V _ _=_ from this).trans ?_
 rw [List.map_map,List.filter_map,List.map_map,List.map_map];rfl
theorem Bz1W (T:D) (d s:Int) (es:callR 1 Az0G [T]= .ok (.int s)) (B:List (List Int)) (hB:∀ q∈B,PU d q) (cs:List Int) (hcl:cs.length=B.length):∀ (rest pre:List Int) (acc:Int) (y5 y6 y7:Option L3.S),cs=pre++rest→
  ∃ z5 z6 z7,forD (unTup 2 (unCons (setI 5) (unCons (setI 6) unNil))) Az1U (enumD pre.length (rest.map D.int)) [some (.d T),some (.d (bD B)),some (.d (pD cs)),some (.d (.lst ((tabs s B).map tD))),some (.d (.int acc)),y5,y6,y7]
   = .nx [some (.d T),some (.d (bD B)),some (.d (pD cs)),some (.d (.lst ((tabs s B).map tD))),some (.d (.int (acc+ahP s (B.drop pre.length) pre.getLast? rest))),z5,z6,z7]
 | [],pre,acc,y5,y6,y7,hc=>by
  refine ⟨y5,y6,y7,?_⟩
  have e:ahP s (B.drop pre.length) pre.getLast? []=0:=by cases B.drop pre.length<;>rfl
  rw [e,Int.add_zero];rfl
 |c::rest,pre,acc,y5,y6,y7,hc=>by
  have hlt:pre.length<B.length:=by rw [←hcl,hc];simp
  have hd:B.drop pre.length=B.getD pre.length []::B.drop (pre.length+1):=by
   rw [List.drop_eq_getElem_cons hlt,List.getD_eq_getElem?_getD,List.getElem?_eq_getElem hlt];rfl
  have ce:=Bz1M T d s es B hB pre hlt
  have hm:B.getD pre.length []∈B:=by rw [List.getD_eq_getElem?_getD,List.getElem?_eq_getElem hlt];exact List.getElem_mem _
  have pu:=hB _ hm
  have hcl2:(ch s pre.getLast? (B.getD pre.length [])).length≤1000:=by
   have h1:=pu.le
   have:(ch s pre.getLast? (B.getD pre.length [])).length≤(B.getD pre.length []).length:=by
    unfold ch
    split
    ·exact Nat.le_refl _
    ·exact List.length_filter_le _ _
   omega
  have sl:slW (pD cs) none (some (pre.length:Int))= .ok (pD pre):=by
   have:=slW_to (cs.map D.int) pre.length
   rw [←List.map_take,hc,List.take_left] at this
   rw [hc];exact this
  have es':enumD pre.length ((c::rest).map D.int)= .tup [.int (pre.length:Int), .int c]::enumD (pre++ [c]).length (rest.map D.int):=by
   rw [List.length_append,List.length_singleton];rfl
  rw [es',hd,Az5U _ _ _ [some (.d T),some (.d (bD B)),some (.d (pD cs)),some (.d (.lst ((tabs s B).map tD))),some (.d (.int acc)),some (.d (.int (pre.length:Int))),some (.d (.int c)),y7] rfl]
  obtain ⟨R,hR⟩:∃ R,R=B.drop (pre.length+1):=⟨_,rfl⟩
  obtain ⟨L,hL⟩:∃ L,L=ch s pre.getLast? (B.getD pre.length []):=⟨_,rfl⟩
  rw [←hR,←hL] at ce
  rw [←hL] at hcl2
  have pr:=Bz3U (L.map fun x=>(x,go s R x))
  have lc:=Cz8L [some (.d T),some (.d (bD B)),some (.d (pD cs)),some (.d (.lst ((tabs s B).map tD))),some (.d (.int acc)),some (.d (.int (pre.length:Int))),some (.d (.int c)),some (.d (tD (L.map fun x=>(x,go s R x))))] (go s R) L c hcl2 _ _ _ _ _ _ _ rfl
  have sl2:sumLR (.lst (((L.filter fun x=>decide (x<c)).map (go s R)).map D.int))= .ok (.int (bel (go s R) L c)):=by
   unfold sumLR;dsimp only;rw [Az5Y];dsimp only
   rw [sm_sum,Az6E]
   unfold bel
   congr 2
   exact Bz2C fun y _=>by simp
  have au:∀ v:Int,augO 4 [some (.d T),some (.d (bD B)),some (.d (pD cs)),some (.d (.lst ((tabs s B).map tD))),some (.d (.int acc)),some (.d (.int (pre.length:Int))),some (.d (.int c)),some (.d (tD (L.map fun x=>(x,go s R x))))] (.int v)= .nx [some (.d T),some (.d (bD B)),some (.d (pD cs)),some (.d (.lst ((tabs s B).map tD))),some (.d (.int (acc+v))),some (.d (.int (pre.length:Int))),some (.d (.int c)),some (.d (tD (L.map fun x=>(x,go s R x))))]:=fun v=>rfl
  have sa:∀ g:DSt→Res D,sAug 4 g [some (.d T),some (.d (bD B)),some (.d (pD cs)),some (.d (.lst ((tabs s B).map tD))),some (.d (.int acc)),some (.d (.int (pre.length:Int))),some (.d (.int c)),some (.d (tD (L.map fun x=>(x,go s R x))))]=ofR (g [some (.d T),some (.d (bD B)),some (.d (pD cs)),some (.d (.lst ((tabs s B).map tD))),some (.d (.int acc)),some (.d (.int (pre.length:Int))),some (.d (.int c)),some (.d (tD (L.map fun x=>(x,go s R x))))]) (augO 4 [some (.d T),some (.d (bD B)),some (.d (pD cs)),some (.d (.lst ((tabs s B).map tD))),some (.d (.int acc)),some (.d (.int (pre.length:Int))),some (.d (.int c)),some (.d (tD (L.map fun x=>(x,go s R x))))]):=fun g=>rfl
  have sq:slotQ 7 [some (.d T),some (.d (bD B)),some (.d (pD cs)),some (.d (.lst ((tabs s B).map tD))),some (.d (.int (acc+bel (go s R) L c))),some (.d (.int (pre.length:Int))),some (.d (.int c)),some (.d (tD (L.map fun x=>(x,go s R x))))]= .ok (zt (L.map fun x=>(x,go s R x))):=by
   show Res.ok ((ksT _).zip (dsT _))=_;rw [zip_t]
  have nq:ninQR (.int c) (zt (L.map fun x=>(x,go s R x)))= .ok (.bl (!decide (c∈L))):=by
   show Res.ok (D.bl (!(tGet _ (Sum.inl c)).isSome))=_
   rw [get_map]
  have ea:ahP s (B.getD pre.length []::R) pre.getLast? (c::rest)=bel (go s R) L c+if c∈L then ahP s R (some c) rest else 0:=by rw [hL];rfl
  rw [←hR,ea]
  by_cases hcL:c∈L
  ·rw [decide_eq_true hcL,Bool.not_true] at nq
   have gl:(pre++ [c]).getLast? =some c:=by simp
   obtain ⟨z5,z6,z7,ih⟩:=Bz1W T d s es B hB cs hcl rest (pre++ [c]) (acc+bel (go s R) L c) (some (.d (.int (pre.length:Int)))) (some (.d (.int c))) (some (.d (tD (L.map fun x=>(x,go s R x))))) (by rw [hc,List.append_assoc];rfl)
   have step:Az1U [some (.d T),some (.d (bD B)),some (.d (pD cs)),some (.d (.lst ((tabs s B).map tD))),some (.d (.int acc)),some (.d (.int (pre.length:Int))),some (.d (.int c)),y7]
     = .nx [some (.d T),some (.d (bD B)),some (.d (pD cs)),some (.d (.lst ((tabs s B).map tD))),some (.d (.int (acc+bel (go s R) L c))),some (.d (.int (pre.length:Int))),some (.d (.int c)),some (.d (tD (L.map fun x=>(x,go s R x))))]:=by
    clear ih gl ea hcL hcl2 hc hcl hB hd hL hR pu hm es'
    generalize D.lst ((tabs s B).map tD)=Ws at*
    generalize tD (L.map fun x=>(x,go s R x))=Ht at*
    unfold Az1U
    simp only [sSeq,sSet,sIf,b1,b2,b3,b1Q,b2R,tR,asD,vComp,aCons,aNil,oNone,Az0P,Az0U,Az0R,Az1F,Res.bind_ok,Az0I,Az7F,sl,ce,ofR_ok,Az1V,List.set_cons_zero,List.set_cons_succ,sa,pr,lc,sl2,au,sq,nq,Az0O,ifO_ok,if_false,Bool.false_eq_true,reduceIte]
   refine ⟨z5,z6,z7,?_⟩
   rw [step]
   show forD _ _ _ _=_
   rw [ih,gl,if_pos hcL,hR,List.length_append,List.length_singleton,Int.add_assoc]
  ·rw [decide_eq_false hcL,Bool.not_false] at nq
   have step:Az1U [some (.d T),some (.d (bD B)),some (.d (pD cs)),some (.d (.lst ((tabs s B).map tD))),some (.d (.int acc)),some (.d (.int (pre.length:Int))),some (.d (.int c)),y7]
     = .bk [some (.d T),some (.d (bD B)),some (.d (pD cs)),some (.d (.lst ((tabs s B).map tD))),some (.d (.int (acc+bel (go s R) L c))),some (.d (.int (pre.length:Int))),some (.d (.int c)),some (.d (tD (L.map fun x=>(x,go s R x))))]:=by
    clear ea hcL hcl2 hc hcl hB hd hL hR pu hm es'
    generalize D.lst ((tabs s B).map tD)=Ws at*
    generalize tD (L.map fun x=>(x,go s R x))=Ht at*
    unfold Az1U
    simp only [sSeq,sSet,sIf,b1,b2,b3,b1Q,b2R,tR,asD,vComp,aCons,aNil,oNone,Az0P,Az0U,Az0R,Az1F,Res.bind_ok,Az0I,Az7F,sl,ce,ofR_ok,Az1V,List.set_cons_zero,List.set_cons_succ,sa,pr,lc,sl2,au,sq,nq,Az0O,ifO_ok,if_true,reduceIte]
   refine ⟨some (.d (.int (pre.length:Int))),some (.d (.int c)),some (.d (tD (L.map fun x=>(x,go s R x)))),?_⟩
   rw [step,if_neg hcL,Int.add_zero]
theorem Cz6F (T:D) (d s:Int) (h0:0≤d) (h1:d≤1000) (ed:callR 1 Az0D [T]= .ok (.int d)) (es:callR 1 Az0G [T]= .ok (.int s)) (B:List (List Int)) (hB:∀ q∈B,PU d q) (hl:B.length≤100) (cs:List Int) (hcl:cs.length=B.length):
  callR 3 Az4M [T,bD B,pD cs]= .ok (.int (ahP s B none cs)):=by
 have w:=Bz6I T d s h0 h1 ed es B hB (by omega)
 have he:enumR [pD cs]= .ok (enumD 0 (cs.map D.int)):=rfl
 obtain ⟨z5,z6,z7,lp⟩:=Bz1W T d s es B hB cs hcl cs [] 0 none none none rfl
 rw [Int.zero_add] at lp
 have lp':forD (unTup 2 (unCons (setI 5) (unCons (setI 6) unNil))) Az1U (enumD 0 (cs.map D.int)) [some (.d T),some (.d (bD B)),some (.d (pD cs)),some (.d (.lst ((tabs s B).map tD))),some (.d (.int 0)),none,none,none]
   = .nx [some (.d T),some (.d (bD B)),some (.d (pD cs)),some (.d (.lst ((tabs s B).map tD))),some (.d (.int (ahP s B none cs))),z5,z6,z7]:=lp
 clear lp hB hcl
 generalize D.lst ((tabs s B).map tD)=Ws at*
 refine Az0C _ _ _ _ ?_ rfl
 unfold Az4M Bz1T
 walk_at "ev*"
def NC (s:Int) (cs:List Int):Prop:=∀ i,i+1<cs.length→nr s (cs.getD i 0) (cs.getD (i+1) 0)=true
def opn (B:List (List Int)) (cs:List Int) (i:Nat):Bool:=decide (cs.getD i 0∈B.getD i [])
theorem val_of (s:Int):∀ (B:List (List Int)) (last:Option Int) (cs:List Int),cs.length=B.length→(∀ i,i<B.length→opn B cs i=true)→NC s cs→(∀ l,last=some l→∀ c r,cs=c::r→nr s l c=true)→val s B last cs
 | [],last,cs,hl,_,_,_=>List.length_eq_zero_iff.mp hl
 |p::B,last,[],hl,_,_,_=>by simp at hl
 |p::B,last,c::cs,hl,ho,hn,hla=>by
  have h0:c∈p:=by simpa [opn] using ho 0 (by simp)
  refine ⟨c,cs,rfl,?_,val_of s B (some c) cs (by simpa using hl) (fun i hi=> ?_) (fun i hi=> ?_) fun l e c' r e'=> ?_⟩
  ·cases last with
   |none=>exact h0
   |some l=>exact List.mem_filter.mpr ⟨h0,hla l rfl c cs rfl⟩
  ·have:=ho (i+1) (by simpa using hi)
   exact this
  ·exact hn (i+1) (by simpa using hi)
  ·cases e
   subst e'
   exact hn 0 (by simp)
theorem Bz6K (s:Int):∀ (B:List (List Int)) (last:Option Int) (cs:List Int),val s B last cs→cs.length=B.length∧(∀ i,i<B.length→opn B cs i=true)∧NC s cs∧(∀ l,last=some l→∀ c r,cs=c::r→nr s l c=true)
 | [],last,cs,h=>by
  rw [show cs= [] from h]
  exact ⟨rfl,fun i hi=>by simp at hi,fun i hi=>by simp at hi,fun l _ c r e=>by simp at e⟩
 |p::B,last,cs,h=>by
  obtain ⟨c,r,rfl,hc,hv⟩:=h
  obtain ⟨i1,i2,i3,i4⟩:=Bz6K s B (some c) r hv
  have hp:c∈p∧∀ l,last=some l→nr s l c=true:=by
   cases last with
   |none=>exact ⟨hc,fun l e=>by cases e⟩
   |some l=>
    obtain ⟨h1,h2⟩:=List.mem_filter.mp hc
    exact ⟨h1,fun l' e=>by cases e;exact h2⟩
  refine ⟨by simp [i1],fun i hi=> ?_,fun i hi=> ?_,fun l e c' r' e'=>by cases e';exact hp.2 l e⟩
  ·cases i with
   |zero=>simpa [opn] using hp.1
   |succ i=>exact i2 i (by simpa using hi)
  ·cases i with
   |zero=>
    cases r with
    |nil=>simp at hi
    |cons c' r'=>exact i4 c rfl c' r' rfl
   |succ i=>exact i3 i (by simpa using hi)
theorem pD_at (cs:List Int) (i:Nat) (h:i<cs.length):ixR (pD cs) (.int (i:Int))= .ok (.int (cs.getD i 0)):=by
 refine ixR_t _ _ _ (Az6R (by omega) ?_)
 rw [show ((i:Int)).toNat=i by omega,List.getElem?_map,List.getElem?_eq_getElem h,List.getD_eq_getElem?_getD,List.getElem?_eq_getElem h]
 rfl
def filp (q:List Int) (c:Int):List Int:=q.filter fun x=>decide (c≤x)
def fil (B:List (List Int)) (cs:List Int):List (List Int):=List.zipWith filp B cs
theorem Dz0H {d:Int} {q:List Int} (h:PU d q) (c:Int):PU d (filp q c):=
 ⟨h.up.filter _,fun x hx=>h.bd x (List.mem_filter.mp hx).1,Nat.le_trans (List.length_filter_le _ _) h.le⟩
theorem PU_fil {d:Int} {B:List (List Int)} (h:∀ q∈B,PU d q) (cs:List Int):∀ q∈fil B cs,PU d q:=by
 intro q hq
 unfold fil at hq
 obtain ⟨i,hi,rfl⟩:=List.mem_iff_getElem.mp hq
 rw [List.getElem_zipWith]
 exact Dz0H (h _ (List.getElem_mem _)) _
theorem Az8W {B:List (List Int)} {cs:List Int} (h:cs.length=B.length):(fil B cs).length=B.length:=by
 unfold fil;rw [List.length_zipWith,h];exact Nat.min_self _
theorem Bz4L (c:Int) (q:List Int) (P:D→Bool) (hP:∀ x:Int,P (.int x)=decide (c≤x)):(q.map D.int).filter P=(filp q c).map D.int:=by
 unfold filp
 rw [List.filter_map]
 congr 1
 exact List.filter_congr fun x _=>hP x
def geD (c:Int):D→Bool
 | .int x=>decide (c≤x)
 |_=>false
theorem Bz6D (f:D→D→D) (g:List Int→Int→D) (h:∀ q c,f (pD q) (.int c)=g q c):∀ (B:List (List Int)) (cs:List Int),List.zipWith f (B.map pD) (cs.map D.int)=List.zipWith g B cs
 | [],_=>by simp
 |_::_,[]=>by simp
 |q::B,c::cs=>by simp only [List.map_cons,List.zipWith_cons_cons,h,Bz6D f g h B cs]
def filD:D→D→D
 | .tup ds, .int c=> .tup (ds.filter (geD c))
 |_,_=> .non
theorem Cz2X (q:List Int) (c:Int):filD (pD q) (.int c)=pD (filp q c):=by
 show D.tup ((q.map D.int).filter (geD c))=_
 rw [Bz4L c q (geD c) fun x=>rfl];rfl
theorem fel_eq (q:List Int) (c:Int) (hq:q.length≤1000) (δ:DSt):Az1E (some (.d (pD q))::some (.d (.int c))::δ)= .ok (pD (filp q c)):=by
 have sq:seqR (pD q)= .ok (q.map D.int):=rfl
 have cc:compR 1 (setI 0) Az2Y Az4C (some (.d (pD q))::some (.d (.int c))::δ) (q.map D.int)= .ok ((filp q c).map D.int):=by
  refine Az0Z ?_ (by rw [List.length_map];omega)
  have:=Az7B (c:=Az2Y) (fe:=Az4C) (geD c) id (some (.d (pD q))::some (.d (.int c))::δ) (q.map D.int) none (fun x hx=>by
   obtain ⟨v,_,rfl⟩:=List.mem_map.mp hx
   refine ⟨?_,fun _=>rfl⟩
   unfold Az2Y
   simp only [tR,b2,Az0R,Az1F,Res.bind_ok,geR_ii,Az0O,geD])
  rw [List.map_id,Bz4L c q (geD c) fun x=>rfl] at this
  exact this
 have tt:tupofR (.lst ((filp q c).map D.int))= .ok (pD (filp q c)):=rfl
 unfold Az1E
 simp only [b1,asD,vComp,Az0P,Res.bind_ok,sq,cc,tt]
theorem Bz8T (T:D) (d s:Int) (h0:0≤d) (h1:d≤1000) (ed:callR 1 Az0D [T]= .ok (.int d)) (es:callR 1 Az0G [T]= .ok (.int s)) (B:List (List Int)) (hB:∀ q∈B,PU d q) (hl:B.length≤1000) (hn:1≤B.length) (cs:List Int) (hc:cs.length=B.length):
  callR 3 Az0W [T,bD B,pD cs]= .ok (.int (cnt s (fil B cs))):=by
 have hz:zipR [bD B,pD cs]= .ok (zipD (B.map pD) (cs.map D.int)):=rfl
 have ce:=Bz9A T d s h0 h1 ed es (fil B cs) (PU_fil hB cs) (by rw [Az8W hc];omega) (by rw [Az8W hc];omega)
 have cr:compR 2 (unTup 2 (unCons (setI 0) (unCons (setI 1) unNil))) (fun _=> .ok true) Az1E [some (.d T),some (.d (bD B)),some (.d (pD cs)),none] (zipD (B.map pD) (cs.map D.int))= .ok ((fil B cs).map pD):=by
  refine Az0Z ?_ ?_
  ·have:=Az8F (fe:=Az1E) filD [some (.d T),some (.d (bD B)),some (.d (pD cs)),none] (B.map pD) (cs.map D.int) none none (fun i a b ha hb=>by
    rw [List.getElem?_map] at ha hb
    obtain ⟨q,hq,rfl⟩:=Option.map_eq_some_iff.mp ha
    obtain ⟨c,_,rfl⟩:=Option.map_eq_some_iff.mp hb
    rw [Cz2X]
    exact fel_eq q c (by have:=(hB q (List.mem_of_getElem? hq)).le;omega) _)
   rw [Bz6D filD (fun q c=>pD (filp q c)) Cz2X] at this
   refine (show compD (unTup 2 (unCons (setI 0) (unCons (setI 1) unNil))) (fun _=> .ok true) Az1E _ _=_ from this).trans ?_
   unfold fil
   rw [List.map_zipWith]
  ·have:(zipD (B.map pD) (cs.map D.int)).length≤B.length:=by
    rw [Az6S,List.length_map];omega
   omega
 have tt:tupofR (.lst ((fil B cs).map pD))= .ok (bD (fil B cs)):=rfl
 clear hB hc
 refine Az0C _ _ _ _ ?_ rfl
 unfold Az0W Az7I
 walk_at "ev*"
theorem Cz7V {B:List (List Int)} {cs:List Int} (hl:cs.length=B.length) {i:Nat} (hi:i<B.length) (h:opn B cs i=true):opn (fil B cs) cs i=true:=by
 unfold opn at*
 rw [decide_eq_true_eq] at*
 have e:(fil B cs).getD i []=filp (B.getD i []) (cs.getD i 0):=by
  unfold fil
  rw [List.getD_eq_getElem?_getD,List.getD_eq_getElem?_getD,List.getD_eq_getElem?_getD,List.getElem?_zipWith,List.getElem?_eq_getElem hi,List.getElem?_eq_getElem (show i<cs.length by omega)]
  rfl
 rw [e]
 unfold filp
 exact List.mem_filter.mpr ⟨h,by simp⟩
theorem Dz0C (s:Int) (B:List (List Int)) (cs:List Int) (hu:∀ q∈B,Up q) (hn:1≤B.length) (hl:cs.length=B.length) (ho:∀ i,i<B.length→opn B cs i=true) (hc:NC s cs):1≤cnt s B:=by
 have v:=val_of s B none cs hl ho hc (fun l z=>by cases z)
 obtain ⟨a1,a2,_⟩:=ah_nth s B none cs hu v
 cases B with
 |nil=>simp at hn
 |cons q P=>
  rw [Bz1Z] at a2
  omega
theorem Bz6G {d:Int}:∀ (B:List (List Int)),(∀ q∈B,PU d q)→fil B (List.replicate B.length 0)=B
 | [],_=>rfl
 |q::B,h=>by
  have ih:=Bz6G B fun q hq=>h q (List.mem_cons_of_mem _ hq)
  unfold fil at ih ⊢
  rw [List.length_cons,List.replicate_succ,List.zipWith_cons_cons,ih]
  congr 1
  unfold filp
  refine List.filter_eq_self.mpr fun x hx=> ?_
  have:=(h q List.mem_cons_self).bd x hx
  simpa using this.1
def Cuts (d s:Int) (cs:List Int):Prop:=(∀ c∈cs,0≤c∧c<d)∧∀ (i:Nat) (a b:Int),cs[i]? =some a→cs[i+1]? =some b→a-b≤s∧b-a≤s
theorem Cuts.nil (d s:Int):Cuts d s []:=⟨fun c h=>absurd h (by simp),fun i a b h=>by simp at h⟩
theorem Cuts.snoc {d s c:Int} {cs:List Int} (h:Cuts d s cs) (h0:0≤c) (h1:c<d) (h2:∀ pre l,cs=pre++ [l]→l-c≤s∧c-l≤s):Cuts d s (cs++ [c]):=by
 refine ⟨fun x hx=> ?_,fun i a b ha hb=> ?_⟩
 ·rcases List.mem_append.mp hx with hx|hx
  ·exact h.1 x hx
  ·rw [List.mem_singleton.mp hx];exact ⟨h0,h1⟩
 ·by_cases hi:i+1<cs.length
  ·rw [List.getElem?_append_left (by omega)] at ha
   rw [List.getElem?_append_left hi] at hb
   exact h.2 i a b ha hb
  ·have hl:=(List.getElem?_eq_some_iff.mp hb).1
   simp only [List.length_append,List.length_cons,List.length_nil] at hl
   have hi':i+1=cs.length:=by omega
   have hne:cs≠ []:=by intro z;rw [z] at hi';simp at hi'
   have hb':b=c:=by
    rw [hi',List.getElem?_append_right (Nat.le_refl _)] at hb
    simpa using hb.symm
   have hc:cs=cs.dropLast++ [cs.getLast hne]:=(List.dropLast_concat_getLast hne).symm
   have ha':a=cs.getLast hne:=by
    rw [List.getElem?_append_left (by omega),show i=cs.length-1 by omega,←List.getLast?_eq_getElem?,List.getLast?_eq_some_getLast hne] at ha
    exact (Option.some.inj ha).symm
   rw [hb',ha']
   exact h2 _ _ hc
theorem Cz3T (i:Int):shal 39 (.int i)=true:=by simp [shal]
theorem Cz3S (cs:List Int):∀ d∈cs.map D.int,shal 39 d=true:=by
 intro d hd
 obtain ⟨i,_,rfl⟩:=List.mem_map.mp hd
 exact Cz3T i
theorem Bz1X (xs ys:List Int) (f:D→D→D) (g:Int→Int→D) (h:∀ i j,f (.int i) (.int j)=g i j):List.zipWith f (xs.map D.int) (ys.map D.int)=List.zipWith g xs ys:=by
 induction xs generalizing ys with
 |nil=>rfl
 |cons x xs ih=>
  cases ys with
  |nil=>rfl
  |cons y ys=>simp only [List.map_cons,List.zipWith_cons_cons,h,ih]
theorem zip_bl (xs ys:List Int) (g:Int→Int→Bool):List.zipWith (fun i j=>D.bl (g i j)) xs ys=(List.zipWith g xs ys).map fun b=>D.bl b:=by
 induction xs generalizing ys with
 |nil=>rfl
 |cons x xs ih=>
  cases ys with
  |nil=>rfl
  |cons y ys=>simp only [List.map_cons,List.zipWith_cons_cons,ih]
namespace C4
theorem whole_eq (d:D) (h:tyD d≠none):Az0Q [d]= .ok (.bl (isI d)):=by
 unfold Az0Q Az6P
 walk_at "ev"
 rw [Bz3A d h,Az9W d h]
 walk_at "ev"
 cases d<;>rfl
def Ok (d:D):Prop:=tyD d≠none∧∀ ds,d= .tup ds→∀ x∈ds,tyD x≠none
def isDep (n:Int):D→Bool
 | .int i=>decide (0≤i∧i<n)
 |_=>false
theorem depth_A (T x:D) (n:Int) (h:tyD x≠none) (e:callR 1 Az0D [T]= .ok (.int n)):Az1L [T,x]= .ok (.bl (isDep n x)):=by
 have e1:callR 1 Az0Q [x]= .ok (.bl (isI x)):=Az0C _ _ _ _ (whole_eq x h) rfl
 unfold Az1L Az8L
 cases x with
 |int i=>
  have e2:isI (.int i)=true:=rfl
  rw [e2] at e1
  walk_at "ev*"
  rfl
 |_=>
  simp only [isI] at e1
  walk_at "ev*"
  rfl
def valI:D→Int
 | .int i=>i
 |_=>0
def stepI (s:Int) (cs:List Int):Bool:=(List.zipWith (fun a b=>decide ((if b-a<0 then -(b-a) else b-a)≤s)) cs (cs.drop 1)).all id
def isC (p n s:Int):D→Bool
 | .tup ds=>decide ((ds.length:Int)=p)&&(ds.all (isDep n)&&stepI s (ds.map valI))
 |_=>false
theorem dep_ints {n:Int} {ds:List D} (h:ds.all (isDep n)=true):ds=(ds.map valI).map D.int:=by
 induction ds with
 |nil=>rfl
 |cons d ds ih=>
  rw [List.all_cons,Bool.and_eq_true] at h
  obtain ⟨h1,h2⟩:=h
  rw [List.map_cons,List.map_cons,←ih h2]
  cases d with
  |int i=>rfl
  |_=>cases h1
theorem isc_1 (T:D) (ds:List D) (p:Int) (ep:callR 1 Az0E [T]= .ok (.int p)) (hq:((ds.length:Int)==p)=false):Az0X [T, .tup ds]= .ok (.bl false):=by
 have ei:isiR "tuple" (.tup ds)= .ok (.bl true):=Az3B _ (by simp [ty_tup])
 unfold Az0X Az6Q
 walk_at "ev*"
theorem isc_2 (T:D) (ds bs:List D) (p:Int) (ep:callR 1 Az0E [T]= .ok (.int p)) (hq:((ds.length:Int)==p)=true) (hc:compR 1 (setI 0) (fun _=> .ok true) Az3U [some (.d T),some (.d (.tup ds))] ds= .ok bs) (ha:allR (.lst bs)= .ok (.bl false)):Az0X [T, .tup ds]= .ok (.bl false):=by
 have ei:isiR "tuple" (.tup ds)= .ok (.bl true):=Az3B _ (by simp [ty_tup])
 unfold Az0X Az6Q
 walk_at "ev*"
theorem isc_3 (T:D) (ds bs us ws:List D) (p:Int) (r:Bool) (ep:callR 1 Az0E [T]= .ok (.int p)) (hq:((ds.length:Int)==p)=true) (hc:compR 1 (setI 0) (fun _=> .ok true) Az3U [some (.d T),some (.d (.tup ds))] ds= .ok bs) (ha:allR (.lst bs)= .ok (.bl true))
  (hs:slW (.tup ds) (some 1) none= .ok (.tup us)) (hc2:compR 2 (unTup 2 (unCons (setI 0) (unCons (setI 1) unNil))) (fun _=> .ok true) Az4O [some (.d T),some (.d (.tup ds))] (zipD ds us)= .ok ws) (ha2:allR (.lst ws)= .ok (.bl r)):Az0X [T, .tup ds]= .ok (.bl r):=by
 have ei:isiR "tuple" (.tup ds)= .ok (.bl true):=Az3B _ (by simp [ty_tup])
 have hz:zipR [.tup ds, .tup us]= .ok (zipD ds us):=rfl
 unfold Az0X Az6Q
 walk_at "ev*"
theorem near_call (T:D) (s u v:Int) (es:callR 1 Az0G [T]= .ok (.int s)):callR 3 Az1A [T, .int u, .int v]= .ok (.bl (decide ((if v-u<0 then -(v-u) else v-u)≤s))):=by
 have e:(if u-v<0 then -(u-v) else u-v)=(if v-u<0 then -(v-u) else v-u):=by split<;>split<;>omega
 rw [←e]
 refine Az0C _ _ _ _ ?_ rfl
 unfold Az1A Az8N
 clear e
 walk_at "ev*"
theorem stp_A (T:D) (s u v:Int) (x:D) (es:callR 1 Az0G [T]= .ok (.int s)):Az4O [some (.d (.int u)),some (.d (.int v)),some (.d T),some (.d x)]= .ok (.bl (decide ((if v-u<0 then -(v-u) else v-u)≤s))):=by
 have nr:=near_call T s u v es
 unfold Az4O
 walk_at "ev*"
theorem dep_B (T x y:D) (n:Int) (h:tyD x≠none) (e:callR 1 Az0D [T]= .ok (.int n)):Az3U [some (.d x),some (.d T),some (.d y)]= .ok (.bl (isDep n x)):=by
 have e1:callR 2 Az1L [T,x]= .ok (.bl (isDep n x)):=Az0C _ _ _ _ (depth_A _ _ n h e) rfl
 unfold Az3U
 walk_at "ev*"
theorem Cz1E (p n h s:Int) (ds:List D) (hx:∀ x∈ds,tyD x≠none) (hp:1≤p) (hl:ds.length≤1000):Az0X [.tup [.int p, .int n, .int h, .int s], .tup ds]= .ok (.bl (isC p n s (.tup ds))):=by
 have ep:callR 1 Az0E [.tup [.int p, .int n, .int h, .int s]]= .ok (.int p):=rfl
 have en:callR 1 Az0D [.tup [.int p, .int n, .int h, .int s]]= .ok (.int n):=rfl
 have es:callR 1 Az0G [.tup [.int p, .int n, .int h, .int s]]= .ok (.int s):=rfl
 generalize hT:D.tup [.int p, .int n, .int h, .int s]=T at ep en es ⊢
 clear hT
 have hc:compR 1 (setI 0) (fun _=> .ok true) Az3U [some (.d T),some (.d (.tup ds))] ds= .ok (ds.map fun d=>D.bl (isDep n d)):=by
  refine Az0Z ?_ (by omega)
  exact Az3Y (fun d=>D.bl (isDep n d)) [some (.d T),some (.d (.tup ds))] _ none fun d hd=>dep_B T d _ n (hx d hd) en
 have ha:=Az5H (isDep n) ds
 show _=Res.ok (D.bl (decide ((ds.length:Int)=p)&&(ds.all (isDep n)&&stepI s (ds.map valI))))
 by_cases hlp:(ds.length:Int)=p
 ·have hb:((ds.length:Int)==p)=true:=by simpa using hlp
  rw [decide_eq_true hlp,Bool.true_and]
  cases hall:ds.all (isDep n) with
  |false=>
   rw [hall] at ha
   exact isc_2 T ds _ p ep hb hc ha
  |true=>
   rw [hall] at ha
   rw [Bool.true_and]
   have hds:=dep_ints hall
   generalize ds.map valI=cs at hds ⊢
   have hsl:=Bz6S ds 1 (by omega)
   refine isc_3 T ds _ (ds.drop 1) ((List.zipWith (fun a b=>decide ((if b-a<0 then -(b-a) else b-a)≤s)) cs (cs.drop 1)).map fun b=>D.bl b) p _ ep hb hc ha hsl ?_ (Az5H (fun b:Bool=>b) _)
   refine Az0Z ?_ (by rw [Az6S];omega)
   have:=Az8F (fe:=Az4O) (fun a b=>match a,b with| .int i, .int j=> .bl (decide ((if j-i<0 then -(j-i) else j-i)≤s))|_,_=> .non) [some (.d T),some (.d (.tup ds))] ds (ds.drop 1) none none (fun i a b ha' hb'=>by
    have ha2:a∈ds:=List.mem_of_getElem? ha'
    have hb2:b∈ds:=List.mem_of_mem_drop (List.mem_of_getElem? hb')
    rw [hds] at ha2 hb2
    obtain ⟨u,_,rfl⟩:=List.mem_map.mp ha2
    obtain ⟨v,_,rfl⟩:=List.mem_map.mp hb2
    exact stp_A T s u v _ es)
   refine this.trans ?_
   rw [hds,←List.map_drop,Bz1X cs (cs.drop 1) _ (fun i j=> .bl (decide ((if j-i<0 then -(j-i) else j-i)≤s))) fun _ _=>rfl,zip_bl]
 ·have hb:((ds.length:Int)==p)=false:=by simpa using hlp
  rw [decide_eq_false hlp,Bool.false_and]
  exact isc_1 T ds p ep hb
theorem isc_0 (T x:D) (h:tyD x≠none) (ht:isT x=false):Az0X [T,x]= .ok (.bl false):=by
 have ei:isiR "tuple" x= .ok (.bl false):=by rw [Az3B x h,ht]
 unfold Az0X Az6Q
 walk_at "ev*"
theorem Cz8T {p n s:Int} {x:D} (ht:isT x=false):isC p n s x=false:=by cases x<;>first|rfl|cases ht
theorem Bz1J (p n h s:Int) (x:D) (hx:Ok x) (hp:1≤p) (hl:∀ ds,x= .tup ds→ds.length≤1000):Az0X [.tup [.int p, .int n, .int h, .int s],x]= .ok (.bl (isC p n s x)):=by
 cases ht:isT x with
 |false=>rw [isc_0 _ x hx.1 ht,Cz8T ht]
 |true=>
  cases x with
  |tup ds=>exact Cz1E p n h s ds (hx.2 ds rfl) hp (hl ds rfl)
  |_=>cases ht
theorem Bz3M (s:Int) (cs:List Int):stepI s cs=true↔∀ i:Nat,i+1<cs.length→cs.getD (i+1) 0-cs.getD i 0≤s∧cs.getD i 0-cs.getD (i+1) 0≤s:=by
 unfold stepI
 induction cs with
 |nil=>simp
 |cons a cs ih=>
  cases cs with
  |nil=>simp
  |cons b r=>
   have e:(List.zipWith (fun a b=>decide ((if b-a<0 then -(b-a) else b-a)≤s)) (a::b::r) ((a::b::r).drop 1)).all id=(decide ((if b-a<0 then -(b-a) else b-a)≤s)&&(List.zipWith (fun a b=>decide ((if b-a<0 then -(b-a) else b-a)≤s)) (b::r) ((b::r).drop 1)).all id):=rfl
   rw [e,Bool.and_eq_true,decide_eq_true_eq,ih]
   constructor
   ·rintro ⟨h1,h2⟩ i hi
    cases i with
    |zero=>
     show b-a≤s∧a-b≤s
     split at h1<;>omega
    |succ i=>exact h2 i (by simpa using hi)
   ·intro h
    refine ⟨?_,fun i hi=>h (i+1) (by simpa using hi)⟩
    have:=h 0 (by simp)
    have e1:(a::b::r).getD (0+1) 0=b:=rfl
    have e2:(a::b::r).getD 0 0=a:=rfl
    rw [e1,e2] at this
    split<;>omega
end C4
open C4 (isC isDep stepI Bz3M valI Bz1J Ok)
def tupI (cs:List Int):D:= .tup (cs.map D.int)
def optI:Option (List Int)→D
 |none=> .non
 |some cs=>tupI cs
def deepI (d s:Int) (cs:List Int) (k:Nat):Bool:=decide (cs.getD k 0+1<d)&&(decide (k=0)||decide (cs.getD k 0+1≤cs.getD (k-1) 0+s))
def lastI (d s:Int) (cs:List Int):Nat→Option Nat
 |0=>none
 |n+1=>if deepI d s cs n=true then some n else lastI d s cs n
def fillI (s:Int):Nat→Int→List Int
 |0,_=> []
 |n+1,l=>max 0 (l-s)::fillI s n (max 0 (l-s))
def goneI (s:Int) (cs:List Int) (k:Nat):List Int:=cs.take k++ [cs.getD k 0+1]++fillI s (cs.length-(k+1)) (cs.getD k 0+1)
def nextI (d s:Int) (cs:List Int):Option (List Int):=(lastI d s cs cs.length).map (goneI s cs)
theorem ix_at (xs:List Int) (j:Int) (h0:0≤j) (h:j<xs.length):ixR (.tup (xs.map D.int)) (.int j)= .ok (.int (xs.getD j.toNat 0)):=by
 have hj:j.toNat<xs.length:=by omega
 refine ixR_t _ _ _ (Az6R h0 ?_)
 rw [List.getElem?_map,List.getElem?_eq_getElem hj,List.getD_eq_getElem?_getD,List.getElem?_eq_getElem hj]
 rfl
theorem can_A (T X:D) (k n c:Int) (e1:ixR X (.int k)= .ok (.int c)) (e2:callR 1 Az0D [T]= .ok (.int n)) (h:decide (n≤c+1)=true):Az0N [T,X, .int k]= .ok (.bl false):=by
 unfold Az0N Az4X
 walk_at "ev*"
theorem can_B (T X:D) (k n c:Int) (e1:ixR X (.int k)= .ok (.int c)) (e2:callR 1 Az0D [T]= .ok (.int n)) (h:decide (n≤c+1)=false) (hk:(k==0)=true):Az0N [T,X, .int k]= .ok (.bl true):=by
 unfold Az0N Az4X
 walk_at "ev*"
theorem can_C (T X:D) (k n c b s:Int) (e1:ixR X (.int k)= .ok (.int c)) (e2:callR 1 Az0D [T]= .ok (.int n)) (h:decide (n≤c+1)=false) (hk:(k==0)=false) (e3:ixR X (.int (k-1))= .ok (.int b)) (e4:callR 1 Az0G [T]= .ok (.int s)):Az0N [T,X, .int k]= .ok (.bl (decide (c+1-b≤s))):=by
 unfold Az0N Az4X
 walk_at "ev*"
theorem can_eq (T:D) (d s:Int) (cs:List Int) (k:Nat) (hk:k<cs.length) (e2:callR 1 Az0D [T]= .ok (.int d)) (e4:callR 1 Az0G [T]= .ok (.int s)):callR 3 Az0N [T,tupI cs, .int k]= .ok (.bl (deepI d s cs k)):=by
 refine Az0C _ _ _ _ ?_ rfl
 have e1:=ix_at cs k (by omega) (by omega)
 rw [show ((k:Nat):Int).toNat=k by omega] at e1
 unfold deepI tupI
 by_cases h:d≤cs.getD k 0+1
 ·rw [can_A T _ k d _ e1 e2 (decide_eq_true h),decide_eq_false (show ¬ cs.getD k 0+1<d by omega)];rfl
 ·rw [decide_eq_true (show cs.getD k 0+1<d by omega),Bool.true_and]
  by_cases h0:k=0
  ·subst h0
   exact can_B T _ _ d _ e1 e2 (decide_eq_false h) rfl
  ·have e3:=ix_at cs (k-1) (by omega) (by omega)
   rw [show ((k:Int)-1).toNat=k-1 by omega] at e3
   rw [can_C T _ k d _ _ s e1 e2 (decide_eq_false h) (by simp;exact h0) e3 e4,decide_eq_false h0,Bool.false_or]
   congr 2
   rw [decide_eq_decide]
   omega
theorem Cz8M (T X:D) (full:List D) (l s:Int) (e1:ixR (.lst full) (.int (-1))= .ok (.int l)) (e2:callR 1 Az0G [T]= .ok (.int s)) (hl:full.length≤100000):Az2G [some (.d T),some (.d X),some (.o full)]= .nx [some (.d T),some (.d X),some (.o (full++ [.int (max 0 (l-s))]))]:=by
 have ap:=fun x=>Cz3F 2 [some (.d T),some (.d X),some (.o full)] full x rfl hl
 clear hl
 unfold Az2G
 walk_at "ev*"
theorem Cz2Q (T X:D) (full:List D) (p:Int) (e2:callR 1 Az0E [T]= .ok (.int p)):Az2H [some (.d T),some (.d X),some (.o full)]= .ok (decide ((full.length:Int)<p)):=by
 unfold Az2H
 walk_at "ev*"
theorem Bz8D (T X:D) (p s:Int) (ep:callR 1 Az0E [T]= .ok (.int p)) (es:callR 1 Az0G [T]= .ok (.int s)) (hp:p≤1000) (n:Nat):∀ (j:Nat) (pre:List Int) (l:Int),((pre.length+1+n:Nat):Int)=p→
  whileD Az2H Az2G (n+1+j) [some (.d T),some (.d X),some (.o ((pre++ [l]).map D.int))]= .nx [some (.d T),some (.d X),some (.o ((pre++ [l]++fillI s n l).map D.int))]:=by
 induction n with
 |zero=>
  intro j pre l h
  rw [show 0+1+j=j+1 by omega,Az5I j (by rw [Cz2Q T X _ p ep,decide_eq_false (by simp;omega)])]
  rw [fillI,List.append_nil]
 |succ n ih=>
  intro j pre l h
  rw [show n+1+1+j=(n+1+j)+1 by omega]
  rw [Az6T (n+1+j) (by rw [Cz2Q T X _ p ep,decide_eq_true (by simp;omega)]) (Cz8M T X _ l s (ixR_l _ _ _ (by rw [List.map_append];exact Bz9L _ _)) es (by simp;omega))]
  have:=ih j (pre++ [l]) (max 0 (l-s)) (by simp;omega)
  rw [fillI]
  simp only [List.map_append,List.map_cons,List.map_nil,List.append_assoc,List.cons_append,List.nil_append] at this ⊢
  exact this
theorem Cz8N (T X:D) (ds es:List D) (hs:seqR X= .ok ds) (hw:whileD Az2H Az2G 100000 [some (.d T),some (.d X),some (.o ds)]= .nx [some (.d T),some (.d X),some (.o es)]):Az1J [T,X]= .ok (.tup es):=by
 unfold Az1J Az8K
 walk_at "ev*"
theorem Cz4U (T:D) (p s:Int) (ep:callR 1 Az0E [T]= .ok (.int p)) (es:callR 1 Az0G [T]= .ok (.int s)) (hp:p≤1000) (pre:List Int) (l:Int) (n:Nat) (h:((pre.length+1+n:Nat):Int)=p):callR 2 Az1J [T,tupI (pre++ [l])]= .ok (tupI (pre++ [l]++fillI s n l)):=by
 refine Az0C _ _ _ _ (Cz8N T _ _ _ rfl ?_) rfl
 have:=Bz8D T (tupI (pre++ [l])) p s ep es hp n (99999-n) pre l h
 rw [show n+1+(99999-n)=100000 by omega] at this
 exact this
theorem next_t (T X r st:D) (k c:Int) (pre:List D) (e:callR 3 Az0N [T,X, .int k]= .ok (.bl true)) (e1:slW X none (some k)= .ok (.tup pre)) (e2:ixR X (.int k)= .ok (.int c)) (ha:addD (.tup pre) (.tup [.int (c+1)])= .ok st) (el:callR 2 Az1J [T,st]= .ok r):Az1N [some (.d T),some (.d X),some (.d (.int k))]= .rt r:=by
 unfold Az1N
 walk_at "ev*"
theorem next_f (T X:D) (k:D) (e:callR 3 Az0N [T,X,k]= .ok (.bl false)):Az1N [some (.d T),some (.d X),some (.d k)]= .nx [some (.d T),some (.d X),some (.d k)]:=by
 unfold Az1N
 walk_at "ev*"
theorem Cz1L (n:Nat):dwnD ((n+1:Nat)-1:Int) (n+1)= .int n::dwnD ((n:Int)-1) n:=by
 unfold dwnD
 rw [List.range_succ_eq_map,List.map_cons,List.map_map]
 congr 1
 ·congr 1;omega
 ·refine List.map_congr_left fun i _=> ?_
  show D.int _=D.int _
  congr 1
  have:((Nat.succ i:Nat):Int)=(i:Int)+1:=by simp
  omega
theorem Cz0T (T:D) (p d s:Int) (cs:List Int) (hl:(cs.length:Int)=p) (hp:p≤900) (ep:callR 1 Az0E [T]= .ok (.int p)) (ed:callR 1 Az0D [T]= .ok (.int d)) (es:callR 1 Az0G [T]= .ok (.int s)) (n:Nat) (hn:n≤cs.length):∀ y:Option S,
  forD (setI 2) Az1N (dwnD ((n:Int)-1) n) [some (.d T),some (.d (tupI cs)),y]=match lastI d s cs n with
   |none=> .nx [some (.d T),some (.d (tupI cs)),if n=0 then y else some (.d (.int 0))]
   |some k=> .rt (tupI (goneI s cs k)):=by
 induction n with
 |zero=>intro y;rfl
 |succ n ih=>
  intro y
  rw [Cz1L,Az5U (.int n) _ _ [some (.d T),some (.d (tupI cs)),some (.d (.int n))] rfl]
  have ec:=can_eq T d s cs n (by omega) ed es
  unfold lastI
  cases hd:deepI d s cs n with
  |false=>
   rw [hd] at ec
   rw [next_f T _ _ ec]
   dsimp only
   rw [ih (by omega) (some (.d (.int n)))]
   rw [if_neg Bool.false_ne_true]
   cases n with
   |zero=>rfl
   |succ m=>simp
  |true=>
   rw [hd] at ec
   have e1:=slW_to (cs.map D.int) n
   have e2:=ix_at cs n (by omega) (by omega)
   rw [show ((n:Nat):Int).toNat=n by omega] at e2
   have el:=Cz4U T p s ep es (by omega) (cs.take n) (cs.getD n 0+1) (cs.length-(n+1)) (by simp;omega)
   have ha:addD (.tup ((cs.map D.int).take n)) (.tup [.int (cs.getD n 0+1)])= .ok (tupI (cs.take n++ [cs.getD n 0+1])):=by
    rw [Az4T _ _ (by simp;omega)]
    unfold tupI
    rw [List.map_append,List.map_take];rfl
   rw [next_t T _ _ _ n _ _ ec e1 e2 ha el]
   rw [if_pos rfl];rfl
theorem next_A (T X:D) (n:Nat) (rs:List D) (r:Out) (e1:lenR X= .ok (.int n)) (e2:rng3R [.int (n-1), .int (-1), .int (-1)]= .ok rs) (e3:forD (setI 2) Az1N rs [some (.d T),some (.d X),none]=r):Az1R [T,X]=finO (seqO r (fun _=> .rt .non)):=by
 unfold Az1R Az9B
 walk_at "ev*"
 rfl
theorem Cz2N (T:D) (p d s:Int) (cs:List Int) (hl:(cs.length:Int)=p) (hp:p≤900) (ep:callR 1 Az0E [T]= .ok (.int p)) (ed:callR 1 Az0D [T]= .ok (.int d)) (es:callR 1 Az0G [T]= .ok (.int s)):callR 2 Az1R [T,tupI cs]= .ok (optI (nextI d s cs)):=by
 have hr:rng3R [.int ((cs.length:Int)-1), .int (-1), .int (-1)]= .ok (dwnD ((cs.length:Int)-1) cs.length):=by
  unfold rng3R
  simp only
  rw [if_pos ⟨trivial,⟨by omega,by omega⟩,by omega,by omega⟩,show ((cs.length:Int)-1- -1).toNat=cs.length by omega]
 refine Az0C _ _ _ _ ((next_A T (tupI cs) cs.length _ _ (by rw [tupI,lenR_t,List.length_map]) hr (Cz0T T p d s cs hl hp ep ed es cs.length (Nat.le_refl _) none)).trans ?_) rfl
 unfold nextI
 cases lastI d s cs cs.length with
 |none=>rfl
 |some k=>rfl
def canF (xs ys:List Int):Bool:=(List.zipWith (fun a b=>decide (a≤b)) xs ys).all id
theorem Bz5X (xs ys:List Int) (hx:xs.length≤1000):Az3X [.tup (xs.map D.int), .tup (ys.map D.int)]= .ok (.bl (canF xs ys)):=by
 have hz:zipR [.tup (xs.map D.int), .tup (ys.map D.int)]= .ok (zipD (xs.map D.int) (ys.map D.int)):=rfl
 have hc:compR 2 un2 (fun _=> .ok true) Az4U [some (.d (.tup (xs.map D.int))),some (.d (.tup (ys.map D.int)))] (zipD (xs.map D.int) (ys.map D.int))= .ok ((List.zipWith (fun a b=>decide (a≤b)) xs ys).map fun b=>D.bl b):=by
  refine Az0Z (c:=fun _=> .ok true) (fe:=Az4U) ?_ (by rw [Az6S,List.length_map];omega)
  have:=Az8F (fe:=Az4U) (fun a b=>match a,b with| .int i, .int j=> .bl (decide (i≤j))|_,_=> .non) [some (.d (.tup (xs.map D.int))),some (.d (.tup (ys.map D.int)))] (xs.map D.int) (ys.map D.int) none none (fun i a b ha hb=>by
   rw [List.getElem?_map] at ha hb
   obtain ⟨u,_,rfl⟩:=Option.map_eq_some_iff.mp ha
   obtain ⟨v,_,rfl⟩:=Option.map_eq_some_iff.mp hb
   rfl)
  rw [Bz1X xs ys _ (fun i j=> .bl (decide (i≤j))) fun _ _=>rfl,zip_bl] at this
  exact this
 have ha:=Az5H (fun b:Bool=>b) (List.zipWith (fun a b=>decide (a≤b)) xs ys)
 unfold Az3X Bz1S
 simp only [un2] at hc
 walk_at "ev*"
 rfl
theorem Cz6A (xs ys:List Int) (h:xs.length=ys.length):canF xs ys=true↔∀ i,i<xs.length→xs.getD i 0≤ys.getD i 0:=by
 induction xs generalizing ys with
 |nil=>simp [canF]
 |cons x xs ih=>
  cases ys with
  |nil=>simp at h
  |cons y ys=>
   have ih:=ih ys (by simpa using h)
   have e:canF (x::xs) (y::ys)=(decide (x≤y)&&canF xs ys):=rfl
   rw [e,Bool.and_eq_true,decide_eq_true_eq,ih]
   constructor
   ·rintro ⟨h1,h2⟩ i hi
    cases i with
    |zero=>exact h1
    |succ i=>exact h2 i (by simpa using hi)
   ·intro h
    refine ⟨h 0 (by simp),fun i hi=> ?_⟩
    have:=h (i+1) (by simpa using hi)
    simpa using this
def jn (c:Nat):List (List Nat)→List Nat
 | []=> []
 | [x]=>x
 |x::y::r=>x++c::jn c (y::r)
theorem Bz8Z {c:Nat}:∀ {x y a b:List Nat},c∉x→c∉y→x++c::a=y++c::b→x=y∧a=b
 | [],[],_,_,_,_,e=>by
  simp only [List.nil_append,List.cons.injEq,true_and] at e
  exact ⟨rfl,e⟩
 | [],z::y,_,_,_,hy,e=>by
  simp only [List.nil_append,List.cons_append,List.cons.injEq] at e
  exact absurd (by rw [e.1];exact List.mem_cons_self) hy
 |z::x,[],_,_,hx,_,e=>by
  simp only [List.nil_append,List.cons_append,List.cons.injEq] at e
  exact absurd (by rw [e.1];exact List.mem_cons_self) hx
 |z::x,w::y,a,b,hx,hy,e=>by
  simp only [List.cons_append,List.cons.injEq] at e
  obtain ⟨h1,h2⟩:=Bz8Z (fun h=>hx (List.mem_cons_of_mem _ h)) (fun h=>hy (List.mem_cons_of_mem _ h)) e.2
  exact ⟨by rw [e.1,h1],h2⟩
theorem Cz2S {c:Nat}:∀ {xs ys:List (List Nat)},xs≠ []→ys≠ []→(∀ x∈xs,c∉x)→(∀ y∈ys,c∉y)→jn c xs=jn c ys→xs=ys
 | [],_,h,_,_,_,_=>absurd rfl h
 |_::_,[],_,h,_,_,_=>absurd rfl h
 | [x],[y],_,_,_,_,e=>by rw [show x=y from e]
 | [x],y::z::r,_,_,hx,_,e=>by
  have e':x=y++c::jn c (z::r):=e
  exact absurd (by rw [e'];simp) (hx x List.mem_cons_self)
 |x::w::r,[y],_,_,_,hy,e=>by
  have e':x++c::jn c (w::r)=y:=e
  exact absurd (by rw [←e'];simp) (hy y List.mem_cons_self)
 |x::w::r,y::z::t,_,_,hx,hy,e=>by
  have e':x++c::jn c (w::r)=y++c::jn c (z::t):=e
  obtain ⟨h1,h2⟩:=Bz8Z (hx x List.mem_cons_self) (hy y List.mem_cons_self) e'
  rw [h1,Cz2S (by simp) (by simp) (fun a ha=>hx a (List.mem_cons_of_mem _ ha)) (fun a ha=>hy a (List.mem_cons_of_mem _ ha)) h2]
theorem Bz2Y (c:Nat):∀ xs:List Str,(Str.join ⟨#[c]⟩ xs).cps.toList=jn c (xs.map fun x=>x.cps.toList)
 | []=>rfl
 | [x]=>rfl
 |x::y::r=>by
  show ((x++(⟨#[c]⟩:Str))++Str.join ⟨#[c]⟩ (y::r)).cps.toList=x.cps.toList++c::jn c ((y::r).map fun x=>x.cps.toList)
  rw [←Bz2Y c (y::r),Str.cps_append,Str.cps_append]
  simp
theorem Bz0M (c:Nat) (xs:List Str) (hn:xs≠ []) (hf:∀ x∈xs,c∉x.cps.toList):PySem.Txt.split (PySem.Txt.join ⟨#[c]⟩ xs) ⟨#[c]⟩=xs:=by
 have ej:PySem.Txt.join ⟨#[c]⟩ xs=Str.join ⟨#[c]⟩ xs:=StrLaws.glued_eq_join _ _
 rw [ej]
 have h1:=StrLaws.join_split (Str.join ⟨#[c]⟩ xs) ⟨#[c]⟩
 have h2:=StrLaws.split_free (Str.join ⟨#[c]⟩ xs) c
 have h3:=split_pos (Str.join ⟨#[c]⟩ xs) ⟨#[c]⟩
 generalize PySem.Txt.split (Str.join ⟨#[c]⟩ xs) ⟨#[c]⟩=ys at h1 h2 h3 ⊢
 have h4:=congrArg (fun x:Str=>x.cps.toList) h1
 simp only [Bz2Y] at h4
 have h5:=Cz2S (c:=c) (by intro z;rw [List.map_eq_nil_iff.mp z] at h3;simp at h3) (by intro z;exact hn (List.map_eq_nil_iff.mp z)) (fun x hx=>by
  obtain ⟨y,hy,rfl⟩:=List.mem_map.mp hx
  exact h2 y hy) (fun x hx=>by
  obtain ⟨y,hy,rfl⟩:=List.mem_map.mp hx
  exact hf y hy) h4
 have inj:∀ {as bs:List Str},as.map (fun x:Str=>x.cps.toList)=bs.map (fun x:Str=>x.cps.toList)→as=bs:=by
  intro as
  induction as with
  |nil=>intro bs e;cases bs with|nil=>rfl|cons b bs=>cases e
  |cons a as ih=>
   intro bs e
   cases bs with
   |nil=>cases e
   |cons b bs=>
    simp only [List.map_cons,List.cons.injEq] at e
    rw [ih e.2]
    congr 1
    exact Str.ext' (Array.toList_inj.mp e.1)
 exact inj h5
theorem Bz3N (z:Str) (c:Nat) (hz:z.length≤900):splitR z [.str ⟨#[c]⟩]= .ok ((PySem.Txt.split z ⟨#[c]⟩).map D.str):=by
 unfold splitR
 refine if_pos ⟨rfl,by omega,?_⟩
 rw [len_partsBetween]
 have:=StrLaws.occ_length_le z ⟨#[c]⟩ 0 z.length (z.length+1)
 omega
theorem Bz0J:∀ xs:List Str,strsOf (xs.map D.str)=some xs
 | []=>rfl
 |x::xs=>by show (strsOf (xs.map D.str)).map (x:: ·)=_;rw [Bz0J xs];rfl
theorem Bz2Z (c:Nat) (xs:List Str) (h:(xs.map (·.length)).sum+xs.length≤900):joinR ⟨#[c]⟩ [.lst (xs.map D.str)]= .ok (.str (PySem.Txt.join ⟨#[c]⟩ xs)):=by
 unfold joinR
 dsimp only
 rw [Bz0J]
 dsimp only
 refine if_pos ?_
 unfold JoinOk Builtin.Str.tooLong
 rw [StrLaws.joinTotal]
 have:sizeLine=16777216:=sizeLine_eq
 have e:(⟨#[c]⟩:Str).length=1:=rfl
 rw [e]
 simp
 omega
theorem Az9U (c:Nat) (xs:List Str):(PySem.Txt.join ⟨#[c]⟩ xs).length≤(xs.map (·.length)).sum+xs.length:=by
 rw [show PySem.Txt.join ⟨#[c]⟩ xs=Str.join ⟨#[c]⟩ xs from StrLaws.glued_eq_join _ _]
 have:=StrLaws.join_length_le ⟨#[c]⟩ xs
 have e:(⟨#[c]⟩:Str).length=1:=rfl
 rw [e] at this
 omega
abbrev FIG:Str:="0123456789"
def figB:D→Bool
 | .str c=>subS c FIG
 |_=>false
theorem lenR_s (x:Str) (h:x.length≤1000):lenR (.str x)= .ok (.int x.length):=if_pos (Nat.le_trans h k1000)
theorem Cz0C {x:Str} {d:D} (h:d∈signL x):∃ c,d= .str c:=by
 unfold signL at h
 obtain ⟨c,_,rfl⟩:=List.mem_map.mp h
 exact ⟨_,rfl⟩
theorem Cz8W (x:Str) (h:x.length≤1000):callR 2 Az4L [.str x, .str FIG]= .ok (.bl ((signL x).all figB)):=by
 have e0:signR (.str x)= .ok (signL x):=rfl
 have e1:compR 1 (setI 0) (fun _=> .ok true) Az8E [some (.d (.str x)),some (.d (.str FIG))] (signL x)= .ok ((signL x).map fun d=>D.bl (figB d)):=by
  refine Az0Z ?_ (by unfold signL;rw [List.length_map,Array.length_toList];exact Nat.le_trans h (by decide))
  refine Az3Y (fun d=>D.bl (figB d)) _ _ none fun d hd=> ?_
  obtain ⟨c,rfl⟩:=Cz0C hd
  rfl
 have e2:=Az5H figB (signL x)
 refine Az0C _ _ _ _ ?_ rfl
 unfold Az4L Bz1Q
 walk_at "ev*"
def wrB (x:Str):Bool:=decide (1≤x.length∧x.length≤3)&&((signL x).all figB&&(x=="0"|| !(x.cps.toList.head? ==some 48)))
theorem eqS (a b:Str):eqR (.str a) (.str b)= .ok (.bl (decide (a=b))):=by
 unfold eqR
 rw [if_pos (by simp [shal])]
 simp only [eqD]
 congr 2
theorem neS (a b:Str):neR (.str a) (.str b)= .ok (.bl (!decide (a=b))):=by
 unfold neR
 rw [if_pos (by simp [shal])]
 simp only [eqD]
 congr 3
theorem Bz6H (x:Str) (h:x.length≤1000):callR 2 Az1K [.str x, .int 3]= .ok (.bl (wrB x)):=by
 have ln:=lenR_s x h
 have hf:=Cz8W x h
 by_cases hl:1≤x.length∧x.length≤3
 ·have dt:decide (1≤(x.length:Int)∧(x.length:Int)≤3)=true:=decide_eq_true (by omega)
  cases hb:(signL x).all figB with
  |false=>
   rw [hb] at hf
   have hw:wrB x=false:=by unfold wrB;rw [hb];simp
   rw [hw]
   refine Az0C _ _ _ _ ?_ rfl
   clear hb hw hl
   generalize (x.length:Int)=n at*
   unfold Az1K Az4W
   walk_at "ev*"
  |true=>
   rw [hb] at hf
   obtain ⟨c,cs,hc⟩:∃ c cs,x.cps.toList=c::cs:=by
    cases hx:x.cps.toList with
    |nil=>
     have:x.length=0:=by show x.cps.size=0;rw [←Array.length_toList,hx];rfl
     omega
    |cons c cs=>exact ⟨c,cs,rfl⟩
   have ix:ixR (.str x) (.int 0)= .ok (.str ⟨#[c]⟩):=by
    show (@ite (Res D) _ (Classical.propDecidable _) (match atI x.cps.toList 0 with|some c=>Res.ok (D.str ⟨#[c]⟩)|none=> .stuck) .stuck)=_
    rw [if_pos (Nat.le_trans h k1000),hc,show atI (c::cs) 0=some c from Az6R (by omega) rfl]
   have e1:=eqS x "0"
   have e2:=neS ⟨#[c]⟩ "0"
   have ec:decide ((⟨#[c]⟩:Str)="0")=(c==48):=by
    have:(⟨#[c]⟩:Str)="0"↔c=48:=by
     constructor
     ·intro z
      have z':=congrArg (fun s:Str=>s.cps.toList) z
      have z2: [c]= [48]:=z'
      simpa using z2
     ·intro z;subst z;rfl
    rw [Bool.eq_iff_iff]
    simp [this]
   rw [ec] at e2
   have hw:wrB x=(decide (x="0")|| !(c==48)):=by
    unfold wrB
    rw [hb,decide_eq_true hl,hc]
    simp [Bool.beq_eq_decide_eq]
   rw [hw]
   refine Az0C _ _ _ _ ?_ rfl
   clear hb hw hl hc ec
   generalize (x.length:Int)=n at*
   generalize decide (x="0")=b at*
   unfold Az1K Az4W
   cases b<;>(walk_at "ev*";rfl)
 ·have dt:decide (1≤(x.length:Int)∧(x.length:Int)≤3)=false:=decide_eq_false (by omega)
  have hw:wrB x=false:=by unfold wrB;rw [decide_eq_false hl];rfl
  rw [hw]
  refine Az0C _ _ _ _ ?_ rfl
  clear hw hl
  generalize (x.length:Int)=n at*
  unfold Az1K Az4W
  walk_at "ev*"
theorem Cz8G (m:Nat) (w:Str) (hw:w.length≤900) (f:Str→Int) (hx:∀ x∈PySem.Txt.split w ⟨#[m]⟩,wrB x=true∧PySem.intText? x=some (f x)):
  callR 2 Az0M [.str w, .str ⟨#[m]⟩]= .ok (.tup ((PySem.Txt.split w ⟨#[m]⟩).map fun x=>D.int (f x))):=by
 have is:isiR "str" (.str w)= .ok (.bl true):=Bz8H _ (by simp [ty_str])
 have sp:splitR w [.str ⟨#[m]⟩]= .ok ((PySem.Txt.split w ⟨#[m]⟩).map D.str):=Bz3N w m hw
 have hs:∀ x∈PySem.Txt.split w ⟨#[m]⟩,x.length≤900:=fun x hx=>Nat.le_trans (part_short hx) hw
 have hn:(PySem.Txt.split w ⟨#[m]⟩).length≤902:=Nat.le_trans (split_le _ _) (by omega)
 generalize PySem.Txt.split w ⟨#[m]⟩=xs at*
 have sq:seqR (.lst (xs.map D.str))= .ok (xs.map D.str):=rfl
 have c1:compR 1 (setI 0) (fun _=> .ok true) Az3I [some (.d (.str w)),some (.d (.str ⟨#[m]⟩)),some (.d (.lst (xs.map D.str)))] (xs.map D.str)= .ok ((xs.map fun _=>true).map D.bl):=by
  refine Az0Z ?_ (by rw [List.length_map];omega)
  have:=Az3Y (fe:=Az3I) (fun _=>D.bl true) [some (.d (.str w)),some (.d (.str ⟨#[m]⟩)),some (.d (.lst (xs.map D.str)))] (xs.map D.str) none (fun d hd=>by
   obtain ⟨x,hx',rfl⟩:=List.mem_map.mp hd
   have e:=Bz6H x (by have:=hs x hx';omega)
   rw [(hx x hx').1] at e
   unfold Az3I
   simp only [b1,aCons,aNil,kD,Az0P,Az0I,Res.bind_ok,e])
  rw [List.map_map] at this ⊢
  exact this
 have al:allR (.lst ((xs.map fun _=>true).map D.bl))= .ok (.bl true):=by
  have:=Az5H (fun _=>true) xs
  rw [List.map_map]
  have e:xs.all (fun _=>true)=true:=by simp
  rw [e] at this
  exact this
 have c2:compR 1 (setI 0) (fun _=> .ok true) Az3H [some (.d (.str w)),some (.d (.str ⟨#[m]⟩)),some (.d (.lst (xs.map D.str)))] (xs.map D.str)= .ok (xs.map fun x=>D.int (f x)):=by
  refine Az0Z ?_ (by rw [List.length_map];omega)
  have:=Az3Y (fe:=Az3H) (fun d=>match d with| .str x=> .int (f x)|_=> .non) [some (.d (.str w)),some (.d (.str ⟨#[m]⟩)),some (.d (.lst (xs.map D.str)))] (xs.map D.str) none (fun d hd=>by
   obtain ⟨x,hx',rfl⟩:=List.mem_map.mp hd
   have e:intS (.str x)= .ok (.int (f x)):=by
    unfold intS
    dsimp only
    rw [(hx x hx').2]
    dsimp only
    have hwr:=(hx x hx').1
    unfold wrB at hwr
    simp only [Bool.and_eq_true,decide_eq_true_eq] at hwr
    rw [if_pos (by omega)]
   unfold Az3H
   simp only [b1,Az0R,Res.bind_ok,e])
  rw [List.map_map] at this
  exact this
 have tt:tupofR (.lst (xs.map fun x=>D.int (f x)))= .ok (.tup (xs.map fun x=>D.int (f x))):=rfl
 clear hx hs
 generalize xs.map (fun x=>D.int (f x))=ns at*
 generalize (xs.map fun _=>true).map D.bl=bs at*
 generalize xs.map D.str=ss at*
 refine Az0C _ _ _ _ ?_ rfl
 unfold Az0M Az8J
 simp only [Az2D,startD,List.map_cons,List.map_nil,List.length_cons,List.length_nil,List.cons_append,List.nil_append,Nat.reduceAdd,Nat.reduceSub,List.replicate,sSeq,sIf,sSet,sRet,tNot1,tR,b1,bM,asD,vComp,aCons,aNil,kD,Az0R,Az0P,Az0U,Az0I,Res.bind_ok,is,Az0O,ifO_ok,Bool.not_true,Bool.false_eq_true,if_false,reduceIte,Az1V,sp,ofR_ok,List.set_cons_zero,List.set_cons_succ,sq,c1,al,c2,tt,Az2C]
theorem dig (c:Int) (h0:0≤c) (h1:c<20):wrB (toString c:Str)=true∧PySem.intText? (toString c:Str)=some c∧(∀ m∈([32,44,45]:List Nat),m∉(toString c:Str).cps.toList)∧(toString c:Str).length≤2∧strR (.int c)= .ok (.str (toString c)):=by
 obtain ⟨n,rfl⟩:∃ n:Nat,c=n:=⟨c.toNat,by omega⟩
 have hn:n<20:=by omega
 have h:∀ n:Nat,n<20→wrB (toString (n:Int):Str)=true∧PySem.intText? (toString (n:Int):Str)=some (n:Int)∧(∀ m∈([32,44,45]:List Nat),m∉(toString (n:Int):Str).cps.toList)∧(toString (n:Int):Str).length≤2∧(n:Int).natAbs.log2<1920:=by decide +kernel
 obtain ⟨a,b,c,d,e⟩:=h n hn
 exact ⟨a,b,c,d,if_pos e⟩
def shw (m:Nat) (cs:List Int):Str:=PySem.Txt.join ⟨#[m]⟩ (cs.map fun c=>(toString c:Str))
theorem sum_le {α:Type} (f:α→Nat) (k:Nat):∀ l:List α,(∀ a∈l,f a≤k)→(l.map f).sum≤k*l.length
 | [],_=>by simp
 |a::l,h=>by
  have ih:=sum_le f k l fun b hb=>h b (List.mem_cons_of_mem _ hb)
  have h1:=h a List.mem_cons_self
  simp only [List.map_cons,List.sum_cons,List.length_cons,Nat.mul_succ]
  omega
theorem Bz6W (cs:List Int) (hl:cs.length≤100) (hb:∀ c∈cs,0≤c∧c<20):callR 1 Az1T [.tup (cs.map D.int)]= .ok (.str (shw 45 cs))∧(shw 45 cs).length≤900:=by
 have hsum:((cs.map fun c=>(toString c:Str)).map (·.length)).sum≤2*cs.length:=by
  rw [List.map_map]
  exact sum_le _ 2 cs fun c hc=>(dig c (hb c hc).1 (hb c hc).2).2.2.2.1
 have jr:joinR "-" [.lst ((cs.map fun c=>(toString c:Str)).map D.str)]= .ok (.str (shw 45 cs)):=Bz2Z 45 _ (by rw [List.length_map];omega)
 have sq:seqR (.tup (cs.map D.int))= .ok (cs.map D.int):=rfl
 have c1:compR 1 (setI 0) (fun _=> .ok true) Az3G [some (.d (.tup (cs.map D.int)))] (cs.map D.int)= .ok ((cs.map fun c=>(toString c:Str)).map D.str):=by
  refine Az0Z ?_ (by rw [List.length_map];omega)
  have:=Az3Y (fe:=Az3G) (fun d=>match d with| .int c=> .str (toString c)|_=> .non) [some (.d (.tup (cs.map D.int)))] (cs.map D.int) none (fun d hd=>by
   obtain ⟨c,hc,rfl⟩:=List.mem_map.mp hd
   have e:=(dig c (hb c hc).1 (hb c hc).2).2.2.2.2
   unfold Az3G
   simp only [b1,Az0R,Res.bind_ok,e])
  rw [List.map_map] at this ⊢
  exact this
 refine ⟨Az0C _ _ _ _ ?_ rfl,?_⟩
 ·clear hb hsum
  generalize (cs.map fun c=>(toString c:Str)).map D.str=ss at*
  unfold Az1T Az8I
  simp only [Az2D,startD,List.map_cons,List.map_nil,List.length_cons,List.length_nil,List.cons_append,List.nil_append,Nat.reduceAdd,Nat.reduceSub,List.replicate,List.append_nil,sRet,bM,asD,vComp,b1,aCons,aNil,kD,Az0P,Az0I,Res.bind_ok,sq,c1,jr,ofR_ok,Az2C]
 ·have:=Az9U 45 (cs.map fun c=>(toString c:Str))
  rw [List.length_map] at this
  unfold shw
  omega
theorem Cz0D (cs:List Int) (hl:cs.length≤100) (hb:∀ c∈cs,0≤c∧c<20):callR 1 Az3R [.tup (cs.map D.int)]= .ok (.str (shw 44 cs))∧(shw 44 cs).length≤900:=by
 have hsum:((cs.map fun c=>(toString c:Str)).map (·.length)).sum≤2*cs.length:=by
  rw [List.map_map]
  exact sum_le _ 2 cs fun c hc=>(dig c (hb c hc).1 (hb c hc).2).2.2.2.1
 have jr:joinR "," [.lst ((cs.map fun c=>(toString c:Str)).map D.str)]= .ok (.str (shw 44 cs)):=Bz2Z 44 _ (by rw [List.length_map];omega)
 have sq:seqR (.tup (cs.map D.int))= .ok (cs.map D.int):=rfl
 have c1:compR 1 (setI 0) (fun _=> .ok true) Az4A [some (.d (.tup (cs.map D.int)))] (cs.map D.int)= .ok ((cs.map fun c=>(toString c:Str)).map D.str):=by
  refine Az0Z ?_ (by rw [List.length_map];omega)
  have:=Az3Y (fe:=Az4A) (fun d=>match d with| .int c=> .str (toString c)|_=> .non) [some (.d (.tup (cs.map D.int)))] (cs.map D.int) none (fun d hd=>by
   obtain ⟨c,hc,rfl⟩:=List.mem_map.mp hd
   have e:=(dig c (hb c hc).1 (hb c hc).2).2.2.2.2
   unfold Az4A
   simp only [b1,Az0R,Res.bind_ok,e])
  rw [List.map_map] at this ⊢
  exact this
 refine ⟨Az0C _ _ _ _ ?_ rfl,?_⟩
 ·clear hb hsum
  generalize (cs.map fun c=>(toString c:Str)).map D.str=ss at*
  unfold Az3R Az8Z
  simp only [Az2D,startD,List.map_cons,List.map_nil,List.length_cons,List.length_nil,List.cons_append,List.nil_append,Nat.reduceAdd,Nat.reduceSub,List.replicate,List.append_nil,sRet,bM,asD,vComp,b1,aCons,aNil,kD,Az0P,Az0I,Res.bind_ok,sq,c1,jr,ofR_ok,Az2C]
 ·have:=Az9U 44 (cs.map fun c=>(toString c:Str))
  rw [List.length_map] at this
  unfold shw
  omega
theorem Bz3Q (m:Nat) (hm:m∈([32,44,45]:List Nat)) (cs:List Int) (hn:cs≠ []) (hl:(shw m cs).length≤900) (hb:∀ c∈cs,0≤c∧c<20):callR 2 Az0M [.str (shw m cs), .str ⟨#[m]⟩]= .ok (.tup (cs.map D.int)):=by
 have es:PySem.Txt.split (shw m cs) ⟨#[m]⟩=cs.map fun c=>(toString c:Str):=Bz0M m _ (by simpa using hn) (fun x hx=>by
  obtain ⟨c,hc,rfl⟩:=List.mem_map.mp hx
  exact (dig c (hb c hc).1 (hb c hc).2).2.2.1 m hm)
 have:=Cz8G m (shw m cs) hl (fun x=>(PySem.intText? x).getD 0) (fun x hx=>by
  rw [es] at hx
  obtain ⟨c,hc,rfl⟩:=List.mem_map.mp hx
  have d:=dig c (hb c hc).1 (hb c hc).2
  exact ⟨d.1,by rw [d.2.1];rfl⟩)
 rw [this,es,List.map_map]
 congr 2
 refine List.map_congr_left fun c hc=> ?_
 show D.int ((PySem.intText? (toString c:Str)).getD 0)= .int c
 rw [(dig c (hb c hc).1 (hb c hc).2).2.1]
 rfl
theorem Az2B (x:Int) (xs:List Int):(x::xs).getD 0 0=x:=rfl
theorem Az1D (x:Int) (xs:List Int) (i:Nat):(x::xs).getD (i+1) 0=xs.getD i 0:=by simp
theorem Az7Z:∀ {a b:List Int},a.length=b.length→(HT.lexLt a b=true↔∃ i,i<a.length∧(∀ j,j<i→a.getD j 0=b.getD j 0)∧a.getD i 0<b.getD i 0)
 | [],[],_=>by simp [HT.lexLt]
 | [],_::_,h=>by simp at h
 |_::_,[],h=>by simp at h
 |x::a,y::b,h=>by
  have ih:=Az7Z (a:=a) (b:=b) (by simpa using h)
  rw [HT.lexLt_cons]
  by_cases e:x=y
  ·subst e
   rw [if_pos rfl,ih]
   constructor
   ·rintro ⟨i,h1,h2,h3⟩
    refine ⟨i+1,by simpa using h1,fun j hj=> ?_,by rw [Az1D,Az1D];exact h3⟩
    cases j with
    |zero=>rfl
    |succ j=>rw [Az1D,Az1D];exact h2 j (by omega)
   ·rintro ⟨i,h1,h2,h3⟩
    cases i with
    |zero=>rw [Az2B,Az2B] at h3;omega
    |succ i=>
     refine ⟨i,by simpa using h1,fun j hj=> ?_,by rw [Az1D,Az1D] at h3;exact h3⟩
     have:=h2 (j+1) (by omega)
     rw [Az1D,Az1D] at this
     exact this
  ·rw [if_neg e,decide_eq_true_eq]
   constructor
   ·intro hl
    exact ⟨0,by simp,fun j hj=>by omega,by rw [Az2B,Az2B];exact hl⟩
   ·rintro ⟨i,h1,h2,h3⟩
    cases i with
    |zero=>rw [Az2B,Az2B] at h3;exact h3
    |succ i=>
     have:=h2 0 (by omega)
     rw [Az2B,Az2B] at this
     exact absurd this e
structure CG (d s:Int) (cs:List Int):Prop where
 bd:∀ i,i<cs.length→0≤cs.getD i 0∧cs.getD i 0<d
 nr:∀ i,i+1<cs.length→cs.getD i 0-cs.getD (i+1) 0≤s∧cs.getD (i+1) 0-cs.getD i 0≤s
theorem CG.mem {d s:Int} {cs:List Int} (h:CG d s cs):∀ c∈cs,0≤c∧c<d:=fun c hc=>by
 obtain ⟨i,hi,rfl⟩:=List.mem_iff_getElem.mp hc
 have:=h.bd i hi
 rw [List.getD_eq_getElem?_getD,List.getElem?_eq_getElem hi] at this
 exact this
theorem CG.isC {d s p:Int} {cs:List Int} (h:CG d s cs) (hp:(cs.length:Int)=p):isC p d s (.tup (cs.map D.int))=true:=by
 show (decide (((cs.map D.int).length:Int)=p)&&((cs.map D.int).all (isDep d)&&stepI s ((cs.map D.int).map valI)))=true
 have e:(cs.map D.int).map valI=cs:=by
  rw [List.map_map]
  exact List.map_id' cs
 rw [e,List.length_map,decide_eq_true hp,Bool.true_and,Bool.and_eq_true]
 refine ⟨?_,(Bz3M s cs).mpr fun i hi=>⟨(h.nr i hi).2,(h.nr i hi).1⟩⟩
 rw [List.all_eq_true]
 intro x hx
 obtain ⟨c,hc,rfl⟩:=List.mem_map.mp hx
 exact decide_eq_true (h.mem c hc)
theorem Bz8F {d s:Int} {cs:List Int} {n k:Nat} (h:lastI d s cs n=some k):k<n∧deepI d s cs k=true∧∀ j,k<j→j<n→deepI d s cs j=false:=by
 induction n with
 |zero=>cases h
 |succ n ih=>
  unfold lastI at h
  split at h
  ·rename_i hd
   cases h
   exact ⟨by omega,hd,fun j h1 h2=>by omega⟩
  ·rename_i hd
   obtain ⟨a,b,c⟩:=ih h
   refine ⟨by omega,b,fun j h1 h2=> ?_⟩
   by_cases hj:j=n
   ·subst hj;simpa using hd
   ·exact c j h1 (by omega)
theorem Bz8E {d s:Int} {cs:List Int} {n:Nat} (h:lastI d s cs n=none):∀ j,j<n→deepI d s cs j=false:=by
 induction n with
 |zero=>intro j hj;omega
 |succ n ih=>
  unfold lastI at h
  split at h
  ·cases h
  ·rename_i hd
   intro j hj
   by_cases e:j=n
   ·subst e;simpa using hd
   ·exact ih h j (by omega)
theorem Cz1H (s:Int) (n:Nat):∀ l,(fillI s n l).length=n:=by
 induction n with
 |zero=>intro l;rfl
 |succ n ih=>intro l;rw [fillI,List.length_cons,ih]
theorem fill_s (s:Int):∀ (n:Nat) (l:Int) (i:Nat),i+1<n→(fillI s n l).getD (i+1) 0=max 0 ((fillI s n l).getD i 0-s)
 |0,_,_,h=>by omega
 |n+1,l,i,h=>by
  rw [fillI,Az1D]
  cases i with
  |zero=>
   cases n with
   |zero=>omega
   |succ n=>rfl
  |succ i=>rw [Az1D];exact fill_s s n _ i (by omega)
theorem Bz8M (s:Int) (cs:List Int) (k:Nat) (h:k<cs.length):(goneI s cs k).length=cs.length:=by
 unfold goneI
 simp [Cz1H]
 omega
theorem Az6J (s:Int) (cs:List Int) (k j:Nat) (h:k<cs.length) (hj:j<k):(goneI s cs k).getD j 0=cs.getD j 0:=by
 unfold goneI
 rw [List.getD_eq_getElem?_getD,List.append_assoc,List.getElem?_append_left (by rw [List.length_take];omega),List.getElem?_take_of_lt hj,←List.getD_eq_getElem?_getD]
theorem gone_k (s:Int) (cs:List Int) (k:Nat) (h:k<cs.length):(goneI s cs k).getD k 0=cs.getD k 0+1:=by
 unfold goneI
 rw [List.getD_eq_getElem?_getD,List.append_assoc,List.getElem?_append_right (by rw [List.length_take];omega),List.length_take,show k-min k cs.length=0 by omega]
 rfl
theorem Bz8N (s:Int) (cs:List Int) (k j:Nat) (h:k<cs.length) (hj:k≤j) (hj2:j+1<cs.length):(goneI s cs k).getD (j+1) 0=max 0 ((goneI s cs k).getD j 0-s):=by
 have tail:∀ i,k+1≤i→(goneI s cs k).getD i 0=(fillI s (cs.length-(k+1)) (cs.getD k 0+1)).getD (i-(k+1)) 0:=fun i hi=>by
  unfold goneI
  rw [List.getD_eq_getElem?_getD,List.getElem?_append_right (by rw [List.length_append,List.length_take];simp;omega),List.length_append,List.length_take,List.length_singleton,show min k cs.length+1=k+1 by omega,←List.getD_eq_getElem?_getD]
 rw [tail (j+1) (by omega)]
 by_cases e:j=k
 ·subst e
  rw [gone_k s cs j h,show j+1-(j+1)=0 by omega]
  have:0<cs.length-(j+1):=by omega
  generalize cs.length-(j+1)=n at*
  cases n with
  |zero=>omega
  |succ n=>rfl
 ·rw [tail j (by omega),show j+1-(k+1)=(j-(k+1))+1 by omega]
  exact fill_s s _ _ _ (by omega)
theorem deep_iff {d s:Int} {cs:List Int} {k:Nat}:deepI d s cs k=true↔cs.getD k 0+1<d∧(k=0∨cs.getD k 0+1≤cs.getD (k-1) 0+s):=by
 unfold deepI
 simp
theorem Az7N {d s:Int} {cs ys:List Int} (hs:0≤s) (h:CG d s cs) (e:nextI d s cs=some ys):ys.length=cs.length∧CG d s ys∧HT.lexLt cs ys=true:=by
 unfold nextI at e
 obtain ⟨k,hk,rfl⟩:=Option.map_eq_some_iff.mp e
 obtain ⟨k1,k2,k3⟩:=Bz8F hk
 obtain ⟨d1,d2⟩:=deep_iff.mp k2
 have gl:=Bz8M s cs k k1
 have bd:∀ i,i<cs.length→0≤(goneI s cs k).getD i 0∧(goneI s cs k).getD i 0<d:=by
  intro i
  induction i with
  |zero=>
   intro hi
   by_cases e0:k=0
   ·subst e0
    rw [gone_k s cs 0 k1]
    have:=h.bd 0 hi
    omega
   ·rw [Az6J s cs k 0 k1 (by omega)];exact h.bd 0 hi
  |succ i ih=>
   intro hi
   have p:=ih (by omega)
   by_cases e1:i+1<k
   ·rw [Az6J s cs k (i+1) k1 e1];exact h.bd _ hi
   ·by_cases e2:i+1=k
    ·subst e2
     rw [gone_k s cs (i+1) k1]
     have:=h.bd (i+1) hi
     omega
    ·rw [Bz8N s cs k i k1 (by omega) hi]
     omega
 refine ⟨gl,⟨fun i hi=>bd i (by omega),fun i hi=> ?_⟩,(Az7Z gl.symm).mpr ⟨k,k1,fun j hj=>(Az6J s cs k j k1 hj).symm,by rw [gone_k s cs k k1];omega⟩⟩
 rw [gl] at hi
 by_cases e1:i+1<k
 ·rw [Az6J s cs k i k1 (by omega),Az6J s cs k (i+1) k1 e1];exact h.nr i hi
 ·by_cases e2:i+1=k
  ·subst e2
   rw [Az6J s cs (i+1) i k1 (by omega),gone_k s cs (i+1) k1]
   have:=h.nr i hi
   rcases d2 with d2|d2
   ·omega
   ·rw [show i+1-1=i by omega] at d2
    omega
  ·rw [Bz8N s cs k i k1 (by omega) hi]
   have:=bd i (by omega)
   omega
theorem Az7X {d s:Int} {cs xs:List Int} (h:CG d s cs) (hx:CG d s xs) (hl:cs.length=xs.length) (hlt:HT.lexLt cs xs=true):∃ ys,nextI d s cs=some ys∧HT.lexLt xs ys=false:=by
 obtain ⟨i,i1,i2,i3⟩:=(Az7Z hl).mp hlt
 have hd:deepI d s cs i=true:=by
  refine deep_iff.mpr ⟨?_,?_⟩
  ·have:=hx.bd i (by omega);omega
  ·cases i with
   |zero=>exact .inl rfl
   |succ i=>
    right
    have a:=hx.nr i (by omega)
    have b:=i2 i (by omega)
    rw [show i+1-1=i by omega]
    omega
 cases hk:lastI d s cs cs.length with
 |none=>rw [Bz8E hk i i1] at hd;cases hd
 |some k=>
  obtain ⟨k1,k2,k3⟩:=Bz8F hk
  have ik:i≤k:=by
   by_cases z:i≤k
   ·exact z
   ·rw [k3 i (by omega) i1] at hd;cases hd
  refine ⟨goneI s cs k,by unfold nextI;rw [hk];rfl,?_⟩
  rw [Bool.eq_false_iff]
  intro z
  obtain ⟨j,j1,j2,j3⟩:=(Az7Z (by rw [Bz8M s cs k k1];omega)).mp z
  by_cases e1:j<k
  ·rw [Az6J s cs k j k1 e1] at j3
   by_cases e2:j<i
   ·have:=i2 j e2;omega
   ·by_cases e3:j=i
    ·subst e3;omega
    ·have:=j2 i (by omega)
     rw [Az6J s cs k i k1 (by omega)] at this
     omega
  ·by_cases e2:j=k
   ·subst e2
    rw [gone_k s cs j k1] at j3
    by_cases e3:i=j
    ·subst e3;omega
    ·have:=j2 i (by omega)
     rw [Az6J s cs j i k1 (by omega)] at this
     omega
   ·obtain ⟨m,rfl⟩:∃ m,j=m+1:=⟨j-1,by omega⟩
    rw [Bz8N s cs k m k1 (by omega) (by omega),←j2 m (by omega)] at j3
    have a:=hx.bd (m+1) (by omega)
    have b:=hx.nr m (by omega)
    omega
theorem Bz8C {a b:List Int} (hl:a.length=b.length) (h:HT.lexLt a b=true):HT.lexLt b a=false:=by
 rw [Bool.eq_false_iff]
 intro z
 obtain ⟨i,i1,i2,i3⟩:=(Az7Z hl).mp h
 obtain ⟨j,j1,j2,j3⟩:=(Az7Z hl.symm).mp z
 rcases Nat.lt_trichotomy i j with e|e|e
 ·have:=j2 i e;omega
 ·subst e;omega
 ·have:=i2 j e;omega
theorem Bz6F {d s:Int} {cs:List Int} (h:CG d s cs):HT.lexLt cs (List.replicate cs.length 0)=false:=by
 rw [Bool.eq_false_iff]
 intro z
 obtain ⟨j,j1,j2,j3⟩:=(Az7Z (by simp)).mp z
 have:=h.bd j j1
 have e:(List.replicate cs.length (0:Int)).getD j 0=0:=by rw [List.getD_eq_getElem?_getD,List.getElem?_replicate];split<;>rfl
 rw [e] at j3
 omega
theorem Bz8W (cs:List Int):eqL (cs.map D.int) (cs.map D.int)=true:=by
 induction cs with
 |nil=>rfl
 |cons c cs ih=>simp [eqL,eqD,ih]
theorem Bz7X (cs:List Int):neR (tupI cs) (tupI cs)= .ok (.bl false):=by
 have hs:shal 40 (tupI cs)=true:=by rw [tupI,shal,List.all_eq_true];exact Cz3S cs
 unfold neR
 rw [hs,tupI,eqD,Bz8W];rfl
theorem rep_eq (k:Nat):(List.replicate k [D.int 0]).flatten=(List.replicate k (0:Int)).map D.int:=by
 induction k with
 |zero=>rfl
 |succ k ih=>rw [List.replicate_succ,List.flatten_cons,ih,List.replicate_succ,List.map_cons];rfl
theorem Cz2W (T:D) (p:Int) (e:callR 1 Az0E [T]= .ok (.int p)) (h1:1≤p) (h2:p≤1000):callR 1 Az0T [T]= .ok (tupI (List.replicate p.toNat (0:Int))):=by
 refine Az0C _ _ _ _ ?_ rfl
 have em:=mulE_t [.int 0] p ⟨by simp,h1,h2,by simp⟩
 rw [rep_eq] at em
 clear h1 h2
 unfold Az0T Az8M
 walk_at "ev*"
 rfl
namespace PIN
theorem whole_eq (d:D) (h:tyD d≠none):Az0Q [d]= .ok (.bl (isI d)):=by
 unfold Az0Q Az6P
 walk_at "ev"
 rw [Bz3A d h,Az9W d h]
 walk_at "ev"
 cases d<;>rfl
def isDep (n:Int):D→Bool
 | .int i=>decide (0≤i∧i<n)
 |_=>false
theorem depth_A (T x:D) (n:Int) (h:tyD x≠none) (e:callR 1 Az0D [T]= .ok (.int n)):callR 2 Az1L [T,x]= .ok (.bl (isDep n x)):=by
 have e1:callR 1 Az0Q [x]= .ok (.bl (isI x)):=Az0C _ _ _ _ (whole_eq x h) rfl
 refine Az0C _ _ _ _ ?_ rfl
 unfold Az1L Az8L
 cases x with
 |int i=>
  have e2:isI (.int i)=true:=rfl
  rw [e2] at e1
  walk_at "ev*"
  rfl
 |_=>
  simp only [isI] at e1
  walk_at "ev*"
  rfl
def valI:D→Int
 | .int i=>i
 |_=>0
def upB (cs:List Int):Bool:=(List.zipWith (fun a b=>decide (a<b)) cs (cs.drop 1)).all fun b=>b
theorem upB_iff:∀ cs:List Int,upB cs=true↔Up cs
 | []=>by simp [upB]
 | [a]=>by simp [upB]
 |a::b::cs=>by
  have ih:=upB_iff (b::cs)
  have e:upB (a::b::cs)=(decide (a<b)&&upB (b::cs)):=rfl
  rw [e,Bool.and_eq_true,decide_eq_true_eq,ih]
  constructor
  ·rintro ⟨h1,h2⟩
   obtain ⟨h3,_⟩:=List.pairwise_cons.mp h2
   refine List.pairwise_cons.mpr ⟨fun x hx=> ?_,h2⟩
   rcases List.mem_cons.mp hx with rfl|hx
   ·exact h1
   ·have:=h3 x hx;omega
  ·intro h
   obtain ⟨h1,h2⟩:=List.pairwise_cons.mp h
   exact ⟨h1 b List.mem_cons_self,h2⟩
theorem dep_ints {n:Int} {ds:List D} (h:ds.all (isDep n)=true):ds=(ds.map valI).map D.int:=by
 induction ds with
 |nil=>rfl
 |cons d ds ih=>
  rw [List.all_cons,Bool.and_eq_true] at h
  obtain ⟨h1,h2⟩:=h
  rw [List.map_cons,List.map_cons,←ih h2]
  cases d with
  |int i=>rfl
  |_=>cases h1
def isPinB (n h:Int):D→Bool
 | .tup ds=>decide (1≤(ds.length:Int)∧(ds.length:Int)≤h)&&(ds.all (isDep n)&&upB (ds.map valI))
 |_=>false
theorem isp_1 (T:D) (ds:List D) (h:Int) (eh:callR 1 Az1M [T]= .ok (.int h)) (hq:decide (1≤(ds.length:Int)∧(ds.length:Int)≤h)=false):callR 2 Az3D [T, .tup ds]= .ok (.bl false):=by
 have ei:isiR "tuple" (.tup ds)= .ok (.bl true):=Az3B _ (by simp [ty_tup])
 refine Az0C _ _ _ _ ?_ rfl
 unfold Az3D Bz0G
 simp only [Az2D,startD,List.length_cons,List.length_nil,List.map_cons,List.map_nil,List.cons_append,List.nil_append,Nat.reduceAdd,Nat.reduceSub,List.replicate,sSeq,sIf,sRet,tOr2,tNot1,tR,b1,bCh,kD,aCons,aNil,Az0P,Az0U,Az0R,Az1F,Res.bind_ok,Az0I,Az0O,lenR_t,ei,eh,Az5Z,hq,orB_ok,ifO_ok,ofR_ok,Bool.not_true,Bool.not_false,if_true,if_false,Bool.false_eq_true,reduceIte,Az5B,Az2C]
theorem isp_2 (T:D) (ds bs:List D) (h:Int) (eh:callR 1 Az1M [T]= .ok (.int h)) (hq:decide (1≤(ds.length:Int)∧(ds.length:Int)≤h)=true) (hc:compR 1 (setI 0) (fun _=> .ok true) Az5F [some (.d T),some (.d (.tup ds))] ds= .ok bs) (ha:allR (.lst bs)= .ok (.bl false)):callR 2 Az3D [T, .tup ds]= .ok (.bl false):=by
 have ei:isiR "tuple" (.tup ds)= .ok (.bl true):=Az3B _ (by simp [ty_tup])
 refine Az0C _ _ _ _ ?_ rfl
 unfold Az3D Bz0G
 simp only [Az2D,startD,List.length_cons,List.length_nil,List.map_cons,List.map_nil,List.cons_append,List.nil_append,Nat.reduceAdd,Nat.reduceSub,List.replicate,sSeq,sIf,sRet,tOr2,tNot1,tR,b1,bCh,kD,aCons,aNil,asD,vComp,Az0P,Az0U,Az0R,Az1F,Res.bind_ok,Az0I,Az0O,lenR_t,seqR_t,ei,eh,Az5Z,hq,hc,ha,orB_ok,ifO_ok,ofR_ok,Bool.not_true,Bool.not_false,if_true,if_false,Bool.false_eq_true,reduceIte,Az1V,Az5B,Az2C]
theorem isp_3 (T:D) (ds bs us ws:List D) (h:Int) (r:Bool) (eh:callR 1 Az1M [T]= .ok (.int h)) (hq:decide (1≤(ds.length:Int)∧(ds.length:Int)≤h)=true) (hc:compR 1 (setI 0) (fun _=> .ok true) Az5F [some (.d T),some (.d (.tup ds))] ds= .ok bs) (ha:allR (.lst bs)= .ok (.bl true))
  (hs:slW (.tup ds) (some 1) none= .ok (.tup us)) (hc2:compR 2 (unTup 2 (unCons (setI 0) (unCons (setI 1) unNil))) (fun _=> .ok true) Az8D [some (.d T),some (.d (.tup ds))] (zipD ds us)= .ok ws) (ha2:allR (.lst ws)= .ok (.bl r)):callR 2 Az3D [T, .tup ds]= .ok (.bl r):=by
 have ei:isiR "tuple" (.tup ds)= .ok (.bl true):=Az3B _ (by simp [ty_tup])
 have hz:zipR [.tup ds, .tup us]= .ok (zipD ds us):=rfl
 refine Az0C _ _ _ _ ?_ rfl
 unfold Az3D Bz0G
 simp only [Az2D,startD,List.length_cons,List.length_nil,List.map_cons,List.map_nil,List.cons_append,List.nil_append,Nat.reduceAdd,Nat.reduceSub,List.replicate,sSeq,sIf,sRet,tOr2,tNot1,tR,b1,b3,bCh,kD,aCons,aNil,asD,vComp,oNone,Az7F,Az0P,Az0U,Az0R,Az1F,Res.bind_ok,Az0I,Az0O,lenR_t,seqR_t,ei,eh,Az5Z,hq,hc,ha,hs,hz,hc2,ha2,orB_ok,ifO_ok,ofR_ok,Bool.not_true,Bool.not_false,if_true,if_false,Bool.false_eq_true,reduceIte,Az1V,Az5B,Az2C]
theorem is_pin_T (p n h s:Int) (ds:List D) (hx:∀ x∈ds,tyD x≠none) (hl:ds.length≤1000):callR 2 Az3D [.tup [.int p, .int n, .int h, .int s], .tup ds]= .ok (.bl (isPinB n h (.tup ds))):=by
 have en:callR 1 Az0D [.tup [.int p, .int n, .int h, .int s]]= .ok (.int n):=rfl
 have eh:callR 1 Az1M [.tup [.int p, .int n, .int h, .int s]]= .ok (.int h):=rfl
 generalize hT:D.tup [.int p, .int n, .int h, .int s]=T at en eh ⊢
 clear hT
 have hc:compR 1 (setI 0) (fun _=> .ok true) Az5F [some (.d T),some (.d (.tup ds))] ds= .ok (ds.map fun d=>D.bl (isDep n d)):=by
  refine Az0Z ?_ (by omega)
  refine Az3Y (fun d=>D.bl (isDep n d)) [some (.d T),some (.d (.tup ds))] _ none fun d hd=> ?_
  have e1:=depth_A T d n (hx d hd) en
  unfold Az5F
  simp only [b1,aCons,aNil,Az0P,Az0U,Res.bind_ok,Az0I,e1]
 have ha:=Az5H (isDep n) ds
 show _=Res.ok (D.bl (decide (1≤(ds.length:Int)∧(ds.length:Int)≤h)&&(ds.all (isDep n)&&upB (ds.map valI))))
 cases hq:decide (1≤(ds.length:Int)∧(ds.length:Int)≤h) with
 |false=>rw [Bool.false_and];exact isp_1 T ds h eh hq
 |true=>
  rw [Bool.true_and]
  have hq1:=of_decide_eq_true hq
  cases hall:ds.all (isDep n) with
  |false=>
   rw [hall] at ha
   exact isp_2 T ds _ h eh hq hc ha
  |true=>
   rw [hall] at ha
   rw [Bool.true_and]
   have hds:=dep_ints hall
   generalize ds.map valI=cs at hds ⊢
   have hsl:=Bz6S ds 1 (by omega)
   refine isp_3 T ds _ (ds.drop 1) ((List.zipWith (fun a b=>decide (a<b)) cs (cs.drop 1)).map fun b=>D.bl b) h _ eh hq hc ha hsl ?_ (Az5H (fun b:Bool=>b) _)
   refine Az0Z ?_ (by rw [Az6S];omega)
   have:=Az8F (fe:=Az8D) (fun a b=>match a,b with| .int i, .int j=> .bl (decide (i<j))|_,_=> .non) [some (.d T),some (.d (.tup ds))] ds (ds.drop 1) none none (fun i a b ha' hb'=>by
    have ha2:a∈ds:=List.mem_of_getElem? ha'
    have hb2:b∈ds:=List.mem_of_mem_drop (List.mem_of_getElem? hb')
    rw [hds] at ha2 hb2
    obtain ⟨u,_,rfl⟩:=List.mem_map.mp ha2
    obtain ⟨v,_,rfl⟩:=List.mem_map.mp hb2
    rfl)
   refine this.trans ?_
   rw [hds,←List.map_drop,Bz1X cs (cs.drop 1) _ (fun i j=> .bl (decide (i<j))) fun _ _=>rfl,zip_bl]
end PIN
namespace O13
theorem inB_ints (x:Int):∀ q:List Int,inB (.int x) (q.map D.int)=decide (x∈q)
 | []=>rfl
 |y::q=>by
  have ih:=inB_ints x q
  unfold inB at ih ⊢
  rw [List.map_cons,List.any_cons,ih]
  by_cases e:y=x
  ·subst e;simp [eqD]
  ·have:x≠y:=fun z=>e z.symm
   simp [eqD,e,this]
theorem flat_ints (q:List Int):(q.map D.int).all flatD=true:=by
 rw [List.all_eq_true];intro d hd;obtain ⟨i,_,rfl⟩:=List.mem_map.mp hd;rfl
theorem Cz0S (x:Int) (q:List Int):ninR (.int x) (pD q)= .ok (.bl (!decide (x∈q))):=by
 show (if (flatD (.int x)&&(q.map D.int).all flatD)=true then _ else _)=_
 rw [flat_ints,inB_ints];rfl
theorem pD_at (cs:List Int) (i:Nat) (h:i<cs.length):ixR (pD cs) (.int (i:Int))= .ok (.int (cs.getD i 0)):=by
 refine ixR_t _ _ _ (Az6R (by omega) ?_)
 rw [show ((i:Int)).toNat=i by omega,List.getElem?_map,List.getElem?_eq_getElem h,List.getD_eq_getElem?_getD,List.getElem?_eq_getElem h]
 rfl
def okAt (B:List (List Int)) (cs:List Int) (i:Nat):Bool:=decide (cs.getD i 0∈B.getD i [])
theorem stopped_eq (B:List (List Int)) (cs:List Int) (hl:cs.length=B.length) (hB:B.length≤1000):∃ x,callR 2 Az1H [bD B,pD cs]= .ok x∧First (okAt B cs) B.length x:=by
 have he:enumR [bD B]= .ok (enumD 0 (B.map pD)):=rfl
 have hs:=Bz8P (t:=unTup 2 (unCons (setI 2) (unCons (setI 3) unNil))) (body:=Az3F) (fun _ δ=>∃ y z,δ= [some (.d (bD B)),some (.d (pD cs)),y,z]) (okAt B cs) (fun i=> .int i) (enumD 0 (B.map pD)) [some (.d (bD B)),some (.d (pD cs)),none,none] (fun i d δ hd hI=>by
  obtain ⟨y,z,rfl⟩:=hI
  obtain ⟨x,hx,rfl⟩:=Bz0C hd
  rw [List.getElem?_map] at hx
  obtain ⟨q,hq,rfl⟩:=Option.map_eq_some_iff.mp hx
  have hi:=(List.getElem?_eq_some_iff.mp hq).1
  have eq:B.getD i []=q:=by rw [List.getD_eq_getElem?_getD,hq];rfl
  have e1:=pD_at cs i (by omega)
  have e2:=Cz0S (cs.getD i 0) q
  rw [Nat.zero_add]
  refine ⟨_,rfl,?_⟩
  simp only [List.set_cons_zero,List.set_cons_succ]
  unfold okAt
  rw [eq]
  cases hm:decide (cs.getD i 0∈q) with
  |true=>
   rw [hm] at e2
   refine .inl ⟨rfl,[some (.d (bD B)),some (.d (pD cs)),some (.d (.int (i:Int))),some (.d (pD q))], .inl ?_,_,_,rfl⟩
   clear hm
   unfold Az3F
   walk_at "ev*"
  |false=>
   rw [hm] at e2
   refine .inr ⟨rfl,?_⟩
   clear hm
   unfold Az3F
   walk_at "ev*") ⟨none,none,rfl⟩
 rw [Bz0B,List.length_map] at hs
 rcases hs with ⟨δ2,f,⟨y,z,rfl⟩,ho⟩|⟨i,hi,oi,bi,f⟩
 ·refine ⟨.non,Az0C _ _ _ _ ?_ rfl, .inl ⟨rfl,ho⟩⟩
  clear ho
  unfold Az1H Az6A
  walk_at "ev*"
 ·refine ⟨.int i,Az0C _ _ _ _ ?_ rfl, .inr ⟨i,hi,oi,bi,rfl⟩⟩
  clear oi bi hi
  unfold Az1H Az6A
  walk_at "ev*"
theorem opens_eq (b c x:D) (h:callR 2 Az1H [b,c]= .ok x):callR 2 Az1I [b,c]=isNR x:=by
 have e:∃ k,isNR x= .ok (.bl k):=by cases x<;>exact ⟨_,rfl⟩
 obtain ⟨k,hk⟩:=e
 rw [hk]
 refine Az0C _ _ _ _ ?_ rfl
 unfold Az1I Bz1P
 walk_at "ev*"
end O13
theorem shal_map' (cs:List Int):∀ d∈cs.map D.int,shal 39 d=true:=by
 intro d hd
 obtain ⟨i,_,rfl⟩:=List.mem_map.mp hd
 simp [shal]
theorem Bz8U:∀ cs:List Int,eqL (cs.map D.int) (cs.map D.int)=true
 | []=>by simp [eqL]
 |c::cs=>by rw [List.map_cons,eqL,Bz8U cs];simp [eqD]
theorem eqR_pD (cs:List Int):eqR (pD cs) (pD cs)= .ok (.bl true):=by
 have hs:shal 40 (pD cs)=true:=by
  show (cs.map D.int).all (shal 39)=true
  rw [List.all_eq_true]
  exact shal_map' cs
 unfold eqR
 rw [hs]
 show Res.ok (D.bl (eqD (.tup (cs.map D.int)) (.tup (cs.map D.int))))=_
 rw [show eqD (.tup (cs.map D.int)) (.tup (cs.map D.int))=eqL (cs.map D.int) (cs.map D.int) from by rw [eqD],Bz8U]
theorem Cz3W (ns:List Int):∃ p d h s,callR 1 Az2U [.lst (ns.map D.int)]= .ok (.tup [.int p, .int d, .int h, .int s])∧(1≤p∧p≤4)∧(2≤d∧d≤5)∧(1≤h∧h≤d)∧1≤s:=by
 obtain ⟨v0,e0⟩:=Az3V ns 0 (by decide) (by decide)
 obtain ⟨v1,e1⟩:=Az3V ns 1 (by decide) (by decide)
 obtain ⟨v2,e2⟩:=Az3V ns 2 (by decide) (by decide)
 obtain ⟨v3,e3⟩:=Az3V ns 3 (by decide) (by decide)
 have h0:0<2+v0%4:=by omega
 have h1:0<2+v0%4-1:=by omega
 refine ⟨1+v1%4,2+v0%4,1+v2%(2+v0%4),1+v3%(2+v0%4-1),Az0C _ _ _ _ ?_ rfl,?_⟩
 ·unfold Az2U Az8O
  walk_at "ev*"
 ·have a1:=Int.emod_nonneg v2 (show 2+v0%4≠0 by omega)
  have a2:=Int.emod_lt_of_pos v2 h0
  have a3:=Int.emod_nonneg v3 (show 2+v0%4-1≠0 by omega)
  omega
theorem mem_jn (c:Nat):∀ (L:List (List Nat)) (x:Nat),x∈jn c L→x=c∨∃ y∈L,x∈y
 | [],x,h=>by simp [jn] at h
 | [y],x,h=> .inr ⟨y,List.mem_cons_self,h⟩
 |y::z::r,x,h=>by
  rw [jn] at h
  rcases List.mem_append.mp h with h|h
  ·exact .inr ⟨y,List.mem_cons_self,h⟩
  ·rcases List.mem_cons.mp h with h|h
   ·exact .inl h
   ·rcases mem_jn c (z::r) x h with h|⟨w,hw,h⟩
    ·exact .inl h
    ·exact .inr ⟨w,List.mem_cons_of_mem _ hw,h⟩
theorem Cz3R (q:List Int) (hb:∀ c∈q,0≤c∧c<20):32∉(shw 44 q).cps.toList:=by
 unfold shw
 rw [show PySem.Txt.join ⟨#[44]⟩ (q.map fun c=>(toString c:Str))=Str.join ⟨#[44]⟩ (q.map fun c=>(toString c:Str)) from StrLaws.glued_eq_join _ _,Bz2Y]
 intro h
 rcases mem_jn 44 _ 32 h with h|⟨y,hy,h⟩
 ·exact absurd h (by decide)
 ·rw [List.map_map] at hy
  obtain ⟨c,hc,rfl⟩:=List.mem_map.mp hy
  exact (dig c (hb c hc).1 (hb c hc).2).2.2.1 32 (by decide) h
theorem Cz2I (m:Nat) (q:List Int) (hb:∀ c∈q,0≤c∧c<20):(shw m q).length≤3*q.length:=by
 have hsum:((q.map fun c=>(toString c:Str)).map (·.length)).sum≤2*q.length:=by
  rw [List.map_map]
  exact sum_le _ 2 q fun c hc=>(dig c (hb c hc).1 (hb c hc).2).2.2.2.1
 have:=Az9U m (q.map fun c=>(toString c:Str))
 rw [List.length_map] at this
 unfold shw
 omega
def sbar (B:List (List Int)):Str:=PySem.Txt.join ⟨#[32]⟩ (B.map (shw 44))
structure PinT (q:List Int):Prop where
 ne:1≤q.length
 le:q.length≤5
 bd:∀ c∈q,0≤c∧c<20
theorem Bz7B (B:List (List Int)) (hl:B.length≤20) (hq:∀ q∈B,PinT q):((B.map (shw 44)).map (·.length)).sum+(B.map (shw 44)).length≤900:=by
 have:((B.map (shw 44)).map (·.length)).sum≤15*B.length:=by
  rw [List.map_map]
  exact sum_le _ 15 B fun q h=>by
   have h1:=Cz2I 44 q (hq q h).bd
   have h2:=(hq q h).le
   show (shw 44 q).length≤15
   omega
 rw [List.length_map]
 omega
theorem Cz0E (B:List (List Int)) (hl:B.length≤20) (hq:∀ q∈B,PinT q):callR 1 Az1Q [bD B]= .ok (.str (sbar B)):=by
 have jr:joinR " " [.lst ((B.map (shw 44)).map D.str)]= .ok (.str (sbar B)):=Bz2Z 32 _ (Bz7B B hl hq)
 have sq:seqR (bD B)= .ok (B.map pD):=rfl
 have c1:compR 1 (setI 0) (fun _=> .ok true) Az1O [some (.d (bD B))] (B.map pD)= .ok ((B.map (shw 44)).map D.str):=by
  refine Az0Z ?_ (by rw [List.length_map];omega)
  have:=Az3Y (fe:=Az1O) (fun d=>match d with| .tup ds=>(match intsOf ds with|some q=> .str (shw 44 q)|none=> .non)|_=> .non) [some (.d (bD B))] (B.map pD) none (fun d hd=>by
   obtain ⟨q,h,rfl⟩:=List.mem_map.mp hd
   have e:=(Cz0D q (by have:=(hq q h).le;omega) (hq q h).bd).1
   unfold Az1O
   show _=Res.ok (match intsOf (q.map D.int) with|some q=>D.str (shw 44 q)|none=>D.non)
   rw [Az5Y]
   unfold pD
   simp only [b1,aCons,aNil,Az0P,Az0I,Res.bind_ok,e])
  rw [List.map_map] at this ⊢
  refine (show compD (setI 0) (fun _=> .ok true) Az1O _ _=_ from this).trans ?_
  congr 1
  refine List.map_congr_left fun q _=> ?_
  show (match intsOf (q.map D.int) with|some q=>D.str (shw 44 q)|none=>D.non)=_
  rw [Az5Y];rfl
 refine Az0C _ _ _ _ ?_ rfl
 clear hq
 generalize (B.map (shw 44)).map D.str=ss at*
 generalize B.map pD=bs at*
 generalize bD B=Bd at*
 unfold Az1Q Az6O
 simp only [Az2D,startD,List.map_cons,List.map_nil,List.length_cons,List.length_nil,List.cons_append,List.nil_append,Nat.reduceAdd,Nat.reduceSub,List.replicate,List.append_nil,sRet,bM,asD,vComp,b1,aCons,aNil,kD,Az0P,Az0I,Res.bind_ok,sq,c1,jr,ofR_ok,Az2C]
def okV:Res D→D
 | .ok v=>v
 |_=> .non
theorem Cz7K (B:List (List Int)) (hn:1≤B.length) (hl:B.length≤20) (hq:∀ q∈B,PinT q):callR 1 Az5S [.str (sbar B)]= .ok (bD B):=by
 have hw:(sbar B).length≤900:=Nat.le_trans (Az9U 32 _) (Bz7B B hl hq)
 have es:PySem.Txt.split (sbar B) ⟨#[32]⟩=B.map (shw 44):=Bz0M 32 _ (by intro z;rw [List.map_eq_nil_iff.mp z] at hn;simp at hn) (fun x hx=>by
  obtain ⟨q,h,rfl⟩:=List.mem_map.mp hx
  exact Cz3R q (hq q h).bd)
 have sp:splitR (sbar B) [.str " "]= .ok ((B.map (shw 44)).map D.str):=by
  have:=Bz3N (sbar B) 32 hw
  rw [es] at this
  exact this
 have is:isiR "str" (.str (sbar B))= .ok (.bl true):=Bz8H _ (by simp [ty_str])
 have sq:seqR (.lst ((B.map (shw 44)).map D.str))= .ok ((B.map (shw 44)).map D.str):=rfl
 have c1:compR 1 (setI 0) (fun _=> .ok true) Az4N [some (.d (.str (sbar B)))] ((B.map (shw 44)).map D.str)= .ok (B.map pD):=by
  refine Az0Z ?_ (by rw [List.length_map,List.length_map];omega)
  have key:∀ q∈B,callR 2 Az0M [.str (shw 44 q), .str ","]= .ok (pD q):=fun q h=>
   Bz3Q 44 (by decide) q (by intro z;have:=(hq q h).ne;rw [z] at this;simp at this) (by have a:=Cz2I 44 q (hq q h).bd;have b:=(hq q h).le;omega) (hq q h).bd
  have:=Az3Y (fe:=Az4N) (fun d=>okV (callR 2 Az0M [d, .str ","])) [some (.d (.str (sbar B)))] ((B.map (shw 44)).map D.str) none (fun d hd=>by
   obtain ⟨w,hw',rfl⟩:=List.mem_map.mp hd
   obtain ⟨q,h,rfl⟩:=List.mem_map.mp hw'
   have e:=key q h
   unfold Az4N
   simp only [b1,aCons,aNil,kD,Az0P,Az0I,Res.bind_ok,e,okV])
  refine (show compD (setI 0) (fun _=> .ok true) Az4N _ _=_ from this).trans ?_
  rw [List.map_map,List.map_map]
  congr 1
  refine List.map_congr_left fun q h=> ?_
  show okV (callR 2 Az0M [.str (shw 44 q), .str ","])=_
  rw [key q h];rfl
 have tt:tupofR (.lst (B.map pD))= .ok (bD B):=rfl
 refine Az0C _ _ _ _ ?_ rfl
 clear hq es
 generalize (B.map (shw 44)).map D.str=ss at*
 generalize B.map pD=bs at*
 generalize bD B=Bd at*
 generalize sbar B=w at*
 unfold Az5S Bz4Y
 simp only [Az2D,startD,List.map_cons,List.map_nil,List.length_cons,List.length_nil,List.cons_append,List.nil_append,Nat.reduceAdd,Nat.reduceSub,List.replicate,List.append_nil,sSeq,sIf,tNot1,tR,sRet,bM,asD,vComp,b1,aCons,aNil,kD,Az0P,Az0R,Az0I,Res.bind_ok,is,Az0O,ifO_ok,Bool.not_true,Bool.false_eq_true,if_false,reduceIte,Az1V,sp,sq,c1,tt,ofR_ok,Az2C]
theorem Cz1X (p d h s:Int) (B:List (List Int)) (hl:(B.length:Int)=p) (hp:p≤100) (hq:∀ q∈B,PinOk d h q):callR 2 Az2T [.tup [.int p, .int d, .int h, .int s],bD B]= .ok (.bl true):=by
 have e1:isiR "tuple" (bD B)= .ok (.bl true):=Az3B _ (by unfold bD;simp [ty_tup])
 have ln:lenR (bD B)= .ok (.int p):=by show Res.ok (D.int ((B.map pD).length:Int))=_;rw [List.length_map,hl]
 have ep:callR 1 Az0E [.tup [.int p, .int d, .int h, .int s]]= .ok (.int p):=Az0C _ _ _ _ rfl rfl
 have ne:neR (.int p) (.int p)= .ok (.bl false):=by rw [neR_ii];simp
 have sq:seqR (bD B)= .ok (B.map pD):=rfl
 have c1:compR 1 (setI 0) (fun _=> .ok true) Az4B [some (.d (.tup [.int p, .int d, .int h, .int s])),some (.d (bD B))] (B.map pD)= .ok (B.map fun _=> .bl true):=by
  refine Az0Z ?_ (by rw [List.length_map];omega)
  have:=Az3Y (fe:=Az4B) (fun _=> .bl true) [some (.d (.tup [.int p, .int d, .int h, .int s])),some (.d (bD B))] (B.map pD) none (fun x hx=>by
   obtain ⟨q,h',rfl⟩:=List.mem_map.mp hx
   have ok:=hq q h'
   have e:=PIN.is_pin_T p d h s (q.map D.int) (fun x hx=>by obtain ⟨i,_,rfl⟩:=List.mem_map.mp hx;simp [ty_int]) (by have:=ok.l5;simp;omega)
   have ib:PIN.isPinB d h (.tup (q.map D.int))=true:=by
    show (decide (1≤((q.map D.int).length:Int)∧((q.map D.int).length:Int)≤h)&&((q.map D.int).all (PIN.isDep d)&&PIN.upB ((q.map D.int).map PIN.valI)))=true
    rw [List.length_map,Bool.and_eq_true,Bool.and_eq_true,decide_eq_true_eq,List.all_eq_true]
    refine ⟨⟨by have:=ok.ne;omega,ok.le⟩,fun y hy=> ?_,?_⟩
    ·obtain ⟨i,hi,rfl⟩:=List.mem_map.mp hy
     exact decide_eq_true (ok.bd i hi)
    ·rw [List.map_map,show (PIN.valI∘D.int)=id from rfl,List.map_id,PIN.upB_iff]
     exact ok.up
   rw [ib] at e
   unfold Az4B
   have e':callR 2 Az3D [.tup [.int p, .int d, .int h, .int s],pD q]= .ok (.bl true):=e
   simp only [b1,aCons,aNil,Az0P,Az0U,Az0I,Res.bind_ok,e'])
  rw [List.map_map] at this
  exact this
 have al:allR (.lst (B.map fun _=> .bl true))= .ok (.bl true):=by
  have:=Az5H (fun _=>true) B
  have e:B.all (fun _=>true)=true:=by simp
  rw [e] at this
  exact this
 clear hq hl
 generalize D.tup [.int p, .int d, .int h, .int s]=T at*
 generalize (B.map fun _=>D.bl true)=bs at*
 generalize B.map pD=cs at*
 generalize bD B=Bd at*
 refine Az0C _ _ _ _ ?_ rfl
 unfold Az2T Az9C
 simp only [Az2D,startD,List.map_cons,List.map_nil,List.length_cons,List.length_nil,List.cons_append,List.nil_append,Nat.reduceAdd,Nat.reduceSub,List.replicate,List.append_nil,sSeq,sIf,tOr2,tNot1,tR,sRet,asD,vComp,b1,b2,aCons,aNil,kD,Az0P,Az0U,Az0R,Az1F,Az0I,Res.bind_ok,e1,ln,ep,ne,Az0O,orB_ok,ifO_ok,Bool.not_true,Bool.false_eq_true,if_false,reduceIte,Az1V,sq,c1,al,ofR_ok,Az2C]
theorem Cz3Z (T:D) (B:List (List Int)) (hn:1≤B.length) (hl:B.length≤20) (hq:∀ q∈B,PinT q) (ok:callR 2 Az2T [T,bD B]= .ok (.bl true)):callR 2 Az1Z [T, .str (sbar B)]= .ok (bD B):=by
 have e:=Cz7K B hn hl hq
 generalize sbar B=w at*
 generalize bD B=Bd at*
 clear hq
 refine Az0C _ _ _ _ ?_ rfl
 unfold Az1Z Az7H
 walk_at "ev*"
def opB (B:List (List Int)) (cs:List Int):Prop:=∀ i,i<B.length→opn B cs i=true
instance {B:List (List Int)} {cs:List Int}:Decidable (opB B cs):=inferInstanceAs (Decidable (∀ i,i<B.length→opn B cs i=true))
theorem Az6Y (B:List (List Int)) (cs:List Int) (hl:cs.length=B.length) (hB:B.length≤1000):callR 2 Az1I [bD B,pD cs]= .ok (.bl (decide (opB B cs))):=by
 obtain ⟨x,e,f⟩:=O13.stopped_eq B cs hl hB
 have o:=O13.opens_eq _ _ _ e
 rw [o]
 rcases f with ⟨rfl,h⟩|⟨i,hi,oi,_,rfl⟩
 ·rw [decide_eq_true (show opB B cs from h)];rfl
 ·rw [decide_eq_false (fun z:opB B cs=>by have:=z i hi;unfold opn at this;unfold O13.okAt at oi;rw [this] at oi;cases oi)];rfl
theorem NC_of {d s:Int} {cs:List Int} (h:CG d s cs):NC s cs:=fun i hi=>by
 have:=h.nr i hi
 unfold nr
 refine decide_eq_true ?_
 split<;>omega
theorem CG_of {d s:Int} {cs:List Int} (h1:∀ i,i<cs.length→0≤cs.getD i 0∧cs.getD i 0<d) (h2:NC s cs):CG d s cs:=⟨h1,fun i hi=>by
 have:=of_decide_eq_true (h2 i hi)
 split at this<;>omega⟩
theorem Bz3I {d s:Int} {B:List (List Int)} (hB:∀ q∈B,PU d q) (cs:List Int):val s B none cs↔cs.length=B.length∧CG d s cs∧opB B cs:=by
 constructor
 ·intro h
  obtain ⟨h1,h2,h3,_⟩:=Bz6K s B none cs h
  refine ⟨h1,CG_of (fun i hi=> ?_) h3,h2⟩
  have:=of_decide_eq_true (h2 i (by omega))
  have hm:B.getD i []∈B:=by rw [List.getD_eq_getElem?_getD,List.getElem?_eq_getElem (show i<B.length by omega)];exact List.getElem_mem _
  exact (hB _ hm).bd _ this
 ·rintro ⟨h1,h2,h3⟩
  exact val_of s B none cs h1 h3 (NC_of h2) (fun l h=>by cases h)
theorem Bz8B:∀ a:List Int,HT.lexLt a a=false
 | []=>rfl
 |x::a=>by rw [HT.lexLt_cons,if_pos rfl];exact Bz8B a
theorem Bz8A:∀ {a b:List Int},a.length=b.length→HT.lexLt a b=false→a=b∨HT.lexLt b a=true
 | [],[],_,_=> .inl rfl
 | [],_::_,h,_=>by simp at h
 |_::_,[],h,_=>by simp at h
 |x::a,y::b,h,e=>by
  rw [HT.lexLt_cons] at e ⊢
  split at e
  ·rename_i z
   subst z
   rcases Bz8A (by simpa using h) e with r|r
   ·exact .inl (by rw [r])
   ·exact .inr (by rw [if_pos rfl];exact r)
  ·rename_i z
   refine .inr ?_
   rw [if_neg (fun q=>z q.symm)]
   have:=of_decide_eq_false e
   exact decide_eq_true (by omega)
theorem Bz4H:∀ {a b c:List Int},HT.lexLt a b=true→HT.lexLt b c=true→HT.lexLt a c=true
 | [],[],_,h,_=>by simp [HT.lexLt] at h
 | [],_::_,[],_,h=>by simp [HT.lexLt] at h
 | [],_::_,_::_,_,_=>rfl
 |_::_,[],_,h,_=>by simp [HT.lexLt] at h
 |_::_,_::_,[],_,h=>by simp [HT.lexLt] at h
 |x::a,y::b,z::c,h,g=>by
  rw [HT.lexLt_cons] at h g ⊢
  by_cases e1:x=y
  ·rw [if_pos e1] at h
   by_cases e2:y=z
   ·rw [if_pos e2] at g
    rw [if_pos (by omega)];exact Bz4H h g
   ·rw [if_neg e2] at g
    rw [if_neg (by omega)]
    have:=of_decide_eq_true g
    exact decide_eq_true (by omega)
  ·rw [if_neg e1] at h
   have h':=of_decide_eq_true h
   by_cases e2:y=z
   ·rw [if_neg (by omega)]
    exact decide_eq_true (by omega)
   ·rw [if_neg e2] at g
    have:=of_decide_eq_true g
    rw [if_neg (by omega)]
    exact decide_eq_true (by omega)
def Lst (d s:Int) (B:List (List Int)) (c:List Int) (r:Option (List Int)):Prop:=match r with
 |none=>∀ x,x.length=B.length→CG d s x→opB B x→HT.lexLt c x=true→False
 |some y=>y.length=B.length∧CG d s y∧opB B y∧HT.lexLt c y=true∧∀ x,x.length=B.length→CG d s x→opB B x→HT.lexLt c x=true→HT.lexLt x y=false
theorem Bz4D {d s:Int} {cs xs:List Int} (h:CG d s cs) (e:nextI d s cs=none) (hx:CG d s xs) (hl:cs.length=xs.length) (hlt:HT.lexLt cs xs=true):False:=by
 obtain ⟨ys,e',_⟩:=Az7X h hx hl hlt
 rw [e] at e';cases e'
def rR (d:Int) (n:Nat):List (List Int):=List.replicate n ((List.range d.toNat).map fun (j:Nat)=>(j:Int))
theorem rR_pu {d:Int} (hd:d≤100) (n:Nat):∀ q∈rR d n,PU d q:=fun q hq=>by
 rw [(List.mem_replicate.mp hq).2]
 refine ⟨Bz6L _,fun c hc=> ?_,by simp;omega⟩
 obtain ⟨j,hj,rfl⟩:=List.mem_map.mp hc
 have:=List.mem_range.mp hj
 omega
theorem rR_op {d s:Int} {n:Nat} {cs:List Int} (hl:cs.length=n) (h:CG d s cs):opB (rR d n) cs:=fun i hi=>by
 have hi':i<n:=by unfold rR at hi;rw [List.length_replicate] at hi;exact hi
 unfold opn
 refine decide_eq_true ?_
 have e:(rR d n).getD i []=(List.range d.toNat).map fun (j:Nat)=>(j:Int):=by
  unfold rR
  rw [List.getD_eq_getElem?_getD,List.getElem?_replicate,if_pos hi'];rfl
 rw [e]
 have:=h.bd i (by omega)
 exact List.mem_map.mpr ⟨(cs.getD i 0).toNat,List.mem_range.mpr (by omega),by omega⟩
def ahd (d s:Int) (n:Nat) (cs:List Int):Int:=ahP s (rR d n) none cs
theorem ahd_lt {d s:Int} {n:Nat} (hd:d≤100) {a b:List Int} (ha:a.length=n) (hb:b.length=n) (ca:CG d s a) (cb:CG d s b) (h:HT.lexLt a b=true):ahd d s n a<ahd d s n b∧0≤ahd d s n a∧ahd d s n b<tot s none (rR d n):=by
 have hu:∀ q∈rR d n,Up q:=fun q hq=>(rR_pu hd n q hq).up
 have ln:(rR d n).length=n:=by unfold rR;exact List.length_replicate ..
 have va:=(Bz3I (rR_pu hd n) a).mpr ⟨by rw [ln];exact ha,ca,rR_op ha ca⟩
 have vb:=(Bz3I (rR_pu hd n) b).mpr ⟨by rw [ln];exact hb,cb,rR_op hb cb⟩
 obtain ⟨a0,a1,a2⟩:=ah_nth s (rR d n) none a hu va
 obtain ⟨b0,b1',b2'⟩:=ah_nth s (rR d n) none b hu vb
 refine ⟨?_,a0,b1'⟩
 refine Int.lt_of_not_ge fun z=> ?_
 rcases (ah_lex s (rR d n) none b _ hu (by rw [ln];exact hb) a0 a1).2 z with q|q
 ·rw [a2] at q;rw [q,Bz8B] at h;cases h
 ·rw [a2] at q
  rw [Bz8C (by omega) h] at q;cases q
theorem Bz9Y {d s:Int} (hd:d≤5) {n:Nat} (hn:n≤4):tot s none (rR d n)≤625:=by
 rw [←Bz8Y]
 have g:∀ (P:List (List Int)) (last:Option Int),(∀ p∈P,p.length≤5)→(enu s P last).length≤5^P.length:=by
  intro P
  induction P with
  |nil=>intro last _;simp [enu]
  |cons p P ih=>
   intro last h
   have hc:(ch s last p).length≤5:=by
    refine Nat.le_trans ?_ (h p List.mem_cons_self)
    cases last with
    |none=>exact Nat.le_refl _
    |some l=>exact List.length_filter_le _ _
   rw [enu]
   have g:∀ l:List Int,(l.flatMap fun x=>(enu s P (some x)).map (x:: ·)).length≤l.length*5^P.length:=by
    intro l
    induction l with
    |nil=>simp
    |cons a l ih2=>
     rw [List.flatMap_cons,List.length_append,List.length_map,List.length_cons,Nat.succ_mul]
     have:=ih (some a) fun q hq=>h q (List.mem_cons_of_mem _ hq)
     omega
   refine Nat.le_trans (g _) ?_
   rw [List.length_cons,Nat.pow_succ,Nat.mul_comm]
   exact Nat.mul_le_mul_left _ hc
 have:=g (rR d n) none fun p hp=>by rw [(List.mem_replicate.mp hp).2];simp;omega
 have e:(rR d n).length=n:=by unfold rR;exact List.length_replicate ..
 rw [e] at this
 have:=Nat.le_trans this (Nat.pow_le_pow_right (show 0<5 by omega) hn)
 have:(enu s (rR d n) none).length≤625:=this
 omega
theorem Cz4L:notNR .non= .ok (.bl false):=rfl
def Iv (d s:Int) (B:List (List Int)) (c:List Int) (f:Option (List Int)):Prop:=match f with
 |none=>∀ x,x.length=B.length→CG d s x→opB B x→HT.lexLt c x=true→False
 |some y=>y.length=B.length∧CG d s y∧HT.lexLt c y=true∧∀ x,x.length=B.length→CG d s x→opB B x→HT.lexLt c x=true→HT.lexLt x y=false
theorem Cz4Y {d s:Int} (hs:0≤s) {B:List (List Int)} {c:List Int} (hc:c.length=B.length) (h:CG d s c):Iv d s B c (nextI d s c):=by
 cases e:nextI d s c with
 |none=>exact fun x hx cx _ lx=>Bz4D h e cx (by omega) lx
 |some y=>
  obtain ⟨y1,y2,y3⟩:=Az7N hs h e
  refine ⟨by omega,y2,y3,fun x hx cx _ lx=> ?_⟩
  obtain ⟨ys,e',l⟩:=Az7X h cx (by omega) lx
  rw [e] at e';cases e';exact l
theorem Cz8R {d s:Int} (hs:0≤s) {B:List (List Int)} {c y:List Int} (hc:c.length=B.length) (I:Iv d s B c (some y)) (no:¬ opB B y):Iv d s B c (nextI d s y):=by
 obtain ⟨y1,y2,y3,y4⟩:=I
 have gt:∀ x,x.length=B.length→CG d s x→opB B x→HT.lexLt c x=true→HT.lexLt y x=true:=fun x hx cx ox lx=>by
  rcases Bz8A (by omega) (y4 x hx cx ox lx) with z|z
  ·rw [z] at ox;exact absurd ox no
  ·exact z
 cases e:nextI d s y with
 |none=>exact fun x hx cx ox lx=>Bz4D y2 e cx (by omega) (gt x hx cx ox lx)
 |some y'=>
  obtain ⟨z1,z2,z3⟩:=Az7N hs y2 e
  refine ⟨by omega,z2,Bz4H y3 z3,fun x hx cx ox lx=> ?_⟩
  obtain ⟨ys,e',l⟩:=Az7X y2 cx (by omega) (gt x hx cx ox lx)
  rw [e] at e';cases e';exact l
theorem Cz2B (T:D) (p d s:Int) (hd:d≤5) (hs:0≤s) (hp:p≤4) (ep:callR 1 Az0E [T]= .ok (.int p)) (ed:callR 1 Az0D [T]= .ok (.int d)) (es:callR 1 Az0G [T]= .ok (.int s)) (B:List (List Int)) (hB:(B.length:Int)=p) (c:List Int) (hc:c.length=B.length) (cc:CG d s c):
  ∀ (n:Nat) (f:Option (List Int)),Iv d s B c f→(∀ y,f=some y→tot s none (rR d B.length)-ahd d s B.length y<n)→∃ r,whileD Az0S Az3A (n+1) [some (.d T),some (.d (bD B)),some (.d (pD c)),some (.d (optI f))]= .nx [some (.d T),some (.d (bD B)),some (.d (pD c)),some (.d (optI r))]∧Lst d s B c r
 |n,none,I,_=>by
  refine ⟨none,?_,I⟩
  refine Az5I n ?_
  show Az0S [some (.d T),some (.d (bD B)),some (.d (pD c)),some (.d .non)]=_
  have nn:=Cz4L
  unfold Az0S
  simp only [tAnd2,tR,b1,Az0R,Az1F,Res.bind_ok,nn,Az0O,Az8Q,Bool.false_eq_true,if_false,reduceIte]
 |n,some y,I,hm=>by
  have hy:=I.1
  have oe:=Az6Y B y hy (by omega)
  have nn:notNR (pD y)= .ok (.bl true):=rfl
  by_cases ob:opB B y
  ·refine ⟨some y,?_,I.1,I.2.1,ob,I.2.2.1,I.2.2.2⟩
   refine Az5I n ?_
   show Az0S [some (.d T),some (.d (bD B)),some (.d (pD c)),some (.d (pD y))]=_
   rw [decide_eq_true ob] at oe
   generalize pD y=Y at*
   generalize bD B=Bd at*
   unfold Az0S
   simp only [tAnd2,tNot1,tR,b1,aCons,aNil,Az0R,Az1F,Az0P,Az0U,Az0I,Res.bind_ok,nn,oe,Az0O,Az8Q,Bool.not_true,if_true,reduceIte]
  ·rw [decide_eq_false ob] at oe
   have J:=Cz8R hs hc I ob
   have ne:=Cz2N T p d s y (by omega) (by omega) ep ed es
   have ad:=ahd_lt (d:=d) (s:=s) (n:=B.length) (by omega) hc hy cc I.2.1 I.2.2.1
   have h1:1≤n:=by have:=hm y rfl;omega
   obtain ⟨m,rfl⟩:∃ m,n=m+1:=⟨n-1,by omega⟩
   obtain ⟨r,e,l⟩:=Cz2B T p d s hd hs hp ep ed es B hB c hc cc m (nextI d s y) J (fun y' ey=>by
    have:=hm y rfl
    obtain ⟨z1,z2,z3⟩:=Az7N hs I.2.1 ey
    have:=ahd_lt (d:=d) (s:=s) (n:=B.length) (by omega) hy (by omega) I.2.1 z2 z3
    omega)
   refine ⟨r,?_,l⟩
   have c1:Az0S [some (.d T),some (.d (bD B)),some (.d (pD c)),some (.d (optI (some y)))]= .ok true:=by
    show Az0S [some (.d T),some (.d (bD B)),some (.d (pD c)),some (.d (pD y))]=_
    generalize pD y=Y at*
    generalize bD B=Bd at*
    unfold Az0S
    simp only [tAnd2,tNot1,tR,b1,aCons,aNil,Az0R,Az1F,Az0P,Az0U,Az0I,Res.bind_ok,nn,oe,Az0O,Az8Q,Bool.not_false,if_true,reduceIte]
   have b1':Az3A [some (.d T),some (.d (bD B)),some (.d (pD c)),some (.d (optI (some y)))]= .nx [some (.d T),some (.d (bD B)),some (.d (pD c)),some (.d (optI (nextI d s y)))]:=by
    show Az3A [some (.d T),some (.d (bD B)),some (.d (pD c)),some (.d (tupI y))]=_
    unfold Az3A
    simp only [sSet,b1,aCons,aNil,Az0P,Az0U,Az0I,Res.bind_ok,ne,ofR_ok,List.set_cons_zero,List.set_cons_succ]
   rw [Az6T (m+1) c1 b1']
   exact e
theorem Bz7Z (T:D) (p d s:Int) (hd:d≤5) (hs:0≤s) (hp:p≤4) (ep:callR 1 Az0E [T]= .ok (.int p)) (ed:callR 1 Az0D [T]= .ok (.int d)) (es:callR 1 Az0G [T]= .ok (.int s)) (B:List (List Int)) (hB:(B.length:Int)=p) (c:List Int) (hc:c.length=B.length) (cc:CG d s c):
  ∃ r,callR 3 Az1B [T,bD B,pD c]= .ok (optI r)∧Lst d s B c r:=by
 have ne:=Cz2N T p d s c (by omega) (by omega) ep ed es
 have ts:=Bz9Y (d:=d) (s:=s) hd (n:=B.length) (by omega)
 obtain ⟨r,e,l⟩:=Cz2B T p d s hd hs hp ep ed es B hB c hc cc 99999 (nextI d s c) (Cz4Y hs hc cc) (fun y ey=>by
  obtain ⟨z1,z2,z3⟩:=Az7N hs cc ey
  have:=ahd_lt (d:=d) (s:=s) (n:=B.length) (by omega) hc (by omega) cc z2 z3
  omega)
 refine ⟨r,Az0C _ _ _ _ ?_ rfl,l⟩
 have ne':callR 2 Az1R [T,pD c]= .ok (optI (nextI d s c)):=ne
 clear l ts ne
 generalize optI (nextI d s c)=X at*
 generalize optI r=R at*
 generalize pD c=C at*
 generalize bD B=Bd at*
 unfold Az1B Az9D
 simp only [Az2D,startD,List.map_cons,List.map_nil,List.length_cons,List.length_nil,List.cons_append,List.nil_append,Nat.reduceAdd,Nat.reduceSub,List.replicate,sSeq,sSet,b1,aCons,aNil,Az0P,Az0U,Az0I,Res.bind_ok,ne',ofR_ok,List.set_cons_zero,List.set_cons_succ,Az1V,sWhile,e,sRet,Az2C]
section
variable {d s:Int} {B:List (List Int)}
theorem Az7W (hB:∀ q∈B,PU d q) {n:Int} (h0:0≤n) (h1:n<tot s none B):(nthP s B none n).length=B.length∧CG d s (nthP s B none n)∧opB B (nthP s B none n)∧ahP s B none (nthP s B none n)=n:=by
 obtain ⟨e,v⟩:=nth_ah s B none n (fun q hq=>(hB q hq).up) h0 h1
 obtain ⟨a,b,c⟩:=(Bz3I hB _).mp v
 exact ⟨a,b,c,e⟩
theorem nth_lt (hB:∀ q∈B,PU d q) {a b:Int} (h0:0≤a) (h:a<b) (h1:b<tot s none B):HT.lexLt (nthP s B none a) (nthP s B none b)=true:=by
 obtain ⟨l,_,_,e⟩:=Az7W (s:=s) hB (by omega) h1
 exact (ah_lex s B none (nthP s B none b) a (fun q hq=>(hB q hq).up) l h0 (by omega)).1 (by rw [e];exact h)
theorem Az6H (hB:∀ q∈B,PU d q) {z:List Int} (hl:z.length=B.length) (cz:CG d s z) (oz:opB B z):∃ k,0≤k∧k<tot s none B∧z=nthP s B none k:=by
 obtain ⟨a,b,c⟩:=ah_nth s B none z (fun q hq=>(hB q hq).up) ((Bz3I hB z).mpr ⟨hl,cz,oz⟩)
 exact ⟨_,a,b,c.symm⟩
theorem nth_gt (hB:∀ q∈B,PU d q) {n k:Int} (n0:0≤n) (n1:n<tot s none B) (k0:0≤k) (k1:k<tot s none B) (h:HT.lexLt (nthP s B none n) (nthP s B none k)=true):n<k:=by
 refine Int.lt_of_not_ge fun z=> ?_
 rcases Int.lt_or_eq_of_le z with z|z
 ·have:=nth_lt (s:=s) hB k0 z n1
  have l1:=(Az7W (s:=s) hB n0 n1).1
  have l2:=(Az7W (s:=s) hB k0 k1).1
  rw [Bz8C (by omega) h] at this;cases this
 ·rw [z,Bz8B] at h;cases h
theorem Cz8K (hB:∀ q∈B,PU d q) {n:Int} (n0:0≤n) (n1:n<tot s none B) {r:Option (List Int)} (h:Lst d s B (nthP s B none n) r):(n+1<tot s none B→r=some (nthP s B none (n+1)))∧(n+1=tot s none B→r=none):=by
 constructor
 ·intro h2
  obtain ⟨x1,x2,x3,_⟩:=Az7W (s:=s) hB (n:=n+1) (by omega) h2
  have xl:=nth_lt (s:=s) hB n0 (show n<n+1 by omega) h2
  cases r with
  |none=>exact (h _ x1 x2 x3 xl).elim
  |some y=>
   obtain ⟨y1,y2,y3,y4,y5⟩:=h
   obtain ⟨k,k0,k1,rfl⟩:=Az6H (s:=s) hB y1 y2 y3
   have g:=nth_gt (s:=s) hB n0 n1 k0 k1 y4
   have l:=y5 _ x1 x2 x3 xl
   by_cases e:k=n+1
   ·rw [e]
   ·rw [nth_lt (s:=s) hB (show 0≤n+1 by omega) (show n+1<k by omega) k1] at l;cases l
 ·intro h2
  cases r with
  |none=>rfl
  |some y=>
   exfalso
   obtain ⟨y1,y2,y3,y4,y5⟩:=h
   obtain ⟨k,k0,k1,rfl⟩:=Az6H (s:=s) hB y1 y2 y3
   have g:=nth_gt (s:=s) hB n0 n1 k0 k1 y4
   omega
theorem Cz3J (hB:∀ q∈B,PU d q) (hz:CG d s (List.replicate B.length 0)) (oz:opB B (List.replicate B.length 0)):0<tot s none B∧List.replicate B.length 0=nthP s B none 0:=by
 obtain ⟨k,k0,k1,e⟩:=Az6H (s:=s) hB (by simp) hz oz
 refine ⟨by omega,?_⟩
 by_cases h:k=0
 ·subst h;exact e
 ·have l:=nth_lt (s:=s) hB (Int.le_refl 0) (show 0<k by omega) k1
  rw [←e] at l
  obtain ⟨x1,x2,_⟩:=Az7W (s:=s) hB (n:=0) (by omega) (by omega)
  have:=Bz6F x2
  rw [x1] at this
  rw [this] at l;cases l
theorem Cz4T (hB:∀ q∈B,PU d q) (no:¬ opB B (List.replicate B.length 0)) {r:Option (List Int)} (h:Lst d s B (List.replicate B.length 0) r):(0<tot s none B→r=some (nthP s B none 0))∧(tot s none B=0→r=none):=by
 constructor
 ·intro h2
  obtain ⟨x1,x2,x3,_⟩:=Az7W (s:=s) hB (n:=0) (by omega) h2
  have z:=Bz6F x2
  rw [x1] at z
  have xl:HT.lexLt (List.replicate B.length 0) (nthP s B none 0)=true:=by
   rcases Bz8A (by rw [x1];simp) z with q|q
   ·rw [q] at x3;exact absurd x3 no
   ·exact q
  cases r with
  |none=>exact (h _ x1 x2 x3 xl).elim
  |some y=>
   obtain ⟨y1,y2,y3,y4,y5⟩:=h
   obtain ⟨k,k0,k1,rfl⟩:=Az6H (s:=s) hB y1 y2 y3
   have l:=y5 _ x1 x2 x3 xl
   by_cases e:k=0
   ·rw [e]
   ·rw [nth_lt (s:=s) hB (Int.le_refl 0) (show 0<k by omega) k1] at l;cases l
 ·intro h2
  cases r with
  |none=>rfl
  |some y=>
   exfalso
   obtain ⟨y1,y2,y3,y4,y5⟩:=h
   obtain ⟨k,k0,k1,rfl⟩:=Az6H (s:=s) hB y1 y2 y3
   omega
end
theorem Cz6G {d s:Int} (hd:0<d) (hs:0≤s) (n:Nat):CG d s (List.replicate n 0):=by
 have g:∀ i,(List.replicate n (0:Int)).getD i 0=0:=fun i=>by
  rw [List.getD_eq_getElem?_getD,List.getElem?_replicate]
  split<;>rfl
 exact ⟨fun i _=>by rw [g];omega,fun i _=>by rw [g,g];omega⟩
theorem Cz0X (T:D) (p d s:Int) (hd0:0<d) (hd:d≤5) (hs:0≤s) (hp1:1≤p) (hp:p≤4) (ep:callR 1 Az0E [T]= .ok (.int p)) (ed:callR 1 Az0D [T]= .ok (.int d)) (es:callR 1 Az0G [T]= .ok (.int s)) (B:List (List Int)) (hPU:∀ q∈B,PU d q) (hB:(B.length:Int)=p):
  ∃ r,callR 2 Az0Y [T,bD B]= .ok (optI r)∧(0<tot s none B→r=some (nthP s B none 0))∧(tot s none B=0→r=none):=by
 have fe:=Cz2W T p ep hp1 (by omega)
 rw [show p.toNat=B.length by omega] at fe
 have zc:=Cz6G hd0 hs B.length (s:=s)
 have fe':callR 1 Az0T [T]= .ok (pD (List.replicate B.length 0)):=fe
 have oe:=Az6Y B (List.replicate B.length 0) (by simp) (by omega)
 obtain ⟨r,ne,l⟩:=Bz7Z T p d s hd hs hp ep ed es B hB (List.replicate B.length 0) (by simp) zc
 by_cases ob:opB B (List.replicate B.length 0)
 ·obtain ⟨t0,e0⟩:=Cz3J (s:=s) hPU zc ob
  refine ⟨some (List.replicate B.length 0),Az0C _ _ _ _ ?_ rfl,fun _=>by rw [e0],fun z=>by omega⟩
  rw [decide_eq_true ob] at oe
  show _=Res.ok (pD (List.replicate B.length 0))
  clear fe zc ne l e0 t0 ob hPU hB
  generalize pD (List.replicate B.length 0)=Z at*
  generalize bD B=Bd at*
  unfold Az0Y Az6B
  simp only [Az2D,startD,List.map_cons,List.map_nil,List.length_cons,List.length_nil,List.cons_append,List.nil_append,Nat.reduceAdd,Nat.reduceSub,List.replicate,sSeq,sSet,sIf,tR,b1,aCons,aNil,Az0P,Az0U,Az0I,Res.bind_ok,fe',ofR_ok,List.set_cons_zero,List.set_cons_succ,Az1V,oe,Az0O,ifO_ok,if_true,reduceIte,sRet,Az5B,Az2C]
 ·refine ⟨r,Az0C _ _ _ _ ?_ rfl,Cz4T hPU ob l⟩
  rw [decide_eq_false ob] at oe
  clear fe zc l ob hPU hB
  generalize pD (List.replicate B.length 0)=Z at*
  generalize bD B=Bd at*
  generalize optI r=R at*
  unfold Az0Y Az6B
  simp only [Az2D,startD,List.map_cons,List.map_nil,List.length_cons,List.length_nil,List.cons_append,List.nil_append,Nat.reduceAdd,Nat.reduceSub,List.replicate,sSeq,sSet,sIf,tR,b1,aCons,aNil,Az0P,Az0U,Az0I,Res.bind_ok,fe',ofR_ok,List.set_cons_zero,List.set_cons_succ,Az1V,oe,Az0O,ifO_ok,Bool.false_eq_true,if_false,reduceIte,ne,sRet,Az2C]
theorem Cz3Y (p d h s:Int) (cs:List Int) (hp:1≤p) (hp2:p≤4) (hd:d≤20) (hl:(cs.length:Int)=p) (c:CG d s cs):callR 2 Az3S [.tup [.int p, .int d, .int h, .int s], .str (shw 45 cs)]= .ok (pD cs):=by
 have bd:∀ x∈cs,0≤x∧x<20:=fun x hx=>by have:=c.mem x hx;omega
 have e1:callR 2 Az0M [.str (shw 45 cs), .str "-"]= .ok (pD cs):=Bz3Q 45 (by decide) cs (by intro z;rw [z] at hl;simp at hl;omega) (Bz6W cs (by omega) bd).2 bd
 have e2:callR 2 Az0X [.tup [.int p, .int d, .int h, .int s],pD cs]= .ok (.bl true):=by
  have:=Bz1J p d h s (.tup (cs.map D.int)) ⟨by simp [ty_tup],fun ds e x hx=>by cases e;obtain ⟨i,_,rfl⟩:=List.mem_map.mp hx;simp [ty_int]⟩ hp (fun ds e=>by cases e;simp;omega)
  rw [c.isC hl] at this
  exact Az0C _ _ _ _ this rfl
 clear c bd hl
 generalize D.tup [.int p, .int d, .int h, .int s]=T at*
 generalize shw 45 cs=w at*
 generalize pD cs=C at*
 refine Az0C _ _ _ _ ?_ rfl
 unfold Az3S Az9A
 walk_at "ev*"
theorem Cz1P:∀ cs:List Int,canF cs cs=true:=fun cs=>(Cz6A cs cs rfl).mpr fun _ _=>Int.le_refl _
theorem Cz8X (p d h s:Int) (hp:1≤p) (hp2:p≤4) (hd0:0≤d) (hd:d≤20) (ed:callR 1 Az0D [.tup [.int p, .int d, .int h, .int s]]= .ok (.int d)) (es:callR 1 Az0G [.tup [.int p, .int d, .int h, .int s]]= .ok (.int s)) (B:List (List Int)) (hB:∀ q∈B,PU d q) (hl:(B.length:Int)=p) (cs:List Int) (hc:cs.length=B.length) (c:CG d s cs) (o:opB B cs):
  callR 3 Az3T [.tup [.int p, .int d, .int h, .int s],bD B,pD cs]= .ok (.bl true):=by
 have oe:=Az6Y B cs hc (by omega)
 rw [decide_eq_true o] at oe
 have cf:callR 2 Az3X [pD cs,pD cs]= .ok (.bl true):=by
  have:=Bz5X cs cs (by omega)
  rw [Cz1P] at this
  exact Az0C _ _ _ _ this rfl
 have fc:=Bz8T _ d s hd0 (by omega) ed es B hB (by omega) (by omega) cs hc
 have pos:=Dz0C s (fil B cs) cs (fun q hq=>(PU_fil hB cs q hq).up) (by rw [Az8W hc];omega) (by rw [Az8W hc];exact hc) (fun i hi=>Cz7V hc (by rw [Az8W hc] at hi;exact hi) (o i (by rw [Az8W hc] at hi;exact hi))) (NC_of c)
 have lt:ltR (.int (cnt s (fil B cs))) (.int 1)= .ok (.bl false):=by rw [ltR_ii,decide_eq_false (by omega)]
 have sh:callR 1 Az1T [pD cs]= .ok (.str (shw 45 cs)):=(Bz6W cs (by omega) fun x hx=>by have:=c.mem x hx;omega).1
 have rc:=Cz3Y p d h s cs hp hp2 hd (by omega) c
 have eq:=eqR_pD cs
 clear hB pos c o hc hl
 generalize D.tup [.int p, .int d, .int h, .int s]=T at*
 generalize shw 45 cs=w at*
 generalize cnt s (fil B cs)=k at*
 generalize pD cs=C at*
 generalize bD B=Bd at*
 refine Az0C _ _ _ _ ?_ rfl
 unfold Az3T Az9E
 simp only [Az2D,startD,List.map_cons,List.map_nil,List.length_cons,List.length_nil,List.cons_append,List.nil_append,Nat.reduceAdd,Nat.reduceSub,List.replicate,List.append_nil,sSeq,sIf,tOr2,tNot1,tR,b1,b2,kD,aCons,aNil,Az0P,Az0U,Az0R,Az1F,Az0I,Res.bind_ok,oe,cf,fc,lt,Az0O,orB_ok,Bool.not_true,Bool.false_eq_true,if_false,ifO_ok,reduceIte,Az1V,sRet,sh,rc,eq,ofR_ok,Az2C]
theorem Cz4V (S:D) (p d h s:Int) (hp:1≤p) (hp2:p≤4) (hd0:0<d) (hd:d≤5) (hs:0≤s) (B:List (List Int)) (hB:∀ q∈B,PU d q) (hl:(B.length:Int)=p) (n:Int) (n0:0≤n) (n1:n<cnt s B) (x:D):
  (n+1<cnt s B∧Az8A [some (.d S),some (.d (.tup [.int p, .int d, .int h, .int s])),some (.d (bD B)),some (.d (bD B)),some (.d (.int (cnt s B))),some (.d (pD (nthP s B none n))),some (.d (.int n)),some (.d x)]= .nx [some (.d S),some (.d (.tup [.int p, .int d, .int h, .int s])),some (.d (bD B)),some (.d (bD B)),some (.d (.int (cnt s B))),some (.d (pD (nthP s B none (n+1)))),some (.d (.int (n+1))),some (.d x)])
  ∨Az8A [some (.d S),some (.d (.tup [.int p, .int d, .int h, .int s])),some (.d (bD B)),some (.d (bD B)),some (.d (.int (cnt s B))),some (.d (pD (nthP s B none n))),some (.d (.int n)),some (.d x)]= .rt (.bl true):=by
 have ep:callR 1 Az0E [.tup [.int p, .int d, .int h, .int s]]= .ok (.int p):=Az0C _ _ _ _ rfl rfl
 have ed:callR 1 Az0D [.tup [.int p, .int d, .int h, .int s]]= .ok (.int d):=Az0C _ _ _ _ rfl rfl
 have es:callR 1 Az0G [.tup [.int p, .int d, .int h, .int s]]= .ok (.int s):=Az0C _ _ _ _ rfl rfl
 have ct:tot s none B=cnt s B:=by
  cases B with
  |nil=>simp at hl;omega
  |cons q P=>exact Bz1Z s q P
 obtain ⟨x1,x2,x3,x4⟩:=Az7W (s:=s) hB n0 (by rw [ct];exact n1)
 have go:=Cz8X p d h s hp hp2 (by omega) (by omega) ed es B hB hl _ x1 x2 x3
 have ah:=Cz6F _ d s (by omega) (by omega) ed es B hB (by omega) (nthP s B none n) x1
 rw [x4] at ah
 have ne:neR (.int n) (.int n)= .ok (.bl false):=by rw [neR_ii];simp
 obtain ⟨r,le,l⟩:=Bz7Z _ p d s hd hs hp2 ep ed es B hl (nthP s B none n) x1 x2
 obtain ⟨l1,l2⟩:=Cz8K hB n0 (by rw [ct];exact n1) l
 rw [ct] at l1 l2
 have ad:addD (.int n) (.int 1)= .ok (.int (n+1)):=Az9H n 1
 by_cases hc:n+1<cnt s B
 ·left
  refine ⟨hc,?_⟩
  rw [l1 hc] at le
  have le':callR 3 Az1B [.tup [.int p, .int d, .int h, .int s],bD B,pD (nthP s B none n)]= .ok (pD (nthP s B none (n+1))):=le
  have nt:=nth_eq _ d s (by omega) (by omega) ed es B hB (by omega) (by omega) (n+1) (by omega) hc
  have nq:neR (pD (nthP s B none (n+1))) (pD (nthP s B none (n+1)))= .ok (.bl false):=Bz7X _
  have ge:geR (.int (n+1)) (.int (cnt s B))= .ok (.bl false):=by rw [geR_ii,decide_eq_false (by omega)]
  have inn:isNR (pD (nthP s B none (n+1)))= .ok (.bl false):=rfl
  clear hB l l1 l2 x1 x2 x3 x4 le ct
  generalize D.tup [.int p, .int d, .int h, .int s]=T at*
  generalize pD (nthP s B none (n+1))=Y at*
  generalize pD (nthP s B none n)=X at*
  generalize cnt s B=k at*
  generalize bD B=Bd at*
  unfold Az8A
  simp only [sSeq,sSet,sIf,tOr2,tNot1,tR,b1,b2,kD,aCons,aNil,Az0P,Az0U,Az0R,Az1F,Az0I,Res.bind_ok,go,ah,ne,Az0O,orB_ok,Bool.not_true,Bool.false_eq_true,if_false,ifO_ok,reduceIte,Az1V,le',ofR_ok,List.set_cons_zero,List.set_cons_succ,ad,inn,ge,nt,nq]
 ·right
  rw [l2 (by omega)] at le
  have le':callR 3 Az1B [.tup [.int p, .int d, .int h, .int s],bD B,pD (nthP s B none n)]= .ok .non:=le
  have inn:isNR .non= .ok (.bl true):=rfl
  have eq:eqR (.int (n+1)) (.int (cnt s B))= .ok (.bl true):=by rw [eqR_ii,show n+1=cnt s B by omega];simp
  clear hB l l1 l2 x1 x2 x3 x4 le ct
  generalize D.tup [.int p, .int d, .int h, .int s]=T at*
  generalize pD (nthP s B none n)=X at*
  generalize cnt s B=k at*
  generalize bD B=Bd at*
  unfold Az8A
  simp only [sSeq,sSet,sIf,tOr2,tNot1,tR,b1,b2,kD,aCons,aNil,Az0P,Az0U,Az0R,Az1F,Az0I,Res.bind_ok,go,ah,ne,Az0O,orB_ok,Bool.not_true,Bool.false_eq_true,if_false,if_true,ifO_ok,reduceIte,Az1V,le',ofR_ok,List.set_cons_zero,List.set_cons_succ,ad,inn,sRet,eq,Az5B]
theorem eqL_bD:∀ B:List (List Int),eqL (B.map pD) (B.map pD)=true
 | []=>by simp [eqL]
 |q::B=>by
  rw [List.map_cons,eqL,eqL_bD B]
  have:eqD (pD q) (pD q)=true:=by
   show eqD (.tup (q.map D.int)) (.tup (q.map D.int))=true
   rw [eqD];exact Bz8W q
  rw [this];rfl
theorem neR_bD (B:List (List Int)):neR (bD B) (bD B)= .ok (.bl false):=by
 have hs:shal 40 (bD B)=true:=by
  show (B.map pD).all (shal 39)=true
  rw [List.all_eq_true]
  intro x hx
  obtain ⟨q,_,rfl⟩:=List.mem_map.mp hx
  show (q.map D.int).all (shal 38)=true
  rw [List.all_eq_true]
  intro y hy
  obtain ⟨i,_,rfl⟩:=List.mem_map.mp hy
  simp [shal]
 unfold neR
 rw [hs]
 show Res.ok (D.bl (!eqD (.tup (B.map pD)) (.tup (B.map pD))))=_
 rw [show eqD (.tup (B.map pD)) (.tup (B.map pD))=eqL (B.map pD) (B.map pD) from by rw [eqD],eqL_bD];rfl
theorem law_true (ns:List Int) (hls:ns.length≤63):m_law [.lst (ns.map D.int)]= .ok (.bl true):=by
 obtain ⟨p,d,h,s,er,⟨p1,p4⟩,⟨d2,d5⟩,⟨hh1,hh2⟩,s1⟩:=Cz3W ns
 obtain ⟨B,eb,bl,bp⟩:=Cz1Y ns p d h s 4 d2 hh1 (by omega) (by omega) (by decide) (by decide)
 obtain ⟨v,mv⟩:=Az3V ns 50 (by decide) (by decide)
 have hl:(B.length:Int)=p:=by omega
 have ep:callR 1 Az0E [.tup [.int p, .int d, .int h, .int s]]= .ok (.int p):=Az0C _ _ _ _ rfl rfl
 have ed:callR 1 Az0D [.tup [.int p, .int d, .int h, .int s]]= .ok (.int d):=Az0C _ _ _ _ rfl rfl
 have es:callR 1 Az0G [.tup [.int p, .int d, .int h, .int s]]= .ok (.int s):=Az0C _ _ _ _ rfl rfl
 have hB:∀ q∈B,PU d q:=fun q hq=>⟨(bp q hq).up,(bp q hq).bd,by have:=(bp q hq).l5;omega⟩
 have hT:∀ q∈B,PinT q:=fun q hq=>⟨(bp q hq).ne,(bp q hq).l5,fun c hc=>by have:=(bp q hq).bd c hc;omega⟩
 have sb:=Cz0E B (by omega) hT
 have rb:=Cz3Z _ B (by omega) (by omega) hT (Cz1X p d h s B hl (by omega) bp)
 have ce:=Bz9A _ d s (by omega) (by omega) ed es B hB (by omega) (by omega)
 have nb:=neR_bD B
 have fa:callR 1 Az0T [.tup [.int p, .int d, .int h, .int s]]= .ok (pD (List.replicate B.length 0)):=by
  have:=Cz2W _ p ep p1 (by omega)
  rw [show p.toNat=B.length by omega] at this
  exact this
 have fc:=Bz8T _ d s (by omega) (by omega) ed es B hB (by omega) (by omega) (List.replicate B.length 0) (by simp)
 rw [Bz6G B hB] at fc
 have nk:neR (.int (cnt s B)) (.int (cnt s B))= .ok (.bl false):=by rw [neR_ii];simp
 obtain ⟨r,lf,r1,r0⟩:=Cz0X _ p d s (by omega) d5 (by omega) p1 p4 ep ed es B hB hl
 have ct:tot s none B=cnt s B:=by
  cases B with
  |nil=>simp at hl;omega
  |cons q P=>exact Bz1Z s q P
 rw [ct] at r1 r0
 have c0:0≤cnt s B:=by rw [←ct,←Bz8Y];omega
 by_cases hz:cnt s B=0
 ·have ez:eqR (.int (cnt s B)) (.int 0)= .ok (.bl true):=by rw [eqR_ii,hz];rfl
  rw [r0 hz] at lf
  have lf':callR 2 Az0Y [.tup [.int p, .int d, .int h, .int s],bD B]= .ok .non:=lf
  have inn:isNR .non= .ok (.bl true):=rfl
  clear hB hT bp r1 r0 lf hz ct c0 hl bl
  generalize D.tup [.int p, .int d, .int h, .int s]=T at*
  generalize pD (List.replicate B.length 0)=Z at*
  generalize sbar B=w at*
  generalize cnt s B=k at*
  generalize bD B=Bd at*
  generalize D.lst (ns.map D.int)=Sd at*
  unfold m_law b_law
  simp only [Az2D,startD,List.map_cons,List.map_nil,List.length_cons,List.length_nil,List.cons_append,List.nil_append,Nat.reduceAdd,Nat.reduceSub,List.replicate,sSeq,sSet,sIf,tOr2,tR,b1,b2,kD,aCons,aNil,Az0P,Az0U,Az0R,Az1F,Az0I,Res.bind_ok,er,eb,sb,rb,ce,nb,fa,fc,nk,Az0O,orB_ok,Bool.false_eq_true,if_false,if_true,ifO_ok,reduceIte,lf',ofR_ok,List.set_cons_zero,List.set_cons_succ,Az1V,ez,sRet,inn,Az5B,Az2C]
 ·have hpos:0<cnt s B:=by omega
  have ez:eqR (.int (cnt s B)) (.int 0)= .ok (.bl false):=by rw [eqR_ii];simp [hz]
  rw [r1 hpos] at lf
  have lf':callR 2 Az0Y [.tup [.int p, .int d, .int h, .int s],bD B]= .ok (pD (nthP s B none 0)):=lf
  have n0:=nth_eq _ d s (by omega) (by omega) ed es B hB (by omega) (by omega) 0 (by omega) hpos
  have nl:leftR 3 Az3C 0 [.tup [.int p, .int d, .int h, .int s],bD B]= .ok (pD (nthP s B none 0)):=n0
  have nq:neR (pD (nthP s B none 0)) (pD (nthP s B none 0))= .ok (.bl false):=Bz7X _
  have md:modD (.int v) (.int (cnt s B))= .ok (.int (v%cnt s B)):=by rw [Az8V,if_pos hpos]
  have m0:=Int.emod_nonneg v (show cnt s B≠0 by omega)
  have m1:=Int.emod_lt_of_pos v hpos
  generalize v%cnt s B=n at*
  have nn:=nth_eq _ d s (by omega) (by omega) ed es B hB (by omega) (by omega) n m0 m1
  obtain ⟨L,wl⟩:∃ L,(b2F catR (b3 slW (slotP 0) oNone (b1 partR (kD (.int 16)))) (asD (b1 lstR (aCons (kD (.int 0)) aNil)))) [some (.d (.lst (ns.map D.int))),some (.d (.tup [.int p, .int d, .int h, .int s])),some (.d (bD B)),some (.d (bD B)),some (.d (.int (cnt s B))),some (.d (pD (nthP s B none n))),some (.d (.int n)),none]= .ok L:=by
   refine ⟨L3.cutD (ns.map D.int) none (some 16)++ [.int 0],?_⟩
   have lc:(L3.cutD (ns.map D.int) none (some 16)).length≤63:=by
    unfold L3.cutD
    rw [List.length_take,List.length_drop,List.length_map]
    omega
   have cat:catR (.lst (L3.cutD (ns.map D.int) none (some 16))) (.lst [.int 0])= .ok (L3.cutD (ns.map D.int) none (some 16)++ [.int 0]):=by
    refine if_pos (Nat.le_trans (show _≤1000 from ?_) k1000)
    rw [List.length_cons,List.length_nil]
    omega
   simp only [b2F,b3,b1,kD,oNone,asD,lstR,aCons,aNil,Az0R,Az0I,Res.bind_ok,Az7F,slW_l,List.length_cons,List.length_nil,Nat.zero_add,Nat.reduceLeDiff,if_true,reduceIte,cat]
  have fr:=Cz5J (t:=setI 7) (body:=Az8A) (fun i δ=>∃ (n:Int) (y7:Option L3.S),0≤n∧n<cnt s B∧δ= [some (.d (.lst (ns.map D.int))),some (.d (.tup [.int p, .int d, .int h, .int s])),some (.d (bD B)),some (.d (bD B)),some (.d (.int (cnt s B))),some (.d (pD (nthP s B none n))),some (.d (.int n)),y7]) (fun r=>r= .bl true) L
   [some (.d (.lst (ns.map D.int))),some (.d (.tup [.int p, .int d, .int h, .int s])),some (.d (bD B)),some (.d (bD B)),some (.d (.int (cnt s B))),some (.d (pD (nthP s B none n))),some (.d (.int n)),none] (fun i x δ hx hI=>by
    obtain ⟨n,y7,a0,a1,rfl⟩:=hI
    refine ⟨_,rfl,?_⟩
    simp only [List.set_cons_zero,List.set_cons_succ]
    rcases Cz4V (.lst (ns.map D.int)) p d h s p1 p4 (by omega) d5 (by omega) B hB hl n a0 a1 x with ⟨z1,z2⟩|z
    ·exact .inl ⟨_, .inl z2,n+1,_,by omega,z1,rfl⟩
    ·exact .inr ⟨_,z,rfl⟩) ⟨n,none,m0,m1,rfl⟩
  have sq:seqR (.lst L)= .ok L:=rfl
  have wl':=congrArg (fun r=>Res.bind r fun l=>Res.ok (D.lst l)) wl
  have fin:∃ o,forD (setI 7) Az8A L [some (.d (.lst (ns.map D.int))),some (.d (.tup [.int p, .int d, .int h, .int s])),some (.d (bD B)),some (.d (bD B)),some (.d (.int (cnt s B))),some (.d (pD (nthP s B none n))),some (.d (.int n)),none]=o∧((∃ δ2,o= .nx δ2)∨o= .rt (.bl true)):=by
   rcases fr with ⟨δ2,f,_⟩|⟨r,f,rfl⟩
   ·exact ⟨_,f, .inl ⟨_,rfl⟩⟩
   ·exact ⟨_,f, .inr rfl⟩
  obtain ⟨o,fo,ho⟩:=fin
  clear hB hT bp r1 r0 lf hz ct c0 hl bl m0 m1 fr hpos wl' n0
  generalize D.tup [.int p, .int d, .int h, .int s]=T at*
  generalize pD (List.replicate B.length 0)=Z at*
  generalize pD (nthP s B none 0)=N0 at*
  generalize pD (nthP s B none n)=N1 at*
  generalize sbar B=w at*
  generalize cnt s B=k at*
  generalize bD B=Bd at*
  generalize D.lst (ns.map D.int)=Sd at*
  unfold m_law b_law
  generalize (b2F catR (b3 slW (slotP 0) oNone (b1 partR (kD (.int 16)))) (asD (b1 lstR (aCons (kD (.int 0)) aNil))))=fL at*
  simp only [Az2D,startD,List.map_cons,List.map_nil,List.length_cons,List.length_nil,List.cons_append,List.nil_append,Nat.reduceAdd,Nat.reduceSub,List.replicate,sSeq,sSet,sIf,tOr2,tR,b1,b2,kD,asD,aCons,aNil,Az0P,Az0U,Az0R,Az1F,Az0I,Res.bind_ok,er,eb,sb,rb,ce,nb,fa,fc,nk,Az0O,orB_ok,Bool.false_eq_true,if_false,if_true,ifO_ok,reduceIte,lf',ofR_ok,List.set_cons_zero,List.set_cons_succ,Az1V,ez,nl,nq,mv,md,nn,wl,sq,sFor,fo]
  rcases ho with ⟨δ2,rfl⟩|rfl
  ·simp only [Az1V,sRet,kD,ofR_ok,Az2C]
  ·simp only [Az5B,Az2C]
end G
local macro_rules| `(tactic| walk_at "memfree")=> `(tactic| first|exact List.forall_mem_nil _|exact List.forall_mem_cons.mpr ⟨(by intro h;first|exact absurd h (by decide)|exact Or.inl rfl|exact Or.inr rfl),by walk_at "memfree"⟩)
local macro_rules| `(tactic| walk_at "memdis")=> `(tactic| first|exact List.forall_mem_nil _|exact List.forall_mem_cons.mpr ⟨by decide +kernel,by walk_at "memdis"⟩)
local macro_rules| `(tactic| walk_at "compok")=> `(tactic| exact ⟨rfl,by decide +kernel,by walk_at "memfree",rfl,by walk_at "memdis"⟩)
namespace G
open PySem PySem.Spec PyProof.Rows L2 L3
def top (i:Nat):Stmt:=PySem.Challenge.pw_wardsmith_k26_whole_told_one_by_one.main.body.getD i (.Pass ⟨0,0,0,0⟩)
abbrev Az2R:Stmt:=top 48
abbrev Az1Y:Stmt:=top 50
abbrev Az3O:Stmt:=top 14
abbrev Az5M:Stmt:=top 16
abbrev Az2P:Stmt:=top 25
abbrev Az3L:Stmt:=top 13
abbrev Az2L:Stmt:=top 26
abbrev Az3M:Stmt:=top 24
abbrev Az2I:Stmt:=top 46
abbrev Az4D:Stmt:=top 45
abbrev Az3P:Stmt:=top 51
abbrev Az2O:Stmt:=top 23
abbrev Az2S:Stmt:=top 53
abbrev Az4I:Stmt:=top 27
abbrev Az4J:Stmt:=top 20
abbrev Az5J:Stmt:=top 32
abbrev Az5L:Stmt:=top 31
abbrev Az5K:Stmt:=top 30
abbrev Az4H:Stmt:=top 29
abbrev Az1X:Stmt:=top 37
abbrev Az4E:Stmt:=top 8
abbrev Az4F:Stmt:=top 19
abbrev Az5O:Stmt:=top 18
abbrev Az4G:Stmt:=top 9
abbrev Az2M:Stmt:=top 10
abbrev Az2K:Stmt:=top 11
abbrev Az3K:Stmt:=top 21
abbrev Az2J:Stmt:=top 22
abbrev Az3Q:Stmt:=top 52
abbrev Az2Q:Stmt:=top 49
abbrev Az5P:Stmt:=top 33
abbrev Az4K:Stmt:=top 34
abbrev s_pick:Stmt:=top 36
abbrev Az5C:Stmt:=top 35
abbrev Az2N:Stmt:=top 15
abbrev Az6W:Stmt:=top 40
abbrev Az3N:Stmt:=top 39
abbrev Az5N:Stmt:=top 42
abbrev Az1W:Stmt:=top 41
abbrev Az3J:Stmt:=top 44
abbrev Az1P:Stmt:=top 43
abbrev s_law:Stmt:=top 54
structure Txt (K:PySem.W.Frag) (mg:Str→Option Value):Prop where
 n_abs:mg "abs"=none
 n_all:mg "all"=none
 n_bool:mg "bool"=none
 n_dict:mg "dict"=none
 n_enumerate:mg "enumerate"=none
 n_int:mg "int"=none
 n_isinstance:mg "isinstance"=none
 n_len:mg "len"=none
 n_list:mg "list"=none
 n_max:mg "max"=none
 n_min:mg "min"=none
 n_range:mg "range"=none
 n_reversed:mg "reversed"=none
 n_set:mg "set"=none
 n_sorted:mg "sorted"=none
 n_str:mg "str"=none
 n_sum:mg "sum"=none
 n_tuple:mg "tuple"=none
 n_zip:mg "zip"=none
 c_FIGURES:∃ t,mg "FIGURES"=some (.str "0123456789" t)
 c_MOST_FIGURES:∃ t,mg "MOST_FIGURES"=some (.int 3 t)
section
variable {P:Program} {w:World} {K:PySem.W.Frag} {mg:Str→Option Value} {base:Heap}
theorem Bz0V:FnScope ["_law_script","_law_k"] ["_law_script","_law_k"] (Az0A Az2R):=⟨rfl,rfl,rfl,by decide +kernel,rfl,by decide +kernel,by decide +kernel⟩
theorem Bz1F {f:Addr} {fd:FuncData} (F:Fun K "_law_mixed" "_law_mixed" Az2R f fd) (hm:mg "_law_mixed"=some (.ref f)) (T:Txt K mg)  :Fn P w K mg base 1 "_law_mixed" 2 Az0K:=
 fn_def (k:=0) F Bz0V hm (F.binds (ps:= ["_law_script","_law_k"]) fun _ _ _ _ _ _=>us2 fun _ _=>rfl) fun cdv A outer s H E hr=>
  (Az0B (s_if (y_cmp (c_eq (hu40 hr)) (p_var 0) (p_of (x_new (f_lst a_nil)))) (ss_one (s_ret (x_add (p_of (x_mulE (p_var 1) (p_of x_int))) (p_of x_int)))) ss_nil)
  (ss_one (s_ret (x_mod (p_of (x_mulE (p_of (x_add (p_of (x_add (p_of (x_ix (p_var 0) (p_of (x_mod (p_var 1) (p_of (x_len T.n_len (p_var 0))))))) (p_of x_int))) (p_var 1))) (p_of (x_add (p_of x_int) (p_of (x_mulE (p_of x_int) (p_var 1))))))) (p_of x_int)))))
theorem sc__law_barrel:FnScope ["_law_rules_here","_law_script","_law_begin","_law_found","_law_k","_law_many","_law_some"] ["_law_rules_here","_law_script","_law_begin"] (Az0A Az1Y):=⟨rfl,rfl,rfl,by decide +kernel,rfl,by decide +kernel,by decide +kernel⟩
theorem Az9T {f:Addr} {fd:FuncData} (F:Fun K "_law_barrel" "_law_barrel" Az1Y f fd) (hm:mg "_law_barrel"=some (.ref f)) (T:Txt K mg) (F__law_mixed:Fn P w K mg base 1 "_law_mixed" 2 Az0K):Fn P w K mg base 2 "_law_barrel" 3 Az2A:=
 fn_def (k:=1) F sc__law_barrel hm (F.binds (ps:= ["_law_rules_here","_law_script","_law_begin"]) fun _ _ _ _ _ _=>us3 fun _ _ _=>rfl) fun cdv A outer s H E hr=>
  (Az0B (s_own 3 sc__law_barrel.nd (f_lst a_nil))
  (Az0B (s_for PassesOwn.never rfl (Bz3C T.n_range (a_cons (x_ix (p_var 0) (p_of x_int)) a_nil)) (g_name 4 sc__law_barrel.nd) (Az0B (s_set 5 sc__law_barrel.nd (x_add (p_of x_int) (p_of (x_mod (p_of (x_fdiv (p_of (x_call (F__law_mixed.mono (by decide)) hr (a_cons (x_var 1) (a_cons (x_add (p_var 2) (p_var 4)) a_nil)))) (p_of x_int))) (p_of (x_min rfl T.n_min (a_cons (x_ix (p_var 0) (p_of x_int)) (a_cons x_int a_nil))))))))
  (Az0B (by refine s_ownC 6 sc__law_barrel.nd ["_law_j"] ["_law_rules_here","_law_script","_law_begin","_law_found","_law_k","_law_many","_law_some"] (by walk_at "compok") rfl (Bz3C T.n_range (a_cons (x_var 5) a_nil))  ?_;exact (fun C fp pins s H=>⟨(g_name 0 (show List.Nodup (["_law_j","_law_rules_here","_law_script","_law_begin","_law_found","_law_k","_law_many","_law_some"]:List Str) by decide +kernel)),t_nil,(x_mod (p_of (x_call (F__law_mixed.mono (by decide)) hr (a_cons (x_var 2) (a_cons (x_add (p_of (x_add (p_var 3) (p_var 5))) (p_of (x_mulE (p_of x_int) (p_var 0)))) a_nil)))) (p_of (x_ix (p_var 1) (p_of x_int))))⟩))
  (ss_one (Bz7C 3 (Az7R T.n_tuple (p_of (x_new (Cz1I rfl T.n_sorted T.n_set (p_var 6))))))))))
  (ss_one (s_ret (Az7R T.n_tuple (p_var 3))))))
theorem Bz2I:FnScope ["rules"] ["rules"] (Az0A Az3O):=⟨rfl,rfl,rfl,by decide +kernel,rfl,by decide +kernel,by decide +kernel⟩
theorem Bz2U {f:Addr} {fd:FuncData} (F:Fun K "depths_of" "depths_of" Az3O f fd) (hm:mg "depths_of"=some (.ref f)) (T:Txt K mg)  :Fn P w K mg base 1 "depths_of" 1 Az0D:=
 fn_def (k:=0) F Bz2I hm (F.binds (ps:= ["rules"]) fun _ _ _ _ _ _=>us1 fun _=>rfl) fun cdv A outer s H E hr=>
  (ss_one (s_ret (x_ix (p_var 0) (p_of x_int))))
theorem Bz6Y:FnScope ["rules"] ["rules"] (Az0A Az5M):=⟨rfl,rfl,rfl,by decide +kernel,rfl,by decide +kernel,by decide +kernel⟩
theorem Bz7L {f:Addr} {fd:FuncData} (F:Fun K "step_of" "step_of" Az5M f fd) (hm:mg "step_of"=some (.ref f)) (T:Txt K mg)  :Fn P w K mg base 1 "step_of" 1 Az0G:=
 fn_def (k:=0) F Bz6Y hm (F.binds (ps:= ["rules"]) fun _ _ _ _ _ _=>us1 fun _=>rfl) fun cdv A outer s H E hr=>
  (ss_one (s_ret (x_ix (p_var 0) (p_of x_int))))
theorem sc_can_deepen:FnScope ["rules","one","place","deeper"] ["rules","one","place"] (Az0A Az2P):=⟨rfl,rfl,rfl,by decide +kernel,rfl,by decide +kernel,by decide +kernel⟩
theorem Bz1D {f:Addr} {fd:FuncData} (F:Fun K "can_deepen" "can_deepen" Az2P f fd) (hm:mg "can_deepen"=some (.ref f)) (T:Txt K mg) (F_depths_of:Fn P w K mg base 1 "depths_of" 1 Az0D) (F_step_of:Fn P w K mg base 1 "step_of" 1 Az0G):Fn P w K mg base 2 "can_deepen" 3 Az0N:=
 fn_def (k:=1) F sc_can_deepen hm (F.binds (ps:= ["rules","one","place"]) fun _ _ _ _ _ _=>us3 fun _ _ _=>rfl) fun cdv A outer s H E hr=>
  (Az0B (s_set 3 sc_can_deepen.nd (x_add (p_of (x_ix (p_var 1) (p_var 2))) (p_of x_int)))
  (Az0B (s_if (y_cmp c_ge (p_var 3) (p_of (x_call (F_depths_of.mono (by decide)) hr (a_cons (x_var 0) a_nil)))) (ss_one (s_ret x_bl)) ss_nil)
  (ss_one (s_ret (x_or (x_cmp (c_eq (hu40 hr)) (p_var 2) (p_of x_int)) (x_one (x_cmp c_le (p_of (x_sub (p_var 3) (p_of (x_ix (p_var 1) (p_of (x_sub (p_var 2) (p_of x_int))))))) (p_of (x_call (F_step_of.mono (by decide)) hr (a_cons (x_var 0) a_nil))))))))))
theorem Bz2G:FnScope ["rules"] ["rules"] (Az0A Az3L):=⟨rfl,rfl,rfl,by decide +kernel,rfl,by decide +kernel,by decide +kernel⟩
theorem Bz2R {f:Addr} {fd:FuncData} (F:Fun K "places_of" "places_of" Az3L f fd) (hm:mg "places_of"=some (.ref f)) (T:Txt K mg)  :Fn P w K mg base 1 "places_of" 1 Az0E:=
 fn_def (k:=0) F Bz2G hm (F.binds (ps:= ["rules"]) fun _ _ _ _ _ _=>us1 fun _=>rfl) fun cdv A outer s H E hr=>
  (ss_one (s_ret (x_ix (p_var 0) (p_of x_int))))
theorem sc_least_from:FnScope ["rules","start","full"] ["rules","start"] (Az0A Az2L):=⟨rfl,rfl,rfl,by decide +kernel,rfl,by decide +kernel,by decide +kernel⟩
theorem Bz0Z {f:Addr} {fd:FuncData} (F:Fun K "least_from" "least_from" Az2L f fd) (hm:mg "least_from"=some (.ref f)) (T:Txt K mg) (F_places_of:Fn P w K mg base 1 "places_of" 1 Az0E) (F_step_of:Fn P w K mg base 1 "step_of" 1 Az0G):Fn P w K mg base 2 "least_from" 2 Az1J:=
 fn_def (k:=1) F sc_least_from hm (F.binds (ps:= ["rules","start"]) fun _ _ _ _ _ _=>us2 fun _ _=>rfl) fun cdv A outer s H E hr=>
  (Az0B (s_own 2 sc_least_from.nd (Cz5L T.n_list (p_var 1)))
  (Az0B (Bz3P 100000 PassesOwn.never (y_cmp c_lt (p_of (x_len T.n_len (p_var 2))) (p_of (x_call (F_places_of.mono (by decide)) hr (a_cons (x_var 0) a_nil)))) (ss_one (Bz7C 2 (x_max rfl T.n_max (a_cons x_int (a_cons (x_sub (p_of (x_ix (p_var 2) (p_of (x_neg (p_of x_int))))) (p_of (x_call (F_step_of.mono (by decide)) hr (a_cons (x_var 0) a_nil)))) a_nil))))))
  (ss_one (s_ret (Az7R T.n_tuple (p_var 2))))))
theorem sc_next_cuts:FnScope ["rules","one","place"] ["rules","one"] (Az0A Az3M):=⟨rfl,rfl,rfl,by decide +kernel,rfl,by decide +kernel,by decide +kernel⟩
theorem Bz2S {f:Addr} {fd:FuncData} (F:Fun K "next_cuts" "next_cuts" Az3M f fd) (hm:mg "next_cuts"=some (.ref f)) (T:Txt K mg) (F_can_deepen:Fn P w K mg base 2 "can_deepen" 3 Az0N) (F_least_from:Fn P w K mg base 2 "least_from" 2 Az1J):Fn P w K mg base 3 "next_cuts" 2 Az1R:=
 fn_def (k:=2) F sc_next_cuts hm (F.binds (ps:= ["rules","one"]) fun _ _ _ _ _ _=>us2 fun _ _=>rfl) fun cdv A outer s H E hr=>
  (Az0B (s_for PassesOwn.never rfl (Cz5E T.n_range (a_cons (x_sub (p_of (x_len T.n_len (p_var 1))) (p_of x_int)) (a_cons (x_neg (p_of x_int)) (a_cons (x_neg (p_of x_int)) a_nil)))) (g_name 2 sc_next_cuts.nd) (ss_one (s_if (y_val (x_call (F_can_deepen.mono (by decide)) hr (a_cons (x_var 0) (a_cons (x_var 1) (a_cons (x_var 2) a_nil))))) (ss_one (s_ret (x_call (F_least_from.mono (by decide)) hr (a_cons (x_var 0) (a_cons (x_add (p_of (x_slW (p_var 1) o_none (o_some (x_var 2)))) (p_of (x_tup (a_cons (x_add (p_of (x_ix (p_var 1) (p_var 2))) (p_of x_int)) a_nil)))) a_nil))))) ss_nil)))
  (ss_one (s_ret x_non)))
theorem sc_stopped_at:FnScope ["barrel","one","place","pin"] ["barrel","one"] (Az0A Az2I):=⟨rfl,rfl,rfl,by decide +kernel,rfl,by decide +kernel,by decide +kernel⟩
theorem Bz0W {f:Addr} {fd:FuncData} (F:Fun K "stopped_at" "stopped_at" Az2I f fd) (hm:mg "stopped_at"=some (.ref f)) (T:Txt K mg)  :Fn P w K mg base 1 "stopped_at" 2 Az1H:=
 fn_def (k:=0) F sc_stopped_at hm (F.binds (ps:= ["barrel","one"]) fun _ _ _ _ _ _=>us2 fun _ _=>rfl) fun cdv A outer s H E hr=>
  (Az0B (s_for PassesOwn.never rfl (i_enum T.n_enumerate (a_cons (x_var 0) a_nil)) (g_tup rfl (g_cons (g_name 2 sc_stopped_at.nd) (g_cons (g_name 3 sc_stopped_at.nd) g_nil))) (ss_one (s_if (y_nin (p_of (x_ix (p_var 1) (p_var 2))) (p_var 3)) (ss_one (s_ret (x_var 2))) ss_nil)))
  (ss_one (s_ret x_non)))
theorem Bz5B:FnScope ["barrel","one"] ["barrel","one"] (Az0A Az4D):=⟨rfl,rfl,rfl,by decide +kernel,rfl,by decide +kernel,by decide +kernel⟩
theorem Bz5I {f:Addr} {fd:FuncData} (F:Fun K "opens_at" "opens_at" Az4D f fd) (hm:mg "opens_at"=some (.ref f)) (T:Txt K mg) (F_stopped_at:Fn P w K mg base 1 "stopped_at" 2 Az1H):Fn P w K mg base 2 "opens_at" 2 Az1I:=
 fn_def (k:=1) F Bz5B hm (F.binds (ps:= ["barrel","one"]) fun _ _ _ _ _ _=>us2 fun _ _=>rfl) fun cdv A outer s H E hr=>
  (ss_one (s_ret (x_isN (p_of (x_call (F_stopped_at.mono (by decide)) hr (a_cons (x_var 0) (a_cons (x_var 1) a_nil)))))))
theorem sc__law_next:FnScope ["_law_rules_here","_law_barrel_here","_law_one","_law_found"] ["_law_rules_here","_law_barrel_here","_law_one"] (Az0A Az3P):=⟨rfl,rfl,rfl,by decide +kernel,rfl,by decide +kernel,by decide +kernel⟩
theorem Bz2V {f:Addr} {fd:FuncData} (F:Fun K "_law_next" "_law_next" Az3P f fd) (hm:mg "_law_next"=some (.ref f)) (T:Txt K mg) (F_next_cuts:Fn P w K mg base 3 "next_cuts" 2 Az1R) (F_opens_at:Fn P w K mg base 2 "opens_at" 2 Az1I):Fn P w K mg base 4 "_law_next" 3 Az1B:=
 fn_def (k:=3) F sc__law_next hm (F.binds (ps:= ["_law_rules_here","_law_barrel_here","_law_one"]) fun _ _ _ _ _ _=>us3 fun _ _ _=>rfl) fun cdv A outer s H E hr=>
  (Az0B (s_set 3 sc__law_next.nd (x_call (F_next_cuts.mono (by decide)) hr (a_cons (x_var 0) (a_cons (x_var 2) a_nil))))
  (Az0B (Bz3P 100000 PassesOwn.never (y_w (w_and (y_notN (p_var 3)) (w_and1 (y_not (y_val (x_call (F_opens_at.mono (by decide)) hr (a_cons (x_var 1) (a_cons (x_var 3) a_nil)))))))) (ss_one (s_set 3 sc__law_next.nd (x_call (F_next_cuts.mono (by decide)) hr (a_cons (x_var 0) (a_cons (x_var 3) a_nil))))))
  (ss_one (s_ret (x_var 3)))))
theorem Bz0U:FnScope ["rules"] ["rules"] (Az0A Az2O):=⟨rfl,rfl,rfl,by decide +kernel,rfl,by decide +kernel,by decide +kernel⟩
theorem Bz1C {f:Addr} {fd:FuncData} (F:Fun K "first_cuts" "first_cuts" Az2O f fd) (hm:mg "first_cuts"=some (.ref f)) (T:Txt K mg) (F_places_of:Fn P w K mg base 1 "places_of" 1 Az0E):Fn P w K mg base 2 "first_cuts" 1 Az0T:=
 fn_def (k:=1) F Bz0U hm (F.binds (ps:= ["rules"]) fun _ _ _ _ _ _=>us1 fun _=>rfl) fun cdv A outer s H E hr=>
  (ss_one (s_ret (x_mulE (p_of (x_tup (a_cons x_int a_nil))) (p_of (x_call (F_places_of.mono (by decide)) hr (a_cons (x_var 0) a_nil))))))
theorem sc__law_first:FnScope ["_law_rules_here","_law_barrel_here","_law_one"] ["_law_rules_here","_law_barrel_here"] (Az0A Az2S):=⟨rfl,rfl,rfl,by decide +kernel,rfl,by decide +kernel,by decide +kernel⟩
theorem Bz1G {f:Addr} {fd:FuncData} (F:Fun K "_law_first" "_law_first" Az2S f fd) (hm:mg "_law_first"=some (.ref f)) (T:Txt K mg) (F__law_next:Fn P w K mg base 4 "_law_next" 3 Az1B) (F_first_cuts:Fn P w K mg base 2 "first_cuts" 1 Az0T) (F_opens_at:Fn P w K mg base 2 "opens_at" 2 Az1I):Fn P w K mg base 5 "_law_first" 2 Az0Y:=
 fn_def (k:=4) F sc__law_first hm (F.binds (ps:= ["_law_rules_here","_law_barrel_here"]) fun _ _ _ _ _ _=>us2 fun _ _=>rfl) fun cdv A outer s H E hr=>
  (Az0B (s_set 2 sc__law_first.nd (x_call (F_first_cuts.mono (by decide)) hr (a_cons (x_var 0) a_nil)))
  (Az0B (s_if (y_val (x_call (F_opens_at.mono (by decide)) hr (a_cons (x_var 1) (a_cons (x_var 2) a_nil)))) (ss_one (s_ret (x_var 2))) ss_nil)
  (ss_one (s_ret (x_call (F__law_next.mono (by decide)) hr (a_cons (x_var 0) (a_cons (x_var 1) (a_cons (x_var 2) a_nil))))))))
theorem Bz5G:FnScope ["one","other"] ["one","other"] (Az0A Az4I):=⟨rfl,rfl,rfl,by decide +kernel,rfl,by decide +kernel,by decide +kernel⟩
theorem Bz5O {f:Addr} {fd:FuncData} (F:Fun K "can_file" "can_file" Az4I f fd) (hm:mg "can_file"=some (.ref f)) (T:Txt K mg)  :Fn P w K mg base 1 "can_file" 2 Az3X:=
 fn_def (k:=0) F Bz5G hm (F.binds (ps:= ["one","other"]) fun _ _ _ _ _ _=>us2 fun _ _=>rfl) fun cdv A outer s H E hr=>
  (ss_one (s_ret (x_all rfl T.n_all (p_of (x_new (f_comp ["cut","goal"] ["one","other"] (by walk_at "compok") rfl (i_zip T.n_zip (a_cons (x_var 0) (a_cons (x_var 1) a_nil))) (fun C fp pins s H=>⟨(g_tup rfl (g_cons (g_name 0 (show List.Nodup (["cut","goal","one","other"]:List Str) by decide +kernel)) (g_cons (g_name 1 (show List.Nodup (["cut","goal","one","other"]:List Str) by decide +kernel)) g_nil))),t_nil,(x_cmp c_ge (p_var 1) (p_var 0))⟩)))))))
theorem Bz5H:FnScope ["rules","depth","beside"] ["rules","depth","beside"] (Az0A Az4J):=⟨rfl,rfl,rfl,by decide +kernel,rfl,by decide +kernel,by decide +kernel⟩
theorem Bz5P {f:Addr} {fd:FuncData} (F:Fun K "are_near" "are_near" Az4J f fd) (hm:mg "are_near"=some (.ref f)) (T:Txt K mg) (F_step_of:Fn P w K mg base 1 "step_of" 1 Az0G):Fn P w K mg base 2 "are_near" 3 Az1A:=
 fn_def (k:=1) F Bz5H hm (F.binds (ps:= ["rules","depth","beside"]) fun _ _ _ _ _ _=>us3 fun _ _ _=>rfl) fun cdv A outer s H E hr=>
  (ss_one (s_ret (x_cmp c_le (p_of (x_abs T.n_abs (p_of (x_sub (p_var 1) (p_var 2))))) (p_of (x_call (F_step_of.mono (by decide)) hr (a_cons (x_var 0) a_nil))))))
theorem Bz6X:FnScope ["rules","depth","behind"] ["rules","depth","behind"] (Az0A Az5J):=⟨rfl,rfl,rfl,by decide +kernel,rfl,by decide +kernel,by decide +kernel⟩
theorem Bz7I {f:Addr} {fd:FuncData} (F:Fun K "ways_on" "ways_on" Az5J f fd) (hm:mg "ways_on"=some (.ref f)) (T:Txt K mg) (F_are_near:Fn P w K mg base 2 "are_near" 3 Az1A):Fn P w K mg base 3 "ways_on" 3 Az2E:=
 fn_def (k:=2) F Bz6X hm (F.binds (ps:= ["rules","depth","behind"]) fun _ _ _ _ _ _=>us3 fun _ _ _=>rfl) fun cdv A outer s H E hr=>
  (Az0B (s_if (y_cmp (c_eq (hu40 hr)) (p_of (x_len T.n_len (p_var 2))) (p_of x_int)) (ss_one (s_ret x_int)) ss_nil)
  (ss_one (s_ret (x_sum rfl T.n_sum (p_of (x_new (f_comp ["beside","many"] ["rules","depth","behind"] (by walk_at "compok") rfl (Bz4J (x_ix (p_var 2) (p_of x_int))) (fun C fp pins s H=>⟨(g_tup rfl (g_cons (g_name 0 (show List.Nodup (["beside","many","rules","depth","behind"]:List Str) by decide +kernel)) (g_cons (g_name 1 (show List.Nodup (["beside","many","rules","depth","behind"]:List Str) by decide +kernel)) g_nil))),(t_one (y_val (x_call (F_are_near.mono (by decide)) hr (a_cons (x_var 2) (a_cons (x_var 3) (a_cons (x_var 0) a_nil)))))),(x_var 1)⟩))))))))
theorem sc_ways_at:FnScope ["rules","pin","behind","here","depth"] ["rules","pin","behind"] (Az0A Az5L):=⟨rfl,rfl,rfl,by decide +kernel,rfl,by decide +kernel,by decide +kernel⟩
theorem Bz7K {f:Addr} {fd:FuncData} (F:Fun K "ways_at" "ways_at" Az5L f fd) (hm:mg "ways_at"=some (.ref f)) (T:Txt K mg) (F_depths_of:Fn P w K mg base 1 "depths_of" 1 Az0D) (F_ways_on:Fn P w K mg base 3 "ways_on" 3 Az2E):Fn P w K mg base 4 "ways_at" 3 Az5R:=
 fn_def (k:=3) F sc_ways_at hm (F.binds (ps:= ["rules","pin","behind"]) fun _ _ _ _ _ _=>us3 fun _ _ _=>rfl) fun cdv A outer s H E hr=>
  (Az0B (s_ownQ 3 sc_ways_at.nd)
  (Az0B (s_for PassesOwn.never rfl (Bz3C T.n_range (a_cons (x_call (F_depths_of.mono (by decide)) hr (a_cons (x_var 0) a_nil)) a_nil)) (g_name 4 sc_ways_at.nd) (ss_one (s_if (y_in (p_var 4) (p_var 1)) (ss_one (s_puti 3 (x_call (F_ways_on.mono (by decide)) hr (a_cons (x_var 0) (a_cons (x_var 4) (a_cons (x_var 2) a_nil)))) (x_var 4))) ss_nil)))
  (ss_one (s_frz 3 (s_retV 3)))))
theorem sc_ways_of:FnScope ["rules","barrel","ways","pin"] ["rules","barrel"] (Az0A Az5K):=⟨rfl,rfl,rfl,by decide +kernel,rfl,by decide +kernel,by decide +kernel⟩
theorem Bz7J {f:Addr} {fd:FuncData} (F:Fun K "ways_of" "ways_of" Az5K f fd) (hm:mg "ways_of"=some (.ref f)) (T:Txt K mg) (F_ways_at:Fn P w K mg base 4 "ways_at" 3 Az5R):Fn P w K mg base 5 "ways_of" 2 Az2F:=
 fn_def (k:=4) F sc_ways_of hm (F.binds (ps:= ["rules","barrel"]) fun _ _ _ _ _ _=>us2 fun _ _=>rfl) fun cdv A outer s H E hr=>
  (Az0B (s_set 2 sc_ways_of.nd (x_new (f_lst a_nil)))
  (Az0B (s_for PassesOwn.never rfl (i_rev T.n_reversed (a_cons (x_var 1) a_nil)) (g_name 3 sc_ways_of.nd) (ss_one (s_set 2 sc_ways_of.nd (x_new (f_cat (p_of (x_new (f_lst (a_cons (x_call (F_ways_at.mono (by decide)) hr (a_cons (x_var 0) (a_cons (x_var 3) (a_cons (x_var 2) a_nil)))) a_nil)))) (p_var 2))))))
  (ss_one (s_ret (x_var 2)))))
theorem Bz5F:FnScope ["rules","barrel"] ["rules","barrel"] (Az0A Az4H):=⟨rfl,rfl,rfl,by decide +kernel,rfl,by decide +kernel,by decide +kernel⟩
theorem Bz5N {f:Addr} {fd:FuncData} (F:Fun K "count_of" "count_of" Az4H f fd) (hm:mg "count_of"=some (.ref f)) (T:Txt K mg) (F_ways_of:Fn P w K mg base 5 "ways_of" 2 Az2F):Fn P w K mg base 6 "count_of" 2 Az2Z:=
 fn_def (k:=5) F Bz5F hm (F.binds (ps:= ["rules","barrel"]) fun _ _ _ _ _ _=>us2 fun _ _=>rfl) fun cdv A outer s H E hr=>
  (ss_one (s_ret (x_sumV rfl T.n_sum (x_ix (p_of (x_call (F_ways_of.mono (by decide)) hr (a_cons (x_var 0) (a_cons (x_var 1) a_nil)))) (p_of x_int)))))
theorem sc_filed_count:FnScope ["rules","barrel","one","deeper"] ["rules","barrel","one"] (Az0A Az1X):=⟨rfl,rfl,rfl,by decide +kernel,rfl,by decide +kernel,by decide +kernel⟩
theorem Az9S {f:Addr} {fd:FuncData} (F:Fun K "filed_count" "filed_count" Az1X f fd) (hm:mg "filed_count"=some (.ref f)) (T:Txt K mg) (F_count_of:Fn P w K mg base 6 "count_of" 2 Az2Z):Fn P w K mg base 7 "filed_count" 3 Az0W:=
 fn_def (k:=6) F sc_filed_count hm (F.binds (ps:= ["rules","barrel","one"]) fun _ _ _ _ _ _=>us3 fun _ _ _=>rfl) fun cdv A outer s H E hr=>
  (Az0B (by refine s_ownC 3 sc_filed_count.nd ["pin","cut"] ["rules","barrel","one","deeper"] (by walk_at "compok") rfl (i_zip T.n_zip (a_cons (x_var 1) (a_cons (x_var 2) a_nil)))  ?_;exact (fun C fp pins s H=>⟨(g_tup rfl (g_cons (g_name 0 (show List.Nodup (["pin","cut","rules","barrel","one","deeper"]:List Str) by decide +kernel)) (g_cons (g_name 1 (show List.Nodup (["pin","cut","rules","barrel","one","deeper"]:List Str) by decide +kernel)) g_nil))),t_nil,(Az7R T.n_tuple (p_of (x_new (f_comp ["height"] ["pin","cut","rules","barrel","one","deeper"] (by walk_at "compok") rfl (i_seq (x_var 0)) (fun C fp pins s H=>⟨(g_name 0 (show List.Nodup (["height","pin","cut","rules","barrel","one","deeper"]:List Str) by decide +kernel)),(t_one (y_cmp c_ge (p_var 0) (p_var 2))),(x_var 0)⟩)))))⟩))
  (ss_one (s_ret (x_call (F_count_of.mono (by decide)) hr (a_cons (x_var 0) (a_cons (Az7R T.n_tuple (p_var 3)) a_nil))))))
theorem Bz5C:FnScope ["thing"] ["thing"] (Az0A Az4E):=⟨rfl,rfl,rfl,by decide +kernel,rfl,by decide +kernel,by decide +kernel⟩
theorem Bz5K {f:Addr} {fd:FuncData} (F:Fun K "is_whole" "is_whole" Az4E f fd) (hm:mg "is_whole"=some (.ref f)) (T:Txt K mg)  :Fn P w K mg base 1 "is_whole" 1 Az0Q:=
 fn_def (k:=0) F Bz5C hm (F.binds (ps:= ["thing"]) fun _ _ _ _ _ _=>us1 fun _=>rfl) fun cdv A outer s H E hr=>
  (ss_one (s_ret (x_and (x_isi Cz8S (by decide +kernel) T.n_isinstance T.n_int (p_var 0)) (x_one (x_not (x_isi Cz5A (by decide +kernel) T.n_isinstance T.n_bool (p_var 0)))))))
theorem Bz5D:FnScope ["rules","thing"] ["rules","thing"] (Az0A Az4F):=⟨rfl,rfl,rfl,by decide +kernel,rfl,by decide +kernel,by decide +kernel⟩
theorem Bz5L {f:Addr} {fd:FuncData} (F:Fun K "is_depth" "is_depth" Az4F f fd) (hm:mg "is_depth"=some (.ref f)) (T:Txt K mg) (F_depths_of:Fn P w K mg base 1 "depths_of" 1 Az0D) (F_is_whole:Fn P w K mg base 1 "is_whole" 1 Az0Q):Fn P w K mg base 2 "is_depth" 2 Az1L:=
 fn_def (k:=1) F Bz5D hm (F.binds (ps:= ["rules","thing"]) fun _ _ _ _ _ _=>us2 fun _ _=>rfl) fun cdv A outer s H E hr=>
  (ss_one (s_ret (x_and (x_call (F_is_whole.mono (by decide)) hr (a_cons (x_var 1) a_nil)) (x_one (Cz6K c_le c_lt (p_of x_int) (p_var 1) (p_of (x_call (F_depths_of.mono (by decide)) hr (a_cons (x_var 0) a_nil))))))))
theorem Bz7A:FnScope ["rules","thing"] ["rules","thing"] (Az0A Az5O):=⟨rfl,rfl,rfl,by decide +kernel,rfl,by decide +kernel,by decide +kernel⟩
theorem Bz7N {f:Addr} {fd:FuncData} (F:Fun K "is_cuts" "is_cuts" Az5O f fd) (hm:mg "is_cuts"=some (.ref f)) (T:Txt K mg) (F_are_near:Fn P w K mg base 2 "are_near" 3 Az1A) (F_is_depth:Fn P w K mg base 2 "is_depth" 2 Az1L) (F_places_of:Fn P w K mg base 1 "places_of" 1 Az0E):Fn P w K mg base 3 "is_cuts" 2 Az0X:=
 fn_def (k:=2) F Bz7A hm (F.binds (ps:= ["rules","thing"]) fun _ _ _ _ _ _=>us2 fun _ _=>rfl) fun cdv A outer s H E hr=>
  (Az0B (s_if (y_w (w_or (y_not (y_val (x_isi Az9V (by decide +kernel) T.n_isinstance T.n_tuple (p_var 1)))) (w_or1 (y_cmp (c_ne (hu40 hr)) (p_of (x_len T.n_len (p_var 1))) (p_of (x_call (F_places_of.mono (by decide)) hr (a_cons (x_var 0) a_nil))))))) (ss_one (s_ret x_bl)) ss_nil)
  (Az0B (s_if (y_not (y_val (x_all rfl T.n_all (p_of (x_new (f_comp ["cut"] ["rules","thing"] (by walk_at "compok") rfl (i_seq (x_var 1)) (fun C fp pins s H=>⟨(g_name 0 (show List.Nodup (["cut","rules","thing"]:List Str) by decide +kernel)),t_nil,(x_call (F_is_depth.mono (by decide)) hr (a_cons (x_var 1) (a_cons (x_var 0) a_nil)))⟩))))))) (ss_one (s_ret x_bl)) ss_nil)
  (ss_one (s_ret (x_all rfl T.n_all (p_of (x_new (f_comp ["before","cut"] ["rules","thing"] (by walk_at "compok") rfl (i_zip T.n_zip (a_cons (x_var 1) (a_cons (x_slW (p_var 1) (o_some x_int) o_none) a_nil))) (fun C fp pins s H=>⟨(g_tup rfl (g_cons (g_name 0 (show List.Nodup (["before","cut","rules","thing"]:List Str) by decide +kernel)) (g_cons (g_name 1 (show List.Nodup (["before","cut","rules","thing"]:List Str) by decide +kernel)) g_nil))),t_nil,(x_call (F_are_near.mono (by decide)) hr (a_cons (x_var 2) (a_cons (x_var 0) (a_cons (x_var 1) a_nil))))⟩)))))))))
theorem Bz5E:FnScope ["text","signs"] ["text","signs"] (Az0A Az4G):=⟨rfl,rfl,rfl,by decide +kernel,rfl,by decide +kernel,by decide +kernel⟩
theorem Bz5M {f:Addr} {fd:FuncData} (F:Fun K "has_only" "has_only" Az4G f fd) (hm:mg "has_only"=some (.ref f)) (T:Txt K mg)  :Fn P w K mg base 1 "has_only" 2 Az4L:=
 fn_def (k:=0) F Bz5E hm (F.binds (ps:= ["text","signs"]) fun _ _ _ _ _ _=>us2 fun _ _=>rfl) fun cdv A outer s H E hr=>
  (ss_one (s_ret (x_all rfl T.n_all (p_of (x_new (f_comp ["sign"] ["text","signs"] (by walk_at "compok") rfl (i_str (x_var 0)) (fun C fp pins s H=>⟨(g_name 0 (show List.Nodup (["sign","text","signs"]:List Str) by decide +kernel)),t_nil,(x_in (p_var 0) (p_var 2))⟩)))))))
theorem Bz0S:FnScope ["text","most"] ["text","most"] (Az0A Az2M):=⟨rfl,rfl,rfl,by decide +kernel,rfl,by decide +kernel,by decide +kernel⟩
theorem Bz1A {f:Addr} {fd:FuncData} (F:Fun K "is_written" "is_written" Az2M f fd) (hm:mg "is_written"=some (.ref f)) (T:Txt K mg) (F_has_only:Fn P w K mg base 1 "has_only" 2 Az4L):Fn P w K mg base 2 "is_written" 2 Az1K:=
 fn_def (k:=1) F Bz0S hm (F.binds (ps:= ["text","most"]) fun _ _ _ _ _ _=>us2 fun _ _=>rfl) fun cdv A outer s H E hr=>
  (Az0B (s_if (y_w (w_or (y_not (Bz3H c_le c_le (p_of x_int) (p_of (x_len T.n_len (p_var 0))) (p_var 1))) (w_or1 (y_not (y_val (x_call (F_has_only.mono (by decide)) hr (a_cons (x_var 0) (a_cons (Cz6H T.c_FIGURES) a_nil)))))))) (ss_one (s_ret x_bl)) ss_nil)
  (ss_one (s_ret (x_or (x_cmp (c_eq (hu40 hr)) (p_var 0) (p_of x_str)) (x_one (x_cmp (c_ne (hu40 hr)) (p_of (x_ix (p_var 0) (p_of x_int))) (p_of x_str)))))))
theorem sc_numbers_in:FnScope ["thing","mark","parts"] ["thing","mark"] (Az0A Az2K):=⟨rfl,rfl,rfl,by decide +kernel,rfl,by decide +kernel,by decide +kernel⟩
theorem Bz0Y {f:Addr} {fd:FuncData} (F:Fun K "numbers_in" "numbers_in" Az2K f fd) (hm:mg "numbers_in"=some (.ref f)) (T:Txt K mg) (F_is_written:Fn P w K mg base 2 "is_written" 2 Az1K):Fn P w K mg base 3 "numbers_in" 2 Az0M:=
 fn_def (k:=2) F sc_numbers_in hm (F.binds (ps:= ["thing","mark"]) fun _ _ _ _ _ _=>us2 fun _ _=>rfl) fun cdv A outer s H E hr=>
  (Az0B (s_if (y_not (y_val (x_isi Cz2T (by decide +kernel) T.n_isinstance T.n_str (p_var 0)))) (ss_one (s_ret x_non)) ss_nil)
  (Az0B (s_set 2 sc_numbers_in.nd (x_new (Cz2Y (x_var 0) (a_cons (x_var 1) a_nil))))
  (Az0B (s_if (y_not (y_val (x_all rfl T.n_all (p_of (x_new (f_comp ["part"] ["thing","mark","parts"] (by walk_at "compok") rfl (i_seq (x_var 2)) (fun C fp pins s H=>⟨(g_name 0 (show List.Nodup (["part","thing","mark","parts"]:List Str) by decide +kernel)),t_nil,(x_call (F_is_written.mono (by decide)) hr (a_cons (x_var 0) (a_cons (Cz6I T.c_MOST_FIGURES) a_nil)))⟩))))))) (ss_one (s_ret x_non)) ss_nil)
  (ss_one (s_ret (Az7R T.n_tuple (p_of (x_new (f_comp ["part"] ["thing","mark","parts"] (by walk_at "compok") rfl (i_seq (x_var 2)) (fun C fp pins s H=>⟨(g_name 0 (show List.Nodup (["part","thing","mark","parts"]:List Str) by decide +kernel)),t_nil,(x_intS T.n_int (p_var 0))⟩))))))))))
theorem sc_read_cuts:FnScope ["rules","text","one"] ["rules","text"] (Az0A Az3K):=⟨rfl,rfl,rfl,by decide +kernel,rfl,by decide +kernel,by decide +kernel⟩
theorem Bz2Q {f:Addr} {fd:FuncData} (F:Fun K "read_cuts" "read_cuts" Az3K f fd) (hm:mg "read_cuts"=some (.ref f)) (T:Txt K mg) (F_is_cuts:Fn P w K mg base 3 "is_cuts" 2 Az0X) (F_numbers_in:Fn P w K mg base 3 "numbers_in" 2 Az0M):Fn P w K mg base 4 "read_cuts" 2 Az3S:=
 fn_def (k:=3) F sc_read_cuts hm (F.binds (ps:= ["rules","text"]) fun _ _ _ _ _ _=>us2 fun _ _=>rfl) fun cdv A outer s H E hr=>
  (Az0B (s_set 2 sc_read_cuts.nd (x_call (F_numbers_in.mono (by decide)) hr (a_cons (x_var 1) (a_cons x_str a_nil))))
  (Az0B (s_if (y_not (y_val (x_call (F_is_cuts.mono (by decide)) hr (a_cons (x_var 0) (a_cons (x_var 2) a_nil))))) (ss_one s_no) ss_nil)
  (ss_one (s_ret (x_var 2)))))
theorem Bz0R:FnScope ["one"] ["one"] (Az0A Az2J):=⟨rfl,rfl,rfl,by decide +kernel,rfl,by decide +kernel,by decide +kernel⟩
theorem Bz0X {f:Addr} {fd:FuncData} (F:Fun K "shown_cuts" "shown_cuts" Az2J f fd) (hm:mg "shown_cuts"=some (.ref f)) (T:Txt K mg)  :Fn P w K mg base 1 "shown_cuts" 1 Az1T:=
 fn_def (k:=0) F Bz0R hm (F.binds (ps:= ["one"]) fun _ _ _ _ _ _=>us1 fun _=>rfl) fun cdv A outer s H E hr=>
  (ss_one (s_ret (x_join x_str (a_cons (x_new (f_comp ["cut"] ["one"] (by walk_at "compok") rfl (i_seq (x_var 0)) (fun C fp pins s H=>⟨(g_name 0 (show List.Nodup (["cut","one"]:List Str) by decide +kernel)),t_nil,(Cz2A hr T.n_str (p_var 0))⟩))) a_nil))))
theorem Bz2J:FnScope ["_law_rules_here","_law_barrel_here","_law_one"] ["_law_rules_here","_law_barrel_here","_law_one"] (Az0A Az3Q):=⟨rfl,rfl,rfl,by decide +kernel,rfl,by decide +kernel,by decide +kernel⟩
theorem Bz2W {f:Addr} {fd:FuncData} (F:Fun K "_law_good" "_law_good" Az3Q f fd) (hm:mg "_law_good"=some (.ref f)) (T:Txt K mg) (F_can_file:Fn P w K mg base 1 "can_file" 2 Az3X) (F_filed_count:Fn P w K mg base 7 "filed_count" 3 Az0W) (F_opens_at:Fn P w K mg base 2 "opens_at" 2 Az1I) (F_read_cuts:Fn P w K mg base 4 "read_cuts" 2 Az3S) (F_shown_cuts:Fn P w K mg base 1 "shown_cuts" 1 Az1T):Fn P w K mg base 8 "_law_good" 3 Az3T:=
 fn_def (k:=7) F Bz2J hm (F.binds (ps:= ["_law_rules_here","_law_barrel_here","_law_one"]) fun _ _ _ _ _ _=>us3 fun _ _ _=>rfl) fun cdv A outer s H E hr=>
  (Az0B (s_if (y_w (w_or (y_not (y_val (x_call (F_opens_at.mono (by decide)) hr (a_cons (x_var 1) (a_cons (x_var 2) a_nil))))) (w_or (y_not (y_val (x_call (F_can_file.mono (by decide)) hr (a_cons (x_var 2) (a_cons (x_var 2) a_nil))))) (w_or1 (y_cmp c_lt (p_of (x_call (F_filed_count.mono (by decide)) hr (a_cons (x_var 0) (a_cons (x_var 1) (a_cons (x_var 2) a_nil))))) (p_of x_int)))))) (ss_one (s_ret x_bl)) ss_nil)
  (ss_one (s_ret (x_cmp (c_eq (hu40 hr)) (p_of (x_call (F_read_cuts.mono (by decide)) hr (a_cons (x_var 0) (a_cons (x_call (F_shown_cuts.mono (by decide)) hr (a_cons (x_var 2) a_nil)) a_nil)))) (p_var 2)))))
theorem sc__law_rules:FnScope ["_law_script","_law_depths","_law_places"] ["_law_script"] (Az0A Az2Q):=⟨rfl,rfl,rfl,by decide +kernel,rfl,by decide +kernel,by decide +kernel⟩
theorem Bz1E {f:Addr} {fd:FuncData} (F:Fun K "_law_rules" "_law_rules" Az2Q f fd) (hm:mg "_law_rules"=some (.ref f)) (T:Txt K mg) (F__law_mixed:Fn P w K mg base 1 "_law_mixed" 2 Az0K):Fn P w K mg base 2 "_law_rules" 1 Az2U:=
 fn_def (k:=1) F sc__law_rules hm (F.binds (ps:= ["_law_script"]) fun _ _ _ _ _ _=>us1 fun _=>rfl) fun cdv A outer s H E hr=>
  (Az0B (s_set 1 sc__law_rules.nd (x_add (p_of x_int) (p_of (x_mod (p_of (x_call (F__law_mixed.mono (by decide)) hr (a_cons (x_var 0) (a_cons x_int a_nil)))) (p_of x_int)))))
  (Az0B (s_set 2 sc__law_rules.nd (x_add (p_of x_int) (p_of (x_mod (p_of (x_call (F__law_mixed.mono (by decide)) hr (a_cons (x_var 0) (a_cons x_int a_nil)))) (p_of x_int)))))
  (ss_one (s_ret (x_tup (a_cons (x_var 2) (a_cons (x_var 1) (a_cons (x_add (p_of x_int) (p_of (x_mod (p_of (x_call (F__law_mixed.mono (by decide)) hr (a_cons (x_var 0) (a_cons x_int a_nil)))) (p_var 1)))) (a_cons (x_add (p_of x_int) (p_of (x_mod (p_of (x_call (F__law_mixed.mono (by decide)) hr (a_cons (x_var 0) (a_cons x_int a_nil)))) (p_of (x_sub (p_var 1) (p_of x_int)))))) a_nil)))))))))
theorem sc_choices:FnScope ["rules","ways","start","here"] ["rules","ways","start"] (Az0A Az5P):=⟨rfl,rfl,rfl,by decide +kernel,rfl,by decide +kernel,by decide +kernel⟩
theorem Bz7O {f:Addr} {fd:FuncData} (F:Fun K "choices" "choices" Az5P f fd) (hm:mg "choices"=some (.ref f)) (T:Txt K mg) (F_are_near:Fn P w K mg base 2 "are_near" 3 Az1A):Fn P w K mg base 3 "choices" 3 Az2V:=
 fn_def (k:=2) F sc_choices hm (F.binds (ps:= ["rules","ways","start"]) fun _ _ _ _ _ _=>us3 fun _ _ _=>rfl) fun cdv A outer s H E hr=>
  (Az0B (s_set 3 sc_choices.nd (x_ix (p_var 1) (p_of (x_len T.n_len (p_var 2)))))
  (Az0B (s_if (y_cmp (c_eq (hu40 hr)) (p_of (x_len T.n_len (p_var 2))) (p_of x_int)) (ss_one (s_ret (x_var 3))) ss_nil)
  (ss_one (s_ret (Cz6J rfl T.n_dict (p_of (x_new (f_comp ["depth","many"] ["rules","ways","start","here"] (by walk_at "compok") rfl (Bz4J (x_var 3)) (fun C fp pins s H=>⟨(g_tup rfl (g_cons (g_name 0 (show List.Nodup (["depth","many","rules","ways","start","here"]:List Str) by decide +kernel)) (g_cons (g_name 1 (show List.Nodup (["depth","many","rules","ways","start","here"]:List Str) by decide +kernel)) g_nil))),(t_one (y_val (x_call (F_are_near.mono (by decide)) hr (a_cons (x_var 2) (a_cons (x_ix (p_var 4) (p_of (x_neg (p_of x_int)))) (a_cons (x_var 0) a_nil)))))),(x_tup (a_cons (x_var 0) (a_cons (x_var 1) a_nil)))⟩)))))))))
theorem sc_ahead_of:FnScope ["rules","barrel","one","ways","ahead","place","cut","here"] ["rules","barrel","one"] (Az0A Az4K):=⟨rfl,rfl,rfl,by decide +kernel,rfl,by decide +kernel,by decide +kernel⟩
theorem Bz5Q {f:Addr} {fd:FuncData} (F:Fun K "ahead_of" "ahead_of" Az4K f fd) (hm:mg "ahead_of"=some (.ref f)) (T:Txt K mg) (F_choices:Fn P w K mg base 3 "choices" 3 Az2V) (F_ways_of:Fn P w K mg base 5 "ways_of" 2 Az2F):Fn P w K mg base 6 "ahead_of" 3 Az4M:=
 fn_def (k:=5) F sc_ahead_of hm (F.binds (ps:= ["rules","barrel","one"]) fun _ _ _ _ _ _=>us3 fun _ _ _=>rfl) fun cdv A outer s H E hr=>
  (Az0B (s_set 3 sc_ahead_of.nd (x_call (F_ways_of.mono (by decide)) hr (a_cons (x_var 0) (a_cons (x_var 1) a_nil))))
  (Az0B (s_set 4 sc_ahead_of.nd x_int)
  (Az0B (s_for PassesOwn.never rfl (i_enum T.n_enumerate (a_cons (x_var 2) a_nil)) (g_tup rfl (g_cons (g_name 5 sc_ahead_of.nd) (g_cons (g_name 6 sc_ahead_of.nd) g_nil))) (Az0B (s_set 7 sc_ahead_of.nd (x_call (F_choices.mono (by decide)) hr (a_cons (x_var 0) (a_cons (x_var 3) (a_cons (x_slW (p_var 2) o_none (o_some (x_var 5))) a_nil)))))
  (Az0B (s_aug 4 sc_ahead_of.nd (x_sum rfl T.n_sum (p_of (x_new (f_comp ["depth","many"] ["rules","barrel","one","ways","ahead","place","cut","here"] (by walk_at "compok") rfl (Bz4J (x_var 7)) (fun C fp pins s H=>⟨(g_tup rfl (g_cons (g_name 0 (show List.Nodup (["depth","many","rules","barrel","one","ways","ahead","place","cut","here"]:List Str) by decide +kernel)) (g_cons (g_name 1 (show List.Nodup (["depth","many","rules","barrel","one","ways","ahead","place","cut","here"]:List Str) by decide +kernel)) g_nil))),(t_one (y_cmp c_lt (p_var 0) (p_var 8))),(x_var 1)⟩))))))
  (ss_one (s_if (y_ninQ (p_var 6) (q_var 7)) (ss_one Cz6W) ss_nil)))))
  (ss_one (s_ret (x_var 4))))))
theorem sc_pick:FnScope ["here","left","ahead","depth","many"] ["here","left"] (Az0A s_pick):=⟨rfl,rfl,rfl,by decide +kernel,rfl,by decide +kernel,by decide +kernel⟩
theorem Cz8E {f:Addr} {fd:FuncData} (F:Fun K "pick" "pick" s_pick f fd) (hm:mg "pick"=some (.ref f)) (T:Txt K mg)  :Fn P w K mg base 1 "pick" 2 m_pick:=
 fn_def (k:=0) F sc_pick hm (F.binds (ps:= ["here","left"]) fun _ _ _ _ _ _=>us2 fun _ _=>rfl) fun cdv A outer s H E hr=>
  (Az0B (s_set 2 sc_pick.nd x_int)
  (Az0B (s_for PassesOwn.never rfl (Bz4J (x_var 0)) (g_tup rfl (g_cons (g_name 3 sc_pick.nd) (g_cons (g_name 4 sc_pick.nd) g_nil))) (Az0B (s_if (y_cmp c_lt (p_var 1) (p_of (x_add (p_var 2) (p_var 4)))) (ss_one (s_ret (x_tup (a_cons (x_var 3) (a_cons (x_sub (p_var 1) (p_var 2)) a_nil))))) ss_nil)
  (ss_one (s_aug 2 sc_pick.nd (x_var 4)))))
  (ss_one (s_ret x_non))))
theorem sc_nth_of:FnScope ["rules","barrel","n","ways","start","left","picked"] ["rules","barrel","n"] (Az0A Az5C):=⟨rfl,rfl,rfl,by decide +kernel,rfl,by decide +kernel,by decide +kernel⟩
theorem Cz0O {f:Addr} {fd:FuncData} {dt:Addr} {oT:Obj} {v0:Value} {un:Nat} (hT:K.lookup dt=some oT) (hsT:oT.data= .seq #[v0] un) (F:FunD K "nth_of" "nth_of" Az5C f fd (.ref dt)) (hm:mg "nth_of"=some (.ref f)) (T:Txt K mg) (F_choices:Fn P w K mg base 3 "choices" 3 Az2V) (F_is_whole:Fn P w K mg base 1 "is_whole" 1 Az0Q) (F_pick:Fn P w K mg base 1 "pick" 2 m_pick) (F_ways_of:Fn P w K mg base 5 "ways_of" 2 Az2F):Fn P w K mg base 6 "nth_of" 3 Az3C:=
 Cz8Z (k:=5) F sc_nth_of hm (F.binds1 hT hsT (ps:= ["rules","barrel","n"]) fun _ _ _ _ _ _ us hl=>match us,hl with| [_,_,_],_=>⟨_,rfl,rfl⟩) fun cdv A outer s H E hr=>
  (Az0B (s_set 3 sc_nth_of.nd (x_call (F_ways_of.mono (by decide)) hr (a_cons (x_var 0) (a_cons (x_var 1) a_nil))))
  (Az0B (s_if (y_w (w_or (y_not (y_val (x_call (F_is_whole.mono (by decide)) hr (a_cons (x_var 2) a_nil)))) (w_or1 (y_not (Bz3H c_le c_lt (p_of x_int) (p_var 2) (p_of (x_sumV rfl T.n_sum (x_ix (p_var 3) (p_of x_int))))))))) (ss_one s_no) ss_nil)
  (Az0B (s_set 4 sc_nth_of.nd (x_tup a_nil))
  (Az0B (s_set 5 sc_nth_of.nd (x_var 2))
  (Az0B (Bz3P 100000 PassesOwn.never (y_cmp c_lt (p_of (x_len T.n_len (p_var 4))) (p_of (x_len T.n_len (p_var 3)))) (Az0B (s_set 6 sc_nth_of.nd (x_call (F_pick.mono (by decide)) hr (a_cons (x_call (F_choices.mono (by decide)) hr (a_cons (x_var 0) (a_cons (x_var 3) (a_cons (x_var 4) a_nil)))) (a_cons (x_var 5) a_nil))))
  (Az0B (s_set 4 sc_nth_of.nd (x_add (p_var 4) (p_of (x_tup (a_cons (x_ix (p_var 6) (p_of x_int)) a_nil)))))
  (ss_one (s_set 5 sc_nth_of.nd (x_ix (p_var 6) (p_of x_int)))))))
  (ss_one (s_ret (x_var 4))))))))
theorem Bz5J {f:Addr} {fd:FuncData} {dt:Addr} {oT:Obj} {t0:Tok} {un:Nat} (hT:K.lookup dt=some oT) (hsT:oT.data= .seq #[.int 0 t0] un) (F:FunD K "nth_of" "nth_of" Az5C f fd (.ref dt)) (hm:mg "nth_of"=some (.ref f)) (T:Txt K mg) (F_choices:Fn P w K mg base 3 "choices" 3 Az2V) (F_is_whole:Fn P w K mg base 1 "is_whole" 1 Az0Q) (F_pick:Fn P w K mg base 1 "pick" 2 m_pick) (F_ways_of:Fn P w K mg base 5 "ways_of" 2 Az2F):FnL P w K mg base 6 "nth_of" 3 Az3C 0:=
 Cz8Y (k:=5) F sc_nth_of hm (F.bindsL hT hsT (ps:= ["rules","barrel","n"]) fun _ _ _ _ _ _ us hl=>match us,hl with| [_,_],_=>⟨_,rfl,rfl⟩) ⟨_,rfl⟩ fun cdv A outer s H E hr=>
  (Az0B (s_set 3 sc_nth_of.nd (x_call (F_ways_of.mono (by decide)) hr (a_cons (x_var 0) (a_cons (x_var 1) a_nil))))
  (Az0B (s_if (y_w (w_or (y_not (y_val (x_call (F_is_whole.mono (by decide)) hr (a_cons (x_var 2) a_nil)))) (w_or1 (y_not (Bz3H c_le c_lt (p_of x_int) (p_var 2) (p_of (x_sumV rfl T.n_sum (x_ix (p_var 3) (p_of x_int))))))))) (ss_one s_no) ss_nil)
  (Az0B (s_set 4 sc_nth_of.nd (x_tup a_nil))
  (Az0B (s_set 5 sc_nth_of.nd (x_var 2))
  (Az0B (Bz3P 100000 PassesOwn.never (y_cmp c_lt (p_of (x_len T.n_len (p_var 4))) (p_of (x_len T.n_len (p_var 3)))) (Az0B (s_set 6 sc_nth_of.nd (x_call (F_pick.mono (by decide)) hr (a_cons (x_call (F_choices.mono (by decide)) hr (a_cons (x_var 0) (a_cons (x_var 3) (a_cons (x_var 4) a_nil)))) (a_cons (x_var 5) a_nil))))
  (Az0B (s_set 4 sc_nth_of.nd (x_add (p_var 4) (p_of (x_tup (a_cons (x_ix (p_var 6) (p_of x_int)) a_nil)))))
  (ss_one (s_set 5 sc_nth_of.nd (x_ix (p_var 6) (p_of x_int)))))))
  (ss_one (s_ret (x_var 4))))))))
theorem Bz0T:FnScope ["rules"] ["rules"] (Az0A Az2N):=⟨rfl,rfl,rfl,by decide +kernel,rfl,by decide +kernel,by decide +kernel⟩
theorem Bz1B {f:Addr} {fd:FuncData} (F:Fun K "heights_of" "heights_of" Az2N f fd) (hm:mg "heights_of"=some (.ref f)) (T:Txt K mg)  :Fn P w K mg base 1 "heights_of" 1 Az1M:=
 fn_def (k:=0) F Bz0T hm (F.binds (ps:= ["rules"]) fun _ _ _ _ _ _=>us1 fun _=>rfl) fun cdv A outer s H E hr=>
  (ss_one (s_ret (x_ix (p_var 0) (p_of x_int))))
theorem Cz0I:FnScope ["rules","thing"] ["rules","thing"] (Az0A Az6W):=⟨rfl,rfl,rfl,by decide +kernel,rfl,by decide +kernel,by decide +kernel⟩
theorem Cz0P {f:Addr} {fd:FuncData} (F:Fun K "is_pin" "is_pin" Az6W f fd) (hm:mg "is_pin"=some (.ref f)) (T:Txt K mg) (F_heights_of:Fn P w K mg base 1 "heights_of" 1 Az1M) (F_is_depth:Fn P w K mg base 2 "is_depth" 2 Az1L):Fn P w K mg base 3 "is_pin" 2 Az3D:=
 fn_def (k:=2) F Cz0I hm (F.binds (ps:= ["rules","thing"]) fun _ _ _ _ _ _=>us2 fun _ _=>rfl) fun cdv A outer s H E hr=>
  (Az0B (s_if (y_w (w_or (y_not (y_val (x_isi Az9V (by decide +kernel) T.n_isinstance T.n_tuple (p_var 1)))) (w_or1 (y_not (Bz3H c_le c_le (p_of x_int) (p_of (x_len T.n_len (p_var 1))) (p_of (x_call (F_heights_of.mono (by decide)) hr (a_cons (x_var 0) a_nil)))))))) (ss_one (s_ret x_bl)) ss_nil)
  (Az0B (s_if (y_not (y_val (x_all rfl T.n_all (p_of (x_new (f_comp ["height"] ["rules","thing"] (by walk_at "compok") rfl (i_seq (x_var 1)) (fun C fp pins s H=>⟨(g_name 0 (show List.Nodup (["height","rules","thing"]:List Str) by decide +kernel)),t_nil,(x_call (F_is_depth.mono (by decide)) hr (a_cons (x_var 1) (a_cons (x_var 0) a_nil)))⟩))))))) (ss_one (s_ret x_bl)) ss_nil)
  (ss_one (s_ret (x_all rfl T.n_all (p_of (x_new (f_comp ["below","height"] ["rules","thing"] (by walk_at "compok") rfl (i_zip T.n_zip (a_cons (x_var 1) (a_cons (x_slW (p_var 1) (o_some x_int) o_none) a_nil))) (fun C fp pins s H=>⟨(g_tup rfl (g_cons (g_name 0 (show List.Nodup (["below","height","rules","thing"]:List Str) by decide +kernel)) (g_cons (g_name 1 (show List.Nodup (["below","height","rules","thing"]:List Str) by decide +kernel)) g_nil))),t_nil,(x_cmp c_lt (p_var 0) (p_var 1))⟩)))))))))
theorem Bz2H:FnScope ["rules","thing"] ["rules","thing"] (Az0A Az3N):=⟨rfl,rfl,rfl,by decide +kernel,rfl,by decide +kernel,by decide +kernel⟩
theorem Bz2T {f:Addr} {fd:FuncData} (F:Fun K "is_barrel" "is_barrel" Az3N f fd) (hm:mg "is_barrel"=some (.ref f)) (T:Txt K mg) (F_is_pin:Fn P w K mg base 3 "is_pin" 2 Az3D) (F_places_of:Fn P w K mg base 1 "places_of" 1 Az0E):Fn P w K mg base 4 "is_barrel" 2 Az2T:=
 fn_def (k:=3) F Bz2H hm (F.binds (ps:= ["rules","thing"]) fun _ _ _ _ _ _=>us2 fun _ _=>rfl) fun cdv A outer s H E hr=>
  (Az0B (s_if (y_w (w_or (y_not (y_val (x_isi Az9V (by decide +kernel) T.n_isinstance T.n_tuple (p_var 1)))) (w_or1 (y_cmp (c_ne (hu40 hr)) (p_of (x_len T.n_len (p_var 1))) (p_of (x_call (F_places_of.mono (by decide)) hr (a_cons (x_var 0) a_nil))))))) (ss_one (s_ret x_bl)) ss_nil)
  (ss_one (s_ret (x_all rfl T.n_all (p_of (x_new (f_comp ["pin"] ["rules","thing"] (by walk_at "compok") rfl (i_seq (x_var 1)) (fun C fp pins s H=>⟨(g_name 0 (show List.Nodup (["pin","rules","thing"]:List Str) by decide +kernel)),t_nil,(x_call (F_is_pin.mono (by decide)) hr (a_cons (x_var 1) (a_cons (x_var 0) a_nil)))⟩))))))))
theorem Bz6Z:FnScope ["thing"] ["thing"] (Az0A Az5N):=⟨rfl,rfl,rfl,by decide +kernel,rfl,by decide +kernel,by decide +kernel⟩
theorem Bz7M {f:Addr} {fd:FuncData} (F:Fun K "pins_in" "pins_in" Az5N f fd) (hm:mg "pins_in"=some (.ref f)) (T:Txt K mg) (F_numbers_in:Fn P w K mg base 3 "numbers_in" 2 Az0M):Fn P w K mg base 4 "pins_in" 1 Az5S:=
 fn_def (k:=3) F Bz6Z hm (F.binds (ps:= ["thing"]) fun _ _ _ _ _ _=>us1 fun _=>rfl) fun cdv A outer s H E hr=>
  (Az0B (s_if (y_not (y_val (x_isi Cz2T (by decide +kernel) T.n_isinstance T.n_str (p_var 0)))) (ss_one (s_ret x_non)) ss_nil)
  (ss_one (s_ret (Az7R T.n_tuple (p_of (x_new (f_comp ["part"] ["thing"] (by walk_at "compok") rfl (i_seq (x_new (Cz2Y (x_var 0) (a_cons x_str a_nil)))) (fun C fp pins s H=>⟨(g_name 0 (show List.Nodup (["part","thing"]:List Str) by decide +kernel)),t_nil,(x_call (F_numbers_in.mono (by decide)) hr (a_cons (x_var 0) (a_cons x_str a_nil)))⟩))))))))
theorem sc_read_barrel:FnScope ["rules","text","barrel"] ["rules","text"] (Az0A Az1W):=⟨rfl,rfl,rfl,by decide +kernel,rfl,by decide +kernel,by decide +kernel⟩
theorem Az9R {f:Addr} {fd:FuncData} (F:Fun K "read_barrel" "read_barrel" Az1W f fd) (hm:mg "read_barrel"=some (.ref f)) (T:Txt K mg) (F_is_barrel:Fn P w K mg base 4 "is_barrel" 2 Az2T) (F_pins_in:Fn P w K mg base 4 "pins_in" 1 Az5S):Fn P w K mg base 5 "read_barrel" 2 Az1Z:=
 fn_def (k:=4) F sc_read_barrel hm (F.binds (ps:= ["rules","text"]) fun _ _ _ _ _ _=>us2 fun _ _=>rfl) fun cdv A outer s H E hr=>
  (Az0B (s_set 2 sc_read_barrel.nd (x_call (F_pins_in.mono (by decide)) hr (a_cons (x_var 1) a_nil)))
  (Az0B (s_if (y_not (y_val (x_call (F_is_barrel.mono (by decide)) hr (a_cons (x_var 0) (a_cons (x_var 2) a_nil))))) (ss_one s_no) ss_nil)
  (ss_one (s_ret (x_var 2)))))
theorem Bz2F:FnScope ["pin"] ["pin"] (Az0A Az3J):=⟨rfl,rfl,rfl,by decide +kernel,rfl,by decide +kernel,by decide +kernel⟩
theorem Bz2P {f:Addr} {fd:FuncData} (F:Fun K "shown_pin" "shown_pin" Az3J f fd) (hm:mg "shown_pin"=some (.ref f)) (T:Txt K mg)  :Fn P w K mg base 1 "shown_pin" 1 Az3R:=
 fn_def (k:=0) F Bz2F hm (F.binds (ps:= ["pin"]) fun _ _ _ _ _ _=>us1 fun _=>rfl) fun cdv A outer s H E hr=>
  (ss_one (s_ret (x_join x_str (a_cons (x_new (f_comp ["height"] ["pin"] (by walk_at "compok") rfl (i_seq (x_var 0)) (fun C fp pins s H=>⟨(g_name 0 (show List.Nodup (["height","pin"]:List Str) by decide +kernel)),t_nil,(Cz2A hr T.n_str (p_var 0))⟩))) a_nil))))
theorem Az8R:FnScope ["barrel"] ["barrel"] (Az0A Az1P):=⟨rfl,rfl,rfl,by decide +kernel,rfl,by decide +kernel,by decide +kernel⟩
theorem Az8T {f:Addr} {fd:FuncData} (F:Fun K "shown_barrel" "shown_barrel" Az1P f fd) (hm:mg "shown_barrel"=some (.ref f)) (T:Txt K mg) (F_shown_pin:Fn P w K mg base 1 "shown_pin" 1 Az3R):Fn P w K mg base 2 "shown_barrel" 1 Az1Q:=
 fn_def (k:=1) F Az8R hm (F.binds (ps:= ["barrel"]) fun _ _ _ _ _ _=>us1 fun _=>rfl) fun cdv A outer s H E hr=>
  (ss_one (s_ret (x_join x_str (a_cons (x_new (f_comp ["pin"] ["barrel"] (by walk_at "compok") rfl (i_seq (x_var 0)) (fun C fp pins s H=>⟨(g_name 0 (show List.Nodup (["pin","barrel"]:List Str) by decide +kernel)),t_nil,(x_call (F_shown_pin.mono (by decide)) hr (a_cons (x_var 0) a_nil))⟩))) a_nil))))
theorem sc_law:FnScope ["_law_script","_law_rules_here","_law_drawn","_law_barrel_here","_law_many","_law_here","_law_n","_law_cell"] ["_law_script"] (Az0A s_law):=⟨rfl,rfl,rfl,by decide +kernel,rfl,by decide +kernel,by decide +kernel⟩
theorem ok_law {f:Addr} {fd:FuncData} (F:Fun K "law" "law" s_law f fd) (T:Txt K mg) (F__law_barrel:Fn P w K mg base 2 "_law_barrel" 3 Az2A) (F__law_first:Fn P w K mg base 5 "_law_first" 2 Az0Y) (F__law_good:Fn P w K mg base 8 "_law_good" 3 Az3T) (F__law_mixed:Fn P w K mg base 1 "_law_mixed" 2 Az0K) (F__law_next:Fn P w K mg base 4 "_law_next" 3 Az1B) (F__law_rules:Fn P w K mg base 2 "_law_rules" 1 Az2U) (F_ahead_of:Fn P w K mg base 6 "ahead_of" 3 Az4M) (F_count_of:Fn P w K mg base 6 "count_of" 2 Az2Z) (F_filed_count:Fn P w K mg base 7 "filed_count" 3 Az0W) (F_first_cuts:Fn P w K mg base 2 "first_cuts" 1 Az0T) (F_nth_of:Fn P w K mg base 6 "nth_of" 3 Az3C) (F_read_barrel:Fn P w K mg base 5 "read_barrel" 2 Az1Z) (F_shown_barrel:Fn P w K mg base 2 "shown_barrel" 1 Az1Q) (F_nth_of_L:FnL P w K mg base 6 "nth_of" 3 Az3C 0):FnOk P w K mg base CX0 9 f fd ["_law_script"] (spD K 1 m_law):=
 fn_law (k:=8) F sc_law fun cdv A outer s H E hr=>
  (Az0B (s_set 1 sc_law.nd (x_call (F__law_rules.mono (by decide)) hr (a_cons (x_var 0) a_nil)))
  (Az0B (s_set 2 sc_law.nd (x_call (F__law_barrel.mono (by decide)) hr (a_cons (x_var 1) (a_cons (x_var 0) (a_cons x_int a_nil)))))
  (Az0B (s_set 3 sc_law.nd (x_call (F_read_barrel.mono (by decide)) hr (a_cons (x_var 1) (a_cons (x_call (F_shown_barrel.mono (by decide)) hr (a_cons (x_var 2) a_nil)) a_nil))))
  (Az0B (s_set 4 sc_law.nd (x_call (F_count_of.mono (by decide)) hr (a_cons (x_var 1) (a_cons (x_var 3) a_nil))))
  (Az0B (s_if (y_w (w_or (y_cmp (c_ne (hu40 hr)) (p_var 3) (p_var 2)) (w_or1 (y_cmp (c_ne (hu40 hr)) (p_of (x_call (F_filed_count.mono (by decide)) hr (a_cons (x_var 1) (a_cons (x_var 3) (a_cons (x_call (F_first_cuts.mono (by decide)) hr (a_cons (x_var 1) a_nil)) a_nil))))) (p_var 4))))) (ss_one (s_ret x_bl)) ss_nil)
  (Az0B (s_set 5 sc_law.nd (x_call (F__law_first.mono (by decide)) hr (a_cons (x_var 1) (a_cons (x_var 3) a_nil))))
  (Az0B (s_if (y_cmp (c_eq (hu40 hr)) (p_var 4) (p_of x_int)) (ss_one (s_ret (x_isN (p_var 5)))) ss_nil)
  (Az0B (s_if (y_cmp (c_ne (hu40 hr)) (p_var 5) (p_of (x_left (F_nth_of_L.mono (by decide)) hr (a_cons (x_var 1) (a_cons (x_var 3) a_nil))))) (ss_one (s_ret x_bl)) ss_nil)
  (Az0B (s_set 6 sc_law.nd (x_mod (p_of (x_call (F__law_mixed.mono (by decide)) hr (a_cons (x_var 0) (a_cons x_int a_nil)))) (p_var 4)))
  (Az0B (s_set 5 sc_law.nd (x_call (F_nth_of.mono (by decide)) hr (a_cons (x_var 1) (a_cons (x_var 3) (a_cons (x_var 6) a_nil)))))
  (Az0B (s_for PassesOwn.never rfl (i_seq (x_new (f_cat (p_of (x_slW (p_var 0) o_none (o_some x_int))) (p_of (x_new (f_lst (a_cons x_int a_nil))))))) (g_name 7 sc_law.nd) (Az0B (s_if (y_w (w_or (y_not (y_val (x_call (F__law_good.mono (by decide)) hr (a_cons (x_var 1) (a_cons (x_var 3) (a_cons (x_var 5) a_nil)))))) (w_or1 (y_cmp (c_ne (hu40 hr)) (p_of (x_call (F_ahead_of.mono (by decide)) hr (a_cons (x_var 1) (a_cons (x_var 3) (a_cons (x_var 5) a_nil))))) (p_var 6))))) (ss_one (s_ret x_bl)) ss_nil)
  (Az0B (s_set 5 sc_law.nd (x_call (F__law_next.mono (by decide)) hr (a_cons (x_var 1) (a_cons (x_var 3) (a_cons (x_var 5) a_nil)))))
  (Az0B (s_set 6 sc_law.nd (x_add (p_var 6) (p_of x_int)))
  (Az0B (s_if (y_isN (p_var 5)) (ss_one (s_ret (x_cmp (c_eq (hu40 hr)) (p_var 6) (p_var 4)))) ss_nil)
  (ss_one (s_if (y_w (w_or (y_cmp c_ge (p_var 6) (p_var 4)) (w_or1 (y_cmp (c_ne (hu40 hr)) (p_of (x_call (F_nth_of.mono (by decide)) hr (a_cons (x_var 1) (a_cons (x_var 3) (a_cons (x_var 6) a_nil))))) (p_var 5))))) (ss_one (s_ret x_bl)) ss_nil)))))))
  (ss_one (s_ret x_bl)))))))))))))
end
end G
namespace G
open PySem PySem.Spec PyProof.Rows L2 L3
theorem all_mk {l:PySem.W.OpenLaw} {w:World} {K:PySem.W.Frag} {h:Heap} {mg:Str→Option Value} {fa:Addr} (X:K.In h) (G:h.Ns mainGlobals mg) (hfa:mg "law"=some (.ref fa))
  {f0:Addr} {od0 an0:Option Addr} {sl0:Array (Option Value)} {oc0 kV0 dc0 pm0 cd0 ct0:Value} {f1:Addr} {od1 an1:Option Addr} {sl1:Array (Option Value)} {oc1 kV1 dc1 pm1 cd1 ct1:Value} {f2:Addr} {od2 an2:Option Addr} {sl2:Array (Option Value)} {oc2 kV2 dc2 pm2 cd2 ct2:Value} {f3:Addr} {od3 an3:Option Addr} {sl3:Array (Option Value)} {oc3 kV3 dc3 pm3 cd3 ct3:Value} {f4:Addr} {od4 an4:Option Addr} {sl4:Array (Option Value)} {oc4 kV4 dc4 pm4 cd4 ct4:Value} {f5:Addr} {od5 an5:Option Addr} {sl5:Array (Option Value)} {oc5 kV5 dc5 pm5 cd5 ct5:Value} {f6:Addr} {od6 an6:Option Addr} {sl6:Array (Option Value)} {oc6 kV6 dc6 pm6 cd6 ct6:Value} {f7:Addr} {od7 an7:Option Addr} {sl7:Array (Option Value)} {oc7 kV7 dc7 pm7 cd7 ct7:Value} {f8:Addr} {od8 an8:Option Addr} {sl8:Array (Option Value)} {oc8 kV8 dc8 pm8 cd8 ct8:Value} {f9:Addr} {od9 an9:Option Addr} {sl9:Array (Option Value)} {oc9 kV9 dc9 pm9 cd9 ct9:Value} {f10:Addr} {od10 an10:Option Addr} {sl10:Array (Option Value)} {oc10 kV10 dc10 pm10 cd10 ct10:Value} {f11:Addr} {od11 an11:Option Addr} {sl11:Array (Option Value)} {oc11 kV11 dc11 pm11 cd11 ct11:Value} {f12:Addr} {od12 an12:Option Addr} {sl12:Array (Option Value)} {oc12 kV12 dc12 pm12 cd12 ct12:Value} {f13:Addr} {od13 an13:Option Addr} {sl13:Array (Option Value)} {oc13 kV13 dc13 pm13 cd13 ct13:Value} {f14:Addr} {od14 an14:Option Addr} {sl14:Array (Option Value)} {oc14 kV14 dc14 pm14 cd14 ct14:Value} {f15:Addr} {od15 an15:Option Addr} {sl15:Array (Option Value)} {oc15 kV15 dc15 pm15 cd15 ct15:Value} {f16:Addr} {od16 an16:Option Addr} {sl16:Array (Option Value)} {oc16 kV16 dc16 pm16 cd16 ct16:Value} {f17:Addr} {od17 an17:Option Addr} {sl17:Array (Option Value)} {oc17 kV17 dc17 pm17 cd17 ct17:Value} {f18:Addr} {od18 an18:Option Addr} {sl18:Array (Option Value)} {oc18 kV18 dc18 pm18 cd18 ct18:Value} {f19:Addr} {od19 an19:Option Addr} {sl19:Array (Option Value)} {oc19 kV19 dc19 pm19 cd19 ct19:Value} {f20:Addr} {od20 an20:Option Addr} {sl20:Array (Option Value)} {oc20 kV20 dc20 pm20 cd20 ct20:Value} {f21:Addr} {od21 an21:Option Addr} {sl21:Array (Option Value)} {oc21 kV21 dc21 pm21 cd21 ct21:Value} {f22:Addr} {od22 an22:Option Addr} {sl22:Array (Option Value)} {oc22 kV22 dc22 pm22 cd22 ct22:Value} {f23:Addr} {od23 an23:Option Addr} {sl23:Array (Option Value)} {oc23 kV23 dc23 pm23 cd23 ct23:Value} {f24:Addr} {od24 an24:Option Addr} {sl24:Array (Option Value)} {oc24 kV24 dc24 pm24 cd24 ct24:Value} {f25:Addr} {od25 an25:Option Addr} {sl25:Array (Option Value)} {oc25 kV25 dc25 pm25 cd25 ct25:Value} {f26:Addr} {od26 an26:Option Addr} {sl26:Array (Option Value)} {oc26 kV26 dc26 pm26 cd26 ct26:Value} {f27:Addr} {od27 an27:Option Addr} {sl27:Array (Option Value)} {oc27 kV27 dc27 pm27 cd27 ct27:Value} {f28:Addr} {od28 an28:Option Addr} {sl28:Array (Option Value)} {oc28 kV28 dc28 pm28 cd28 ct28:Value} {f29:Addr} {od29 an29:Option Addr} {sl29:Array (Option Value)} {oc29 kV29 dc29 pm29 cd29 ct29:Value} {f30:Addr} {od30 an30:Option Addr} {sl30:Array (Option Value)} {oc30 kV30 dc30 pm30 cd30 ct30:Value} {f31:Addr} {od31 an31:Option Addr} {sl31:Array (Option Value)} {oc31 kV31 dc31 pm31 cd31 ct31:Value} {f32:Addr} {od32 an32:Option Addr} {sl32:Array (Option Value)} {oc32 kV32 dc32 pm32 cd32 ct32:Value} {dt33:Addr} {dd33:Option Addr} {dq33:Tok} {dn33:Nat} {dsl33:Array (Option Value)} {f33:Addr} {od33 an33:Option Addr} {sl33:Array (Option Value)} {oc33 kV33 dc33 pm33 cd33 ct33:Value} {f34:Addr} {od34 an34:Option Addr} {sl34:Array (Option Value)} {oc34 kV34 dc34 pm34 cd34 ct34:Value} {f35:Addr} {od35 an35:Option Addr} {sl35:Array (Option Value)} {oc35 kV35 dc35 pm35 cd35 ct35:Value} {f36:Addr} {od36 an36:Option Addr} {sl36:Array (Option Value)} {oc36 kV36 dc36 pm36 cd36 ct36:Value} {f37:Addr} {od37 an37:Option Addr} {sl37:Array (Option Value)} {oc37 kV37 dc37 pm37 cd37 ct37:Value} {f38:Addr} {od38 an38:Option Addr} {sl38:Array (Option Value)} {oc38 kV38 dc38 pm38 cd38 ct38:Value} {f39:Addr} {od39 an39:Option Addr} {sl39:Array (Option Value)} {oc39 kV39 dc39 pm39 cd39 ct39:Value} {f40:Addr} {od40 an40:Option Addr} {sl40:Array (Option Value)} {oc40 kV40 dc40 pm40 cd40 ct40:Value} {f41:Addr} {od41 an41:Option Addr} {sl41:Array (Option Value)} {oc41 kV41 dc41 pm41 cd41 ct41:Value} {t0:Tok} {t1:Tok}
  (a0:PySem.W.nsIn K mainGlobals "_law_mixed"=some (some (.ref f0))) (l0:K.lookup f0=some ⟨oc0,od0, .func (PySem.W.fnOf "_law_mixed" "_law_mixed" (Az0H Az2R) (Az0F Az2R) (Az0A Az2R) .none kV0 dc0 pm0 an0 cd0 ct0),sl0⟩) (c0:PySem.W.codeIn K cd0 "_law_mixed"=true) (k0:PySem.W.keepIn K (.ref f0)=true)
  (a1:PySem.W.nsIn K mainGlobals "_law_barrel"=some (some (.ref f1))) (l1:K.lookup f1=some ⟨oc1,od1, .func (PySem.W.fnOf "_law_barrel" "_law_barrel" (Az0H Az1Y) (Az0F Az1Y) (Az0A Az1Y) .none kV1 dc1 pm1 an1 cd1 ct1),sl1⟩) (c1:PySem.W.codeIn K cd1 "_law_barrel"=true) (k1:PySem.W.keepIn K (.ref f1)=true)
  (a2:PySem.W.nsIn K mainGlobals "depths_of"=some (some (.ref f2))) (l2:K.lookup f2=some ⟨oc2,od2, .func (PySem.W.fnOf "depths_of" "depths_of" (Az0H Az3O) (Az0F Az3O) (Az0A Az3O) .none kV2 dc2 pm2 an2 cd2 ct2),sl2⟩) (c2:PySem.W.codeIn K cd2 "depths_of"=true) (k2:PySem.W.keepIn K (.ref f2)=true)
  (a3:PySem.W.nsIn K mainGlobals "step_of"=some (some (.ref f3))) (l3:K.lookup f3=some ⟨oc3,od3, .func (PySem.W.fnOf "step_of" "step_of" (Az0H Az5M) (Az0F Az5M) (Az0A Az5M) .none kV3 dc3 pm3 an3 cd3 ct3),sl3⟩) (c3:PySem.W.codeIn K cd3 "step_of"=true) (k3:PySem.W.keepIn K (.ref f3)=true)
  (a4:PySem.W.nsIn K mainGlobals "can_deepen"=some (some (.ref f4))) (l4:K.lookup f4=some ⟨oc4,od4, .func (PySem.W.fnOf "can_deepen" "can_deepen" (Az0H Az2P) (Az0F Az2P) (Az0A Az2P) .none kV4 dc4 pm4 an4 cd4 ct4),sl4⟩) (c4:PySem.W.codeIn K cd4 "can_deepen"=true) (k4:PySem.W.keepIn K (.ref f4)=true)
  (a5:PySem.W.nsIn K mainGlobals "places_of"=some (some (.ref f5))) (l5:K.lookup f5=some ⟨oc5,od5, .func (PySem.W.fnOf "places_of" "places_of" (Az0H Az3L) (Az0F Az3L) (Az0A Az3L) .none kV5 dc5 pm5 an5 cd5 ct5),sl5⟩) (c5:PySem.W.codeIn K cd5 "places_of"=true) (k5:PySem.W.keepIn K (.ref f5)=true)
  (a6:PySem.W.nsIn K mainGlobals "least_from"=some (some (.ref f6))) (l6:K.lookup f6=some ⟨oc6,od6, .func (PySem.W.fnOf "least_from" "least_from" (Az0H Az2L) (Az0F Az2L) (Az0A Az2L) .none kV6 dc6 pm6 an6 cd6 ct6),sl6⟩) (c6:PySem.W.codeIn K cd6 "least_from"=true) (k6:PySem.W.keepIn K (.ref f6)=true)
  (a7:PySem.W.nsIn K mainGlobals "next_cuts"=some (some (.ref f7))) (l7:K.lookup f7=some ⟨oc7,od7, .func (PySem.W.fnOf "next_cuts" "next_cuts" (Az0H Az3M) (Az0F Az3M) (Az0A Az3M) .none kV7 dc7 pm7 an7 cd7 ct7),sl7⟩) (c7:PySem.W.codeIn K cd7 "next_cuts"=true) (k7:PySem.W.keepIn K (.ref f7)=true)
  (a8:PySem.W.nsIn K mainGlobals "stopped_at"=some (some (.ref f8))) (l8:K.lookup f8=some ⟨oc8,od8, .func (PySem.W.fnOf "stopped_at" "stopped_at" (Az0H Az2I) (Az0F Az2I) (Az0A Az2I) .none kV8 dc8 pm8 an8 cd8 ct8),sl8⟩) (c8:PySem.W.codeIn K cd8 "stopped_at"=true) (k8:PySem.W.keepIn K (.ref f8)=true)
  (a9:PySem.W.nsIn K mainGlobals "opens_at"=some (some (.ref f9))) (l9:K.lookup f9=some ⟨oc9,od9, .func (PySem.W.fnOf "opens_at" "opens_at" (Az0H Az4D) (Az0F Az4D) (Az0A Az4D) .none kV9 dc9 pm9 an9 cd9 ct9),sl9⟩) (c9:PySem.W.codeIn K cd9 "opens_at"=true) (k9:PySem.W.keepIn K (.ref f9)=true)
  (a10:PySem.W.nsIn K mainGlobals "_law_next"=some (some (.ref f10))) (l10:K.lookup f10=some ⟨oc10,od10, .func (PySem.W.fnOf "_law_next" "_law_next" (Az0H Az3P) (Az0F Az3P) (Az0A Az3P) .none kV10 dc10 pm10 an10 cd10 ct10),sl10⟩) (c10:PySem.W.codeIn K cd10 "_law_next"=true) (k10:PySem.W.keepIn K (.ref f10)=true)
  (a11:PySem.W.nsIn K mainGlobals "first_cuts"=some (some (.ref f11))) (l11:K.lookup f11=some ⟨oc11,od11, .func (PySem.W.fnOf "first_cuts" "first_cuts" (Az0H Az2O) (Az0F Az2O) (Az0A Az2O) .none kV11 dc11 pm11 an11 cd11 ct11),sl11⟩) (c11:PySem.W.codeIn K cd11 "first_cuts"=true) (k11:PySem.W.keepIn K (.ref f11)=true)
  (a12:PySem.W.nsIn K mainGlobals "_law_first"=some (some (.ref f12))) (l12:K.lookup f12=some ⟨oc12,od12, .func (PySem.W.fnOf "_law_first" "_law_first" (Az0H Az2S) (Az0F Az2S) (Az0A Az2S) .none kV12 dc12 pm12 an12 cd12 ct12),sl12⟩) (c12:PySem.W.codeIn K cd12 "_law_first"=true) (k12:PySem.W.keepIn K (.ref f12)=true)
  (a13:PySem.W.nsIn K mainGlobals "can_file"=some (some (.ref f13))) (l13:K.lookup f13=some ⟨oc13,od13, .func (PySem.W.fnOf "can_file" "can_file" (Az0H Az4I) (Az0F Az4I) (Az0A Az4I) .none kV13 dc13 pm13 an13 cd13 ct13),sl13⟩) (c13:PySem.W.codeIn K cd13 "can_file"=true) (k13:PySem.W.keepIn K (.ref f13)=true)
  (a14:PySem.W.nsIn K mainGlobals "are_near"=some (some (.ref f14))) (l14:K.lookup f14=some ⟨oc14,od14, .func (PySem.W.fnOf "are_near" "are_near" (Az0H Az4J) (Az0F Az4J) (Az0A Az4J) .none kV14 dc14 pm14 an14 cd14 ct14),sl14⟩) (c14:PySem.W.codeIn K cd14 "are_near"=true) (k14:PySem.W.keepIn K (.ref f14)=true)
  (a15:PySem.W.nsIn K mainGlobals "ways_on"=some (some (.ref f15))) (l15:K.lookup f15=some ⟨oc15,od15, .func (PySem.W.fnOf "ways_on" "ways_on" (Az0H Az5J) (Az0F Az5J) (Az0A Az5J) .none kV15 dc15 pm15 an15 cd15 ct15),sl15⟩) (c15:PySem.W.codeIn K cd15 "ways_on"=true) (k15:PySem.W.keepIn K (.ref f15)=true)
  (a16:PySem.W.nsIn K mainGlobals "ways_at"=some (some (.ref f16))) (l16:K.lookup f16=some ⟨oc16,od16, .func (PySem.W.fnOf "ways_at" "ways_at" (Az0H Az5L) (Az0F Az5L) (Az0A Az5L) .none kV16 dc16 pm16 an16 cd16 ct16),sl16⟩) (c16:PySem.W.codeIn K cd16 "ways_at"=true) (k16:PySem.W.keepIn K (.ref f16)=true)
  (a17:PySem.W.nsIn K mainGlobals "ways_of"=some (some (.ref f17))) (l17:K.lookup f17=some ⟨oc17,od17, .func (PySem.W.fnOf "ways_of" "ways_of" (Az0H Az5K) (Az0F Az5K) (Az0A Az5K) .none kV17 dc17 pm17 an17 cd17 ct17),sl17⟩) (c17:PySem.W.codeIn K cd17 "ways_of"=true) (k17:PySem.W.keepIn K (.ref f17)=true)
  (a18:PySem.W.nsIn K mainGlobals "count_of"=some (some (.ref f18))) (l18:K.lookup f18=some ⟨oc18,od18, .func (PySem.W.fnOf "count_of" "count_of" (Az0H Az4H) (Az0F Az4H) (Az0A Az4H) .none kV18 dc18 pm18 an18 cd18 ct18),sl18⟩) (c18:PySem.W.codeIn K cd18 "count_of"=true) (k18:PySem.W.keepIn K (.ref f18)=true)
  (a19:PySem.W.nsIn K mainGlobals "filed_count"=some (some (.ref f19))) (l19:K.lookup f19=some ⟨oc19,od19, .func (PySem.W.fnOf "filed_count" "filed_count" (Az0H Az1X) (Az0F Az1X) (Az0A Az1X) .none kV19 dc19 pm19 an19 cd19 ct19),sl19⟩) (c19:PySem.W.codeIn K cd19 "filed_count"=true) (k19:PySem.W.keepIn K (.ref f19)=true)
  (a20:PySem.W.nsIn K mainGlobals "is_whole"=some (some (.ref f20))) (l20:K.lookup f20=some ⟨oc20,od20, .func (PySem.W.fnOf "is_whole" "is_whole" (Az0H Az4E) (Az0F Az4E) (Az0A Az4E) .none kV20 dc20 pm20 an20 cd20 ct20),sl20⟩) (c20:PySem.W.codeIn K cd20 "is_whole"=true) (k20:PySem.W.keepIn K (.ref f20)=true)
  (a21:PySem.W.nsIn K mainGlobals "is_depth"=some (some (.ref f21))) (l21:K.lookup f21=some ⟨oc21,od21, .func (PySem.W.fnOf "is_depth" "is_depth" (Az0H Az4F) (Az0F Az4F) (Az0A Az4F) .none kV21 dc21 pm21 an21 cd21 ct21),sl21⟩) (c21:PySem.W.codeIn K cd21 "is_depth"=true) (k21:PySem.W.keepIn K (.ref f21)=true)
  (a22:PySem.W.nsIn K mainGlobals "is_cuts"=some (some (.ref f22))) (l22:K.lookup f22=some ⟨oc22,od22, .func (PySem.W.fnOf "is_cuts" "is_cuts" (Az0H Az5O) (Az0F Az5O) (Az0A Az5O) .none kV22 dc22 pm22 an22 cd22 ct22),sl22⟩) (c22:PySem.W.codeIn K cd22 "is_cuts"=true) (k22:PySem.W.keepIn K (.ref f22)=true)
  (a23:PySem.W.nsIn K mainGlobals "has_only"=some (some (.ref f23))) (l23:K.lookup f23=some ⟨oc23,od23, .func (PySem.W.fnOf "has_only" "has_only" (Az0H Az4G) (Az0F Az4G) (Az0A Az4G) .none kV23 dc23 pm23 an23 cd23 ct23),sl23⟩) (c23:PySem.W.codeIn K cd23 "has_only"=true) (k23:PySem.W.keepIn K (.ref f23)=true)
  (a24:PySem.W.nsIn K mainGlobals "is_written"=some (some (.ref f24))) (l24:K.lookup f24=some ⟨oc24,od24, .func (PySem.W.fnOf "is_written" "is_written" (Az0H Az2M) (Az0F Az2M) (Az0A Az2M) .none kV24 dc24 pm24 an24 cd24 ct24),sl24⟩) (c24:PySem.W.codeIn K cd24 "is_written"=true) (k24:PySem.W.keepIn K (.ref f24)=true)
  (a25:PySem.W.nsIn K mainGlobals "numbers_in"=some (some (.ref f25))) (l25:K.lookup f25=some ⟨oc25,od25, .func (PySem.W.fnOf "numbers_in" "numbers_in" (Az0H Az2K) (Az0F Az2K) (Az0A Az2K) .none kV25 dc25 pm25 an25 cd25 ct25),sl25⟩) (c25:PySem.W.codeIn K cd25 "numbers_in"=true) (k25:PySem.W.keepIn K (.ref f25)=true)
  (a26:PySem.W.nsIn K mainGlobals "read_cuts"=some (some (.ref f26))) (l26:K.lookup f26=some ⟨oc26,od26, .func (PySem.W.fnOf "read_cuts" "read_cuts" (Az0H Az3K) (Az0F Az3K) (Az0A Az3K) .none kV26 dc26 pm26 an26 cd26 ct26),sl26⟩) (c26:PySem.W.codeIn K cd26 "read_cuts"=true) (k26:PySem.W.keepIn K (.ref f26)=true)
  (a27:PySem.W.nsIn K mainGlobals "shown_cuts"=some (some (.ref f27))) (l27:K.lookup f27=some ⟨oc27,od27, .func (PySem.W.fnOf "shown_cuts" "shown_cuts" (Az0H Az2J) (Az0F Az2J) (Az0A Az2J) .none kV27 dc27 pm27 an27 cd27 ct27),sl27⟩) (c27:PySem.W.codeIn K cd27 "shown_cuts"=true) (k27:PySem.W.keepIn K (.ref f27)=true)
  (a28:PySem.W.nsIn K mainGlobals "_law_good"=some (some (.ref f28))) (l28:K.lookup f28=some ⟨oc28,od28, .func (PySem.W.fnOf "_law_good" "_law_good" (Az0H Az3Q) (Az0F Az3Q) (Az0A Az3Q) .none kV28 dc28 pm28 an28 cd28 ct28),sl28⟩) (c28:PySem.W.codeIn K cd28 "_law_good"=true) (k28:PySem.W.keepIn K (.ref f28)=true)
  (a29:PySem.W.nsIn K mainGlobals "_law_rules"=some (some (.ref f29))) (l29:K.lookup f29=some ⟨oc29,od29, .func (PySem.W.fnOf "_law_rules" "_law_rules" (Az0H Az2Q) (Az0F Az2Q) (Az0A Az2Q) .none kV29 dc29 pm29 an29 cd29 ct29),sl29⟩) (c29:PySem.W.codeIn K cd29 "_law_rules"=true) (k29:PySem.W.keepIn K (.ref f29)=true)
  (a30:PySem.W.nsIn K mainGlobals "choices"=some (some (.ref f30))) (l30:K.lookup f30=some ⟨oc30,od30, .func (PySem.W.fnOf "choices" "choices" (Az0H Az5P) (Az0F Az5P) (Az0A Az5P) .none kV30 dc30 pm30 an30 cd30 ct30),sl30⟩) (c30:PySem.W.codeIn K cd30 "choices"=true) (k30:PySem.W.keepIn K (.ref f30)=true)
  (a31:PySem.W.nsIn K mainGlobals "ahead_of"=some (some (.ref f31))) (l31:K.lookup f31=some ⟨oc31,od31, .func (PySem.W.fnOf "ahead_of" "ahead_of" (Az0H Az4K) (Az0F Az4K) (Az0A Az4K) .none kV31 dc31 pm31 an31 cd31 ct31),sl31⟩) (c31:PySem.W.codeIn K cd31 "ahead_of"=true) (k31:PySem.W.keepIn K (.ref f31)=true)
  (a32:PySem.W.nsIn K mainGlobals "pick"=some (some (.ref f32))) (l32:K.lookup f32=some ⟨oc32,od32, .func (PySem.W.fnOf "pick" "pick" (Az0H s_pick) (Az0F s_pick) (Az0A s_pick) .none kV32 dc32 pm32 an32 cd32 ct32),sl32⟩) (c32:PySem.W.codeIn K cd32 "pick"=true) (k32:PySem.W.keepIn K (.ref f32)=true)
  (a33:PySem.W.nsIn K mainGlobals "nth_of"=some (some (.ref f33))) (l33:K.lookup f33=some ⟨oc33,od33, .func (PySem.W.fnOf "nth_of" "nth_of" (Az0H Az5C) (Az0F Az5C) (Az0A Az5C) (.ref dt33) kV33 dc33 pm33 an33 cd33 ct33),sl33⟩) (c33:PySem.W.codeIn K cd33 "nth_of"=true) (k33:PySem.W.keepIn K (.ref f33)=true)
  (dl33:K.lookup dt33=some ⟨.type "tuple",dd33, .seq #[.int 0 dq33] dn33,dsl33⟩)
  (a34:PySem.W.nsIn K mainGlobals "heights_of"=some (some (.ref f34))) (l34:K.lookup f34=some ⟨oc34,od34, .func (PySem.W.fnOf "heights_of" "heights_of" (Az0H Az2N) (Az0F Az2N) (Az0A Az2N) .none kV34 dc34 pm34 an34 cd34 ct34),sl34⟩) (c34:PySem.W.codeIn K cd34 "heights_of"=true) (k34:PySem.W.keepIn K (.ref f34)=true)
  (a35:PySem.W.nsIn K mainGlobals "is_pin"=some (some (.ref f35))) (l35:K.lookup f35=some ⟨oc35,od35, .func (PySem.W.fnOf "is_pin" "is_pin" (Az0H Az6W) (Az0F Az6W) (Az0A Az6W) .none kV35 dc35 pm35 an35 cd35 ct35),sl35⟩) (c35:PySem.W.codeIn K cd35 "is_pin"=true) (k35:PySem.W.keepIn K (.ref f35)=true)
  (a36:PySem.W.nsIn K mainGlobals "is_barrel"=some (some (.ref f36))) (l36:K.lookup f36=some ⟨oc36,od36, .func (PySem.W.fnOf "is_barrel" "is_barrel" (Az0H Az3N) (Az0F Az3N) (Az0A Az3N) .none kV36 dc36 pm36 an36 cd36 ct36),sl36⟩) (c36:PySem.W.codeIn K cd36 "is_barrel"=true) (k36:PySem.W.keepIn K (.ref f36)=true)
  (a37:PySem.W.nsIn K mainGlobals "pins_in"=some (some (.ref f37))) (l37:K.lookup f37=some ⟨oc37,od37, .func (PySem.W.fnOf "pins_in" "pins_in" (Az0H Az5N) (Az0F Az5N) (Az0A Az5N) .none kV37 dc37 pm37 an37 cd37 ct37),sl37⟩) (c37:PySem.W.codeIn K cd37 "pins_in"=true) (k37:PySem.W.keepIn K (.ref f37)=true)
  (a38:PySem.W.nsIn K mainGlobals "read_barrel"=some (some (.ref f38))) (l38:K.lookup f38=some ⟨oc38,od38, .func (PySem.W.fnOf "read_barrel" "read_barrel" (Az0H Az1W) (Az0F Az1W) (Az0A Az1W) .none kV38 dc38 pm38 an38 cd38 ct38),sl38⟩) (c38:PySem.W.codeIn K cd38 "read_barrel"=true) (k38:PySem.W.keepIn K (.ref f38)=true)
  (a39:PySem.W.nsIn K mainGlobals "shown_pin"=some (some (.ref f39))) (l39:K.lookup f39=some ⟨oc39,od39, .func (PySem.W.fnOf "shown_pin" "shown_pin" (Az0H Az3J) (Az0F Az3J) (Az0A Az3J) .none kV39 dc39 pm39 an39 cd39 ct39),sl39⟩) (c39:PySem.W.codeIn K cd39 "shown_pin"=true) (k39:PySem.W.keepIn K (.ref f39)=true)
  (a40:PySem.W.nsIn K mainGlobals "shown_barrel"=some (some (.ref f40))) (l40:K.lookup f40=some ⟨oc40,od40, .func (PySem.W.fnOf "shown_barrel" "shown_barrel" (Az0H Az1P) (Az0F Az1P) (Az0A Az1P) .none kV40 dc40 pm40 an40 cd40 ct40),sl40⟩) (c40:PySem.W.codeIn K cd40 "shown_barrel"=true) (k40:PySem.W.keepIn K (.ref f40)=true)
  (a41:PySem.W.nsIn K mainGlobals "law"=some (some (.ref f41))) (l41:K.lookup f41=some ⟨oc41,od41, .func (PySem.W.fnOf "law" "law" (Az0H s_law) (Az0F s_law) (Az0A s_law) .none kV41 dc41 pm41 an41 cd41 ct41),sl41⟩) (c41:PySem.W.codeIn K cd41 "law"=true) (k41:PySem.W.keepIn K (.ref f41)=true)
  (z0:PySem.W.nsIn K mainGlobals "abs"=some none)
  (z1:PySem.W.nsIn K mainGlobals "all"=some none)
  (z2:PySem.W.nsIn K mainGlobals "bool"=some none)
  (z3:PySem.W.nsIn K mainGlobals "dict"=some none)
  (z4:PySem.W.nsIn K mainGlobals "enumerate"=some none)
  (z5:PySem.W.nsIn K mainGlobals "int"=some none)
  (z6:PySem.W.nsIn K mainGlobals "isinstance"=some none)
  (z7:PySem.W.nsIn K mainGlobals "len"=some none)
  (z8:PySem.W.nsIn K mainGlobals "list"=some none)
  (z9:PySem.W.nsIn K mainGlobals "max"=some none)
  (z10:PySem.W.nsIn K mainGlobals "min"=some none)
  (z11:PySem.W.nsIn K mainGlobals "range"=some none)
  (z12:PySem.W.nsIn K mainGlobals "reversed"=some none)
  (z13:PySem.W.nsIn K mainGlobals "set"=some none)
  (z14:PySem.W.nsIn K mainGlobals "sorted"=some none)
  (z15:PySem.W.nsIn K mainGlobals "str"=some none)
  (z16:PySem.W.nsIn K mainGlobals "sum"=some none)
  (z17:PySem.W.nsIn K mainGlobals "tuple"=some none)
  (z18:PySem.W.nsIn K mainGlobals "zip"=some none)
  (y0:PySem.W.nsIn K mainGlobals "FIGURES"=some (some (.str "0123456789" t0)))
  (y1:PySem.W.nsIn K mainGlobals "MOST_FIGURES"=some (some (.int 3 t1)))
  :∃ fd:FuncData,(∀ (s:Shared) (v:Value),BindsTo s fd ⟨[v],[]⟩ [("_law_script",v)])∧∀ base:Heap,K.In base→base.Ns mainGlobals mg→FnOk l.prog w K mg base CX0 9 fa fd ["_law_script"] (spLaw K):=by
 have e:=hfa.symm.trans (PySem.W.mg_of X G a41)
 cases e
 have T:Txt K mg:=⟨PySem.W.mg_none_of X G z0,PySem.W.mg_none_of X G z1,PySem.W.mg_none_of X G z2,PySem.W.mg_none_of X G z3,PySem.W.mg_none_of X G z4,PySem.W.mg_none_of X G z5,PySem.W.mg_none_of X G z6,PySem.W.mg_none_of X G z7,PySem.W.mg_none_of X G z8,PySem.W.mg_none_of X G z9,PySem.W.mg_none_of X G z10,PySem.W.mg_none_of X G z11,PySem.W.mg_none_of X G z12,PySem.W.mg_none_of X G z13,PySem.W.mg_none_of X G z14,PySem.W.mg_none_of X G z15,PySem.W.mg_none_of X G z16,PySem.W.mg_none_of X G z17,PySem.W.mg_none_of X G z18,⟨t0,PySem.W.mg_of X G y0⟩,⟨t1,PySem.W.mg_of X G y1⟩⟩
 refine ⟨PySem.W.fnOf "law" "law" (Az0H s_law) (Az0F s_law) (Az0A s_law) .none kV41 dc41 pm41 an41 cd41 ct41,fun s v=> .of_eq rfl,fun base _ _=> ?_⟩
 have F__law_mixed:Fn l.prog w K mg base 1 "_law_mixed" 2 Az0K:=Bz1F (fun_mk (st:=Az2R) l0 c0 k0) (PySem.W.mg_of X G a0) T
 have F__law_barrel:Fn l.prog w K mg base 2 "_law_barrel" 3 Az2A:=Az9T (fun_mk (st:=Az1Y) l1 c1 k1) (PySem.W.mg_of X G a1) T F__law_mixed
 have F_depths_of:Fn l.prog w K mg base 1 "depths_of" 1 Az0D:=Bz2U (fun_mk (st:=Az3O) l2 c2 k2) (PySem.W.mg_of X G a2) T
 have F_step_of:Fn l.prog w K mg base 1 "step_of" 1 Az0G:=Bz7L (fun_mk (st:=Az5M) l3 c3 k3) (PySem.W.mg_of X G a3) T
 have F_can_deepen:Fn l.prog w K mg base 2 "can_deepen" 3 Az0N:=Bz1D (fun_mk (st:=Az2P) l4 c4 k4) (PySem.W.mg_of X G a4) T F_depths_of F_step_of
 have F_places_of:Fn l.prog w K mg base 1 "places_of" 1 Az0E:=Bz2R (fun_mk (st:=Az3L) l5 c5 k5) (PySem.W.mg_of X G a5) T
 have F_least_from:Fn l.prog w K mg base 2 "least_from" 2 Az1J:=Bz0Z (fun_mk (st:=Az2L) l6 c6 k6) (PySem.W.mg_of X G a6) T F_places_of F_step_of
 have F_next_cuts:Fn l.prog w K mg base 3 "next_cuts" 2 Az1R:=Bz2S (fun_mk (st:=Az3M) l7 c7 k7) (PySem.W.mg_of X G a7) T F_can_deepen F_least_from
 have F_stopped_at:Fn l.prog w K mg base 1 "stopped_at" 2 Az1H:=Bz0W (fun_mk (st:=Az2I) l8 c8 k8) (PySem.W.mg_of X G a8) T
 have F_opens_at:Fn l.prog w K mg base 2 "opens_at" 2 Az1I:=Bz5I (fun_mk (st:=Az4D) l9 c9 k9) (PySem.W.mg_of X G a9) T F_stopped_at
 have F__law_next:Fn l.prog w K mg base 4 "_law_next" 3 Az1B:=Bz2V (fun_mk (st:=Az3P) l10 c10 k10) (PySem.W.mg_of X G a10) T F_next_cuts F_opens_at
 have F_first_cuts:Fn l.prog w K mg base 2 "first_cuts" 1 Az0T:=Bz1C (fun_mk (st:=Az2O) l11 c11 k11) (PySem.W.mg_of X G a11) T F_places_of
 have F__law_first:Fn l.prog w K mg base 5 "_law_first" 2 Az0Y:=Bz1G (fun_mk (st:=Az2S) l12 c12 k12) (PySem.W.mg_of X G a12) T F__law_next F_first_cuts F_opens_at
 have F_can_file:Fn l.prog w K mg base 1 "can_file" 2 Az3X:=Bz5O (fun_mk (st:=Az4I) l13 c13 k13) (PySem.W.mg_of X G a13) T
 have F_are_near:Fn l.prog w K mg base 2 "are_near" 3 Az1A:=Bz5P (fun_mk (st:=Az4J) l14 c14 k14) (PySem.W.mg_of X G a14) T F_step_of
 have F_ways_on:Fn l.prog w K mg base 3 "ways_on" 3 Az2E:=Bz7I (fun_mk (st:=Az5J) l15 c15 k15) (PySem.W.mg_of X G a15) T F_are_near
 have F_ways_at:Fn l.prog w K mg base 4 "ways_at" 3 Az5R:=Bz7K (fun_mk (st:=Az5L) l16 c16 k16) (PySem.W.mg_of X G a16) T F_depths_of F_ways_on
 have F_ways_of:Fn l.prog w K mg base 5 "ways_of" 2 Az2F:=Bz7J (fun_mk (st:=Az5K) l17 c17 k17) (PySem.W.mg_of X G a17) T F_ways_at
 have F_count_of:Fn l.prog w K mg base 6 "count_of" 2 Az2Z:=Bz5N (fun_mk (st:=Az4H) l18 c18 k18) (PySem.W.mg_of X G a18) T F_ways_of
 have F_filed_count:Fn l.prog w K mg base 7 "filed_count" 3 Az0W:=Az9S (fun_mk (st:=Az1X) l19 c19 k19) (PySem.W.mg_of X G a19) T F_count_of
 have F_is_whole:Fn l.prog w K mg base 1 "is_whole" 1 Az0Q:=Bz5K (fun_mk (st:=Az4E) l20 c20 k20) (PySem.W.mg_of X G a20) T
 have F_is_depth:Fn l.prog w K mg base 2 "is_depth" 2 Az1L:=Bz5L (fun_mk (st:=Az4F) l21 c21 k21) (PySem.W.mg_of X G a21) T F_depths_of F_is_whole
 have F_is_cuts:Fn l.prog w K mg base 3 "is_cuts" 2 Az0X:=Bz7N (fun_mk (st:=Az5O) l22 c22 k22) (PySem.W.mg_of X G a22) T F_are_near F_is_depth F_places_of
 have F_has_only:Fn l.prog w K mg base 1 "has_only" 2 Az4L:=Bz5M (fun_mk (st:=Az4G) l23 c23 k23) (PySem.W.mg_of X G a23) T
 have F_is_written:Fn l.prog w K mg base 2 "is_written" 2 Az1K:=Bz1A (fun_mk (st:=Az2M) l24 c24 k24) (PySem.W.mg_of X G a24) T F_has_only
 have F_numbers_in:Fn l.prog w K mg base 3 "numbers_in" 2 Az0M:=Bz0Y (fun_mk (st:=Az2K) l25 c25 k25) (PySem.W.mg_of X G a25) T F_is_written
 have F_read_cuts:Fn l.prog w K mg base 4 "read_cuts" 2 Az3S:=Bz2Q (fun_mk (st:=Az3K) l26 c26 k26) (PySem.W.mg_of X G a26) T F_is_cuts F_numbers_in
 have F_shown_cuts:Fn l.prog w K mg base 1 "shown_cuts" 1 Az1T:=Bz0X (fun_mk (st:=Az2J) l27 c27 k27) (PySem.W.mg_of X G a27) T
 have F__law_good:Fn l.prog w K mg base 8 "_law_good" 3 Az3T:=Bz2W (fun_mk (st:=Az3Q) l28 c28 k28) (PySem.W.mg_of X G a28) T F_can_file F_filed_count F_opens_at F_read_cuts F_shown_cuts
 have F__law_rules:Fn l.prog w K mg base 2 "_law_rules" 1 Az2U:=Bz1E (fun_mk (st:=Az2Q) l29 c29 k29) (PySem.W.mg_of X G a29) T F__law_mixed
 have F_choices:Fn l.prog w K mg base 3 "choices" 3 Az2V:=Bz7O (fun_mk (st:=Az5P) l30 c30 k30) (PySem.W.mg_of X G a30) T F_are_near
 have F_ahead_of:Fn l.prog w K mg base 6 "ahead_of" 3 Az4M:=Bz5Q (fun_mk (st:=Az4K) l31 c31 k31) (PySem.W.mg_of X G a31) T F_choices F_ways_of
 have F_pick:Fn l.prog w K mg base 1 "pick" 2 m_pick:=Cz8E (fun_mk (st:=s_pick) l32 c32 k32) (PySem.W.mg_of X G a32) T
 have F_nth_of:Fn l.prog w K mg base 6 "nth_of" 3 Az3C:=Cz0O dl33 rfl (Cz2V (st:=Az5C) l33 c33 k33) (PySem.W.mg_of X G a33) T F_choices F_is_whole F_pick F_ways_of
 have F_nth_of_L:FnL l.prog w K mg base 6 "nth_of" 3 Az3C 0:=Bz5J dl33 rfl (Cz2V (st:=Az5C) l33 c33 k33) (PySem.W.mg_of X G a33) T F_choices F_is_whole F_pick F_ways_of
 have F_heights_of:Fn l.prog w K mg base 1 "heights_of" 1 Az1M:=Bz1B (fun_mk (st:=Az2N) l34 c34 k34) (PySem.W.mg_of X G a34) T
 have F_is_pin:Fn l.prog w K mg base 3 "is_pin" 2 Az3D:=Cz0P (fun_mk (st:=Az6W) l35 c35 k35) (PySem.W.mg_of X G a35) T F_heights_of F_is_depth
 have F_is_barrel:Fn l.prog w K mg base 4 "is_barrel" 2 Az2T:=Bz2T (fun_mk (st:=Az3N) l36 c36 k36) (PySem.W.mg_of X G a36) T F_is_pin F_places_of
 have F_pins_in:Fn l.prog w K mg base 4 "pins_in" 1 Az5S:=Bz7M (fun_mk (st:=Az5N) l37 c37 k37) (PySem.W.mg_of X G a37) T F_numbers_in
 have F_read_barrel:Fn l.prog w K mg base 5 "read_barrel" 2 Az1Z:=Az9R (fun_mk (st:=Az1W) l38 c38 k38) (PySem.W.mg_of X G a38) T F_is_barrel F_pins_in
 have F_shown_pin:Fn l.prog w K mg base 1 "shown_pin" 1 Az3R:=Bz2P (fun_mk (st:=Az3J) l39 c39 k39) (PySem.W.mg_of X G a39) T
 have F_shown_barrel:Fn l.prog w K mg base 2 "shown_barrel" 1 Az1Q:=Az8T (fun_mk (st:=Az1P) l40 c40 k40) (PySem.W.mg_of X G a40) T F_shown_pin
 exact law_of (ok_law (fun_mk (st:=s_law) l41 c41 k41) T F__law_barrel F__law_first F__law_good F__law_mixed F__law_next F__law_rules F_ahead_of F_count_of F_filed_count F_first_cuts F_nth_of F_read_barrel F_shown_barrel F_nth_of_L) law_true
theorem walk {l:PySem.W.OpenLaw} {q:Program} {loose:List Str} {XP:(Str→Option Value)→Heap→Prop} {YP:World→Heap→Prop} {d:DefRec} {K:Params→PySem.W.Frag} (hn:l.most=some 63) (hdf:d.params.defaults= [])
  (hY:∀ (w:World) (h:Heap),YP w h→(K w.params).In h)
  (F:∀ (w:World) (mg:Str→Option Value) (fa:Addr) (h:Heap),(K w.params).In h→h.Ns mainGlobals mg→mg d.name=some (.ref fa)→
   ∃ fd:FuncData,(∀ (s:Shared) (u:Value),BindsTo s fd ⟨[u],[]⟩ [("_law_script",u)])∧∀ base:Heap,(K w.params).In base→base.Ns mainGlobals mg→FnOk l.prog w (K w.params) mg base CX0 9 fa fd ["_law_script"] (spLaw (K w.params))):
  PySem.W.WalkO q loose XP YP l.row.toRowW d [] (fun f vs=>PySem.call f vs):=
 L2.walk_of (n:=63) (k:=9) (x:="_law_script") (CX:=fun _=>CX0) (sp:=fun w=>spLaw (K w.params)) hn (by decide) hdf ⟨rfl,by decide,by decide,rfl⟩ hY F (fun _ _ a ns hl _ hS=>⟨a,ns,rfl,hS,hl,fun _=>rfl⟩) fun _ _ _ _ _ z=>z
end G
open PySem PySem.W PyProof.Rows
theorem PySem.W.Fast.tw13783728171429727467 : True := trivial
theorem PySem.W.Fast.tw16109411456040004330 : True := trivial
theorem PySem.W.Fast.tw1192036808753501594 : True := trivial
theorem PySem.W.Fast.tw12546768233986804640 : True := trivial
theorem PySem.W.Fast.tw10439650797882856303 : True := trivial
theorem PySem.W.Fast.tw14149687743438579503 : True := trivial
theorem PySem.W.Fast.tw7768351673949281725 : True := trivial
theorem PySem.W.Fast.tw8448487358724189724 : True := trivial
theorem PySem.W.Fast.tw13385185537095188038 : True := trivial
theorem PySem.W.Fast.tw7395610562534732153 : True := trivial
theorem PySem.W.Fast.tw7387402952709493078 : True := trivial
theorem PySem.W.Fast.tw17353951288587836345 : True := trivial
theorem PySem.W.Fast.tw10099156930719330789 : True := trivial
theorem PySem.W.Fast.tw3680613983113200651 : True := trivial
theorem PySem.W.Fast.tw3002087130839542454 : True := trivial
theorem PySem.W.Fast.tw4028084476005721901 : True := trivial
theorem PySem.W.Fast.tw8302344177430570503 : True := trivial
theorem PySem.W.Fast.tw14640305259634487097 : True := trivial
theorem PySem.W.Fast.tw12950198192348250830 : True := trivial
theorem PySem.W.Fast.tw13248416453950269904 : True := trivial
theorem PySem.W.Fast.tw12404815456661802880 : True := trivial
theorem PySem.W.Fast.tw9300561340935138412 : True := trivial
theorem PySem.W.Fast.tw11803646969625441561 : True := trivial
theorem PySem.W.Fast.tw132861039609944926 : True := trivial
theorem PySem.W.Fast.tw11751504922659130897 : True := trivial
theorem PySem.W.Fast.tw2299372417177925599 : True := trivial
theorem PySem.W.Fast.tw12462785073320511920 : True := trivial
theorem PySem.W.Fast.tw12465809467251562407 : True := trivial
theorem PySem.W.Fast.tw9623476959315112737 : True := trivial
theorem PySem.W.Fast.tw8604083911557606202 : True := trivial
theorem PySem.W.Fast.tw696758765594394696 : True := trivial
theorem PySem.W.Fast.tw109573283901137759 : True := trivial
theorem PySem.W.Fast.tw9216823411179820622 : True := trivial
theorem PySem.W.Fast.tw12849895644303547507 : True := trivial
theorem PySem.Challenge.cw_wardsmith_k26_whole_told_one_by_one_holds : PySem.Challenge.rw_wardsmith_k26_whole_told_one_by_one.Holds := by
 w_on;o_law;k_head;(case hw=>w_witness2)
 k_fill
 refine G.walk (l:=PySem.Challenge.rw_wardsmith_k26_whole_told_one_by_one) rfl rfl (fun w h Y=>PySem.W.kIn_of Y) ?F
 case F=>
  intro w mg fa h KX GG hmg
  refine' G.all_mk KX GG hmg ?a0 ?l0 ?c0 ?k0 ?a1 ?l1 ?c1 ?k1 ?a2 ?l2 ?c2 ?k2 ?a3 ?l3 ?c3 ?k3 ?a4 ?l4 ?c4 ?k4 ?a5 ?l5 ?c5 ?k5 ?a6 ?l6 ?c6 ?k6 ?a7 ?l7 ?c7 ?k7 ?a8 ?l8 ?c8 ?k8 ?a9 ?l9 ?c9 ?k9 ?a10 ?l10 ?c10 ?k10 ?a11 ?l11 ?c11 ?k11 ?a12 ?l12 ?c12 ?k12 ?a13 ?l13 ?c13 ?k13 ?a14 ?l14 ?c14 ?k14 ?a15 ?l15 ?c15 ?k15 ?a16 ?l16 ?c16 ?k16 ?a17 ?l17 ?c17 ?k17 ?a18 ?l18 ?c18 ?k18 ?a19 ?l19 ?c19 ?k19 ?a20 ?l20 ?c20 ?k20 ?a21 ?l21 ?c21 ?k21 ?a22 ?l22 ?c22 ?k22 ?a23 ?l23 ?c23 ?k23 ?a24 ?l24 ?c24 ?k24 ?a25 ?l25 ?c25 ?k25 ?a26 ?l26 ?c26 ?k26 ?a27 ?l27 ?c27 ?k27 ?a28 ?l28 ?c28 ?k28 ?a29 ?l29 ?c29 ?k29 ?a30 ?l30 ?c30 ?k30 ?a31 ?l31 ?c31 ?k31 ?a32 ?l32 ?c32 ?k32 ?a33 ?l33 ?c33 ?k33 ?dl33 ?a34 ?l34 ?c34 ?k34 ?a35 ?l35 ?c35 ?k35 ?a36 ?l36 ?c36 ?k36 ?a37 ?l37 ?c37 ?k37 ?a38 ?l38 ?c38 ?k38 ?a39 ?l39 ?c39 ?k39 ?a40 ?l40 ?c40 ?k40 ?a41 ?l41 ?c41 ?k41 ?z0 ?z1 ?z2 ?z3 ?z4 ?z5 ?z6 ?z7 ?z8 ?z9 ?z10 ?z11 ?z12 ?z13 ?z14 ?z15 ?z16 ?z17 ?z18 ?y0 ?y1
  (case a0=>k_is);(case l0=>k_is);(case c0=>k_is);(case k0=>k_is);(case a1=>k_is);(case l1=>k_is)
  (case c1=>k_is);(case k1=>k_is);(case a2=>k_is);(case l2=>k_is);(case c2=>k_is);(case k2=>k_is)
  (case a3=>k_is);(case l3=>k_is);(case c3=>k_is);(case k3=>k_is);(case a4=>k_is);(case l4=>k_is)
  (case c4=>k_is);(case k4=>k_is);(case a5=>k_is);(case l5=>k_is);(case c5=>k_is);(case k5=>k_is)
  (case a6=>k_is);(case l6=>k_is);(case c6=>k_is);(case k6=>k_is);(case a7=>k_is);(case l7=>k_is)
  (case c7=>k_is);(case k7=>k_is);(case a8=>k_is);(case l8=>k_is);(case c8=>k_is);(case k8=>k_is)
  (case a9=>k_is);(case l9=>k_is);(case c9=>k_is);(case k9=>k_is);(case a10=>k_is);(case l10=>k_is)
  (case c10=>k_is);(case k10=>k_is);(case a11=>k_is);(case l11=>k_is);(case c11=>k_is);(case k11=>k_is)
  (case a12=>k_is);(case l12=>k_is);(case c12=>k_is);(case k12=>k_is);(case a13=>k_is);(case l13=>k_is)
  (case c13=>k_is);(case k13=>k_is);(case a14=>k_is);(case l14=>k_is);(case c14=>k_is);(case k14=>k_is)
  (case a15=>k_is);(case l15=>k_is);(case c15=>k_is);(case k15=>k_is);(case a16=>k_is);(case l16=>k_is)
  (case c16=>k_is);(case k16=>k_is);(case a17=>k_is);(case l17=>k_is);(case c17=>k_is);(case k17=>k_is)
  (case a18=>k_is);(case l18=>k_is);(case c18=>k_is);(case k18=>k_is);(case a19=>k_is);(case l19=>k_is)
  (case c19=>k_is);(case k19=>k_is);(case a20=>k_is);(case l20=>k_is);(case c20=>k_is);(case k20=>k_is)
  (case a21=>k_is);(case l21=>k_is);(case c21=>k_is);(case k21=>k_is);(case a22=>k_is);(case l22=>k_is)
  (case c22=>k_is);(case k22=>k_is);(case a23=>k_is);(case l23=>k_is);(case c23=>k_is);(case k23=>k_is)
  (case a24=>k_is);(case l24=>k_is);(case c24=>k_is);(case k24=>k_is);(case a25=>k_is);(case l25=>k_is)
  (case c25=>k_is);(case k25=>k_is);(case a26=>k_is);(case l26=>k_is);(case c26=>k_is);(case k26=>k_is)
  (case a27=>k_is);(case l27=>k_is);(case c27=>k_is);(case k27=>k_is);(case a28=>k_is);(case l28=>k_is)
  (case c28=>k_is);(case k28=>k_is);(case a29=>k_is);(case l29=>k_is);(case c29=>k_is);(case k29=>k_is)
  (case a30=>k_is);(case l30=>k_is);(case c30=>k_is);(case k30=>k_is);(case a31=>k_is);(case l31=>k_is)
  (case c31=>k_is);(case k31=>k_is);(case a32=>k_is);(case l32=>k_is);(case c32=>k_is);(case k32=>k_is)
  (case a33=>k_is);(case l33=>k_is);(case c33=>k_is);(case k33=>k_is);(case dl33=>k_is);(case a34=>k_is)
  (case l34=>k_is);(case c34=>k_is);(case k34=>k_is);(case a35=>k_is);(case l35=>k_is);(case c35=>k_is)
  (case k35=>k_is);(case a36=>k_is);(case l36=>k_is);(case c36=>k_is);(case k36=>k_is);(case a37=>k_is)
  (case l37=>k_is);(case c37=>k_is);(case k37=>k_is);(case a38=>k_is);(case l38=>k_is);(case c38=>k_is)
  (case k38=>k_is);(case a39=>k_is);(case l39=>k_is);(case c39=>k_is);(case k39=>k_is);(case a40=>k_is)
  (case l40=>k_is);(case c40=>k_is);(case k40=>k_is);(case a41=>k_is);(case l41=>k_is);(case c41=>k_is)
  (case k41=>k_is);(case z0=>k_is);(case z1=>k_is);(case z2=>k_is);(case z3=>k_is);(case z4=>k_is)
  (case z5=>k_is);(case z6=>k_is);(case z7=>k_is);(case z8=>k_is);(case z9=>k_is);(case z10=>k_is)
  (case z11=>k_is);(case z12=>k_is);(case z13=>k_is);(case z14=>k_is);(case z15=>k_is);(case z16=>k_is)
  (case z17=>k_is);(case z18=>k_is);(case y0=>k_is);(case y1=>k_is)
