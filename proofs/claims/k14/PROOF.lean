import PyProof.Rows.All
import Wide.All
import OpenK.AllK
import Wide.FinOn
import Lean
import PyProof.EqAt
import PyProof.EqKinds
import PyProof.TupleCall
import PyProof.ZipIter
import PyProof.Draws
import PyProof.TupleIter
import PyProof.ListMulRoad
import PyProof.FactsAll.tuple
import PyProof.ReprRoads
import PyProof.Rows.RegFStrParts
import PyProof.Rows.Range3
import KE.KIntText
import PyProof.AutoListH
import PyProof.Rows.MinMaxN
import PyProof.SetScanFacts
import PyProof.SetKind
import PyProof.DictKinds
import PyProof.WalkLemmas
import PyProof.CollectWalk
import PyProof.FactsAll.set
import PyProof.Walks
import PyProof.WalksS
import PyProof.SetRoads
import PyProof.Rows.SetFrom
import PyProof.Rows.SortWalk
import PyProof.EnumMake
import PyProof.EnumFor
import PyProof.DictItemsLoops
import PyProof.DictWalks
import KE.KDictList
import PyProof.Rows.SumAny
import KE.KRevIter
import KE.KDictOf
import PyProof.AttrMissHeap
import PyProof.NsDelKeeps
import PyProof.RulesAs
import KE.KTryMore
import PyProof.ExcArgsOwn
import KE.KUnpack
import PyProof.ExcClass2
import OpenK.KMake
import OpenK.KGet
import PyProof.InstStore
import PyProof.InstStoreFacts
import OpenK.KCls
import OpenK.KMore
import PySem.Challenge.RW_wardsmith_k14_the_least_barrel
set_option Elab.async false
set_option linter.all false
set_option maxRecDepth 100000
namespace L2
open PySem PySem.Spec PyProof.Rows
abbrev Key := Sum Int Str
def keyIs : Key → Value → Bool
  | .inl k, v => Value.isInt k v
  | .inr x, v => Value.isStrOf x v
def keyH (w : World) : Key → Int
  | .inl k => hashInt k
  | .inr x => hashStr w x
theorem keyIs_shape : ∀ {k : Key} {v : Value}, keyIs k v = true → (∃ i t, k = Sum.inl i ∧ v = Value.int i t) ∨ (∃ x t, k = Sum.inr x ∧ v = Value.str x t)
  | .inl i, v, h => by
    obtain ⟨t, e⟩ := Value.isInt_shape (k := i) (v := v) h
    exact .inl ⟨i, t, rfl, e⟩
  | .inr x, v, h => by
    obtain ⟨t, e⟩ := Value.isStrOf_shape (x := x) (v := v) h
    exact .inr ⟨x, t, rfl, e⟩
theorem key_ll (a b : Int) : decide ((Sum.inl a : Key) = Sum.inl b) = (a == b) := by
  by_cases e : a = b
  · subst e; simp
  · have h : ¬ (Sum.inl a : Key) = Sum.inl b := fun q => e (Sum.inl.inj q)
    rw [decide_eq_false h]
    exact (beq_eq_false_iff_ne.mpr e).symm
theorem key_rr (a b : Str) : decide ((Sum.inr a : Key) = Sum.inr b) = decide (a = b) := by
  by_cases e : a = b
  · subst e; simp
  · have h : ¬ (Sum.inr a : Key) = Sum.inr b := fun q => e (Sum.inr.inj q)
    rw [decide_eq_false h, decide_eq_false e]
theorem key_lr (a : Int) (b : Str) : decide ((Sum.inl a : Key) = Sum.inr b) = false := decide_eq_false (fun q => nomatch q)
theorem key_rl (a : Str) (b : Int) : decide ((Sum.inr a : Key) = Sum.inl b) = false := decide_eq_false (fun q => nomatch q)
def mixKind (prog : Program) (w : World) : PySem.KeyKind prog w Key where
  is := keyIs
  hash := keyH w
  inj := fun v a b ha hb => by
    rcases keyIs_shape ha with ⟨i, t, rfl, rfl⟩ | ⟨x, t, rfl, rfl⟩
    · rcases keyIs_shape hb with ⟨j, u, rfl, e⟩ | ⟨y, u, rfl, e⟩
      · injection e with e1 _; rw [e1]
      · exact nomatch e
    · rcases keyIs_shape hb with ⟨j, u, rfl, e⟩ | ⟨y, u, rfl, e⟩
      · exact nomatch e
      · injection e with e1 _; rw [e1]
  byValue := fun k v h => by
    rcases keyIs_shape h with ⟨i, t, rfl, rfl⟩ | ⟨x, t, rfl, rfl⟩ <;> rfl
  pyHash := fun hv h => by
    rcases keyIs_shape hv with ⟨i, t, rfl, rfl⟩ | ⟨x, t, rfl, rfl⟩
    · exact wpAny_pyHash_int h
    · exact wpAny_pyHash_str h
  eqBool := fun hu hv h => by
    rcases keyIs_shape hu with ⟨i, t, rfl, rfl⟩ | ⟨x, t, rfl, rfl⟩
    · rcases keyIs_shape hv with ⟨j, u, rfl, rfl⟩ | ⟨y, u, rfl, rfl⟩
      · rw [key_ll] at h; exact wpAny_eqBool_int h
      · rw [key_lr] at h; exact SeqAt.EqAt.int_str i t y u _ _ _ _ h
    · rcases keyIs_shape hv with ⟨j, u, rfl, rfl⟩ | ⟨y, u, rfl, rfl⟩
      · rw [key_rl] at h; exact SeqAt.EqAt.str_int x t j u _ _ _ _ h
      · rw [key_rr] at h; exact wpAny_eqBool_str h
  «strs» := fun k x t v h => by
    rcases keyIs_shape h with ⟨i, u, rfl, e⟩ | ⟨y, u, rfl, e⟩
    · exact nomatch e
    · injection e with e1 _
      subst e1
      cases v <;> rfl
end L2
namespace L2
open PySem PySem.Spec PyProof.Rows
inductive V where
  | non | bl (b : Bool) | int (i : Int) | str (x : Str) | byt (b : Array UInt8) | flt (b : UInt64) | ref (a : Addr) | ty (n : String)
  deriving DecidableEq
def RelV : V → Value → Prop
  | .non, u => u = Value.none
  | .bl b, u => u = Value.bool b
  | .int i, u => ∃ t, u = Value.int i t
  | .str x, u => ∃ t, u = Value.str x t
  | .byt b, u => ∃ t, u = Value.bytes b t
  | .flt b, u => ∃ t, u = Value.float b t
  | .ref a, u => u = Value.ref a
  | .ty n, u => u = Value.type n
abbrev Vals : List V → List Value → Prop := Paired RelV
theorem Vals.length {xs : List V} {us : List Value} (r : Vals xs us) : xs.length = us.length := Paired.length r
theorem Vals.get : ∀ {xs : List V} {us : List Value} {i : Nat} {x : V}, Vals xs us → xs[i]? = some x → ∃ u, us[i]? = some u ∧ RelV x u
  | _, _, _, _, .nil, e => by simp at e
  | _, _, 0, _, .cons r _, e => by simp at e; subst e; exact ⟨_, rfl, r⟩
  | _, _, i + 1, x, .cons _ t, e => by
    obtain ⟨u, h1, h2⟩ := Vals.get (i := i) (x := x) t (by simpa using e)
    exact ⟨u, by simpa using h1, h2⟩
theorem Vals.set {x : V} {u : Value} (r : RelV x u) : ∀ {xs : List V} {us : List Value} (i : Nat), Vals xs us → Vals (xs.set i x) (us.set i u)
  | _, _, _, .nil => .nil
  | _, _, 0, .cons _ t => .cons r t
  | _, _, i + 1, .cons q t => .cons q (Vals.set r i t)
theorem Vals.append : ∀ {xs ys : List V} {us ws : List Value}, Vals xs us → Vals ys ws → Vals (xs ++ ys) (us ++ ws)
  | _, _, _, _, .nil, s => s
  | _, _, _, _, .cons r t, s => .cons r (Vals.append t s)
theorem Vals.take : ∀ {xs : List V} {us : List Value} (n : Nat), Vals xs us → Vals (xs.take n) (us.take n)
  | _, _, 0, _ => .nil
  | _, _, _ + 1, .nil => .nil
  | _, _, n + 1, .cons r t => .cons r (Vals.take n t)
theorem Vals.drop : ∀ {xs : List V} {us : List Value} (n : Nat), Vals xs us → Vals (xs.drop n) (us.drop n)
  | _, _, 0, r => r
  | _, _, _ + 1, .nil => .nil
  | _, _, n + 1, .cons _ t => Vals.drop n t
def RelO : Option V → Option Value → Prop
  | some v, some u => RelV v u
  | none, none => True
  | _, _ => False
def KV {κ : Type} : List (κ × V) → List (κ × Value) → Prop := Paired fun (p : κ × V) (q : κ × Value) => p.1 = q.1 ∧ RelV p.2 q.2
def kV : Key → V
  | .inl i => .int i
  | .inr x => .str x
inductive HO where
    | lst (xs : List V)
    | tup (xs : List V)
    | dK (kvs : List (Key × V)) | dT (kvs : List (List Key × V))
    | set (S : Int → Bool) (n : Nat)
    | ins (C dx : Addr) (fs : List (Str × V))
    | own (x : Addr)
    | xd (fs : List (Str × V))
    | met (f x : Addr)
    | rng (lo hi : Int)
    | frz (o : Obj) (u : HO)
    | tbl (ps : Array Value)
    | ext (φ : Heap → Prop)
abbrev Hp := Addr → Option HO
def upd (H : Hp) (a : Addr) (o : HO) : Hp := fun b => if b = a then some o else H b
theorem upd_same {H : Hp} {a : Addr} {o : HO} : upd H a o a = some o := by unfold upd; rw [if_pos rfl]
theorem upd_ne {H : Hp} {a b : Addr} {o : HO} (h : b ≠ a) : upd H a o b = H b := by unfold upd; rw [if_neg h]
theorem upd_upd {H : Hp} {a : Addr} {o u : HO} : upd (upd H a o) a u = upd H a u := by
  funext b; unfold upd; split <;> rfl
theorem ne_of_none {H : Hp} {a b : Addr} {o : HO} (h : H a = some o) (h' : H b = none) : a ≠ b := by
  intro e; subst e; rw [h] at h'; cases h'
section
variable (P : Program) (w : World)
def ObjOk (H : Hp) (h : Heap) (a : Addr) : HO → Prop
  | .lst xs => xs.length ≤ sizeLine ∧ ∃ (its : List Value) (n : Nat), Vals xs its ∧ h.get? a = some { cls := .type "list", data := .seq its.toArray n }
  | .tup xs => xs.length ≤ sizeLine ∧ ∃ its : List Value, Vals xs its ∧ IsTup h a its.toArray
  | .dK kvs => kvs.length ≤ sizeLine ∧ (a == sysModules) = false ∧ ∃ vs, KV kvs vs ∧ h.DictOf (mixKind P w) a vs
  | .dT kvs => kvs.length ≤ sizeLine ∧ (a == sysModules) = false ∧ ∃ xs : List (List Key × Addr × Value),
      Paired (fun (p : List Key × V) (q : List Key × Addr × Value) => p.1 = q.1 ∧ H q.2.1 = some (.tup (p.1.map kV)) ∧ RelV p.2 q.2.2) kvs xs ∧
      ∃ o es ep, h.get? a = some o ∧ o.ExactDict ∧ o.data = .dict es ep ∧ es.toList = xs.map (entryOfKey (tupleKind (mixKind P w))) ∧ (xs.map (·.1)).Nodup
  | .set S n => h.SetOf (intKind P w) a S n
  | .ins C dx fs => H dx = some (.own a) ∧ fs.length ≤ 1000 ∧ dx ≠ a ∧ h.get? a = some (PySem.W.instObj C dx) ∧
      ∃ mA, h.Ns1 dx mA ∧ (∀ f, RelO (fs.lookup f) (mA f)) ∧ PySem.Within mA (fs.map (·.1))
  | .own _ => ∃ o, h.get? a = some o
  | .xd fs => ∃ mA, h.Ns1 a mA ∧ ∀ f, RelO (fs.lookup f) (mA f)
  | .rng lo hi => ∃ t u v, h.get? a = some { cls := .type "range", data := .fields #[.int lo t, .int hi u, .int 1 v] }
  | .frz o u => h.get? a = some o ∧ ObjOk H h a u
  | .tbl ps => h.get? a = some { cls := .none, data := .fields ps }
  | .met f x => h.get? a = some (PySem.W.methodObj (.ref f) (.ref x))
  | .ext φ => φ h ∧ (∃ o, h.get? a = some o) ∧ ∀ h1 h2 : Heap, φ h1 → (∀ o, h1.get? a = some o → h2.get? a = some o) → φ h2
def HOk (H : Hp) (h : Heap) : Prop := ∀ a o, H a = some o → ObjOk P w H h a o
end
section
variable {P : Program} {w : World} {H H' : Hp} {h h' : Heap} {a : Addr} {o : HO}
theorem ObjOk.lt (x : ObjOk P w H h a o) : a < h.objs.size := by
  cases o with
  | lst xs => obtain ⟨_, _, _, _, e⟩ := x; exact Heap.lt_size e
  | tup xs => obtain ⟨_, _, _, p⟩ := x; exact p.lt
  | dK kvs => obtain ⟨_, _, _, _, o, _, _, e, _⟩ := x; exact Heap.lt_size e
  | dT kvs => obtain ⟨_, _, _, _, o, _, _, e, _⟩ := x; exact Heap.lt_size e
  | set S n => obtain ⟨o, _, _, _, e, _⟩ := x; exact Heap.lt_size e
  | ins C dx fs => obtain ⟨_, _, _, e, _⟩ := x; exact Heap.lt_size e
  | own y => obtain ⟨_, e⟩ := x; exact Heap.lt_size e
  | xd fs => obtain ⟨_, ⟨_, _, _, e, _⟩, _⟩ := x; exact Heap.lt_size e
  | rng lo hi => obtain ⟨_, _, _, e⟩ := x; exact Heap.lt_size e
  | frz ob u => obtain ⟨e, _⟩ := x; exact Heap.lt_size e
  | tbl ps => exact Heap.lt_size (show h.get? a = some _ from x)
  | met f y => exact Heap.lt_size (show h.get? a = some _ from x)
  | ext φ => obtain ⟨_, ⟨_, e⟩, _⟩ := x; exact Heap.lt_size e
theorem Paired.mapP {α β : Type} {F G : α → β → Prop} : ∀ {l₁ : List α} {l₂ : List β}, Paired F l₁ l₂ → (∀ a b, F a b → G a b) → Paired G l₁ l₂
  | _, _, .nil, _ => .nil
  | _, _, .cons r t, f => .cons (f _ _ r) (Paired.mapP t f)
theorem ObjOk.stay (x : ObjOk P w H h a o) (k : ∀ b u, (b = a ∨ H b = some (.own a)) → h.get? b = some u → h'.get? b = some u)
    (ho : ∀ b, H b = some (.own a) → H' b = some (.own a)) (ht : ∀ b xs, H b = some (.tup xs) → H' b = some (.tup xs)) : ObjOk P w H' h' a o := by
  induction o with
  | lst xs => obtain ⟨z, its, n, r, e⟩ := x; exact ⟨z, its, n, r, k _ _ (.inl rfl) e⟩
  | tup xs => obtain ⟨z, its, r, ob, e, c⟩ := x; exact ⟨z, its, r, ob, k _ _ (.inl rfl) e, c⟩
  | dK kvs => obtain ⟨z, y, vs, r, ob, es, ep, e, c⟩ := x; exact ⟨z, y, vs, r, ob, es, ep, k _ _ (.inl rfl) e, c⟩
  | dT kvs =>
    obtain ⟨z, y, xs, r, ob, es, ep, e, c⟩ := x
    exact ⟨z, y, xs, Paired.mapP r fun p q z => ⟨z.1, ht _ _ z.2.1, z.2.2⟩, ob, es, ep, k _ _ (.inl rfl) e, c⟩
  | set S n => obtain ⟨ob, es, ep, t, e, c⟩ := x; exact ⟨ob, es, ep, t, k _ _ (.inl rfl) e, c⟩
  | ins C dx fs =>
    obtain ⟨d, z, ne, e, mA, ⟨od, es, ep, e2, c⟩, r⟩ := x
    exact ⟨ho _ d, z, ne, k _ _ (.inl rfl) e, mA, ⟨od, es, ep, k _ _ (.inr d) e2, c⟩, r⟩
  | own y => obtain ⟨ob, e⟩ := x; exact ⟨ob, k _ _ (.inl rfl) e⟩
  | xd fs => obtain ⟨mA, ⟨od, es, ep, e, c⟩, r⟩ := x; exact ⟨mA, ⟨od, es, ep, k _ _ (.inl rfl) e, c⟩, r⟩
  | rng lo hi => obtain ⟨t, u, v, e⟩ := x; exact ⟨t, u, v, k _ _ (.inl rfl) e⟩
  | frz ob u ih => obtain ⟨e, q⟩ := x; exact ⟨k _ _ (.inl rfl) e, ih q⟩
  | tbl ps =>
    have e : h.get? a = some { cls := .none, data := .fields ps } := x
    show h'.get? a = some { cls := .none, data := .fields ps }
    exact k a _ (.inl rfl) e
  | met f y =>
    have e : h.get? a = some (PySem.W.methodObj (.ref f) (.ref y)) := x
    show h'.get? a = some (PySem.W.methodObj (.ref f) (.ref y))
    exact k a _ (.inl rfl) e
  | ext φ => obtain ⟨p, ⟨o, e⟩, st⟩ := x; exact ⟨st _ _ p fun o q => k _ _ (.inl rfl) q, ⟨o, k _ _ (.inl rfl) e⟩, st⟩
theorem HOk.lt (x : HOk P w H h) (e : H a = some o) : a < h.objs.size := (x a o e).lt
theorem HOk.fresh (x : HOk P w H h) (e : h.objs.size ≤ a) : H a = none := by
  cases q : H a with
  | none => rfl
  | some u => exact absurd (Nat.lt_of_lt_of_le (x.lt q) e) (Nat.lt_irrefl _)
theorem HOk.kept (x : HOk P w H h) (k : ∀ b u, h.get? b = some u → h'.get? b = some u) : HOk P w H h' := fun a o e =>
  (x a o e).stay (fun b u _ q => k b u q) (fun _ q => q) fun _ _ q => q
theorem HOk.laid (x : HOk P w H h) (k : ∀ b u, h.get? b = some u → h'.get? b = some u) (hp : h.objs.size ≤ a) (new : ObjOk P w (upd H a o) h' a o) : HOk P w (upd H a o) h' := fun b u e => by
  have hn := x.fresh hp
  by_cases hb : b = a
  · subst hb; rw [upd_same] at e; cases e; exact new
  · rw [upd_ne hb] at e
    exact (x b u e).stay (fun c v _ q => k c v q) (fun c q => by rw [upd_ne (ne_of_none q hn)]; exact q) fun c xs q => by rw [upd_ne (ne_of_none q hn)]; exact q
end
def Rd (H : Hp) (a : Addr) (u : HO) : Prop := H a = some u ∨ ∃ o, H a = some (.frz o u)
theorem Rd.of {H : Hp} {a : Addr} {u : HO} (h : H a = some u) : Rd H a u := .inl h
theorem Rd.ok {P : Program} {w : World} {H : Hp} {h : Heap} {a : Addr} {u : HO} (r : Rd H a u) (x : HOk P w H h) : ObjOk P w H h a u := by
  rcases r with r | ⟨o, r⟩
  · exact x a u r
  · obtain ⟨_, q⟩ := x a _ r
    exact q
def Mut : Option HO → Prop
  | some (.lst _) => True
  | some (.dK _) => True
  | some (.dT _) => True
  | some (.set _ _) => True
  | some (.ins _ _ _) => True
  | some (.ext _) => True
  | _ => False
section
variable {P : Program} {w : World} {H : Hp} {h h' : Heap} {x e : Addr} {o' : HO}
theorem HOk.write (ok : HOk P w H h) (mu : Mut (H x)) (he : e = x ∨ H e = some (.own x)) (k : ∀ b u, b ≠ e → h.get? b = some u → h'.get? b = some u) (heo : ∃ u, h'.get? e = some u)
    (new : ObjOk P w (upd H x o') h' x o') : HOk P w (upd H x o') h' := fun b u q => by
  have nown : ∀ c y, H c = some (.own y) → c ≠ x := fun c y r z => by subst z; rw [r] at mu; exact mu
  have ntup : ∀ c xs, H c = some (.tup xs) → c ≠ x := fun c xs r z => by subst z; rw [r] at mu; exact mu
  by_cases hb : b = x
  · subst hb; rw [upd_same] at q; cases q; exact new
  · rw [upd_ne hb] at q
    by_cases hbe : b = e
    · have q' : H b = some (.own x) := by
        rcases he with z | z
        · exact absurd (hbe.trans z) hb
        · rw [hbe]; exact z
      rw [q] at q'; cases q'
      obtain ⟨v, hv⟩ := heo
      exact ⟨v, by rw [hbe]; exact hv⟩
    · refine (ok b u q).stay (fun c v hc r => k c v ?_ r) (fun c r => by rw [upd_ne (nown c b r)]; exact r) fun c xs r => by rw [upd_ne (ntup c xs r)]; exact r
      rcases hc with rfl | hc
      · exact hbe
      · rintro rfl
        rcases he with z | z
        · exact nown c b hc z
        · rw [hc] at z; cases z; exact hb rfl
end
structure Un (fs ex : List Addr) (H H' : Hp) (h h' : Heap) : Prop where
  keep : ∀ b o, h.get? b = some o → H b = none → b ∉ fs → b ∉ ex → h'.get? b = some o
  slot : ∀ b o, h.get? b = some o → H b = none → b ∈ fs → b ∉ ex → ∃ sl, h'.get? b = some { o with slots := sl }
  free : ∀ b o, h.get? b = some o → H b = none → b ∉ ex → H' b = none
  there : ∀ b o, h.get? b = some o → b ∉ ex → ∃ o', h'.get? b = some o'
  tups : ∀ b xs, H b = some (.tup xs) → H' b = some (.tup xs)
  frzs : ∀ b o u, H b = some (.frz o u) → H' b = some (.frz o u)
  tbls : ∀ b ps, H b = some (.tbl ps) → ∃ more, H' b = some (.tbl (ps ++ more))
section
variable {fs fs' ex ex' : List Addr} {H H1 H2 : Hp} {h h1 h2 h' : Heap} {a x e : Addr} {o : HO}
theorem Un.any (u : Un fs ex H H1 h h1) {b : Addr} {ob : Obj} (q : h.get? b = some ob) (n : H b = none) (hx : b ∉ ex) : ∃ sl, h1.get? b = some { ob with slots := sl } := by
  by_cases hb : b ∈ fs
  · exact u.slot b ob q n hb hx
  · exact ⟨ob.slots, u.keep b ob q n hb hx⟩
theorem Un.trans (a : Un fs ex H H1 h h1) (b : Un fs ex H1 H2 h1 h2) : Un fs ex H H2 h h2 where
  keep := fun c ob q n hc hx => b.keep c ob (a.keep c ob q n hc hx) (a.free c ob q n hx) hc hx
  slot := fun c ob q n hc hx => by
    obtain ⟨sl, e1⟩ := a.slot c ob q n hc hx
    obtain ⟨sl', e2⟩ := b.slot c _ e1 (a.free c ob q n hx) hc hx
    exact ⟨sl', e2⟩
  free := fun c ob q n hx => by
    obtain ⟨o', e1⟩ := a.there c ob q hx
    exact b.free c o' e1 (a.free c ob q n hx) hx
  there := fun c ob q hx => by
    obtain ⟨o', e1⟩ := a.there c ob q hx
    exact b.there c o' e1 hx
  tups := fun c xs q => b.tups c xs (a.tups c xs q)
  frzs := fun c ob xs q => b.frzs c ob xs (a.frzs c ob xs q)
  tbls := fun c ps q => by
    obtain ⟨m1, e1⟩ := a.tbls c ps q
    obtain ⟨m2, e2⟩ := b.tbls c _ e1
    exact ⟨m1 ++ m2, by rw [e2, Array.append_assoc]⟩
theorem Un.kept (k : ∀ b u, h.get? b = some u → h'.get? b = some u) : Un fs ex H H h h' :=
  ⟨fun b ob q _ _ _ => k b ob q, fun b ob q _ _ _ => ⟨ob.slots, k b ob q⟩, fun _ _ _ n _ => n, fun b ob q _ => ⟨ob, k b ob q⟩, fun _ _ q => q, fun _ _ _ q => q, fun _ ps q => ⟨#[], by rw [q]; simp⟩⟩
theorem Un.refl : Un fs ex H H h h := Un.kept fun _ _ q => q
theorem Un.laid (k : ∀ b u, h.get? b = some u → h'.get? b = some u) (hp : h.objs.size ≤ a) (hn : H a = none) : Un fs ex H (upd H a o) h h' where
  keep := fun b u q _ _ _ => k b u q
  slot := fun b u q _ _ _ => ⟨u.slots, k b u q⟩
  free := fun b u q n _ => by rw [upd_ne (Nat.ne_of_lt (Nat.lt_of_lt_of_le (Heap.lt_size q) hp))]; exact n
  there := fun b u q _ => ⟨u, k b u q⟩
  tups := fun b xs q => by rw [upd_ne (ne_of_none q hn)]; exact q
  frzs := fun b u xs q => by rw [upd_ne (ne_of_none q hn)]; exact q
  tbls := fun b ps q => ⟨#[], by rw [upd_ne (ne_of_none q hn), q]; simp⟩
theorem Un.write (mu : Mut (H x)) (he : e = x ∨ H e = some (.own x)) (k : ∀ b u, b ≠ e → h.get? b = some u → h'.get? b = some u) (heo : ∃ u, h'.get? e = some u) : Un fs ex H (upd H x o) h h' := by
  have hx : ∀ b, H b = none → b ≠ x := fun b n z => by subst z; rw [n] at mu; exact mu
  have hb : ∀ b, H b = none → b ≠ e := fun b n z => by
    subst z
    rcases he with r | r
    · exact hx b n r
    · rw [n] at r; cases r
  have hm : ∀ b u, H b = some u → ¬ Mut (some u) → b ≠ x := fun b u q nm z => by subst z; rw [q] at mu; exact nm mu
  refine ⟨fun b u q n _ _ => k b u (hb b n) q, fun b u q n _ _ => ⟨u.slots, k b u (hb b n) q⟩, fun b u q n _ => by rw [upd_ne (hx b n)]; exact n, fun b u q _ => ?_,
    fun b xs q => by rw [upd_ne (hm b _ q fun z => z)]; exact q, fun b u xs q => by rw [upd_ne (hm b _ q fun z => z)]; exact q, fun b ps q => ⟨#[], by rw [upd_ne (hm b _ q fun z => z), q]; simp⟩⟩
  by_cases hbe : b = e
  · subst hbe; exact heo
  · exact ⟨u, k b u hbe q⟩
theorem Un.mono (u : Un fs ex H H1 h h1) (hs : ∀ b ∈ fs, b ∈ fs') (hx : ∀ b ∈ ex, b ∈ ex') : Un fs' ex' H H1 h h1 :=
  ⟨fun b ob q n hb he => u.keep b ob q n (fun z => hb (hs b z)) fun z => he (hx b z), fun _ _ q n _ he => u.any q n fun z => he (hx _ z), fun b ob q n he => u.free b ob q n fun z => he (hx b z), fun b ob q he => u.there b ob q fun z => he (hx b z), u.tups, u.frzs, u.tbls⟩
end
def trk (h : Heap) (H : Hp) : List Addr := (List.range h.objs.size).filter fun a => (H a).isSome
def hidT (h : Heap) (H : Hp) : Heap := PySem.W.hideAll h (trk h H)
theorem hidT_size (h : Heap) (H : Hp) : (hidT h H).objs.size = h.objs.size := PySem.W.hideAll_size _ _
theorem hidT_get {h : Heap} {H : Hp} {b : Addr} {o : Obj} (e : h.get? b = some o) (n : H b = none) : (hidT h H).get? b = some o :=
  PySem.W.hideAll_get _ e fun hm => by
    have q : (H b).isSome = true := (List.mem_filter.mp hm).2
    rw [n] at q; simp at q
theorem of_hidT {h : Heap} {H : Hp} {b : Addr} {o : Obj} (e : (hidT h H).get? b = some o) : h.get? b = some o ∧ H b = none := by
  have e' : h.get? b = some o := PySem.W.of_hideAll (trk h H) e
  refine ⟨e', ?_⟩
  cases q : H b with
  | none => rfl
  | some x =>
    have hm : b ∈ trk h H := List.mem_filter.mpr ⟨List.mem_range.mpr (Heap.lt_size e'), by simp [q]⟩
    have z : (hidT h H).get? b = none := PySem.W.hideAll_none (trk h H) hm
    rw [z] at e; cases e
def allNews (g h : Heap) (L : Addr) : List (Addr × Obj) := (List.range h.objs.size).filterMap fun a => if a = L ∨ (g.get? a).isSome = true then none else (h.get? a).map fun o => (a, o)
def rest (g h : Heap) (L d : Addr) : List (Addr × Obj) := (allNews g h L).filter fun p => decide (p.1 ≠ d)
end L2
namespace L2
open PySem PySem.Spec PyProof.Rows
structure Mod (K : PySem.W.Frag) (mg : Str → Option Value) (base : Heap) : Prop where
  kin : K.In base
  glob : base.Ns mainGlobals mg
  blt : ∃ mb, base.Ns builtinsNs mb ∧ ∀ x : Str, x ≠ "__name__" → mb x = bootBuiltins x
  nolimit : base.NoLimit
structure Cx where
  prog : Program
  w : World
  K : PySem.W.Frag
  mg : Str → Option Value
  base : Heap
  A : Around
  N : List Str
  s₀ : Shared
  H₀ : Hp
  env : Env
  outer : List Env
  stack : List Env
  ex : List Addr
  fn : Str → Bool
  calm : Bool
  pn : List (Addr × Obj)
  xe : Value → Shared → Prop
def frs (l : List Env) : List Addr := l.filterMap (·.frame)
abbrev Cx.fs (X : Cx) : List Addr := frs X.outer
def Vis (sc : Scope) (x : Str) : Prop := sc.names.lookup x = some .local ∨ sc.names.lookup x = some .cell ∨ sc.names.lookup x = some .free
def Loc (sc : Scope) (x : Str) : Prop := sc.names.lookup x = some .local ∨ sc.names.lookup x = some .cell
def Look (env : Env) (h : Heap) (m : Str → Option Value) (x : Str) (u : Value) : Prop :=
  (env.kindOf x = some .local ∧ m x = some u) ∨ ((env.kindOf x = some .cell ∨ env.kindOf x = some .free) ∧ ∃ c, env.cells.lookup x = some c ∧ h.IsCell c (some u))
structure Cx.Ok (X : Cx) : Prop where
  mod : Mod X.K X.mg X.base
  kind : X.env.scope.kind = .function
  glob : X.env.globals = mainGlobals
  blt : X.env.builtins = builtinsNs
  above : X.s₀.heap.objs.size ≤ X.env.locals
  inj : ∀ x y c, X.env.cells.lookup x = some c → X.env.cells.lookup y = some c → x = y
  has : ∀ x, (X.env.kindOf x = some .cell ∨ X.env.kindOf x = some .free) → ∃ c, X.env.cells.lookup x = some c
  cab : ∀ x c, X.fn x = true → X.env.cells.lookup x = some c → X.s₀.heap.objs.size ≤ c
  hd : X.calm = true → X.A.handled = none
  frames : X.A.frames = some X.stack
  stk : X.stack = X.outer ∨ (X.stack = X.env :: X.outer ∧ X.env.frame = some X.env.locals)
  exf : ∀ b ∈ X.ex, b ≠ X.env.locals ∧ ∀ x c, X.env.cells.lookup x = some c → c ≠ b
  bs : ∀ b o, X.base.get? b = some o → X.s₀.heap.get? b = some o ∧ X.H₀ b = none
  bsz : X.base.objs.size ≤ X.s₀.heap.objs.size
  noex : ∀ b o, X.base.get? b = some o → b ∉ X.ex
  exfs : ∀ b ∈ X.ex, b ∉ X.fs
  funs : X.s₀.heap.FunFrames X.base X.outer
  frf : ∀ b ∈ X.fs, X.H₀ b = none
structure Inv (X : Cx) (pins : List (Addr × Obj)) (σ : List (Option V)) (H : Hp) (s : Shared) : Prop where
  ok : X.Ok
  os : s.os = X.s₀.os
  bare : AllBare s.gens
  base : Un X.fs X.ex X.H₀ H X.s₀.heap s.heap
  loc : ∃ m, s.heap.Ns X.env.locals m ∧ ∀ (i : Nat) (x : Str) (v : V), X.N[i]? = some x → σ[i]? = some (some v) → Vis X.env.scope x → ∃ u, RelV v u ∧ Look X.env s.heap m x u
  cell : ∀ x c, X.env.cells.lookup x = some c → ∃ v, s.heap.IsCell c v
  free : H X.env.locals = none
  freeC : ∀ x c, X.env.cells.lookup x = some c → H c = none
  pin : ∀ p ∈ X.pn ++ pins, s.heap.get? p.1 = some p.2 ∧ H p.1 = none ∧ p.1 ≠ X.env.locals ∧ p.1 ∉ X.fs ∧ ∀ v, p.2.data ≠ .cell v
  hok : HOk X.prog X.w H s.heap
  len : σ.length = X.N.length
section
variable {X : Cx} {pins : List (Addr × Obj)} {σ : List (Option V)} {H H' : Hp} {s : Shared} {h' : Heap}
theorem Cx.Ok.nofr (ok : X.Ok) {b : Addr} {o : Obj} (e : X.base.get? b = some o) : b ∉ X.fs := fun hb => by
  have := (ok.funs.mem hb).1
  rw [e] at this; cases this
theorem Inv.bs (I : Inv X pins σ H s) : ∀ b o, X.base.get? b = some o → s.heap.get? b = some o ∧ H b = none := fun b o e =>
  ⟨I.base.keep b o (I.ok.bs b o e).1 (I.ok.bs b o e).2 (I.ok.nofr e) (I.ok.noex b o e), I.base.free b o (I.ok.bs b o e).1 (I.ok.bs b o e).2 (I.ok.noex b o e)⟩
theorem Inv.bk (I : Inv X pins σ H s) : ∀ b o, X.base.get? b = some o → s.heap.get? b = some o := fun b o e => (I.bs b o e).1
theorem Inv.mod (I : Inv X pins σ H s) : Mod X.K X.mg X.base := I.ok.mod
theorem Inv.kIn (I : Inv X pins σ H s) : X.K.In s.heap := I.ok.mod.kin.keeps I.bk
theorem Inv.nolimit (I : Inv X pins σ H s) : s.heap.NoLimit := I.ok.mod.nolimit.keeps I.bk
theorem Inv.fr (I : Inv X pins σ H s) : ∃ m, Fr X.base X.env.locals s.heap m :=
  let ⟨m, hn, _⟩ := I.loc
  ⟨m, hn, I.bk, Nat.le_trans I.ok.bsz I.ok.above⟩
theorem Inv.lt (I : Inv X pins σ H s) : X.env.locals < s.heap.objs.size := let ⟨_, hn, _⟩ := I.loc; hn.lt
theorem Inv.sz (I : Inv X pins σ H s) : X.s₀.heap.objs.size ≤ s.heap.objs.size := Nat.le_trans I.ok.above (Nat.le_of_lt I.lt)
theorem Inv.nofs (I : Inv X pins σ H s) {a : Addr} (h : s.heap.objs.size ≤ a) : a ∉ X.fs := fun hb => by
  obtain ⟨_, o, ho, _⟩ := I.ok.funs.mem hb
  exact absurd (Nat.lt_of_lt_of_le (Heap.lt_size ho) (Nat.le_trans I.sz h)) (Nat.lt_irrefl _)
theorem Inv.cne (I : Inv X pins σ H s) : ∀ x c, X.env.cells.lookup x = some c → c ≠ X.env.locals := fun x c e z => by
  obtain ⟨v, o, ho, hd⟩ := I.cell x c e
  obtain ⟨m, ⟨o', es, ep, ho', hd', _⟩, _⟩ := I.loc
  rw [z, ho'] at ho; cases ho; rw [hd'] at hd; cases hd
theorem Inv.funs (I : Inv X pins σ H s) : s.heap.FunFrames X.base X.outer := by
  have all : ∀ (l : List Env), (∀ b ∈ frs l, b ∈ X.fs) → X.s₀.heap.FunFrames X.base l → s.heap.FunFrames X.base l := by
    intro l
    induction l with
    | nil => intro _ _; trivial
    | cons env r ih =>
      intro hs hl
      obtain ⟨hk, ⟨L, o, hf, hn, ho, hd⟩, hr⟩ := hl
      have hL : L ∈ X.fs := hs L (by unfold frs; rw [List.filterMap_cons, hf]; exact List.mem_cons_self)
      obtain ⟨sl, e⟩ := I.base.slot L o ho (I.ok.frf L hL) hL fun z => I.ok.exfs L z hL
      exact ⟨hk, ⟨L, _, hf, hn, e, hd⟩, ih (fun b hb => hs b (by unfold frs; rw [List.filterMap_cons, hf]; exact List.mem_cons_of_mem _ hb)) hr⟩
  exact all X.outer (fun _ hb => hb) I.ok.funs
theorem Inv.stack (I : Inv X pins σ H s) : s.heap.FunFrames X.base X.stack := by
  rcases I.ok.stk with e | ⟨e, hf⟩
  · rw [e]; exact I.funs
  · rw [e]
    obtain ⟨m, hn, _⟩ := I.loc
    refine .cons (by rw [I.ok.kind]; decide) hf hn ?_ I.funs
    exact Heap.get?_none_of_le (Nat.le_trans I.ok.bsz I.ok.above)
theorem Inv.stkSub (I : Inv X pins σ H s) : ∀ b ∈ frs X.stack, b ∈ X.env.locals :: X.fs := fun b hb => by
  rcases I.ok.stk with e | ⟨e, hf⟩
  · rw [e] at hb; exact List.mem_cons_of_mem _ hb
  · rw [e] at hb
    unfold frs at hb
    rw [List.filterMap_cons, hf] at hb
    exact hb
theorem Inv.stkFree (I : Inv X pins σ H s) : ∀ b ∈ frs X.stack, H b = none := fun b hb => by
  rcases List.mem_cons.mp (I.stkSub b hb) with e | hb
  · rw [e]; exact I.free
  · obtain ⟨_, o, ho, _⟩ := I.ok.funs.mem hb
    exact I.base.free b o ho (I.ok.frf b hb) fun z => I.ok.exfs b z hb
theorem Inv.step {g' : Array GenState} {t' : Nat} {d' : Drawn} {ch : List Addr} (I : Inv X pins σ H s)
    (hch : ∀ b ∈ ch, (b ∈ X.ex ∨ X.s₀.heap.objs.size ≤ b) ∧ b ≠ X.env.locals ∧ (∀ x c, X.env.cells.lookup x = some c → c ≠ b) ∧ ∀ p ∈ X.pn ++ pins, p.1 ≠ b)
    (keep : ∀ b o, b ≠ X.env.locals → b ∉ X.fs → b ∉ ch → s.heap.get? b = some o → H b = none → h'.get? b = some o)
    (slot : ∀ b o, b ≠ X.env.locals → b ∈ X.fs → b ∉ ch → s.heap.get? b = some o → H b = none → ∃ sl, h'.get? b = some { o with slots := sl }) (free : ∀ b o, b ∉ ch → s.heap.get? b = some o → H b = none → H' b = none)
    (there : ∀ b o, b ∉ ch → s.heap.get? b = some o → ∃ o', h'.get? b = some o')
    (tups : ∀ b xs, H b = some (.tup xs) → H' b = some (.tup xs)) (frzs : ∀ b o u, H b = some (.frz o u) → H' b = some (.frz o u)) (tbls : ∀ b ps, H b = some (.tbl ps) → ∃ more, H' b = some (.tbl (ps ++ more)))
    (ns : ∀ m, s.heap.Ns X.env.locals m → h'.Ns X.env.locals m) (hok : HOk X.prog X.w H' h') (hg : AllBare g') :
    Inv X pins σ H' { s with heap := h', gens := g', drawn := d', toks := t' } := by
  have neL : ∀ b o, X.s₀.heap.get? b = some o → b ≠ X.env.locals := fun b o e => Nat.ne_of_lt (Nat.lt_of_lt_of_le (Heap.lt_size e) I.ok.above)
  have neC : ∀ b o, X.s₀.heap.get? b = some o → b ∉ X.ex → b ∉ ch := fun b o e hx hb => by
    rcases (hch b hb).1 with z | z
    · exact hx z
    · exact absurd (Nat.lt_of_lt_of_le (Heap.lt_size e) z) (Nat.lt_irrefl _)
  have cellK : ∀ x c, X.env.cells.lookup x = some c → ∀ v, s.heap.IsCell c v → h'.IsCell c v := fun x c e v ⟨o, ho, hd⟩ => by
    have nch : c ∉ ch := fun z => (hch c z).2.2.1 x c e rfl
    by_cases hc : c ∈ X.fs
    · obtain ⟨sl, q⟩ := slot c o (I.cne x c e) hc nch ho (I.freeC x c e)
      exact ⟨_, q, hd⟩
    · exact ⟨o, keep c o (I.cne x c e) hc nch ho (I.freeC x c e), hd⟩
  refine ⟨I.ok, I.os, hg, ⟨fun b o e n hb hx => ?_, fun b o e n hb hx => ?_, fun b o e n hx => ?_, fun b o e hx => ?_, fun b xs e => tups b xs (I.base.tups b xs e), fun b o xs e => frzs b o xs (I.base.frzs b o xs e), fun b ps e => ?_⟩, ?_, fun x c e => ?_, ?_, fun x c e => ?_, fun p hp => ?_, hok, I.len⟩
  · exact keep b o (neL b o e) hb (neC b o e hx) (I.base.keep b o e n hb hx) (I.base.free b o e n hx)
  · obtain ⟨sl, e1⟩ := I.base.slot b o e n hb hx
    obtain ⟨sl', e2⟩ := slot b _ (neL b o e) hb (neC b o e hx) e1 (I.base.free b o e n hx)
    exact ⟨sl', e2⟩
  · obtain ⟨o', e1⟩ := I.base.there b o e hx
    exact free b o' (neC b o e hx) e1 (I.base.free b o e n hx)
  · obtain ⟨o', e1⟩ := I.base.there b o e hx
    exact there b o' (neC b o e hx) e1
  · obtain ⟨m1, e1⟩ := I.base.tbls b ps e
    obtain ⟨m2, e2⟩ := tbls b _ e1
    exact ⟨m1 ++ m2, by rw [e2, Array.append_assoc]⟩
  · obtain ⟨m, hn, hl⟩ := I.loc
    refine ⟨m, ns m hn, fun i x v e1 e2 e3 => ?_⟩
    obtain ⟨u, r, l⟩ := hl i x v e1 e2 e3
    refine ⟨u, r, ?_⟩
    rcases l with l | ⟨k, c, e, z⟩
    · exact .inl l
    · exact .inr ⟨k, c, e, cellK x c e _ z⟩
  · obtain ⟨v, z⟩ := I.cell x c e
    exact ⟨v, cellK x c e v z⟩
  · obtain ⟨m, ⟨o, _, _, ho, _⟩, _⟩ := I.loc
    exact free _ o (fun z => (hch _ z).2.1 rfl) ho I.free
  · obtain ⟨v, o, ho, hd⟩ := I.cell x c e
    exact free c o (fun z => (hch c z).2.2.1 x c e rfl) ho (I.freeC x c e)
  · obtain ⟨e, n, ne, nf, d⟩ := I.pin p hp
    have nch : p.1 ∉ ch := fun z => (hch p.1 z).2.2.2 p hp rfl
    exact ⟨keep p.1 p.2 ne nf nch e n, free p.1 p.2 nch e n, ne, nf, d⟩
theorem Inv.un {t' : Nat} (I : Inv X pins σ H s) (u : Un X.fs [] H H' s.heap h') (hok : HOk X.prog X.w H' h') : Inv X pins σ H' { s with heap := h', toks := t' } := by
  obtain ⟨m, ⟨o, es, ep, ho, r⟩, _⟩ := id I.loc
  obtain ⟨sl, hL⟩ := u.any ho I.free (by simp)
  exact I.step (g' := s.gens) (d' := s.drawn) (ch := []) (fun _ z => nomatch z) (fun b o _ hb _ e n => u.keep b o e n hb (by simp)) (fun b o _ hb _ e n => u.slot b o e n hb (by simp)) (fun b o _ e n => u.free b o e n (by simp)) (fun b o _ e => u.there b o e (by simp)) u.tups u.frzs u.tbls (fun m' hm => by
    obtain ⟨o', es', ep', ho', r'⟩ := hm
    rw [ho] at ho'; cases ho'
    exact ⟨_, es', ep', hL, r'⟩) hok I.bare
theorem Inv.call {g' : Array GenState} {t' : Nat} {d' : Drawn} {ch : List Addr} (I : Inv X pins σ H s) (u : Un (frs X.stack) ch H H' s.heap h') (hok : HOk X.prog X.w H' h') (hg : AllBare g')
    (hch : ∀ b ∈ ch, (b ∈ X.ex ∨ X.s₀.heap.objs.size ≤ b) ∧ b ≠ X.env.locals ∧ (∀ x c, X.env.cells.lookup x = some c → c ≠ b) ∧ ∀ p ∈ X.pn ++ pins, p.1 ≠ b) :
    Inv X pins σ H' { s with heap := h', gens := g', drawn := d', toks := t' } := by
  obtain ⟨m, ⟨o, es, ep, ho, r⟩, _⟩ := id I.loc
  obtain ⟨sl, hL⟩ := u.any ho I.free fun z => (hch _ z).2.1 rfl
  exact I.step (ch := ch) hch (fun b o hL hb hc e n => u.keep b o e n (fun z => (List.mem_cons.mp (I.stkSub b z)).elim hL hb) hc) (fun b o _ _ hc e n => u.any e n hc) (fun b o hc e n => u.free b o e n hc) (fun b o hc e => u.there b o e hc) u.tups u.frzs u.tbls (fun m' hm => by
    obtain ⟨o', es', ep', ho', r'⟩ := hm
    rw [ho] at ho'; cases ho'
    exact ⟨_, es', ep', hL, r'⟩) hok hg
theorem Inv.turned {t' : Nat} {it : Addr} (I : Inv X pins σ H s) (k : ∀ b o, b ≠ it → s.heap.get? b = some o → h'.get? b = some o) (hn : H it = none) (hL : it ≠ X.env.locals)
    (h1 : it ∈ X.ex ∨ X.s₀.heap.objs.size ≤ it) (h2 : ∀ x c, X.env.cells.lookup x = some c → c ≠ it) (h3 : ∀ p ∈ X.pn ++ pins, p.1 ≠ it) : Inv X pins σ H { s with heap := h', toks := t' } := by
  have nit : ∀ b u, H b = some u → b ≠ it := fun b u e z => by rw [z, hn] at e; cases e
  refine I.step (g' := s.gens) (d' := s.drawn) (ch := [it]) (fun b hb => ?_) (fun b o _ _ hc e _ => k b o (fun z => hc (by simp [z])) e) (fun b o _ _ hc e _ => ⟨o.slots, k b o (fun z => hc (by simp [z])) e⟩) (fun _ _ _ _ n => n)
    (fun b o hc e => ⟨o, k b o (fun z => hc (by simp [z])) e⟩) (fun _ _ e => e) (fun _ _ _ e => e) (fun b ps e => ⟨#[], by rw [e]; simp⟩) (fun m hm => ?_) (fun b u e => ?_) I.bare
  · have e : b = it := by simpa using hb
    subst e
    exact ⟨h1, hL, h2, h3⟩
  · obtain ⟨o, es, ep, ho, r⟩ := hm
    exact ⟨o, es, ep, k _ o (Ne.symm hL) ho, r⟩
  · refine (I.hok b u e).stay (fun c v hc q => k c v ?_ q) (fun _ q => q) fun _ _ q => q
    rcases hc with z | z
    · rw [z]; exact nit b u e
    · exact nit c _ z
theorem Inv.tok (I : Inv X pins σ H s) (t : Nat) : Inv X pins σ H { s with toks := t } := I.un (h' := s.heap) (t' := t) Un.refl I.hok
theorem Inv.kept {t' : Nat} (I : Inv X pins σ H s) (k : ∀ b u, s.heap.get? b = some u → h'.get? b = some u) : Inv X pins σ H { s with heap := h', toks := t' } := I.un (Un.kept k) (I.hok.kept k)
theorem Inv.laid {a : Addr} {o : HO} {t' : Nat} (I : Inv X pins σ H s) (k : ∀ b u, s.heap.get? b = some u → h'.get? b = some u) (hp : s.heap.objs.size ≤ a) (new : ObjOk X.prog X.w (upd H a o) h' a o) :
    Inv X pins σ (upd H a o) { s with heap := h', toks := t' } := I.un (Un.laid k hp (I.hok.fresh hp)) (I.hok.laid k hp new)
theorem Inv.write {x e : Addr} {o : HO} {t' : Nat} (I : Inv X pins σ H s) (mu : Mut (H x)) (he : e = x ∨ H e = some (.own x)) (k : ∀ b u, b ≠ e → s.heap.get? b = some u → h'.get? b = some u) (heo : ∃ u, h'.get? e = some u)
    (new : ObjOk X.prog X.w (upd H x o) h' x o) : Inv X pins σ (upd H x o) { s with heap := h', toks := t' } := I.un (Un.write mu he k heo) (I.hok.write mu he k heo new)
theorem Inv.weak {σ' : List (Option V)} (I : Inv X pins σ H s) (hl : σ'.length = σ.length) (w : ∀ (i : Nat) v, σ'[i]? = some (some v) → σ[i]? = some (some v)) : Inv X pins σ' H s :=
  ⟨I.ok, I.os, I.bare, I.base, let ⟨m, hn, hl'⟩ := I.loc; ⟨m, hn, fun i x v e1 e2 e3 => hl' i x v e1 (w i v e2) e3⟩, I.cell, I.free, I.freeC, I.pin, I.hok, hl.trans I.len⟩
theorem Inv.pins_of {pins' : List (Addr × Obj)} (I : Inv X pins σ H s) (h : ∀ p ∈ pins', s.heap.get? p.1 = some p.2 ∧ H p.1 = none ∧ p.1 ≠ X.env.locals ∧ p.1 ∉ X.fs ∧ ∀ v, p.2.data ≠ .cell v) : Inv X pins' σ H s :=
  ⟨I.ok, I.os, I.bare, I.base, I.loc, I.cell, I.free, I.freeC, fun p hp => (List.mem_append.mp hp).elim (fun z => I.pin p (List.mem_append_left _ z)) (h p), I.hok, I.len⟩
theorem nodup_ix {N : List Str} (hN : N.Nodup) {i j : Nat} {x : Str} (a : N[i]? = some x) (b : N[j]? = some x) : i = j := by
  obtain ⟨h1, e1⟩ := List.getElem?_eq_some_iff.mp a
  obtain ⟨h2, e2⟩ := List.getElem?_eq_some_iff.mp b
  exact (List.getElem_inj hN).mp (e1.trans e2.symm)
theorem store_ok2 {M : Model} {A : Around} {E : Value → Shared → Prop} {i : Nat} {x : Str} {v : V} {u : Value} {Q : Unit → Shared → Prop} (I : Inv X pins σ H s) (hN : X.N.Nodup) (hi : X.N[i]? = some x) (hx : Loc X.env.scope x) (r : RelV v u)
    (h : ∀ s', Inv X pins (σ.set i (some v)) H s' → (∃ a, Heap.SameBut a s.heap s'.heap ∧ (a = X.env.locals ∨ X.env.cells.lookup x = some a)) → Q () s') (hf : X.fn x = true ∨ X.env.scope.names.lookup x = some .local := by first | exact .inl rfl | exact .inr rfl | assumption) : wpAny M A (storeName X.env x u) Q E s := by
  obtain ⟨m, hn, hl⟩ := id I.loc
  have hcls : (X.env.scope.kind == .class || (X.env.scope.kind == .module && X.env.locals != X.env.globals)) = false := by rw [I.ok.kind]; rfl
  have hiσ : i < σ.length := by rw [I.len]; exact (List.getElem?_eq_some_iff.mp hi).1
  have cne := I.cne
  have tracked : ∀ {a : Addr} {h' : Heap}, (∃ o, s.heap.get? a = some o ∧ H a = none) → Heap.SameBut a s.heap h' → HOk X.prog X.w H h' := fun {a h'} ha hs b ob e => by
    obtain ⟨_, _, hfree⟩ := ha
    refine (I.hok b ob e).stay (fun c w' hc q => (hs.2 c ?_).trans q) (fun _ q => q) fun _ _ q => q
    rintro rfl
    rcases hc with rfl | hc
    · rw [hfree] at e; cases e
    · rw [hfree] at hc; cases hc
  rcases hx with hk | hk
  · refine wpAny_storeName_local hk hn (fun h' hn' hs => ?_) hcls
    obtain ⟨oL, _, _, hoL, _⟩ := id hn
    refine h _ ⟨I.ok, I.os, I.bare, ⟨fun b o e n hb hx => ?_, fun b o e n hb hx => ?_, I.base.free, fun b o e hx => ?_, I.base.tups, I.base.frzs, I.base.tbls⟩, ⟨_, hn', fun j y v' e1 e2 e3 => ?_⟩, fun y c e => ?_, I.free, I.freeC, fun p hp => ?_, tracked ⟨oL, hoL, I.free⟩ hs, by simpa using I.len⟩ ⟨_, hs, .inl rfl⟩
    · exact (hs.2 b (Nat.ne_of_lt (Nat.lt_of_lt_of_le (Heap.lt_size e) I.ok.above))).trans (I.base.keep b o e n hb hx)
    · obtain ⟨sl, e1⟩ := I.base.slot b o e n hb hx
      exact ⟨sl, (hs.2 b (Nat.ne_of_lt (Nat.lt_of_lt_of_le (Heap.lt_size e) I.ok.above))).trans e1⟩
    · obtain ⟨o', e1⟩ := I.base.there b o e hx
      exact ⟨o', (hs.2 b (Nat.ne_of_lt (Nat.lt_of_lt_of_le (Heap.lt_size e) I.ok.above))).trans e1⟩
    · by_cases hj : j = i
      · subst hj
        rw [hi] at e1; cases e1
        rw [List.getElem?_set_self hiσ] at e2
        cases e2
        exact ⟨u, r, .inl ⟨hk, by simp⟩⟩
      · rw [List.getElem?_set_ne (Ne.symm hj)] at e2
        obtain ⟨u', r', q⟩ := hl j y v' e1 e2 e3
        refine ⟨u', r', ?_⟩
        rcases q with ⟨k, e⟩ | ⟨k, c, e, z⟩
        · refine .inl ⟨k, ?_⟩
          have : y ≠ x := fun e => hj (nodup_ix hN e1 (e ▸ hi))
          simp [this, e]
        · exact .inr ⟨k, c, e, z.sameBut hs (cne y c e)⟩
    · obtain ⟨w', z⟩ := I.cell y c e
      exact ⟨w', z.sameBut hs (cne y c e)⟩
    · obtain ⟨e, n, ne, nf, d⟩ := I.pin p hp
      exact ⟨(hs.2 p.1 ne).trans e, n, ne, nf, d⟩
  · have hfn : X.fn x = true := by
      rcases hf with z | z
      · exact z
      · rw [z] at hk; cases hk
    obtain ⟨c, hc⟩ := I.ok.has x (.inl hk)
    obtain ⟨w', z⟩ := I.cell x c hc
    refine wpAny_storeName_cell I.ok.kind hk hc z (fun h' hc' hs => ?_)
    obtain ⟨oc, hoc, hocd⟩ := id z
    refine h { s with heap := h' } ⟨I.ok, I.os, I.bare, ⟨fun b o e n hb hx => ?_, fun b o e n hb hx => ?_, I.base.free, fun b o e hx => ?_, I.base.tups, I.base.frzs, I.base.tbls⟩, ⟨m, hn.sameBut hs (Ne.symm (cne x c hc)), fun j y v' e1 e2 e3 => ?_⟩, fun y c' e => ?_, I.free, I.freeC, fun p hp => ?_, tracked ⟨oc, hoc, I.freeC x c hc⟩ hs, by simpa using I.len⟩ ⟨c, hs, .inr hc⟩
    · exact (hs.2 b (Nat.ne_of_lt (Nat.lt_of_lt_of_le (Heap.lt_size e) (I.ok.cab x c hfn hc)))).trans (I.base.keep b o e n hb hx)
    · obtain ⟨sl, e1⟩ := I.base.slot b o e n hb hx
      exact ⟨sl, (hs.2 b (Nat.ne_of_lt (Nat.lt_of_lt_of_le (Heap.lt_size e) (I.ok.cab x c hfn hc)))).trans e1⟩
    · obtain ⟨o', e1⟩ := I.base.there b o e hx
      exact ⟨o', (hs.2 b (Nat.ne_of_lt (Nat.lt_of_lt_of_le (Heap.lt_size e) (I.ok.cab x c hfn hc)))).trans e1⟩
    · by_cases hj : j = i
      · subst hj
        rw [hi] at e1; cases e1
        rw [List.getElem?_set_self hiσ] at e2
        cases e2
        exact ⟨u, r, .inr ⟨.inl hk, c, hc, hc'⟩⟩
      · rw [List.getElem?_set_ne (Ne.symm hj)] at e2
        obtain ⟨u', r', q⟩ := hl j y v' e1 e2 e3
        refine ⟨u', r', ?_⟩
        rcases q with q | ⟨k, c', e, z'⟩
        · exact .inl q
        · refine .inr ⟨k, c', e, z'.sameBut hs ?_⟩
          rintro rfl
          exact hj (nodup_ix hN e1 (I.ok.inj _ _ _ e hc ▸ hi))
    · by_cases hcc : c' = c
      · subst hcc; exact ⟨_, hc'⟩
      · obtain ⟨w2, z2⟩ := I.cell y c' e
        exact ⟨w2, z2.sameBut hs hcc⟩
    · obtain ⟨e, n, ne, nf, d⟩ := I.pin p hp
      refine ⟨(hs.2 p.1 ?_).trans e, n, ne, nf, d⟩
      intro q
      rw [q, hoc] at e
      have q' : oc = p.2 := Option.some.inj e
      exact d w' (by rw [← q']; exact hocd)
theorem store_ok {M : Model} {A : Around} {E : Value → Shared → Prop} {i : Nat} {x : Str} {v : V} {u : Value} {Q : Unit → Shared → Prop} (I : Inv X pins σ H s) (hN : X.N.Nodup) (hi : X.N[i]? = some x) (hx : Loc X.env.scope x) (r : RelV v u)
    (h : ∀ s', Inv X pins (σ.set i (some v)) H s' → Q () s') (hf : X.fn x = true ∨ X.env.scope.names.lookup x = some .local := by first | exact .inl rfl | exact .inr rfl | assumption) : wpAny M A (storeName X.env x u) Q E s :=
  store_ok2 I hN hi hx r (fun s' I' _ => h s' I') hf
theorem Inv.call' {s' : Shared} {ch : List Addr} (I : Inv X pins σ H s) (ho : s'.os = s.os) (u : Un (frs X.stack) ch H H' s.heap s'.heap) (hok : HOk X.prog X.w H' s'.heap) (hg : AllBare s'.gens)
    (hch : ∀ b ∈ ch, (b ∈ X.ex ∨ X.s₀.heap.objs.size ≤ b) ∧ b ≠ X.env.locals ∧ (∀ x c, X.env.cells.lookup x = some c → c ≠ b) ∧ ∀ p ∈ X.pn ++ pins, p.1 ≠ b) : Inv X pins σ H' s' := by
  obtain ⟨h', g', d', t', o'⟩ := s'
  have e : o' = s.os := ho
  subst e
  exact I.call (g' := g') (t' := t') (d' := d') u hok hg hch
end
abbrev XK := Value → Option Addr → Hp → Prop
abbrev St := List (Option V)
abbrev VK := V → Hp → Prop
abbrev TE := St → Hp → VK → Prop
abbrev TT := St → Hp → (Bool → Hp → Prop) → Prop
abbrev TA := St → Hp → (List V → Hp → Prop) → Prop
structure Ends where
  nx : St → Hp → Prop
  rt : VK
  bk : St → Hp → Prop := fun _ _ => False
  ct : St → Hp → Prop := fun _ _ => False
abbrev TS := Ends → St → Hp → Prop
def EP (X : Cx) (pins : List (Addr × Obj)) (σ : St) (Q : VK) (u : Value) (s' : Shared) : Prop := ∃ v H', Inv X pins σ H' s' ∧ RelV v u ∧ Q v H'
def TP (X : Cx) (pins : List (Addr × Obj)) (σ : St) (Q : Bool → Hp → Prop) (b : Bool) (s' : Shared) : Prop := ∃ H', Inv X pins σ H' s' ∧ Q b H'
def AP (X : Cx) (pins : List (Addr × Obj)) (σ : St) (Q : List V → Hp → Prop) (us : List Value) (s' : Shared) : Prop := ∃ vs H', Inv X pins σ H' s' ∧ Vals vs us ∧ Q vs H'
def SP (X : Cx) (pins : List (Addr × Obj)) (D : Ends) (f : Flow) (s' : Shared) : Prop :=
  match f with
  | .next => ∃ σ' H', Inv X pins σ' H' s' ∧ D.nx σ' H'
  | .brk => ∃ σ' H', Inv X pins σ' H' s' ∧ D.bk σ' H'
  | .cont => ∃ σ' H', Inv X pins σ' H' s' ∧ D.ct σ' H'
  | .ret u => ∃ v σ' H', Inv X pins σ' H' s' ∧ RelV v u ∧ D.rt v H'
def PE (X : Cx) (e : Expr) (t : TE) : Prop :=
  ∀ (pins : List (Addr × Obj)) (s : Shared) (σ : St) (H : Hp) (Q : VK), Inv X pins σ H s → t σ H Q → wpAny (model X.prog X.w) X.A (eval e X.env) (EP X pins σ Q) X.xe s
def PT (X : Cx) (e : Expr) (t : TT) : Prop :=
  ∀ (pins : List (Addr × Obj)) (s : Shared) (σ : St) (H : Hp) (Q : Bool → Hp → Prop), Inv X pins σ H s → t σ H Q → wpAny (model X.prog X.w) X.A (isTrue e X.env (eval e X.env)) (TP X pins σ Q) X.xe s
def PW (X : Cx) (e : Expr) (t : TT) : Prop :=
  ∀ (whole : Sem Value) (pins : List (Addr × Obj)) (s : Shared) (σ : St) (H : Hp) (Q : Bool → Hp → Prop), Inv X pins σ H s → t σ H Q → wpAny (model X.prog X.w) X.A (isTrue e X.env whole) (TP X pins σ Q) X.xe s
theorem PW.pt {X : Cx} {e : Expr} {t : TT} (h : PW X e t) : PT X e t := h _
def PA (X : Cx) (es : List Expr) (t : TA) : Prop :=
  ∀ (pos : Pos) (pins : List (Addr × Obj)) (s : Shared) (σ : St) (H : Hp) (Q : List V → Hp → Prop), Inv X pins σ H s → t σ H Q → wpAny (model X.prog X.w) X.A (spliced (backTo pos (starEach es X.env))) (AP X pins σ Q) X.xe s
def PS (X : Cx) (st : Stmt) (t : TS) : Prop :=
  ∀ (pins : List (Addr × Obj)) (s : Shared) (σ : St) (H : Hp) (D : Ends), Inv X pins σ H s → t D σ H → wpAny (model X.prog X.w) X.A (exec st X.env) (SP X pins D) X.xe s
def PSs (X : Cx) (st : List Stmt) (t : TS) : Prop :=
  ∀ (pins : List (Addr × Obj)) (s : Shared) (σ : St) (H : Hp) (D : Ends), Inv X pins σ H s → t D σ H → wpAny (model X.prog X.w) X.A (execs st X.env) (SP X pins D) X.xe s
theorem thn {α : Type} {t : Sem α} {Q Q' : α → Shared → Prop} {M : Model} {A : Around} {E : Value → Shared → Prop} {s : Shared} (h : wpAny M A t Q E s) (hQ : ∀ a s, Q a s → Q' a s) : wpAny M A t Q' E s := wpAny_mono h hQ fun _ _ x => x
end L2
namespace L2
open PySem PySem.Spec PyProof.Rows
section
variable {X : Cx}
def tVar (i : Nat) : TE := fun σ H Q => ∃ v, σ[i]? = some (some v) ∧ Q v H
def tC (v : V) : TE := fun _ H Q => Q v H
theorem pe_var {i : Nat} {x : Str} {pos : Pos} (hN : X.N[i]? = some x) (hv : Vis X.env.scope x) (hd : (x == ("__debug__" : Str)) = false := by decide) (hcd : (x == ("__classdict__" : Str)) = false := by decide) : PE X (.Name x pos) (tVar i) := by
  intro pins s σ H Q I h
  obtain ⟨v, e, h⟩ := h
  obtain ⟨m, hn, hl⟩ := I.loc
  obtain ⟨u, r, l⟩ := hl i x v hN e hv
  have fin : EP X pins σ Q u s := ⟨v, H, I, r, h⟩
  rcases l with ⟨hk, hm⟩ | ⟨hk, c, hc, hcell⟩
  · exact wpAny_Name (wpAny_loadName_local I.ok.kind hk hn hm fin) hd
  · rcases hk with hk | hk
    · exact wpAny_Name (wpAny_loadName_cell I.ok.kind hk hc hcell fin) hd
    · exact wpAny_Name (wpAny_loadName_free I.ok.kind hk hc hcell fin hcd) hd
theorem pe_int {i j pos} : PE X (.Constant (.int i) j pos) (tC (.int i)) := fun _ _ _ H _ I h => wpAny_Constant_int ⟨.int i, H, I.tok _, ⟨_, rfl⟩, h⟩
theorem pe_bl {b j pos} : PE X (.Constant (.bool b) j pos) (tC (.bl b)) := fun _ _ _ H _ I h => Constant_bool ⟨.bl b, H, I, rfl, h⟩
theorem pe_non {j pos} : PE X (.Constant .none j pos) (tC .non) := fun _ _ _ H _ I h => Constant_none ⟨.non, H, I, rfl, h⟩
theorem pe_str {x j pos} : PE X (.Constant (.str x) j pos) (tC (.str x)) := fun _ _ _ H _ I h => Calls.Constant_str ⟨.str x, H, I.tok _, ⟨_, rfl⟩, h⟩
def Gl (X : Cx) (x : Str) : Prop := X.env.kindOf x = some .globalImplicit
theorem ld_glob {E : Value → Shared → Prop} {pins : List (Addr × Obj)} {s : Shared} {σ : St} {H : Hp} {x : Str} {u : Value} {pos : Pos} {Q : Value → Shared → Prop} (I : Inv X pins σ H s) (hg : Gl X x) (hm : X.mg x = some u) (h : Q u s)
    (hd : (x == ("__debug__" : Str)) = false := by decide) : wpAny (model X.prog X.w) X.A (eval (.Name x pos) X.env) Q E s :=
  Calls.Name_function_global I.ok.kind hg (Calls.loadGlobal_global (by rw [I.ok.glob]; exact I.mod.glob.keeps I.bk) hm h) hd
theorem ld_blt {E : Value → Shared → Prop} {pins : List (Addr × Obj)} {s : Shared} {σ : St} {H : Hp} {x : Str} {u : Value} {pos : Pos} {Q : Value → Shared → Prop} (I : Inv X pins σ H s) (hg : Gl X x) (hm : X.mg x = none) (hv : bootBuiltins x = some u) (h : Q u s)
    (hn : x ≠ "__name__" := by decide) (hd : (x == ("__debug__" : Str)) = false := by decide) : wpAny (model X.prog X.w) X.A (eval (.Name x pos) X.env) Q E s := by
  obtain ⟨mb, h1, h2⟩ := I.mod.blt
  exact Calls.Name_function_global I.ok.kind hg (Calls.loadGlobal_builtin (by rw [I.ok.glob]; exact I.mod.glob.keeps I.bk) hm (by rw [I.ok.blt]; exact h1.keeps I.bk) ((h2 x hn).trans hv) h) hd
theorem pe_glob {x : Str} {v : V} {u : Value} {pos : Pos} (hg : Gl X x) (hm : X.mg x = some u) (r : RelV v u) (hd : (x == ("__debug__" : Str)) = false := by decide) : PE X (.Name x pos) (tC v) :=
  fun _ _ _ H _ I h => ld_glob I hg hm ⟨v, H, I, r, h⟩ hd
theorem pe_bltn {x : Str} {v : V} {u : Value} {pos : Pos} (hg : Gl X x) (hm : X.mg x = none) (hv : bootBuiltins x = some u) (r : RelV v u) (hn : x ≠ "__name__" := by decide) (hd : (x == ("__debug__" : Str)) = false := by decide) : PE X (.Name x pos) (tC v) :=
  fun _ _ _ H _ I h => ld_blt I hg hm hv ⟨v, H, I, r, h⟩ hn hd
variable {a b : Expr} {ta tb : TE} {pos : Pos}
def PC (X : Cx) (op : CmpOp) (a b : Expr) (t : TE) : Prop :=
  ∀ (pins : List (Addr × Obj)) (s : Shared) (σ : St) (H : Hp) (Q : VK), Inv X pins σ H s → t σ H Q →
    wpAny (model X.prog X.w) X.A (eval a X.env) (fun v s₁ => wpAny (model X.prog X.w) X.A (eval b X.env) (fun u s₂ => wpAny (model X.prog X.w) X.A (compareOp op v u) (EP X pins σ Q) X.xe s₂) X.xe s₁) X.xe s
theorem nobehind (b : Expr) {op : CmpOp} (h : op ≠ .In) (h2 : op ≠ .NotIn) : behindInMarks op b = false := by
  have e1 : (op == CmpOp.In) = false := by cases op <;> first | rfl | exact absurd rfl h
  have e2 : (op == CmpOp.NotIn) = false := by cases op <;> first | rfl | exact absurd rfl h2
  cases b <;> simp [behindInMarks, e1, e2]
def tIsN (ta : TE) : TE := fun σ H Q => ta σ H fun x H1 => Q (.bl (decide (x = .non))) H1
def tNotN (ta : TE) : TE := fun σ H Q => ta σ H fun x H1 => Q (.bl (!decide (x = .non))) H1
theorem RelV.none_iff {x : V} {v : Value} (r : RelV x v) : (v == Value.none) = decide (x = .non) := by
  cases x with
  | non => cases r; rfl
  | bl _ => cases r; rfl
  | int _ => obtain ⟨t, rfl⟩ := r; rfl
  | str _ => obtain ⟨t, rfl⟩ := r; rfl
  | byt _ => obtain ⟨t, rfl⟩ := r; rfl
  | flt _ => obtain ⟨t, rfl⟩ := r; rfl
  | ref _ => cases r; rfl
  | ty _ => cases r; rfl
theorem pc_isN {j pos'} (ha : PE X a ta) : PC X .Is a (.Constant .none j pos') (tIsN ta) := by
  intro pins s σ H Q I h
  refine thn (ha pins s σ H _ I h) fun v s1 ⟨x, H1, I1, r1, q1⟩ => ?_
  exact Constant_none (is_none_gen ⟨.bl _, H1, I1, by rw [r1.none_iff]; rfl, q1⟩)
theorem pc_notN {j pos'} (ha : PE X a ta) : PC X .IsNot a (.Constant .none j pos') (tNotN ta) := by
  intro pins s σ H Q I h
  refine thn (ha pins s σ H _ I h) fun v s1 ⟨x, H1, I1, r1, q1⟩ => ?_
  exact Constant_none (isnot_none_gen ⟨.bl _, H1, I1, by rw [r1.none_iff]; rfl, q1⟩)
def tB (t : TE) : TT := fun σ H Q => t σ H fun x H1 => ∃ c, x = .bl c ∧ Q c H1
theorem pt_cmp {op : CmpOp} {t : TE} (h : PC X op a b t) (h1 : behindInMarks op b = false := by first | exact nobehind _ (by decide) (by decide) | rfl) : PT X (.Compare a [op] [b] pos) (tB t) := by
  intro pins s σ H Q I hw
  refine wpAny_isTrue_Compare1 (thn (h pins s σ H _ I hw) fun v s1 h1 => thn h1 fun u s2 h2 => thn h2 fun c s3 ⟨x, H1, I1, r1, q1⟩ => ?_) h1
  obtain ⟨d, rfl, q⟩ := q1
  cases r1
  exact wpAny_truthy_bool ⟨H1, I1, q⟩
theorem pt_val {e : Expr} {t : TE} (h : PE X e t) (he : ∀ whole, isTrue e X.env whole = (do let v ← whole; standAt e.pos; holding [v] (truthy v)) := by intro _; rfl) : PT X e (tB t) := by
  intro pins s σ H Q I hw
  refine isTrue_plain (thn (h pins s σ H _ I hw) fun v s1 ⟨x, H1, I1, r1, q1⟩ => ?_) (he _)
  obtain ⟨d, rfl, q⟩ := q1
  cases r1
  exact wpAny_truthy_bool ⟨H1, I1, q⟩
variable {tA tB' : TT} {rest : List Expr}
def tOr (t u : TT) : TT := fun σ H Q => t σ H fun c H1 => if c = true then Q true H1 else u σ H1 Q
def tNot (t : TT) : TT := fun σ H Q => t σ H fun c H1 => Q (!c) H1
theorem pw_or1 (ha : PT X a tA) : PW X (.BoolOp .Or [a] pos) tA := by
  intro wh pins s σ H Q I h
  refine isTrue_or (thn (ha pins s σ H Q I h) fun c s1 e => ?_)
  cases c with
  | false => exact isTrue_or_nil e
  | true => exact e
theorem pw_or (ha : PT X a tA) (hb : PW X (.BoolOp .Or (b :: rest) pos) tB') : PW X (.BoolOp .Or (a :: b :: rest) pos) (tOr tA tB') := by
  intro wh pins s σ H Q I h
  refine isTrue_or (thn (ha pins s σ H _ I h) fun c s1 ⟨H1, I1, q1⟩ => ?_)
  cases c with
  | true => exact ⟨H1, I1, q1⟩
  | false => exact hb wh pins s1 σ H1 Q I1 q1
theorem pt_not (ha : PT X a tA) : PT X (.UnaryOp .Not a pos) (tNot tA) := by
  intro pins s σ H Q I h
  exact isTrue_not (ha pins s σ H (fun c H1 => Q (!c) H1) I h)
def tAndV (ta tb : TE) : TE := fun σ H Q => ta σ H fun x H1 => ∃ c, x = .bl c ∧ if c = true then tb σ H1 Q else Q (.bl false) H1
theorem pe_one {op} {t : TE} (h : PE X a t) : PE X (.BoolOp op [a] pos) t := fun pins s σ H Q I hw => BoolOp_one (h pins s σ H Q I hw)
theorem pe_and (ha : PE X a ta) (hb : PE X (.BoolOp .And (b :: rest) pos) tb) : PE X (.BoolOp .And (a :: b :: rest) pos) (tAndV ta tb) := by
  intro pins s σ H Q I h
  refine BoolOp_and (thn (ha pins s σ H _ I h) fun v s1 ⟨x, H1, I1, r1, q1⟩ => ?_)
  obtain ⟨c, rfl, q1⟩ := q1
  cases r1
  refine wpAny_truthy_bool ?_
  cases c with
  | true => exact hb pins s1 σ H1 Q I1 q1
  | false => exact ⟨.bl false, H1, I1, rfl, q1⟩
end
end L2
namespace L2
open PySem PySem.Spec PyProof.Rows
def SqL (K : PySem.W.Frag) (H : Hp) (a : Addr) (xs : List V) : Prop :=
  Rd H a (.lst xs) ∨
    ∃ (o : Obj) (its : Array Value) (n : Nat), K.lookup a = some o ∧ o.cls = .type "list" ∧ o.dict = none ∧ o.data = .seq its n ∧ its.size ≤ sizeLine ∧ Vals xs its.toList
def SqT (K : PySem.W.Frag) (H : Hp) (a : Addr) (xs : List V) : Prop :=
  Rd H a (.tup xs) ∨
    ∃ (o : Obj) (its : Array Value) (n : Nat), K.lookup a = some o ∧ o.cls = .type "tuple" ∧ o.data = .seq its n ∧ its.size ≤ sizeLine ∧ Vals xs its.toList
def absV : Value → Option V
  | .none => some .non
  | .bool b => some (.bl b)
  | .int i _ => some (.int i)
  | .str x _ => some (.str x)
  | .bytes b _ => some (.byt b)
  | .float b _ => some (.flt b)
  | .ref a => some (.ref a)
  | .type n => some (.ty n)
  | _ => none
theorem RelV.abs {x : V} {u : Value} (r : RelV x u) : absV u = some x := by
  cases x with
  | non => cases r; rfl
  | bl _ => cases r; rfl
  | int _ => obtain ⟨t, rfl⟩ := r; rfl
  | str _ => obtain ⟨t, rfl⟩ := r; rfl
  | byt _ => obtain ⟨t, rfl⟩ := r; rfl
  | flt _ => obtain ⟨t, rfl⟩ := r; rfl
  | ref _ => cases r; rfl
  | ty _ => cases r; rfl
theorem RelV.inj {x y : V} {u : Value} (r : RelV x u) (q : RelV y u) : x = y := Option.some.inj (r.abs.symm.trans q.abs)
theorem Vals.inj : ∀ {xs ys : List V} {us : List Value}, Vals xs us → Vals ys us → xs = ys
  | _, _, _, .nil, .nil => rfl
  | _, _, _, .cons r t, .cons r' t' => by rw [r.inj r', Vals.inj t t']
section
variable {X : Cx} {pins : List (Addr × Obj)} {σ : St} {H : Hp} {s : Shared} {a : Addr} {xs ys : List V}
theorem SqL.of {K : PySem.W.Frag} (h : H a = some (.lst xs)) : SqL K H a xs := .inl (.inl h)
theorem SqT.of {K : PySem.W.Frag} (h : H a = some (.tup xs)) : SqT K H a xs := .inl (.inl h)
theorem Inv.list (I : Inv X pins σ H s) (h : SqL X.K H a xs) : ∃ its : List Value, Vals xs its ∧ PlainL s.heap a its.toArray ∧ xs.length ≤ sizeLine := by
  rcases h with h | ⟨o, its, n, hk, hc, hd, hs, hz, r⟩
  · obtain ⟨z, its, n, r, e⟩ := h.ok I.hok
    exact ⟨its, r, ⟨_, n, e, rfl, rfl, rfl⟩, z⟩
  · refine ⟨its.toList, r, ⟨o, n, I.kIn a o hk, hc, hd, by simpa using hs⟩, ?_⟩
    have e := r.length
    simp only [Array.length_toList] at e
    omega
theorem Inv.tuple (I : Inv X pins σ H s) (h : SqT X.K H a xs) : ∃ its : List Value, Vals xs its ∧ IsTup s.heap a its.toArray ∧ xs.length ≤ sizeLine := by
  rcases h with h | ⟨o, its, n, hk, hc, hs, hz, r⟩
  · obtain ⟨z, its, r, p⟩ := h.ok I.hok
    exact ⟨its, r, p, z⟩
  · refine ⟨its.toList, r, ⟨o, I.kIn a o hk, hc, n, by simpa using hs⟩, ?_⟩
    have e := r.length
    simp only [Array.length_toList] at e
    omega
theorem Inv.list_inj (I : Inv X pins σ H s) (h : SqL X.K H a xs) (h' : SqL X.K H a ys) : xs = ys := by
  obtain ⟨its, r, ⟨o, n, e, _, _, d⟩, _⟩ := I.list h
  obtain ⟨its', r', ⟨o', n', e', _, _, d'⟩, _⟩ := I.list h'
  rw [e] at e'; cases e'
  rw [d] at d'
  injection d' with d1 _
  have : its = its' := by simpa using congrArg Array.toList d1
  subst this
  exact r.inj r'
theorem Inv.tuple_inj (I : Inv X pins σ H s) (h : SqT X.K H a xs) (h' : SqT X.K H a ys) : xs = ys := by
  obtain ⟨its, r, ⟨o, e, _, n, d⟩, _⟩ := I.tuple h
  obtain ⟨its', r', ⟨o', e', _, n', d'⟩, _⟩ := I.tuple h'
  rw [e] at e'; cases e'
  rw [d] at d'
  injection d' with d1 _
  have : its = its' := by simpa using congrArg Array.toList d1
  subst this
  exact r.inj r'
end
abbrev Cx.wish (X : Cx) (E : Value → Shared → Prop) : Cx := { X with xe := E }
abbrev Cx.nox (X : Cx) : Cx := X.wish fun _ _ => False
theorem Cx.Ok.wish {X : Cx} (ok : X.Ok) (E : Value → Shared → Prop) : (X.wish E).Ok :=
  ⟨ok.mod, ok.kind, ok.glob, ok.blt, ok.above, ok.inj, ok.has, ok.cab, ok.hd, ok.frames, ok.stk, ok.exf, ok.bs, ok.bsz, ok.noex, ok.exfs, ok.funs, ok.frf⟩
theorem Cx.Ok.unwish {X : Cx} {E : Value → Shared → Prop} (ok : (X.wish E).Ok) : X.Ok :=
  ⟨ok.mod, ok.kind, ok.glob, ok.blt, ok.above, ok.inj, ok.has, ok.cab, ok.hd, ok.frames, ok.stk, ok.exf, ok.bs, ok.bsz, ok.noex, ok.exfs, ok.funs, ok.frf⟩
section
variable {X : Cx} {pins : List (Addr × Obj)} {σ : St} {H : Hp} {s : Shared} {E : Value → Shared → Prop}
theorem Inv.wish (I : Inv X pins σ H s) (E : Value → Shared → Prop) : Inv (X.wish E) pins σ H s := ⟨I.ok.wish E, I.os, I.bare, I.base, I.loc, I.cell, I.free, I.freeC, I.pin, I.hok, I.len⟩
theorem Inv.unwish (I : Inv (X.wish E) pins σ H s) : Inv X pins σ H s := ⟨I.ok.unwish, I.os, I.bare, I.base, I.loc, I.cell, I.free, I.freeC, I.pin, I.hok, I.len⟩
theorem SP.unwish {D : Ends} {f : Flow} {s' : Shared} (h : SP (X.wish E) pins D f s') : SP X pins D f s' := by
  cases f with
  | next => obtain ⟨σ', H', I, q⟩ := h; exact ⟨σ', H', I.unwish, q⟩
  | brk => obtain ⟨σ', H', I, q⟩ := h; exact ⟨σ', H', I.unwish, q⟩
  | cont => obtain ⟨σ', H', I, q⟩ := h; exact ⟨σ', H', I.unwish, q⟩
  | ret u => obtain ⟨v, σ', H', I, r, q⟩ := h; exact ⟨v, σ', H', I.unwish, r, q⟩
theorem PE.nox {e : Expr} {t : TE} (h : PE X.nox e t) : PE X e t := fun pins s σ H Q I hw =>
  wpAny_mono (h pins s σ H Q (I.wish _) hw) (fun _ _ ⟨v, H', I', r, q⟩ => ⟨v, H', I'.unwish, r, q⟩) fun _ _ z => False.elim z
theorem PT.nox {e : Expr} {t : TT} (h : PT X.nox e t) : PT X e t := fun pins s σ H Q I hw =>
  wpAny_mono (h pins s σ H Q (I.wish _) hw) (fun _ _ ⟨H', I', q⟩ => ⟨H', I'.unwish, q⟩) fun _ _ z => False.elim z
theorem PSs.nox {st : List Stmt} {t : TS} (h : PSs X.nox st t) : PSs X st t := fun pins s σ H D I hw =>
  wpAny_mono (h pins s σ H D (I.wish _) hw) (fun _ _ q => q.unwish) fun _ _ z => False.elim z
end
section
variable {X : Cx} {st : Stmt} {rest : List Stmt} {t u : TS} {e : Expr} {te : TE} {pos : Pos}
def tNext : TS := fun D σ H => D.nx σ H
def tSeq (t u : TS) : TS := fun D σ H => t { D with nx := u D } σ H
theorem pss_nil : PSs X [] tNext := fun _ _ σ H _ I h => wpAny_execs_nil ⟨σ, H, I, h⟩
theorem pss_cons (h1 : PS X st t) (h2 : PSs X rest u) : PSs X (st :: rest) (tSeq t u) := by
  intro pins s σ H D I h
  refine wpAny_execs_cons (thn (h1 pins s σ H { D with nx := u D } I h) fun f s1 q => ?_)
  cases f with
  | next =>
    obtain ⟨σ', H', I', q⟩ := q
    exact h2 pins s1 σ' H' D I' q
  | ret v => exact q
  | brk => exact q
  | cont => exact q
theorem pss_one (h1 : PS X st t) : PSs X [st] t := by
  intro pins s σ H D I h
  refine wpAny_execs_cons (thn (h1 pins s σ H D I h) fun f s1 q => ?_)
  cases f with
  | next => exact wpAny_execs_nil q
  | ret v => exact q
  | brk => exact q
  | cont => exact q
theorem Inv.quiet {pins : List (Addr × Obj)} {σ : St} {H : Hp} {s : Shared} (I : Inv X pins σ H s) : interactive X.env = false := by simp [interactive, I.ok.kind]
def tDrop (te : TE) : TS := fun D σ H => te σ H fun _ H1 => D.nx σ H1
theorem ps_expr (he : PE X e te) (hs : swapsWith e none pos.line X.env = pure false := by rfl) : PS X (.Expr e pos) (tDrop te) := by
  intro pins s σ H D I h
  exact wpAny_Expr_any (thn (he pins s σ H _ I h) fun v s1 ⟨x, H1, I1, r1, q1⟩ => ⟨σ, H1, I1, q1⟩) I.quiet hs
def tRet (te : TE) : TS := fun D σ H => te σ H D.rt
theorem ps_ret (he : PE X e te) : PS X (.Return (some e) pos) (tRet te) := by
  intro pins s σ H D I h
  exact wpAny_Return_some (thn (he pins s σ H _ I h) fun v s1 ⟨x, H1, I1, r1, q1⟩ => ⟨x, σ, H1, I1, r1, q1⟩)
def tIfS (c : TT) (t u : TS) : TS := fun D σ H => c σ H fun b H1 => if b = true then t D σ H1 else u D σ H1
theorem ps_if {c : Expr} {a b : List Stmt} {tc : TT} (hc : PT X c tc) (ha : PSs X a t) (hb : PSs X b u) : PS X (.If c a b pos) (tIfS tc t u) := by
  intro pins s σ H D I h
  refine wpAny_If (thn (hc pins s σ H _ I h) fun d s1 ⟨H1, I1, q1⟩ => ?_)
  cases d with
  | true => exact ha pins s1 σ H1 D I1 q1
  | false => exact hb pins s1 σ H1 D I1 q1
end
abbrev TG := V → St → Hp → (St → Hp → Prop) → Prop
abbrev TGs := List V → St → Hp → (St → Hp → Prop) → Prop
def PG (X : Cx) (target : Expr) (t : TG) : Prop :=
  ∀ (pins : List (Addr × Obj)) (s : Shared) (σ : St) (H : Hp) (v : V) (u : Value) (Q : St → Hp → Prop), Inv X pins σ H s → RelV v u → t v σ H Q →
    wpAny (model X.prog X.w) X.A (assign target X.env u) (fun _ s' => ∃ σ' H', Inv X pins σ' H' s' ∧ Q σ' H') X.xe s
def PGs (X : Cx) (ts : List Expr) (t : TGs) : Prop :=
  ∀ (pins : List (Addr × Obj)) (s : Shared) (σ : St) (H : Hp) (vs : List V) (us : List Value) (Q : St → Hp → Prop), Inv X pins σ H s → Vals vs us → t vs σ H Q →
    wpAny (model X.prog X.w) X.A (assignInOrder ((assignEach ts X.env).map (·.2)) us) (fun _ s' => ∃ σ' H', Inv X pins σ' H' s' ∧ Q σ' H') X.xe s
section
variable {X : Cx} {pos : Pos}
def gName (i : Nat) : TG := fun v σ H Q => Q (σ.set i (some v)) H
theorem pg_name {i : Nat} {x : Str} (hN : X.N.Nodup) (hi : X.N[i]? = some x) (hx : Loc X.env.scope x) (hf : X.fn x = true ∨ X.env.scope.names.lookup x = some .local := by first | exact .inl rfl | exact .inr rfl | assumption) : PG X (.Name x pos) (gName i) := by
  intro pins s σ H v u Q I r h
  exact wpAny_assign_Name (store_ok I hN hi hx r (fun s' I' => ⟨_, H, I', h⟩) hf)
def gNil : TGs := fun vs σ H Q => vs = [] ∧ Q σ H
def gCons (t : TG) (u : TGs) : TGs := fun vs σ H Q => ∃ v r, vs = v :: r ∧ t v σ H fun σ' H' => u r σ' H' Q
theorem pgs_nil : PGs X [] gNil := by
  intro pins s σ H vs us Q I r h
  obtain ⟨e, h⟩ := h
  subst e
  cases r
  exact assignInOrder_nil ⟨σ, H, I, h⟩
theorem pgs_cons {e : Expr} {es : List Expr} {t : TG} {u : TGs} (h1 : PG X e t) (h2 : PGs X es u)
    (hs : (assignEach (e :: es) X.env).map (·.2) = assign e X.env :: (assignEach es X.env).map (·.2) := by rfl) : PGs X (e :: es) (gCons t u) := by
  intro pins s σ H vs us Q I r h
  obtain ⟨v, vr, e1, h⟩ := h
  subst e1
  cases r with
  | cons r rr =>
    rw [hs]
    refine assignInOrder_cons (thn (h1 pins s σ H _ _ _ I r h) fun _ s1 ⟨σ1, H1, I1, q1⟩ => ?_)
    exact h2 pins s1 σ1 H1 _ _ Q I1 rr q1
def gTup (K : PySem.W.Frag) (n : Nat) (t : TGs) : TG := fun v σ H Q => ∃ a xs, v = .ref a ∧ SqT K H a xs ∧ xs.length = n ∧ t xs σ H Q
theorem pg_tup {es : List Expr} {k : Nat} {t : TGs} {n : Nat} (hc : X.calm = true) (h : PGs X es t)
    (hn : (assignEach es X.env).length = n := by rfl) (hst : (assignEach es X.env).findIdx? (·.1) = none := by rfl) : PG X (.Tuple es k pos) (gTup X.K n t) := by
  intro pins s σ H v u Q I r hw
  obtain ⟨a, xs, e1, hq, hl, hw⟩ := hw
  subst e1
  cases r
  obtain ⟨its, rv, ht, hz⟩ := I.tuple hq
  refine assign_Tuple_tuple (I.ok.hd hc) ht (by simp [hn, ← hl, rv.length]) hst fun h' hx => ?_
  have I1 : Inv X pins σ H { s with heap := h' } := I.kept (t' := s.toks) fun b o e => hx b o (Nat.ne_of_lt (Heap.lt_size e)) e
  exact h pins _ σ H xs _ Q I1 (by simpa using rv) hw
def tAsg (te : TE) (g : TG) : TS := fun D σ H => te σ H fun x H1 => g x σ H1 D.nx
theorem ps_asg {tg e : Expr} {te : TE} {g : TG} (he : PE X e te) (hg : PG X tg g) (hs : swapsWithSole [tg] e pos.line X.env = pure false := by rfl) (hw : swappedStores [tg] e X.env = pure none := by rfl)
    (h1 : (assignEach [tg] X.env).map (·.2) = [assign tg X.env] := by rfl) : PS X (.Assign [tg] e pos) (tAsg te g) := by
  intro pins s σ H D I h
  refine wpAny_Assign_stores (thn (he pins s σ H _ I h) fun v s1 ⟨x, H1, I1, r1, q1⟩ => ?_) hs hw
  rw [h1]
  exact thn (hg pins s1 σ H1 x v _ I1 r1 q1) fun _ s2 q => q
theorem ps_set {i : Nat} {x : Str} {e : Expr} {te : TE} {pos' : Pos} (hN : X.N.Nodup) (hi : X.N[i]? = some x) (hx : Loc X.env.scope x) (he : PE X e te) (hs : swapsWith e (some (.Name x pos')) pos.line X.env = pure false := by rfl) (hf : X.fn x = true ∨ X.env.scope.names.lookup x = some .local := by first | exact .inl rfl | exact .inr rfl | assumption) :
    PS X (.Assign [.Name x pos'] e pos) (tAsg te (gName i)) := by
  intro pins s σ H D I h
  refine wpAny_Assign_Name (thn (he pins s σ H _ I h) fun v s1 ⟨y, H1, I1, r1, q1⟩ => ?_) hs
  exact store_ok I1 hN hi hx r1 (fun s2 I2 => ⟨_, H1, I2, q1⟩) hf
end
section
variable {X : Cx} {pos : Pos}
end
structure It where
  go : Nat → Hp → Prop
  yld : Nat → Hp → V → Hp → Prop
  stop : Nat → Hp → Prop
def FpOk (X : Cx) (pins : List (Addr × Obj)) (H : Hp) (b : Addr) : Prop :=
  H b = none ∧ b ≠ X.env.locals ∧ b ∉ X.fs ∧ (b ∈ X.ex ∨ X.s₀.heap.objs.size ≤ b) ∧ (∀ x c, X.env.cells.lookup x = some c → c ≠ b) ∧ ∀ p ∈ X.pn ++ pins, p.1 ≠ b
theorem Inv.fpOk {X : Cx} {pins : List (Addr × Obj)} {σ : St} {H H' : Hp} {s : Shared} {b : Addr} (I : Inv X pins σ H s) (hb : s.heap.objs.size ≤ b) (hn : H' b = none) : FpOk X pins H' b := by
  refine ⟨hn, Nat.ne_of_gt (Nat.lt_of_lt_of_le I.lt hb), I.nofs hb, .inr (Nat.le_trans I.sz hb), fun x c e z => ?_, fun p hp z => ?_⟩
  · obtain ⟨v, q⟩ := I.cell x c e
    exact absurd (Nat.lt_of_lt_of_le q.lt (by rw [z]; exact hb)) (Nat.lt_irrefl _)
  · exact absurd (Nat.lt_of_lt_of_le (Heap.lt_size (I.pin p hp).1) (by rw [z]; exact hb)) (Nat.lt_irrefl _)
structure Turn (P : Program) (w : World) (K : PySem.W.Frag) (tg : Expr) (J : It) (fp : List Addr) (it : Addr) (tn : Nat → Heap → Prop) : Prop where
  mem : it ∈ fp
  obj : ∀ i h, tn i h → ∀ b ∈ fp, ∃ o, h.get? b = some o ∧ ∀ v, o.data ≠ .cell v
  keep : ∀ i h h', tn i h → (∀ b ∈ fp, ∀ o, h.get? b = some o → h'.get? b = some o) → tn i h'
  item : ∀ (X : Cx), X.prog = P → X.w = w → X.K = K → X.calm = true → ∀ (i : Nat) (pins : List (Addr × Obj)) (s : Shared) (σ : St) (H : Hp) (E : Value → Shared → Prop), Inv X pins σ H s → (∀ b ∈ fp, FpOk X pins H b) → tn i s.heap → J.go i H →
    wpAny (model P w) X.A (pyNext (.ref it)) (fun r s1 => ∃ u, r = some u ∧
      wpAny (model P w) X.A (letOwnedTupleGo tg (.ref it) u) (fun _ s2 => ∃ x H', Inv X pins σ H' s2 ∧ RelV x u ∧ J.yld i H x H' ∧ tn (i + 1) s2.heap ∧ ∀ b ∈ fp, H' b = none) E s1) E s
  done : ∀ (X : Cx), X.prog = P → X.w = w → X.K = K → X.calm = true → ∀ (i : Nat) (pins : List (Addr × Obj)) (s : Shared) (σ : St) (H : Hp) (E : Value → Shared → Prop), Inv X pins σ H s → (∀ b ∈ fp, FpOk X pins H b) → tn i s.heap → J.stop i H →
    wpAny (model P w) X.A (pyNext (.ref it)) (fun r s1 => r = none ∧ Inv X pins σ H s1) E s
  self : ∀ (A : Around) (i : Nat) (s : Shared) (Q : Value → Shared → Prop) (E : Value → Shared → Prop), tn i s.heap → Q (.ref it) s → wpAny (model P w) A (pyIter (.ref it)) Q E s
abbrev TI := St → Hp → (It → Hp → Prop) → Prop
def PIE (X : Cx) (pins : List (Addr × Obj)) (σ : St) (tg : Expr) (R : It → Hp → Prop) (itv : Value) (s2 : Shared) : Prop :=
  ∃ (it : Addr) (fp : List Addr) (tn : Nat → Heap → Prop) (J : It) (H' : Hp), itv = .ref it ∧ Inv X pins σ H' s2 ∧ Turn X.prog X.w X.K tg J fp it tn ∧ tn 0 s2.heap ∧ (∀ b ∈ fp, FpOk X pins H' b) ∧ R J H'
def PI (X : Cx) (tg iter : Expr) (wi : TI) : Prop :=
  ∀ (pins : List (Addr × Obj)) (s : Shared) (σ : St) (H : Hp) (R : It → Hp → Prop), Inv X pins σ H s → wi σ H R →
    wpAny (model X.prog X.w) X.A (eval iter X.env) (fun v s1 => wpAny (model X.prog X.w) X.A (pyIter v) (PIE X pins σ tg R) X.xe s1) X.xe s
theorem go_of {M : Model} {A : Around} {E : Value → Shared → Prop} {s : Shared} {tg : Expr} {it : Addr} {u : Value} {o : Obj} {n : String} {vs : Array Value} {Q : Unit → Shared → Prop} (ho : s.heap.get? it = some o) (hc : o.cls = .type n) (hd : o.data = .fields vs)
    (hn : ["enumerate", "zip", "dict_itemiterator", "dict_reverseitemiterator", "odict_iterator", "itertools.zip_longest", "itertools.pairwise"].contains n = false) (hQ : Q () s) : wpAny M A (letOwnedTupleGo tg (.ref it) u) Q E s := by
  unfold letOwnedTupleGo
  cases tg <;> first
    | exact wpAny_pure hQ
    | (cases u <;> first
        | exact wpAny_pure hQ
        | (refine wpAny_bind (wpAny_load ho ?_)
           rw [hc, hd]
           show wpAny M A (if (["enumerate", "zip", "dict_itemiterator", "dict_reverseitemiterator", "odict_iterator", "itertools.zip_longest", "itertools.pairwise"].contains n && vs[0]? == some (rawInt _)) = true then _ else _) Q E s
           rw [if_neg (by intro h; rw [hn, Bool.false_and] at h; cases h)]
           exact wpAny_pure hQ))
def Itl (K : PySem.W.Frag) (a : Addr) : It :=
  ⟨fun i H => ∃ xs x, SqL K H a xs ∧ xs[i]? = some x, fun i H x H' => H' = H ∧ ∀ xs, SqL K H a xs → xs[i]? = some x, fun i H => ∃ xs, SqL K H a xs ∧ xs.length ≤ i⟩
def Itt (K : PySem.W.Frag) (a : Addr) : It :=
  ⟨fun i H => ∃ xs x, SqT K H a xs ∧ xs[i]? = some x, fun i H x H' => H' = H ∧ ∀ xs, SqT K H a xs → xs[i]? = some x, fun i H => ∃ xs, SqT K H a xs ∧ xs.length ≤ i⟩
def Itr (lo : Int) (n : Nat) : It := ⟨fun i _ => i < n, fun i H x H' => H' = H ∧ x = .int (lo + i), fun i _ => n ≤ i⟩
theorem turn_list {P : Program} {w : World} {K : PySem.W.Frag} {tg : Expr} (a it : Addr) : Turn P w K tg (Itl K a) [it] it (fun i h => h.IsListIter it a i) where
  mem := by simp
  obj := fun i h st b hb => by
    have e : b = it := by simpa using hb
    subst e
    obtain ⟨o, e, c, d⟩ := st
    exact ⟨o, e, fun v z => by rw [d] at z; cases z⟩
  keep := fun i h h' st k => st.at fun o e => k it (by simp) o e
  item := by
    intro X hP hw hK hc i pins s σ H E I hf st hg
    subst hP hw hK
    obtain ⟨xs, x, hq, hx⟩ := hg
    obtain ⟨its, rv, p, hz⟩ := I.list hq
    obtain ⟨u, hu, ru⟩ := rv.get hx
    obtain ⟨f0, f1, f2, f3, f4, f5⟩ := hf it (by simp)
    refine wpAny_pyNext_list_item st p.isList (x := u) (by simpa using hu) fun h' st' sb => ?_
    have I1 : Inv X pins σ H { s with heap := h' } := I.turned (t' := s.toks) (fun b o hb e => (sb.2 b hb).trans e) f0 f1 f3 f4 f5
    obtain ⟨o, e, c, d⟩ := id st'
    exact ⟨u, rfl, go_of (s := { s with heap := h' }) e c d (by decide) ⟨x, H, I1, ru, ⟨rfl, fun ys hy => by rw [I.list_inj hy hq]; exact hx⟩, st', fun b hb => (hf b hb).1⟩⟩
  done := by
    intro X hP hw hK hc i pins s σ H E I hf st hg
    subst hP hw hK
    obtain ⟨xs, hq, hx⟩ := hg
    obtain ⟨its, rv, p, hz⟩ := I.list hq
    obtain ⟨f0, f1, f2, f3, f4, f5⟩ := hf it (by simp)
    have hl := rv.length
    exact wpAny_pyNext_list_end (I.ok.hd hc) st p.isList (by simp; omega) fun h' eb => ⟨rfl, I.turned (t' := s.toks) (fun b o hb e => eb b o hb e) f0 f1 f3 f4 f5⟩
  self := fun _ _ _ _ _ st h => wpAny_pyIter_listiter st h
theorem turn_tuple {P : Program} {w : World} {K : PySem.W.Frag} {tg : Expr} (a it : Addr) : Turn P w K tg (Itt K a) [it] it (fun i h => h.IsTupleIter it a i) where
  mem := by simp
  obj := fun i h st b hb => by
    have e : b = it := by simpa using hb
    subst e
    obtain ⟨o, e, c, d⟩ := st
    exact ⟨o, e, fun v z => by rw [d] at z; cases z⟩
  keep := fun i h h' st k => st.at fun o e => k it (by simp) o e
  item := by
    intro X hP hw hK hc i pins s σ H E I hf st hg
    subst hP hw hK
    obtain ⟨xs, x, hq, hx⟩ := hg
    obtain ⟨its, rv, p, hz⟩ := I.tuple hq
    obtain ⟨u, hu, ru⟩ := rv.get hx
    obtain ⟨f0, f1, f2, f3, f4, f5⟩ := hf it (by simp)
    refine wpAny_pyNext_tuple_item st (show s.heap.IsTuple a its.toArray from p) (x := u) (by simpa using hu) fun h' st' sb => ?_
    have I1 : Inv X pins σ H { s with heap := h' } := I.turned (t' := s.toks) (fun b o hb e => (sb.2 b hb).trans e) f0 f1 f3 f4 f5
    obtain ⟨o, e, c, d⟩ := id st'
    exact ⟨u, rfl, go_of (s := { s with heap := h' }) e c d (by decide) ⟨x, H, I1, ru, ⟨rfl, fun ys hy => by rw [I.tuple_inj hy hq]; exact hx⟩, st', fun b hb => (hf b hb).1⟩⟩
  done := by
    intro X hP hw hK hc i pins s σ H E I hf st hg
    subst hP hw hK
    obtain ⟨xs, hq, hx⟩ := hg
    obtain ⟨its, rv, p, hz⟩ := I.tuple hq
    obtain ⟨f0, f1, f2, f3, f4, f5⟩ := hf it (by simp)
    have hl := rv.length
    exact wpAny_pyNext_tuple_end (I.ok.hd hc) st (show s.heap.IsTuple a its.toArray from p) (by simp; omega) fun h' eb => ⟨rfl, I.turned (t' := s.toks) (fun b o hb e => eb b o hb e) f0 f1 f3 f4 f5⟩
  self := fun _ _ _ _ _ st h => wpAny_pyIter_tupleiter st h
theorem turn_range {P : Program} {w : World} {K : PySem.W.Frag} {tg : Expr} (it : Addr) (lo : Int) (n : Nat) : Turn P w K tg (Itr lo n) [it] it (fun i h => IsRangeIter h it (lo + (i : Nat) * 1) ((n : Int) - (i : Nat)) 1) where
  mem := by simp
  obj := fun i h st b hb => by
    have e : b = it := by simpa using hb
    subst e
    exact ⟨_, st, fun v z => by
      have z' : Data.fields _ = Data.cell v := z
      cases z'⟩
  keep := fun i h h' st k => k it (by simp) _ st
  item := by
    intro X hP hw hK hc i pins s σ H E I hf st hg
    subst hP hw hK
    obtain ⟨f0, f1, f2, f3, f4, f5⟩ := hf it (by simp)
    have W := Walks.range (prog := X.prog) (w := X.w) (I.ok.hd hc) it lo 1 n
    refine W.item i s _ _ hg st fun v h' tk hv st' kk => ?_
    obtain ⟨t, rfl⟩ := hv
    have I1 : Inv X pins σ H { s with heap := h', toks := tk } := I.turned (fun b o hb e => kk b o (by simpa using hb) e) f0 f1 f3 f4 f5
    refine ⟨_, rfl, go_of (s := { s with heap := h', toks := tk }) (n := "range_iterator") st' rfl rfl (by decide) ⟨.int (lo + i), H, I1, ⟨t, ?_⟩, ⟨rfl, rfl⟩, st', fun b hb => (hf b hb).1⟩⟩
    rw [Int.mul_one]
  done := by
    intro X hP hw hK hc i pins s σ H E I hf st hg
    subst hP hw hK
    obtain ⟨f0, f1, f2, f3, f4, f5⟩ := hf it (by simp)
    exact wpAny_pyNext_range_end (I.ok.hd hc) st (by have : n ≤ i := hg; omega) fun h' eb => ⟨rfl, I.turned (t' := s.toks) (fun b o hb e => eb b o hb e) f0 f1 f3 f4 f5⟩
  self := fun _ _ _ _ _ st h => wpAny_pyIter_rangeiter st h
end L2
namespace L2
open PySem PySem.Spec PyProof.Rows
section
variable {X : Cx} {tg : Expr}
theorem range_it {pins : List (Addr × Obj)} {σ : St} {H : Hp} {s : Shared} {R : It → Hp → Prop} {E : Value → Shared → Prop} {lo hi : Int} {t u v : Tok} {tk : Nat} (I : Inv X pins σ H s) (h1 : -(2 ^ 62) ≤ lo) (h2 : lo < 2 ^ 62) (h3 : -(2 ^ 62) ≤ hi) (h4 : hi < 2 ^ 62)
    (q : R (Itr lo (hi - lo).toNat) H) : wpAny (model X.prog X.w) X.A (pyIter (.ref s.heap.objs.size)) (PIE X pins σ tg R) E { s with heap := s.heap.push { cls := .type "range", data := .fields #[.int lo t, .int hi u, .int 1 v] }, toks := tk } := by
  refine wpAny_pyIter_range (IsRange.new ..) (small_one h1 h2 h3 h4) ?_
  have I1 : Inv X pins σ H { s with heap := s.heap.push { cls := .type "range", data := .fields #[.int lo t, .int hi u, .int 1 v] }, toks := tk } := I.kept fun b o e => Heap.get?_push_of_some _ e
  refine ⟨(s.heap.push { cls := .type "range", data := .fields #[.int lo t, .int hi u, .int 1 v] }).objs.size, [(s.heap.push { cls := .type "range", data := .fields #[.int lo t, .int hi u, .int 1 v] }).objs.size], _, _, H, rfl,
    I1.kept (t' := tk) fun b o e => Heap.get?_push_of_some _ e, turn_range _ lo (hi - lo).toNat, ?_, fun b hb => ?_, q⟩
  · have e1 : lo + ((0 : Nat) : Int) * 1 = lo := by simp
    have e2 : (((hi - lo).toNat : Nat) : Int) - ((0 : Nat) : Int) = Builtin.Range.rangeSize lo hi 1 := by rw [rangeSize_one]; split <;> omega
    show IsRangeIter _ _ (lo + ((0 : Nat) : Int) * 1) ((((hi - lo).toNat : Nat) : Int) - ((0 : Nat) : Int)) 1
    rw [e1, e2]
    exact Heap.get?_push_size _ rfl
  · have e : b = (s.heap.push { cls := .type "range", data := .fields #[.int lo t, .int hi u, .int 1 v] }).objs.size := by simpa using hb
    subst e
    exact I1.fpOk (Nat.le_refl _) (I1.hok.fresh (Nat.le_refl _))
def iRng1 (ta : TA) : TI := fun σ H R => ta σ H fun vs H1 => ∃ j : Int, vs = [.int j] ∧ -(2 ^ 62) ≤ j ∧ j < 2 ^ 62 ∧ R (Itr 0 j.toNat) H1
theorem pi_range1 {a : Expr} {ta : TA} {p pos : Pos} (hg : Gl X "range") (hm : X.mg "range" = none) (ha : PA X [a] ta) (hs : starEach [a] X.env = [(false, eval a X.env)] := by rfl) : PI X tg (.Call (.Name "range" p) [a] [] pos) (iRng1 ta) := by
  intro pins s σ H R I h
  refine Call_ (ld_blt I hg hm boot_range (PyProof.Rows.callWith_type1 (thn (ha pos pins s σ H _ I h) fun us s1 ⟨vs, H1, I1, r1, q1⟩ => ?_) hs rfl))
  obtain ⟨j, e, q1, q2, q⟩ := q1
  subst e
  cases r1 with
  | cons r rr =>
    cases rr
    obtain ⟨t, rfl⟩ := r
    exact call_range_1 (range_it I1 (by omega) (by omega) q1 q2 (by simpa using q))
def tFor (wi : TI) (g : TG) (tb : TS) : TS := fun D σ H => wi σ H fun J H1 => ∃ W : Nat → Nat → St → Hp → Prop, (∃ m, W 0 m σ H1) ∧ ∀ i m σ H, W i m σ H →
  (J.stop i H ∧ D.nx σ H) ∨ (J.go i H ∧ ∃ N : St → Hp → Prop, (∀ σ' H', N σ' H' → ∃ m', m' < m ∧ W (i + 1) m' σ' H') ∧ ∀ x H', J.yld i H x H' → g x σ H' fun σ2 H2 => tb { D with nx := N, ct := N, bk := D.nx } σ2 H2)
def pinsAt (fp : List Addr) (h : Heap) : List (Addr × Obj) := fp.filterMap fun b => (h.get? b).map fun o => (b, o)
theorem mem_pinsAt {fp : List Addr} {h : Heap} {b : Addr} {o : Obj} (hb : b ∈ fp) (e : h.get? b = some o) : (b, o) ∈ pinsAt fp h := List.mem_filterMap.mpr ⟨b, hb, by rw [e]; rfl⟩
theorem of_pinsAt {fp : List Addr} {h : Heap} {p : Addr × Obj} (hp : p ∈ pinsAt fp h) : p.1 ∈ fp ∧ h.get? p.1 = some p.2 := by
  obtain ⟨b, hb, e⟩ := List.mem_filterMap.mp hp
  cases q : h.get? b with
  | none => rw [q] at e; cases e
  | some o =>
    rw [q] at e
    have e' : (b, o) = p := Option.some.inj e
    subst e'
    exact ⟨hb, q⟩
theorem Inv.pinned {pins : List (Addr × Obj)} {σ : St} {H : Hp} {s : Shared} {fp : List Addr} (I : Inv X pins σ H s) (hf : ∀ b ∈ fp, FpOk X pins H b) (ho : ∀ b ∈ fp, ∃ o, s.heap.get? b = some o ∧ ∀ v, o.data ≠ .cell v) : Inv X (pins ++ pinsAt fp s.heap) σ H s :=
  I.pins_of fun p hp => (List.mem_append.mp hp).elim (fun z => I.pin p (List.mem_append_right _ z)) fun z => by
    obtain ⟨hb, e⟩ := of_pinsAt z
    obtain ⟨f0, f1, f2, _⟩ := hf p.1 hb
    obtain ⟨o, e', d⟩ := ho p.1 hb
    rw [e] at e'; cases e'
    exact ⟨e, f0, f1, f2, d⟩
theorem Inv.unpinned {pins pl : List (Addr × Obj)} {σ : St} {H : Hp} {s : Shared} (I : Inv X (pins ++ pl) σ H s) : Inv X pins σ H s := I.pins_of fun p hp => I.pin p (List.mem_append_right _ (List.mem_append_left _ hp))
theorem ps_for {iter : Expr} {body : List Stmt} {wi : TI} {g : TG} {tb : TS} {pos : Pos} (hp : PassesOwn (model X.prog X.w) X.A X.env X.xe) (hc : X.calm = true) (hi : PI X tg iter wi) (hg : PG X tg g) (hb : PSs X body tb)
    (hs : ∀ x, foldedSetIterable iter X.env x = pure x := by intro _; rfl) : PS X (.For tg iter body [] pos) (tFor wi g tb) := by
  intro pins s σ H D I h
  refine wpAny_For (thn (hi pins s σ H _ I h) fun v s1 h1 => thn h1 fun itv s2 h2 => ?_) hs
  obtain ⟨it, fp, tn, J, H2, e, I2, T, st2, f2, W, ⟨m0, w0⟩, turn⟩ := h2
  subst e
  have stat : ∀ {H' : Hp}, (∀ b ∈ fp, H' b = none) → ∀ b ∈ fp, FpOk X pins H' b := fun hn b hb => ⟨hn b hb, (f2 b hb).2⟩
  refine codeAny_forLoop_any (fun n s' => ∃ i σ' H', Inv X pins σ' H' s' ∧ tn i s'.heap ∧ (∀ b ∈ fp, H' b = none) ∧ W i n σ' H') ?_ m0 ⟨0, σ, H2, I2, st2, fun b hb => (f2 b hb).1, w0⟩
  rintro n s3 ⟨i, σ3, H3, I3, st3, fr3, w3⟩
  rcases turn i n σ3 H3 w3 with ⟨stop, qn⟩ | ⟨go, N, hN, step⟩
  · refine wpAny_passesOwn hp (thn (T.done X rfl rfl rfl hc i pins s3 σ3 H3 X.xe I3 (stat fr3) st3 stop) fun r s4 ⟨hr, I4⟩ => ?_)
    subst hr
    exact wpAny_execs_nil ⟨σ3, H3, I4, qn⟩
  · refine wpAny_passesOwn hp (thn (T.item X rfl rfl rfl hc i pins s3 σ3 H3 X.xe I3 (stat fr3) st3 go) fun r s4 ⟨u, hr, h4⟩ => ?_)
    subst hr
    refine wpAny_passesOwn hp (thn h4 fun _ s5 ⟨x, H5, I5, r5, y5, st5, fr5⟩ => ?_)
    have I5' := I5.pinned (stat fr5) (T.obj _ _ st5)
    refine wpAny_passesOwn hp (thn (hg _ s5 σ3 H5 x u _ I5' r5 (step x H5 y5)) fun _ s6 ⟨σ6, H6, I6, q6⟩ => ?_)
    refine wpAny_passesOwn hp (thn (hb _ s6 σ6 H6 _ I6 q6) fun f s7 q7 => ?_)
    have again : ∀ {σ7 : St} {H7 : Hp}, Inv X (pins ++ pinsAt fp s5.heap) σ7 H7 s7 → N σ7 H7 → ∃ m, m < n ∧ ∃ i σ' H', Inv X pins σ' H' s7 ∧ tn i s7.heap ∧ (∀ b ∈ fp, H' b = none) ∧ W i m σ' H' := fun {σ7 H7} I7 n7 => by
      obtain ⟨m', hm, w7⟩ := hN σ7 H7 n7
      refine ⟨m', hm, i + 1, σ7, H7, I7.unpinned, T.keep _ _ _ st5 fun b hb o e => (I7.pin (b, o) (List.mem_append_right _ (List.mem_append_right _ (mem_pinsAt hb e)))).1, fun b hb => ?_, w7⟩
      obtain ⟨o, e, d⟩ := T.obj _ _ st5 b hb
      exact (I7.pin (b, o) (List.mem_append_right _ (List.mem_append_right _ (mem_pinsAt hb e)))).2.1
    cases f with
    | next => obtain ⟨σ7, H7, I7, n7⟩ := q7; exact again I7 n7
    | cont => obtain ⟨σ7, H7, I7, n7⟩ := q7; exact again I7 n7
    | brk => obtain ⟨σ7, H7, I7, q7⟩ := q7; exact ⟨σ7, H7, I7.unpinned, q7⟩
    | ret v => obtain ⟨x7, σ7, H7, I7, r7, q7⟩ := q7; exact ⟨x7, σ7, H7, I7.unpinned, r7, q7⟩
end
end L2
namespace L2
open PySem PySem.Spec PyProof.Rows
abbrev R2 := V → V → Hp → VK → Prop
def OpR (X : Cx) (f : Value → Value → Sem Value) (r : R2) : Prop :=
  ∀ (pins : List (Addr × Obj)) (s : Shared) (σ : St) (H : Hp) (x y : V) (v u : Value) (Q : VK), Inv X pins σ H s → RelV x v → RelV y u → r x y H Q →
    wpAny (model X.prog X.w) X.A (f v u) (EP X pins σ Q) X.xe s
def UnR (X : Cx) (f : Value → Sem Value) (r : V → Hp → VK → Prop) : Prop :=
  ∀ (pins : List (Addr × Obj)) (s : Shared) (σ : St) (H : Hp) (x : V) (v : Value) (Q : VK), Inv X pins σ H s → RelV x v → r x H Q →
    wpAny (model X.prog X.w) X.A (f v) (EP X pins σ Q) X.xe s
def CallR (X : Cx) (f : Value) (r : List V → Hp → VK → Prop) : Prop :=
  ∀ (pins : List (Addr × Obj)) (s : Shared) (σ : St) (H : Hp) (xs : List V) (us : List Value) (Q : VK), Inv X pins σ H s → Vals xs us → r xs H Q →
    wpAny (model X.prog X.w) X.A (call f us) (EP X pins σ Q) X.xe s
def tOp (r : R2) (ta tb : TE) : TE := fun σ H Q => ta σ H fun x H1 => tb σ H1 fun y H2 => r x y H2 Q
def tUn (r : V → Hp → VK → Prop) (ta : TE) : TE := fun σ H Q => ta σ H fun x H1 => r x H1 Q
def rI (C : Int → Int → Prop) (g : Int → Int → V) : R2 := fun x y H Q => ∃ i j, x = .int i ∧ y = .int j ∧ C i j ∧ Q (g i j) H
def rI0 (g : Int → Int → V) : R2 := fun x y H Q => ∃ i j, x = .int i ∧ y = .int j ∧ Q (g i j) H
def rU (g : Int → V) : V → Hp → VK → Prop := fun x H Q => ∃ i, x = .int i ∧ Q (g i) H
section
variable {X : Cx} {a b c : Expr} {ta tb tc : TE} {pos : Pos}
theorem binT (ha : PE X a ta) (hb : PE X b tb) {pins : List (Addr × Obj)} {s : Shared} {σ : St} {H : Hp} {R : V → V → Hp → Prop} (I : Inv X pins σ H s)
    (h : ta σ H fun x H1 => tb σ H1 fun y H2 => R x y H2) {Q : Value → Shared → Prop} {f : Value → Value → Sem Value}
    (hf : ∀ v u s2 x y H2, Inv X pins σ H2 s2 → RelV x v → RelV y u → R x y H2 → wpAny (model X.prog X.w) X.A (f v u) Q X.xe s2) :
    wpAny (model X.prog X.w) X.A (eval a X.env) (fun v s₁ => wpAny (model X.prog X.w) X.A (eval b X.env) (fun u s₂ => wpAny (model X.prog X.w) X.A (f v u) Q X.xe s₂) X.xe s₁) X.xe s := by
  refine thn (ha pins s σ H _ I h) fun v s1 ⟨x, H1, I1, r1, q1⟩ => ?_
  refine thn (hb pins s1 σ H1 _ I1 q1) fun u s2 ⟨y, H2, I2, r2, q2⟩ => ?_
  exact hf v u s2 x y H2 I2 r1 r2 q2
theorem pe_op {op : Operator} {r : R2} (ho : OpR X (binaryOp op) r) (ha : PE X a ta) (hb : PE X b tb) : PE X (.BinOp a op b pos) (tOp r ta tb) := by
  intro pins s σ H Q I h
  exact wpAny_BinOp (binT ha hb I h fun v u s2 x y H2 I2 rx ry q => ho pins s2 σ H2 x y v u Q I2 rx ry q)
theorem pe_un {op : UnaryOp} {r : V → Hp → VK → Prop} (ho : UnR X (unaryOp op) r) (ha : PE X a ta) : PE X (.UnaryOp op a pos) (tUn r ta) := by
  intro pins s σ H Q I h
  exact UnaryOp_ (thn (ha pins s σ H _ I h) fun v s1 ⟨x, H1, I1, r1, q1⟩ => ho pins s1 σ H1 x v Q I1 r1 q1)
theorem opI {f : Value → Value → Sem Value} {C : Int → Int → Prop} {g : Int → Int → Int}
    (rule : ∀ (i j : Int) (t u : Tok) (s : Shared) (Q : Value → Shared → Prop) (E : Value → Shared → Prop), C i j → Q (.int (g i j) s.toks) { s with toks := s.toks + 1 } → wpAny (model X.prog X.w) X.A (f (.int i t) (.int j u)) Q E s) :
    OpR X f (rI C fun i j => .int (g i j)) := by
  intro pins s σ H x y v u Q I rx ry h
  obtain ⟨i, j, rfl, rfl, hc, q⟩ := h
  obtain ⟨t, rfl⟩ := rx
  obtain ⟨t', rfl⟩ := ry
  exact rule i j t t' s _ _ hc ⟨.int (g i j), H, I.tok _, ⟨_, rfl⟩, q⟩
theorem opI0 {f : Value → Value → Sem Value} {g : Int → Int → Int}
    (rule : ∀ (i j : Int) (t u : Tok) (s : Shared) (Q : Value → Shared → Prop) (E : Value → Shared → Prop), Q (.int (g i j) s.toks) { s with toks := s.toks + 1 } → wpAny (model X.prog X.w) X.A (f (.int i t) (.int j u)) Q E s) :
    OpR X f (rI0 fun i j => .int (g i j)) := by
  intro pins s σ H x y v u Q I rx ry h
  obtain ⟨i, j, rfl, rfl, q⟩ := h
  obtain ⟨t, rfl⟩ := rx
  obtain ⟨t', rfl⟩ := ry
  exact rule i j t t' s _ _ ⟨.int (g i j), H, I.tok _, ⟨_, rfl⟩, q⟩
theorem opB0 {f : Value → Value → Sem Value} {g : Int → Int → Bool}
    (rule : ∀ (i j : Int) (t u : Tok) (s : Shared) (Q : Value → Shared → Prop) (E : Value → Shared → Prop), Q (.bool (g i j)) s → wpAny (model X.prog X.w) X.A (f (.int i t) (.int j u)) Q E s) :
    OpR X f (rI0 fun i j => .bl (g i j)) := by
  intro pins s σ H x y v u Q I rx ry h
  obtain ⟨i, j, rfl, rfl, q⟩ := h
  obtain ⟨t, rfl⟩ := rx
  obtain ⟨t', rfl⟩ := ry
  exact rule i j t t' s _ _ ⟨.bl (g i j), H, I, rfl, q⟩
def CMul (i j : Int) : Prop := (-(2 ^ 64) < i ∧ i < 2 ^ 64) ∨ (-(2 ^ 64) < j ∧ j < 2 ^ 64)
theorem CMul.ok {i j : Int} (h : CMul i j) : IntMulOk i j := by
  rcases h with ⟨h1, h2⟩ | ⟨h1, h2⟩
  · exact .of_left (intBits_le_64 h1 h2)
  · exact .of_right (intBits_le_64 h1 h2)
theorem op_add : OpR X (binaryOp .Add) (rI0 fun i j => .int (i + j)) := opI0 fun _ _ _ _ _ _ _ q => add_int q
theorem op_sub : OpR X (binaryOp .Sub) (rI0 fun i j => .int (i - j)) := opI0 fun _ _ _ _ _ _ _ q => sub_int q
theorem op_mul : OpR X (binaryOp .Mult) (rI CMul fun i j => .int (i * j)) := opI fun _ _ _ _ _ _ _ hc q => mul_int q hc.ok
theorem op_mod : OpR X (binaryOp .Mod) (rI (fun _ j => 0 < j) fun i j => .int (i % j)) := opI fun i j _ _ _ _ _ hc q => by
  have h1 : (0 : Int) < j := hc
  exact mod_int' (by omega) (by rw [Int.fmod_eq_emod_of_nonneg i (by omega)]; exact q)
theorem unI {f : Value → Sem Value} {g : Int → Int}
    (rule : ∀ (i : Int) (t : Tok) (s : Shared) (Q : Value → Shared → Prop) (E : Value → Shared → Prop), Q (.int (g i) s.toks) { s with toks := s.toks + 1 } → wpAny (model X.prog X.w) X.A (f (.int i t)) Q E s) :
    UnR X f (rU fun i => .int (g i)) := by
  intro pins s σ H x v Q I rx h
  obtain ⟨i, rfl, q⟩ := h
  obtain ⟨t, rfl⟩ := rx
  exact rule i t s _ _ ⟨.int (g i), H, I.tok _, ⟨_, rfl⟩, q⟩
theorem un_neg : UnR X (unaryOp .USub) (rU fun i => .int (-i)) := unI fun _ _ _ _ _ q => neg_int q
end
section
variable {X : Cx} {a b c : Expr} {ta tb tc : TE} {pos : Pos}
theorem op_gt : OpR X (compareOp .Gt) (rI0 fun i j => .bl (decide (j < i))) := opB0 fun _ _ _ _ _ _ _ q => gt_int q
theorem op_ge : OpR X (compareOp .GtE) (rI0 fun i j => .bl (decide (j ≤ i))) := opB0 fun _ _ _ _ _ _ _ q => ge_int q
theorem OpR.or {f : Value → Value → Sem Value} {r r' : R2} (h : OpR X f r) (h' : OpR X f r') : OpR X f (fun x y H Q => r x y H Q ∨ r' x y H Q) := by
  intro pins s σ H x y v u Q I rx ry q
  rcases q with q | q
  · exact h pins s σ H x y v u Q I rx ry q
  · exact h' pins s σ H x y v u Q I rx ry q
theorem nomark (b : Expr) {op : CmpOp} (h : op ≠ .In := by decide) (h2 : op ≠ .NotIn := by decide) : behindInMarks op b = false := by
  have e1 : (op == CmpOp.In) = false := by cases op <;> first | rfl | exact absurd rfl h
  have e2 : (op == CmpOp.NotIn) = false := by cases op <;> first | rfl | exact absurd rfl h2
  cases b <;> simp [behindInMarks, e1, e2]
theorem pe_cmpR {op : CmpOp} {r : R2} (ho : OpR X (compareOp op) r) (ha : PE X a ta) (hb : PE X b tb) (hm : behindInMarks op b = false) : PE X (.Compare a [op] [b] pos) (tOp r ta tb) := by
  intro pins s σ H Q I h
  exact wpAny_Compare1 (binT ha hb I h fun v u s2 x y H2 I2 rx ry q => ho pins s2 σ H2 x y v u Q I2 rx ry q) hm
def tTest (t : TE) : TT := fun σ H Q => t σ H fun x H' => ∃ k, x = .bl k ∧ Q k H'
theorem pt_cmpR {op : CmpOp} {r : R2} (ho : OpR X (compareOp op) r) (ha : PE X a ta) (hb : PE X b tb) (hm : behindInMarks op b = false) : PT X (.Compare a [op] [b] pos) (tTest (tOp r ta tb)) := by
  intro pins s σ H Q I h
  refine wpAny_isTrue_Compare1 (thn (ha pins s σ H _ I h) fun v s1 ⟨x, H1, I1, r1, q1⟩ => thn (hb pins s1 σ H1 _ I1 q1) fun u s2 ⟨y, H2, I2, r2, q2⟩ =>
    thn (ho pins s2 σ H2 x y v u _ I2 r1 r2 q2) fun c s3 ⟨z, H3, I3, r3, k, e, q3⟩ => ?_) hm
  subst e
  cases r3
  exact wpAny_truthy_bool ⟨H3, I3, q3⟩
theorem line63 : (sizeLine : Nat) < 2 ^ 63 := by rw [sizeLine_eq]; decide
theorem op_add_str : OpR X (binaryOp .Add) (fun x y H Q => ∃ i j, x = .str i ∧ y = .str j ∧ i.length + j.length ≤ sizeLine ∧ Q (.str (i ++ j)) H) := by
  intro pins s σ H x y v u Q I rx ry h
  obtain ⟨i, j, rfl, rfl, hz, q⟩ := h
  obtain ⟨t, rfl⟩ := rx
  obtain ⟨t', rfl⟩ := ry
  exact add_str (fun t' tk => ⟨.str (i ++ j), H, I.tok _, ⟨_, rfl⟩, q⟩) hz
theorem vals1 {x : V} {us : List Value} (r : Vals [x] us) : ∃ u, us = [u] ∧ RelV x u := by
  cases r with
  | cons r1 r2 => cases r2; exact ⟨_, rfl, r1⟩
theorem vals2 {x y : V} {us : List Value} (r : Vals [x, y] us) : ∃ u w', us = [u, w'] ∧ RelV x u ∧ RelV y w' := by
  cases r with
  | cons r1 r2 =>
    cases r2 with
    | cons r3 r4 => cases r4; exact ⟨_, _, rfl, r1, r3⟩
theorem call_max2 (hc : X.calm = true) : CallR X (.builtin "max") (fun xs H Q => ∃ i j, xs = [.int i, .int j] ∧ Q (.int (if j > i then j else i)) H) := by
  intro pins s σ H xs us Q I r h
  obtain ⟨i, j, rfl, q⟩ := h
  obtain ⟨u, w', rfl, ⟨t, rfl⟩, ⟨t', rfl⟩⟩ := vals2 r
  refine max_two_ints (I.ok.hd hc) fun h' tk k => ⟨_, H, I.kept k, ?_, q⟩
  by_cases hj : j > i
  · rw [if_pos hj, if_pos hj]; exact ⟨_, rfl⟩
  · rw [if_neg hj, if_neg hj]; exact ⟨_, rfl⟩
theorem call_min2 (hc : X.calm = true) : CallR X (.builtin "min") (fun xs H Q => ∃ i j, xs = [.int i, .int j] ∧ Q (.int (if j < i then j else i)) H) := by
  intro pins s σ H xs us Q I r h
  obtain ⟨i, j, rfl, q⟩ := h
  obtain ⟨u, w', rfl, ⟨t, rfl⟩, ⟨t', rfl⟩⟩ := vals2 r
  refine min_two_ints (I.ok.hd hc) fun h' tk k => ⟨_, H, I.kept k, ?_, q⟩
  by_cases hj : j < i
  · rw [if_pos hj, if_pos hj]; exact ⟨_, rfl⟩
  · rw [if_neg hj, if_neg hj]; exact ⟨_, rfl⟩
def LenV (K : PySem.W.Frag) (x : V) (H : Hp) (n : Nat) : Prop :=
  match x with
  | .str y => y.length ≤ sizeLine ∧ n = y.length
  | .byt y => y.size ≤ sizeLine ∧ n = y.size
  | .ref p => (∃ xs, SqL K H p xs ∧ n = xs.length) ∨ ∃ xs, SqT K H p xs ∧ n = xs.length
  | _ => False
theorem call_len : CallR X (.builtin "len") (fun xs H Q => ∃ x n, xs = [x] ∧ LenV X.K x H n ∧ Q (.int n) H) := by
  intro pins s σ H xs us Q I r h
  obtain ⟨x, n, rfl, e, q⟩ := h
  obtain ⟨u, rfl, rx⟩ := vals1 r
  have hl := line63
  have hs : sizeLine = 16777216 := sizeLine_eq
  cases x with
  | str y =>
    obtain ⟨t, rfl⟩ := rx
    obtain ⟨hy, e'⟩ : y.length ≤ sizeLine ∧ n = y.length := e
    subst e'
    exact len_str (by omega) ⟨.int _, H, I.tok _, ⟨_, rfl⟩, q⟩
  | byt y =>
    obtain ⟨t, rfl⟩ := rx
    obtain ⟨hy, e'⟩ : y.size ≤ sizeLine ∧ n = y.size := e
    subst e'
    exact PySem.W.len_bytes (by omega) ⟨.int _, H, I.tok _, ⟨_, rfl⟩, q⟩
  | ref p =>
    cases rx
    have e' : (∃ xs, SqL X.K H p xs ∧ n = xs.length) ∨ ∃ xs, SqT X.K H p xs ∧ n = xs.length := e
    rcases e' with ⟨xs, hx, e'⟩ | ⟨xs, hx, e'⟩
    · subst e'
      obtain ⟨its, r', pl, hz⟩ := I.list hx
      have hlen := r'.length
      exact Calls.call_len_list pl.isList (by simp only [List.size_toArray]; omega) ⟨.int xs.length, H, I.tok _, ⟨_, by simp only [List.size_toArray]; rw [hlen]⟩, q⟩
    · subst e'
      obtain ⟨its, r', pl, hz⟩ := I.tuple hx
      have hlen := r'.length
      exact len_tuple pl (by simp only [List.size_toArray]; omega) ⟨.int xs.length, H, I.tok _, ⟨_, by simp only [List.size_toArray]; rw [hlen]⟩, q⟩
  | _ => exact (show False from e).elim
end
end L2
namespace L2
open PySem PySem.Spec PyProof.Rows
structure ObjM (h : Heap) (x dx C : Addr) (mA : Str → Option Value) : Prop where
  obj : h.get? x = some (PySem.W.instObj C dx)
  ns : h.Ns1 dx mA
  ne : dx ≠ x
theorem lookIn_ns {h : Heap} {dx : Addr} {mA : Str → Option Value} (n : h.Ns1 dx mA) : ∃ od, h.get? dx = some od ∧ ∀ name, PySem.W.lookIn name od = some (mA name) := by
  obtain ⟨o, es, ep, ho, hd, hk, _, hm⟩ := n
  refine ⟨o, ho, fun name => ?_⟩
  have e := hm name
  unfold nsFind findBy at e
  rw [← Array.find?_toList] at e
  unfold PySem.W.lookIn
  rw [hd]
  dsimp only
  split
  · rename_i y q
    rw [q] at e
    exact congrArg some e
  · rename_i q
    rw [q] at e
    have a : es.toList.any (·.refKey) = false := by
      rw [List.any_eq_false]
      intro y hy
      obtain ⟨z, t, hkey⟩ := hk y (Array.mem_toList_iff.mp hy)
      simp [DictEntry.refKey, hkey]
    have a' : ¬ es.toList.any (·.refKey) = true := by rw [a]; exact Bool.false_ne_true
    rw [if_neg a']
    exact congrArg some e
section
variable {prog : Program} {w : World} {A : Around} {E : Value → Shared → Prop} {s : Shared} {K : PySem.W.Frag} {x dx C f : Addr} {mA : Str → Option Value} {name : Str} {v : Value}
end
theorem RelO.some_of {v : V} {o : Option Value} (r : RelO (some v) o) : ∃ u, o = some u ∧ RelV v u := by
  cases o with
  | none => exact (show False from r).elim
  | some u => exact ⟨u, rfl, r⟩
theorem handed_of {v : V} {u : Value} (r : RelV v u) : PySem.W.handedIn u = true := by
  cases v with
  | non => cases (show u = Value.none from r); rfl
  | bl b => cases (show u = Value.bool b from r); rfl
  | int i => obtain ⟨t, e⟩ := (show ∃ t, u = Value.int i t from r); cases e; rfl
  | str x => obtain ⟨t, e⟩ := (show ∃ t, u = Value.str x t from r); cases e; rfl
  | byt b => obtain ⟨t, e⟩ := (show ∃ t, u = Value.bytes b t from r); cases e; rfl
  | flt b => obtain ⟨t, e⟩ := (show ∃ t, u = Value.float b t from r); cases e; rfl
  | ref a => cases (show u = Value.ref a from r); rfl
  | ty n => cases (show u = Value.type n from r); rfl
section
variable {P : Program} {w : World} {H H' : Hp} {h h' : Heap} {a C dx : Addr} {fs fs' : List (Str × V)}
end
structure Cls (K : PySem.W.Frag) (C : Addr) : Prop where
  pg : PySem.W.plainGet K C Str.empty = true
  hd : PySem.W.hasDictIn K C = true
  po : PySem.W.plainOver K C = true
  sa : PySem.W.findIn K (.ref C) "__setattr__" = some (some (.builtin "object.__setattr__"))
theorem Cls.get {K : PySem.W.Frag} {C : Addr} (c : Cls K C) (f : Str) : PySem.W.plainGet K C f = true := c.pg
def NoAttr (K : PySem.W.Frag) (C : Addr) (f : Str) : Prop := PySem.W.findIn K (.ref C) f = some none
structure Con (K : PySem.W.Frag) (C : Addr) (f : Str) (v : V) (u : Value) : Prop where
  at_ : PySem.W.findIn K (.ref C) f = some (some u)
  rel : RelV v u
  get : PySem.W.specialIn K u "__get__" = some none
  cp : PySem.W.copiedNames.contains f = false
structure Meth (K : PySem.W.Frag) (C : Addr) (m : Str) (f : Addr) : Prop where
  at_ : PySem.W.findIn K (.ref C) m = some (some (.ref f))
  fn : PySem.W.isFn K (.ref f) = true
  kp : PySem.W.keepIn K (.ref f) = true
section
variable {X : Cx} {pins : List (Addr × Obj)} {σ : St} {H : Hp} {s : Shared} {a C dx : Addr} {fs : List (Str × V)} {f : Str} {v : V} {A : Around} {E : Value → Shared → Prop}
theorem Inv.made (I : Inv X pins σ H s) : Inv X pins σ (upd (upd H s.heap.objs.size (.own (s.heap.objs.size + 1))) (s.heap.objs.size + 1) (.ins C s.heap.objs.size []))
    { s with heap := (s.heap.push PySem.W.emptyDict).push (PySem.W.instObj C s.heap.objs.size) } := by
  have e1 : (s.heap.push PySem.W.emptyDict).get? s.heap.objs.size = some PySem.W.emptyDict := Heap.get?_push_size s.heap rfl
  have e2 : ((s.heap.push PySem.W.emptyDict).push (PySem.W.instObj C s.heap.objs.size)).get? (s.heap.objs.size + 1) = some (PySem.W.instObj C s.heap.objs.size) := by
    have := Heap.get?_push_size (s.heap.push PySem.W.emptyDict) (o := PySem.W.instObj C s.heap.objs.size) rfl
    rwa [Heap.size_push] at this
  have e3 : (s.heap.push PySem.W.emptyDict).Ns s.heap.objs.size (fun _ => none) := ⟨PySem.W.emptyDict, #[], _, e1, rfl, (fun e he => absurd he (by simp)), fun _ => rfl⟩
  have I1 := I.laid (a := s.heap.objs.size) (o := .own (s.heap.objs.size + 1)) (h' := s.heap.push PySem.W.emptyDict) (t' := s.toks) (fun b u q => Heap.get?_push_of_some _ q) (Nat.le_refl _) ⟨_, e1⟩
  refine I1.laid (a := s.heap.objs.size + 1) (o := .ins C s.heap.objs.size []) (t' := s.toks) (fun b u q => Heap.get?_push_of_some _ q) (Nat.le_of_eq (Heap.size_push _ _)) ?_
  have ne : s.heap.objs.size ≠ s.heap.objs.size + 1 := Nat.ne_of_lt (Nat.lt_succ_self _)
  refine ⟨by rw [upd_ne ne, upd_same], Nat.zero_le _, ne, e2, fun _ => none, (Heap.Ns1.of_empty e3).at fun o q => Heap.get?_push_of_some _ q, fun _ => True.intro, fun y hy => absurd rfl hy⟩
theorem attr_of {prog : Program} {w : World} {env : Env} {e : Expr} {f : Str} {pos : Pos} {s : Shared} {Q : Value → Shared → Prop} (hb : attributeBase e f env (eval e env) = eval e env)
    (h : wpAny (model prog w) A (eval e env) (fun o s₁ => wpAny (model prog w) A (getAttr o f true) Q E s₁) E s) : wpAny (model prog w) A (eval (.Attribute e f pos) env) Q E s :=
  Attribute_any_ h (by rw [arm_eval_Attribute, hb])
end
section
variable {X : Cx} {o e value : Expr} {f : Str} {pos pos' tpos : Pos} {ta tv : TE}
end
section
variable {X : Cx} {pins : List (Addr × Obj)} {σ : St} {H : Hp} {s : Shared} {A : Around} {E : Value → Shared → Prop} {Q : Value → Shared → Prop} {c : Value} {b : Bool}
inductive TyOf (K : PySem.W.Frag) (H : Hp) : V → Value → Prop where
  | non : TyOf K H .non (.type "NoneType")
  | bl (x : Bool) : TyOf K H (.bl x) (.type "bool")
  | int (i : Int) : TyOf K H (.int i) (.type "int")
  | str (x : Str) : TyOf K H (.str x) (.type "str")
  | flt (x : UInt64) : TyOf K H (.flt x) (.type "float")
  | lst {a : Addr} {xs : List V} (e : H a = some (.lst xs)) : TyOf K H (.ref a) (.type "list")
  | frz {a : Addr} {o : Obj} {xs : List V} (e : H a = some (.frz o (.lst xs))) : TyOf K H (.ref a) (.type "list")
  | tup {a : Addr} {xs : List V} (e : H a = some (.tup xs)) : TyOf K H (.ref a) (.type "tuple")
  | dK {a : Addr} {kvs : List (Key × V)} (e : H a = some (.dK kvs)) : TyOf K H (.ref a) (.type "dict")
  | dT {a : Addr} {kvs : List (List Key × V)} (e : H a = some (.dT kvs)) : TyOf K H (.ref a) (.type "dict")
  | ins {a C dx : Addr} {fs : List (Str × V)} (e : H a = some (.ins C dx fs)) (cl : Cls K C) (ha : PySem.W.findIn K (.ref C) "__class__" = some (some (.builtin "object.__class__")))
      (hn : PySem.W.specialIn K (.builtin "object.__class__") "__get__" = some (some (.builtin "getset_descriptor.__get__"))) (htk : PySem.W.takesIn K (.builtin "object.__class__") = some true)
      (hm : PySem.W.mroIn K C (.type "object") = some true) : TyOf K H (.ref a) (.ref C)
end
end L2
namespace L2
open PySem PySem.Spec PyProof.Rows
structure Room (k : Nat) (A : Around) : Prop where
  hd : A.handled = none
  dp : A.depth + 3 * k + 5 < recursionLimit
  un : A.units + 16 * k + 200 < cLine
  gd : A.guards = some []
theorem Room.mono {j k : Nat} {A : Around} (r : Room k A) (h : j ≤ k) : Room j A := ⟨r.hd, by have := r.dp; omega, by have := r.un; omega, r.gd⟩
theorem Room.deeper {k : Nat} {A : Around} (r : Room (k + 1) A) (env : Env) : Room k (A.deeper env) :=
  ⟨r.hd, by have := r.dp; show A.depth + 1 + 3 * k + 5 < _; omega, by have := r.un; show A.units + 3 + 16 * k + 200 < _; omega, r.gd⟩
theorem Room.in1 {k : Nat} {A : Around} (r : Room (k + 1) A) : Room k A.in1 :=
  ⟨r.hd, by have := r.dp; show A.depth + 3 * k + 5 < _; omega, by have := r.un; show A.units + 1 + 16 * k + 200 < _; omega, r.gd⟩
theorem make_depth {A : Around} {C : Addr} {us : List Value} {kw : List (Str × Value)} : (A.under (.builtin "type.__call__" ⟨.ref C :: us, kw⟩)).depth = A.depth + 1 := by
  first | rfl | simp [Around.under, Code.weight, Code.isCreation, Code.isGuard, Code.isCaller, Code.frames, Code.isFrame, guardIds]
theorem make_units {A : Around} {C : Addr} {us : List Value} {kw : List (Str × Value)} : (A.under (.builtin "type.__call__" ⟨.ref C :: us, kw⟩)).units = A.units + 1 := by
  first | rfl | simp [Around.under, Code.cUnits, Code.frames, Code.isFrame]
theorem Room.make {k : Nat} {A : Around} (r : Room (k + 1) A) (C : Addr) (us : List Value) (kw : List (Str × Value)) : Room k (A.under (.builtin "type.__call__" ⟨.ref C :: us, kw⟩)) :=
  ⟨r.hd, by have := r.dp; rw [make_depth]; omega, by have := r.un; rw [make_units]; omega, by first | exact r.gd | (simpa [Around.under, Code.guards, pushGuards] using r.gd)⟩
theorem Room.depth {k : Nat} {A : Around} (r : Room k A) : A.depth < recursionLimit := by have := r.dp; omega
theorem Room.units {k : Nat} {A : Around} (r : Room k A) : A.units + 64 < cLine := by have := r.un; omega
def tNil : TA := fun _ H Q => Q [] H
def tCons (ta : TE) (tr : TA) : TA := fun σ H Q => ta σ H fun x H1 => tr σ H1 fun xs H2 => Q (x :: xs) H2
section
variable {X : Cx} {e : Expr} {es : List Expr} {te : TE} {t : TA} {pos : Pos}
theorem pa_nil : PA X [] tNil := fun _ _ _ _ H Q I h => Calls.spliced_nil ⟨[], H, I, .nil, h⟩
theorem pa_cons (ha : PE X e te) (hr : PA X es t) (hs : starEach (e :: es) X.env = (false, eval e X.env) :: starEach es X.env := by rfl) : PA X (e :: es) (tCons te t) := by
  intro pos pins s σ H Q I h
  rw [hs]
  show wpAny _ _ (spliced ((false, eval e X.env) :: backTo pos (starEach es X.env))) _ _ s
  refine Calls.spliced_cons (thn (ha pins s σ H _ I h) fun u s1 ⟨x, H1, I1, r1, q1⟩ => ?_)
  exact thn (hr pos pins s1 σ H1 _ I1 q1) fun us s2 ⟨xs, H2, I2, r2, q2⟩ => ⟨x :: xs, H2, I2, .cons r1 r2, q2⟩
def tTup (t : TA) : TE := fun σ H Q => t σ H fun xs H1 => xs.length ≤ sizeLine ∧ ∀ p, H1 p = none → Q (.ref p) (upd H1 p (.tup xs))
def tLst (t : TA) : TE := fun σ H Q => t σ H fun xs H1 => xs.length ≤ sizeLine ∧ ∀ p, H1 p = none → Q (.ref p) (upd H1 p (.lst xs))
theorem pe_tup {x1} (h : PA X es t) : PE X (.Tuple es x1 pos) (tTup t) := by
  intro pins s σ H Q I hq
  refine wpAny_Tuple_spliced (thn (h pos pins s σ H _ I hq) fun us s1 ⟨xs, H1, I1, r, z, q⟩ => ⟨by rw [← r.length]; exact z, ?_⟩)
  have hf : H1 s1.heap.objs.size = none := I1.hok.fresh (Nat.le_refl _)
  refine ⟨.ref s1.heap.objs.size, upd H1 s1.heap.objs.size (.tup xs), I1.laid (t' := s1.toks) (fun b u e => Heap.get?_push_of_some _ e) (Nat.le_refl _) ?_, rfl, q _ hf⟩
  exact ⟨z, us, r, ⟨_, Heap.get?_push_size _ rfl, rfl, _, rfl⟩⟩
theorem pe_lst (h : PA X es t) : PE X (.List es pos) (tLst t) := by
  intro pins s σ H Q I hq
  refine wpAny_List_spliced (thn (h pos pins s σ H _ I hq) fun us s1 ⟨xs, H1, I1, r, z, q⟩ => ⟨by rw [← r.length]; exact z, ?_⟩)
  have hf : H1 s1.heap.objs.size = none := I1.hok.fresh (Nat.le_refl _)
  refine ⟨.ref s1.heap.objs.size, upd H1 s1.heap.objs.size (.lst xs), I1.laid (t' := s1.toks) (fun b u e => Heap.get?_push_of_some _ e) (Nat.le_refl _) ?_, rfl, q _ hf⟩
  exact ⟨z, us, 0, r, Heap.get?_push_size _ rfl⟩
end
abbrev Sp := List V → Hp → VK → XK → Prop
abbrev CXT := List Env → Hp → Shared → XK → Value → Shared → Prop
structure Env0 (P : Program) (w : World) (K : PySem.W.Frag) (mg : Str → Option Value) (base : Heap) (A : Around) (outer : List Env) (s : Shared) (H : Hp) : Prop where
  frames : A.frames = some outer
  mod : Mod K mg base
  bs : ∀ b o, base.get? b = some o → s.heap.get? b = some o ∧ H b = none
  bsz : base.objs.size ≤ s.heap.objs.size
  funs : s.heap.FunFrames base outer
  frf : ∀ b ∈ frs outer, H b = none
  hok : HOk P w H s.heap
  bare : AllBare s.gens
def CE (outer : List Env) (P : Program) (w : World) (H : Hp) (s : Shared) (Q : VK) (u : Value) (s' : Shared) : Prop :=
  ∃ v H', s'.os = s.os ∧ AllBare s'.gens ∧ Un (frs outer) [] H H' s.heap s'.heap ∧ HOk P w H' s'.heap ∧ RelV v u ∧ Q v H'
def CR (CX : CXT) (outer : List Env) (P : Program) (w : World) (H : Hp) (s : Shared) (Q : VK) (E : XK) (r : Result) (s' : Shared) : Prop :=
  match r with
  | .ok (.ret u) => CE outer P w H s Q u s'
  | .ok _ => False
  | .error e => CX outer H s E e s'
structure FnOk (P : Program) (w : World) (K : PySem.W.Frag) (mg : Str → Option Value) (base : Heap) (CX : CXT) (k : Nat) (f : Addr) (fd : FuncData) (ps : List Str) (sp : Sp) : Prop where
  len : ∀ vs H Q E, sp vs H Q E → vs.length = ps.length
  run : ∀ (A : Around) (outer : List Env) (s : Shared) (H : Hp) (args : Args) (us : List Value) (vs : List V) (Q : VK) (E : XK), Room k A → Env0 P w K mg base A outer s H → BindsTo s fd args (ps.zip us) → Vals vs us → sp vs H Q E →
    codeAny (model P w) A (.call (.ref f) args) (CR CX outer P w H s Q E) s
theorem FnOk.mono {P : Program} {w : World} {K : PySem.W.Frag} {mg : Str → Option Value} {base : Heap} {CX : CXT} {j k : Nat} {f : Addr} {fd : FuncData} {ps : List Str} {sp : Sp} (F : FnOk P w K mg base CX j f fd ps sp) (h : j ≤ k) :
    FnOk P w K mg base CX k f fd ps sp := ⟨F.len, fun A outer s H args us vs Q E hr => F.run A outer s H args us vs Q E (hr.mono h)⟩
theorem FnOk.imp {P : Program} {w : World} {K : PySem.W.Frag} {mg : Str → Option Value} {base : Heap} {CX : CXT} {k : Nat} {f : Addr} {fd : FuncData} {ps : List Str} {sp sp' : Sp} (F : FnOk P w K mg base CX k f fd ps sp)
    (h : ∀ vs H Q E, sp' vs H Q E → sp vs H Q E) : FnOk P w K mg base CX k f fd ps sp' :=
  ⟨fun vs H Q E q => F.len vs H Q E (h _ _ _ _ q), fun A outer s H args us vs Q E hr he hb hv hs => F.run A outer s H args us vs Q E hr he hb hv (h _ _ _ _ hs)⟩
theorem Env0.make {P : Program} {w : World} {K : PySem.W.Frag} {mg : Str → Option Value} {base : Heap} {A : Around} {outer : List Env} {s : Shared} {H : Hp} (e : Env0 P w K mg base A outer s H) (C : Addr) (us : List Value) (kw : List (Str × Value)) :
    Env0 P w K mg base (A.under (.builtin "type.__call__" ⟨.ref C :: us, kw⟩)) outer s H := ⟨by first | exact e.frames | (simpa [Around.under, Code.envs, Code.isFrame, pushEnvs] using e.frames), e.mod, e.bs, e.bsz, e.funs, e.frf, e.hok, e.bare⟩
theorem Env0.in1 {P : Program} {w : World} {K : PySem.W.Frag} {mg : Str → Option Value} {base : Heap} {A : Around} {outer : List Env} {s : Shared} {H : Hp} (e : Env0 P w K mg base A outer s H) :
    Env0 P w K mg base A.in1 outer s H := ⟨e.frames, e.mod, e.bs, e.bsz, e.funs, e.frf, e.hok, e.bare⟩
section
variable {X : Cx} {pins : List (Addr × Obj)} {σ : St} {H : Hp} {s s' : Shared}
theorem Inv.env0 (I : Inv X pins σ H s) : Env0 X.prog X.w X.K X.mg X.base X.A X.stack s H :=
  ⟨I.ok.frames, I.ok.mod, I.bs, Nat.le_trans I.ok.bsz I.sz, I.stack, I.stkFree, I.hok, I.bare⟩
theorem Inv.after {Q : VK} {u : Value} (I : Inv X pins σ H s) (h : CE X.stack X.prog X.w H s Q u s') : EP X pins σ Q u s' := by
  obtain ⟨v, H', os, bare, un, hok, r, q⟩ := h
  obtain ⟨hh, g, d, t, os'⟩ := s'
  obtain rfl : os' = s.os := os
  exact ⟨v, H', I.call (h' := hh) (g' := g) (d' := d) (t' := t) (ch := []) un hok bare (fun b z => absurd z (by simp)), r, q⟩
end
def tCall (sp : Sp) (dvs : List V) (E : XK) (t : TA) : TE := fun σ H Q => t σ H fun vs H1 => sp (vs ++ dvs) H1 Q E
def Binds (K : PySem.W.Frag) (fd : FuncData) (ps : List Str) (ds : List Value) : Prop :=
  ∀ (s : Shared) (us : List Value), K.In s.heap → (us ++ ds).length = ps.length → BindsTo s fd ⟨us, []⟩ (ps.zip (us ++ ds))
theorem Binds.all {K : PySem.W.Frag} {fd : FuncData} {ps : List Str} (h : ∀ us : List Value, us.length = ps.length → bindArgs fd ⟨us, []⟩ = pure (ps.zip us)) : Binds K fd ps [] := fun s us _ hl => by
  rw [List.append_nil] at hl ⊢
  exact .of_eq (h us hl)
def Passes (CX : CXT) (X : Cx) (E : XK) : Prop := ∀ (pins : List (Addr × Obj)) (σ : St) (H : Hp) (s : Shared) (e : Value) (s' : Shared), Inv X pins σ H s → CX X.stack H s E e s' → X.xe e s'
section
variable {X : Cx} {CX : CXT} {k : Nat} {f C : Addr} {fd : FuncData} {ps : List Str} {sp : Sp} {dvs : List V} {ds : List Value} {E : XK} {x m : Str} {p pos apos : Pos} {e o : Expr} {es : List Expr} {ta : TE} {t : TA}
theorem run_fn {pins : List (Addr × Obj)} {σ : St} {H : Hp} {s : Shared} {Q : VK} {us : List Value} {vs : List V} (F : FnOk X.prog X.w X.K X.mg X.base CX k f fd ps sp) (hr : Room k X.A) (hb : Binds X.K fd ps ds) (hd : Vals dvs ds) (hx : Passes CX X E)
    (I : Inv X pins σ H s) (r : Vals vs us) (h : sp (vs ++ dvs) H Q E) : wpAny (model X.prog X.w) X.A (call (.ref f) us) (EP X pins σ Q) X.xe s := by
  have r2 : Vals (vs ++ dvs) (us ++ ds) := r.append hd
  have hl : (us ++ ds).length = ps.length := by rw [← r2.length]; exact F.len _ _ _ _ h
  refine wpAny_call (codeAny_mono (F.run X.A X.stack s H ⟨us, []⟩ (us ++ ds) (vs ++ dvs) Q E hr I.env0 (hb s us I.kIn hl) r2 h) fun r s' hq => ?_)
  cases r with
  | error e => exact hx pins σ H s e s' I hq
  | ok fl =>
    cases fl with
    | ret u => exact I.after hq
    | next => exact False.elim hq
    | brk => exact False.elim hq
    | cont => exact False.elim hq
theorem pe_call (F : FnOk X.prog X.w X.K X.mg X.base CX k f fd ps sp) (hr : Room k X.A) (hg : Gl X x) (hm : X.mg x = some (.ref f)) (hk : PySem.W.keepIn X.K (.ref f) = true) (hb : Binds X.K fd ps ds) (hd : Vals dvs ds) (hx : Passes CX X E)
    (ha : PA X (e :: es) t) (hdb : (x == ("__debug__" : Str)) = false := by decide) (he : starEach (e :: es) X.env = (false, eval e X.env) :: starEach es X.env := by rfl) (hpl : (backTo pos (starEach es X.env)).any (·.1) = false := by rfl) :
    PE X (.Call (.Name x p) (e :: es) [] pos) (tCall sp dvs E t) := by
  intro pins s σ H Q I h
  refine wpAny_Call_Name_kw (ld_glob I hg hm ?_ hdb)
  refine PySem.W.callWith_K (h₀ := X.base) I.ok.mod.kin hk (thn (ha pos pins s σ H _ I h) fun us s1 ⟨vs, H1, I1, r, q⟩ => ⟨I1.kIn, ?_⟩) he hpl
  exact run_fn F hr hb hd hx I1 r q
structure Mk (K : PySem.W.Frag) (C f : Addr) : Prop where
  makes : PySem.W.makesIn K C = true
  init : PySem.W.findIn K (.ref C) "__init__" = some (some (.ref f))
  fn : PySem.W.isFn K (.ref f) = true
  kp : PySem.W.keepIn K (.ref C) = true
end
section
variable {X : Cx} {CX : CXT} {k : Nat} {f C : Addr} {fd : FuncData} {ps ks : List Str} {sp : Sp} {E : XK} {x m : Str} {p pos apos kpos : Pos} {e o : Expr} {es : List Expr} {kws : List Keyword} {te ta : TE} {t tk : TA} {nm : Option Str}
structure KBinds (K : PySem.W.Frag) (fd : FuncData) (ps ks : List Str) (g : List Value → List Value → List Value) (gV : List V → List V → List V) : Prop where
  to : ∀ (s : Shared) (us ws : List Value), K.In s.heap → (g us ws).length = ps.length → BindsTo s fd ⟨us, ks.zip ws⟩ (ps.zip (g us ws))
  rel : ∀ {vs : List V} {us : List Value} {zs : List V} {ws : List Value}, Vals vs us → Vals zs ws → Vals (gV vs zs) (g us ws)
variable {g : List Value → List Value → List Value} {gV : List V → List V → List V}
end
structure FnScope (N P : List Str) (sc : Scope) : Prop where
  kind : sc.kind = .function
  co : sc.isCoroutine = false
  gen : sc.isGenerator = false
  nd : N.Nodup
  pre : N.take P.length = P
  par : ∀ x ∈ P, sc.names.lookup x = some .local ∨ sc.names.lookup x = some .cell
  nofree : ∀ y ∈ sc.names, y.2 ≠ .free
theorem bindL_out {kindOf : Str → Option NameKind} {x : Str} : ∀ {binds : List (Str × Value)} {m : Str → Option Value}, (∀ v, (x, v) ∉ binds) → bindL kindOf binds m x = m x
  | [], _, _ => rfl
  | (n, v) :: r, m, h => by
    unfold bindL
    rw [bindL_out fun w hw => h w (List.mem_cons_of_mem _ hw)]
    split
    · have : x ≠ n := by rintro rfl; exact h v List.mem_cons_self
      simp [this]
    · rfl
theorem bindC_out {kindOf : Str → Option NameKind} {x : Str} : ∀ {binds : List (Str × Value)} {m : Str → Option Value}, (∀ v, (x, v) ∉ binds) → bindC kindOf binds m x = m x
  | [], _, _ => rfl
  | (n, v) :: r, m, h => by
    unfold bindC
    rw [bindC_out fun w hw => h w (List.mem_cons_of_mem _ hw)]
    split
    · rfl
    · have : x ≠ n := by rintro rfl; exact h v List.mem_cons_self
      simp [this]
theorem bindL_get {kindOf : Str → Option NameKind} {x : Str} {v : Value} : ∀ {P : List Str} {vs : List Value} {i : Nat} {m : Str → Option Value}, P.Nodup → P[i]? = some x → vs[i]? = some v → kindOf x = some .local →
    bindL kindOf (P.zip vs) m x = some v
  | [], _, _, _, _, h, _, _ => by simp at h
  | _ :: _, [], _, _, _, _, h, _ => by simp at h
  | p :: P, w :: vs, 0, m, nd, h1, h2, hk => by
    simp at h1 h2; subst h1; subst h2
    show bindL kindOf ((p, w) :: P.zip vs) m p = _
    unfold bindL
    rw [bindL_out fun v hv => (List.nodup_cons.mp nd).1 (List.of_mem_zip hv).1, if_pos hk]
    simp
  | p :: P, w :: vs, i + 1, m, nd, h1, h2, hk => by
    show bindL kindOf ((p, w) :: P.zip vs) m x = _
    unfold bindL
    exact bindL_get (i := i) (List.nodup_cons.mp nd).2 (by simpa using h1) (by simpa using h2) hk
theorem bindC_get {kindOf : Str → Option NameKind} {x : Str} {v : Value} : ∀ {P : List Str} {vs : List Value} {i : Nat} {m : Str → Option Value}, P.Nodup → P[i]? = some x → vs[i]? = some v → kindOf x ≠ some .local →
    bindC kindOf (P.zip vs) m x = some v
  | [], _, _, _, _, h, _, _ => by simp at h
  | _ :: _, [], _, _, _, _, h, _ => by simp at h
  | p :: P, w :: vs, 0, m, nd, h1, h2, hk => by
    simp at h1 h2; subst h1; subst h2
    show bindC kindOf ((p, w) :: P.zip vs) m p = _
    unfold bindC
    rw [bindC_out fun v hv => (List.nodup_cons.mp nd).1 (List.of_mem_zip hv).1, if_neg hk]
    simp
  | p :: P, w :: vs, i + 1, m, nd, h1, h2, hk => by
    show bindC kindOf ((p, w) :: P.zip vs) m x = _
    unfold bindC
    exact bindC_get (i := i) (List.nodup_cons.mp nd).2 (by simpa using h1) (by simpa using h2) hk
def start (N : List Str) (vs : List V) : St := vs.map some ++ List.replicate (N.length - vs.length) none
def cxOf (CX : CXT) (P : Program) (w : World) (K : PySem.W.Frag) (mg : Str → Option Value) (base : Heap) (N : List Str) (qual : Str) (scope : Scope) (f : Addr) (cd : Value) (A : Around) (outer : List Env) (s : Shared) (H : Hp) (E : XK) : Cx where
  prog := P
  w := w
  K := K
  mg := mg
  base := base
  A := A.deeper (envOfC qual scope s.heap.objs.size f cd)
  N := N
  s₀ := s
  H₀ := H
  env := envOfC qual scope s.heap.objs.size f cd
  outer := outer
  stack := envOfC qual scope s.heap.objs.size f cd :: outer
  ex := []
  calm := true
  fn := fun _ => true
  pn := []
  xe := fun e s' => wpAny (model P w) (A.deeper (envOfC qual scope s.heap.objs.size f cd)) (leaving (envOfC qual scope s.heap.objs.size f cd) e) (fun _ s'' => CX outer H s E e s'') (fun e' s'' => CX outer H s E e' s'') s'
theorem cell_has {sc : Scope} {n : Nat} {x : Str} (h : sc.names.lookup x = some .cell) : ∃ c, (cellsFrom n sc.names []).lookup x = some c := by
  have q := PySem.W.cellsFrom_some sc.names n [] (.inl h)
  exact Option.isSome_iff_exists.mp q
theorem inv_start {CX : CXT} {P : Program} {w : World} {K : PySem.W.Frag} {mg : Str → Option Value} {base : Heap} {N ps : List Str} {qual : Str} {scope : Scope} {f : Addr} {cd : Value} {A : Around} {outer : List Env} {s s1 : Shared} {H : Hp} {E : XK} {us : List Value} {vs : List V}
    (S : FnScope N ps scope) (hd : A.handled = none) (e0 : Env0 P w K mg base A outer s H) (hl : vs.length = ps.length) (r : Vals vs us)
    (x : InCallC s s.heap.objs.size (bindL (envOfC qual scope s.heap.objs.size f cd).kindOf (ps.zip us) fun _ => none) (cellsFrom (s.heap.objs.size + 1) scope.names []) (bindC (envOfC qual scope s.heap.objs.size f cd).kindOf (ps.zip us) fun _ => none) s1) :
    Inv (cxOf CX P w K mg base N qual scope f cd A outer s H E) [] (start N vs) H s1 := by
  have hpl : ps.length ≤ N.length := by have := congrArg List.length S.pre; rw [List.length_take] at this; omega
  obtain ⟨h1, tk, rfl, hk⟩ := x.done
  have noA : ∀ b : Addr, b ∉ (cxOf CX P w K mg base N qual scope f cd A outer s H E).ex := fun b z => absurd (show b ∈ ([] : List Addr) from z) (by simp)
  refine ⟨⟨e0.mod, S.kind, rfl, rfl, Nat.le_refl _, fun y z c h1 h2 => ?_, fun y hy => ?_, fun y c _ h => ?_, fun _ => hd, Around.frames_deeper e0.frames, .inr ⟨rfl, rfl⟩, fun b z => absurd z (noA b), e0.bs, e0.bsz, fun b _ _ => noA b, fun b z => absurd z (noA b), e0.funs, e0.frf⟩,
    rfl, e0.bare, Un.kept hk, ⟨_, x.toInCall.ns, fun i y v h1 h2 h3 => ?_⟩, fun y c h => ⟨_, x.cell y c h⟩, e0.hok.fresh (Nat.le_refl _), fun y c h => ?_, fun p hp => absurd (show p ∈ ([] : List (Addr × Obj)) from hp) (by simp), e0.hok.kept hk, ?_⟩
  · exact name_of_addr x.apart (PySem.mem_of_lookup h1) (PySem.mem_of_lookup h2)
  · have hy : scope.names.lookup y = some .cell ∨ scope.names.lookup y = some .free := hy
    rcases hy with hy | hy
    · exact cell_has hy
    · exact absurd rfl (S.nofree _ (PySem.mem_of_lookup hy))
  · exact Nat.le_of_lt (x.above y c (PySem.mem_of_lookup h))
  · have hi : i < vs.length := by
      unfold start at h2
      by_cases hi : i < vs.length
      · exact hi
      · rw [List.getElem?_append_right (by simpa using hi)] at h2
        rw [List.getElem?_replicate] at h2
        split at h2 <;> cases h2
    have ha : vs[i]? = some v := by
      unfold start at h2
      rw [List.getElem?_append_left (by simpa using hi), List.getElem?_map] at h2
      cases e : vs[i]? with
      | none => rw [e] at h2; cases h2
      | some a => rw [e] at h2; cases h2; rfl
    obtain ⟨u, hu, rv⟩ := r.get ha
    have hp : ps[i]? = some y := by
      rw [← S.pre, List.getElem?_take_of_lt (by omega)]; exact h1
    have ndP : ps.Nodup := by rw [← S.pre]; exact S.nd.sublist (List.take_sublist _ _)
    refine ⟨u, rv, ?_⟩
    rcases S.par y (List.mem_of_getElem? hp) with k | k
    · exact .inl ⟨k, bindL_get ndP hp hu k⟩
    · obtain ⟨c, e⟩ := cell_has (n := s.heap.objs.size + 1) k
      refine .inr ⟨.inl k, c, e, ?_⟩
      have q := x.cell y c e
      rw [bindC_get ndP hp hu (by show scope.names.lookup y ≠ _; rw [k]; decide)] at q
      exact q
  · exact e0.hok.fresh (Nat.le_of_lt (x.above y c (PySem.mem_of_lookup h)))
  · unfold start
    show _ = N.length
    rw [List.length_append, List.length_map, List.length_replicate]
    omega
theorem fn_of {CX : CXT} {P : Program} {w : World} {K : PySem.W.Frag} {mg : Str → Option Value} {base : Heap} {k : Nat} {f : Addr} {name qual : Str} {params : Arguments} {body : List Stmt} {scope : Scope} {dV kV doc pm cdv ct oc : Value} {an od : Option Addr}
    {osl : Array (Option Value)} {N ps : List Str} {sp : Sp} (lk : K.lookup f = some ⟨oc, od, .func (PySem.W.fnOf name qual params body scope dV kV doc pm an cdv ct), osl⟩) (hcd : PySem.W.codeIn K cdv qual = true) (S : FnScope N ps scope)
    (len : ∀ vs H Q E, sp vs H Q E → vs.length = ps.length)
    (hbody : ∀ (A : Around) (outer : List Env) (s : Shared) (H : Hp) (vs : List V) (Q : VK) (E : XK), Room k (A.deeper (envOfC qual scope s.heap.objs.size f cdv)) → sp vs H Q E →
      ∃ t, PSs (cxOf CX P w K mg base N qual scope f cdv A outer s H E) body t ∧ t { nx := fun _ H' => Q .non H', rt := Q } (start N vs) H) :
    FnOk P w K mg base CX (k + 1) f (PySem.W.fnOf name qual params body scope dV kV doc pm an cdv ct) ps sp := by
  refine ⟨len, fun A outer s H args us vs Q E hr e0 hb r hsp => ?_⟩
  have hl := len _ _ _ _ hsp
  have KX : K.In s.heap := e0.mod.kin.keeps fun b o e => (e0.bs b o e).1
  have lim : s.heap.NoLimit := e0.mod.nolimit.keeps fun b o e => (e0.bs b o e).1
  have hkind : ∀ y ∈ ps.zip us, scope.names.lookup y.1 = some .local ∨ (scope.names.lookup y.1 = some .cell ∧ ((cellsFrom (s.heap.objs.size + 1) scope.names []).lookup y.1).isSome = true) := fun ⟨n, v⟩ hy => by
    rcases S.par n (List.of_mem_zip hy).1 with q | q
    · exact .inl q
    · exact .inr ⟨q, PySem.W.cellsFrom_some _ _ _ (.inl q)⟩
  refine codeAny_call_function hr.depth (KX _ _ lk) rfl S.co S.gen rfl (PySem.W.codeRec_of KX hcd) (hb _ _ _ _ ?_)
  refine wpAny_newFunctionEnv_cells S.kind hkind fun env he s1 x => ?_
  subst he
  refine ⟨lim.keeps x.toInCall.keep, codeAny_func ?_⟩
  obtain ⟨t, ht, hq⟩ := hbody A outer s H vs Q E (hr.deeper _) hsp
  have I : Inv (cxOf CX P w K mg base N qual scope f cdv A outer s H E) [] (start N vs) H s1 := inv_start S hr.hd e0 hl r x
  refine wpAny_mono (ht [] s1 (start N vs) H _ I hq) (fun fl s' hs => ?_) fun e s' hs => hs
  have fin : ∀ {σ' : St} {H' : Hp} {v : V} {u : Value}, Inv (cxOf CX P w K mg base N qual scope f cdv A outer s H E) [] σ' H' s' → RelV v u → Q v H' → CE outer P w H s Q u s' :=
    fun {σ' H' v u} J rv q => ⟨v, H', J.os, J.bare, J.base, J.hok, rv, q⟩
  cases fl with
  | ret u =>
    obtain ⟨v, σ', H', J, rv, q⟩ := hs
    exact fin J rv q
  | next =>
    obtain ⟨σ', H', J, q⟩ := hs
    exact fin (v := V.non) (u := Value.none) J rfl q
  | brk =>
    obtain ⟨_, _, _, q⟩ := hs
    exact False.elim q
  | cont =>
    obtain ⟨_, _, _, q⟩ := hs
    exact False.elim q
end L2
namespace L2
open PySem PySem.Spec PyProof.Rows
section
variable {X : Cx} {x : Str} {p pos : Pos} {e : Expr} {es : List Expr} {t : TA} {id T : String} {r : List V → Hp → VK → Prop}
def tCB (r : List V → Hp → VK → Prop) (t : TA) : TE := fun σ H Q => t σ H fun vs H1 => r vs H1 Q
theorem pe_callB (hc : CallR X (.builtin id) r) (hg : Gl X x) (hm : X.mg x = none) (hv : bootBuiltins x = some (.builtin id)) (ha : PA X (e :: es) t) (hn : x ≠ "__name__" := by decide) (hdb : (x == ("__debug__" : Str)) = false := by decide)
    (he : starEach (e :: es) X.env = (false, eval e X.env) :: starEach es X.env := by rfl) (hpl : (backTo pos (starEach es X.env)).any (·.1) = false := by rfl) : PE X (.Call (.Name x p) (e :: es) [] pos) (tCB r t) := by
  intro pins s σ H Q I h
  refine wpAny_Call_Name_kw (ld_blt I hg hm hv ?_ hn hdb)
  exact PyProof.Rows.callWith_builtin1 (thn (ha pos pins s σ H _ I h) fun us s1 ⟨vs, H1, I1, r1, q1⟩ => hc pins s1 σ H1 vs us Q I1 r1 q1) he hpl
theorem pe_callTy (hc : CallR X (.type T) r) (hg : Gl X x) (hm : X.mg x = none) (hv : bootBuiltins x = some (.type T)) (ha : PA X (e :: es) t) (hn : x ≠ "__name__" := by decide) (hdb : (x == ("__debug__" : Str)) = false := by decide)
    (he : starEach (e :: es) X.env = (false, eval e X.env) :: starEach es X.env := by rfl) (hpl : (backTo pos (starEach es X.env)).any (·.1) = false := by rfl) : PE X (.Call (.Name x p) (e :: es) [] pos) (tCB r t) := by
  intro pins s σ H Q I h
  refine wpAny_Call_Name_kw (ld_blt I hg hm hv ?_ hn hdb)
  exact PyProof.Rows.callWith_type1 (thn (ha pos pins s σ H _ I h) fun us s1 ⟨vs, H1, I1, r1, q1⟩ => hc pins s1 σ H1 vs us Q I1 r1 q1) he hpl
end
end L2
namespace HT
open PySem PyProof.Rows
section
open PySem.SeqAt
open PySem.AutoSeq1 (wpAny_loadPart')
open PySem.MeetsSeq PySem.MeetsSeq2 PySem.MeetsSeq3
end
section
variable {prog : Program} {w : World} {A : Around} {E : Value → Shared → Prop} {s : Shared}
theorem cat_tup {t b : Addr} {vs ws : List Value} {Q : Value → Shared → Prop} (ht : IsTup s.heap t vs.toArray) (hb : IsTup s.heap b ws.toArray) (hv : vs ≠ [])
    (h1 : ws = [] → Q (.ref t) s) (h2 : ws ≠ [] → Q (.ref s.heap.objs.size) { s with heap := s.heap.push { cls := .type "tuple", data := .seq (vs ++ ws).toArray } })
    (hsz : vs.length + ws.length ≤ sizeLine) : wpAny (model prog w) A (binaryOp .Add (.ref t) (.ref b)) Q E s := by
  obtain ⟨⟨cls, dd, data, sl⟩, ho, hc, n, hd⟩ := id ht
  obtain ⟨⟨cls2, dd2, data2, sl2⟩, ho2, hc2, n2, hd2⟩ := id hb
  simp only at hc hd hc2 hd2
  subst hc hd hc2 hd2
  have e : vs.toArray ++ ws.toArray = (vs ++ ws).toArray := by simp
  by_cases hw : ws = []
  · exact concat_meets ⟨_, ho, rfl⟩ ⟨_, ho2, rfl⟩ noFill_tuple_add seq_tuple_add PySem.F.slot_tuple_add PySem.F.entry_tuple_add (PySem.F.args_tuple_add_2 _ _)
      (tuple_addW1 t b vs.toArray ws.toArray n n2 dd dd2 sl sl2 (by simpa using hv) (by simp [hw])) ⟨ho, ho2, h1 hw⟩
  · refine concat_meets ⟨_, ho, rfl⟩ ⟨_, ho2, rfl⟩ noFill_tuple_add seq_tuple_add PySem.F.slot_tuple_add PySem.F.entry_tuple_add (PySem.F.args_tuple_add_2 _ _)
      (tuple_addW2 t b vs.toArray ws.toArray n n2 dd dd2 sl sl2 (by simpa using hv) (by simpa using hw) (by rw [List.size_toArray, List.size_toArray]; exact hsz)) ⟨ho, ho2, ?_⟩
    rw [e]
    exact h2 hw
def sIx (n d : Nat) : Option Int → Nat
  | none => d
  | some v => if v < 0 then (v + (n : Int)).toNat else min v.toNat n
theorem sIx_nat (n d k : Nat) : sIx n d (some (k : Int)) = min k n := by
  show (if (k : Int) < 0 then ((k : Int) + (n : Int)).toNat else min (k : Int).toNat n) = min k n
  rw [if_neg (by omega), Int.toNat_natCast]
end
end HT
namespace L2
open PySem PySem.Spec PyProof.Rows
abbrev TO := St → Hp → (Option Int → Hp → Prop) → Prop
def PO (X : Cx) (e : Option Expr) (t : TO) : Prop :=
  ∀ (pins : List (Addr × Obj)) (s : Shared) (σ : St) (H : Hp) (Q : Option Int → Hp → Prop), Inv X pins σ H s → t σ H Q →
    wpAny (model X.prog X.w) X.A (evalPart e X.env) (fun u s' => ∃ o H', Inv X pins σ H' s' ∧ IsPart u o ∧ Q o H') X.xe s
def tNoPart : TO := fun _ H Q => Q none H
def tPart (t : TE) : TO := fun σ H Q => t σ H fun x H1 => ∃ i, x = .int i ∧ Q (some i) H1
section
variable {X : Cx} {e : Expr} {te : TE} {lo hi : Option Expr} {tl th : TO} {pos p2 : Pos}
theorem po_none : PO X none tNoPart := by
  intro pins s σ H Q I h
  rw [evalPart_none]
  exact wpAny_pure ⟨none, H, I, .none, h⟩
theorem po_some (h : PE X e te) : PO X (some e) (tPart te) := by
  intro pins s σ H Q I hw
  rw [evalPart_some]
  refine thn (h pins s σ H _ I hw) fun u s1 ⟨x, H1, I1, r1, q1⟩ => ?_
  obtain ⟨i, rfl, q⟩ := q1
  obtain ⟨t, rfl⟩ := r1
  exact ⟨some i, H1, I1, .int i t, q⟩
def SlR (X : Cx) (r : V → Option Int → Option Int → Hp → VK → Prop) : Prop :=
  ∀ (pins : List (Addr × Obj)) (s : Shared) (σ : St) (H : Hp) (x : V) (v vl vu : Value) (lo hi : Option Int) (sl : Addr) (Q : VK), Inv X pins σ H s → RelV x v → s.heap.IsSliceOf sl vl vu .none → IsPart vl lo → IsPart vu hi → r x lo hi H Q →
    ∃ T id, typeLookup (.type T) "__getitem__" = pure (some (.builtin id)) ∧ s.TypeIs v T ∧ wpAny (model X.prog X.w) X.A (getItem v (.ref sl)) (EP X pins σ Q) X.xe s
theorem SlR.or {r r' : V → Option Int → Option Int → Hp → VK → Prop} (h : SlR X r) (h' : SlR X r') : SlR X (fun x lo hi H Q => r x lo hi H Q ∨ r' x lo hi H Q) := by
  intro pins s σ H x v vl vu lo hi sl Q I rx hs pl pu q
  rcases q with q | q
  · exact h pins s σ H x v vl vu lo hi sl Q I rx hs pl pu q
  · exact h' pins s σ H x v vl vu lo hi sl Q I rx hs pl pu q
def tSl (r : V → Option Int → Option Int → Hp → VK → Prop) (te : TE) (tl th : TO) : TE := fun σ H Q => te σ H fun x H1 => tl σ H1 fun l H2 => th σ H2 fun u H3 => r x l u H3 Q
theorem pe_slice {r : V → Option Int → Option Int → Hp → VK → Prop} (hr : SlR X r) (he : PE X e te) (hl : PO X lo tl) (hu : PO X hi th) : PE X (.Subscript e (.Slice lo hi none p2) pos) (tSl r te tl th) := by
  intro pins s σ H Q I h
  refine Subscript_ (thn (he pins s σ H _ I h) fun v s1 ⟨x, H1, I1, r1, q1⟩ => ?_)
  refine wpAny_Slice (thn (hl pins s1 σ H1 _ I1 q1) fun vl s2 ⟨l, H2, I2, pl, q2⟩ => thn (hu pins s2 σ H2 _ I2 q2) fun vu s3 ⟨u, H3, I3, pu, q3⟩ => ?_)
  rw [evalPart_none]
  refine wpAny_pure ?_
  have I4 : Inv X pins σ H3 { s3 with heap := s3.heap.push { cls := .type "slice", data := .fields #[vl, vu, .none] } } := I3.kept (t' := s3.toks) fun b ob q => Heap.get?_push_of_some _ q
  obtain ⟨T, id, hT, ht, hg⟩ := hr pins { s3 with heap := s3.heap.push { cls := .type "slice", data := .fields #[vl, vu, .none] } } σ H3 x v vl vu l u s3.heap.objs.size Q I4 r1 (Heap.IsSliceOf.new ..) pl pu q3
  show wpAny (model X.prog X.w) X.A (subscriptTail e (.Slice lo hi none p2) v (.ref s3.heap.objs.size)) (EP X pins σ Q) X.xe { s3 with heap := s3.heap.push { cls := .type "slice", data := .fields #[vl, vu, .none] } }
  exact tail_any (ops := [.ref s3.heap.objs.size, v]) ht hT hg (by with_unfolding_all rfl)
def cutV (xs : List V) (lo hi : Option Int) : List V := (xs.drop (HT.sIx xs.length 0 lo)).take (HT.sIx xs.length xs.length hi - HT.sIx xs.length 0 lo)
theorem cutV_length (xs : List V) (lo hi : Option Int) : (cutV xs lo hi).length ≤ xs.length := by
  unfold cutV
  rw [List.length_take, List.length_drop]
  omega
def rCatT (K : PySem.W.Frag) : R2 := fun x y H Q => ∃ a b xs ys, x = .ref a ∧ y = .ref b ∧ SqT K H a xs ∧ SqT K H b ys ∧ xs ≠ [] ∧ xs.length + ys.length ≤ sizeLine ∧
  (ys = [] → Q (.ref a) H) ∧ (ys ≠ [] → ∀ p, H p = none → Q (.ref p) (upd H p (.tup (xs ++ ys))))
theorem Vals.nil_iff {xs : List V} {us : List Value} (r : Vals xs us) : us = [] ↔ xs = [] := by
  cases r with
  | nil => simp
  | cons _ _ => simp
theorem op_catT : OpR X (binaryOp .Add) (rCatT X.K) := by
  intro pins s σ H x y v u Q I rx ry h
  obtain ⟨a, b, xs, ys, rfl, rfl, ha, hb, hx, hz, q1, q2⟩ := h
  cases rx
  cases ry
  obtain ⟨its, r1, p1, _⟩ := I.tuple ha
  obtain ⟨its2, r2, p2, _⟩ := I.tuple hb
  refine HT.cat_tup p1 p2 (fun z => hx (r1.nil_iff.mp z)) (fun z => ⟨.ref a, H, I, rfl, q1 (r2.nil_iff.mp z)⟩) (fun z => ?_) (by rw [← r1.length, ← r2.length]; exact hz)
  refine ⟨.ref s.heap.objs.size, _, I.laid (t' := s.toks) (o := .tup (xs ++ ys)) (fun b ob q => Heap.get?_push_of_some _ q) (Nat.le_refl _) ?_, rfl, q2 (fun w => z (r2.nil_iff.mpr w)) _ (I.hok.fresh (Nat.le_refl _))⟩
  exact ⟨by rw [List.length_append]; exact hz, _, r1.append r2, IsTup.new _ _⟩
end
end L2
namespace L2
open PySem PySem.Spec PyProof.Rows
def ixN (n : Nat) (i : Int) : Option Nat := if 0 ≤ i then (if i < n then some i.toNat else none) else if -(n : Int) ≤ i then some (i + n).toNat else none
def atI {α : Type} (xs : List α) (i : Int) : Option α := (ixN xs.length i).bind fun j => xs[j]?
theorem ixN_seq {n : Nat} {i : Int} {j : Nat} (h : ixN n i = some j) : seqIndex? i n = some j ∧ j < n ∧ -(n : Int) ≤ i ∧ i < n := by
  unfold ixN at h
  by_cases h0 : 0 ≤ i
  · rw [if_pos h0] at h
    by_cases h1 : i < n
    · rw [if_pos h1] at h
      have e : i.toNat = j := Option.some.inj h
      exact ⟨by rw [seqIndex_of h0 h1, e], by omega, by omega, h1⟩
    · rw [if_neg h1] at h; cases h
  · rw [if_neg h0] at h
    by_cases h1 : -(n : Int) ≤ i
    · rw [if_pos h1] at h
      have e : (i + n).toNat = j := Option.some.inj h
      exact ⟨by rw [seqIndex_neg (by omega) h1, e], by omega, h1, by omega⟩
    · rw [if_neg h1] at h; cases h
theorem atI_get {α : Type} {xs : List α} {i : Int} {v : α} (h : atI xs i = some v) : ∃ j, seqIndex? i xs.length = some j ∧ xs[j]? = some v ∧ j < xs.length ∧ -(xs.length : Int) ≤ i ∧ i < xs.length := by
  unfold atI at h
  cases e : ixN xs.length i with
  | none => rw [e] at h; cases h
  | some j =>
    rw [e] at h
    obtain ⟨h1, h2, h3, h4⟩ := ixN_seq e
    exact ⟨j, h1, h, h2, h3, h4⟩
theorem atI_last {α : Type} (xs : List α) (v : α) : atI (xs ++ [v]) (-1) = some v := by
  have hl : (xs ++ [v]).length = xs.length + 1 := by simp
  have e : ixN (xs ++ [v]).length (-1) = some xs.length := by
    unfold ixN
    rw [hl, if_neg (by decide), if_pos (by omega)]
    congr 1
    omega
  unfold atI
  rw [e]
  show (xs ++ [v])[xs.length]? = some v
  simp
def PlainIx (b : Expr) : Prop := ∀ o i, subscripted b false o i = operate [o, i] (getItem o i)
def IxR (X : Cx) (r : R2) : Prop :=
  ∀ (value slice : Expr) (pins : List (Addr × Obj)) (s : Shared) (σ : St) (H : Hp) (x y : V) (v u : Value) (Q : VK), Inv X pins σ H s → RelV x v → RelV y u → r x y H Q →
    subscripted slice false v u = operate [v, u] (getItem v u) → wpAny (model X.prog X.w) X.A (subscriptTail value slice v u) (EP X pins σ Q) X.xe s
def MtR (X : Cx) (id : String) (r : V → List V → Hp → VK → Prop) : Prop :=
  ∀ (pins : List (Addr × Obj)) (s : Shared) (σ : St) (H : Hp) (x : V) (xs : List V) (v : Value) (us : List Value) (Q : VK), Inv X pins σ H s → RelV x v → Vals xs us → r x xs H Q →
    wpAny (model X.prog X.w) X.A (call (.builtin id) (v :: us)) (EP X pins σ Q) X.xe s
section
variable {X : Cx} {a b : Expr} {ta tb : TE} {pos : Pos}
theorem IxR.or {r r' : R2} (h : IxR X r) (h' : IxR X r') : IxR X (fun x y H Q => r x y H Q ∨ r' x y H Q) := by
  intro value slice pins s σ H x y v u Q I rx ry q hs
  rcases q with q | q
  · exact h value slice pins s σ H x y v u Q I rx ry q hs
  · exact h' value slice pins s σ H x y v u Q I rx ry q hs
theorem MtR.or {id : String} {r r' : V → List V → Hp → VK → Prop} (h : MtR X id r) (h' : MtR X id r') : MtR X id (fun x xs H Q => r x xs H Q ∨ r' x xs H Q) := by
  intro pins s σ H x xs v us Q I rx rs q
  rcases q with q | q
  · exact h pins s σ H x xs v us Q I rx rs q
  · exact h' pins s σ H x xs v us Q I rx rs q
theorem pe_ix {r : R2} (hr : IxR X r) (ha : PE X a ta) (hb : PE X b tb) (hs : PlainIx b) : PE X (.Subscript a b pos) (tOp r ta tb) := by
  intro pins s σ H Q I h
  exact Subscript_ (binT ha hb I h fun v u s2 x y H2 I2 rx ry q => hr a b pins s2 σ H2 x y v u Q I2 rx ry q (hs _ _))
def rIxL (K : PySem.W.Frag) : R2 := fun x y H Q => ∃ p xs i v, x = .ref p ∧ y = .int i ∧ SqL K H p xs ∧ atI xs i = some v ∧ Q v H
def rIxT (K : PySem.W.Frag) : R2 := fun x y H Q => ∃ p xs i v, x = .ref p ∧ y = .int i ∧ SqT K H p xs ∧ atI xs i = some v ∧ Q v H
def rIxS : R2 := fun x y H Q => ∃ z i c, x = .str z ∧ y = .int i ∧ z.length ≤ sizeLine ∧ atI z.cps.toList i = some c ∧ Q (.str ⟨#[c]⟩) H
theorem ix_list : IxR X (rIxL X.K) := by
  intro value slice pins s σ H x y v u Q I rx ry h hs
  obtain ⟨p, xs, i, z, rfl, rfl, hq, he, q⟩ := h
  cases rx
  obtain ⟨t, rfl⟩ := ry
  obtain ⟨its, r, pl, hz⟩ := I.list hq
  obtain ⟨j, h1, h2, h3, h4, h5⟩ := atI_get he
  obtain ⟨w, ew, rw'⟩ := r.get h2
  have hl := r.length
  have hn := line63
  have fin : EP X pins σ Q w s := ⟨z, H, I, rw', q⟩
  by_cases h0 : 0 ≤ i
  · have hj : i.toNat = j := by
      rw [seqIndex_of h0 h5] at h1
      exact Option.some.inj h1
    exact item_listR pl.isList h0 (by omega) (by rw [hj]; simpa using ew) fin hs
  · have hj : (i + (its.toArray.size : Int)).toNat = j := by
      rw [seqIndex_neg (by omega) h4] at h1
      rw [List.size_toArray, ← hl]
      exact Option.some.inj h1
    exact subscriptTail_builtinR (x := w) pl.isList.typeIs slot_list_getitem.lookup
      (wpAny_getItem_list_neg (Q := fun r s' => r = w ∧ EP X pins σ Q r s') pl.isList (by omega) (by rw [List.size_toArray] <;> omega) (by omega) (by rw [hj]; simpa using ew) ⟨rfl, fin⟩) hs
theorem ix_tup : IxR X (rIxT X.K) := by
  intro value slice pins s σ H x y v u Q I rx ry h hs
  obtain ⟨p, xs, i, z, rfl, rfl, hq, he, q⟩ := h
  cases rx
  obtain ⟨t, rfl⟩ := ry
  obtain ⟨its, r, pl, hz⟩ := I.tuple hq
  obtain ⟨j, h1, h2, h3, h4, h5⟩ := atI_get he
  obtain ⟨w, ew, rw'⟩ := r.get h2
  have hl := r.length
  have hn := line63
  have fin : EP X pins σ Q w s := ⟨z, H, I, rw', q⟩
  exact subscriptTail_builtinR (x := w) pl.typeIs slot_tuple_getitem.lookup
    (getItem_tuple (j := j) (Q := fun r s' => r = w ∧ EP X pins σ Q r s') pl (by omega) (by omega) (by rw [List.size_toArray, ← hl]; exact h1) (by simpa using ew) ⟨rfl, fin⟩) hs
theorem ix_str : IxR X rIxS := by
  intro value slice pins s σ H x y v u Q I rx ry h hs
  obtain ⟨z, i, c, rfl, rfl, hz, he, q⟩ := h
  obtain ⟨t, rfl⟩ := rx
  obtain ⟨t', rfl⟩ := ry
  obtain ⟨j, h1, h2, h3, h4, h5⟩ := atI_get he
  have hl : z.cps.toList.length = z.length := by simp [Str.length]
  rw [hl] at h1 h4 h5
  have hn := line63
  exact tail_any (typeIs_str s z t) slot_str_getitem.lookup (getItem_str (c := c) (by
    have e1 : decide (i < -(2 ^ 63 : Int)) = false := decide_eq_false (by omega)
    have e2 : decide (i ≥ 2 ^ 63) = false := decide_eq_false (by omega)
    rw [e1, e2, Bool.or_false]) (by rw [h1]; simpa using h2) ⟨.str ⟨#[c]⟩, H, I.tok _, ⟨_, rfl⟩, q⟩) hs
def rIx (K : PySem.W.Frag) : R2 := fun x y H Q => rIxL K x y H Q ∨ rIxT K x y H Q ∨ rIxS x y H Q
theorem ix_seq : IxR X (rIx X.K) := ix_list.or (ix_tup.or ix_str)
theorem Inv.lst {pins : List (Addr × Obj)} {σ : St} {H : Hp} {s : Shared} {p : Addr} {xs : List V} (I : Inv X pins σ H s) (h : H p = some (.lst xs)) :
    ∃ (its : List Value) (n : Nat), Vals xs its ∧ s.heap.get? p = some { cls := .type "list", data := .seq its.toArray n } ∧ xs.length ≤ sizeLine := by
  obtain ⟨z, its, n, r, e⟩ := I.hok p _ h
  exact ⟨its, n, r, e, z⟩
theorem slice_bounds (lo hi : Option Int) (n : Nat) : (sliceBounds lo hi none n).1 = ((HT.sIx n 0 lo : Nat) : Int) ∧ (sliceBounds lo hi none n).2.1 = ((HT.sIx n n hi : Nat) : Int) ∧ (sliceBounds lo hi none n).2.2 = 1 := by
  refine ⟨?_, ?_, rfl⟩
  · cases lo with
    | none => simp [sliceBounds, HT.sIx]
    | some i =>
      simp only [sliceBounds, HT.sIx, Option.getD_none, show (1 : Int) > 0 by decide, if_true]
      by_cases h : i < 0
      · simp only [h, if_true] <;> omega
      · simp only [h, if_false] <;> omega
  · cases hi with
    | none => simp [sliceBounds, HT.sIx]
    | some i =>
      simp only [sliceBounds, HT.sIx, Option.getD_none, show (1 : Int) > 0 by decide, if_true]
      by_cases h : i < 0
      · simp only [h, if_true] <;> omega
      · simp only [h, if_false] <;> omega
theorem slicePick_cut (its : List Value) (lo hi : Option Int) : slicePick its.toArray lo hi none = ((its.drop (HT.sIx its.length 0 lo)).take (HT.sIx its.length its.length hi - HT.sIx its.length 0 lo)).toArray := by
  obtain ⟨h1, h2, h3⟩ := slice_bounds lo hi its.toArray.size
  unfold slicePick
  rw [h1, h2, h3]
  simp only [sliceRange_one, pick_run, List.size_toArray] <;> rfl
def rSlL (K : PySem.W.Frag) : V → Option Int → Option Int → Hp → VK → Prop := fun x lo hi H Q => ∃ a xs, x = .ref a ∧ SqL K H a xs ∧ ∀ p, H p = none → Q (.ref p) (upd H p (.lst (cutV xs lo hi)))
theorem sl_list : SlR X (rSlL X.K) := by
  intro pins s σ H x v vl vu lo hi sl Q I rx hs pl pu h
  obtain ⟨a, xs, rfl, hx, q⟩ := h
  cases rx
  obtain ⟨its, r, ht, hz⟩ := I.list hx
  have hlen := r.length
  refine ⟨"list", _, slot_list_getitem.lookup, ht.isList.typeIs, ?_⟩
  refine wpAny_getItem_list_slice ht.isList hs pl pu .none (by simp) ?_ (by rw [List.size_toArray] <;> omega)
  rw [slicePick_cut, ← hlen]
  refine ⟨.ref s.heap.objs.size, _, I.laid (t' := s.toks) (o := .lst (cutV xs lo hi)) (fun b ob q => Heap.get?_push_of_some _ q) (Nat.le_refl _) ?_, rfl, q _ (I.hok.fresh (Nat.le_refl _))⟩
  exact ⟨Nat.le_trans (cutV_length xs lo hi) hz, _, 0, (r.drop (HT.sIx xs.length 0 lo)).take (HT.sIx xs.length xs.length hi - HT.sIx xs.length 0 lo), Heap.get?_push_size _ rfl⟩
theorem CallR.or {f : Value} {r r' : List V → Hp → VK → Prop} (h : CallR X f r) (h' : CallR X f r') : CallR X f (fun xs H Q => r xs H Q ∨ r' xs H Q) := by
  intro pins s σ H xs us Q I rs q
  rcases q with q | q
  · exact h pins s σ H xs us Q I rs q
  · exact h' pins s σ H xs us Q I rs q
theorem call_tuple_of : CallR X (.type "tuple") (fun xs H Q => ∃ p ys, xs = [.ref p] ∧ ((SqL X.K H p ys ∧ ∀ l, H l = none → Q (.ref l) (upd H l (.tup ys))) ∨ (SqT X.K H p ys ∧ Q (.ref p) H))) := by
  intro pins s σ H xs us Q I r h
  obtain ⟨p, ys, rfl, h⟩ := h
  obtain ⟨u, rfl, rx⟩ := vals1 r
  cases rx
  rcases h with ⟨hq, q⟩ | ⟨hq, q⟩
  · obtain ⟨its, r', pl, hz⟩ := I.list hq
    have hlen := r'.length
    refine call_tuple_list pl.isList (fun h' kp => ?_) (by simp only [List.size_toArray] <;> omega)
    have I1 : Inv X pins σ H { s with heap := h' } := I.kept (t' := s.toks) kp
    have I2 : Inv X pins σ (upd H h'.objs.size (.tup ys)) { s with heap := h'.push { cls := .type "tuple", data := .seq its.toArray } } :=
      I1.laid (t' := s.toks) (fun b o e => Heap.get?_push_of_some _ e) (Nat.le_refl _) (show ObjOk X.prog X.w _ _ _ (.tup ys) from ⟨hz, its, r', IsTup.new _ _⟩)
    exact ⟨.ref h'.objs.size, _, I2, rfl, q _ (I1.hok.fresh (Nat.le_refl _))⟩
  · obtain ⟨its, r', pl, hz⟩ := I.tuple hq
    exact call_tuple_same pl ⟨.ref p, H, I, rfl, q⟩
def tyV (K : PySem.W.Frag) (T : String) (x : V) (H : Hp) : Prop := match x with
  | .str _ => T = "str"
  | .int _ => T = "int"
  | .ref p => (T = "list" ∧ ∃ xs, SqL K H p xs) ∨ (T = "tuple" ∧ ∃ o, K.lookup p = some o ∧ o.cls = .type "tuple" ∧ o.dict = none) ∨
      (T = "dict" ∧ ((∃ kvs, H p = some (.dK kvs)) ∨ ∃ kvs, H p = some (.dT kvs))) ∨ (T = "set" ∧ ∃ S n, H p = some (.set S n))
  | _ => False
theorem tyV_is {pins : List (Addr × Obj)} {σ : St} {H : Hp} {s : Shared} {T : String} {x : V} {v : Value} (I : Inv X pins σ H s) (r : RelV x v) (ty : tyV X.K T x H) :
    s.TypeIs v T ∧ ∀ a, v = .ref a → ∃ ob, s.heap.get? a = some ob ∧ ob.dict = none := by
  cases x with
  | str z =>
    obtain ⟨t, rfl⟩ := r
    cases (show T = "str" from ty)
    exact ⟨typeIs_str s z t, fun _ e => nomatch e⟩
  | int i =>
    obtain ⟨t, rfl⟩ := r
    cases (show T = "int" from ty)
    exact ⟨typeIs_int s i t, fun _ e => nomatch e⟩
  | ref p =>
    cases r
    rcases ty with ⟨rfl, xs, hq⟩ | ⟨rfl, o, hk, hc, hd⟩ | ⟨rfl, hk⟩ | ⟨rfl, S, n, hk⟩
    · obtain ⟨its, _, pl, _⟩ := I.list hq
      refine ⟨pl.isList.typeIs, fun a e => ?_⟩
      cases e
      obtain ⟨o, n, e, c, hd, _⟩ := pl
      exact ⟨o, e, hd⟩
    · refine ⟨⟨o, I.kIn p o hk, hc⟩, fun a e => ?_⟩
      cases e
      exact ⟨o, I.kIn _ o hk, hd⟩
    · have z : ∃ o, s.heap.get? p = some o ∧ o.ExactDict := by
        rcases hk with ⟨kvs, hk⟩ | ⟨kvs, hk⟩
        · obtain ⟨_, _, _, _, o, _, _, e, ex, _⟩ := I.hok p _ hk
          exact ⟨o, e, ex⟩
        · obtain ⟨_, _, _, _, o, _, _, e, ex, _⟩ := I.hok p _ hk
          exact ⟨o, e, ex⟩
      obtain ⟨o, e, ex⟩ := z
      refine ⟨⟨o, e, ex.1⟩, fun a e2 => ?_⟩
      cases e2
      exact ⟨o, e, ex.2.1⟩
    · obtain ⟨o, _, _, _, e, ex, _⟩ := I.hok p _ hk
      refine ⟨⟨o, e, ex.1⟩, fun a e2 => ?_⟩
      cases e2
      exact ⟨o, e, ex.2.1⟩
  | _ => exact False.elim ty
def tBM (K : PySem.W.Frag) (T : String) (r : V → List V → Hp → VK → Prop) (to : TE) (t : TA) : TE := fun σ H Q => to σ H fun x H1 => tyV K T x H1 ∧ t σ H1 fun xs H2 => r x xs H2 Q
variable {o e : Expr} {es : List Expr} {to : TE} {t : TA} {name : Str} {apos cpos : Pos} {T id : String} {r : V → List V → Hp → VK → Prop}
theorem pe_bm (pa : PlainAttrs T) (slot : Slot T name id) (hty : typeOf (.builtin id) = pure (.type "method_descriptor")) (hm : MtR X id r) (ho : PE X o to) (ha : PA X (e :: es) t)
    (hbase : attributeBase o name X.env (eval o X.env) = eval o X.env := by rfl)
    (hfew : ((backTo cpos (starEach (e :: es) X.env)).all (fun x => !x.1) && (backToKw cpos (keywordEach [] X.env)).all (fun x => x.1.isSome)
      && decide ((e :: es).length + ([] : List Keyword).length + (if ([] : List Keyword).isEmpty then 0 else 1) < 30)) = true := by rfl)
    (hline : (apos.endLine == cpos.line) = true := by rfl) (hs : starEach (e :: es) X.env = (false, eval e X.env) :: starEach es X.env := by rfl) (hplain : (backTo cpos (starEach es X.env)).any (·.1) = false := by rfl) :
    PE X (.Call (.Attribute o name apos) (e :: es) [] cpos) (tBM X.K T r to t) := by
  intro pins s σ H Q I h
  refine wpAny_Call_method_late hbase hfew hline rfl (thn (ho pins s σ H _ I h) fun v s1 ⟨x, H1, I1, r1, ty, q1⟩ => ?_)
  obtain ⟨h1, h2⟩ := tyV_is I1 r1 ty
  refine ⟨T, id, pa, slot, hty, h1, h2, ?_⟩
  have hA := ha cpos pins s1 σ H1 _ I1 q1
  rw [hs] at hA ⊢
  refine Calls.callWith_builtin (by show (false || (backTo cpos (starEach es X.env)).any (·.1)) = false; rw [hplain] <;> rfl) (Calls.evalArgs_plain ?_)
  exact thn hA fun us s2 ⟨vs, H2, I2, r2, q2⟩ => hm pins s2 σ H2 x vs v us Q I2 r1 r2 q2
/- xs.append(e), list.index on a module's tuple .. are MtR facts of 06m -/
end
end L2
namespace L2
open PySem PySem.Spec PyProof.Rows
def MtM (X : Cx) (id : String) (r : V → List V → Hp → VK → Prop) : Prop :=
  ∀ (pins : List (Addr × Obj)) (s : Shared) (σ : St) (H : Hp) (x : V) (xs : List V) (v : Value) (us : List Value) (Q : VK), Inv X pins σ H s → RelV x v → Vals xs us → r x xs H Q →
    wpAny (model X.prog X.w) X.A (call (.builtin id) (v :: us)) (EP X pins σ Q) X.xe s
theorem Vals.one : ∀ {x : V} {us : List Value}, Vals [x] us → ∃ u, us = [u] ∧ RelV x u
  | _, _, .cons r .nil => ⟨_, rfl, r⟩
theorem Vals.two : ∀ {x y : V} {us : List Value}, Vals [x, y] us → ∃ u v, us = [u, v] ∧ RelV x u ∧ RelV y v
  | _, _, _, .cons r (.cons q .nil) => ⟨_, _, rfl, r, q⟩
theorem Vals.eraseIdx : ∀ {xs : List V} {us : List Value} (i : Nat), Vals xs us → Vals (xs.eraseIdx i) (us.eraseIdx i)
  | _, _, _, .nil => .nil
  | _, _, 0, .cons _ t => t
  | _, _, i + 1, .cons r t => .cons r (Vals.eraseIdx i t)
theorem Vals.reverse {xs : List V} {us : List Value} (h : Vals xs us) : Vals xs.reverse us.reverse := by
  induction h with
  | nil => exact .nil
  | cons r t ih => rw [List.reverse_cons, List.reverse_cons]; exact Vals.append ih (.cons r .nil)
theorem Vals.rep {xs : List V} {us : List Value} (h : Vals xs us) : ∀ k : Nat, Vals (List.replicate k xs).flatten (List.replicate k us).flatten
  | 0 => .nil
  | k + 1 => by
    rw [List.replicate_succ, List.replicate_succ, List.flatten_cons, List.flatten_cons]
    exact Vals.append h (Vals.rep h k)
theorem foldl_rep (its : List Value) : ∀ (k : Nat) (acc : List Value),
    List.foldl (fun x1 x2 => x1 ++ x2) acc.toArray (List.replicate k its.toArray) = (acc ++ (List.replicate k its).flatten).toArray
  | 0, acc => by simp
  | k + 1, acc => by
    have e : acc.toArray ++ its.toArray = (acc ++ its).toArray := by simp
    have e2 : (acc ++ its) ++ (List.replicate k its).flatten = acc ++ (List.replicate (k + 1) its).flatten := by
      rw [List.replicate_succ, List.flatten_cons, List.append_assoc]
    rw [← e2, ← foldl_rep its k (acc ++ its), ← e, List.replicate_succ, List.foldl_cons]
section
variable {X : Cx} {pins : List (Addr × Obj)} {σ : St} {H : Hp} {s : Shared} {l b : Addr} {xs ys zs : List V}
theorem Inv.lset {its its' : List Value} {n : Nat} {f : Array Value → Array Value} {t' : Nat} (I : Inv X pins σ H s) (hH : H l = some (.lst xs))
    (e : s.heap.get? l = some { cls := .type "list", data := .seq its.toArray n }) (hf : f its.toArray = its'.toArray) (hv : Vals ys its') (hz : ys.length ≤ sizeLine) :
    Inv X pins σ (upd H l (.lst ys)) { s with heap := s.heap.update l (Obj.mapSeq f), toks := t' } := by
  have q := PySem.IsL.update e f
  rw [hf] at q
  refine I.write (x := l) (e := l) (by rw [hH]; exact trivial) (.inl rfl) (fun b' u hb hu => (Heap.get?_update_other s.heap (Obj.mapSeq f) (Ne.symm hb)).trans hu) ⟨_, q⟩ ?_
  exact ⟨hz, its', _, hv, q⟩
theorem Inv.fresh (I : Inv X pins σ H s) : H s.heap.objs.size = none := I.hok.fresh (Nat.le_refl _)
theorem Inv.lstM (I : Inv X pins σ H s) (hH : H l = some (.lst xs)) : xs.length ≤ sizeLine ∧ ∃ (its : List Value) (n : Nat), Vals xs its ∧ xs.length = its.length ∧ s.heap.get? l = some { cls := .type "list", data := .seq its.toArray n } := by
  obtain ⟨z, its, n, r, e⟩ := I.hok l _ hH
  exact ⟨z, its, n, r, r.length, e⟩
end
section
variable {X : Cx}
def rAppend : V → List V → Hp → VK → Prop := fun x vs H Q => ∃ l xs y, x = .ref l ∧ vs = [y] ∧ H l = some (.lst xs) ∧ xs.length < sizeLine ∧ Q .non (upd H l (.lst (xs ++ [y])))
theorem mt_append : MtM X "list.append" rAppend := by
  intro pins s σ H x vs v us Q I rx rv h
  obtain ⟨l, xs, y, rfl, rfl, hH, hz, q⟩ := h
  cases rx
  obtain ⟨u, rfl, ru⟩ := rv.one
  obtain ⟨z, its, n, r, hl, e⟩ := I.lstM hH
  refine call_meets F.slot_list_append ⟨_, e, rfl⟩ F.entry_list_append (F.args_list_append_2 _ _) (PySem.list_append l its.toArray n u (by rw [List.size_toArray]; omega)) ⟨e, ?_⟩
  refine ⟨.non, _, I.lset (its' := its ++ [u]) hH e (by simp) (r.append (.cons ru .nil)) ?_, rfl, q⟩
  rw [List.length_append, List.length_singleton]
  omega
theorem len_rep {α : Type} (xs : List α) (k : Nat) : (List.replicate k xs).flatten.length = k * xs.length := by
  induction k with
  | zero => simp
  | succ k ih => rw [List.replicate_succ, List.flatten_cons, List.length_append, ih, Nat.succ_mul, Nat.add_comm]
end
section
variable {prog : Program} {w : World} {A : Around} {E : Value → Shared → Prop} {s : Shared}
end
section
variable {X : Cx}
end
end L2
namespace Att
open PySem PySem.W PySem.Calls PyProof.Rows
theorem ints_of_wellAll {P : Params} {h : Heap} : ∀ (ns : List Int) (vs : List Value), WellAll P h vs (ns.map WData.int) → IntsAre vs ns := by
  intro ns
  induction ns with
  | nil =>
    intro vs w
    rw [List.map_nil] at w
    cases w
    exact .nil
  | cons n ns ih =>
    intro vs w
    rw [List.map_cons] at w
    cases w with
    | cons a b =>
      cases a
      exact .cons _ _ (ih _ b)
theorem script_of {l : OpenLaw} {n : Nat} (hn : l.most = some n) {P : Params} {h : Heap} {args : List WData} {vals : List Value}
    (hpre : l.row.toRowW.claim.pre args = true) (hwl : WellAll P h vals args) :
    ∃ a vs ns, vals = [Value.ref a] ∧ args = [WData.list (ns.map WData.int)] ∧ h.get? a = some { cls := .type "list", data := .seq vs.toArray } ∧ IntsAre vs ns ∧ ns.length ≤ n := by
  have hsh : WShape.hasAll [] args [.list .int] = true := (pre_splitW hpre).1
  have hc : l.pre.holds [] { args := args } = true := (pre_splitW hpre).2
  obtain ⟨d, r, rfl, h1, h2⟩ := hasAllW_cons hsh
  obtain rfl := hasAllW_nil h2
  obtain ⟨xs, rfl, h3⟩ := hasW_list h1
  obtain ⟨ns, rfl⟩ := items_int h3
  have hlen : ns.length ≤ n := by
    unfold OpenLaw.pre at hc
    have h4 : (WTm.not (.lt (.lit (.int (n : Int))) (.len (.arg 0)))).holds [] { args := [.list (ns.map .int)] } = true := by
      have h4 := (holds_andW hc).1
      rw [hn] at h4
      exact h4
    have h5 := condW_of h4 (w_not (w_lt w_lit (w_len_list (w_arg rfl))))
    rw [List.length_map] at h5
    refine Nat.le_of_not_lt fun q => ?_
    have q' : (n : Int) < ((ns.length : Nat) : Int) := by omega
    first
      | (rw [decide_eq_true q'] at h5; exact absurd h5 (by decide))
      | (simp at h5; omega)
  cases hwl with
  | cons w1 w2 =>
    cases w2
    cases w1 with
    | list ho hall => exact ⟨_, _, ns, rfl, rfl, ho, ints_of_wellAll ns _ hall, hlen⟩
theorem post_true (l : OpenLaw) (args : List WData) : l.row.toRowW.claim.post args (.bool true) args = true :=
  postW_of (r := l.row.toRowW) (X := (true == true))
    (show WShape.has [] (.bool true) .bool = true by first | rfl | decide | simp [WShape.has, WShape.arms, WShape.armsAll])
    (show (WTm.eq .res (.lit (.bool true))).value [] { args := args, res := some (.bool true), after := args } = some (.bool (true == true)) from w_eq_bool (w_res rfl) w_lit) rfl
theorem attach_call {l : OpenLaw} {n : Nat} {q : Program} {loose : List Str} {XP : (Str → Option Value) → Heap → Prop} {YP : World → Heap → Prop} {d : DefRec}
    (hn : l.most = some n) (hdf : d.params.defaults = [])
    (call : ∀ (w : World) (s₀ s₁ : Shared) (mg mb : Str → Option Value) (fa : Addr) (o : Obj) (pm cd doc : Value) (a : Addr) (vs : List Value) (ns : List Int),
      Ground q loose [] XP w s₀ mg mb s₁.heap → YP w s₁.heap →
      s₁.heap.get? fa = some o → o.data = .func (docDef d.name d.params d.body d.scope pm cd doc) → s₁.heap.CodeRec cd d.name → mg d.name = some (.ref fa) →
      s₁.heap.get? a = some { cls := .type "list", data := .seq vs.toArray } → IntsAre vs ns → ns.length ≤ n → s₁.gens = #[] →
      codeAny (model l.prog w) callerA (.call (.ref fa) ⟨[.ref a], []⟩) (fun r s' => r = .ok (.ret (.bool true)) ∧ OldK s₁.heap s'.heap ∧ s'.os = s₁.os ∧ AllBare s'.gens) s₁) :
    WalkO q loose XP YP l.row.toRowW d [] (fun f vs => PySem.call f vs) := by
  intro w s₀ s₁ mg mb G Y fa o pm cd doc dV kV ho hd hcd hD hmg hg args vals as hpre hlay hrd hwl hlo
  obtain rfl : dV = .none := Dflts.none hD hdf
  obtain rfl : kV = .none := Dflts.noKw hD
  obtain ⟨a, vs, ns, rfl, rfl, hobj, hints, hlen⟩ := script_of hn hpre hwl
  refine enter_call (codeAny_mono (call w s₀ s₁ mg mb fa o pm cd doc a vs ns G Y ho (fd_plain hd) hcd hmg hobj hints hlen hg) fun r s' hq => ?_)
  obtain ⟨rfl, h2, h3, h4⟩ := hq
  exact ⟨.inl ⟨.bool true, .bool true, [], rfl, fun _ => rfl, .bool true, post_true l _, fun _ => ⟨List.Pairwise.nil, fun _ hm => (nomatch hm)⟩⟩, h2, h3, h4⟩
section
variable {prog : Program} {w : World} {A : Around} {E : Value → Shared → Prop} {s : Shared} {K : Frag}
end
end Att
namespace L2
open PySem PySem.Spec PyProof.Rows
theorem vals_ints : ∀ {vs : List Value} {ns : List Int}, IntsAre vs ns → Vals (ns.map V.int) vs
  | _, _, .nil => .nil
  | _, _, .cons n t h => .cons ⟨t, rfl⟩ (vals_ints h)
def Only (H : Hp) : Prop := ∀ b, H b = none ∨ ∃ o xs, H b = some (.frz o (.lst xs))
theorem law_call {P : Program} {w : World} {K : PySem.W.Frag} {mg mb : Str → Option Value} {CX : CXT} {k : Nat} {fa a : Addr} {fd : FuncData} {x : Str} {sp : Sp} {s₁ : Shared} {vs : List Value} {ns : List Int}
    (KX : K.In s₁.heap) (hns : s₁.heap.Ns mainGlobals mg) (hb : s₁.heap.Ns builtinsNs mb) (hbb : ∀ x : Str, x ≠ "__name__" → mb x = bootBuiltins x) (hlim : s₁.heap.NoLimit) (hg : s₁.gens = #[])
    (ha : s₁.heap.get? a = some { cls := .type "list", data := .seq vs.toArray }) (hi : IntsAre vs ns) (hl : ns.length ≤ sizeLine) (hr : Room k callerA)
    (F : ∀ base : Heap, K.In base → base.Ns mainGlobals mg → FnOk P w K mg base CX k fa fd [x] sp) (hbind : ∀ (s : Shared) (u : Value), BindsTo s fd ⟨[u], []⟩ [(x, u)])
    (hsp : ∀ H : Hp, Only H → SqL K H a (ns.map V.int) → sp [.ref a] H (fun v _ => v = .bl true) fun _ _ _ => False)
    (hCX : ∀ H e s', CX [] H s₁ (fun _ _ _ => False) e s' → False) :
    codeAny (model P w) callerA (.call (.ref fa) ⟨[.ref a], []⟩) (fun r s' => r = .ok (.ret (.bool true)) ∧ OldK s₁.heap s'.heap ∧ s'.os = s₁.os ∧ AllBare s'.gens) s₁ := by
  have rv := vals_ints hi
  have lenV := hi.length
  have core : ∀ H : Hp, Only H → SqL K H a (ns.map V.int) → HOk P w H s₁.heap → (∀ b, H b ≠ none → b = a) → (H a ≠ none → K.lookup a = none) →
      codeAny (model P w) callerA (.call (.ref fa) ⟨[.ref a], []⟩) (fun r s' => r = .ok (.ret (.bool true)) ∧ OldK s₁.heap s'.heap ∧ s'.os = s₁.os ∧ AllBare s'.gens) s₁ := by
    intro H hO hS hok hA hK
    have base_of : ∀ {b : Addr} {o : Obj}, s₁.heap.get? b = some o → H b = none → (hidT s₁.heap H).get? b = some o := fun e n => hidT_get e n
    have noA : ∀ {b : Addr} {o : Obj} {es : Array DictEntry} {ep : Nat}, s₁.heap.get? b = some o → o.data = .dict es ep → H b = none := fun {b o es ep} e d => by
      cases q : H b with
      | none => rfl
      | some u =>
        have e' : b = a := hA b (by rw [q]; simp)
        subst e'
        rw [ha] at e; cases e
        have d' : Data.seq vs.toArray _ = Data.dict es ep := d
        cases d'
    have nsK : ∀ {b : Addr} {m : Str → Option Value}, s₁.heap.Ns b m → (hidT s₁.heap H).Ns b m := fun {b m} ⟨o, es, ep, e, d, r⟩ => ⟨o, es, ep, base_of e (noA e d), d, r⟩
    have hKb : K.In (hidT s₁.heap H) := fun b o e => base_of (KX b o e) (by
      cases q : H b with
      | none => rfl
      | some u =>
        have e' : b = a := hA b (by rw [q]; simp)
        subst e'
        rw [hK (by rw [q]; simp)] at e; cases e)
    have hM : Mod K mg (hidT s₁.heap H) := ⟨hKb, nsK hns, ⟨mb, nsK hb, hbb⟩, let ⟨mc, h1, h2⟩ := hlim; ⟨mc, nsK h1, h2⟩⟩
    have e0 : Env0 P w K mg (hidT s₁.heap H) callerA [] s₁ H := ⟨rfl, hM, fun b o e => of_hidT e, Nat.le_of_eq (hidT_size _ _), trivial, fun b hb => absurd (show b ∈ ([] : List Addr) from hb) (by simp), hok, .of_eq hg⟩
    refine codeAny_mono ((F _ hKb (nsK hns)).run callerA [] s₁ H ⟨[.ref a], []⟩ [.ref a] [.ref a] _ _ hr e0 (hbind s₁ (.ref a)) (.cons rfl .nil) (hsp H hO hS)) fun r s' h => ?_
    cases r with
    | error e => exact (hCX H e s' h).elim
    | ok fl =>
      cases fl with
      | next => exact False.elim h
      | brk => exact False.elim h
      | cont => exact False.elim h
      | ret u =>
        obtain ⟨v, H', os, bare, un, hok', r', q⟩ := h
        have q' : v = .bl true := q
        subst q'
        obtain rfl : u = Value.bool true := r'
        refine ⟨rfl, OldK.of_keep fun b o e => ?_, os, bare⟩
        cases q : H b with
        | none => exact un.keep b o e q (by intro z; exact absurd (show b ∈ ([] : List Addr) from z) (by simp)) (by simp)
        | some u =>
          rcases hO b with z | ⟨ob, xs, z⟩
          · rw [q] at z; cases z
          · have z2 := un.frzs b ob _ z
            obtain ⟨e1, _⟩ := hok b _ z
            obtain ⟨e2, _⟩ := hok' b _ z2
            rw [e] at e1; cases e1
            exact e2
  cases hk : K.lookup a with
  | some o =>
    have e := KX a o hk
    rw [ha] at e
    cases e
    refine core (fun _ => none) (fun _ => .inl rfl) (.inr ⟨_, vs.toArray, _, hk, rfl, rfl, rfl, by rw [List.size_toArray, lenV]; exact hl, by simpa using rv⟩) (fun b u z => by have z' : (none : Option HO) = some u := z; cases z') (fun b z => absurd rfl z) fun z => absurd rfl z
  | none =>
    refine core (fun b => if b = a then some (.frz { cls := .type "list", data := .seq vs.toArray } (.lst (ns.map V.int))) else none) (fun b => ?_) (.inl (.inr ⟨{ cls := .type "list", data := .seq vs.toArray }, if_pos rfl⟩)) (fun b u z => ?_) (fun b z => ?_) fun _ => hk
    · by_cases hb : b = a
      · exact .inr ⟨_, _, if_pos hb⟩
      · exact .inl (if_neg hb)
    · by_cases hb : b = a
      · have z' := (if_pos hb).symm.trans z
        cases z'
        subst hb
        exact ⟨ha, by rw [List.length_map]; exact hl, vs, _, rv, ha⟩
      · have z' := (if_neg hb).symm.trans z
        cases z'
    · by_cases hb : b = a
      · exact hb
      · exact absurd (if_neg hb) z
end L2
namespace L2
open PySem PySem.Spec PyProof.Rows
theorem walk_of {l : PySem.W.OpenLaw} {n k : Nat} {q : Program} {loose : List Str} {XP : (Str → Option Value) → Heap → Prop} {YP : World → Heap → Prop} {d : DefRec} {K : Params → PySem.W.Frag} {CX : World → CXT} {sp : World → Sp} {x : Str}
    (hn : l.most = some n) (hn2 : n ≤ sizeLine) (hdf : d.params.defaults = []) (hr : Room k callerA)
    (hY : ∀ (w : World) (h : Heap), YP w h → (K w.params).In h)
    (F : ∀ (w : World) (mg : Str → Option Value) (fa : Addr) (h : Heap), (K w.params).In h → h.Ns mainGlobals mg → mg d.name = some (.ref fa) →
      ∃ fd : FuncData, (∀ (s : Shared) (u : Value), BindsTo s fd ⟨[u], []⟩ [(x, u)]) ∧
        ∀ base : Heap, (K w.params).In base → base.Ns mainGlobals mg → FnOk l.prog w (K w.params) mg base (CX w) k fa fd [x] (sp w))
    (hsp : ∀ (w : World) (H : Hp) (a : Addr) (ns : List Int), ns.length ≤ n → Only H → SqL (K w.params) H a (ns.map V.int) → sp w [.ref a] H (fun v _ => v = .bl true) fun _ _ _ => False)
    (hCX : ∀ (w : World) (H : Hp) (s : Shared) (e : Value) (s' : Shared), CX w [] H s (fun _ _ _ => False) e s' → False) :
    PySem.W.WalkO q loose XP YP l.row.toRowW d [] (fun f vs => PySem.call f vs) := by
  refine Att.attach_call hn hdf fun w s₀ s₁ mg mb fa o pm cd doc a vs ns G Y ho hd hcd hmg hobj hints hlen hg => ?_
  have KX := hY w _ Y
  obtain ⟨fd, hb, hF⟩ := F w mg fa _ KX G.T.g hmg
  exact law_call KX G.T.g G.T.b G.T.builtins G.T.nolimit hg hobj hints (Nat.le_trans hlen hn2) hr hF hb (fun H hO hS => hsp w H a ns hlen hO hS) fun H e s' => hCX w H s₁ e s'
end L2
/- THE LAST THEOREM (shape; LID, My.* are yours):
   My.Adr: a structure of the addresses that your layer names (classes, functions); My.Txt K t: a structure (Prop) of the equations over K;
   My.txt_mk : {K} {implicit addresses ..} (e1 : nsIn K mainGlobals "law" = some (some (.ref f))) (e2 : K.lookup f = some ⟨oc, od, .func (fnOf "law" "law" params body scope dV kV doc pm an cdv ct), sl⟩) (e3 : codeIn K cdv "law" = true) .. : ∃ t, My.Txt K t
(the tactic k_is has no namespace: write k_is) -/
namespace L2
open PySem PySem.Spec PyProof.Rows
def inClass (s : Stmt) (j : Nat) : Stmt := match s with
  | .ClassDef _ _ _ body _ _ _ _ _ _ _ => body.getD j (.Pass ⟨0, 0, 0, 0⟩)
  | _ => .Pass ⟨0, 0, 0, 0⟩
def defArgs (s : Stmt) : Arguments := match s with
  | .FunctionDef _ a _ _ _ _ _ _ _ _ => a
  | _ => { posonlyargs := [], args := [], vararg := none, kwonlyargs := [], kw_defaults := [], kwarg := none, defaults := [] }
def defBody (s : Stmt) : List Stmt := match s with
  | .FunctionDef _ _ b _ _ _ _ _ _ _ => b
  | _ => []
def defScope (s : Stmt) : Scope := match s with
  | .FunctionDef _ _ _ _ _ _ sc _ _ _ => sc
  | _ => { kind := .function, names := [], isGenerator := false, isCoroutine := false }
abbrev CX0 : CXT := fun _ _ _ _ _ _ => False
abbrev E0 : XK := fun _ _ _ => False
theorem pass0 {X : Cx} : Passes CX0 X E0 := fun _ _ _ _ _ _ _ h => h.elim
structure Fun (K : PySem.W.Frag) (x qual : Str) (st : Stmt) (f : Addr) (fd : FuncData) : Prop where
  ex : ∃ (oc : Value) (od : Option Addr) (kV doc pm : Value) (an : Option Addr) (cdv ct : Value) (osl : Array (Option Value)),
    fd = PySem.W.fnOf x qual (defArgs st) (defBody st) (defScope st) .none kV doc pm an cdv ct ∧ K.lookup f = some ⟨oc, od, .func fd, osl⟩ ∧ PySem.W.codeIn K cdv qual = true
  kp : PySem.W.keepIn K (.ref f) = true
section
variable {P : Program} {w : World} {K : PySem.W.Frag} {mg : Str → Option Value} {base : Heap}
theorem Fun.ok {x qual : Str} {st : Stmt} {f : Addr} {fd : FuncData} {N ps : List Str} {k : Nat} {sp : Sp} (F : Fun K x qual st f fd) (S : FnScope N ps (defScope st)) (len : ∀ vs H Q E, sp vs H Q E → vs.length = ps.length)
    (hbody : ∀ (cdv : Value) (A : Around) (outer : List Env) (s : Shared) (H : Hp) (vs : List V) (Q : VK) (E : XK), Room k (A.deeper (envOfC qual (defScope st) s.heap.objs.size f cdv)) → sp vs H Q E →
      ∃ t, PSs (cxOf CX0 P w K mg base N qual (defScope st) f cdv A outer s H E).nox (defBody st) t ∧ t { nx := fun _ H' => Q .non H', rt := Q } (start N vs) H) : FnOk P w K mg base CX0 (k + 1) f fd ps sp := by
  obtain ⟨oc, od, kV, doc, pm, an, cdv, ct, osl, rfl, lk, hcd⟩ := F.ex
  refine fn_of lk hcd S len fun A outer s H vs Q E hr hsp => ?_
  obtain ⟨t, h, q⟩ := hbody cdv A outer s H vs Q E hr hsp
  exact ⟨t, h.nox, q⟩
theorem Fun.binds {x qual : Str} {st : Stmt} {f : Addr} {fd : FuncData} {ps : List Str} (F : Fun K x qual st f fd)
    (h : ∀ (kV doc pm : Value) (an : Option Addr) (cdv ct : Value) (us : List Value), us.length = ps.length → bindArgs (PySem.W.fnOf x qual (defArgs st) (defBody st) (defScope st) .none kV doc pm an cdv ct) ⟨us, []⟩ = pure (ps.zip us)) : Binds K fd ps [] := by
  obtain ⟨oc, od, kV, doc, pm, an, cdv, ct, osl, rfl, lk, hcd⟩ := F.ex
  exact .all (h kV doc pm an cdv ct)
theorem fun_mk {x qual : Str} {st : Stmt} {f : Addr} {oc : Value} {od an : Option Addr} {osl : Array (Option Value)} {kV doc pm cdv ct : Value} (l : K.lookup f = some ⟨oc, od, .func (PySem.W.fnOf x qual (defArgs st) (defBody st) (defScope st) .none kV doc pm an cdv ct), osl⟩)
    (c : PySem.W.codeIn K cdv qual = true) (k : PySem.W.keepIn K (.ref f) = true) : Fun K x qual st f (PySem.W.fnOf x qual (defArgs st) (defBody st) (defScope st) .none kV doc pm an cdv ct) := ⟨⟨oc, od, kV, doc, pm, an, cdv, ct, osl, rfl, l, c⟩, k⟩
end
section
variable {X : Cx}
theorem pv (i : Nat) {x : Str} {pos : Pos} (hN : X.N[i]? = some x := by rfl) (hv : Vis X.env.scope x := by first | exact Or.inl rfl | exact Or.inr (Or.inl rfl) | exact Or.inr (Or.inr rfl)) (hd : (x == ("__debug__" : Str)) = false := by decide)
    (hcd : (x == ("__classdict__" : Str)) = false := by decide) : PE X (.Name x pos) (tVar i) := pe_var hN hv hd hcd
end
def Same (H H' : Hp) : Prop := ∀ b o, H b = some o → H' b = some o
theorem Same.refl (H : Hp) : Same H H := fun _ _ h => h
theorem Same.trans {H H1 H2 : Hp} (a : Same H H1) (b : Same H1 H2) : Same H H2 := fun c o h => b c o (a c o h)
theorem Same.free {H H' : Hp} (e : Same H H') {l : Addr} (h : H' l = Option.none) : H l = Option.none := by
  cases q : H l with
  | none => rfl
  | some o =>
    rw [e l o q] at h
    cases h
theorem Same.seq {K : PySem.W.Frag} {H H' : Hp} {a : Addr} {xs : List V} (e : Same H H') (h : SqL K H a xs) : SqL K H' a xs := by
  rcases h with (h | ⟨o, h⟩) | h
  · exact .inl (.inl (e _ _ h))
  · exact .inl (.inr ⟨o, e _ _ h⟩)
  · exact .inr h
end L2
set_option maxHeartbeats 4000000
namespace L3
open PySem PySem.Spec PyProof.Rows L2
inductive D where
  | non | bl (b : Bool) | int (i : Int) | str (x : Str) | tup (ds : List D) | lst (ds : List D) | dct (ks : List Key) (ds : List D) | exc (c : Str) (ds : List D) | obj (c : Str) (ks : List Str) (ds : List D)
inductive Res (α : Type) where
  | ok (a : α) | ex (c : Str) (fs : List D) | stuck
def Res.bind {α β : Type} (r : Res α) (k : α → Res β) : Res β := match r with
  | .ok a => k a
  | .ex c fs => .ex c fs
  | .stuck => .stuck
theorem Res.bind_ok {α β : Type} (a : α) (k : α → Res β) : (Res.ok a).bind k = k a := rfl
theorem Res.bind_ex {α β : Type} (c : Str) (fs : List D) (k : α → Res β) : (Res.ex c fs).bind k = .ex c fs := rfl
theorem Res.bind_stuck {α β : Type} (k : α → Res β) : (Res.stuck : Res α).bind k = .stuck := rfl
inductive S where
  | d (x : D) | o (ds : List D) | q (ks : List Key) (ds : List D)
def Ow : S → Prop
  | .d _ => False
  | _ => True
def MutO : HO → Prop
  | .lst _ => True
  | .dK _ => True
  | .ins _ _ _ => True
  | _ => False
abbrev DSt := List (Option S)
def ExcAt (a : Addr) (C : Value) (dx : Option Addr) : Heap → Prop := fun h => ∃ o vs, h.get? a = some o ∧ o.cls = C ∧ o.dict = dx ∧ o.data = .fields vs
def sclV : D → Option V
  | .non => some .non
  | .bl b => some (.bl b)
  | .int i => some (.int i)
  | .str x => some (.str x)
  | _ => none
def ExV (H : Hp) (x : D) (v : V) : Prop := sclV x = some v ∨ ∃ ds a o xs, x = .lst ds ∧ v = .ref a ∧ H a = some (.frz o (.lst xs)) ∧ ds.map sclV = xs.map some
def ExVs (H : Hp) : List D → List V → Prop
  | [], [] => True
  | x :: ds, v :: vs => ExV H x v ∧ ExVs H ds vs
  | _, _ => False
def ExF (H : Hp) (dx : Option Addr) : List D → Prop
  | [] => True
  | .tup ns :: vs => ∃ d kvs, dx = some d ∧ H d = some (.xd kvs) ∧ ns = kvs.map (fun p => D.str p.1) ∧ ExVs H vs (kvs.map (·.2))
  | _ => False
theorem ExVs.to {H H' : Hp} (k : ∀ b o u, H b = some (.frz o u) → H' b = some (.frz o u)) : ∀ {ds : List D} {vs : List V}, ExVs H ds vs → ExVs H' ds vs
  | [], [], h => h
  | _ :: _, _ :: _, ⟨h, t⟩ => ⟨by
      rcases h with h | ⟨ds, a, o, xs, e1, e2, e3, e4⟩
      · exact .inl h
      · exact .inr ⟨ds, a, o, xs, e1, e2, k _ _ _ e3, e4⟩, t.to k⟩
  | [], _ :: _, h => h.elim
  | _ :: _, [], h => h.elim
theorem ExF.to {H H' : Hp} {dx : Option Addr} (k : ∀ b o u, H b = some (.frz o u) → H' b = some (.frz o u)) (k2 : ∀ b kvs, H b = some (.xd kvs) → H' b = some (.xd kvs)) : ∀ {fs : List D}, ExF H dx fs → ExF H' dx fs
  | [], h => h
  | .tup ns :: vs, ⟨d, kvs, e1, e2, e3, e4⟩ => ⟨d, kvs, e1, k2 _ _ e2, e3, e4.to k⟩
  | .non :: _, h => h.elim
  | .bl _ :: _, h => h.elim
  | .int _ :: _, h => h.elim
  | .str _ :: _, h => h.elim
  | .lst _ :: _, h => h.elim
  | .dct _ _ :: _, h => h.elim
  | .exc _ _ :: _, h => h.elim
  | .obj _ _ _ :: _, h => h.elim
abbrev WS := Addr → Prop
section
variable (K : PySem.W.Frag) (W : WS) (H : Hp)
def LR (a : Addr) (xs : List V) : Prop := (H a = some (.lst xs) ∧ ¬ W a) ∨ ((∃ o, H a = some (.frz o (.lst xs))) ∨ ∃ (o : Obj) (its : Array Value) (n : Nat), K.lookup a = some o ∧ o.cls = .type "list" ∧ o.dict = none ∧ o.data = .seq its n ∧ its.size ≤ sizeLine ∧ Vals xs its.toList)
mutual
def Has : D → V → Prop
  | .non, v => v = .non
  | .bl b, v => v = .bl b
  | .int i, v => v = .int i
  | .str x, v => v = .str x
  | .tup ds, v => ∃ a xs, v = .ref a ∧ SqT K H a xs ∧ HasL ds xs
  | .lst ds, v => ∃ a xs, v = .ref a ∧ LR K W H a xs ∧ HasL ds xs
  | .dct ks ds, v => ∃ a kvs, v = .ref a ∧ (∃ o, H a = some (.frz o (.dK kvs))) ∧ kvs.map (·.1) = ks ∧ HasL ds (kvs.map (·.2))
  | .exc c fs, v => ∃ a C dx, v = .ref a ∧ PySem.W.nsIn K mainGlobals c = some (some C) ∧ H a = some (.ext (ExcAt a C dx)) ∧ ExF H dx fs
  | .obj c ks ds, v => ∃ a C dx fs, v = .ref a ∧ PySem.W.nsIn K mainGlobals c = some (some (.ref C)) ∧ H a = some (.ins C dx fs) ∧ ¬ W a ∧ fs.map (·.1) = ks ∧ HasL ds (fs.map (·.2))
def HasL : List D → List V → Prop
  | [], xs => xs = []
  | d :: ds, xs => ∃ x r, xs = x :: r ∧ Has d x ∧ HasL ds r
end
end
theorem LR.sq {K : PySem.W.Frag} {W : WS} {H : Hp} {a : Addr} {xs : List V} (h : LR K W H a xs) : SqL K H a xs := by
  rcases h with ⟨h, _⟩ | ⟨o, h⟩ | h
  · exact .inl (.inl h)
  · exact .inl (.inr ⟨o, h⟩)
  · exact .inr h
def Keep (W : WS) (H H' : Hp) : Prop := ∀ b o, H b = some o → ¬ W b → H' b = some o
def WL (W : WS) (H : Hp) : Prop := ∀ b, W b → ∃ o, H b = some o ∧ MutO o
theorem Same.keep {W : WS} {H H' : Hp} (h : Same H H') : Keep W H H' := fun b o e _ => h b o e
theorem Keep.trans {W : WS} {H H1 H2 : Hp} (a : Keep W H H1) (b : Keep W H1 H2) : Keep W H H2 := fun c o e n => b c o (a c o e n) n
theorem sqT_keep {K : PySem.W.Frag} {W : WS} {H H' : Hp} {a : Addr} {xs : List V} (k : Keep W H H') (w : WL W H) (h : SqT K H a xs) : SqT K H' a xs := by
  have nw : ∀ o, H a = some o → ¬ MutO o → ¬ W a := fun o e n z => by
    obtain ⟨o', e', m⟩ := w a z
    rw [e] at e'
    cases e'
    exact n m
  rcases h with (h | ⟨o, h⟩) | h
  · exact .inl (.inl (k _ _ h (nw _ h fun z => z)))
  · exact .inl (.inr ⟨o, k _ _ h (nw _ h fun z => z)⟩)
  · exact .inr h
theorem LR.keep {K : PySem.W.Frag} {W W' : WS} {H H' : Hp} {a : Addr} {xs : List V} (k : Keep W H H') (w : WL W H) (hw : ∀ b, W' b → W b ∨ H b = none) (h : LR K W H a xs) : LR K W' H' a xs := by
  rcases h with ⟨h, n⟩ | ⟨o, h⟩ | h
  · refine .inl ⟨k _ _ h n, fun z => ?_⟩
    rcases hw a z with z | z
    · exact n z
    · rw [h] at z; cases z
  · refine .inr (.inl ⟨o, k _ _ h fun z => ?_⟩)
    obtain ⟨o', e', m⟩ := w a z
    rw [h] at e'; cases e'; exact m
  · exact .inr (.inr h)
section
variable {K : PySem.W.Frag} {W W' : WS} {H H' : Hp}
mutual
theorem Has.keep (k : Keep W H H') (w : WL W H) (hw : ∀ b, W' b → W b ∨ H b = none) : ∀ {d : D} {v : V}, Has K W H d v → Has K W' H' d v
  | .non, _, h => by rw [Has] at h ⊢; exact h
  | .bl _, _, h => by rw [Has] at h ⊢; exact h
  | .int _, _, h => by rw [Has] at h ⊢; exact h
  | .str _, _, h => by rw [Has] at h ⊢; exact h
  | .tup ds, _, h => by
    rw [Has] at h ⊢
    obtain ⟨a, xs, e, q, r⟩ := h
    exact ⟨a, xs, e, sqT_keep k w q, HasL.keep k w hw r⟩
  | .lst ds, _, h => by
    rw [Has] at h ⊢
    obtain ⟨a, xs, e, q, r⟩ := h
    exact ⟨a, xs, e, q.keep k w hw, HasL.keep k w hw r⟩
  | .dct ks ds, _, h => by
    rw [Has] at h ⊢
    obtain ⟨a, kvs, e, ⟨o, q⟩, m, r⟩ := h
    refine ⟨a, kvs, e, ⟨o, k _ _ q fun z => ?_⟩, m, HasL.keep k w hw r⟩
    obtain ⟨o', e', m'⟩ := w a z
    rw [q] at e'; cases e'; exact m'
  | .exc _ _, _, h => by
    rw [Has] at h ⊢
    obtain ⟨a, C, dx, e, n, q, f⟩ := h
    have nw : ∀ b o, H b = some o → ¬ MutO o → ¬ W b := fun b o q n z => by
      obtain ⟨o', e', m'⟩ := w b z
      rw [q] at e'; cases e'; exact n m'
    exact ⟨a, C, dx, e, n, k _ _ q (nw _ _ q fun z => z), f.to (fun b o u q => k _ _ q (nw _ _ q fun z => z)) fun b kvs q => k _ _ q (nw _ _ q fun z => z)⟩
  | .obj _ _ ds, _, h => by
    rw [Has] at h ⊢
    obtain ⟨a, C, dx, fs, e, n, q, nw, m, r⟩ := h
    refine ⟨a, C, dx, fs, e, n, k _ _ q nw, fun z => ?_, m, HasL.keep k w hw r⟩
    rcases hw a z with z | z
    · exact nw z
    · rw [q] at z; cases z
theorem HasL.keep (k : Keep W H H') (w : WL W H) (hw : ∀ b, W' b → W b ∨ H b = none) : ∀ {ds : List D} {xs : List V}, HasL K W H ds xs → HasL K W' H' ds xs
  | [], _, h => by rw [HasL] at h ⊢; exact h
  | d :: ds, _, h => by
    rw [HasL] at h ⊢
    obtain ⟨x, r, e, q, t⟩ := h
    exact ⟨x, r, e, Has.keep k w hw q, HasL.keep k w hw t⟩
end
theorem Has.same {d : D} {v : V} (h : Has K W H d v) (k : Same H H') (w : WL W H) : Has K W H' d v := Has.keep (Same.keep k) w (fun _ z => .inl z) h
theorem HasL.same {d : List D} {v : List V} (h : HasL K W H d v) (k : Same H H') (w : WL W H) : HasL K W H' d v := HasL.keep (Same.keep k) w (fun _ z => .inl z) h
theorem HasL.length : ∀ {ds : List D} {xs : List V}, HasL K W H ds xs → ds.length = xs.length
  | [], _, h => by rw [HasL] at h; rw [h]; rfl
  | d :: ds, _, h => by
    rw [HasL] at h
    obtain ⟨x, r, e, q, t⟩ := h
    rw [e, List.length_cons, List.length_cons, HasL.length t]
theorem HasL.get : ∀ {ds : List D} {xs : List V} {i : Nat} {d : D}, HasL K W H ds xs → ds[i]? = some d → ∃ x, xs[i]? = some x ∧ Has K W H d x
  | [], _, _, _, _, e => by simp at e
  | d :: ds, _, 0, _, h, e => by
    rw [HasL] at h
    obtain ⟨x, r, rfl, q, t⟩ := h
    simp at e; subst e
    exact ⟨x, rfl, q⟩
  | d :: ds, _, i + 1, _, h, e => by
    rw [HasL] at h
    obtain ⟨x, r, rfl, q, t⟩ := h
    obtain ⟨y, h1, h2⟩ := HasL.get (i := i) t (by simpa using e)
    exact ⟨y, by simpa using h1, h2⟩
theorem HasL.at' {ds : List D} {xs : List V} {i : Nat} {x : V} (h : HasL K W H ds xs) (e : xs[i]? = some x) : ∃ d, ds[i]? = some d ∧ Has K W H d x := by
  have hl := h.length
  have hi : i < ds.length := by rw [hl]; exact (List.getElem?_eq_some_iff.mp e).1
  obtain ⟨y, h1, h2⟩ := h.get (List.getElem?_eq_getElem hi)
  rw [e] at h1; cases h1
  exact ⟨_, List.getElem?_eq_getElem hi, h2⟩
theorem HasL.nil : HasL K W H [] [] := by rw [HasL]
theorem HasL.cons {d : D} {ds : List D} {x : V} {xs : List V} (h : Has K W H d x) (t : HasL K W H ds xs) : HasL K W H (d :: ds) (x :: xs) := by rw [HasL]; exact ⟨x, xs, rfl, h, t⟩
theorem HasL.append : ∀ {ds es : List D} {xs ys : List V}, HasL K W H ds xs → HasL K W H es ys → HasL K W H (ds ++ es) (xs ++ ys)
  | [], _, _, _, h, t => by rw [HasL] at h; subst h; exact t
  | d :: ds, _, _, _, h, t => by
    rw [HasL] at h
    obtain ⟨x, r, rfl, q, s⟩ := h
    exact HasL.cons q (HasL.append s t)
theorem HasL.take : ∀ {ds : List D} {xs : List V} (n : Nat), HasL K W H ds xs → HasL K W H (ds.take n) (xs.take n)
  | [], _, n, h => by rw [HasL] at h; subst h; simp [HasL]
  | d :: ds, _, 0, h => by simp [HasL]
  | d :: ds, _, n + 1, h => by
    rw [HasL] at h
    obtain ⟨x, r, rfl, q, s⟩ := h
    exact HasL.cons q (HasL.take n s)
theorem HasL.drop : ∀ {ds : List D} {xs : List V} (n : Nat), HasL K W H ds xs → HasL K W H (ds.drop n) (xs.drop n)
  | [], _, n, h => by rw [HasL] at h; subst h; simp [HasL]
  | d :: ds, _, 0, h => h
  | d :: ds, _, n + 1, h => by
    rw [HasL] at h
    obtain ⟨x, r, rfl, q, s⟩ := h
    exact HasL.drop n s
theorem HasL.snoc {ds : List D} {xs : List V} {d : D} {x : V} (h : HasL K W H ds xs) (t : Has K W H d x) : HasL K W H (ds ++ [d]) (xs ++ [x]) := h.append (HasL.cons t HasL.nil)
theorem HasL.set : ∀ {ds : List D} {xs : List V} (i : Nat) {d : D} {x : V}, HasL K W H ds xs → Has K W H d x → HasL K W H (ds.set i d) (xs.set i x)
  | [], _, n, _, _, h, _ => by rw [HasL] at h; subst h; simp [HasL]
  | e :: ds, _, 0, _, _, h, t => by
    rw [HasL] at h
    obtain ⟨y, r, rfl, q, s⟩ := h
    exact HasL.cons t s
  | e :: ds, _, i + 1, _, _, h, t => by
    rw [HasL] at h
    obtain ⟨y, r, rfl, q, s⟩ := h
    exact HasL.cons q (HasL.set i s t)
theorem HasL.ints {ns : List Int} : HasL K W H (ns.map D.int) (ns.map V.int) := by
  induction ns with
  | nil => exact HasL.nil
  | cons n ns ih => exact HasL.cons (by rw [Has]) ih
end
structure FrOk (W₀ : WS) (H₀ : Hp) (W : WS) (H : Hp) : Prop where
  ext : Same H₀ H
  sub : ∀ b, W₀ b → W b
  wl : WL W H
  wl0 : WL W₀ H₀
def SlotHas (K : PySem.W.Frag) (W₀ : WS) (H₀ : Hp) (W : WS) (H : Hp) : S → V → Prop
  | .d x, v => Has K W H x v
  | .o ds, v => ∃ a xs, v = .ref a ∧ W a ∧ H₀ a = none ∧ H a = some (.lst xs) ∧ HasL K W H ds xs
  | .q ks ds, v => ∃ a kvs, v = .ref a ∧ W a ∧ H₀ a = none ∧ H a = some (.dK kvs) ∧ kvs.map (·.1) = ks ∧ HasL K W H ds (kvs.map (·.2))
structure StHas (K : PySem.W.Frag) (W₀ : WS) (H₀ : Hp) (W : WS) (H : Hp) (σ : L2.St) (δ : DSt) : Prop where
  fr : FrOk W₀ H₀ W H
  len : σ.length = δ.length
  at' : ∀ (i : Nat) (s : S), δ[i]? = some (some s) → ∃ v, σ[i]? = some (some v) ∧ SlotHas K W₀ H₀ W H s v
  ap : ∀ (i j : Nat) (s t : S) (a : Addr), i ≠ j → Ow s → Ow t → δ[i]? = some (some s) → δ[j]? = some (some t) → σ[i]? = some (some (.ref a)) → σ[j]? ≠ some (some (.ref a))
section
variable {K : PySem.W.Frag} {W₀ W : WS} {H₀ H H' : Hp} {σ : L2.St} {δ : DSt}
theorem WL.same (w : WL W H) (k : Same H H') : WL W H' := fun b z => let ⟨xs, e, m⟩ := w b z; ⟨xs, k _ _ e, m⟩
theorem FrOk.same (f : FrOk W₀ H₀ W H) (k : Same H H') : FrOk W₀ H₀ W H' := ⟨f.ext.trans k, f.sub, f.wl.same k, f.wl0⟩
theorem SlotHas.same {s : S} {v : V} (w : WL W H) (k : Same H H') (h : SlotHas K W₀ H₀ W H s v) : SlotHas K W₀ H₀ W H' s v := by
  cases s with
  | d x => exact Has.same h k w
  | o ds =>
    obtain ⟨a, xs, e, h1, h2, h3, h4⟩ := h
    exact ⟨a, xs, e, h1, h2, k _ _ h3, h4.same k w⟩
  | q ks ds =>
    obtain ⟨a, xs, e, h1, h2, h3, h4, h5⟩ := h
    exact ⟨a, xs, e, h1, h2, k _ _ h3, h4, h5.same k w⟩
theorem owo (ds : List D) : Ow (.o ds) := trivial
theorem owq (ks : List Key) (ds : List D) : Ow (.q ks ds) := trivial
theorem SlotHas.mv {W' : WS} {s : S} {v : V} (w : WL W H) (kk : Keep W H H') (hw : ∀ b, W' b → W b ∨ H b = none) (hq : ∀ b o, v = .ref b → W b → H₀ b = none → H b = some o → MutO o → W' b ∧ H' b = some o) (h : SlotHas K W₀ H₀ W H s v) : SlotHas K W₀ H₀ W' H' s v := by
  cases s with
  | d x => exact Has.keep kk w hw h
  | o ds =>
    obtain ⟨a, xs, e, h1, h2, h3, h4⟩ := h
    obtain ⟨g1, g2⟩ := hq a _ e h1 h2 h3 trivial
    exact ⟨a, xs, e, g1, h2, g2, HasL.keep kk w hw h4⟩
  | q ks ds =>
    obtain ⟨a, xs, e, h1, h2, h3, h4, h5⟩ := h
    obtain ⟨g1, g2⟩ := hq a _ e h1 h2 h3 trivial
    exact ⟨a, xs, e, g1, h2, g2, h4, HasL.keep kk w hw h5⟩
theorem SlotHas.own {s : S} {v : V} (h : SlotHas K W₀ H₀ W H s v) (o : Ow s) : ∃ a ob, v = .ref a ∧ W a ∧ H₀ a = none ∧ H a = some ob ∧ MutO ob := by
  cases s with
  | d x => exact o.elim
  | o ds =>
    obtain ⟨a, xs, e, h1, h2, h3, h4⟩ := h
    exact ⟨a, _, e, h1, h2, h3, trivial⟩
  | q ks ds =>
    obtain ⟨a, xs, e, h1, h2, h3, h4, h5⟩ := h
    exact ⟨a, _, e, h1, h2, h3, trivial⟩
theorem StHas.same (h : StHas K W₀ H₀ W H σ δ) (k : Same H H') : StHas K W₀ H₀ W H' σ δ :=
  ⟨h.fr.same k, h.len, fun i s e => let ⟨v, h1, h2⟩ := h.at' i s e; ⟨v, h1, h2.same h.fr.wl k⟩, h.ap⟩
theorem StHas.set {i : Nat} {x : D} {v : V} (h : StHas K W₀ H₀ W H σ δ) (q : Has K W H x v) : StHas K W₀ H₀ W H (σ.set i (some v)) (δ.set i (some (.d x))) := by
  refine ⟨h.fr, by simp [h.len], fun j s e => ?_, fun j k s1 s2 a hjk os ot e1 e2 e3 e4 => ?_⟩
  · by_cases hj : i = j
    · subst hj
      rw [List.getElem?_set_self'] at e ⊢
      cases q' : δ[i]? with
      | none => rw [q'] at e; cases e
      | some z =>
        rw [q'] at e
        have e' : some (S.d x) = some s := Option.some.inj e
        cases e'
        have hi : i < σ.length := by rw [h.len]; exact (List.getElem?_eq_some_iff.mp q').1
        exact ⟨v, by rw [List.getElem?_eq_getElem hi]; rfl, q⟩
    · rw [List.getElem?_set_ne hj] at e ⊢
      exact h.at' j s e
  · have hj : i ≠ j := by
      rintro rfl
      rw [List.getElem?_set_self'] at e1
      cases q' : δ[i]? with
      | none => rw [q'] at e1; cases e1
      | some z => rw [q'] at e1; cases e1; exact os
    have hk : i ≠ k := by
      rintro rfl
      rw [List.getElem?_set_self'] at e2
      cases q' : δ[i]? with
      | none => rw [q'] at e2; cases e2
      | some z => rw [q'] at e2; cases e2; exact ot
    rw [List.getElem?_set_ne hj] at e1 e3
    rw [List.getElem?_set_ne hk] at e2 e4
    exact h.ap j k s1 s2 a hjk os ot e1 e2 e3 e4
theorem StHas.ownG {W' : WS} {i : Nat} {sl : S} {ob : HO} {a : Addr} (h : StHas K W₀ H₀ W H σ δ) (k : Same H H') (ha : H a = none) (ha' : H' a = some ob) (mo : MutO ob) (q : SlotHas K W₀ H₀ (fun b => W b ∨ b = a) H' sl (.ref a)) :
    StHas K W₀ H₀ (fun b => W b ∨ b = a) H' (σ.set i (some (.ref a))) (δ.set i (some sl)) := by
  have hw : ∀ b, (W b ∨ b = a) → W b ∨ H b = none := fun b z => z.elim .inl fun z => .inr (by rw [z]; exact ha)
  have kk : Keep W H H' := Same.keep k
  have fr' : FrOk W₀ H₀ (fun b => W b ∨ b = a) H' := ⟨h.fr.ext.trans k, fun b z => .inl (h.fr.sub b z), fun b z => z.elim (h.fr.wl.same k b) fun z => by rw [z]; exact ⟨ob, ha', mo⟩, h.fr.wl0⟩
  have slot : ∀ {s : S} {v : V}, SlotHas K W₀ H₀ W H s v → SlotHas K W₀ H₀ (fun b => W b ∨ b = a) H' s v := fun {s v} z => z.mv h.fr.wl kk hw fun b o e h1 h2 h3 h4 => ⟨.inl h1, k _ _ h3⟩
  have old : ∀ (j : Nat) (t : S), Ow t → δ[j]? = some (some t) → σ[j]? ≠ some (some (.ref a)) := fun j t ot e z => by
    obtain ⟨v, h1, h2⟩ := h.at' j _ e
    obtain ⟨b, o, e', _, _, h3, _⟩ := h2.own ot
    rw [h1] at z
    cases z
    cases e'
    rw [ha] at h3; cases h3
  refine ⟨fr', by simp [h.len], fun j s e => ?_, fun j l s1 s2 b hjl os ot e1 e2 e3 e4 => ?_⟩
  · by_cases hj : i = j
    · subst hj
      rw [List.getElem?_set_self'] at e ⊢
      cases q' : δ[i]? with
      | none => rw [q'] at e; cases e
      | some z =>
        rw [q'] at e
        have e' : some sl = some s := Option.some.inj e
        cases e'
        have hi : i < σ.length := by rw [h.len]; exact (List.getElem?_eq_some_iff.mp q').1
        exact ⟨.ref a, by rw [List.getElem?_eq_getElem hi]; rfl, q⟩
    · rw [List.getElem?_set_ne hj] at e ⊢
      obtain ⟨v, h1, h2⟩ := h.at' j s e
      exact ⟨v, h1, slot h2⟩
  · have get : ∀ m : Nat, m ≠ i → ∀ {α : Type} (l : List α) (z : α), (l.set i z)[m]? = l[m]? := fun m hm α l z => List.getElem?_set_ne (Ne.symm hm)
    by_cases hj : j = i
    · have hl : l ≠ i := fun z => hjl (hj.trans z.symm)
      rw [get l hl] at e2 e4
      have hs : (σ.set i (some (V.ref a)))[j]? = some (some (V.ref a)) ∨ (σ.set i (some (V.ref a)))[j]? = none := by
        rw [hj, List.getElem?_set_self']
        cases σ[i]? <;> simp
      rcases hs with hs | hs
      · rw [hs] at e3; cases e3
        exact old l s2 ot e2 e4
      · rw [hs] at e3; cases e3
    · rw [get j hj] at e1 e3
      by_cases hl : l = i
      · have hs : (σ.set i (some (V.ref a)))[l]? = some (some (V.ref a)) ∨ (σ.set i (some (V.ref a)))[l]? = none := by
          rw [hl, List.getElem?_set_self']
          cases σ[i]? <;> simp
        rcases hs with hs | hs
        · rw [hs] at e4; cases e4
          exact old j s1 os e1 e3
        · rw [hs] at e4; cases e4
      · rw [get l hl] at e2 e4
        exact h.ap j l s1 s2 b hjl os ot e1 e2 e3 e4
theorem StHas.own {i : Nat} {ds : List D} {a : Addr} {xs : List V} (h : StHas K W₀ H₀ W H σ δ) (ha : H a = none) (q : HasL K W H ds xs) :
    StHas K W₀ H₀ (fun b => W b ∨ b = a) (upd H a (.lst xs)) (σ.set i (some (.ref a))) (δ.set i (some (.o ds))) := by
  have k : Same H (upd H a (.lst xs)) := fun b o e => by rw [upd_ne (ne_of_none e ha)]; exact e
  exact h.ownG (W' := W) k ha upd_same trivial ⟨a, xs, rfl, .inr rfl, Same.free h.fr.ext ha, upd_same, HasL.keep (Same.keep k) h.fr.wl (fun b z => z.elim .inl fun z => .inr (by rw [z]; exact ha)) q⟩
theorem StHas.changeG {i : Nat} {so sl : S} {ob : HO} {a : Addr} (h : StHas K W₀ H₀ W H σ δ) (oo : Ow so) (hi : δ[i]? = some (some so)) (hs : σ[i]? = some (some (.ref a))) (mo : MutO ob) (hW : W a) (q : H₀ a = none → Keep W H (upd H a ob) → SlotHas K W₀ H₀ W (upd H a ob) sl (.ref a)) (ol : Ow sl) :
    StHas K W₀ H₀ W (upd H a ob) σ (δ.set i (some sl)) := by
  have kk : Keep W H (upd H a ob) := fun b o e n => by
    rw [upd_ne (fun z => n (by rw [z]; exact hW))]; exact e
  have hw : ∀ b, W b → W b ∨ H b = none := fun b z => .inl z
  obtain ⟨v, h1, h2⟩ := h.at' i _ hi
  obtain ⟨b, o1, e', _, h0, h3, _⟩ := h2.own oo
  rw [hs] at h1
  cases h1
  cases e'
  have fr' : FrOk W₀ H₀ W (upd H a ob) := ⟨fun b o e => by rw [upd_ne (ne_of_none e h0)]; exact h.fr.ext _ _ e, h.fr.sub, fun b z => by
    by_cases hb : b = a
    · rw [hb]; exact ⟨ob, upd_same, mo⟩
    · rw [upd_ne hb]; exact h.fr.wl b z, h.fr.wl0⟩
  have hl : i < δ.length := (List.getElem?_eq_some_iff.mp hi).1
  refine ⟨fr', by simp [h.len], fun j s e => ?_, fun j l s1 s2 b hjl os ot e1 e2 e3 e4 => ?_⟩
  · by_cases hj : i = j
    · subst hj
      rw [List.getElem?_set_self hl] at e
      cases e
      exact ⟨.ref a, hs, q h0 kk⟩
    · rw [List.getElem?_set_ne hj] at e
      obtain ⟨v, h1, h2⟩ := h.at' j s e
      refine ⟨v, h1, ?_⟩
      cases s with
      | d x => exact Has.keep kk h.fr.wl hw h2
      | o ds => exact h2.mv h.fr.wl kk hw fun b o e1 h1' _ h3' _ => ⟨h1', by
          have hb : b ≠ a := fun z => by
            subst z; subst e1
            exact h.ap i j _ _ b hj oo (owo ds) hi e hs h1
          rw [upd_ne hb]; exact h3'⟩
      | q ks ds => exact h2.mv h.fr.wl kk hw fun b o e1 h1' _ h3' _ => ⟨h1', by
          have hb : b ≠ a := fun z => by
            subst z; subst e1
            exact h.ap i j _ _ b hj oo (owq ks ds) hi e hs h1
          rw [upd_ne hb]; exact h3'⟩
  · have own : ∀ (m : Nat) (t : S), Ow t → (δ.set i (some sl))[m]? = some (some t) → ∃ t', Ow t' ∧ δ[m]? = some (some t') := fun m t ot e => by
      by_cases hm : i = m
      · subst hm; exact ⟨so, oo, hi⟩
      · rw [List.getElem?_set_ne hm] at e; exact ⟨t, ot, e⟩
    obtain ⟨x1, o1, g1⟩ := own j s1 os e1
    obtain ⟨x2, o2, g2⟩ := own l s2 ot e2
    exact h.ap j l x1 x2 b hjl o1 o2 g1 g2 e3 e4
theorem StHas.change {i : Nat} {ds es : List D} {a : Addr} {xs ys : List V} (h : StHas K W₀ H₀ W H σ δ) (hi : δ[i]? = some (some (.o ds))) (hs : σ[i]? = some (some (.ref a))) (ha : H a = some (.lst xs)) (hW : W a) (q : HasL K W H es ys) :
    StHas K W₀ H₀ W (upd H a (.lst ys)) σ (δ.set i (some (.o es))) :=
  h.changeG (owo ds) hi hs trivial hW (fun h0 kk => ⟨a, ys, rfl, hW, h0, upd_same, HasL.keep kk h.fr.wl (fun b z => .inl z) q⟩) (owo es)
end
abbrev XW := Str → List D → Hp → Prop
section
variable (K : PySem.W.Frag) (xw : XW)
def RE (W : WS) (H : Hp) (r : Res D) (Q : VK) : Prop := match r with
  | .ok d => ∀ v H', Same H H' → Has K W H' d v → Q v H'
  | .ex c fs => ∀ H', Same H H' → xw c fs H'
  | .stuck => False
def HasT (W : WS) (H : Hp) (d : D) (v : V) : Prop := Has K W H d v ∨ ∃ ds a xs, d = .lst ds ∧ v = .ref a ∧ H a = some (.lst xs) ∧ HasL K W H ds xs
def RP (W : WS) (H : Hp) (r : Res D) (Q : VK) : Prop := match r with
  | .ok d => ∀ v H', Same H H' → HasT K W H' d v → Q v H'
  | .ex c fs => ∀ H', Same H H' → xw c fs H'
  | .stuck => False
def RF (W : WS) (H : Hp) (r : Res (List D)) (Q : VK) : Prop := match r with
  | .ok ds => ∀ a xs H1, Same H H1 → H1 a = none → HasL K W H1 ds xs → Q (.ref a) (upd H1 a (.lst xs))
  | .ex c fs => ∀ H', Same H H' → xw c fs H'
  | .stuck => False
def RT (H : Hp) (r : Res Bool) (Q : Bool → Hp → Prop) : Prop := match r with
  | .ok b => ∀ H', Same H H' → Q b H'
  | .ex c fs => ∀ H', Same H H' → xw c fs H'
  | .stuck => False
def RA (W : WS) (H : Hp) (r : Res (List D)) (Q : List V → Hp → Prop) : Prop := match r with
  | .ok ds => ∀ vs H', Same H H' → HasL K W H' ds vs → Q vs H'
  | .ex c fs => ∀ H', Same H H' → xw c fs H'
  | .stuck => False
def tDE (f : DSt → Res D) : TE := fun σ H Q => ∃ W₀ H₀ W δ, StHas K W₀ H₀ W H σ δ ∧ RE K xw W H (f δ) Q
def tDP (f : DSt → Res D) : TE := fun σ H Q => ∃ W₀ H₀ W δ, StHas K W₀ H₀ W H σ δ ∧ RP K xw W H (f δ) Q
def tDF (f : DSt → Res (List D)) : TE := fun σ H Q => ∃ W₀ H₀ W δ, StHas K W₀ H₀ W H σ δ ∧ RF K xw W H (f δ) Q
def tDT (f : DSt → Res Bool) : TT := fun σ H Q => ∃ W₀ H₀ W δ, StHas K W₀ H₀ W H σ δ ∧ RT xw H (f δ) Q
def tDA (f : DSt → Res (List D)) : TA := fun σ H Q => ∃ W₀ H₀ W δ, StHas K W₀ H₀ W H σ δ ∧ RA K xw W H (f δ) Q
end
def DE (X : Cx) (xw : XW) (e : Expr) (f : DSt → Res D) : Prop := PE X e (tDE X.K xw f)
def DP (X : Cx) (xw : XW) (e : Expr) (f : DSt → Res D) : Prop := PE X e (tDP X.K xw f)
def DF (X : Cx) (xw : XW) (e : Expr) (f : DSt → Res (List D)) : Prop := PE X e (tDF X.K xw f)
def DT (X : Cx) (xw : XW) (e : Expr) (f : DSt → Res Bool) : Prop := PT X e (tDT X.K xw f)
def DW (X : Cx) (xw : XW) (e : Expr) (f : DSt → Res Bool) : Prop := PW X e (tDT X.K xw f)
def DA (X : Cx) (xw : XW) (es : List Expr) (f : DSt → Res (List D)) : Prop := PA X es (tDA X.K xw f)
theorem PE.weak {X : Cx} {e : Expr} {t t' : TE} (h : PE X e t) (k : ∀ σ H Q, t' σ H Q → t σ H Q) : PE X e t' := fun pins s σ H Q I q => h pins s σ H Q I (k σ H Q q)
theorem PT.weak {X : Cx} {e : Expr} {t t' : TT} (h : PT X e t) (k : ∀ σ H Q, t' σ H Q → t σ H Q) : PT X e t' := fun pins s σ H Q I q => h pins s σ H Q I (k σ H Q q)
theorem PW.weak {X : Cx} {e : Expr} {t t' : TT} (h : PW X e t) (k : ∀ σ H Q, t' σ H Q → t σ H Q) : PW X e t' := fun wh pins s σ H Q I q => h wh pins s σ H Q I (k σ H Q q)
theorem PA.weak {X : Cx} {e : List Expr} {t t' : TA} (h : PA X e t) (k : ∀ σ H Q, t' σ H Q → t σ H Q) : PA X e t' := fun ps pins s σ H Q I q => h ps pins s σ H Q I (k σ H Q q)
section
variable {K : PySem.W.Frag} {xw : XW} {W : WS} {H H' : Hp} {Q : VK}
theorem RE.same {r : Res D} (h : RE K xw W H r Q) (k : Same H H') : RE K xw W H' r Q := by
  cases r with
  | ok d => exact fun v H2 k2 q => h v H2 (k.trans k2) q
  | ex c fs => exact fun H2 k2 => h H2 (k.trans k2)
  | stuck => exact h
theorem RF.same {r : Res (List D)} (h : RF K xw W H r Q) (k : Same H H') : RF K xw W H' r Q := by
  cases r with
  | ok d => exact fun a xs H1 k1 n q => h a xs H1 (k.trans k1) n q
  | ex c fs => exact fun H2 k2 => h H2 (k.trans k2)
  | stuck => exact h
theorem RT.same {r : Res Bool} {Q : Bool → Hp → Prop} (h : RT xw H r Q) (k : Same H H') : RT xw H' r Q := by
  cases r with
  | ok d => exact fun H2 k2 => h H2 (k.trans k2)
  | ex c fs => exact fun H2 k2 => h H2 (k.trans k2)
  | stuck => exact h
theorem RA.same {r : Res (List D)} {Q : List V → Hp → Prop} (h : RA K xw W H r Q) (k : Same H H') : RA K xw W H' r Q := by
  cases r with
  | ok d => exact fun v H2 k2 q => h v H2 (k.trans k2) q
  | ex c fs => exact fun H2 k2 => h H2 (k.trans k2)
  | stuck => exact h
theorem HasT.same {d : D} {v : V} (h : HasT K W H d v) (k : Same H H') (w : WL W H) : HasT K W H' d v := by
  rcases h with h | ⟨ds, a, xs, h1, h2, h3, h4⟩
  · exact .inl (h.same k w)
  · exact .inr ⟨ds, a, xs, h1, h2, k _ _ h3, h4.same k w⟩
theorem HasT.int {i : Int} {v : V} (h : HasT K W H (.int i) v) : v = .int i := by
  rcases h with h | ⟨ds, a, xs, h1, _⟩
  · rw [Has] at h; exact h
  · cases h1
theorem HasT.bl {i : Bool} {v : V} (h : HasT K W H (.bl i) v) : v = .bl i := by
  rcases h with h | ⟨ds, a, xs, h1, _⟩
  · rw [Has] at h; exact h
  · cases h1
theorem HasT.str {i : Str} {v : V} (h : HasT K W H (.str i) v) : v = .str i := by
  rcases h with h | ⟨ds, a, xs, h1, _⟩
  · rw [Has] at h; exact h
  · cases h1
theorem HasT.non {v : V} (h : HasT K W H .non v) : v = .non := by
  rcases h with h | ⟨ds, a, xs, h1, _⟩
  · rw [Has] at h; exact h
  · cases h1
theorem HasT.tup {ds : List D} {v : V} (h : HasT K W H (.tup ds) v) : ∃ a xs, v = .ref a ∧ SqT K H a xs ∧ HasL K W H ds xs := by
  rcases h with h | ⟨ds, a, xs, h1, _⟩
  · rw [Has] at h; exact h
  · cases h1
theorem HasT.lst {ds : List D} {v : V} (h : HasT K W H (.lst ds) v) : ∃ a xs, v = .ref a ∧ SqL K H a xs ∧ HasL K W H ds xs := by
  rcases h with h | ⟨ds, a, xs, h1, h2, h3, h4⟩
  · rw [Has] at h
    obtain ⟨a, xs, e, q, r⟩ := h
    exact ⟨a, xs, e, q.sq, r⟩
  · cases h1
    exact ⟨a, xs, h2, .of h3, h4⟩
end
end L3
namespace L3
open PySem PySem.Spec PyProof.Rows L2
def clOf (scope : Scope) (env : Env) : List (Str × Addr) := scope.names.foldl (fun cs y => if y.2 == .free then (match env.cells.lookup y.1 with | some a => (y.1, a) :: cs | none => cs) else cs) []
theorem clOf_go {env : Env} (names : List (Str × NameKind)) : ∀ (cs : List (Str × Addr)), (∀ y ∈ names, y.2 = .free → ∃ c, env.cells.lookup y.1 = some c) →
    (forIn names cs (fun (y : Str × NameKind) (r : List (Str × Addr)) => (do
      if (y.2 == NameKind.free) = true then do
        let a ← cellOf env y.1
        pure (ForInStep.yield ((y.1, a) :: r))
      else pure (ForInStep.yield r) : Sem (ForInStep (List (Str × Addr)))))) = (pure (names.foldl (fun cs y => if y.2 == .free then (match env.cells.lookup y.1 with | some a => (y.1, a) :: cs | none => cs) else cs) cs) : Sem _) := by
  induction names with
  | nil => intro cs _; rfl
  | cons y r ih =>
    intro cs h
    have h' : ∀ y ∈ r, y.2 = .free → ∃ c, env.cells.lookup y.1 = some c := fun z hz => h z (List.mem_cons_of_mem _ hz)
    rw [List.forIn_cons, List.foldl_cons]
    by_cases hk : y.2 = .free
    · obtain ⟨c, hc⟩ := h y List.mem_cons_self hk
      have hb : (y.2 == NameKind.free) = true := by rw [hk]; rfl
      simp only [hb, if_true, cellOf, hc, pure_bind]
      exact ih _ h'
    · have hb : (y.2 == NameKind.free) = false := by simpa using hk
      simp only [hb, Bool.false_eq_true, if_false, pure_bind]
      exact ih _ h'
theorem clOf_eq {scope : Scope} {env : Env} (h : ∀ y ∈ scope.names, y.2 = .free → ∃ c, env.cells.lookup y.1 = some c) : closureFor scope env = pure (clOf scope env) := by
  unfold closureFor clOf
  exact (congrArg (fun z => z >>= fun r => pure r) (clOf_go scope.names [] h)).trans (by simp)
theorem clOf_sub {env : Env} (names : List (Str × NameKind)) : ∀ (cs : List (Str × Addr)), (∀ x c, cs.lookup x = some c → env.cells.lookup x = some c) →
    ∀ x c, (names.foldl (fun cs y => if y.2 == .free then (match env.cells.lookup y.1 with | some a => (y.1, a) :: cs | none => cs) else cs) cs).lookup x = some c → env.cells.lookup x = some c := by
  induction names with
  | nil => intro cs h; exact h
  | cons y r ih =>
    intro cs h
    rw [List.foldl_cons]
    refine ih _ ?_
    split
    · split
      · rename_i a ha
        intro x c e
        rw [List.lookup_cons] at e
        by_cases hx : x = y.1
        · have : (x == y.1) = true := by rw [hx]; simp
          rw [this] at e
          have e' : a = c := Option.some.inj e
          rw [hx, ha, e']
        · have : (x == y.1) = false := by simpa using hx
          rw [this] at e
          exact h x c e
      · exact h
    · exact h
theorem clOf_has {env : Env} (names : List (Str × NameKind)) : ∀ (cs : List (Str × Addr)) (x : Str), ((∃ c, cs.lookup x = some c) ∨ ((x, NameKind.free) ∈ names ∧ ∃ c, env.cells.lookup x = some c)) →
    ∃ c, (names.foldl (fun cs y => if y.2 == .free then (match env.cells.lookup y.1 with | some a => (y.1, a) :: cs | none => cs) else cs) cs).lookup x = some c := by
  induction names with
  | nil =>
    intro cs x h
    rcases h with h | ⟨h, _⟩
    · exact h
    · simp at h
  | cons y r ih =>
    intro cs x h
    rw [List.foldl_cons]
    refine ih _ x ?_
    rcases h with ⟨c, h⟩ | ⟨h, c, hc⟩
    · left
      split
      · split
        · rename_i a ha
          rw [List.lookup_cons]
          cases hx : x == y.1 with
          | true => exact ⟨a, rfl⟩
          | false => exact ⟨c, h⟩
        · exact ⟨c, h⟩
      · exact ⟨c, h⟩
    · rcases List.mem_cons.mp h with h | h
      · left
        subst h
        simp only [beq_self_eq_true, if_true, hc]
        exact ⟨c, by rw [List.lookup_cons]; simp⟩
      · exact .inr ⟨h, c, hc⟩
theorem lookup_mapKey {g : Str → NameKind → NameKind} : ∀ (l : List (Str × NameKind)) (x : Str), (l.map fun y => (y.1, g y.1 y.2)).lookup x = (l.lookup x).map (g x)
  | [], _ => rfl
  | y :: r, x => by
    rw [List.map_cons, List.lookup_cons, List.lookup_cons]
    cases hx : x == y.1 with
    | true =>
      have : x = y.1 := by simpa using hx
      rw [this]; rfl
    | false => exact lookup_mapKey r x
theorem relabel_lookup (scope : Scope) (env : Env) (x : Str) : (relabel scope env).names.lookup x = (scope.names.lookup x).map fun k => if (k == .free && env.scope.kind == .function && env.kindOf x == some .cell) then .cell else k := by
  have e : (relabel scope env).names = scope.names.map fun y => (y.1, (fun n k => if (k == NameKind.free && env.scope.kind == .function && env.kindOf n == some .cell) then NameKind.cell else k) y.1 y.2) := by
    unfold relabel
    refine List.map_congr_left fun y _ => ?_
    obtain ⟨n, k⟩ := y
    dsimp only
    split <;> rfl
  rw [e]
  exact lookup_mapKey (g := fun n k => if (k == NameKind.free && env.scope.kind == .function && env.kindOf n == some .cell) then NameKind.cell else k) scope.names x
theorem clOf_mem {env : Env} (names : List (Str × NameKind)) : ∀ (cs : List (Str × Addr)) (x : Str) (c : Addr), (names.foldl (fun cs y => if y.2 == .free then (match env.cells.lookup y.1 with | some a => (y.1, a) :: cs | none => cs) else cs) cs).lookup x = some c → cs.lookup x = some c ∨ (x, NameKind.free) ∈ names := by
  induction names with
  | nil => intro cs x c h; exact .inl h
  | cons y r ih =>
    intro cs x c h
    rw [List.foldl_cons] at h
    rcases ih _ x c h with h | h
    · by_cases hf : y.2 = .free
      · by_cases hx : x = y.1
        · right; subst hx; rw [← hf]; exact List.mem_cons_self
        · left
          have hb : (y.2 == NameKind.free) = true := by rw [hf]; rfl
          have hxb : (x == y.1) = false := by simpa using hx
          simp only [hb, if_true] at h
          split at h
          · rw [List.lookup_cons, hxb] at h; exact h
          · exact h
      · left
        have hb : (y.2 == NameKind.free) = false := by simpa using hf
        simp only [hb, Bool.false_eq_true, if_false] at h
        exact h
    · exact .inr (List.mem_cons_of_mem _ h)
theorem cf_or : ∀ (names : List (Str × NameKind)) (n : Nat) (acc : List (Str × Addr)) (x : Str) (c : Addr), (cellsFrom n names acc).lookup x = some c → acc.lookup x = some c ∨ (n ≤ c ∧ (x, NameKind.cell) ∈ names)
  | [], _, _, _, _, h => .inl h
  | (y, k) :: r, n, acc, x, c, h => by
    unfold cellsFrom at h
    by_cases hk : (k == .cell) = true
    · rw [if_pos hk] at h
      have hk' : k = .cell := by simpa using hk
      rcases cf_or r (n + 1) _ x c h with h | ⟨h1, h2⟩
      · rw [List.lookup_cons] at h
        cases hx : x == y with
        | true =>
          rw [hx] at h
          have e : n = c := Option.some.inj h
          have ex : x = y := by simpa using hx
          subst ex; subst hk'
          exact .inr ⟨by omega, List.mem_cons_self⟩
        | false => rw [hx] at h; exact .inl h
      · exact .inr ⟨by omega, List.mem_cons_of_mem _ h2⟩
    · rw [if_neg hk] at h
      rcases cf_or r n acc x c h with h | ⟨h1, h2⟩
      · exact .inl h
      · exact .inr ⟨h1, List.mem_cons_of_mem _ h2⟩
theorem cf_old : ∀ (names : List (Str × NameKind)) (n : Nat) (acc : List (Str × Addr)) (x : Str), (x, NameKind.cell) ∉ names → (cellsFrom n names acc).lookup x = acc.lookup x
  | [], _, _, _, _ => rfl
  | (y, k) :: r, n, acc, x, h => by
    have hr : (x, NameKind.cell) ∉ r := fun z => h (List.mem_cons_of_mem _ z)
    unfold cellsFrom
    by_cases hk : (k == .cell) = true
    · rw [if_pos hk, cf_old r (n + 1) _ x hr, List.lookup_cons]
      have hk' : k = .cell := by simpa using hk
      have hx : (x == y) = false := by
        cases hx : x == y with
        | false => rfl
        | true =>
          have ex : x = y := by simpa using hx
          subst ex; subst hk'
          exact absurd List.mem_cons_self h
      rw [hx]
    · rw [if_neg hk]; exact cf_old r n acc x hr
theorem cf_inj : ∀ (names : List (Str × NameKind)) (n : Nat) (acc : List (Str × Addr)), (∀ x y c, acc.lookup x = some c → acc.lookup y = some c → x = y) → (∀ x c, acc.lookup x = some c → c < n) →
    ∀ x y c, (cellsFrom n names acc).lookup x = some c → (cellsFrom n names acc).lookup y = some c → x = y
  | [], _, _, h, _ => h
  | (z, k) :: r, n, acc, h, hb => by
    unfold cellsFrom
    by_cases hk : (k == .cell) = true
    · rw [if_pos hk]
      refine cf_inj r (n + 1) _ (fun x y c e1 e2 => ?_) fun x c e => ?_
      · rw [List.lookup_cons] at e1 e2
        cases hx : x == z with
        | true =>
          rw [hx] at e1
          have ec : n = c := Option.some.inj e1
          have ex : x = z := by simpa using hx
          cases hy : y == z with
          | true =>
            have ey : y = z := by simpa using hy
            rw [ex, ey]
          | false =>
            rw [hy] at e2
            have := hb y c e2
            rw [← ec] at this
            exact absurd this (Nat.lt_irrefl _)
        | false =>
          rw [hx] at e1
          cases hy : y == z with
          | true =>
            rw [hy] at e2
            have ec : n = c := Option.some.inj e2
            have := hb x c e1
            rw [← ec] at this
            exact absurd this (Nat.lt_irrefl _)
          | false => rw [hy] at e2; exact h x y c e1 e2
      · rw [List.lookup_cons] at e
        cases hx : x == z with
        | true =>
          rw [hx] at e
          have ec : n = c := Option.some.inj e
          rw [← ec]
          exact Nat.lt_succ_self _
        | false => rw [hx] at e; exact Nat.lt_succ_of_lt (hb x c e)
    · rw [if_neg hk]; exact cf_inj r n acc h hb
theorem cf_cell : ∀ (names : List (Str × NameKind)) (h : Heap) (acc : List (Str × Addr)), (∀ x c, acc.lookup x = some c → ∃ v, h.IsCell c v) → ∀ x c, (cellsFrom h.objs.size names acc).lookup x = some c → ∃ v, (pushCells h names).IsCell c v
  | [], _, _, hc => hc
  | (z, k) :: r, h, acc, hc => by
    unfold cellsFrom pushCells
    by_cases hk : (k == .cell) = true
    · rw [if_pos hk, if_pos hk]
      have := cf_cell r (h.push { cls := .type "cell", data := .cell none }) ((z, h.objs.size) :: acc) fun x c e => by
        rw [List.lookup_cons] at e
        cases hx : x == z with
        | true =>
          rw [hx] at e
          have ec : h.objs.size = c := Option.some.inj e
          subst ec
          exact ⟨none, _, Heap.get?_push_size _ rfl, rfl⟩
        | false =>
          rw [hx] at e
          obtain ⟨v, q⟩ := hc x c e
          exact ⟨v, q.keeps fun b o e => Heap.get?_push_of_some _ e⟩
      rw [Heap.size_push] at this
      exact this
    · rw [if_neg hk, if_neg hk]; exact cf_cell r h acc hc
def ccOf (scope : Scope) (env : Env) (C : Addr) : List (Str × Addr) := cellsFrom (C + 1) scope.names (clOf scope env)
theorem wpAny_newCompEnv {M : Model} {A : Around} {E : Value → Shared → Prop} {s : Shared} {scope : Scope} {globals : Addr} {cl : List (Str × Addr)} {qual : Str} {env : Env} {Q : Env → Shared → Prop}
    (hQ : Q { scope := scope, locals := s.heap.objs.size, globals := globals, cells := cellsFrom (s.heap.objs.size + 1) scope.names cl, qual := qual, func := none, code := env.code, frame := env.frame, builtins := env.builtins }
      { s with heap := pushCells (s.heap.push { cls := .type "dict", data := .dict #[] }) scope.names }) :
    wpAny M A (newFunctionEnv scope globals cl [] qual none .none (some env)) Q E s := by
  simp only [newFunctionEnv, Option.isSome_some, if_true]
  refine wpAny_bind (wpAny_alloc ?_)
  refine wpAny_bind (wpAny_layCells _ (fun name kind cells => by cases hkc : kind == NameKind.cell <;> simp [hkc]) _ _ _ _ ?_)
  rw [show ({ s with heap := s.heap.push { cls := .type "dict", data := .dict #[] } } : Shared).heap.objs.size = s.heap.objs.size + 1 from Heap.size_push ..]
  refine wpAny_bind ?_
  rw [List.forIn_nil]
  exact wpAny_pure (wpAny_pure hQ)
theorem ns_newDict {h : Heap} {names : List (Str × NameKind)} : (pushCells (h.push { cls := .type "dict", data := .dict #[] }) names).Ns h.objs.size fun _ => none := (Heap.Ns.new h (.type "dict")).keeps (pushCells_keeps _ _)
def compCx (X : Cx) (scope : Scope) (Nc Nx : List Str) (C : Addr) (fp : List Addr) (pins : List (Addr × Obj)) (s : Shared) (H : Hp) : Cx :=
  { X with N := Nc ++ Nx, s₀ := s, H₀ := H, env := compEnvC scope (ccOf scope X.env C) C X.env, outer := X.stack, stack := X.stack, ex := fp, fn := fun x => scope.names.lookup x == some .cell, pn := X.pn ++ pins, xe := fun _ _ => False }
structure CompOk (X : Cx) (scope : Scope) (Nc Nx : List Str) : Prop where
  kind : scope.kind = .function
  one : ∀ y ∈ scope.names, scope.names.lookup y.1 = some y.2
  free : ∀ y ∈ scope.names, y.2 = .free → X.env.kindOf y.1 = some .cell ∨ X.env.kindOf y.1 = some .free
  same : Nx.length = X.N.length
  dis : ∀ p ∈ Nx.zip X.N, (p.1 = p.2 ∧ scope.names.lookup p.2 ≠ some .local ∧ scope.names.lookup p.2 ≠ some .cell) ∨ scope.names.lookup p.1 = none
section
variable {X : Cx} {scope : Scope} {Nc Nx : List Str}
theorem CompOk.loc (c : CompOk X scope Nc Nx) : ∀ y ∈ scope.names, y.2 = .local → scope.names.lookup y.1 = some .local := fun y hy h => by rw [c.one y hy, h]
theorem CompOk.old (c : CompOk X scope Nc Nx) {x : Str} {k : NameKind} (h : scope.names.lookup x = some k) (hk : k ≠ .cell) : (x, NameKind.cell) ∉ scope.names := fun z => by
  have := c.one _ z
  rw [h] at this
  exact hk (Option.some.inj this)
theorem CompOk.cells (c : CompOk X scope Nc Nx) (ok : X.Ok) : ∀ y ∈ scope.names, y.2 = .free → ∃ a, X.env.cells.lookup y.1 = some a := fun y hy hf => ok.has y.1 (c.free y hy hf)
theorem compCl_sub {x : Str} {a : Addr} (h : (clOf scope X.env).lookup x = some a) : X.env.cells.lookup x = some a := clOf_sub scope.names [] (fun _ _ e => by simp at e) x a h
theorem ccOf_or (C : Addr) {x : Str} {a : Addr} (h : (ccOf scope X.env C).lookup x = some a) : X.env.cells.lookup x = some a ∨ (C < a ∧ (x, NameKind.cell) ∈ scope.names) := by
  rcases cf_or _ _ _ x a h with h | ⟨h1, h2⟩
  · exact .inl (compCl_sub h)
  · exact .inr ⟨h1, h2⟩
theorem ccOf_new (c : CompOk X scope Nc Nx) (C : Addr) {x : Str} {a : Addr} (hx : scope.names.lookup x = some .cell) (h : (ccOf scope X.env C).lookup x = some a) : C < a := by
  rcases cf_or _ _ _ x a h with h | ⟨h1, _⟩
  · rcases clOf_mem scope.names [] x a h with h | h
    · simp at h
    · have := c.one _ h
      rw [hx] at this
      cases this
  · exact h1
theorem ccOf_old (c : CompOk X scope Nc Nx) (C : Addr) {x : Str} {k : NameKind} (hx : scope.names.lookup x = some k) (hk : k ≠ .cell) : (ccOf scope X.env C).lookup x = (clOf scope X.env).lookup x := cf_old _ _ _ x (c.old hx hk)
theorem inv_comp {pins : List (Addr × Obj)} {σ : L2.St} {H : Hp} {s : Shared} {fp : List Addr} {tk : Nat} (c : CompOk X scope Nc Nx) (I : Inv X pins σ H s) (hf : ∀ b ∈ fp, FpOk X pins H b ∧ b < s.heap.objs.size) :
    Inv (compCx X scope Nc Nx s.heap.objs.size fp pins s H) [] (List.replicate Nc.length none ++ σ) H { s with heap := pushCells (s.heap.push { cls := .type "dict", data := .dict #[] }) scope.names, toks := tk } := by
  have hn : (pushCells (s.heap.push { cls := .type "dict", data := .dict #[] }) scope.names).Ns s.heap.objs.size fun _ => none := ns_newDict
  have hk : ∀ b o, s.heap.get? b = some o → (pushCells (s.heap.push { cls := .type "dict", data := .dict #[] }) scope.names).get? b = some o := fun b o e => pushCells_keeps _ _ _ _ (Heap.get?_push_of_some _ e)
  have cellLt : ∀ x a, X.env.cells.lookup x = some a → a < s.heap.objs.size := fun x a e => by
    obtain ⟨v, q⟩ := I.cell x a e
    exact q.lt
  have hokind : (compEnvC scope (ccOf scope X.env s.heap.objs.size) s.heap.objs.size X.env).scope.kind = .function := c.kind
  have kinds : ∀ x, ((relabel scope X.env).names.lookup x = some .cell ∨ (relabel scope X.env).names.lookup x = some .free) → scope.names.lookup x = some .cell ∨ scope.names.lookup x = some .free := fun x hx' => by
    rw [relabel_lookup] at hx'
    cases q : scope.names.lookup x with
    | none => rw [q] at hx'; simp at hx'
    | some k =>
      rw [q] at hx'
      by_cases hkf : k = .free
      · rw [hkf]; exact .inr rfl
      · have hb : (k == NameKind.free) = false := by simpa using hkf
        simp only [Option.map_some, hb, Bool.false_and, Bool.false_eq_true, if_false] at hx'
        exact hx'
  refine ⟨⟨I.ok.mod, hokind, I.ok.glob, I.ok.blt, Nat.le_refl _, ?_, fun x hx => ?_, fun x a hx e => ?_, I.ok.hd, I.ok.frames, .inl rfl, fun b hb => ⟨?_, fun x a e => ?_⟩, I.bs, Nat.le_trans I.ok.bsz I.sz, fun b o e hb => ?_, fun b hb => ?_, I.stack, I.stkFree⟩,
    rfl, I.bare, Un.kept hk, ⟨_, hn, fun i x v h1 h2 h3 => ?_⟩, ?_, I.hok.fresh (Nat.le_refl _), fun x a e => ?_, fun p hp => ?_, I.hok.kept hk, ?_⟩
  · exact cf_inj scope.names _ _ (fun x y a h1 h2 => I.ok.inj x y a (compCl_sub h1) (compCl_sub h2)) fun x a h => Nat.lt_succ_of_lt (cellLt x a (compCl_sub h))
  · rcases kinds x hx with hc | hfree
    · exact Option.isSome_iff_exists.mp (PySem.W.cellsFrom_some scope.names _ _ (.inl hc))
    · have hm := PySem.mem_of_lookup hfree
      obtain ⟨a, e⟩ := clOf_has (env := X.env) scope.names [] x (.inr ⟨hm, c.cells I.ok _ hm rfl⟩)
      exact ⟨a, (ccOf_old c _ hfree (by decide)).trans e⟩
  · have hx' : (scope.names.lookup x == some NameKind.cell) = true := hx
    exact Nat.le_of_lt (ccOf_new c _ (by simpa using hx') e)
  · exact Nat.ne_of_lt (hf b hb).2
  · rcases ccOf_or _ e with e | ⟨e, _⟩
    · exact (hf b hb).1.2.2.2.2.1 x a e
    · have := (hf b hb).2
      exact Nat.ne_of_gt (Nat.lt_trans this e)
  · obtain ⟨_, hb2⟩ := I.bs b o e
    rcases (hf b hb).1.2.2.2.1 with z | z
    · exact I.ok.noex b o e z
    · exact absurd (Nat.lt_of_lt_of_le (Heap.lt_size e) (Nat.le_trans I.ok.bsz z)) (Nat.lt_irrefl _)
  · intro z
    rcases List.mem_cons.mp (I.stkSub b z) with q | q
    · exact (hf b hb).1.2.1 q
    · exact (hf b hb).1.2.2.1 q
  · have hi : Nc.length ≤ i := by
      refine Nat.le_of_not_lt fun q => ?_
      rw [List.getElem?_append_left (by simpa using q), List.getElem?_replicate] at h2
      split at h2 <;> cases h2
    have h1' : Nx[i - Nc.length]? = some x := by
      have z : (Nc ++ Nx)[i]? = some x := h1
      rw [List.getElem?_append_right hi] at z; exact z
    have h2' : σ[i - Nc.length]? = some (some v) := by
      rw [List.getElem?_append_right (by simpa using hi), List.length_replicate] at h2; exact h2
    have h3' : (relabel scope X.env).names.lookup x = some .local ∨ (relabel scope X.env).names.lookup x = some .cell ∨ (relabel scope X.env).names.lookup x = some .free := h3
    have hz : i - Nc.length < X.N.length := by
      rw [← c.same]
      refine Nat.lt_of_not_le fun q => ?_
      rw [List.getElem?_eq_none q] at h1'; cases h1'
    have hd2 := c.dis (x, X.N[i - Nc.length]'hz) (List.mem_of_getElem? (i := i - Nc.length) (by
      rw [List.getElem?_zip_eq_some]
      exact ⟨h1', List.getElem?_eq_getElem hz⟩))
    have hd3 : X.N[i - Nc.length]? = some x ∧ scope.names.lookup x ≠ some .local ∧ scope.names.lookup x ≠ some .cell := by
      rcases hd2 with ⟨q1, q2⟩ | q
      · have q1' : x = X.N[i - Nc.length]'hz := q1
        have q2' : scope.names.lookup (X.N[i - Nc.length]'hz) ≠ some .local ∧ scope.names.lookup (X.N[i - Nc.length]'hz) ≠ some .cell := q2
        rw [← q1'] at q2'
        exact ⟨by rw [List.getElem?_eq_getElem hz, ← q1'], q2'⟩
      · exfalso
        have q' : scope.names.lookup x = none := q
        rw [relabel_lookup, q'] at h3'
        simp at h3'
    obtain ⟨h1', hnl, hnc⟩ := hd3
    have hfree : scope.names.lookup x = some .free := by
      rcases h3' with z | z
      · rw [relabel_lookup] at z
        cases q : scope.names.lookup x with
        | none => rw [q] at z; simp at z
        | some k =>
          rw [q] at z
          by_cases hkf : k = .free
          · rw [hkf]
          · have hb : (k == NameKind.free) = false := by simpa using hkf
            simp only [Option.map_some, hb, Bool.false_and, Bool.false_eq_true, if_false] at z
            rw [q] at hnl; exact absurd z hnl
      · rcases kinds x z with z | z
        · exact absurd z hnc
        · exact z
    have hm := PySem.mem_of_lookup hfree
    have hkx := c.free _ hm rfl
    obtain ⟨mX, hnX, hl⟩ := I.loc
    obtain ⟨u, r, l⟩ := hl _ x v h1' h2' (hkx.elim (fun z => .inr (.inl z)) fun z => .inr (.inr z))
    refine ⟨u, r, ?_⟩
    rcases l with ⟨z, _⟩ | ⟨_, a, e, z⟩
    · have z' : X.env.kindOf x = some .local := z
      rcases hkx with q | q <;> · rw [z'] at q; cases q
    · obtain ⟨a', e'⟩ := clOf_has (env := X.env) scope.names [] x (.inr ⟨hm, c.cells I.ok _ hm rfl⟩)
      have ea : a' = a := by
        have := compCl_sub (X := X) e'
        rw [e] at this
        exact (Option.some.inj this).symm
      subst ea
      refine .inr ⟨?_, a', (ccOf_old c _ hfree (by decide)).trans e', ?_⟩
      · show (relabel scope X.env).names.lookup x = some .cell ∨ (relabel scope X.env).names.lookup x = some .free
        rw [relabel_lookup, hfree]
        simp only [Option.map_some]
        split
        · exact .inl rfl
        · exact .inr rfl
      · obtain ⟨o, ho, hd⟩ := z
        exact ⟨o, hk _ _ ho, hd⟩
  · have q := cf_cell scope.names (s.heap.push { cls := .type "dict", data := .dict #[] }) (clOf scope X.env) fun x a e => by
      obtain ⟨v, z⟩ := I.cell x a (compCl_sub e)
      exact ⟨v, z.keeps fun b o e => Heap.get?_push_of_some _ e⟩
    rw [Heap.size_push] at q
    exact q
  · rcases ccOf_or _ e with e | ⟨e, _⟩
    · exact I.freeC x a e
    · exact I.hok.fresh (Nat.le_of_lt e)
  · have hp' : p ∈ X.pn ++ pins := by
      have z : p ∈ (X.pn ++ pins) ++ [] := hp
      rwa [List.append_nil] at z
    obtain ⟨e, n, ne, nf, d⟩ := I.pin p hp'
    refine ⟨hk _ _ e, n, Nat.ne_of_lt (Heap.lt_size e), fun z => ?_, d⟩
    rcases List.mem_cons.mp (I.stkSub p.1 z) with q | q
    · exact ne q
    · exact nf q
  · show _ = (Nc ++ Nx).length
    rw [List.length_append, List.length_append, List.length_replicate, I.len, c.same]
theorem inv_back {pins : List (Addr × Obj)} {σ σ' : L2.St} {H H' : Hp} {s s' : Shared} {fp : List Addr} {h'' : Heap} (I : Inv X pins σ H s) (hf : ∀ b ∈ fp, FpOk X pins H b)
    (J : Inv (compCx X scope Nc Nx s.heap.objs.size fp pins s H) [] σ' H' s') (hs : Heap.SameBut s.heap.objs.size s'.heap h'') : Inv X pins σ H' { s' with heap := h'' } := by
  have u : Un (frs X.stack) fp H H' s.heap s'.heap := J.base
  have hC : H' s.heap.objs.size = none := J.free
  have keep : ∀ b o, b ≠ s.heap.objs.size → s'.heap.get? b = some o → h''.get? b = some o := fun b o hb e => by rw [hs.2 b hb]; exact e
  have lt : ∀ b o, s.heap.get? b = some o → b ≠ s.heap.objs.size := fun b o e => Nat.ne_of_lt (Heap.lt_size e)
  refine I.call' (s' := { s' with heap := h'' }) (ch := fp) J.os ⟨fun b o e n h1 h2 => keep b o (lt b o e) (u.keep b o e n h1 h2), fun b o e n h1 h2 => ?_, u.free, fun b o e h1 => ?_, u.tups, u.frzs, u.tbls⟩ (fun b o e => ?_) J.bare fun b hb => ?_
  · obtain ⟨sl, q⟩ := u.slot b o e n h1 h2
    exact ⟨sl, keep b _ (lt b o e) q⟩
  · obtain ⟨o', q⟩ := u.there b o e h1
    exact ⟨o', keep b _ (lt b o e) q⟩
  · refine (J.hok b o e).stay (fun c v hc q => keep c v (fun z => ?_) q) (fun _ q => q) fun _ _ q => q
    subst z
    rcases hc with z | z
    · rw [← z, hC] at e; cases e
    · rw [hC] at z; cases z
  · exact ⟨(hf b hb).2.2.2.1, (hf b hb).2.1, (hf b hb).2.2.2.2.1, (hf b hb).2.2.2.2.2⟩
end
end L3
namespace L3
open PySem PySem.Spec PyProof.Rows L2
theorem compLoop_go {prog : Program} {w : World} {A : Around} {R : Result → Shared → Prop} {s : Shared} {elt target iter : Expr} {ifs : List Expr} {scope : Scope} {pos : Pos} {it acc : Value} {env : Env} (I : Nat → Shared → Prop)
    (turn : ∀ n s, I n s → wpAny (model prog w) A (pyNext it) (fun r s₁ => match r with
      | none => R (.ok .next) s₁
      | some v => wpAny (model prog w) A (letOwnedTupleGo target it v) (fun _ s₁' => wpAny (model prog w) A (assign target env v) (fun _ s₂ =>
          wpAny (model prog w) A (forIn ifs true fun c r => if r = true then do let ok ← isTrue c env (eval c env); pure (ForInStep.yield ok) else pure (ForInStep.yield r)) (fun ok s₃ =>
            if ok = true then wpAny (model prog w) A (eval elt env) (fun x s₄ =>
              wpAny (model prog w) A (call (.builtin "list.append") [acc, x]) (fun _ s₅ => ∃ m, m < n ∧ I m s₅) (fun _ _ => False) s₄) (fun _ _ => False) s₃
            else ∃ m, m < n ∧ I m s₃) (fun _ _ => False) s₂) (fun _ _ => False) s₁') (fun _ _ => False) s₁) (fun _ _ => False) s)
    (n : Nat) (h : I n s) :
    codeAny (model prog w) A (.compLoop (.ListComp elt [⟨target, iter, ifs, 0⟩] scope pos) 0 it acc env) R s := by
  refine codeAny_loop rfl I (fun n s hI => ?_) n h
  show wpAny _ A ((compTurn (.ListComp elt [⟨target, iter, ifs, 0⟩] scope pos) 0 it acc env).onRaise (fun x => do noteFrame x env; theTreesLotGoes x)) _ _ s
  refine wpAny_noted ?_
  rw [compTurn_list]
  refine wpAny_bind (wpAny_standAt (wpAny_bind (wpAny_mono (turn n s hI) (fun r s₁ h₁ => ?_) fun _ _ h' => h'.elim)))
  cases r with
  | none => exact wpAny_pure h₁
  | some v =>
    refine wpAny_bind (wpAny_mono h₁ (fun _ s₁' h₁' => wpAny_bind (wpAny_mono h₁' (fun _ s₂ h₂ => wpAny_bind (wpAny_mono h₂ (fun ok s₃ h₃ => ?_) fun _ _ h' => h'.elim)) fun _ _ h' => h'.elim)) fun _ _ h' => h'.elim)
    cases ok with
    | false => exact wpAny_pure ⟨rfl, h₃⟩
    | true =>
      exact wpAny_bind (wpAny_bind (wpAny_mono h₃ (fun x s₄ h₄ => wpAny_bind (wpAny_mono h₄ (fun _ s₅ h₅ => wpAny_pure (wpAny_pure ⟨rfl, h₅⟩)) fun _ _ h' => h'.elim)) fun _ _ h' => h'.elim))
def PTs (X : Cx) (ifs : List Expr) (t : TT) : Prop :=
  ∀ (pins : List (Addr × Obj)) (s : Shared) (σ : L2.St) (H : Hp) (Q : Bool → Hp → Prop), Inv X pins σ H s → t σ H Q →
    wpAny (model X.prog X.w) X.A (forIn ifs true fun c r => if r = true then do let ok ← isTrue c X.env (eval c X.env); pure (ForInStep.yield ok) else pure (ForInStep.yield r)) (TP X pins σ Q) X.xe s
def tYes : TT := fun _ H Q => Q true H
theorem pts_nil {X : Cx} : PTs X [] tYes := fun _ s σ H Q I h => wpAny_tests_nil ⟨H, I, h⟩
theorem pts_one {X : Cx} {c : Expr} {t : TT} (h : PT X c t) : PTs X [c] t := fun pins s σ H Q I q => wpAny_tests_one (h pins s σ H Q I q)
def tComp (n : Nat) (wi : TI) (g : TG) (tt : TT) (te : TE) : TE := fun σ H Q => wi σ H fun J H1 => ∀ a, H1 a = none → ∃ W : Nat → Nat → List V → L2.St → Hp → Prop, (∃ m, W 0 m [] (List.replicate n none ++ σ) (upd H1 a (.lst []))) ∧
  ∀ i m xs σ' H, W i m xs σ' H → H a = some (.lst xs) ∧ ((J.stop i H ∧ Q (.ref a) H) ∨ (J.go i H ∧ ∀ x H', J.yld i H x H' → g x σ' H' fun σ2 H2 => tt σ2 H2 fun b H3 =>
    if b = true then te σ2 H3 fun y H4 => H4 a = some (.lst xs) ∧ xs.length < sizeLine ∧ ∃ m', m' < m ∧ W (i + 1) m' (xs ++ [y]) σ2 (upd H4 a (.lst (xs ++ [y]))) else ∃ m', m' < m ∧ W (i + 1) m' xs σ2 H3))
section
variable {X : Cx} {scope : Scope} {Nc Nx : List Str} {elt tg iter : Expr} {ifs : List Expr} {pos : Pos} {wi : TI} {g : TG} {tt : TT} {te : TE}
theorem comp_block (c : CompOk X scope Nc Nx) (hcalm : X.calm = true)
    (hY : ∀ (C : Addr) (fp : List Addr) (pins : List (Addr × Obj)) (s : Shared) (H : Hp), PG (compCx X scope Nc Nx C fp pins s H) tg g ∧ PTs (compCx X scope Nc Nx C fp pins s H) ifs tt ∧ PE (compCx X scope Nc Nx C fp pins s H) elt te)
    {pins : List (Addr × Obj)} {σ : L2.St} {s2 : Shared} {it : Addr} {fp : List Addr} {tn : Nat → Heap → Prop} {J : It} {H1 : Hp} {Q : V → Hp → Prop} {RR : Value → Addr → Result → Shared → Prop} {E : Value → Shared → Prop}
    (I : Inv X pins σ H1 s2) (T : Turn X.prog X.w X.K tg J fp it tn) (st : tn 0 s2.heap) (hf : ∀ b ∈ fp, FpOk X pins H1 b)
    (h : ∀ a, H1 a = none → ∃ W : Nat → Nat → List V → L2.St → Hp → Prop, (∃ m, W 0 m [] (List.replicate Nc.length none ++ σ) (upd H1 a (.lst []))) ∧
  ∀ i m xs σ' H, W i m xs σ' H → H a = some (.lst xs) ∧ ((J.stop i H ∧ Q (.ref a) H) ∨ (J.go i H ∧ ∀ x H', J.yld i H x H' → g x σ' H' fun σ2 H2 => tt σ2 H2 fun b H3 =>
    if b = true then te σ2 H3 fun y H4 => H4 a = some (.lst xs) ∧ xs.length < sizeLine ∧ ∃ m', m' < m ∧ W (i + 1) m' (xs ++ [y]) σ2 (upd H4 a (.lst (xs ++ [y]))) else ∃ m', m' < m ∧ W (i + 1) m' xs σ2 H3)))
    (hRR : ∀ a H' σ' s' s3, Inv X pins σ (upd H1 a (.lst [])) s3 → (∀ b ∈ fp, FpOk X pins (upd H1 a (.lst [])) b) → Inv (compCx X scope Nc Nx s3.heap.objs.size fp pins s3 (upd H1 a (.lst []))) [] σ' H' s' → Q (.ref a) H' → RR (.ref a) s3.heap.objs.size (.ok .next) s') :
    wpAny (model X.prog X.w) X.A (newList []) (fun acc s₃ => wpAny (model X.prog X.w) X.A (newFunctionEnv scope X.env.globals (clOf scope X.env) [] X.env.qual none .none (some X.env)) (fun cenv s₄ =>
      codeAny (model X.prog X.w) X.A (.compStart (.ListComp elt [⟨tg, iter, ifs, 0⟩] scope pos) 0 (.ref it) acc { cenv with scope := relabel scope X.env }) (RR acc cenv.locals) s₄) E s₃) E s2 := by
  have hfree : H1 s2.heap.objs.size = none := I.hok.fresh (Nat.le_refl _)
  refine wpAny_newObj_type (wpAny_newCompEnv ?_)
  dsimp only
  generalize ea : s2.heap.objs.size = a at hfree
  have I3 : Inv X pins σ (upd H1 a (.lst [])) { s2 with heap := s2.heap.push { cls := .type "list", dict := none, data := .seq ([] : List Value).toArray }, toks := s2.toks } := by
    subst ea
    exact I.laid (t' := s2.toks) (fun b u e => Heap.get?_push_of_some _ e) (Nat.le_refl _) ⟨Nat.zero_le _, [], _, .nil, Heap.get?_push_size _ rfl⟩
  generalize eS : ({ s2 with heap := s2.heap.push { cls := .type "list", dict := none, data := .seq ([] : List Value).toArray }, toks := s2.toks } : Shared) = s3 at I3
  have e3h : s3.heap = s2.heap.push { cls := .type "list", dict := none, data := .seq ([] : List Value).toArray } := by rw [← eS]
  have obj0 := T.obj 0 _ st
  have hf3 : ∀ b ∈ fp, FpOk X pins (upd H1 a (.lst [])) b := fun b hb => by
    obtain ⟨o, e, _⟩ := obj0 b hb
    have : b ≠ a := by rw [← ea]; exact Nat.ne_of_lt (Heap.lt_size e)
    exact ⟨by rw [upd_ne this]; exact (hf b hb).1, (hf b hb).2⟩
  have up : ∀ b o, s2.heap.get? b = some o → s3.heap.get? b = some o := fun b o e => by rw [e3h]; exact Heap.get?_push_of_some _ e
  have hf3' : ∀ b ∈ fp, FpOk X pins (upd H1 a (.lst [])) b ∧ b < s3.heap.objs.size := fun b hb => ⟨hf3 b hb, by
    obtain ⟨o, e, _⟩ := obj0 b hb
    exact Heap.lt_size (up b o e)⟩
  have eC : (s2.heap.push { cls := .type "list", dict := none, data := .seq ([] : List Value).toArray }).objs.size = s3.heap.objs.size := by rw [e3h]
  generalize eh : pushCells ((s2.heap.push { cls := .type "list", dict := none, data := .seq ([] : List Value).toArray }).push { cls := .type "dict", data := .dict #[] }) scope.names = h₁
  have hk4 : ∀ b o, s3.heap.get? b = some o → h₁.get? b = some o := fun b o e => by
    rw [← eh, ← e3h]
    exact pushCells_keeps _ _ _ _ (Heap.get?_push_of_some _ e)
  have I4 := inv_comp (tk := s2.toks) c I3 hf3'
  have e4 : ({ s3 with heap := pushCells (s3.heap.push { cls := .type "dict", data := .dict #[] }) scope.names, toks := s2.toks } : Shared) = { s2 with heap := h₁ } := by rw [← eh, ← eS]
  rw [e4] at I4
  obtain ⟨W, ⟨m0, w0⟩, turn⟩ := h a hfree
  obtain ⟨hg, htt, hte⟩ := hY s3.heap.objs.size fp pins s3 (upd H1 a (.lst []))
  have loop : codeAny (model X.prog X.w) X.A (.compLoop (.ListComp elt [⟨tg, iter, ifs, 0⟩] scope pos) 0 (.ref it) (.ref a) (compEnvC scope (ccOf scope X.env s3.heap.objs.size) s3.heap.objs.size X.env)) (RR (.ref a) s3.heap.objs.size) { s2 with heap := h₁ } := by
    refine compLoop_go (fun n s' => ∃ i xs σ' H', Inv (compCx X scope Nc Nx s3.heap.objs.size fp pins s3 (upd H1 a (.lst []))) [] σ' H' s' ∧ tn i s'.heap ∧ (∀ b ∈ fp, H' b = none) ∧ W i n xs σ' H') ?_ m0
      ⟨0, [], _, _, I4, T.keep _ _ _ st fun b _ o e => hk4 b o (up b o e), fun b hb => (hf3 b hb).1, w0⟩
    rintro n s5 ⟨i, xs, σ5, H5, I5, st5, fr5, w5⟩
    have stat : ∀ {H' : Hp}, (∀ b ∈ fp, H' b = none) → ∀ b ∈ fp, FpOk (compCx X scope Nc Nx s3.heap.objs.size fp pins s3 (upd H1 a (.lst []))) [] H' b := fun {H'} hn b hb => by
      obtain ⟨_, f1, f2, f3, f4, f5⟩ := hf3 b hb
      refine ⟨hn b hb, Nat.ne_of_lt (hf3' b hb).2, fun z => ?_, .inl hb, fun x cc e => (ccOf_or _ e).elim (fun e => f4 x cc e) fun e => Nat.ne_of_gt (Nat.lt_trans (hf3' b hb).2 e.1), fun p hp => f5 p ?_⟩
      · rcases List.mem_cons.mp (I3.stkSub b z) with q | q
        · exact f1 q
        · exact f2 q
      · have z : p ∈ (X.pn ++ pins) ++ [] := hp
        rwa [List.append_nil] at z
    obtain ⟨hxs, alt⟩ := turn i n xs σ5 H5 w5
    rcases alt with ⟨stop, qn⟩ | ⟨go, step⟩
    · refine wpAny_mono (T.done (compCx X scope Nc Nx s3.heap.objs.size fp pins s3 (upd H1 a (.lst []))) rfl rfl rfl hcalm i [] s5 σ5 H5 (fun _ _ => False) I5 (stat fr5) st5 stop) (fun r s6 ⟨hr, I6⟩ => ?_) fun _ _ z => z
      subst hr
      exact hRR a H5 σ5 s6 s3 I3 hf3 I6 qn
    · refine wpAny_mono (T.item (compCx X scope Nc Nx s3.heap.objs.size fp pins s3 (upd H1 a (.lst []))) rfl rfl rfl hcalm i [] s5 σ5 H5 (fun _ _ => False) I5 (stat fr5) st5 go) (fun r s6 ⟨u, hr, h6⟩ => ?_) fun _ _ z => z
      subst hr
      refine wpAny_mono h6 (fun _ s7 ⟨x, H7, I7, r7, y7, st7, fr7⟩ => ?_) fun _ _ z => z
      have I7' := I7.pinned (stat fr7) (T.obj _ _ st7)
      have fin : ∀ {σ9 : L2.St} {H9 : Hp} {s9 : Shared}, Inv (compCx X scope Nc Nx s3.heap.objs.size fp pins s3 (upd H1 a (.lst []))) ([] ++ pinsAt fp s7.heap) σ9 H9 s9 → Inv (compCx X scope Nc Nx s3.heap.objs.size fp pins s3 (upd H1 a (.lst []))) [] σ9 H9 s9 ∧ tn (i + 1) s9.heap ∧ (∀ b ∈ fp, H9 b = none) := fun {σ9 H9 s9} I9 => by
        refine ⟨I9.unpinned, T.keep _ _ _ st7 fun b hb o e => (I9.pin (b, o) (List.mem_append_right _ (List.mem_append_right _ (mem_pinsAt hb e)))).1, fun b hb => ?_⟩
        obtain ⟨o, e, d⟩ := T.obj _ _ st7 b hb
        exact (I9.pin (b, o) (List.mem_append_right _ (List.mem_append_right _ (mem_pinsAt hb e)))).2.1
      refine wpAny_mono (hg _ s7 σ5 H7 x u _ I7' r7 (step x H7 y7)) (fun _ s8 ⟨σ8, H8, I8, q8⟩ => ?_) fun _ _ z => z
      refine wpAny_mono (htt _ s8 σ8 H8 _ I8 q8) (fun b s9 ⟨H9, I9, q9⟩ => ?_) fun _ _ z => z
      cases b with
      | false =>
        obtain ⟨m', hm, w9⟩ := q9
        obtain ⟨J1, J2, J3⟩ := fin I9
        exact ⟨m', hm, i + 1, xs, σ8, H9, J1, J2, J3, w9⟩
      | true =>
        refine wpAny_mono (hte _ s9 σ8 H9 _ I9 q9) (fun y s10 ⟨v, H10, I10, r10, q10⟩ => ?_) fun _ _ z => z
        obtain ⟨e10, hl10, m', hm, w10⟩ := q10
        refine wpAny_mono (mt_append (X := compCx X scope Nc Nx s3.heap.objs.size fp pins s3 (upd H1 a (.lst []))) _ s10 σ8 H10 (.ref a) [v] (.ref a) [y] (fun _ H' => H' = upd H10 a (.lst (xs ++ [v]))) I10 rfl (.cons r10 .nil) ⟨a, xs, v, rfl, rfl, e10, hl10, rfl⟩) (fun _ s11 ⟨_, H11, I11, _, q11⟩ => ?_) fun _ _ z => z
        subst q11
        obtain ⟨J1, J2, J3⟩ := fin I11
        exact ⟨m', hm, i + 1, xs ++ [v], σ8, _, J1, J2, J3, w10⟩
  have st4 : tn 0 h₁ := T.keep _ _ _ st fun b _ o e => hk4 b o (up b o e)
  rw [e3h] at loop
  subst ea
  exact codeAny_compStart_list loop (T.self _ 0 _ _ _ st4 loop)
theorem pe_comp (c : CompOk X scope Nc Nx) (hcalm : X.calm = true) (hi : PI X tg iter wi)
    (hY : ∀ (C : Addr) (fp : List Addr) (pins : List (Addr × Obj)) (s : Shared) (H : Hp), PG (compCx X scope Nc Nx C fp pins s H) tg g ∧ PTs (compCx X scope Nc Nx C fp pins s H) ifs tt ∧ PE (compCx X scope Nc Nx C fp pins s H) elt te)
    (hs : ∀ x, foldedSetIterable iter X.env x = pure x := by intro _; rfl) :
    PE X (.ListComp elt [⟨tg, iter, ifs, 0⟩] scope pos) (tComp Nc.length wi g tt te) := by
  intro pins s σ H Q I h
  rw [eval_ListComp]
  refine wpAny_comprehension_free (use := none) rfl hs (clOf_eq (c.cells I.ok)) c.kind c.loc (thn (hi pins s σ H _ I h) fun v s1 h1 => thn h1 fun itv s2 h2 => ?_)
  obtain ⟨it, fp, tn, J, H2, rfl, I2, T, st2, f2, q⟩ := h2
  refine comp_block (Q := Q) (RR := fun acc C => compPost (model X.prog X.w) X.A X.xe none (EP X pins σ Q) acc C) c hcalm hY I2 T st2 f2 q ?_
  intro a H' σ' s' s3 I3 hf3 IY qa
  obtain ⟨m, hn, _⟩ := IY.loc
  exact ⟨m, hn, fun h' hs' => ⟨.ref a, H', inv_back I3 hf3 IY hs', rfl, qa⟩⟩
end
end L3
namespace L3
open PySem PySem.Spec PyProof.Rows L2 SeqAt
mutual
def eqD : D → D → Bool
  | .non, .non => true
  | .bl a, .bl b => a == b
  | .int a, .int b => a == b
  | .str a, .str b => a == b
  | .bl a, .int b => (if a then 1 else 0) == b
  | .int a, .bl b => a == (if b then 1 else 0)
  | .tup a, .tup b => eqL a b
  | .lst a, .lst b => eqL a b
  | _, _ => false
def eqL : List D → List D → Bool
  | [], [] => true
  | a :: as, b :: bs => eqD a b && eqL as bs
  | _, _ => false
end
def shal : Nat → D → Bool
  | _, .non => true
  | _, .bl _ => true
  | _, .int _ => true
  | _, .str _ => true
  | n + 1, .tup ds => ds.all (shal n)
  | n + 1, .lst ds => ds.all (shal n)
  | _, _ => false
theorem eqL_range : ∀ (as bs : List D), as.length = bs.length → eqL as bs = (List.range as.length).all fun j => eqD (as.getD j .non) (bs.getD j .non)
  | [], [], _ => by simp [eqL]
  | a :: as, b :: bs, h => by
    rw [eqL, List.length_cons, List.range_succ_eq_map, List.all_cons, List.all_map, eqL_range as bs (by simpa using h)]
    rfl
  | [], _ :: _, h => by simp at h
  | _ :: _, [], h => by simp at h
theorem eqL_len : ∀ (as bs : List D), as.length ≠ bs.length → eqL as bs = false
  | [], [], h => absurd rfl h
  | a :: as, b :: bs, h => by rw [eqL, eqL_len as bs (by simpa using h), Bool.and_false]
  | [], _ :: _, h => by simp [eqL]
  | _ :: _, [], h => by simp [eqL]
section
variable {X : Cx} {pins : List (Addr × Obj)} {σ : L2.St} {W : WS} {H : Hp} {s : Shared}
theorem Has.notup {W : WS} {H : Hp} {K : PySem.W.Frag} (I : Inv X pins σ H s) {a : Addr} {xs ys : List V} (h1 : SqL X.K H a xs) (h2 : SqT X.K H a ys) : False := by
  obtain ⟨its, _, ⟨o, n, e, c, _⟩, _⟩ := I.list h1
  obtain ⟨its', _, ⟨o', e', c', _⟩, _⟩ := I.tuple h2
  rw [e] at e'; cases e'
  rw [c] at c'
  exact absurd c' (by simp)
theorem HasT.ref {K : PySem.W.Frag} {d : D} {x : V} {n : Nat} (h : HasT K W H d x) (hs : shal n d = true) :
    (d = .non ∧ x = .non) ∨ (∃ b, d = .bl b ∧ x = .bl b) ∨ (∃ b, d = .int b ∧ x = .int b) ∨ (∃ b, d = .str b ∧ x = .str b) ∨
    (∃ ds a xs m, n = m + 1 ∧ d = .tup ds ∧ x = .ref a ∧ SqT K H a xs ∧ HasL K W H ds xs ∧ ∀ y ∈ ds, shal m y = true) ∨
    (∃ ds a xs m, n = m + 1 ∧ d = .lst ds ∧ x = .ref a ∧ SqL K H a xs ∧ HasL K W H ds xs ∧ ∀ y ∈ ds, shal m y = true) := by
  cases d with
  | non => exact .inl ⟨rfl, h.non⟩
  | bl b => exact .inr (.inl ⟨b, rfl, h.bl⟩)
  | int b => exact .inr (.inr (.inl ⟨b, rfl, h.int⟩))
  | str b => exact .inr (.inr (.inr (.inl ⟨b, rfl, h.str⟩)))
  | tup ds =>
    obtain ⟨a, xs, e, q, r⟩ := h.tup
    cases n with
    | zero => simp [shal] at hs
    | succ m =>
      rw [shal, List.all_eq_true] at hs
      exact .inr (.inr (.inr (.inr (.inl ⟨ds, a, xs, m, rfl, rfl, e, q, r, hs⟩))))
  | lst ds =>
    obtain ⟨a, xs, e, q, r⟩ := h.lst
    cases n with
    | zero => simp [shal] at hs
    | succ m =>
      rw [shal, List.all_eq_true] at hs
      exact .inr (.inr (.inr (.inr (.inr ⟨ds, a, xs, m, rfl, rfl, e, q, r, hs⟩))))
  | dct k ds => cases n <;> simp [shal] at hs
  | exc k ds => cases n <;> simp [shal] at hs
  | obj c k ds => cases n <;> simp [shal] at hs
theorem eqD_same (I : Inv X pins σ H s) : ∀ (n : Nat) {d e : D} {x : V}, HasT X.K W H d x → HasT X.K W H e x → shal n d = true → shal n e = true → eqD d e = true := by
  intro n
  induction n with
  | zero =>
    intro d e x h1 h2 s1 s2
    rcases h1.ref s1 with ⟨rfl, rfl⟩ | ⟨b, rfl, rfl⟩ | ⟨b, rfl, rfl⟩ | ⟨b, rfl, rfl⟩ | ⟨_, _, _, m, z, _⟩ | ⟨_, _, _, m, z, _⟩ <;>
    rcases h2.ref s2 with ⟨rfl, e2⟩ | ⟨c, rfl, e2⟩ | ⟨c, rfl, e2⟩ | ⟨c, rfl, e2⟩ | ⟨_, _, _, m', z', _⟩ | ⟨_, _, _, m', z', _⟩ <;> first | (cases z; done) | (cases z'; done) | (cases e2; done) | (cases e2; simp [eqD])
  | succ n ih =>
    have lists : ∀ {ds es : List D} {xs : List V}, HasL X.K W H ds xs → HasL X.K W H es xs → (∀ y ∈ ds, shal n y = true) → (∀ y ∈ es, shal n y = true) → eqL ds es = true := by
      intro ds
      induction ds with
      | nil =>
        intro es xs h1 h2 _ _
        have e1 := h1.length
        have e2 := h2.length
        cases es with
        | nil => simp [eqL]
        | cons => simp at e1 e2; omega
      | cons d ds ih2 =>
        intro es xs h1 h2 g1 g2
        rw [HasL] at h1
        obtain ⟨x, r, rfl, q, t⟩ := h1
        cases es with
        | nil => rw [HasL] at h2; cases h2
        | cons e es =>
          rw [HasL] at h2
          obtain ⟨x', r', ee, q', t'⟩ := h2
          cases ee
          rw [eqL, ih (.inl q) (.inl q') (g1 d List.mem_cons_self) (g2 e List.mem_cons_self), ih2 t t' (fun y hy => g1 y (List.mem_cons_of_mem _ hy)) fun y hy => g2 y (List.mem_cons_of_mem _ hy)]
          rfl
    intro d e x h1 h2 s1 s2
    rcases h1.ref s1 with ⟨rfl, rfl⟩ | ⟨b, rfl, rfl⟩ | ⟨b, rfl, rfl⟩ | ⟨b, rfl, rfl⟩ | ⟨ds, a, xs, m, z, rfl, rfl, q, r, g⟩ | ⟨ds, a, xs, m, z, rfl, rfl, q, r, g⟩ <;>
    rcases h2.ref s2 with ⟨rfl, e2⟩ | ⟨c, rfl, e2⟩ | ⟨c, rfl, e2⟩ | ⟨c, rfl, e2⟩ | ⟨es, a', ys, m', z', rfl, e2, q', r', g'⟩ | ⟨es, a', ys, m', z', rfl, e2, q', r', g'⟩ <;> first | (cases e2; done) | (cases e2; simp [eqD]; done) | skip
    · cases e2
      cases z; cases z'
      have := I.tuple_inj q q'
      subst this
      rw [eqD]; exact lists r r' g g'
    · cases e2
      exact (Has.notup (K := X.K) (W := W) (H := H) I q' q).elim
    · cases e2
      exact (Has.notup (K := X.K) (W := W) (H := H) I q q').elim
    · cases e2
      cases z; cases z'
      have := I.list_inj q q'
      subst this
      rw [eqD]; exact lists r r' g g'
theorem getD_of {ds : List D} {j : Nat} (h : j < ds.length) : ds[j]? = some (ds.getD j .non) := by
  rw [List.getD_eq_getElem?_getD, List.getElem?_eq_getElem h]; rfl
theorem vals_at {xs : List V} {its : List Value} (r : Vals xs its) {j : Nat} {x : V} (e : xs[j]? = some x) (h : j < its.toArray.size) : RelV x its.toArray[j] := by
  obtain ⟨u, h1, h2⟩ := r.get e
  have : its.toArray[j]? = some u := by simpa using h1
  rw [Array.getElem?_eq_getElem h] at this
  cases this
  exact h2
theorem items_eqAt {A : Around} (n : Nat) (ih : ∀ {d e : D} {x y : V} {v u : Value}, HasT X.K W H d x → HasT X.K W H e y → RelV x v → RelV y u → shal n d = true → shal n e = true → EqAt A s v u (eqD d e))
    {ds es : List D} {xs ys : List V} {its its' : List Value} (r : HasL X.K W H ds xs) (r' : HasL X.K W H es ys) (v : Vals xs its) (v' : Vals ys its') (g : ∀ y ∈ ds, shal n y = true) (g' : ∀ y ∈ es, shal n y = true) :
    ∀ j (h1 : j < its.toArray.size) (h2 : j < its'.toArray.size), EqAt A s its.toArray[j] its'.toArray[j] (eqD (ds.getD j .non) (es.getD j .non)) := by
  intro j h1 h2
  have l1 : j < ds.length := by rw [r.length, v.length]; simpa using h1
  have l2 : j < es.length := by rw [r'.length, v'.length]; simpa using h2
  obtain ⟨x, e1, q1⟩ := r.get (getD_of l1)
  obtain ⟨y, e2, q2⟩ := r'.get (getD_of l2)
  exact ih (.inl q1) (.inl q2) (vals_at v e1 h1) (vals_at v' e2 h2) (g _ (List.mem_of_getElem? (getD_of l1))) (g' _ (List.mem_of_getElem? (getD_of l2)))
theorem HasT.view (I : Inv X pins σ H s) {d : D} {x : V} {v : Value} {n : Nat} (h : HasT X.K W H d x) (rx : RelV x v) (hs : shal n d = true) :
    (d = .non ∧ v = .none) ∨ (∃ b, d = .bl b ∧ v = .bool b) ∨ (∃ b t, d = .int b ∧ v = .int b t) ∨ (∃ b t, d = .str b ∧ v = .str b t) ∨
    (∃ ds a xs its m, n = m + 1 ∧ d = .tup ds ∧ x = .ref a ∧ v = .ref a ∧ HasL X.K W H ds xs ∧ Vals xs its ∧ s.heap.IsTuple a its.toArray ∧ ∀ y ∈ ds, shal m y = true) ∨
    (∃ ds a xs its m, n = m + 1 ∧ d = .lst ds ∧ x = .ref a ∧ v = .ref a ∧ HasL X.K W H ds xs ∧ Vals xs its ∧ s.heap.IsList a its.toArray ∧ ∀ y ∈ ds, shal m y = true) := by
  rcases h.ref hs with ⟨rfl, rfl⟩ | ⟨b, rfl, rfl⟩ | ⟨b, rfl, rfl⟩ | ⟨b, rfl, rfl⟩ | ⟨ds, a, xs, m, z, rfl, rfl, q, r, g⟩ | ⟨ds, a, xs, m, z, rfl, rfl, q, r, g⟩
  · exact .inl ⟨rfl, rx⟩
  · exact .inr (.inl ⟨b, rfl, rx⟩)
  · obtain ⟨t, e⟩ := rx
    exact .inr (.inr (.inl ⟨b, t, rfl, e⟩))
  · obtain ⟨t, e⟩ := rx
    exact .inr (.inr (.inr (.inl ⟨b, t, rfl, e⟩)))
  · obtain ⟨its, rv, p, _⟩ := I.tuple q
    exact .inr (.inr (.inr (.inr (.inl ⟨ds, a, xs, its, m, z, rfl, rfl, rx, r, rv, p, g⟩))))
  · obtain ⟨its, rv, p, _⟩ := I.list q
    exact .inr (.inr (.inr (.inr (.inr ⟨ds, a, xs, its, m, z, rfl, rfl, rx, r, rv, p.isList, g⟩))))
theorem eqAt_D (I : Inv X pins σ H s) : ∀ (n : Nat) (A : Around) {d e : D} {x y : V} {v u : Value}, A.units + n < cLine → HasT X.K W H d x → HasT X.K W H e y → RelV x v → RelV y u → shal n d = true → shal n e = true →
    EqAt A s v u (eqD d e) ∧ RcAt A s v u (eqD d e) ∧ RcNeAt A s v u (!eqD d e) := by
  intro n
  induction n with
  | zero =>
    intro A d e x y v u hu h1 h2 rx ry s1 s2
    rcases h1.view I rx s1 with ⟨rfl, rfl⟩ | ⟨b, rfl, rfl⟩ | ⟨b, t, rfl, rfl⟩ | ⟨b, t, rfl, rfl⟩ | ⟨_, _, _, _, m, z, _⟩ | ⟨_, _, _, _, m, z, _⟩ <;>
    rcases h2.view I ry s2 with ⟨rfl, rfl⟩ | ⟨c, rfl, rfl⟩ | ⟨c, t', rfl, rfl⟩ | ⟨c, t', rfl, rfl⟩ | ⟨_, _, _, _, m', z', _⟩ | ⟨_, _, _, _, m', z', _⟩ <;> first | (cases z; done) | (cases z'; done) | skip
    · exact ⟨EqAt.same _, RcAt.none_none, RcNeAt.none_none⟩
    · exact ⟨EqAt.none_bool _, RcAt.none_bool _, RcNeAt.none_bool _⟩
    · exact ⟨EqAt.none_int _ _, RcAt.none_int _ _, RcNeAt.none_int _ _⟩
    · exact ⟨EqAt.none_str _ _, RcAt.none_str _ _, RcNeAt.none_str _ _⟩
    · exact ⟨EqAt.bool_none _, RcAt.bool_none _, RcNeAt.bool_none _⟩
    · exact ⟨EqAt.bool_bool _ _, RcAt.bool_bool _ _, RcNeAt.bool_bool _ _⟩
    · exact ⟨EqAt.bool_int _ _ _, RcAt.bool_int _ _ _, RcNeAt.bool_int _ _ _⟩
    · exact ⟨EqAt.bool_str _ _ _, RcAt.bool_str _ _ _, RcNeAt.bool_str _ _ _⟩
    · exact ⟨EqAt.int_none _ _, RcAt.int_none _ _, RcNeAt.int_none _ _⟩
    · exact ⟨EqAt.int_bool _ _ _, RcAt.int_bool _ _ _, RcNeAt.int_bool _ _ _⟩
    · exact ⟨EqAt.int_int _ _ _ _, RcAt.int_int _ _ _ _, RcNeAt.int_int _ _ _ _⟩
    · exact ⟨EqAt.int_str _ _ _ _, RcAt.int_str _ _ _ _, RcNeAt.int_str _ _ _ _⟩
    · exact ⟨EqAt.str_none _ _, RcAt.str_none _ _, RcNeAt.str_none _ _⟩
    · exact ⟨EqAt.str_bool _ _ _, RcAt.str_bool _ _ _, RcNeAt.str_bool _ _ _⟩
    · exact ⟨EqAt.str_int _ _ _ _, RcAt.str_int _ _ _ _, RcNeAt.str_int _ _ _ _⟩
    · exact ⟨EqAt.str_str _ _ _ _, RcAt.str_str _ _ _ _, RcNeAt.str_str _ _ _ _⟩
  | succ n ih =>
    intro A d e x y v u hu h1 h2 rx ry s1 s2
    have hu0 : A.units < cLine := by omega
    have hu1 : A.in1.units + n < cLine := by show A.units + 1 + n < cLine; omega
    have same := fun (ee : x = y) => eqD_same I (n + 1) h1 (ee ▸ h2) s1 s2
    rcases h1.view I rx s1 with ⟨rfl, rfl⟩ | ⟨b, rfl, rfl⟩ | ⟨b, t, rfl, rfl⟩ | ⟨b, t, rfl, rfl⟩ | ⟨ds, a, xs, its, m, z, rfl, rfl, rfl, r, rv, p, g⟩ | ⟨ds, a, xs, its, m, z, rfl, rfl, rfl, r, rv, p, g⟩ <;>
    rcases h2.view I ry s2 with ⟨rfl, rfl⟩ | ⟨c, rfl, rfl⟩ | ⟨c, t', rfl, rfl⟩ | ⟨c, t', rfl, rfl⟩ | ⟨es, a', ys, its', m', z', rfl, rfl, rfl, r', rv', p2, g'⟩ | ⟨es, a', ys, its', m', z', rfl, rfl, rfl, r', rv', p2, g'⟩
    all_goals first | cases z | skip
    all_goals first | cases z' | skip
    · exact ⟨EqAt.same _, RcAt.none_none, RcNeAt.none_none⟩
    · exact ⟨EqAt.none_bool _, RcAt.none_bool _, RcNeAt.none_bool _⟩
    · exact ⟨EqAt.none_int _ _, RcAt.none_int _ _, RcNeAt.none_int _ _⟩
    · exact ⟨EqAt.none_str _ _, RcAt.none_str _ _, RcNeAt.none_str _ _⟩
    · exact ⟨EqAt.none_tuple p2 hu0, RcAt.none_tuple p2 hu0, RcNeAt.none_tuple p2 hu0⟩
    · exact ⟨EqAt.none_list p2 hu0, RcAt.none_list p2 hu0, RcNeAt.none_list p2 hu0⟩
    · exact ⟨EqAt.bool_none _, RcAt.bool_none _, RcNeAt.bool_none _⟩
    · exact ⟨EqAt.bool_bool _ _, RcAt.bool_bool _ _, RcNeAt.bool_bool _ _⟩
    · exact ⟨EqAt.bool_int _ _ _, RcAt.bool_int _ _ _, RcNeAt.bool_int _ _ _⟩
    · exact ⟨EqAt.bool_str _ _ _, RcAt.bool_str _ _ _, RcNeAt.bool_str _ _ _⟩
    · exact ⟨EqAt.bool_tuple _ p2 hu0, RcAt.bool_tuple _ p2 hu0, RcNeAt.bool_tuple _ p2 hu0⟩
    · exact ⟨EqAt.bool_list _ p2 hu0, RcAt.bool_list _ p2 hu0, RcNeAt.bool_list _ p2 hu0⟩
    · exact ⟨EqAt.int_none _ _, RcAt.int_none _ _, RcNeAt.int_none _ _⟩
    · exact ⟨EqAt.int_bool _ _ _, RcAt.int_bool _ _ _, RcNeAt.int_bool _ _ _⟩
    · exact ⟨EqAt.int_int _ _ _ _, RcAt.int_int _ _ _ _, RcNeAt.int_int _ _ _ _⟩
    · exact ⟨EqAt.int_str _ _ _ _, RcAt.int_str _ _ _ _, RcNeAt.int_str _ _ _ _⟩
    · exact ⟨EqAt.int_tuple _ _ p2 hu0, RcAt.int_tuple _ _ p2 hu0, RcNeAt.int_tuple _ _ p2 hu0⟩
    · exact ⟨EqAt.int_list _ _ p2 hu0, RcAt.int_list _ _ p2 hu0, RcNeAt.int_list _ _ p2 hu0⟩
    · exact ⟨EqAt.str_none _ _, RcAt.str_none _ _, RcNeAt.str_none _ _⟩
    · exact ⟨EqAt.str_bool _ _ _, RcAt.str_bool _ _ _, RcNeAt.str_bool _ _ _⟩
    · exact ⟨EqAt.str_int _ _ _ _, RcAt.str_int _ _ _ _, RcNeAt.str_int _ _ _ _⟩
    · exact ⟨EqAt.str_str _ _ _ _, RcAt.str_str _ _ _ _, RcNeAt.str_str _ _ _ _⟩
    · exact ⟨EqAt.str_tuple _ _ p2 hu0, RcAt.str_tuple _ _ p2 hu0, RcNeAt.str_tuple _ _ p2 hu0⟩
    · exact ⟨EqAt.str_list _ _ p2 hu0, RcAt.str_list _ _ p2 hu0, RcNeAt.str_list _ _ p2 hu0⟩
    · exact ⟨EqAt.tuple_none p hu0, RcAt.tuple_none p hu0, RcNeAt.tuple_none p hu0⟩
    · exact ⟨EqAt.tuple_bool _ p hu0, RcAt.tuple_bool _ p hu0, RcNeAt.tuple_bool _ p hu0⟩
    · exact ⟨EqAt.tuple_int _ _ p hu0, RcAt.tuple_int _ _ p hu0, RcNeAt.tuple_int _ _ p hu0⟩
    · exact ⟨EqAt.tuple_str _ _ p hu0, RcAt.tuple_str _ _ p hu0, RcNeAt.tuple_str _ _ p hu0⟩
    · have he := items_eqAt (A := A.in1) n (fun h1 h2 rx ry s1 s2 => (ih A.in1 hu1 h1 h2 rx ry s1 s2).1) r r' rv rv' g g'
      have l1 : its.toArray.size = ds.length := by rw [List.size_toArray, ← rv.length, r.length]
      have l2 : its'.toArray.size = es.length := by rw [List.size_toArray, ← rv'.length, r'.length]
      have ee : ((List.range (min its.toArray.size its'.toArray.size)).all (fun j => eqD (ds.getD j .non) (es.getD j .non)) && its.toArray.size == its'.toArray.size) = eqD (.tup ds) (.tup es) := by
        rw [eqD, l1, l2]
        by_cases hl : ds.length = es.length
        · rw [eqL_range ds es hl, ← hl]; simp
        · rw [eqL_len ds es hl]; simp [hl]
      have rc := RcAt.tuples p p2 hu0 he
      rw [ee] at rc
      refine ⟨?_, rc, ?_⟩
      · by_cases ha : a = a'
        · subst ha
          rw [same rfl]
          exact EqAt.same _
        · exact EqAt.of_refs ha rc
      · have rn := RcNeAt.tuples p p2 hu0 he
        rw [ee] at rn
        exact rn
    · exact ⟨EqAt.tuple_list p p2 hu0, RcAt.tuple_list p p2 hu0, RcNeAt.tuple_list p p2 hu0⟩
    · exact ⟨EqAt.list_none p hu0, RcAt.list_none p hu0, RcNeAt.list_none p hu0⟩
    · exact ⟨EqAt.list_bool _ p hu0, RcAt.list_bool _ p hu0, RcNeAt.list_bool _ p hu0⟩
    · exact ⟨EqAt.list_int _ _ p hu0, RcAt.list_int _ _ p hu0, RcNeAt.list_int _ _ p hu0⟩
    · exact ⟨EqAt.list_str _ _ p hu0, RcAt.list_str _ _ p hu0, RcNeAt.list_str _ _ p hu0⟩
    · exact ⟨EqAt.list_tuple p p2 hu0, RcAt.list_tuple p p2 hu0, RcNeAt.list_tuple p p2 hu0⟩
    · have he := items_eqAt (A := A.in1) n (fun h1 h2 rx ry s1 s2 => (ih A.in1 hu1 h1 h2 rx ry s1 s2).1) r r' rv rv' g g'
      have l1 : its.toArray.size = ds.length := by rw [List.size_toArray, ← rv.length, r.length]
      have l2 : its'.toArray.size = es.length := by rw [List.size_toArray, ← rv'.length, r'.length]
      have both : RcAt A s (.ref a) (.ref a') (eqD (.lst ds) (.lst es)) ∧ RcNeAt A s (.ref a) (.ref a') (!eqD (.lst ds) (.lst es)) := by
        by_cases hl : ds.length = es.length
        · have hsz : its.toArray.size = its'.toArray.size := by rw [l1, l2, hl]
          have rc := RcAt.lists p p2 hsz hu0 he
          have rn := RcNeAt.lists p p2 hsz hu0 he
          rw [l1, ← eqL_range ds es hl] at rc rn
          rw [eqD]
          exact ⟨rc, rn⟩
        · have hsz : (its.toArray.size != its'.toArray.size) = true := by rw [l1, l2]; simpa using hl
          rw [eqD, eqL_len ds es hl]
          exact ⟨RcAt.lists_lengths p p2 hsz hu0, RcNeAt.lists_lengths p p2 hsz hu0⟩
      refine ⟨?_, both⟩
      by_cases ha : a = a'
      · subst ha
        rw [same rfl]
        exact EqAt.same _
      · exact EqAt.of_refs ha both.1
end
end L3
namespace L3
open PySem PySem.Spec PyProof.Rows L2 SeqAt
section
variable {K : PySem.W.Frag} {xw : XW} {W : WS} {H : Hp} {Q : VK}
theorem RE.int {i : Int} (h : RE K xw W H (.ok (.int i)) Q) : Q (.int i) H := h _ H (Same.refl H) (by rw [Has])
theorem RE.bl {i : Bool} (h : RE K xw W H (.ok (.bl i)) Q) : Q (.bl i) H := h _ H (Same.refl H) (by rw [Has])
theorem RE.str {i : Str} (h : RE K xw W H (.ok (.str i)) Q) : Q (.str i) H := h _ H (Same.refl H) (by rw [Has])
theorem RE.non (h : RE K xw W H (.ok .non) Q) : Q .non H := h _ H (Same.refl H) (by rw [Has])
theorem same_upd {a : Addr} {o : HO} (h : H a = none) : Same H (upd H a o) := fun b u e => by rw [upd_ne (ne_of_none e h)]; exact e
theorem RE.newT {ds : List D} {xs : List V} {p : Addr} (h : RE K xw W H (.ok (.tup ds)) Q) (w : WL W H) (hp : H p = none) (q : HasL K W H ds xs) : Q (.ref p) (upd H p (.tup xs)) :=
  h _ _ (same_upd hp) (by rw [Has]; exact ⟨p, xs, rfl, .of upd_same, q.same (same_upd hp) w⟩)
theorem not_new {a : Addr} (w : WL W H) (h : H a = none) : ¬ W a := fun z => by
  obtain ⟨xs, e, _⟩ := w a z
  rw [h] at e; cases e
end
section
variable {X : Cx} {xw : XW} {a b c e : Expr} {fa fb fc f : DSt → Res D} {pos : Pos}
theorem DE.p (h : DE X xw e f) : DP X xw e f := PE.weak h fun σ H Q ⟨W₀, H₀, W, δ, st, q⟩ => ⟨W₀, H₀, W, δ, st, by
  cases hf : f δ with
  | ok d => rw [hf] at q; exact fun v H' k h => q v H' k (.inl h)
  | ex c fs => rw [hf] at q; exact q
  | stuck => rw [hf] at q; exact q⟩
theorem DF.de {f : DSt → Res (List D)} (h : DF X xw e f) : DE X xw e (fun δ => (f δ).bind fun ds => .ok (.lst ds)) := PE.weak h fun σ H Q ⟨W₀, H₀, W, δ, st, q⟩ => ⟨W₀, H₀, W, δ, st, by
  dsimp only at q
  cases hf : f δ with
  | ok d =>
    rw [hf] at q
    refine fun a xs H1 k n r => q _ _ (k.trans (same_upd n)) ?_
    have w1 := st.fr.wl.same k
    rw [Has]
    exact ⟨a, xs, rfl, .inl ⟨upd_same, not_new w1 n⟩, r.same (same_upd n) w1⟩
  | ex c fs => rw [hf] at q; exact q
  | stuck => rw [hf] at q; exact q⟩
def slotD (i : Nat) (δ : DSt) : Res D := match δ[i]? with
  | some (some (.d x)) => .ok x
  | _ => .stuck
def slotP (i : Nat) (δ : DSt) : Res D := match δ[i]? with
  | some (some (.d x)) => .ok x
  | some (some (.o ds)) => .ok (.lst ds)
  | _ => .stuck
theorem de_var (i : Nat) {x : Str} (hN : X.N[i]? = some x := by rfl) (hv : Vis X.env.scope x := by first | exact Or.inl rfl | exact Or.inr (Or.inl rfl) | exact Or.inr (Or.inr rfl)) (hd : (x == ("__debug__" : Str)) = false := by decide)
    (hcd : (x == ("__classdict__" : Str)) = false := by decide) : DE X xw (.Name x pos) (slotD i) := PE.weak (pe_var hN hv hd hcd) fun σ H Q ⟨W₀, H₀, W, δ, st, q⟩ => by
  unfold slotD at q
  split at q
  · rename_i d h
    obtain ⟨v, e, r⟩ := st.at' i _ h
    exact ⟨v, e, q v H (Same.refl H) r⟩
  · exact q.elim
theorem dp_var (i : Nat) {x : Str} (hN : X.N[i]? = some x := by rfl) (hv : Vis X.env.scope x := by first | exact Or.inl rfl | exact Or.inr (Or.inl rfl) | exact Or.inr (Or.inr rfl)) (hd : (x == ("__debug__" : Str)) = false := by decide)
    (hcd : (x == ("__classdict__" : Str)) = false := by decide) : DP X xw (.Name x pos) (slotP i) := PE.weak (pe_var hN hv hd hcd) fun σ H Q ⟨W₀, H₀, W, δ, st, q⟩ => by
  unfold slotP at q
  split at q
  · rename_i d h
    obtain ⟨v, e, r⟩ := st.at' i _ h
    exact ⟨v, e, q v H (Same.refl H) (.inl r)⟩
  · rename_i ds h
    obtain ⟨v, e, a, xs, r1, r2, r3, r4, r5⟩ := st.at' i _ h
    exact ⟨v, e, q v H (Same.refl H) (.inr ⟨ds, a, xs, rfl, r1, r4, r5⟩)⟩
  · exact q.elim
theorem de_int {i : Int} {j} : DE X xw (.Constant (.int i) j pos) (fun _ => .ok (.int i)) := PE.weak pe_int fun σ H Q ⟨_, _, _, _, _, q⟩ => q.int
theorem de_bl {i : Bool} {j} : DE X xw (.Constant (.bool i) j pos) (fun _ => .ok (.bl i)) := PE.weak pe_bl fun σ H Q ⟨_, _, _, _, _, q⟩ => q.bl
theorem de_non {j} : DE X xw (.Constant .none j pos) (fun _ => .ok .non) := PE.weak pe_non fun σ H Q ⟨_, _, _, _, _, q⟩ => q.non
def Op2 (X : Cx) (xw : XW) (r : R2) (op : D → D → Res D) : Prop := ∀ (W : WS) (H : Hp) (d e : D) (v u : V) (Q : VK), WL W H → HasT X.K W H d v → HasT X.K W H e u → RE X.K xw W H (op d e) Q → r v u H Q
theorem two_read {σ : L2.St} {H : Hp} {W₀ W : WS} {H₀ : Hp} {δ : DSt} {op : D → D → Res D} {Q : VK} {R : V → V → Hp → Prop} (st : StHas X.K W₀ H₀ W H σ δ)
    (q : RE X.K xw W H ((fa δ).bind fun x => (fb δ).bind fun y => op x y) Q)
    (h : ∀ H2 d e v u, Same H H2 → WL W H2 → HasT X.K W H2 d v → HasT X.K W H2 e u → fa δ = .ok d → fb δ = .ok e → RE X.K xw W H2 (op d e) Q → R v u H2) :
    tDP X.K xw fa σ H fun x H1 => tDP X.K xw fb σ H1 fun y H2 => R x y H2 := by
  refine ⟨W₀, H₀, W, δ, st, ?_⟩
  cases h1 : fa δ with
  | stuck => rw [h1] at q; exact q
  | ex c fs => rw [h1] at q; exact q
  | ok d =>
    rw [h1] at q
    intro v H1 k1 hv
    refine ⟨W₀, H₀, W, δ, st.same k1, ?_⟩
    have q' : RE X.K xw W H ((fb δ).bind fun y => op d y) Q := q
    cases h2 : fb δ with
    | stuck => rw [h2] at q'; exact q'
    | ex c fs => rw [h2] at q'; exact fun H2 k2 => q' H2 (k1.trans k2)
    | ok e =>
      rw [h2] at q'
      intro u H2 k2 hu
      have q2 : RE X.K xw W H (op d e) Q := q'
      exact h H2 d e v u (k1.trans k2) (st.fr.wl.same (k1.trans k2)) (hv.same k2 (st.fr.wl.same k1)) hu h1 h2 (q2.same (k1.trans k2))
theorem de_op2 {o : Operator} {r : R2} {op : D → D → Res D} (ho : OpR X (binaryOp o) r) (hr : Op2 X xw r op) (ha : DP X xw a fa) (hb : DP X xw b fb) :
    DE X xw (.BinOp a o b pos) (fun δ => (fa δ).bind fun x => (fb δ).bind fun y => op x y) :=
  PE.weak (pe_op ho ha hb) fun σ H Q ⟨W₀, H₀, W, δ, st, q⟩ => two_read st q fun H2 d e v u k w hv hu _ _ q2 => hr W H2 d e v u Q w hv hu q2
theorem op_catT0 : OpR X (binaryOp .Add) (fun x y H Q => ∃ a b ys, x = .ref a ∧ y = .ref b ∧ SqT X.K H a [] ∧ SqT X.K H b ys ∧ Q (.ref b) H) := by
  intro pins s σ H x y v u Q I rx ry h
  obtain ⟨a, b, ys, rfl, rfl, ha, hb, q⟩ := h
  cases rx
  cases ry
  obtain ⟨its, r1, p1, _⟩ := I.tuple ha
  obtain ⟨its2, r2, p2, _⟩ := I.tuple hb
  have e0 : its = [] := r1.nil_iff.mpr rfl
  subst e0
  obtain ⟨⟨cls, dd, data, sl⟩, ho, hc, n, hd⟩ := id p1
  obtain ⟨⟨cls2, dd2, data2, sl2⟩, ho2, hc2, n2, hd2⟩ := id p2
  simp only at hc hd hc2 hd2
  subst hc hd hc2 hd2
  exact concat_meets ⟨_, ho, rfl⟩ ⟨_, ho2, rfl⟩ noFill_tuple_add seq_tuple_add PySem.F.slot_tuple_add PySem.F.entry_tuple_add (PySem.F.args_tuple_add_2 _ _)
      (tuple_addW0 a b _ its2.toArray n n2 dd dd2 sl sl2 (by simp)) ⟨ho, ho2, ⟨.ref b, H, I, rfl, q⟩⟩
noncomputable def addD : D → D → Res D
  | .int i, .int j => .ok (.int (i + j))
  | .str x, .str y => @ite (Res D) (x.length + y.length ≤ sizeLine) (Classical.propDecidable _) (.ok (.str (x ++ y))) .stuck
  | .tup xs, .tup ys => @ite (Res D) (xs.length + ys.length ≤ sizeLine) (Classical.propDecidable _) (.ok (.tup (xs ++ ys))) .stuck
  | _, _ => .stuck
theorem de_add (ha : DP X xw a fa) (hb : DP X xw b fb) : DE X xw (.BinOp a .Add b pos) (fun δ => (fa δ).bind fun x => (fb δ).bind fun y => addD x y) := by
  refine de_op2 ((op_add.or op_add_str).or (op_catT0.or op_catT)) (fun W H d e v u Q w hv hu q => ?_) ha hb
  unfold addD at q
  split at q
  · exact .inl (.inl ⟨_, _, hv.int, hu.int, q.int⟩)
  · split at q
    · rename_i hz
      exact .inl (.inr ⟨_, _, hv.str, hu.str, hz, q.str⟩)
    · exact q.elim
  · rename_i ds es
    split at q
    · rename_i hz
      obtain ⟨a1, xs, e1, s1, r1⟩ := hv.tup
      obtain ⟨a2, ys, e2, s2, r2⟩ := hu.tup
      by_cases hx : xs = []
      · subst hx
        have hd : ds = [] := by
          have := r1.length
          exact List.eq_nil_of_length_eq_zero (by simpa using this)
        subst hd
        refine .inr (.inl ⟨a1, a2, ys, e1, e2, s1, s2, q _ H (Same.refl H) ?_⟩)
        rw [Has]; exact ⟨a2, ys, rfl, s2, r2⟩
      · refine .inr (.inr ⟨a1, a2, xs, ys, e1, e2, s1, s2, hx, by rw [← r1.length, ← r2.length]; exact hz, fun hy => ?_, fun _ p hp => q.newT w hp (r1.append r2)⟩)
        subst hy
        have he : es = [] := by
          have := r2.length
          exact List.eq_nil_of_length_eq_zero (by simpa using this)
        subst he
        refine q _ H (Same.refl H) ?_
        rw [Has, List.append_nil]; exact ⟨a1, xs, rfl, s1, r1⟩
    · exact q.elim
  · exact q.elim
def subD : D → D → Res D
  | .int i, .int j => .ok (.int (i - j))
  | _, _ => .stuck
theorem de_sub (ha : DP X xw a fa) (hb : DP X xw b fb) : DE X xw (.BinOp a .Sub b pos) (fun δ => (fa δ).bind fun x => (fb δ).bind fun y => subD x y) := by
  refine de_op2 op_sub (fun W H d e v u Q w hv hu q => ?_) ha hb
  unfold subD at q
  split at q
  · exact ⟨_, _, hv.int, hu.int, q.int⟩
  · exact q.elim
noncomputable def modD : D → D → Res D
  | .int i, .int j => @ite (Res D) (0 < j) (Classical.propDecidable _) (.ok (.int (i % j))) .stuck
  | _, _ => .stuck
theorem de_mod (ha : DP X xw a fa) (hb : DP X xw b fb) : DE X xw (.BinOp a .Mod b pos) (fun δ => (fa δ).bind fun x => (fb δ).bind fun y => modD x y) := by
  refine de_op2 op_mod (fun W H d e v u Q w hv hu q => ?_) ha hb
  unfold modD at q
  split at q
  · split at q
    · rename_i hj
      exact ⟨_, _, hv.int, hu.int, hj, q.int⟩
    · exact q.elim
  · exact q.elim
noncomputable def fdivD : D → D → Res D
  | .int i, .int j => @ite (Res D) (0 < j ∧ j < 1073741824) (Classical.propDecidable _) (.ok (.int (i / j))) .stuck
  | _, _ => .stuck
noncomputable def mulD : D → D → Res D
  | .int i, .int j => @ite (Res D) ((-(2 ^ 64) < i ∧ i < 2 ^ 64) ∨ (-(2 ^ 64) < j ∧ j < 2 ^ 64)) (Classical.propDecidable _) (.ok (.int (i * j))) .stuck
  | _, _ => .stuck
def negD : D → Res D
  | .int i => .ok (.int (-i))
  | _ => .stuck
theorem one_read {σ : L2.St} {H : Hp} {W₀ W : WS} {H₀ : Hp} {δ : DSt} {op : D → Res D} {Q : VK} {R : V → Hp → Prop} (st : StHas X.K W₀ H₀ W H σ δ)
    (q : RE X.K xw W H ((fa δ).bind op) Q)
    (h : ∀ H2 d v, Same H H2 → WL W H2 → StHas X.K W₀ H₀ W H2 σ δ → HasT X.K W H2 d v → fa δ = .ok d → RE X.K xw W H2 (op d) Q → R v H2) :
    tDP X.K xw fa σ H fun x H1 => R x H1 := by
  refine ⟨W₀, H₀, W, δ, st, ?_⟩
  cases h1 : fa δ with
  | stuck => rw [h1] at q; exact q
  | ex c fs => rw [h1] at q; exact q
  | ok d =>
    rw [h1] at q
    intro v H1 k1 hv
    exact h H1 d v k1 (st.fr.wl.same k1) (st.same k1) hv h1 (RE.same (r := op d) q k1)
theorem de_neg (ha : DP X xw a fa) : DE X xw (.UnaryOp .USub a pos) (fun δ => (fa δ).bind negD) :=
  PE.weak (pe_un un_neg ha) fun σ H Q ⟨W₀, H₀, W, δ, st, q⟩ => one_read st q fun H2 d v k w st2 hv _ q2 => by
    unfold negD at q2
    split at q2
    · exact ⟨_, hv.int, q2.int⟩
    · exact q2.elim
def eqR (d e : D) : Res D := if (shal 40 d && shal 40 e) = true then .ok (.bl (eqD d e)) else .stuck
def neR (d e : D) : Res D := if (shal 40 d && shal 40 e) = true then .ok (.bl (!eqD d e)) else .stuck
def ltR : D → D → Res D
  | .int i, .int j => .ok (.bl (decide (i < j)))
  | _, _ => .stuck
def leR : D → D → Res D
  | .int i, .int j => .ok (.bl (decide (i ≤ j)))
  | _, _ => .stuck
def gtR : D → D → Res D
  | .int i, .int j => .ok (.bl (decide (j < i)))
  | _, _ => .stuck
def geR : D → D → Res D
  | .int i, .int j => .ok (.bl (decide (j ≤ i)))
  | _, _ => .stuck
structure CmpR (X : Cx) (xw : XW) (o : CmpOp) (op : D → D → Res D) : Prop where
  ex : ∃ r, OpR X (compareOp o) r ∧ Op2 X xw r op
  bl : ∀ d e z, op d e = .ok z → ∃ k, z = .bl k
  nm : o ≠ .In ∧ o ≠ .NotIn
theorem op_eqD (hu : X.A.units + 40 < cLine) : OpR X (compareOp .Eq) (fun x y H Q => ∃ W d e, HasT X.K W H d x ∧ HasT X.K W H e y ∧ shal 40 d = true ∧ shal 40 e = true ∧ Q (.bl (eqD d e)) H) := by
  intro pins s σ H x y v u Q I rx ry h
  obtain ⟨W, d, e, h1, h2, s1, s2, q⟩ := h
  exact (eqAt_D I 40 X.A hu h1 h2 rx ry s1 s2).2.1 _ _ _ _ ⟨.bl _, H, I, rfl, q⟩
theorem op_neD (hu : X.A.units + 40 < cLine) : OpR X (compareOp .NotEq) (fun x y H Q => ∃ W d e, HasT X.K W H d x ∧ HasT X.K W H e y ∧ shal 40 d = true ∧ shal 40 e = true ∧ Q (.bl (!eqD d e)) H) := by
  intro pins s σ H x y v u Q I rx ry h
  obtain ⟨W, d, e, h1, h2, s1, s2, q⟩ := h
  exact (eqAt_D I 40 X.A hu h1 h2 rx ry s1 s2).2.2 _ _ _ _ ⟨.bl _, H, I, rfl, q⟩
theorem c_eq (hu : X.A.units + 40 < cLine) : CmpR X xw .Eq eqR := ⟨⟨_, op_eqD hu, fun W H d e v u Q w hv hu q => by
    unfold eqR at q
    split at q
    · rename_i hs
      rw [Bool.and_eq_true] at hs
      exact ⟨W, d, e, hv, hu, hs.1, hs.2, q.bl⟩
    · exact q.elim⟩, fun d e z h => by unfold eqR at h; split at h <;> cases h; exact ⟨_, rfl⟩, by decide, by decide⟩
theorem c_ne (hu : X.A.units + 40 < cLine) : CmpR X xw .NotEq neR := ⟨⟨_, op_neD hu, fun W H d e v u Q w hv hu q => by
    unfold neR at q
    split at q
    · rename_i hs
      rw [Bool.and_eq_true] at hs
      exact ⟨W, d, e, hv, hu, hs.1, hs.2, q.bl⟩
    · exact q.elim⟩, fun d e z h => by unfold neR at h; split at h <;> cases h; exact ⟨_, rfl⟩, by decide, by decide⟩
theorem c_gt : CmpR X xw .Gt gtR := ⟨⟨_, op_gt, fun W H d e v u Q w hv hu q => by
    unfold gtR at q
    split at q
    · exact ⟨_, _, hv.int, hu.int, q.bl⟩
    · exact q.elim⟩, fun d e z h => by unfold gtR at h; split at h <;> cases h; exact ⟨_, rfl⟩, by decide, by decide⟩
theorem c_ge : CmpR X xw .GtE geR := ⟨⟨_, op_ge, fun W H d e v u Q w hv hu q => by
    unfold geR at q
    split at q
    · exact ⟨_, _, hv.int, hu.int, q.bl⟩
    · exact q.elim⟩, fun d e z h => by unfold geR at h; split at h <;> cases h; exact ⟨_, rfl⟩, by decide, by decide⟩
def isNR (d : D) : Res D := match d with
  | .non => .ok (.bl true)
  | _ => .ok (.bl false)
theorem HasT.isN {K : PySem.W.Frag} {W : WS} {H : Hp} {d : D} {v : V} (h : HasT K W H d v) (hd : d ≠ .non) : v ≠ .non := by
  rintro rfl
  rcases h with h | ⟨ds, a, xs, h1, h2, _⟩
  · cases d with
    | non => exact hd rfl
    | bl b => rw [Has] at h; cases h
    | int b => rw [Has] at h; cases h
    | str b => rw [Has] at h; cases h
    | tup b => rw [Has] at h; obtain ⟨_, _, z, _⟩ := h; cases z
    | lst b => rw [Has] at h; obtain ⟨_, _, z, _⟩ := h; cases z
    | dct k b => rw [Has] at h; obtain ⟨_, _, z, _⟩ := h; cases z
    | exc k b => rw [Has] at h; obtain ⟨_, _, _, z, _⟩ := h; cases z
    | obj c k b => rw [Has] at h; obtain ⟨_, _, _, _, z, _⟩ := h; cases z
  · cases h2
theorem de_cmp {o : CmpOp} {op : D → D → Res D} (hc : CmpR X xw o op) (ha : DP X xw a fa) (hb : DP X xw b fb) : DE X xw (.Compare a [o] [b] pos) (fun δ => (fa δ).bind fun x => (fb δ).bind fun y => op x y) := by
  obtain ⟨⟨r, ho, hr⟩, _, h1, h2⟩ := hc
  exact PE.weak (pe_cmpR ho ha hb (nomark b h1 h2)) fun σ H Q ⟨W₀, H₀, W, δ, st, q⟩ => two_read st q fun H2 d e v u k w hv hu _ _ q2 => hr W H2 d e v u Q w hv hu q2
def boolR : D → Res Bool
  | .bl k => .ok k
  | _ => .stuck
theorem DE.t_of (ht : PT X e (tB (tDE X.K xw f))) : DT X xw e (fun δ => (f δ).bind boolR) := PT.weak ht fun σ H Q ⟨W₀, H₀, W, δ, st, q⟩ => by
  dsimp only at q
  refine ⟨W₀, H₀, W, δ, st, ?_⟩
  cases h1 : f δ with
  | stuck => rw [h1] at q; exact q
  | ex c fs => rw [h1] at q; exact q
  | ok d =>
    rw [h1] at q
    intro v H1 k1 hv
    have q' : RT xw H (boolR d) Q := q
    unfold boolR at q'
    split at q'
    · rw [Has] at hv
      exact ⟨_, hv, q' H1 k1⟩
    · exact q'.elim
theorem DE.t (h : DE X xw e f) (he : ∀ whole, isTrue e X.env whole = (do let v ← whole; standAt e.pos; holding [v] (truthy v)) := by intro _; rfl) : DT X xw e (fun δ => (f δ).bind boolR) := DE.t_of (pt_val h he)
theorem dt_cmp {o : CmpOp} {op : D → D → Res D} (hc : CmpR X xw o op) (ha : DP X xw a fa) (hb : DP X xw b fb) : DT X xw (.Compare a [o] [b] pos) (fun δ => ((fa δ).bind fun x => (fb δ).bind fun y => op x y).bind boolR) := by
  obtain ⟨⟨r, ho, hr⟩, _, h1, h2⟩ := hc
  refine DE.t_of (f := fun δ => (fa δ).bind fun x => (fb δ).bind fun y => op x y) (PT.weak (pt_cmpR ho ha hb (nomark b h1 h2)) fun σ H Q q => ?_)
  obtain ⟨W₀, H₀, W, δ, st, q⟩ := q
  exact two_read st q fun H2 d e v u k w hv hu _ _ q2 => hr W H2 d e v u _ w hv hu q2
theorem dt_isN {j pos'} (ha : DP X xw a fa) : DT X xw (.Compare a [.Is] [.Constant .none j pos'] pos) (fun δ => ((fa δ).bind isNR).bind boolR) :=
  DE.t_of (f := fun δ => (fa δ).bind isNR) (PT.weak (pt_cmp (pc_isN ha)) fun σ H Q q => by
    obtain ⟨W₀, H₀, W, δ, st, q⟩ := q
    exact one_read st q fun H2 d v k w st2 hv _ q2 => by
      unfold isNR at q2
      split at q2
      · rw [hv.non]; exact q2.bl
      · rename_i hd
        rw [decide_eq_false (hv.isN hd)]; exact q2.bl)
theorem DW.t {g : DSt → Res Bool} (h : DW X xw e g) : DT X xw e g := PW.pt h
def chainR (op op' : D → D → Res D) (x y : D) (z : Res D) : Res D := (op x y).bind fun k => match k with
  | .bl true => z.bind fun w => op' y w
  | .bl false => .ok (.bl false)
  | _ => .stuck
def andB (x : Res Bool) (y : Res Bool) : Res Bool := x.bind fun k => if k = true then y else .ok false
def orB (x : Res Bool) (y : Res Bool) : Res Bool := x.bind fun k => if k = true then .ok true else y
variable {ga gb : DSt → Res Bool} {rest : List Expr}
theorem test_read {σ : L2.St} {H : Hp} {W₀ W : WS} {H₀ : Hp} {δ : DSt} {k : Bool → Res Bool} {Q : Bool → Hp → Prop} {R : Bool → Hp → Prop} (st : StHas X.K W₀ H₀ W H σ δ) (q : RT xw H ((ga δ).bind k) Q)
    (h : ∀ H2 c, Same H H2 → StHas X.K W₀ H₀ W H2 σ δ → ga δ = .ok c → RT xw H2 (k c) Q → R c H2) : tDT X.K xw ga σ H R := by
  refine ⟨W₀, H₀, W, δ, st, ?_⟩
  cases h1 : ga δ with
  | stuck => rw [h1] at q; exact q
  | ex c fs => rw [h1] at q; exact q
  | ok c =>
    rw [h1] at q
    exact fun H1 k1 => h H1 c k1 (st.same k1) h1 (RT.same (r := k c) q k1)
theorem dw_or1 (ha : DT X xw a ga) : DW X xw (.BoolOp .Or [a] pos) ga := pw_or1 ha
theorem dw_or (ha : DT X xw a ga) (hb : DW X xw (.BoolOp .Or (b :: rest) pos) gb) : DW X xw (.BoolOp .Or (a :: b :: rest) pos) (fun δ => orB (ga δ) (gb δ)) :=
  PW.weak (pw_or ha hb) fun σ H Q ⟨W₀, H₀, W, δ, st, q⟩ => test_read st q fun H2 c k st2 _ q2 => by
    cases c with
    | true => rw [if_pos rfl] at q2 ⊢; exact q2 H2 (Same.refl _)
    | false => rw [if_neg Bool.false_ne_true] at q2 ⊢; exact ⟨W₀, H₀, W, δ, st2, q2⟩
theorem dt_not (ha : DT X xw a ga) : DT X xw (.UnaryOp .Not a pos) (fun δ => (ga δ).bind fun k => .ok (!k)) :=
  PT.weak (pt_not ha) fun σ H Q ⟨W₀, H₀, W, δ, st, q⟩ => test_read st q fun H2 c k st2 _ q2 => q2 H2 (Same.refl _)
def andD (x : Res D) (y : Res D) : Res D := x.bind fun k => match k with
  | .bl true => y
  | .bl false => .ok (.bl false)
  | _ => .stuck
def orD (x : Res D) (y : Res D) : Res D := x.bind fun k => match k with
  | .bl true => .ok (.bl true)
  | .bl false => y
  | _ => .stuck
def notD : D → Res D
  | .bl k => .ok (.bl (!k))
  | _ => .stuck
theorem one_readE {σ : L2.St} {H : Hp} {W₀ W : WS} {H₀ : Hp} {δ : DSt} {op : D → Res D} {Q : VK} {R : V → Hp → Prop} (st : StHas X.K W₀ H₀ W H σ δ)
    (q : RE X.K xw W H ((fa δ).bind op) Q)
    (h : ∀ H2 d v, Same H H2 → WL W H2 → StHas X.K W₀ H₀ W H2 σ δ → Has X.K W H2 d v → fa δ = .ok d → RE X.K xw W H2 (op d) Q → R v H2) :
    tDE X.K xw fa σ H fun x H1 => R x H1 := by
  refine ⟨W₀, H₀, W, δ, st, ?_⟩
  cases h1 : fa δ with
  | stuck => rw [h1] at q; exact q
  | ex c fs => rw [h1] at q; exact q
  | ok d =>
    rw [h1] at q
    intro v H1 k1 hv
    exact h H1 d v k1 (st.fr.wl.same k1) (st.same k1) hv h1 (RE.same (r := op d) q k1)
theorem de_one {op} (h : DE X xw a fa) : DE X xw (.BoolOp op [a] pos) fa := pe_one h
theorem de_and (ha : DE X xw a fa) (hb : DE X xw (.BoolOp .And (b :: rest) pos) fb) : DE X xw (.BoolOp .And (a :: b :: rest) pos) (fun δ => andD (fa δ) (fb δ)) :=
  PE.weak (pe_and ha hb) fun σ H Q ⟨W₀, H₀, W, δ, st, q⟩ => one_readE st q fun H2 d v k w st2 hv _ q2 => by
    split at q2
    · rw [Has] at hv
      exact ⟨true, hv, by rw [if_pos rfl]; exact ⟨W₀, H₀, W, δ, st2, q2⟩⟩
    · rw [Has] at hv
      exact ⟨false, hv, by rw [if_neg Bool.false_ne_true]; exact q2.bl⟩
    · exact q2.elim
variable {es : List Expr} {fs : DSt → Res (List D)}
theorem da_nil : DA X xw [] (fun _ => .ok []) := PA.weak pa_nil fun σ H Q ⟨W₀, H₀, W, δ, st, q⟩ => q [] H (Same.refl H) HasL.nil
def consR (x : Res D) (r : Res (List D)) : Res (List D) := x.bind fun d => r.bind fun ds => .ok (d :: ds)
theorem da_cons (ha : DE X xw a fa) (hr : DA X xw es fs) (hs : starEach (a :: es) X.env = (false, eval a X.env) :: starEach es X.env := by rfl) : DA X xw (a :: es) (fun δ => consR (fa δ) (fs δ)) :=
  PA.weak (pa_cons ha hr hs) fun σ H Q ⟨W₀, H₀, W, δ, st, q⟩ => by
    refine ⟨W₀, H₀, W, δ, st, ?_⟩
    unfold consR at q
    dsimp only at q
    cases h1 : fa δ with
    | stuck => rw [h1] at q; exact q
    | ex c fs => rw [h1] at q; exact q
    | ok d =>
      rw [h1] at q
      intro v H1 k1 hv
      refine ⟨W₀, H₀, W, δ, st.same k1, ?_⟩
      have q' : RA X.K xw W H ((fs δ).bind fun ds => .ok (d :: ds)) Q := q
      cases h2 : fs δ with
      | stuck => rw [h2] at q'; exact q'
      | ex c gs => rw [h2] at q'; exact fun H2 k2 => q' H2 (k1.trans k2)
      | ok ds =>
        rw [h2] at q'
        intro vs H2 k2 hvs
        have q2 : RA X.K xw W H (.ok (d :: ds)) Q := q'
        exact q2 (v :: vs) H2 (k1.trans k2) (HasL.cons (hv.same k2 (st.fr.wl.same k1)) hvs)
theorem args_read {σ : L2.St} {H : Hp} {W₀ W : WS} {H₀ : Hp} {δ : DSt} {op : List D → Res D} {Q : VK} {R : List V → Hp → Prop} (st : StHas X.K W₀ H₀ W H σ δ)
    (q : RE X.K xw W H ((fs δ).bind op) Q)
    (h : ∀ H2 ds vs, Same H H2 → WL W H2 → StHas X.K W₀ H₀ W H2 σ δ → HasL X.K W H2 ds vs → fs δ = .ok ds → RE X.K xw W H2 (op ds) Q → R vs H2) :
    tDA X.K xw fs σ H fun x H1 => R x H1 := by
  refine ⟨W₀, H₀, W, δ, st, ?_⟩
  cases h1 : fs δ with
  | stuck => rw [h1] at q; exact q
  | ex c gs => rw [h1] at q; exact q
  | ok d =>
    rw [h1] at q
    intro v H1 k1 hv
    exact h H1 d v k1 (st.fr.wl.same k1) (st.same k1) hv h1 (RE.same (r := op d) q k1)
noncomputable def tupR (ds : List D) : Res D := @ite (Res D) (ds.length ≤ 1000) (Classical.propDecidable _) (.ok (.tup ds)) .stuck
theorem k1000 : (1000 : Nat) ≤ sizeLine := by rw [sizeLine_eq]; decide
theorem de_tup {x1} (h : DA X xw es fs) : DE X xw (.Tuple es x1 pos) (fun δ => (fs δ).bind tupR) :=
  PE.weak (pe_tup h) fun σ H Q ⟨W₀, H₀, W, δ, st, q⟩ => args_read st q fun H2 ds vs k w st2 hv _ q2 => by
    unfold tupR at q2
    split at q2
    · rename_i hz
      exact ⟨by rw [← hv.length]; exact Nat.le_trans hz k1000, fun p hp => q2.newT w hp hv⟩
    · exact q2.elim
noncomputable def lstR (ds : List D) : Res (List D) := @ite (Res (List D)) (ds.length ≤ 1000) (Classical.propDecidable _) (.ok ds) .stuck
theorem df_lst (h : DA X xw es fs) : DF X xw (.List es pos) (fun δ => (fs δ).bind lstR) :=
  PE.weak (pe_lst h) fun σ H Q ⟨W₀, H₀, W, δ, st, q⟩ => by
    dsimp only at q
    refine ⟨W₀, H₀, W, δ, st, ?_⟩
    cases h1 : fs δ with
    | stuck => rw [h1] at q; exact q
    | ex c gs => rw [h1] at q; exact q
    | ok ds =>
      rw [h1] at q
      intro vs H1 k1 hv
      have q' : RF X.K xw W H (lstR ds) Q := q
      unfold lstR at q'
      split at q'
      · rename_i hz
        exact ⟨by rw [← hv.length]; exact Nat.le_trans hz k1000, fun p hp => q' p vs H1 k1 hp hv⟩
      · exact q'.elim
noncomputable def ixR : D → D → Res D
  | .tup ds, .int i => match atI ds i with
    | some d => .ok d
    | none => .stuck
  | .lst ds, .int i => match atI ds i with
    | some d => .ok d
    | none => .stuck
  | .str z, .int i => @ite (Res D) (z.length ≤ sizeLine) (Classical.propDecidable _) (match atI z.cps.toList i with
    | some c => .ok (.str ⟨#[c]⟩)
    | none => .stuck) .stuck
  | _, _ => .stuck
theorem atI_has {K : PySem.W.Frag} {W : WS} {H : Hp} {ds : List D} {xs : List V} {i : Int} {d : D} (r : HasL K W H ds xs) (h : atI ds i = some d) : ∃ x, atI xs i = some x ∧ Has K W H d x := by
  unfold atI at h ⊢
  rw [r.length] at h
  cases e : ixN xs.length i with
  | none => rw [e] at h; cases h
  | some j =>
    rw [e] at h
    obtain ⟨x, h1, h2⟩ := r.get (show ds[j]? = some d from h)
    exact ⟨x, h1, h2⟩
theorem de_ix (ha : DP X xw a fa) (hb : DP X xw b fb) (hs : PlainIx b := by intro _ _; rfl) : DE X xw (.Subscript a b pos) (fun δ => (fa δ).bind fun x => (fb δ).bind fun y => ixR x y) :=
  PE.weak (pe_ix ix_seq ha hb hs) fun σ H Q ⟨W₀, H₀, W, δ, st, q⟩ => two_read st q fun H2 d e v u k w hv hu _ _ q2 => by
    unfold ixR at q2
    split at q2
    · split at q2
      · rename_i d' hd
        obtain ⟨p, xs, e1, sq, r⟩ := hv.tup
        obtain ⟨x, h1, h2⟩ := atI_has r hd
        exact .inr (.inl ⟨p, xs, _, x, e1, hu.int, sq, h1, q2 x H2 (Same.refl _) h2⟩)
      · exact q2.elim
    · split at q2
      · rename_i d' hd
        obtain ⟨p, xs, e1, sq, r⟩ := hv.lst
        obtain ⟨x, h1, h2⟩ := atI_has r hd
        exact .inl ⟨p, xs, _, x, e1, hu.int, sq, h1, q2 x H2 (Same.refl _) h2⟩
      · exact q2.elim
    · split at q2
      · rename_i hz
        split at q2
        · rename_i cc hc
          exact .inr (.inr ⟨_, _, cc, hv.str, hu.int, hz, hc, q2.str⟩)
        · exact q2.elim
      · exact q2.elim
    · exact q2.elim
def DO (X : Cx) (xw : XW) (e : Option Expr) (f : DSt → Res (Option Int)) : Prop := PO X e (fun σ H Q => ∃ W₀ H₀ W δ, StHas X.K W₀ H₀ W H σ δ ∧ match f δ with
  | .ok o => ∀ H', Same H H' → Q o H'
  | .ex c fs => ∀ H', Same H H' → xw c fs H'
  | .stuck => False)
theorem PO.weak {X : Cx} {e : Option Expr} {t t' : TO} (h : PO X e t) (k : ∀ σ H Q, t' σ H Q → t σ H Q) : PO X e t' := fun pins s σ H Q I q => h pins s σ H Q I (k σ H Q q)
theorem do_none : DO X xw none (fun _ => .ok none) := PO.weak po_none fun σ H Q ⟨_, _, _, _, _, q⟩ => q H (Same.refl H)
def partR : D → Res (Option Int)
  | .int i => .ok (some i)
  | _ => .stuck
theorem do_some (h : DE X xw e f) : DO X xw (some e) (fun δ => (f δ).bind partR) := PO.weak (po_some h) fun σ H Q ⟨W₀, H₀, W, δ, st, q⟩ => by
  dsimp only at q
  refine ⟨W₀, H₀, W, δ, st, ?_⟩
  cases h1 : f δ with
  | stuck => rw [h1] at q; exact q
  | ex c fs => rw [h1] at q; exact q
  | ok d =>
    rw [h1] at q
    intro v H1 k1 hv
    cases d with
    | int i => rw [Has] at hv; exact ⟨i, hv, q H1 k1⟩
    | _ => exact q.elim
def cutD (xs : List D) (lo hi : Option Int) : List D := (xs.drop (HT.sIx xs.length 0 lo)).take (HT.sIx xs.length xs.length hi - HT.sIx xs.length 0 lo)
theorem cut_has {K : PySem.W.Frag} {W : WS} {H : Hp} {ds : List D} {xs : List V} (r : HasL K W H ds xs) (lo hi : Option Int) : HasL K W H (cutD ds lo hi) (cutV xs lo hi) := by
  unfold cutD cutV
  rw [r.length]
  exact (r.drop _).take _
variable {lo hi : Option Expr} {fl fh : DSt → Res (Option Int)} {p2 : Pos}
def whole (n : Nat) (lo hi : Option Int) : Prop := HT.sIx n 0 lo = 0 ∧ HT.sIx n n hi = n
instance {n : Nat} {lo hi : Option Int} : Decidable (whole n lo hi) := inferInstanceAs (Decidable (_ ∧ _))
theorem sl_read {σ : L2.St} {H : Hp} {W₀ W : WS} {H₀ : Hp} {δ : DSt} {α : Type} {op : D → Option Int → Option Int → Res α} {R : V → Option Int → Option Int → Hp → Prop} {G : Hp → Res α → Prop} (st : StHas X.K W₀ H₀ W H σ δ)
    (hex : ∀ H c gs, G H (.ex c gs) → ∀ H', Same H H' → xw c gs H') (hst : ∀ H, G H .stuck → False) (hG : ∀ H H' r, Same H H' → G H r → G H' r)
    (q : G H ((fa δ).bind fun x => (fl δ).bind fun l => (fh δ).bind fun u => op x l u))
    (h : ∀ H2 d v l u, Same H H2 → WL W H2 → HasT X.K W H2 d v → G H2 (op d l u) → R v l u H2) :
    tDP X.K xw fa σ H fun x H1 => (fun σ H Q => ∃ W₀ H₀ W δ, StHas X.K W₀ H₀ W H σ δ ∧ match fl δ with
  | .ok o => ∀ H', Same H H' → Q o H'
  | .ex c fs => ∀ H', Same H H' → xw c fs H'
  | .stuck => False : TO) σ H1 fun l H2 => (fun σ H Q => ∃ W₀ H₀ W δ, StHas X.K W₀ H₀ W H σ δ ∧ match fh δ with
  | .ok o => ∀ H', Same H H' → Q o H'
  | .ex c fs => ∀ H', Same H H' → xw c fs H'
  | .stuck => False : TO) σ H2 fun u H3 => R x l u H3 := by
  refine ⟨W₀, H₀, W, δ, st, ?_⟩
  cases h1 : fa δ with
  | stuck => rw [h1] at q; exact hst _ q
  | ex c fs => rw [h1] at q; exact hex _ _ _ q
  | ok d =>
    rw [h1] at q
    intro v H1 k1 hv
    refine ⟨W₀, H₀, W, δ, st.same k1, ?_⟩
    have q' : G H ((fl δ).bind fun l => (fh δ).bind fun u => op d l u) := q
    cases h2 : fl δ with
    | stuck => rw [h2] at q'; exact hst _ q'
    | ex c fs => rw [h2] at q'; exact fun H2 k2 => hex _ _ _ q' H2 (k1.trans k2)
    | ok l =>
      rw [h2] at q'
      intro H2 k2
      refine ⟨W₀, H₀, W, δ, (st.same k1).same k2, ?_⟩
      have q2 : G H ((fh δ).bind fun u => op d l u) := q'
      cases h3 : fh δ with
      | stuck => rw [h3] at q2; exact hst _ q2
      | ex c fs => rw [h3] at q2; exact fun H3 k3 => hex _ _ _ q2 H3 ((k1.trans k2).trans k3)
      | ok u =>
        rw [h3] at q2
        intro H3 k3
        have w1 := st.fr.wl.same k1
        exact h H3 d v l u ((k1.trans k2).trans k3) (st.fr.wl.same ((k1.trans k2).trans k3)) (hv.same (k2.trans k3) w1) (hG _ _ _ ((k1.trans k2).trans k3) q2)
def slL (d : D) (lo hi : Option Int) : Res (List D) := match d with
  | .lst ds => .ok (cutD ds lo hi)
  | _ => .stuck
theorem df_slL (ha : DP X xw a fa) (hl : DO X xw lo fl) (hh : DO X xw hi fh) : DF X xw (.Subscript a (.Slice lo hi none p2) pos) (fun δ => (fa δ).bind fun x => (fl δ).bind fun l => (fh δ).bind fun u => slL x l u) :=
  PE.weak (pe_slice sl_list ha hl hh) fun σ H Q ⟨W₀, H₀, W, δ, st, q⟩ => sl_read (G := fun H r => RF X.K xw W H r Q) st (fun _ _ _ q => q) (fun _ q => q) (fun _ _ _ k q => RF.same q k) q fun H2 d v l u k w hv q2 => by
    unfold slL at q2
    split at q2
    · obtain ⟨a1, xs, e1, sq, r⟩ := hv.lst
      exact ⟨a1, xs, e1, sq, fun p hp => q2 p _ H2 (Same.refl _) hp (cut_has r l u)⟩
    · exact q2.elim
end
end L3
namespace L3
open PySem PySem.Spec PyProof.Rows L2 SeqAt
inductive Out where
  | nx (δ : DSt) | rt (d : D) | bk (δ : DSt) | ct (δ : DSt) | ex (c : Str) (fs : List D) | stuck
structure Step (W : WS) (H : Hp) (W' : WS) (H' : Hp) : Prop where
  keep : Keep W H H'
  new : ∀ b, W' b → W b ∨ H b = none
section
variable {W W1 W2 : WS} {H H1 H2 : Hp}
theorem Step.refl : Step W H W H := ⟨fun _ _ e _ => e, fun _ z => .inl z⟩
theorem Step.same (k : Same H H1) : Step W H W H1 := ⟨Same.keep k, fun _ z => .inl z⟩
theorem Step.trans (a : Step W H W1 H1) (b : Step W1 H1 W2 H2) : Step W H W2 H2 := by
  refine ⟨fun c o e n => b.keep c o (a.keep c o e n) fun z => ?_, fun c z => ?_⟩
  · rcases a.new c z with q | q
    · exact n q
    · rw [e] at q; cases q
  · rcases b.new c z with q | q
    · exact a.new c q
    · by_cases hw : W c
      · exact .inl hw
      · right
        cases e : H c with
        | none => rfl
        | some o => rw [a.keep c o e hw] at q; cases q
end
section
variable (K : PySem.W.Frag) (xw : XW)
def RS (W₀ : WS) (H₀ : Hp) (W : WS) (H : Hp) (o : Out) (Dn : Ends) : Prop := match o with
  | .nx δ => ∀ W' H' σ, Step W H W' H' → StHas K W₀ H₀ W' H' σ δ → Dn.nx σ H'
  | .bk δ => ∀ W' H' σ, Step W H W' H' → StHas K W₀ H₀ W' H' σ δ → Dn.bk σ H'
  | .ct δ => ∀ W' H' σ, Step W H W' H' → StHas K W₀ H₀ W' H' σ δ → Dn.ct σ H'
  | .rt d => ∀ v H', Same H₀ H' → Has K W₀ H' d v → Dn.rt v H'
  | .ex c fs => ∀ H', Same H₀ H' → xw c fs H'
  | .stuck => False
def tDS (g : DSt → Out) : TS := fun Dn σ H => ∃ W₀ H₀ W δ, StHas K W₀ H₀ W H σ δ ∧ RS K xw W₀ H₀ W H (g δ) Dn
end
def DS (X : Cx) (xw : XW) (st : Stmt) (g : DSt → Out) : Prop := PS X st (tDS X.K xw g)
def DSs (X : Cx) (xw : XW) (sts : List Stmt) (g : DSt → Out) : Prop := PSs X sts (tDS X.K xw g)
theorem PS.weak {X : Cx} {st : Stmt} {t t' : TS} (h : PS X st t) (k : ∀ Dn σ H, t' Dn σ H → t Dn σ H) : PS X st t' := fun pins s σ H Dn I q => h pins s σ H Dn I (k Dn σ H q)
theorem PSs.weak {X : Cx} {st : List Stmt} {t t' : TS} (h : PSs X st t) (k : ∀ Dn σ H, t' Dn σ H → t Dn σ H) : PSs X st t' := fun pins s σ H Dn I q => h pins s σ H Dn I (k Dn σ H q)
section
variable {K : PySem.W.Frag} {xw : XW} {W₀ W W1 : WS} {H₀ H H1 : Hp} {o : Out} {Dn : Ends}
theorem RS.step (h : RS K xw W₀ H₀ W H o Dn) (k : Step W H W1 H1) : RS K xw W₀ H₀ W1 H1 o Dn := by
  cases o with
  | nx δ => exact fun W' H' σ k' st => h W' H' σ (k.trans k') st
  | bk δ => exact fun W' H' σ k' st => h W' H' σ (k.trans k') st
  | ct δ => exact fun W' H' σ k' st => h W' H' σ (k.trans k') st
  | rt d => exact h
  | ex c fs => exact h
  | stuck => exact h
end
def ofR {α : Type} (r : Res α) (k : α → Out) : Out := match r with
  | .ok a => k a
  | .ex c fs => .ex c fs
  | .stuck => .stuck
def seqO (o : Out) (g : DSt → Out) : Out := match o with
  | .nx δ => g δ
  | o => o
section
variable {X : Cx} {xw : XW} {e : Expr} {f : DSt → Res D} {pos : Pos} {st : Stmt} {sts : List Stmt} {g g1 g2 : DSt → Out}
theorem dss_nil : DSs X xw [] .nx := PSs.weak pss_nil fun Dn σ H ⟨W₀, H₀, W, δ, st, q⟩ => q W H σ Step.refl st
theorem dss_cons (h1 : DS X xw st g1) (h2 : DSs X xw sts g2) : DSs X xw (st :: sts) (fun δ => seqO (g1 δ) g2) := PSs.weak (pss_cons h1 h2) fun Dn σ H ⟨W₀, H₀, W, δ, st, q⟩ => by
  refine ⟨W₀, H₀, W, δ, st, ?_⟩
  dsimp only at q
  cases h : g1 δ with
  | nx δ' =>
    rw [h] at q
    exact fun W' H' σ' k st' => ⟨W₀, H₀, W', δ', st', RS.step (o := g2 δ') q k⟩
  | bk δ' => rw [h] at q; exact q
  | ct δ' => rw [h] at q; exact q
  | rt d => rw [h] at q; exact q
  | ex c fs => rw [h] at q; exact q
  | stuck => rw [h] at q; exact q
theorem dss_one (h1 : DS X xw st g1) : DSs X xw [st] g1 := pss_one h1
theorem val_read {σ : L2.St} {H : Hp} {W₀ W : WS} {H₀ : Hp} {δ : DSt} {k : D → Out} {Dn : Ends} {R : V → Hp → Prop} (st : StHas X.K W₀ H₀ W H σ δ) (q : RS X.K xw W₀ H₀ W H (ofR (f δ) k) Dn)
    (h : ∀ H2 d v, StHas X.K W₀ H₀ W H2 σ δ → Has X.K W H2 d v → RS X.K xw W₀ H₀ W H2 (k d) Dn → R v H2) : tDE X.K xw f σ H R := by
  refine ⟨W₀, H₀, W, δ, st, ?_⟩
  cases h1 : f δ with
  | stuck => rw [h1] at q; exact q
  | ex c fs => rw [h1] at q; exact fun H' k' => q H' (st.fr.ext.trans k')
  | ok d =>
    rw [h1] at q
    exact fun v H1 k1 hv => h H1 d v (st.same k1) hv (RS.step (o := k d) q (Step.same k1))
theorem ds_ret (he : DE X xw e f) : DS X xw (.Return (some e) pos) (fun δ => ofR (f δ) fun d => .rt d) := PS.weak (ps_ret he) fun Dn σ H ⟨W₀, H₀, W, δ, st, q⟩ =>
  val_read st q fun H2 d v st2 hv q2 => q2 v H2 st2.fr.ext (Has.keep (fun _ _ e _ => e) st2.fr.wl (fun b z => .inl (st2.fr.sub b z)) hv)
theorem ds_retV (i : Nat) {x : Str} {pos' : Pos} (hN : X.N[i]? = some x := by rfl) (hv : Vis X.env.scope x := by first | exact Or.inl rfl | exact Or.inr (Or.inl rfl) | exact Or.inr (Or.inr rfl)) (hd : (x == ("__debug__" : Str)) = false := by decide)
    (hcd : (x == ("__classdict__" : Str)) = false := by decide) : DS X xw (.Return (some (.Name x pos')) pos) (fun δ => ofR (slotP i δ) fun d => .rt d) := PS.weak (ps_ret (pe_var hN hv hd hcd)) fun Dn σ H ⟨W₀, H₀, W, δ, st, q⟩ => by
  have up : ∀ b, W₀ b → W b ∨ H b = none := fun b z => .inl (st.fr.sub b z)
  unfold slotP at q
  dsimp only at q
  split at q
  · rename_i d h
    obtain ⟨v, e, r⟩ := st.at' i _ h
    exact ⟨v, e, q v H st.fr.ext (Has.keep (fun _ _ e _ => e) st.fr.wl up r)⟩
  · rename_i ds h
    obtain ⟨v, e, a, xs, r1, r2, r3, r4, r5⟩ := st.at' i _ h
    refine ⟨v, e, q v H st.fr.ext ?_⟩
    rw [Has]
    refine ⟨a, xs, r1, .inl ⟨r4, fun z => ?_⟩, HasL.keep (fun _ _ e _ => e) st.fr.wl up r5⟩
    obtain ⟨ys, z', _⟩ := st.fr.wl0 a z
    rw [r3] at z'; cases z'
  · exact q.elim
theorem ds_set (i : Nat) {x : Str} {pos' : Pos} (hN : X.N.Nodup) (he : DE X xw e f) (hi : X.N[i]? = some x := by rfl) (hx : Loc X.env.scope x := by first | exact Or.inl rfl | exact Or.inr rfl) (hs : swapsWith e (some (.Name x pos')) pos.line X.env = pure false := by rfl)
    (hf : X.fn x = true ∨ X.env.scope.names.lookup x = some .local := by first | exact .inl rfl | exact .inr rfl | assumption) : DS X xw (.Assign [.Name x pos'] e pos) (fun δ => ofR (f δ) fun d => .nx (δ.set i (some (.d d)))) :=
  PS.weak (ps_set hN hi hx he hs hf) fun Dn σ H ⟨W₀, H₀, W, δ, st, q⟩ => val_read st q fun H2 d v st2 hv q2 => q2 W H2 _ Step.refl (st2.set hv)
theorem new_read {σ : L2.St} {H : Hp} {W₀ W : WS} {H₀ : Hp} {δ : DSt} {ff : DSt → Res (List D)} {i : Nat} {Dn : Ends} (st : StHas X.K W₀ H₀ W H σ δ) (q : RS X.K xw W₀ H₀ W H (ofR (ff δ) fun ds => .nx (δ.set i (some (.o ds)))) Dn) :
    tDF X.K xw ff σ H fun x H1 => gName i x σ H1 Dn.nx := by
  refine ⟨W₀, H₀, W, δ, st, ?_⟩
  cases h1 : ff δ with
  | stuck => rw [h1] at q; exact q
  | ex c fs => rw [h1] at q; exact fun H' k' => q H' (st.fr.ext.trans k')
  | ok ds =>
    rw [h1] at q
    intro a xs H1 k n r
    have st1 := (st.same k).own (i := i) n r
    refine q _ _ _ ⟨fun b o e nb => ?_, fun b z => z.elim .inl fun z => .inr (by rw [z]; exact Same.free k n)⟩ st1
    rw [upd_ne (ne_of_none (k b o e) n)]; exact k b o e
theorem ds_own (i : Nat) {x : Str} {pos' : Pos} {ff : DSt → Res (List D)} (hN : X.N.Nodup) (he : DF X xw e ff) (hi : X.N[i]? = some x := by rfl) (hx : Loc X.env.scope x := by first | exact Or.inl rfl | exact Or.inr rfl) (hs : swapsWith e (some (.Name x pos')) pos.line X.env = pure false := by rfl)
    (hf : X.fn x = true ∨ X.env.scope.names.lookup x = some .local := by first | exact .inl rfl | exact .inr rfl | assumption) : DS X xw (.Assign [.Name x pos'] e pos) (fun δ => ofR (ff δ) fun ds => .nx (δ.set i (some (.o ds)))) :=
  PS.weak (ps_set hN hi hx he hs hf) fun Dn σ H ⟨W₀, H₀, W, δ, st, q⟩ => new_read st q
def ifO (c : Res Bool) (a b : Out) : Out := ofR c fun k => if k = true then a else b
variable {c : Expr} {ga : DSt → Res Bool} {as bs : List Stmt}
theorem ds_if (hc : DT X xw c ga) (ha : DSs X xw as g1) (hb : DSs X xw bs g2) : DS X xw (.If c as bs pos) (fun δ => ifO (ga δ) (g1 δ) (g2 δ)) := PS.weak (ps_if hc ha hb) fun Dn σ H ⟨W₀, H₀, W, δ, st, q⟩ => by
  refine ⟨W₀, H₀, W, δ, st, ?_⟩
  unfold ifO at q
  dsimp only at q
  cases h1 : ga δ with
  | stuck => rw [h1] at q; exact q
  | ex c fs => rw [h1] at q; exact fun H' k' => q H' (st.fr.ext.trans k')
  | ok k =>
    rw [h1] at q
    intro H1 k1
    have q' : RS X.K xw W₀ H₀ W H (if k = true then g1 δ else g2 δ) Dn := q
    cases k with
    | true => rw [if_pos rfl] at q' ⊢; exact ⟨W₀, H₀, W, δ, st.same k1, q'.step (Step.same k1)⟩
    | false => rw [if_neg Bool.false_ne_true] at q' ⊢; exact ⟨W₀, H₀, W, δ, st.same k1, q'.step (Step.same k1)⟩
def tDG (K : PySem.W.Frag) (t : D → DSt → Res DSt) : TG := fun v σ H Q => ∃ W₀ H₀ W δ d, StHas K W₀ H₀ W H σ δ ∧ Has K W H d v ∧ match t d δ with
  | .ok δ' => ∀ σ', StHas K W₀ H₀ W H σ' δ' → Q σ' H
  | _ => False
def DG (X : Cx) (tg : Expr) (t : D → DSt → Res DSt) : Prop := PG X tg (tDG X.K t)
theorem PG.weak {X : Cx} {tg : Expr} {t t' : TG} (h : PG X tg t) (k : ∀ v σ H Q, t' v σ H Q → t v σ H Q) : PG X tg t' := fun pins s σ H v u Q I r q => h pins s σ H v u Q I r (k v σ H Q q)
def setI (i : Nat) (d : D) (δ : DSt) : Res DSt := .ok (δ.set i (some (.d d)))
theorem dg_name (i : Nat) {x : Str} (hN : X.N.Nodup) (hi : X.N[i]? = some x := by rfl) (hx : Loc X.env.scope x := by first | exact Or.inl rfl | exact Or.inr rfl) (hf : X.fn x = true ∨ X.env.scope.names.lookup x = some .local := by first | exact .inl rfl | exact .inr rfl | assumption) :
    DG X (.Name x pos) (setI i) := PG.weak (pg_name hN hi hx hf) fun v σ H Q ⟨W₀, H₀, W, δ, d, st, hv, q⟩ => q _ (st.set hv)
def tDGs (K : PySem.W.Frag) (t : List D → DSt → Res DSt) : TGs := fun vs σ H Q => ∃ W₀ H₀ W δ ds, StHas K W₀ H₀ W H σ δ ∧ HasL K W H ds vs ∧ match t ds δ with
  | .ok δ' => ∀ σ', StHas K W₀ H₀ W H σ' δ' → Q σ' H
  | _ => False
def DGs (X : Cx) (tgs : List Expr) (t : List D → DSt → Res DSt) : Prop := PGs X tgs (tDGs X.K t)
theorem PGs.weak {X : Cx} {tg : List Expr} {t t' : TGs} (h : PGs X tg t) (k : ∀ v σ H Q, t' v σ H Q → t v σ H Q) : PGs X tg t' := fun pins s σ H v u Q I r q => h pins s σ H v u Q I r (k v σ H Q q)
def unNil (ds : List D) (δ : DSt) : Res DSt := match ds with
  | [] => .ok δ
  | _ => .stuck
def unCons (t : D → DSt → Res DSt) (r : List D → DSt → Res DSt) (ds : List D) (δ : DSt) : Res DSt := match ds with
  | d :: ds => (t d δ).bind fun δ' => r ds δ'
  | [] => .stuck
variable {tg : Expr} {tgs : List Expr} {t : D → DSt → Res DSt} {ts : List D → DSt → Res DSt}
theorem dgs_nil : DGs X [] unNil := PGs.weak pgs_nil fun vs σ H Q ⟨W₀, H₀, W, δ, ds, st, hv, q⟩ => by
  unfold unNil at q
  cases ds with
  | nil => rw [HasL] at hv; exact ⟨hv, q σ st⟩
  | cons => exact q.elim
theorem dgs_cons (h1 : DG X tg t) (h2 : DGs X tgs ts) (hs : (assignEach (tg :: tgs) X.env).map (·.2) = assign tg X.env :: (assignEach tgs X.env).map (·.2) := by rfl) : DGs X (tg :: tgs) (unCons t ts) :=
  PGs.weak (pgs_cons h1 h2 hs) fun vs σ H Q ⟨W₀, H₀, W, δ, ds, st, hv, q⟩ => by
    unfold unCons at q
    cases ds with
    | nil => exact q.elim
    | cons d ds =>
      rw [HasL] at hv
      obtain ⟨x, r, e, h, hr⟩ := hv
      refine ⟨x, r, e, W₀, H₀, W, δ, d, st, h, ?_⟩
      dsimp only at q
      cases h1 : t d δ with
      | stuck => rw [h1] at q; exact q
      | ex c fs => rw [h1] at q; exact q
      | ok δ' =>
        rw [h1] at q
        exact fun σ' st' => ⟨W₀, H₀, W, δ', ds, st', hr, q⟩
def unTup (n : Nat) (ts : List D → DSt → Res DSt) (d : D) (δ : DSt) : Res DSt := match d with
  | .tup ds => if ds.length = n then ts ds δ else .stuck
  | _ => .stuck
theorem dg_tup {k : Nat} {n : Nat} (hc : X.calm = true) (h : DGs X tgs ts) (hn : (assignEach tgs X.env).length = n := by rfl) (hst : (assignEach tgs X.env).findIdx? (·.1) = none := by rfl) : DG X (.Tuple tgs k pos) (unTup n ts) :=
  PG.weak (pg_tup hc h hn hst) fun v σ H Q ⟨W₀, H₀, W, δ, d, st, hv, q⟩ => by
    unfold unTup at q
    cases d with
    | tup ds =>
      dsimp only at q
      split at q
      · rename_i hl
        split at hl
        · rename_i hl'
          rw [Has] at hv
          obtain ⟨a, xs, e, sq, r⟩ := hv
          refine ⟨a, xs, e, sq, by rw [← r.length]; exact hl', W₀, H₀, W, δ, ds, st, r, ?_⟩
          rw [hl]
          exact q
        · cases hl
      · exact q.elim
    | _ => exact q.elim
theorem ds_asg (he : DE X xw e f) (hg : DG X tg t) (hs : swapsWithSole [tg] e pos.line X.env = pure false := by rfl) (hw : swappedStores [tg] e X.env = pure none := by rfl)
    (h1 : (assignEach [tg] X.env).map (·.2) = [assign tg X.env] := by rfl) : DS X xw (.Assign [tg] e pos) (fun δ => ofR (f δ) fun d => match t d δ with | .ok δ' => .nx δ' | _ => .stuck) :=
  PS.weak (ps_asg he hg hs hw h1) fun Dn σ H ⟨W₀, H₀, W, δ, st, q⟩ => val_read st q fun H2 d v st2 hv q2 => by
    refine ⟨W₀, H₀, W, δ, d, st2, hv, ?_⟩
    split at q2
    · exact fun σ' st' => q2 W H2 σ' Step.refl st'
    · exact q2.elim
def ItOk (K : PySem.W.Frag) (W : WS) (H : Hp) (J : It) (ds : List D) : Prop := ∀ W' H2, Step W H W' H2 → WL W' H2 →
  (∀ i d, ds[i]? = some d → J.go i H2 ∧ ∀ x H3, J.yld i H2 x H3 → Same H2 H3 ∧ Has K W' H3 d x) ∧ J.stop ds.length H2
def tDI (K : PySem.W.Frag) (xw : XW) (f : DSt → Res (List D)) : TI := fun σ H R => ∃ W₀ H₀ W δ, StHas K W₀ H₀ W H σ δ ∧ match f δ with
  | .ok ds => ∀ J H', Same H H' → ItOk K W H' J ds → R J H'
  | .ex c fs => ∀ H', Same H H' → xw c fs H'
  | .stuck => False
def DI (X : Cx) (xw : XW) (tg iter : Expr) (f : DSt → Res (List D)) : Prop := PI X tg iter (tDI X.K xw f)
theorem PI.weak {X : Cx} {tg iter : Expr} {t t' : TI} (h : PI X tg iter t) (k : ∀ σ H R, t' σ H R → t σ H R) : PI X tg iter t' := fun pins s σ H R I q => h pins s σ H R I (k σ H R q)
theorem SqL.lr {K : PySem.W.Frag} {W W' : WS} {H H2 : Hp} {a : Addr} {xs : List V} (h : LR K W H a xs) (k : Step W H W' H2) (w : WL W H) : LR K W' H2 a xs := h.keep k.keep w k.new
theorem itl_ok {K : PySem.W.Frag} {W : WS} {H : Hp} {a : Addr} {xs : List V} {ds : List D} (w : WL W H) (h : LR K W H a xs) (r : HasL K W H ds xs) : ItOk K W H (Itl K a) ds := by
  intro W' H2 k w2
  have h2 := (SqL.lr h k w).sq
  refine ⟨fun i d e => ?_, xs, h2, by rw [r.length]; exact Nat.le_refl _⟩
  obtain ⟨x, e1, hx⟩ := r.get e
  refine ⟨⟨xs, x, h2, e1⟩, fun y H3 z => ?_⟩
  obtain ⟨rfl, z⟩ := z
  have : y = x := by
    have q := z xs h2
    rw [e1] at q; exact (Option.some.inj q).symm
  subst this
  exact ⟨Same.refl _, Has.keep k.keep w k.new hx⟩
theorem itt_ok {K : PySem.W.Frag} {W : WS} {H : Hp} {a : Addr} {xs : List V} {ds : List D} (w : WL W H) (h : SqT K H a xs) (r : HasL K W H ds xs) : ItOk K W H (Itt K a) ds := by
  intro W' H2 k w2
  have h2 := sqT_keep k.keep w h
  refine ⟨fun i d e => ?_, xs, h2, by rw [r.length]; exact Nat.le_refl _⟩
  obtain ⟨x, e1, hx⟩ := r.get e
  refine ⟨⟨xs, x, h2, e1⟩, fun y H3 z => ?_⟩
  obtain ⟨rfl, z⟩ := z
  have : y = x := by
    have q := z xs h2
    rw [e1] at q; exact (Option.some.inj q).symm
  subst this
  exact ⟨Same.refl _, Has.keep k.keep w k.new hx⟩
def rngD (lo : Int) (n : Nat) : List D := (List.range n).map fun (i : Nat) => D.int (lo + i)
theorem itr_ok {K : PySem.W.Frag} {W : WS} {H : Hp} (lo : Int) (n : Nat) : ItOk K W H (Itr lo n) (rngD lo n) := by
  intro W' H2 k w2
  unfold rngD
  refine ⟨fun i d e => ?_, by simp [Itr]⟩
  rw [List.getElem?_map] at e
  have hi : i < n := by
    refine Nat.lt_of_not_le fun z => ?_
    rw [List.getElem?_eq_none (by simpa using z)] at e; cases e
  rw [List.getElem?_range hi] at e
  have e' : D.int (lo + (i : Nat)) = d := Option.some.inj e
  subst e'
  refine ⟨hi, fun x H3 z => ?_⟩
  obtain ⟨rfl, rfl⟩ := z
  exact ⟨Same.refl _, by rw [Has]⟩
noncomputable def rng1R (ds : List D) : Res (List D) := match ds with
  | [.int j] => @ite (Res (List D)) (-(2 ^ 62) ≤ j ∧ j < 2 ^ 62) (Classical.propDecidable _) (.ok (rngD 0 j.toNat)) .stuck
  | _ => .stuck
theorem HasL.one {K : PySem.W.Frag} {W : WS} {H : Hp} {i : Int} {vs : List V} (h : HasL K W H [.int i] vs) : vs = [.int i] := by
  rw [HasL] at h
  obtain ⟨x, r, rfl, h1, h2⟩ := h
  rw [HasL] at h2
  rw [Has] at h1
  rw [h1, h2]
theorem HasL.two {K : PySem.W.Frag} {W : WS} {H : Hp} {i j : Int} {vs : List V} (h : HasL K W H [.int i, .int j] vs) : vs = [.int i, .int j] := by
  rw [HasL] at h
  obtain ⟨x, r, rfl, h1, h2⟩ := h
  rw [Has] at h1
  rw [h1, h2.one]
variable {a b : Expr} {fs : DSt → Res (List D)} {p : Pos}
theorem di_range1 (hm : X.mg "range" = none) (ha : DA X xw [a] fs) (hg : Gl X "range" := by rfl) (hs : starEach [a] X.env = [(false, eval a X.env)] := by rfl) : DI X xw tg (.Call (.Name "range" p) [a] [] pos) (fun δ => (fs δ).bind rng1R) :=
  PI.weak (pi_range1 hg hm ha hs) fun σ H R ⟨W₀, H₀, W, δ, st, q⟩ => by
    refine ⟨W₀, H₀, W, δ, st, ?_⟩
    dsimp only at q
    cases h1 : fs δ with
    | stuck => rw [h1] at q; exact q
    | ex c fs => rw [h1] at q; exact q
    | ok ds =>
      rw [h1] at q
      intro vs H1 k1 hv
      dsimp only [Res.bind] at q
      unfold rng1R at q
      split at q
      · rename_i ds' hq
        split at hq
        · rename_i j
          split at hq
          · rename_i hj
            have e' : rngD 0 j.toNat = ds' := by cases hq; rfl
            subst e'
            exact ⟨j, hv.one, hj.1, hj.2, q _ H1 k1 (itr_ok 0 _)⟩
          · cases hq
        · cases hq
      · rename_i hq
        split at hq
        · split at hq <;> cases hq
        · cases hq
      · exact q.elim
def forD (t : D → DSt → Res DSt) (body : DSt → Out) : List D → DSt → Out
  | [], δ => .nx δ
  | d :: ds, δ => match t d δ with
    | .ok δ' => match body δ' with
      | .nx δ2 => forD t body ds δ2
      | .ct δ2 => forD t body ds δ2
      | .bk δ2 => .nx δ2
      | .rt d => .rt d
      | .ex c fs => .ex c fs
      | .stuck => .stuck
    | _ => .stuck
theorem ds_for {iter : Expr} {fi : DSt → Res (List D)} (hp : PassesOwn (model X.prog X.w) X.A X.env X.xe) (hc : X.calm = true) (hi : DI X xw tg iter fi) (hg : DG X tg t) (hb : DSs X xw sts g)
    (hs : ∀ x, foldedSetIterable iter X.env x = pure x := by intro _; rfl) : DS X xw (.For tg iter sts [] pos) (fun δ => ofR (fi δ) fun ds => forD t g ds δ) :=
  PS.weak (ps_for hp hc hi hg hb hs) fun Dn σ H ⟨W₀, H₀, W, δ, st, q⟩ => by
    refine ⟨W₀, H₀, W, δ, st, ?_⟩
    dsimp only at q
    cases h1 : fi δ with
    | stuck => rw [h1] at q; exact q
    | ex c fs => rw [h1] at q; exact fun H' k' => q H' (st.fr.ext.trans k')
    | ok ds =>
      rw [h1] at q
      intro J H1 k1 it
      have q1 : RS X.K xw W₀ H₀ W H1 (forD t g ds δ) Dn := RS.step (o := forD t g ds δ) q (Step.same k1)
      refine ⟨fun i m σ' H' => ∃ W' δ', m = ds.length - i ∧ i ≤ ds.length ∧ StHas X.K W₀ H₀ W' H' σ' δ' ∧ Step W H1 W' H' ∧ RS X.K xw W₀ H₀ W' H' (forD t g (ds.drop i) δ') Dn,
        ⟨_, W, δ, rfl, Nat.zero_le _, st.same k1, Step.refl, q1⟩, ?_⟩
      rintro i m σ' H' ⟨W', δ', rfl, hi, st', k', q'⟩
      obtain ⟨items, stop⟩ := it W' H' k' st'.fr.wl
      by_cases hl : i < ds.length
      · right
        have e : ds[i]? = some ds[i] := List.getElem?_eq_getElem hl
        obtain ⟨go, yld⟩ := items i _ e
        have ed : ds.drop i = ds[i] :: ds.drop (i + 1) := List.drop_eq_getElem_cons hl
        rw [ed] at q'
        unfold forD at q'
        refine ⟨go, fun σ2 H2 => ∃ W2 δ2, StHas X.K W₀ H₀ W2 H2 σ2 δ2 ∧ Step W H1 W2 H2 ∧ RS X.K xw W₀ H₀ W2 H2 (forD t g (ds.drop (i + 1)) δ2) Dn, fun σ2 H2 ⟨W2, δ2, a1, a2, a3⟩ => ⟨ds.length - (i + 1), by omega, W2, δ2, rfl, hl, a1, a2, a3⟩, fun x H3 z => ?_⟩
        obtain ⟨k3, hx⟩ := yld x H3 z
        refine ⟨W₀, H₀, W', δ', ds[i], st'.same k3, hx, ?_⟩
        cases h2 : t ds[i] δ' with
        | stuck => rw [h2] at q'; exact q'
        | ex c fs => rw [h2] at q'; exact q'
        | ok δ2 =>
          rw [h2] at q'
          intro σ2 st2
          refine ⟨W₀, H₀, W', δ2, st2, ?_⟩
          dsimp only at q'
          have kk : Step W' H' W' H3 := Step.same k3
          cases h3 : g δ2 with
          | nx δ3 => rw [h3] at q'; exact fun W3 H4 σ3 k4 st3 => ⟨W3, δ3, st3, (k'.trans kk).trans k4, RS.step (o := forD t g (ds.drop (i + 1)) δ3) q' (kk.trans k4)⟩
          | ct δ3 => rw [h3] at q'; exact fun W3 H4 σ3 k4 st3 => ⟨W3, δ3, st3, (k'.trans kk).trans k4, RS.step (o := forD t g (ds.drop (i + 1)) δ3) q' (kk.trans k4)⟩
          | bk δ3 => rw [h3] at q'; exact fun W3 H4 σ3 k4 st3 => q' W3 H4 σ3 (kk.trans k4) st3
          | rt d => rw [h3] at q'; exact q'
          | ex c fs => rw [h3] at q'; exact q'
          | stuck => rw [h3] at q'; exact q'
      · left
        have ei : i = ds.length := by omega
        subst ei
        rw [List.drop_length] at q'
        exact ⟨stop, q' W' H' σ' Step.refl st'⟩
def whileD (c : DSt → Res Bool) (body : DSt → Out) : Nat → DSt → Out
  | 0, _ => .stuck
  | n + 1, δ => match c δ with
    | .ok true => match body δ with
      | .nx δ2 => whileD c body n δ2
      | .ct δ2 => whileD c body n δ2
      | .bk δ2 => .nx δ2
      | .rt d => .rt d
      | .ex c fs => .ex c fs
      | .stuck => .stuck
    | .ok false => .nx δ
    | .ex c fs => .ex c fs
    | .stuck => .stuck
end
end L3
namespace L3
open PySem PySem.Spec PyProof.Rows L2 SeqAt
def noex {α : Type} : Res α → Res α
  | .ok a => .ok a
  | _ => .stuck
def compD (t : D → DSt → Res DSt) (c : DSt → Res Bool) (fe : DSt → Res D) : List D → DSt → Res (List D)
  | [], _ => .ok []
  | d :: ds, δ => match t d δ with
    | .ok δ' => (noex (c δ')).bind fun k => if k = true then (noex (fe δ')).bind fun x => (compD t c fe ds δ').bind fun r => .ok (x :: r) else compD t c fe ds δ'
    | _ => .stuck
abbrev xwF : XW := fun _ _ _ => False
section
variable {K : PySem.W.Frag} {W₀ W : WS} {H₀ H : Hp} {σ : L2.St} {δ : DSt} {a : Addr}
theorem StHas.acc {xs ys : List V} (h : StHas K W₀ (upd H₀ a (.lst xs)) W H σ δ) (ha : H a = some (.lst xs)) (hW : W a) : StHas K W₀ (upd H₀ a (.lst ys)) W (upd H a (.lst ys)) σ δ := by
  have kk : Keep W H (upd H a (.lst ys)) := fun b o e n => by
    rw [upd_ne (fun z => n (by rw [z]; exact hW))]; exact e
  have hw : ∀ b, W b → W b ∨ H b = none := fun b z => .inl z
  have fr' : FrOk W₀ (upd H₀ a (.lst ys)) W (upd H a (.lst ys)) := by
    refine ⟨fun b o e => ?_, h.fr.sub, fun b z => ?_, fun b z => ?_⟩
    · by_cases hb : b = a
      · subst hb; rw [upd_same] at e ⊢; exact e
      · rw [upd_ne hb] at e ⊢
        exact h.fr.ext b o (by rw [upd_ne hb]; exact e)
    · by_cases hb : b = a
      · rw [hb]; exact ⟨_, upd_same, trivial⟩
      · rw [upd_ne hb]; exact h.fr.wl b z
    · by_cases hb : b = a
      · rw [hb]; exact ⟨_, upd_same, trivial⟩
      · have := h.fr.wl0 b z
        rw [upd_ne hb] at this ⊢; exact this
  refine ⟨fr', h.len, fun j s e => ?_, h.ap⟩
  obtain ⟨v, h1, h2⟩ := h.at' j s e
  refine ⟨v, h1, ?_⟩
  cases s with
  | d x => exact Has.keep kk h.fr.wl hw h2
  | o ds' =>
    obtain ⟨b, zs, e', g1, g2, g3, g4⟩ := h2
    have hb : b ≠ a := fun z => by
      rw [z, upd_same] at g2; cases g2
    rw [upd_ne hb] at g2
    exact ⟨b, zs, e', g1, by rw [upd_ne hb]; exact g2, by rw [upd_ne hb]; exact g3, HasL.keep kk h.fr.wl hw g4⟩
  | q ks' ds' =>
    obtain ⟨b, zs, e', g1, g2, g3, g4, g5⟩ := h2
    have hb : b ≠ a := fun z => by
      rw [z, upd_same] at g2; cases g2
    rw [upd_ne hb] at g2
    exact ⟨b, zs, e', g1, by rw [upd_ne hb]; exact g2, by rw [upd_ne hb]; exact g3, g4, HasL.keep kk h.fr.wl hw g5⟩
theorem StHas.block (n : Nat) (h : StHas K W₀ H₀ W H σ δ) (ha : H a = none) : StHas K W₀ (upd H₀ a (.lst [])) (fun b => W b ∨ b = a) (upd H a (.lst [])) (List.replicate n none ++ σ) (List.replicate n none ++ δ) := by
  have hw : ∀ b, (W b ∨ b = a) → W b ∨ H b = none := fun b z => z.elim .inl fun z => .inr (by rw [z]; exact ha)
  have k : Same H (upd H a (.lst [])) := same_upd ha
  have kk : Keep W H (upd H a (.lst [])) := Same.keep k
  have ha0 : H₀ a = none := Same.free h.fr.ext ha
  have fr' : FrOk W₀ (upd H₀ a (.lst [])) (fun b => W b ∨ b = a) (upd H a (.lst [])) := by
    refine ⟨fun b o e => ?_, fun b z => .inl (h.fr.sub b z), fun b z => z.elim (h.fr.wl.same k b) fun z => by rw [z]; exact ⟨_, upd_same, trivial⟩, h.fr.wl0.same (same_upd ha0)⟩
    by_cases hb : b = a
    · subst hb; rw [upd_same] at e ⊢; exact e
    · rw [upd_ne hb] at e ⊢
      exact h.fr.ext b o e
  have idx : ∀ {α : Type} (l : List (Option α)) (j : Nat) (x : α), (List.replicate n none ++ l)[j]? = some (some x) → n ≤ j ∧ l[j - n]? = some (some x) := fun l j x e => by
    by_cases hj : j < n
    · rw [List.getElem?_append_left (by simpa using hj), List.getElem?_replicate] at e
      split at e <;> cases e
    · refine ⟨Nat.le_of_not_lt hj, ?_⟩
      rw [List.getElem?_append_right (by simpa using hj), List.length_replicate] at e; exact e
  have back : ∀ {α : Type} (l : List (Option α)) (j : Nat) (x : Option α), n ≤ j → l[j - n]? = some x → (List.replicate n none ++ l)[j]? = some x := fun l j x hj e => by
    rw [List.getElem?_append_right (by simpa using hj), List.length_replicate]; exact e
  refine ⟨fr', by simp [h.len], fun j s e => ?_, fun i j s1 s2 b hij os ot e1 e2 e3 e4 => ?_⟩
  · obtain ⟨hj, e⟩ := idx _ _ _ e
    obtain ⟨v, h1, h2⟩ := h.at' _ s e
    refine ⟨v, back _ _ _ hj h1, ?_⟩
    cases s with
    | d x => exact Has.keep kk h.fr.wl hw h2
    | o ds' =>
      obtain ⟨b, ys, e', g1, g2, g3, g4⟩ := h2
      have hb : b ≠ a := ne_of_none g3 ha
      exact ⟨b, ys, e', .inl g1, by rw [upd_ne hb]; exact g2, k _ _ g3, HasL.keep kk h.fr.wl hw g4⟩
    | q ks' ds' =>
      obtain ⟨b, ys, e', g1, g2, g3, g4, g5⟩ := h2
      have hb : b ≠ a := ne_of_none g3 ha
      exact ⟨b, ys, e', .inl g1, by rw [upd_ne hb]; exact g2, k _ _ g3, g4, HasL.keep kk h.fr.wl hw g5⟩
  · obtain ⟨hi, e1⟩ := idx _ _ _ e1
    obtain ⟨hj, e2⟩ := idx _ _ _ e2
    obtain ⟨_, e3⟩ := idx _ _ _ e3
    obtain ⟨_, e4⟩ := idx _ _ _ e4
    exact h.ap (i - n) (j - n) s1 s2 b (by omega) os ot e1 e2 e3 e4
end
section
variable {X : Cx} {xw : XW} {scope : Scope} {elt tg iter e : Expr} {ifs : List Expr} {pos : Pos} {fi : DSt → Res (List D)} {t : D → DSt → Res DSt} {gc : DSt → Res Bool} {fe f : DSt → Res D}
noncomputable def compR (n : Nat) (t : D → DSt → Res DSt) (gc : DSt → Res Bool) (fe : DSt → Res D) (δ : DSt) (ds : List D) : Res (List D) := @ite (Res (List D)) (ds.length ≤ 100000) (Classical.propDecidable _) (noex (compD t gc fe ds (List.replicate n none ++ δ))) .stuck
def DTs (X : Cx) (ifs : List Expr) (g : DSt → Res Bool) : Prop := PTs X ifs (tDT X.K xwF g)
theorem dts_nil : DTs X [] (fun _ => .ok true) := fun pins s σ H Q I ⟨_, _, _, _, _, q⟩ => pts_nil pins s σ H Q I (q H (Same.refl H))
theorem dts_one {c : Expr} (h : DT X xwF c gc) : DTs X [c] gc := pts_one h
theorem comp_read {Nc : Nat} {σ : L2.St} {H : Hp} {Q : VK} (q : tDF X.K xw (fun δ => (fi δ).bind fun ds => compR Nc t gc fe δ ds) σ H Q) :
    tComp Nc (tDI X.K xw fi) (tDG X.K t) (tDT X.K xwF gc) (tDE X.K xwF fe) σ H Q := by
  obtain ⟨W₀, H₀, W, δ, st, q⟩ := q
  refine ⟨W₀, H₀, W, δ, st, ?_⟩
  dsimp only at q
  cases h1 : fi δ with
  | stuck => rw [h1] at q; exact q
  | ex c fs => rw [h1] at q; exact q
  | ok ds =>
    rw [h1] at q
    intro J H1 k1 it a ha
    have q1 : RF X.K xw W H (compR Nc t gc fe δ ds) Q := q
    unfold compR at q1
    split at q1
    case isFalse => exact q1.elim
    rename_i hlen
    have st1 := st.same k1
    cases hc : compD t gc fe ds (List.replicate Nc none ++ δ) with
    | stuck => rw [hc] at q1; exact q1.elim
    | ex c fs => rw [hc] at q1; exact q1.elim
    | ok all =>
    rw [hc] at q1
    have q2 : ∀ a xs H1, Same H H1 → H1 a = none → HasL X.K W H1 all xs → Q (.ref a) (upd H1 a (.lst xs)) := q1
    refine ⟨fun i m xs σ' H' => ∃ δ' acc rest, m = ds.length - i ∧ i ≤ ds.length ∧ StHas X.K W₀ (upd H₀ a (.lst xs)) (fun b => W b ∨ b = a) H' σ' δ' ∧ H' a = some (.lst xs) ∧ (∀ b o, H1 b = some o → H' b = some o) ∧
        HasL X.K (fun b => W b ∨ b = a) H' acc xs ∧ compD t gc fe (ds.drop i) δ' = .ok rest ∧ acc ++ rest = all ∧ xs.length ≤ i,
      ⟨_, List.replicate Nc none ++ δ, [], all, rfl, Nat.zero_le _, st1.block Nc ha, upd_same, fun b o e => by rw [upd_ne (ne_of_none e ha)]; exact e, HasL.nil, hc, rfl, Nat.zero_le _⟩, ?_⟩
    rintro i m xs σ' H' ⟨δ', acc, rest, rfl, hi, st', hxs, ks, hacc, hrest, hall, hxl⟩
    refine ⟨hxs, ?_⟩
    have k' : Step W H1 (fun b => W b ∨ b = a) H' := ⟨fun b o e _ => ks b o e, fun b z => z.elim .inl fun z => .inr (by rw [z]; exact ha)⟩
    obtain ⟨items, stop⟩ := it _ H' k' st'.fr.wl
    by_cases hl : i < ds.length
    · right
      have e : ds[i]? = some ds[i] := List.getElem?_eq_getElem hl
      obtain ⟨go, yld⟩ := items i _ e
      have ed : ds.drop i = ds[i] :: ds.drop (i + 1) := List.drop_eq_getElem_cons hl
      rw [ed] at hrest
      unfold compD at hrest
      refine ⟨go, fun x H3 z => ?_⟩
      obtain ⟨k3, hx⟩ := yld x H3 z
      refine ⟨W₀, _, _, δ', ds[i], st'.same k3, hx, ?_⟩
      cases h2 : t ds[i] δ' with
      | stuck => rw [h2] at hrest; cases hrest
      | ex c fs => rw [h2] at hrest; cases hrest
      | ok δ2 =>
        rw [h2] at hrest
        dsimp only at hrest
        intro σ2 st2
        refine ⟨W₀, _, _, δ2, st2, ?_⟩
        cases h3 : gc δ2 with
        | stuck => rw [h3] at hrest; cases hrest
        | ex c fs => rw [h3] at hrest; cases hrest
        | ok k =>
          rw [h3] at hrest
          intro H4 k4
          cases k with
          | false =>
            rw [if_neg Bool.false_ne_true]
            have hr' : compD t gc fe (ds.drop (i + 1)) δ2 = .ok rest := hrest
            exact ⟨ds.length - (i + 1), by omega, δ2, acc, rest, rfl, hl, st2.same k4, k4 _ _ (k3 _ _ hxs), fun b o e => k4 _ _ (k3 _ _ (ks b o e)), (hacc.same k3 st'.fr.wl).same k4 (st'.fr.wl.same k3), hr', hall, by omega⟩
          | true =>
            rw [if_pos rfl]
            have hr' : (noex (fe δ2)).bind (fun x => (compD t gc fe (ds.drop (i + 1)) δ2).bind fun r => .ok (x :: r)) = .ok rest := hrest
            refine ⟨W₀, _, _, δ2, st2.same k4, ?_⟩
            cases h5 : fe δ2 with
            | stuck => rw [h5] at hr'; cases hr'
            | ex c fs => rw [h5] at hr'; cases hr'
            | ok y =>
              rw [h5] at hr'
              intro v H5 k5 hv
              have hr2 : (compD t gc fe (ds.drop (i + 1)) δ2).bind (fun r => .ok (y :: r)) = .ok rest := hr'
              cases h6 : compD t gc fe (ds.drop (i + 1)) δ2 with
              | stuck => rw [h6] at hr2; cases hr2
              | ex c fs => rw [h6] at hr2; cases hr2
              | ok r =>
                rw [h6] at hr2
                have er : y :: r = rest := by cases hr2; rfl
                have h5a : H5 a = some (.lst xs) := k5 _ _ (k4 _ _ (k3 _ _ hxs))
                have w3 := st'.fr.wl.same k3
                have w4 := w3.same k4
                have w5 := w4.same k5
                have acc5 := ((hacc.same k3 st'.fr.wl).same k4 w3).same k5 w4
                have kk : Keep (fun b => W b ∨ b = a) H5 (upd H5 a (.lst (xs ++ [v]))) := fun b o e n => by
                  rw [upd_ne (fun z => n (.inr z))]; exact e
                have sz : sizeLine = 16777216 := sizeLine_eq
                refine ⟨h5a, by omega, ds.length - (i + 1), by omega, δ2, acc ++ [y], r, rfl, hl, ((st2.same k4).same k5).acc h5a (.inr rfl), upd_same, fun b o e => ?_, HasL.keep kk w5 (fun b z => .inl z) (acc5.snoc hv), h6, ?_, ?_⟩
                · rw [upd_ne (ne_of_none e ha)]; exact k5 _ _ (k4 _ _ (k3 _ _ (ks b o e)))
                · rw [List.append_assoc]; show acc ++ (y :: r) = all; rw [er]; exact hall
                · rw [List.length_append, List.length_singleton]; omega
    · left
      have ei : i = ds.length := by omega
      subst ei
      rw [List.drop_length] at hrest
      unfold compD at hrest
      have er : rest = [] := by cases hrest; rfl
      subst er
      rw [List.append_nil] at hall
      subst hall
      refine ⟨stop, ?_⟩
      have hm : (fun b => if b = a then none else H' b : Hp) a = none := if_pos rfl
      have eu : upd (fun b => if b = a then none else H' b : Hp) a (.lst xs) = H' := by
        funext b
        by_cases hb : b = a
        · rw [hb, upd_same, hxs]
        · rw [upd_ne hb, if_neg hb]
      have r := q2 a xs (fun b => if b = a then none else H' b) (fun b o e => by
        have e1 := k1 b o e
        show (if b = a then none else H' b) = some o
        rw [if_neg (ne_of_none e1 ha)]; exact ks b o e1) hm (HasL.keep (W := fun b => W b ∨ b = a) (W' := W) (fun b o e n => by show (if b = a then none else H' b) = some o; rw [if_neg (fun z => n (.inr z))]; exact e) st'.fr.wl (fun b z => .inl (.inl z)) hacc)
      rw [eu] at r
      exact r
theorem df_comp (Nc Nx : List Str) (c : CompOk X scope Nc Nx) (hcalm : X.calm = true) (hi : DI X xw tg iter fi)
    (hY : ∀ (C : Addr) (fp : List Addr) (pins : List (Addr × Obj)) (s : Shared) (H : Hp), DG (compCx X scope Nc Nx C fp pins s H) tg t ∧ DTs (compCx X scope Nc Nx C fp pins s H) ifs gc ∧ DE (compCx X scope Nc Nx C fp pins s H) xwF elt fe)
    (hs : ∀ x, foldedSetIterable iter X.env x = pure x := by intro _; rfl) :
    DF X xw (.ListComp elt [⟨tg, iter, ifs, 0⟩] scope pos) (fun δ => (fi δ).bind fun ds => compR Nc.length t gc fe δ ds) :=
  PE.weak (pe_comp (g := tDG X.K t) (tt := tDT X.K xwF gc) (te := tDE X.K xwF fe) c hcalm hi hY hs) fun σ H Q q => comp_read q
noncomputable def appO (i : Nat) (δ : DSt) (r : Res D) : Out := match δ[i]? with
  | some (some (.o ds)) => @ite Out (ds.length ≤ 100000) (Classical.propDecidable _) (ofR r fun d => .nx (δ.set i (some (.o (ds ++ [d]))))) .stuck
  | _ => .stuck
theorem ds_append (i : Nat) {x : Str} {p1 p2 p3 : Pos} (he : DE X xw e f) (hN : X.N[i]? = some x := by rfl) (hv : Vis X.env.scope x := by first | exact Or.inl rfl | exact Or.inr (Or.inl rfl) | exact Or.inr (Or.inr rfl)) (hd : (x == ("__debug__" : Str)) = false := by decide)
    (hcd : (x == ("__classdict__" : Str)) = false := by decide)
    (hsE : starEach [e] X.env = (false, eval e X.env) :: starEach [] X.env := by rfl)
    (hbase : attributeBase (.Name x p1) "append" X.env (eval (.Name x p1) X.env) = eval (.Name x p1) X.env := by rfl)
    (hfew : ((backTo p3 (starEach [e] X.env)).all (fun x => !x.1) && (backToKw p3 (keywordEach [] X.env)).all (fun x => x.1.isSome)
      && decide (([e] : List Expr).length + ([] : List Keyword).length + (if ([] : List Keyword).isEmpty then 0 else 1) < 30)) = true := by rfl)
    (hline : (p2.endLine == p3.line) = true := by rfl) (hplain : (backTo p3 (starEach [] X.env)).any (·.1) = false := by rfl)
    (hsw : swapsWith (.Call (.Attribute (.Name x p1) "append" p2) [e] [] p3) none pos.line X.env = pure false := by rfl) :
    DS X xw (.Expr (.Call (.Attribute (.Name x p1) "append" p2) [e] [] p3) pos) (fun δ => appO i δ (f δ)) :=
  PS.weak (ps_expr (pe_bm PySem.F.plainAttrs_list PySem.F.slot_list_append PySem.F.type_list_append mt_append (pe_var hN hv hd hcd) (pa_cons he pa_nil hsE) hbase hfew hline hsE hplain) hsw) fun Dn σ H ⟨W₀, H₀, W, δ, st, q⟩ => by
    unfold appO at q
    dsimp only at q
    split at q
    · rename_i ds h
      split at q
      · rename_i hlen
        obtain ⟨v, e1, a, xs, rfl, r2, r3, r4, r5⟩ := st.at' i _ h
        refine ⟨_, e1, .inl ⟨rfl, xs, .of r4⟩, ?_⟩
        refine val_read st q fun H2 d u st2 hu q2 => ?_
        obtain ⟨v', e1', a', ys, e', r2', r3', r4', r5'⟩ := st2.at' i _ h
        rw [e1] at e1'
        cases e1'
        cases e'
        have sz : sizeLine = 16777216 := sizeLine_eq
        refine ⟨a, ys, u, rfl, rfl, r4', ?_, ?_⟩
        · rw [← r5'.length]; omega
        · refine q2 W _ σ ⟨fun b o e n => ?_, fun _ z => .inl z⟩ (st2.change h e1 r4' r2' (r5'.snoc hu))
          rw [upd_ne (fun z => n (by rw [z]; exact r2'))]; exact e
      · exact q.elim
    · exact q.elim
def spD (K : PySem.W.Frag) (n : Nat) (m : List D → Res D) : Sp := fun vs H Q _ => vs.length = n ∧ ∃ W ds, WL W H ∧ HasL K W H ds vs ∧ match m ds with
  | .ok d => ∀ v H', Same H H' → Has K W H' d v → Q v H'
  | _ => False
structure Fn (P : Program) (w : World) (K : PySem.W.Frag) (mg : Str → Option Value) (base : Heap) (k : Nat) (x : Str) (n : Nat) (m : List D → Res D) : Prop where
  ex : ∃ f fd ps, FnOk P w K mg base CX0 k f fd ps (spD K n m) ∧ mg x = some (.ref f) ∧ PySem.W.keepIn K (.ref f) = true ∧ Binds K fd ps []
theorem Fn.mono {P : Program} {w : World} {K : PySem.W.Frag} {mg : Str → Option Value} {base : Heap} {j k n : Nat} {x : Str} {m : List D → Res D} (F : Fn P w K mg base j x n m) (h : j ≤ k) : Fn P w K mg base k x n m := by
  obtain ⟨f, fd, ps, a, b⟩ := F.ex
  exact ⟨f, fd, ps, a.mono h, b⟩
def startD (n : Nat) (ds : List D) : DSt := ds.map (fun d => some (.d d)) ++ List.replicate (n - ds.length) none
def runD (n : Nat) (g : DSt → Out) (ds : List D) : Res D := match g (startD n ds) with
  | .rt d => .ok d
  | .nx _ => .ok .non
  | _ => .stuck
theorem start_has {K : PySem.W.Frag} {W : WS} {H : Hp} {N : List Str} {ds : List D} {vs : List V} (w : WL W H) (r : HasL K W H ds vs) : StHas K W H W H (L2.start N vs) (startD N.length ds) := by
  have hl := r.length
  have idx : ∀ {α : Type} (l : List α) (j : Nat) (x : α) (m : Nat), (l.map some ++ List.replicate m none)[j]? = some (some x) → l[j]? = some x := fun l j x m e => by
    by_cases hj : j < l.length
    · rw [List.getElem?_append_left (by simpa using hj), List.getElem?_map] at e
      cases q : l[j]? with
      | none => rw [q] at e; cases e
      | some z => rw [q] at e; cases e; rfl
    · rw [List.getElem?_append_right (by simpa using hj), List.getElem?_replicate] at e
      split at e <;> cases e
  have eS : startD N.length ds = (ds.map S.d).map some ++ List.replicate (N.length - ds.length) none := by
    unfold startD; rw [List.map_map]; rfl
  refine ⟨⟨Same.refl _, fun _ z => z, w, w⟩, ?_, fun i s e => ?_, fun i j s1 s2 a _ os ot e1 _ _ _ => ?_⟩
  · unfold L2.start startD; simp [hl]
  · rw [eS] at e
    have e' := idx _ _ _ _ e
    rw [List.getElem?_map] at e'
    cases q : ds[i]? with
    | none => rw [q] at e'; cases e'
    | some d =>
      rw [q] at e'
      cases e'
      obtain ⟨x, h1, h2⟩ := r.get q
      refine ⟨x, ?_, h2⟩
      unfold L2.start
      have hi : i < vs.length := (List.getElem?_eq_some_iff.mp h1).1
      rw [List.getElem?_append_left (by simpa using hi), List.getElem?_map, h1]; rfl
  · rw [eS] at e1
    have e' := idx _ _ _ _ e1
    rw [List.getElem?_map] at e'
    cases q : ds[i]? with
    | none => rw [q] at e'; cases e'
    | some d => rw [q] at e'; cases e'; exact os
theorem fn_body {P : Program} {w : World} {K : PySem.W.Frag} {mg : Str → Option Value} {base : Heap} {k : Nat} {x qual : Str} {st : Stmt} {fa : Addr} {fd : FuncData} {N ps : List Str} {g : DSt → Out} (F : Fun K x qual st fa fd) (S : FnScope N ps (defScope st))
    (hm : mg x = some (.ref fa)) (hb : Binds K fd ps [])
    (body : ∀ (cdv : Value) (A : Around) (outer : List Env) (s : Shared) (H : Hp) (E : XK), Room k (A.deeper (envOfC qual (defScope st) s.heap.objs.size fa cdv)) →
      DSs (cxOf CX0 P w K mg base N qual (defScope st) fa cdv A outer s H E).nox xwF (defBody st) g) : Fn P w K mg base (k + 1) x ps.length (runD N.length g) := by
  refine ⟨fa, fd, ps, F.ok S (fun vs H Q E h => h.1) (fun cdv A outer s H vs Q E hr h => ?_), hm, F.kp, hb⟩
  obtain ⟨hl, W, ds, hw, hd, q⟩ := h
  refine ⟨_, body cdv A outer s H E hr, W, H, W, startD N.length ds, start_has hw hd, ?_⟩
  unfold runD at q
  cases h : g (startD N.length ds) with
  | rt d => rw [h] at q; exact fun v H' k hv => q v H' k hv
  | nx δ => rw [h] at q; exact fun W' H' σ' k st' => q .non H' st'.fr.ext (by rw [Has])
  | bk δ => rw [h] at q; exact q.elim
  | ct δ => rw [h] at q; exact q.elim
  | ex c fs => rw [h] at q; exact q.elim
  | stuck => rw [h] at q; exact q.elim
def callR (n : Nat) (m : List D → Res D) (ds : List D) : Res D := if ds.length = n then noex (m ds) else .stuck
theorem de_call {a : Expr} {es : List Expr} {k n : Nat} {x : Str} {m : List D → Res D} {fs : DSt → Res (List D)} {p : Pos} (F : Fn X.prog X.w X.K X.mg X.base k x n m) (hr : Room k X.A) (ha : DA X xw (a :: es) fs) (hg : Gl X x := by rfl)
    (hdb : (x == ("__debug__" : Str)) = false := by decide) (he : starEach (a :: es) X.env = (false, eval a X.env) :: starEach es X.env := by rfl) (hpl : (backTo pos (starEach es X.env)).any (·.1) = false := by rfl) :
    DE X xw (.Call (.Name x p) (a :: es) [] pos) (fun δ => (fs δ).bind fun ds => callR n m ds) := by
  obtain ⟨fa, fd, ps, G, hm, hk, hb⟩ := F.ex
  refine PE.weak (pe_call G hr hg hm hk hb .nil pass0 ha hdb he hpl) fun σ H Q ⟨W₀, H₀, W, δ, st, q⟩ => ?_
  refine args_read st q fun H2 ds vs k w st2 hv _ q2 => ?_
  unfold callR at q2
  split at q2
  · rename_i hn
    rw [List.append_nil]
    refine ⟨by rw [← hv.length]; exact hn, W, ds, w, hv, ?_⟩
    cases h : m ds with
    | ok d => rw [h] at q2; exact q2
    | ex c fs => rw [h] at q2; exact q2
    | stuck => rw [h] at q2; exact q2
  · exact q2.elim
theorem de_callB1 {a : Expr} {fa : DSt → Res D} {x : Str} {id : String} {r : List V → Hp → VK → Prop} {op : D → Res D} {p : Pos} (hc : CallR X (.builtin id) r) (hop : ∀ W H d v Q, WL W H → HasT X.K W H d v → RE X.K xw W H (op d) Q → r [v] H Q)
    (hm : X.mg x = none) (hv : bootBuiltins x = some (.builtin id)) (ha : DP X xw a fa) (hg : Gl X x) (hn : x ≠ "__name__") (hdb : (x == ("__debug__" : Str)) = false)
    (he : starEach [a] X.env = (false, eval a X.env) :: starEach [] X.env) (hpl : (backTo pos (starEach [] X.env)).any (·.1) = false) : DE X xw (.Call (.Name x p) [a] [] pos) (fun δ => (fa δ).bind op) :=
  PE.weak (pe_callB hc hg hm hv (pa_cons ha pa_nil he) hn hdb he hpl) fun σ H Q ⟨W₀, H₀, W, δ, st, q⟩ => one_read st q fun H2 d v k w st2 hv _ q2 => hop W H2 d v Q w hv q2
theorem de_callT1 {a : Expr} {fa : DSt → Res D} {x : Str} {id : String} {r : List V → Hp → VK → Prop} {op : D → Res D} {p : Pos} (hc : CallR X (.type id) r) (hop : ∀ W H d v Q, WL W H → HasT X.K W H d v → RE X.K xw W H (op d) Q → r [v] H Q)
    (hm : X.mg x = none) (hv : bootBuiltins x = some (.type id)) (ha : DP X xw a fa) (hg : Gl X x) (hn : x ≠ "__name__") (hdb : (x == ("__debug__" : Str)) = false)
    (he : starEach [a] X.env = (false, eval a X.env) :: starEach [] X.env) (hpl : (backTo pos (starEach [] X.env)).any (·.1) = false) : DE X xw (.Call (.Name x p) [a] [] pos) (fun δ => (fa δ).bind op) :=
  PE.weak (pe_callTy hc hg hm hv (pa_cons ha pa_nil he) hn hdb he hpl) fun σ H Q ⟨W₀, H₀, W, δ, st, q⟩ => one_read st q fun H2 d v k w st2 hv _ q2 => hop W H2 d v Q w hv q2
noncomputable def lenR : D → Res D
  | .tup ds => .ok (.int ds.length)
  | .lst ds => .ok (.int ds.length)
  | .str z => @ite (Res D) (z.length ≤ sizeLine) (Classical.propDecidable _) (.ok (.int z.length)) .stuck
  | _ => .stuck
variable {a b : Expr} {fa fb : DSt → Res D} {p : Pos}
theorem de_len (hm : X.mg "len" = none) (ha : DP X xw a fa) (hg : Gl X "len" := by rfl) (he : starEach [a] X.env = (false, eval a X.env) :: starEach [] X.env := by rfl) (hpl : (backTo pos (starEach [] X.env)).any (·.1) = false := by rfl) :
    DE X xw (.Call (.Name "len" p) [a] [] pos) (fun δ => (fa δ).bind lenR) :=
  de_callB1 call_len (fun W H d v Q w hv q => by
    unfold lenR at q
    split at q
    · obtain ⟨p, xs, e, sq, r⟩ := hv.tup
      rw [e]
      exact ⟨_, xs.length, rfl, .inr ⟨xs, sq, rfl⟩, by rw [← r.length]; exact q.int⟩
    · obtain ⟨p, xs, e, sq, r⟩ := hv.lst
      rw [e]
      exact ⟨_, xs.length, rfl, .inl ⟨xs, sq, rfl⟩, by rw [← r.length]; exact q.int⟩
    · split at q
      · rename_i hz
        rw [hv.str]
        exact ⟨_, _, rfl, ⟨hz, rfl⟩, q.int⟩
      · exact q.elim
    · exact q.elim) hm PySem.boot_len ha hg (by decide) (by decide) he hpl
def tyD : D → Option String
  | .non => some "NoneType"
  | .bl _ => some "bool"
  | .int _ => some "int"
  | .str _ => some "str"
  | .tup _ => some "tuple"
  | .lst _ => some "list"
  | .dct _ _ => some "dict"
  | .exc _ _ => none
  | .obj _ _ _ => none
def isiB (T C : String) : Bool := T == C || (T == "bool" && C == "int")
def isiR (C : String) (d : D) : Res D := match tyD d with
  | some T => .ok (.bl (isiB T C))
  | none => .stuck
def isiOk (C : String) : Prop := ∀ (K : PySem.W.Frag), ∀ T ∈ ["NoneType", "bool", "int", "str", "tuple", "list", "dict"], PySem.W.kitOne K (.type T) (.type C) = some (isiB T C)
theorem isi_int : isiOk "int" := by intro K T hT; simp only [List.mem_cons, List.not_mem_nil, or_false] at hT; rcases hT with rfl | rfl | rfl | rfl | rfl | rfl | rfl <;> kernel_rfl
theorem isi_bool : isiOk "bool" := by intro K T hT; simp only [List.mem_cons, List.not_mem_nil, or_false] at hT; rcases hT with rfl | rfl | rfl | rfl | rfl | rfl | rfl <;> kernel_rfl
theorem isi_tuple : isiOk "tuple" := by intro K T hT; simp only [List.mem_cons, List.not_mem_nil, or_false] at hT; rcases hT with rfl | rfl | rfl | rfl | rfl | rfl | rfl <;> kernel_rfl
theorem call_isi {C : String} (hC : isiOk C) : CallR X (.builtin "isinstance") (fun xs H Q => ∃ W d x T, xs = [x, .ty C] ∧ HasT X.K W H d x ∧ tyD d = some T ∧ Q (.bl (isiB T C)) H) := by
  intro pins s σ H xs us Q I r h
  obtain ⟨W, d, x, T, rfl, hd, ht, q⟩ := h
  obtain ⟨u, u2, rfl, rx, rc⟩ := r.two
  obtain rfl : u2 = Value.type C := rc
  have hk := hC X.K T (by cases d <;> cases ht <;> simp)
  have fin : ∀ tk, EP X pins σ Q (.bool (isiB T C)) { s with toks := tk } := fun tk => ⟨.bl _, H, I.tok tk, rfl, q⟩
  cases d with
  | non =>
    cases ht
    have := hd.non; subst this
    cases (show u = Value.none from rx)
    exact PySem.W.kia_one PySem.W.kitx_none I.kIn True.intro hk (fun z => nomatch z) fin
  | bl b =>
    cases ht
    have := hd.bl; subst this
    cases (show u = Value.bool b from rx)
    exact PySem.W.kia_one PySem.W.kitx_bool I.kIn True.intro hk (fun z => nomatch z) fin
  | int b =>
    cases ht
    have := hd.int; subst this
    obtain ⟨t, rfl⟩ := (show ∃ t, u = Value.int b t from rx)
    exact PySem.W.kia_one PySem.W.kitx_int I.kIn True.intro hk (fun z => nomatch z) fin
  | str b =>
    cases ht
    have := hd.str; subst this
    obtain ⟨t, rfl⟩ := (show ∃ t, u = Value.str b t from rx)
    exact PySem.W.kia_one PySem.W.kitx_str I.kIn True.intro hk (fun z => nomatch z) fin
  | tup ds =>
    cases ht
    obtain ⟨a, xs, rfl, sq, _⟩ := hd.tup
    cases (show u = Value.ref a from rx)
    obtain ⟨its, _, ⟨o, h1, h2, _⟩, _⟩ := I.tuple sq
    exact PySem.W.kia_one PySem.W.kitx_tuple I.kIn ⟨o, h1, h2⟩ hk (fun z => nomatch z) fin
  | lst ds =>
    cases ht
    obtain ⟨a, xs, rfl, sq, _⟩ := hd.lst
    cases (show u = Value.ref a from rx)
    obtain ⟨its, _, ⟨o, n, h1, h2, _⟩, _⟩ := I.list sq
    exact PySem.W.kia_one PySem.W.kitx_list I.kIn ⟨o, h1, h2⟩ hk (fun z => nomatch z) fin
  | dct ks ds =>
    cases ht
    rcases hd with hd | ⟨_, _, _, z, _⟩
    · rw [Has] at hd
      obtain ⟨a, kvs, rfl, ⟨ob, ea⟩, _⟩ := hd
      cases (show u = Value.ref a from rx)
      obtain ⟨_, _, _, vs, _, p⟩ := (show ObjOk X.prog X.w H s.heap a (.frz ob (.dK kvs)) from I.hok a _ ea)
      obtain ⟨o, es, ep, h1, h2, _⟩ := p
      exact PySem.W.kia_one PySem.W.kitx_dict I.kIn ⟨o, h1, h2.1⟩ hk (fun z => nomatch z) fin
    · cases z
  | exc c ds => cases ht
  | obj c k ds => cases ht
theorem de_isi {C : String} {c : Str} {p2 : Pos} (hC : isiOk C) (hbc : bootBuiltins c = some (.type C)) (hm : X.mg "isinstance" = none) (hmc : X.mg c = none) (ha : DP X xw a fa) (hg : Gl X "isinstance" := by rfl) (hgc : Gl X c := by rfl) (hcn : c ≠ "__name__" := by decide)
    (hcd : (c == ("__debug__" : Str)) = false := by decide)
    (he : starEach [a, .Name c p2] X.env = (false, eval a X.env) :: starEach [.Name c p2] X.env := by rfl) (he2 : starEach [.Name c p2] X.env = (false, eval (.Name c p2) X.env) :: starEach [] X.env := by rfl)
    (hpl : (backTo pos (starEach [.Name c p2] X.env)).any (·.1) = false := by rfl) :
    DE X xw (.Call (.Name "isinstance" p) [a, .Name c p2] [] pos) (fun δ => (fa δ).bind (isiR C)) :=
  PE.weak (pe_callB (call_isi hC) hg hm (by decide +kernel) (pa_cons ha (pa_cons (pe_bltn (v := .ty C) hgc hmc hbc rfl hcn hcd) pa_nil he2) he) (by decide) (by decide) he hpl) fun σ H Q ⟨W₀, H₀, W, δ, st, q⟩ => one_read st q fun H2 d v k w st2 hv _ q2 => by
    unfold isiR at q2
    split at q2
    · rename_i T hT
      exact ⟨W, d, v, T, rfl, hv, hT, q2.bl⟩
    · exact q2.elim
end
end L3
namespace L3
open PySem PySem.Spec PyProof.Rows L2 SeqAt
def kD (d : D) : DSt → Res D := fun _ => .ok d
def b1 {α β : Type} (op : α → Res β) (f : DSt → Res α) : DSt → Res β := fun δ => (f δ).bind op
def b2 (op : D → D → Res D) (f g : DSt → Res D) : DSt → Res D := fun δ => (f δ).bind fun x => (g δ).bind fun y => op x y
def b3 {β : Type} (op : D → Option Int → Option Int → Res β) (f : DSt → Res D) (g h : DSt → Res (Option Int)) : DSt → Res β := fun δ => (f δ).bind fun x => (g δ).bind fun l => (h δ).bind fun u => op x l u
def bCh (op op' : D → D → Res D) (fa fb fc : DSt → Res D) : DSt → Res D := fun δ => (fa δ).bind fun x => (fb δ).bind fun y => chainR op op' x y (fc δ)
def tR (f : DSt → Res D) : DSt → Res Bool := fun δ => (f δ).bind boolR
def tAnd2 (a b : DSt → Res Bool) : DSt → Res Bool := fun δ => andB (a δ) (b δ)
def tOr2 (a b : DSt → Res Bool) : DSt → Res Bool := fun δ => orB (a δ) (b δ)
def tNot1 (a : DSt → Res Bool) : DSt → Res Bool := fun δ => (a δ).bind fun k => .ok (!k)
def vAnd (a b : DSt → Res D) : DSt → Res D := fun δ => andD (a δ) (b δ)
def vOr (a b : DSt → Res D) : DSt → Res D := fun δ => orD (a δ) (b δ)
def vIf (c : DSt → Res Bool) (a b : DSt → Res D) : DSt → Res D := fun δ => (c δ).bind fun k => if k = true then a δ else b δ
def aNil : DSt → Res (List D) := fun _ => .ok []
def aCons (f : DSt → Res D) (fs : DSt → Res (List D)) : DSt → Res (List D) := fun δ => consR (f δ) (fs δ)
def oNone : DSt → Res (Option Int) := fun _ => .ok none
def asD (f : DSt → Res (List D)) : DSt → Res D := fun δ => (f δ).bind fun ds => .ok (.lst ds)
noncomputable def vComp (n : Nat) (t : D → DSt → Res DSt) (gc : DSt → Res Bool) (fe : DSt → Res D) (fi : DSt → Res (List D)) : DSt → Res (List D) := fun δ => (fi δ).bind fun ds => compR n t gc fe δ ds
def sSeq (g1 g2 : DSt → Out) : DSt → Out := fun δ => seqO (g1 δ) g2
def sSet (i : Nat) (f : DSt → Res D) : DSt → Out := fun δ => ofR (f δ) fun d => .nx (δ.set i (some (.d d)))
def sOwn (i : Nat) (f : DSt → Res (List D)) : DSt → Out := fun δ => ofR (f δ) fun ds => .nx (δ.set i (some (.o ds)))
def sIf (c : DSt → Res Bool) (a b : DSt → Out) : DSt → Out := fun δ => ifO (c δ) (a δ) (b δ)
def sFor (t : D → DSt → Res DSt) (g : DSt → Out) (fi : DSt → Res (List D)) : DSt → Out := fun δ => ofR (fi δ) fun ds => forD t g ds δ
def sWhile (n : Nat) (c : DSt → Res Bool) (g : DSt → Out) : DSt → Out := fun δ => whileD c g n δ
noncomputable def sApp (i : Nat) (f : DSt → Res D) : DSt → Out := fun δ => appO i δ (f δ)
def sRet (f : DSt → Res D) : DSt → Out := fun δ => ofR (f δ) fun d => .rt d
def sRetN : DSt → Out := fun _ => .rt .non
def sExpr (f : DSt → Res D) : DSt → Out := fun δ => ofR (f δ) fun _ => .nx δ
def asgO (t : D → DSt → Res DSt) (δ : DSt) (d : D) : Out := match t d δ with
  | .ok δ' => .nx δ'
  | _ => .stuck
def sAsg (t : D → DSt → Res DSt) (f : DSt → Res D) : DSt → Out := fun δ => ofR (f δ) (asgO t δ)
section
variable {X : Cx} {xw : XW} {e a b c : Expr} {f fa fb : DSt → Res D} {pos p : Pos} {st : Stmt} {tg : Expr} {t : D → DSt → Res DSt} {fs : DSt → Res (List D)}
theorem ds_asg' (he : DE X xw e f) (hg : DG X tg t) (hs : swapsWithSole [tg] e pos.line X.env = pure false := by rfl) (hw : swappedStores [tg] e X.env = pure none := by rfl)
    (h1 : (assignEach [tg] X.env).map (·.2) = [assign tg X.env] := by rfl) : DS X xw (.Assign [tg] e pos) (sAsg t f) :=
  PS.weak (ds_asg he hg hs hw h1) fun Dn σ H ⟨W₀, H₀, W, δ, st, q⟩ => ⟨W₀, H₀, W, δ, st, by
    change RS X.K xw W₀ H₀ W H (ofR (f δ) (asgO t δ)) Dn at q
    dsimp only
    cases hf : f δ with
    | stuck => rw [hf] at q; exact q
    | ex c fs => rw [hf] at q; exact q
    | ok d =>
      rw [hf] at q
      have q' : RS X.K xw W₀ H₀ W H (asgO t δ d) Dn := q
      unfold asgO at q'
      show RS X.K xw W₀ H₀ W H (match t d δ with | .ok δ' => .nx δ' | _ => .stuck) Dn
      cases ht : t d δ with
      | ok δ' => rw [ht] at q'; exact q'
      | ex c fs => rw [ht] at q'; exact q'
      | stuck => rw [ht] at q'; exact q'⟩
theorem one_readF {σ : L2.St} {H : Hp} {W₀ W : WS} {H₀ : Hp} {δ : DSt} {op : D → Res (List D)} {Q : VK} {R : V → Hp → Prop} (st : StHas X.K W₀ H₀ W H σ δ)
    (q : RF X.K xw W H ((fa δ).bind op) Q)
    (h : ∀ H2 d v, Same H H2 → WL W H2 → StHas X.K W₀ H₀ W H2 σ δ → HasT X.K W H2 d v → fa δ = .ok d → RF X.K xw W H2 (op d) Q → R v H2) :
    tDP X.K xw fa σ H fun x H1 => R x H1 := by
  refine ⟨W₀, H₀, W, δ, st, ?_⟩
  cases h1 : fa δ with
  | stuck => rw [h1] at q; exact q
  | ex c fs => rw [h1] at q; exact q
  | ok d =>
    rw [h1] at q
    intro v H1 k1 hv
    exact h H1 d v k1 (st.fr.wl.same k1) (st.same k1) hv h1 (RF.same (r := op d) q k1)
def seqR : D → Res (List D)
  | .tup ds => .ok ds
  | .lst ds => .ok ds
  | _ => .stuck
def tupofR : D → Res D
  | .tup ds => .ok (.tup ds)
  | .lst ds => .ok (.tup ds)
  | _ => .stuck
theorem de_tupof (hm : X.mg "tuple" = none) (ha : DP X xw a fa) (hg : Gl X "tuple" := by rfl) (he : starEach [a] X.env = (false, eval a X.env) :: starEach [] X.env := by rfl) (hpl : (backTo pos (starEach [] X.env)).any (·.1) = false := by rfl) :
    DE X xw (.Call (.Name "tuple" p) [a] [] pos) (b1 tupofR fa) :=
  de_callT1 call_tuple_of (fun W H d v Q w hv q2 => by
    unfold tupofR at q2
    split at q2
    · obtain ⟨p, xs, e, sq, r⟩ := hv.tup
      rw [e]
      exact ⟨p, xs, rfl, .inr ⟨sq, q2 _ H (Same.refl _) (by rw [Has]; exact ⟨p, xs, rfl, sq, r⟩)⟩⟩
    · obtain ⟨p, xs, e, sq, r⟩ := hv.lst
      rw [e]
      exact ⟨p, xs, rfl, .inl ⟨sq, fun l hl => q2.newT w hl r⟩⟩
    · exact q2.elim) hm (by decide +kernel) ha hg (by decide) (by decide) he hpl
theorem de_callBA {x : Str} {id : String} {r : List V → Hp → VK → Prop} {op : List D → Res D} {es : List Expr} (hc : CallR X (.builtin id) r) (hop : ∀ W H ds vs Q, WL W H → HasL X.K W H ds vs → RE X.K xw W H (op ds) Q → r vs H Q)
    (hm : X.mg x = none) (hv : bootBuiltins x = some (.builtin id)) (ha : DA X xw (a :: es) fs) (hg : Gl X x) (hn : x ≠ "__name__") (hdb : (x == ("__debug__" : Str)) = false)
    (he : starEach (a :: es) X.env = (false, eval a X.env) :: starEach es X.env) (hpl : (backTo pos (starEach es X.env)).any (·.1) = false) : DE X xw (.Call (.Name x p) (a :: es) [] pos) (b1 op fs) :=
  PE.weak (pe_callB hc hg hm hv ha hn hdb he hpl) fun σ H Q ⟨W₀, H₀, W, δ, st, q⟩ => args_read st q fun H2 ds vs k w st2 hv _ q2 => hop W H2 ds vs Q w hv q2
def maxR : List D → Res D
  | [.int i, .int j] => .ok (.int (max i j))
  | _ => .stuck
def minR : List D → Res D
  | [.int i, .int j] => .ok (.int (min i j))
  | _ => .stuck
theorem de_max2 {b : Expr} (hc : X.calm = true) (hm : X.mg "max" = none) (ha : DA X xw [a, b] fs) (hg : Gl X "max" := by rfl) (he : starEach [a, b] X.env = (false, eval a X.env) :: starEach [b] X.env := by rfl) (hpl : (backTo pos (starEach [b] X.env)).any (·.1) = false := by rfl) :
    DE X xw (.Call (.Name "max" p) [a, b] [] pos) (b1 maxR fs) :=
  de_callBA (call_max2 hc) (fun W H ds vs Q w hv q => by
    unfold maxR at q
    split at q
    · rename_i i j
      refine ⟨i, j, hv.two, ?_⟩
      have e : (if j > i then j else i) = max i j := by split <;> omega
      rw [e]
      exact q.int
    · exact q.elim) hm (by decide +kernel) ha hg (by decide) (by decide) he hpl
theorem de_min2 {b : Expr} (hc : X.calm = true) (hm : X.mg "min" = none) (ha : DA X xw [a, b] fs) (hg : Gl X "min" := by rfl) (he : starEach [a, b] X.env = (false, eval a X.env) :: starEach [b] X.env := by rfl) (hpl : (backTo pos (starEach [b] X.env)).any (·.1) = false := by rfl) :
    DE X xw (.Call (.Name "min" p) [a, b] [] pos) (b1 minR fs) :=
  de_callBA (call_min2 hc) (fun W H ds vs Q w hv q => by
    unfold minR at q
    split at q
    · rename_i i j
      refine ⟨i, j, hv.two, ?_⟩
      have e : (if j < i then j else i) = min i j := by split <;> omega
      rw [e]
      exact q.int
    · exact q.elim) hm (by decide +kernel) ha hg (by decide) (by decide) he hpl
def absR : D → Res D
  | .int i => .ok (.int (if i < 0 then -i else i))
  | _ => .stuck
variable {lo hi : Option Expr} {fl fh : DSt → Res (Option Int)} {p2 : Pos}
def slD (d : D) (lo hi : Option Int) : Res D := match d with
  | .tup ds => if whole ds.length lo hi then .stuck else .ok (.tup (cutD ds lo hi))
  | .lst ds => .ok (.lst (cutD ds lo hi))
  | _ => .stuck
def iSeq (K : PySem.W.Frag) (tl : TE) : TI := fun σ H R => tl σ H fun x H1 => ∃ a, x = .ref a ∧ (((∃ xs, SqL K H1 a xs) ∧ R (Itl K a) H1) ∨ ((∃ xs, SqT K H1 a xs) ∧ R (Itt K a) H1))
theorem pi_seq {l : Expr} {tl : TE} (hl : PE X l tl) : PI X tg l (iSeq X.K tl) := by
  intro pins s σ H R I h
  refine thn (hl pins s σ H _ I h) fun v s1 ⟨x, H1, I1, r1, q1⟩ => ?_
  obtain ⟨a, e, q1⟩ := q1
  subst e
  cases r1
  rcases q1 with ⟨⟨xs, hq⟩, q⟩ | ⟨⟨xs, hq⟩, q⟩
  · obtain ⟨its, rv, p, hz⟩ := I1.list hq
    refine wpAny_pyIter_list p.isList ?_
    refine ⟨s1.heap.objs.size, [s1.heap.objs.size], _, _, H1, rfl, I1.kept (t' := s1.toks) fun b o e => Heap.get?_push_of_some _ e, turn_list a _, ⟨_, Heap.get?_push_size _ rfl, rfl, rfl⟩, fun b hb => ?_, q⟩
    have e : b = s1.heap.objs.size := by simpa using hb
    subst e
    exact I1.fpOk (Nat.le_refl _) (I1.hok.fresh (Nat.le_refl _))
  · obtain ⟨its, rv, p, hz⟩ := I1.tuple hq
    refine wpAny_pyIter_tuple (show s1.heap.IsTuple a its.toArray from p) ?_
    refine ⟨s1.heap.objs.size, [s1.heap.objs.size], _, _, H1, rfl, I1.kept (t' := s1.toks) fun b o e => Heap.get?_push_of_some _ e, turn_tuple a _, ⟨_, Heap.get?_push_size _ rfl, rfl, rfl⟩, fun b hb => ?_, q⟩
    have e : b = s1.heap.objs.size := by simpa using hb
    subst e
    exact I1.fpOk (Nat.le_refl _) (I1.hok.fresh (Nat.le_refl _))
theorem di_seq (h : DE X xw e f) : DI X xw tg e (b1 seqR f) := PI.weak (pi_seq h) fun σ H R ⟨W₀, H₀, W, δ, st, q⟩ => by
  refine ⟨W₀, H₀, W, δ, st, ?_⟩
  simp only [b1] at q
  cases h1 : f δ with
  | stuck => rw [h1] at q; exact q
  | ex c fs => rw [h1] at q; exact q
  | ok d =>
    rw [h1] at q
    intro v H1 k1 hv
    cases d with
    | lst ds =>
      rw [Has] at hv
      obtain ⟨a, xs, e, sq, r⟩ := hv
      exact ⟨a, e, .inl ⟨⟨xs, sq.sq⟩, q _ H1 k1 (itl_ok (st.fr.wl.same k1) sq r)⟩⟩
    | tup ds =>
      rw [Has] at hv
      obtain ⟨a, xs, e, sq, r⟩ := hv
      exact ⟨a, e, .inr ⟨⟨xs, sq⟩, q _ H1 k1 (itt_ok (st.fr.wl.same k1) sq r)⟩⟩
    | _ => exact q.elim
end
def notNR (d : D) : Res D := match d with
  | .non => .ok (.bl false)
  | _ => .ok (.bl true)
section
variable {X : Cx} {xw : XW} {a : Expr} {fa : DSt → Res D} {pos : Pos}
theorem dt_notN' {j pos'} (ha : DP X xw a fa) : DT X xw (.Compare a [.IsNot] [.Constant .none j pos'] pos) (tR (b1 notNR fa)) :=
  DE.t_of (f := b1 notNR fa) (PT.weak (pt_cmp (pc_notN ha)) fun σ H Q q => by
    obtain ⟨W₀, H₀, W, δ, st, q⟩ := q
    exact one_read st q fun H2 d v k w st2 hv _ q2 => by
      unfold notNR at q2
      split at q2
      · rw [hv.non]; exact q2.bl
      · rename_i hd
        rw [decide_eq_false (hv.isN hd)]; exact q2.bl)
end
theorem hu40 {A : Around} {k : Nat} (hr : Room k A) : A.units + 40 < cLine := by have := hr.units; omega
theorem fn_bodyO {P : Program} {w : World} {K : PySem.W.Frag} {mg : Str → Option Value} {base : Heap} {k : Nat} {x qual : Str} {st : Stmt} {fa : Addr} {fd : FuncData} {N ps : List Str} {g : DSt → Out} (F : Fun K x qual st fa fd) (S : FnScope N ps (defScope st))
    (body : ∀ (cdv : Value) (A : Around) (outer : List Env) (s : Shared) (H : Hp) (E : XK), Room k (A.deeper (envOfC qual (defScope st) s.heap.objs.size fa cdv)) →
      DSs (cxOf CX0 P w K mg base N qual (defScope st) fa cdv A outer s H E).nox xwF (defBody st) g) : FnOk P w K mg base CX0 (k + 1) fa fd ps (spD K ps.length (runD N.length g)) := by
  refine F.ok S (fun vs H Q E h => h.1) (fun cdv A outer s H vs Q E hr h => ?_)
  obtain ⟨hl, W, ds, hw, hd, q⟩ := h
  refine ⟨_, body cdv A outer s H E hr, W, H, W, startD N.length ds, start_has hw hd, ?_⟩
  unfold runD at q
  cases h : g (startD N.length ds) with
  | rt d => rw [h] at q; exact fun v H' k hv => q v H' k hv
  | nx δ => rw [h] at q; exact fun W' H' σ' k st' => q .non H' st'.fr.ext (by rw [Has])
  | bk δ => rw [h] at q; exact q.elim
  | ct δ => rw [h] at q; exact q.elim
  | ex c fs => rw [h] at q; exact q.elim
  | stuck => rw [h] at q; exact q.elim
def spLaw (K : PySem.W.Frag) : Sp := fun vs H Q _ => ∃ (a : Addr) (ns : List Int), vs = [.ref a] ∧ SqL K H a (ns.map V.int) ∧ ns.length ≤ 63 ∧ ∀ H', Q (.bl true) H'
theorem law_of {P : Program} {w : World} {K : PySem.W.Frag} {mg : Str → Option Value} {base : Heap} {k : Nat} {f : Addr} {fd : FuncData} {ps : List Str} {m : List D → Res D} (G : FnOk P w K mg base CX0 k f fd ps (spD K 1 m))
    (h : ∀ ns : List Int, ns.length ≤ 63 → m [.lst (ns.map D.int)] = .ok (.bl true)) : FnOk P w K mg base CX0 k f fd ps (spLaw K) := by
  refine G.imp fun vs H Q E q => ?_
  obtain ⟨a, ns, rfl, sq, hl, q⟩ := q
  refine ⟨rfl, fun _ => False, [.lst (ns.map D.int)], fun b z => z.elim, HasL.cons ?_ HasL.nil, ?_⟩
  · rw [Has]
    refine ⟨a, _, rfl, ?_, HasL.ints⟩
    rcases sq with (z | z) | z
    · exact .inl ⟨z, fun z => z⟩
    · exact .inr (.inl z)
    · exact .inr (.inr z)
  · rw [h ns hl]
    intro v H' k hv
    rw [Has] at hv
    rw [hv]
    exact q H'
end L3
namespace L3
open PySem
section
variable {prog : Program} {w : World} {A : Around} {E : Value → Shared → Prop} {s : Shared}
end
structure ZA (z TI TO i1 i2 : Addr) (f1 f2 : List Addr) : Prop where
  a1 : TI ≠ z
  a2 : TO ≠ z
  a3 : TI ≠ TO
  m1 : i1 ∈ f1
  m2 : i2 ∈ f2
  z1 : z ∉ f1
  z2 : z ∉ f2
  o1 : TO ∉ f1
  o2 : TO ∉ f2
  t1 : TI ∉ f1
  t2 : TI ∉ f2
  x1 : i2 ∉ f1
  x2 : i1 ∉ f2
section
variable {prog : Program} {w : World} {A : Around} {E : Value → Shared → Prop} {s : Shared} {z TI TO i1 i2 : Addr} {f1 f2 : List Addr} {n1 n2 k : Nat} {P1 P2 : Nat → Value → Prop} {S1 S2 : Nat → Heap → Prop} {a b : Value}
end
end L3
namespace L3
open PySem
def IsSq (tup : Bool) (h : Heap) (l : Addr) (xs : Array Value) : Prop := match tup with
  | true => h.IsTuple l xs
  | false => h.IsList l xs
def SqI (tup : Bool) (h : Heap) (i l : Addr) (k : Nat) : Prop := match tup with
  | true => h.IsTupleIter i l k
  | false => h.IsListIter i l k
theorem IsSq.at' {tup : Bool} {h h' : Heap} {l : Addr} {xs : Array Value} (q : IsSq tup h l xs) (k : ∀ o, h.get? l = some o → h'.get? l = some o) : IsSq tup h' l xs := by
  cases tup with
  | true => obtain ⟨o, e, r⟩ := q; exact ⟨o, k o e, r⟩
  | false => exact Heap.IsList.at q k
theorem SqI.at' {tup : Bool} {h h' : Heap} {i l : Addr} {k : Nat} (q : SqI tup h i l k) (f : ∀ o, h.get? i = some o → h'.get? i = some o) : SqI tup h' i l k := by
  cases tup with
  | true => obtain ⟨o, e, r⟩ := q; exact ⟨o, f o e, r⟩
  | false => obtain ⟨o, e, r⟩ := q; exact ⟨o, f o e, r⟩
theorem IsSq.lt {tup : Bool} {h : Heap} {l : Addr} {xs : Array Value} (q : IsSq tup h l xs) : l < h.objs.size := by
  cases tup with
  | true => obtain ⟨o, e, _⟩ := q; exact Heap.lt_size e
  | false => obtain ⟨o, e, _⟩ := q; exact Heap.lt_size e
section
variable {prog : Program} {w : World} {A : Around} {E : Value → Shared → Prop} {s : Shared} {z TI TO i1 i2 l1 l2 : Addr} {t1 t2 : Bool} {xs ys : Array Value} {k : Nat} {a b x y : Value}
theorem ZA.of (h1 : TI ≠ z) (h2 : TO ≠ z) (h3 : TI ≠ TO) (h : ∀ c, c = i1 ∨ c = i2 ∨ c = l1 ∨ c = l2 → c ≠ z ∧ c ≠ TO ∧ c ≠ TI) (e1 : i1 ≠ i2) (e2 : l1 ≠ i2) (e3 : l2 ≠ i1) : ZA z TI TO i1 i2 [i1, l1] [i2, l2] := by
  obtain ⟨a1, a2, a3⟩ := h i1 (by simp)
  obtain ⟨b1, b2, b3⟩ := h i2 (by simp)
  obtain ⟨c1, c2, c3⟩ := h l1 (by simp)
  obtain ⟨d1, d2, d3⟩ := h l2 (by simp)
  have no : ∀ {c p q : Addr}, p ≠ c → q ≠ c → c ∉ [p, q] := fun u v m => by
    rcases List.mem_cons.mp m with m | m
    · exact u m.symm
    · exact v (List.mem_singleton.mp m).symm
  exact ⟨h1, h2, h3, by simp, by simp, no a1 c1, no b1 d1, no a2 c2, no b2 d2, no a3 c3, no b3 d3, no e1 e2, no e1.symm e3⟩
end
end L3
namespace L3
open PySem PySem.Spec PyProof.Rows L2
def SqK (t : Bool) (K : PySem.W.Frag) (H : Hp) (l : Addr) (xs : List V) : Prop := match t with
  | true => SqT K H l xs
  | false => SqL K H l xs
section
variable {X : Cx} {pins : List (Addr × Obj)} {σ : L2.St} {H : Hp} {s : Shared} {h' : Heap}
theorem inv_sq (I : Inv X pins σ H s) {t : Bool} {l : Addr} {xs : List V} (h : SqK t X.K H l xs) : ∃ its : List Value, Vals xs its ∧ IsSq t s.heap l its.toArray ∧ xs.length ≤ sizeLine := by
  cases t with
  | true => obtain ⟨its, r, p, z⟩ := I.tuple h; exact ⟨its, r, p, z⟩
  | false => obtain ⟨its, r, p, z⟩ := I.list h; exact ⟨its, r, p.isList, z⟩
end
section
variable {X : Cx} {xw : XW} {elts : List Expr} {kt : Nat} {pt p pos : Pos} {a b : Expr} {fs : DSt → Res (List D)}
end
end L3
namespace L3
open PySem PySem.Spec PyProof.Rows L2
section
variable {α β : Type}
theorem ofR_ok (a : α) (k : α → Out) : ofR (.ok a) k = k a := rfl
theorem ofR_ex (c : Str) (fs : List D) (k : α → Out) : ofR (.ex c fs) k = .ex c fs := rfl
theorem ofR_stuck (k : α → Out) : ofR .stuck k = .stuck := rfl
theorem seqO_nx (δ : DSt) (g : DSt → Out) : seqO (.nx δ) g = g δ := rfl
theorem seqO_rt (d : D) (g : DSt → Out) : seqO (.rt d) g = .rt d := rfl
theorem seqO_ex (c : Str) (fs : List D) (g : DSt → Out) : seqO (.ex c fs) g = .ex c fs := rfl
theorem seqO_stuck (g : DSt → Out) : seqO .stuck g = .stuck := rfl
theorem ifO_ok (c : Bool) (a b : Out) : ifO (.ok c) a b = if c = true then a else b := rfl
theorem andB_ok (c : Bool) (y : Res Bool) : andB (.ok c) y = if c = true then y else .ok false := rfl
theorem orB_ok (c : Bool) (y : Res Bool) : orB (.ok c) y = if c = true then .ok true else y := rfl
theorem andD_bl (c : Bool) (y : Res D) : andD (.ok (.bl c)) y = if c = true then y else .ok (.bl false) := by cases c <;> rfl
theorem orD_bl (c : Bool) (y : Res D) : orD (.ok (.bl c)) y = if c = true then .ok (.bl true) else y := by cases c <;> rfl
theorem boolR_bl (c : Bool) : boolR (.bl c) = .ok c := rfl
theorem notD_bl (c : Bool) : notD (.bl c) = .ok (.bl (!c)) := rfl
theorem eqR_ii (i j : Int) : eqR (.int i) (.int j) = .ok (.bl (i == j)) := by simp [eqR, shal, eqD]
theorem neR_ii (i j : Int) : neR (.int i) (.int j) = .ok (.bl (!(i == j))) := by simp [neR, shal, eqD]
theorem eqR_bb (i j : Bool) : eqR (.bl i) (.bl j) = .ok (.bl (i == j)) := by simp [eqR, shal, eqD]
theorem ltR_ii (i j : Int) : ltR (.int i) (.int j) = .ok (.bl (decide (i < j))) := rfl
theorem leR_ii (i j : Int) : leR (.int i) (.int j) = .ok (.bl (decide (i ≤ j))) := rfl
theorem gtR_ii (i j : Int) : gtR (.int i) (.int j) = .ok (.bl (decide (j < i))) := rfl
theorem geR_ii (i j : Int) : geR (.int i) (.int j) = .ok (.bl (decide (j ≤ i))) := rfl
theorem addD_ii (i j : Int) : addD (.int i) (.int j) = .ok (.int (i + j)) := rfl
theorem addD_tt (xs ys : List D) : addD (.tup xs) (.tup ys) = @ite (Res D) (xs.length + ys.length ≤ sizeLine) (Classical.propDecidable _) (.ok (.tup (xs ++ ys))) .stuck := rfl
theorem addD_small (xs ys : List D) (h : xs.length + ys.length ≤ 1000) : addD (.tup xs) (.tup ys) = .ok (.tup (xs ++ ys)) := by
  rw [addD_tt, if_pos (Nat.le_trans h k1000)]
theorem subD_ii (i j : Int) : subD (.int i) (.int j) = .ok (.int (i - j)) := rfl
theorem negD_i (i : Int) : negD (.int i) = .ok (.int (-i)) := rfl
theorem modD_ii (i j : Int) : modD (.int i) (.int j) = @ite (Res D) (0 < j) (Classical.propDecidable _) (.ok (.int (i % j))) .stuck := rfl
theorem fdivD_ii (i j : Int) : fdivD (.int i) (.int j) = @ite (Res D) (0 < j ∧ j < 1073741824) (Classical.propDecidable _) (.ok (.int (i / j))) .stuck := rfl
theorem maxR_ii (i j : Int) : maxR [.int i, .int j] = .ok (.int (max i j)) := rfl
theorem minR_ii (i j : Int) : minR [.int i, .int j] = .ok (.int (min i j)) := rfl
theorem absR_i (i : Int) : absR (.int i) = .ok (.int (if i < 0 then -i else i)) := rfl
theorem lenR_t (ds : List D) : lenR (.tup ds) = .ok (.int ds.length) := rfl
theorem lenR_l (ds : List D) : lenR (.lst ds) = .ok (.int ds.length) := rfl
theorem seqR_t (ds : List D) : seqR (.tup ds) = .ok ds := rfl
theorem seqR_l (ds : List D) : seqR (.lst ds) = .ok ds := rfl
theorem tupofR_t (ds : List D) : tupofR (.tup ds) = .ok (.tup ds) := rfl
theorem tupofR_l (ds : List D) : tupofR (.lst ds) = .ok (.tup ds) := rfl
theorem partR_i (i : Int) : partR (.int i) = .ok (some i) := rfl
theorem consR_ok (d : D) (ds : List D) : consR (.ok d) (.ok ds) = .ok (d :: ds) := rfl
theorem noex_ok (a : α) : noex (.ok a) = .ok a := rfl
theorem slD_l (ds : List D) (lo hi : Option Int) : slD (.lst ds) lo hi = .ok (.lst (cutD ds lo hi)) := rfl
theorem slotD_0 (x : D) (l : DSt) : slotD 0 (some (.d x) :: l) = .ok x := rfl
theorem slotD_s (n : Nat) (a : Option S) (l : DSt) : slotD (n + 1) (a :: l) = slotD n l := by simp [slotD]
theorem slotP_0 (x : D) (l : DSt) : slotP 0 (some (.d x) :: l) = .ok x := rfl
theorem slotP_0o (x : List D) (l : DSt) : slotP 0 (some (.o x) :: l) = .ok (.lst x) := rfl
theorem slotP_s (n : Nat) (a : Option S) (l : DSt) : slotP (n + 1) (a :: l) = slotP n l := by simp [slotP]
theorem callR_eq (n : Nat) (m : List D → Res D) (ds : List D) (d : D) (h : m ds = .ok d) (hn : ds.length = n) : callR n m ds = .ok d := by
  unfold callR; rw [if_pos hn, h]; rfl
theorem ixR_t (ds : List D) (i : Int) (d : D) (h : atI ds i = some d) : ixR (.tup ds) (.int i) = .ok d := by show (match atI ds i with | some d => Res.ok d | none => Res.stuck) = _; rw [h]
theorem ixR_l (ds : List D) (i : Int) (d : D) (h : atI ds i = some d) : ixR (.lst ds) (.int i) = .ok d := by show (match atI ds i with | some d => Res.ok d | none => Res.stuck) = _; rw [h]
theorem atI_pos {xs : List α} {i : Int} {d : α} (h0 : 0 ≤ i) (h : xs[i.toNat]? = some d) : atI xs i = some d := by
  have hl := (List.getElem?_eq_some_iff.mp h).1
  unfold atI ixN
  rw [if_pos h0, if_pos (by omega)]
  exact h
theorem atI_in {xs : List α} {i : Int} (h0 : 0 ≤ i) (h1 : i < xs.length) : ∃ d, atI xs i = some d ∧ d ∈ xs := by
  have hl : i.toNat < xs.length := by omega
  exact ⟨xs[i.toNat], atI_pos h0 (List.getElem?_eq_getElem hl), List.getElem_mem hl⟩
end
section
variable {t : D → DSt → Res DSt} {body : DSt → Out}
theorem forD_cons (d : D) (ds : List D) (δ δ' : DSt) (h : t d δ = .ok δ') : forD t body (d :: ds) δ = (match body δ' with
      | .nx δ2 => forD t body ds δ2
      | .ct δ2 => forD t body ds δ2
      | .bk δ2 => .nx δ2
      | .rt d => .rt d
      | .ex c fs => .ex c fs
      | .stuck => .stuck) := by
  rw [forD, h]
  first | done | rfl | dsimp only
theorem forD_nx (I : DSt → Prop) : ∀ (ds : List D) (δ : DSt), (∀ d ∈ ds, ∀ δ, I δ → ∃ δ', t d δ = .ok δ' ∧ ∃ δ2, (body δ' = .nx δ2 ∨ body δ' = .ct δ2) ∧ I δ2) → I δ → ∃ δ2, forD t body ds δ = .nx δ2 ∧ I δ2
  | [], δ, _, h => ⟨δ, rfl, h⟩
  | d :: ds, δ, hb, h => by
    obtain ⟨δ', e1, δ2, e2, h2⟩ := hb d List.mem_cons_self δ h
    rw [forD_cons d ds δ δ' e1]
    rcases e2 with e2 | e2 <;> · rw [e2]; exact forD_nx I ds δ2 (fun x hx => hb x (List.mem_cons_of_mem _ hx)) h2
end
section
variable {fe : DSt → Res D} {c : DSt → Res Bool}
theorem compD_cons (t : D → DSt → Res DSt) (d : D) (ds : List D) (δ δ' : DSt) (h : t d δ = .ok δ') : compD t c fe (d :: ds) δ = ((noex (c δ')).bind fun k => if k = true then (noex (fe δ')).bind fun x => (compD t c fe ds δ').bind fun r => .ok (x :: r) else compD t c fe ds δ') := by
  rw [compD]
  rw [h]
theorem comp_filter (p : D → Bool) (f : D → D) (δ : DSt) : ∀ (ds : List D) (x : Option S), (∀ d ∈ ds, c (some (.d d) :: δ) = .ok (p d) ∧ (p d = true → fe (some (.d d) :: δ) = .ok (f d))) → compD (setI 0) c fe ds (x :: δ) = .ok ((ds.filter p).map f)
  | [], _, _ => rfl
  | d :: ds, x, h => by
    obtain ⟨h1, h2⟩ := h d List.mem_cons_self
    rw [compD_cons (setI 0) d ds (x :: δ) (some (.d d) :: δ) rfl, h1]
    have ih := comp_filter p f δ ds (some (.d d)) fun y hy => h y (List.mem_cons_of_mem _ hy)
    rw [ih]
    cases hp : p d with
    | false => rw [List.filter_cons_of_neg (by rw [hp]; exact Bool.false_ne_true)]; rfl
    | true => rw [List.filter_cons_of_pos hp, h2 hp]; rfl
theorem comp_map (f : D → D) (δ : DSt) (ds : List D) (x : Option S) (h : ∀ d ∈ ds, fe (some (.d d) :: δ) = .ok (f d)) : compD (setI 0) (fun _ => .ok true) fe ds (x :: δ) = .ok (ds.map f) := by
  rw [comp_filter (fun _ => true) f δ ds x fun d hd => ⟨rfl, fun _ => h d hd⟩]
  rw [List.filter_eq_self.mpr fun _ _ => rfl]
end
end L3
namespace L3
open PySem PySem.Spec PyProof.Rows L2
theorem ty_int (i : Int) : (tyD (.int i) = none) = False := by simp [tyD]
theorem ty_tup (i : List D) : (tyD (.tup i) = none) = False := by simp [tyD]
def isI : D → Bool
  | .int _ => true
  | _ => false
def isB : D → Bool
  | .bl _ => true
  | _ => false
def isT : D → Bool
  | .tup _ => true
  | _ => false
theorem isiR_int (d : D) (h : tyD d ≠ none) : isiR "int" d = .ok (.bl (isI d || isB d)) := by cases d <;> first | exact absurd rfl h | (simp [isiR, tyD, isiB, isI, isB])
theorem isiR_bool (d : D) (h : tyD d ≠ none) : isiR "bool" d = .ok (.bl (isB d)) := by cases d <;> first | exact absurd rfl h | (simp [isiR, tyD, isiB, isB])
theorem isiR_tuple (d : D) (h : tyD d ≠ none) : isiR "tuple" d = .ok (.bl (isT d)) := by cases d <;> first | exact absurd rfl h | (simp [isiR, tyD, isiB, isT])
theorem chain_le (i j k : Int) : chainR leR leR (.int i) (.int j) (.ok (.int k)) = .ok (.bl (decide (i ≤ j ∧ j ≤ k))) := by
  unfold chainR
  rw [leR_ii]
  by_cases h : i ≤ j
  · rw [decide_eq_true h]
    show leR (.int j) (.int k) = _
    rw [leR_ii]; simp [h]
  · rw [decide_eq_false h]
    simp [h, Res.bind]
theorem chain_lelt (i j k : Int) : chainR leR ltR (.int i) (.int j) (.ok (.int k)) = .ok (.bl (decide (i ≤ j ∧ j < k))) := by
  unfold chainR
  rw [leR_ii]
  by_cases h : i ≤ j
  · rw [decide_eq_true h]
    show ltR (.int j) (.int k) = _
    rw [ltR_ii]; simp [h]
  · rw [decide_eq_false h]
    simp [h, Res.bind]
def finO : Out → Res D
  | .rt d => .ok d
  | .nx _ => .ok .non
  | _ => .stuck
theorem runD_eq (n : Nat) (g : DSt → Out) (ds : List D) : runD n g ds = finO (g (startD n ds)) := by
  unfold runD finO
  cases g (startD n ds) <;> rfl
theorem finO_rt (d : D) : finO (.rt d) = .ok d := rfl
theorem finO_nx (δ : DSt) : finO (.nx δ) = .ok .non := rfl
theorem shal_ints (ns : List Int) : shal 40 (.lst (ns.map D.int)) = true := by simp [shal]
theorem eqR_nil (ns : List Int) : eqR (.lst (ns.map D.int)) (.lst []) = .ok (.bl (ns.isEmpty)) := by
  unfold eqR
  rw [shal_ints]
  cases ns <;> simp [shal, eqD, eqL]
theorem cutD_to (xs : List D) (n : Nat) : cutD xs none (some (n : Int)) = xs.take n := by
  unfold cutD
  rw [HT.sIx_nat]
  show (xs.drop 0).take (min n xs.length - 0) = _
  rw [List.drop_zero, Nat.sub_zero, List.take_eq_take_iff]
  omega
end L3
namespace L3
open PySem PySem.Spec PyProof.Rows L2 SeqAt
structure XE (X : Cx) (xw : XW) (e : Expr) (f : DSt → Res D) : Prop where
  h : DE X xw e f
structure XP (X : Cx) (xw : XW) (e : Expr) (f : DSt → Res D) : Prop where
  h : DP X xw e f
structure XF (X : Cx) (xw : XW) (e : Expr) (f : DSt → Res (List D)) : Prop where
  h : DF X xw e f
structure XT (X : Cx) (xw : XW) (e : Expr) (f : DSt → Res Bool) : Prop where
  h : DT X xw e f
structure XW' (X : Cx) (xw : XW) (e : Expr) (f : DSt → Res Bool) : Prop where
  h : DW X xw e f
structure XA (X : Cx) (xw : XW) (e : List Expr) (f : DSt → Res (List D)) : Prop where
  h : DA X xw e f
structure XO (X : Cx) (xw : XW) (e : Option Expr) (f : DSt → Res (Option Int)) : Prop where
  h : DO X xw e f
structure XG (X : Cx) (e : Expr) (f : D → DSt → Res DSt) : Prop where
  h : DG X e f
structure XGs (X : Cx) (e : List Expr) (f : List D → DSt → Res DSt) : Prop where
  h : DGs X e f
structure XTs (X : Cx) (e : List Expr) (f : DSt → Res Bool) : Prop where
  h : DTs X e f
structure XS (X : Cx) (xw : XW) (e : Stmt) (f : DSt → Out) : Prop where
  h : DS X xw e f
structure XSs (X : Cx) (xw : XW) (e : List Stmt) (f : DSt → Out) : Prop where
  h : DSs X xw e f
structure XI (X : Cx) (xw : XW) (tg e : Expr) (f : DSt → Res (List D)) : Prop where
  h : DI X xw tg e f
section
variable {X : Cx} {xw : XW} {e a b c : Expr} {f fa fb fc : DSt → Res D} {pos p p2 : Pos} {st : Stmt} {sts as bs : List Stmt} {tg iter elt : Expr} {t : D → DSt → Res DSt} {fs : DSt → Res (List D)} {es rest : List Expr} {ga gb gc : DSt → Res Bool} {g g1 g2 : DSt → Out}
  {lo hi : Option Expr} {fl fh : DSt → Res (Option Int)} {fi : DSt → Res (List D)} {scope : Scope} {ifs : List Expr} {fe : DSt → Res D}
theorem x_var (i : Nat) {x : Str} (hN : X.N[i]? = some x := by rfl) (hv : Vis X.env.scope x := by first | exact Or.inl rfl | exact Or.inr (Or.inl rfl) | exact Or.inr (Or.inr rfl)) (hd : (x == ("__debug__" : Str)) = false := by decide)
    (hcd : (x == ("__classdict__" : Str)) = false := by decide) : XE X xw (.Name x pos) (slotD i) := ⟨de_var i hN hv hd hcd⟩
theorem p_var (i : Nat) {x : Str} (hN : X.N[i]? = some x := by rfl) (hv : Vis X.env.scope x := by first | exact Or.inl rfl | exact Or.inr (Or.inl rfl) | exact Or.inr (Or.inr rfl)) (hd : (x == ("__debug__" : Str)) = false := by decide)
    (hcd : (x == ("__classdict__" : Str)) = false := by decide) : XP X xw (.Name x pos) (slotP i) := ⟨dp_var i hN hv hd hcd⟩
theorem p_of (h : XE X xw e f) : XP X xw e f := ⟨DE.p h.h⟩
theorem x_one {op} (h : XE X xw a fa) : XE X xw (.BoolOp op [a] pos) fa := ⟨de_one h.h⟩
theorem w_or1 (ha : XT X xw a ga) : XW' X xw (.BoolOp .Or [a] pos) ga := ⟨dw_or1 ha.h⟩
theorem y_w (h : XW' X xw e ga) : XT X xw e ga := ⟨DW.t h.h⟩
theorem y_notN {j pos'} (ha : XP X xw a fa) : XT X xw (.Compare a [.IsNot] [.Constant .none j pos'] pos) (tR (b1 notNR fa)) := ⟨dt_notN' ha.h⟩
theorem x_tuple (hm : X.mg "tuple" = none) (ha : XP X xw a fa) (hg : Gl X "tuple" := by rfl) (he : starEach [a] X.env = (false, eval a X.env) :: starEach [] X.env := by rfl) (hpl : (backTo pos (starEach [] X.env)).any (·.1) = false := by rfl) :
    XE X xw (.Call (.Name "tuple" p) [a] [] pos) (b1 tupofR fa) := ⟨de_tupof hm ha.h hg he hpl⟩
theorem x_max (hc : X.calm = true) (hm : X.mg "max" = none) (ha : XA X xw [a, b] fs) (hg : Gl X "max" := by rfl) (he : starEach [a, b] X.env = (false, eval a X.env) :: starEach [b] X.env := by rfl) (hpl : (backTo pos (starEach [b] X.env)).any (·.1) = false := by rfl) :
    XE X xw (.Call (.Name "max" p) [a, b] [] pos) (b1 maxR fs) := ⟨de_max2 hc hm ha.h hg he hpl⟩
theorem x_min (hc : X.calm = true) (hm : X.mg "min" = none) (ha : XA X xw [a, b] fs) (hg : Gl X "min" := by rfl) (he : starEach [a, b] X.env = (false, eval a X.env) :: starEach [b] X.env := by rfl) (hpl : (backTo pos (starEach [b] X.env)).any (·.1) = false := by rfl) :
    XE X xw (.Call (.Name "min" p) [a, b] [] pos) (b1 minR fs) := ⟨de_min2 hc hm ha.h hg he hpl⟩
theorem i_seq (h : XE X xw e f) : XI X xw tg e (b1 seqR f) := ⟨di_seq h.h⟩
theorem g_name (i : Nat) {x : Str} (hN : X.N.Nodup) (hi : X.N[i]? = some x := by rfl) (hx : Loc X.env.scope x := by first | exact Or.inl rfl | exact Or.inr rfl) (hf : X.fn x = true ∨ X.env.scope.names.lookup x = some .local := by first | exact .inl rfl | exact .inr rfl | assumption) :
    XG X (.Name x pos) (setI i) := ⟨dg_name i hN hi hx hf⟩
theorem g_nil : XGs X [] unNil := ⟨dgs_nil⟩
theorem g_cons {tgs : List Expr} {ts : List D → DSt → Res DSt} (h1 : XG X tg t) (h2 : XGs X tgs ts) (hs : (assignEach (tg :: tgs) X.env).map (·.2) = assign tg X.env :: (assignEach tgs X.env).map (·.2) := by rfl) : XGs X (tg :: tgs) (unCons t ts) := ⟨dgs_cons h1.h h2.h hs⟩
theorem g_tup {tgs : List Expr} {ts : List D → DSt → Res DSt} {k : Nat} {n : Nat} (hc : X.calm = true) (h : XGs X tgs ts) (hn : (assignEach tgs X.env).length = n := by rfl) (hst : (assignEach tgs X.env).findIdx? (·.1) = none := by rfl) : XG X (.Tuple tgs k pos) (unTup n ts) := ⟨dg_tup hc h.h hn hst⟩
theorem t_nil : XTs X [] (fun _ => .ok true) := ⟨dts_nil⟩
theorem t_one (h : XT X xwF c gc) : XTs X [c] gc := ⟨dts_one h.h⟩
theorem s_asg (he : XE X xw e f) (hg : XG X tg t) (hs : swapsWithSole [tg] e pos.line X.env = pure false := by rfl) (hw : swappedStores [tg] e X.env = pure none := by rfl)
    (h1 : (assignEach [tg] X.env).map (·.2) = [assign tg X.env] := by rfl) : XS X xw (.Assign [tg] e pos) (sAsg t f) := ⟨ds_asg' he.h hg.h hs hw h1⟩
theorem ss_nil : XSs X xw [] .nx := ⟨dss_nil⟩
theorem ss_one (h1 : XS X xw st g1) : XSs X xw [st] g1 := ⟨dss_one h1.h⟩
theorem x_int {i : Int} {j} : XE X xw (.Constant (.int i) j pos) (kD (.int i)) := ⟨de_int⟩
theorem x_bl {i : Bool} {j} : XE X xw (.Constant (.bool i) j pos) (kD (.bl i)) := ⟨de_bl⟩
theorem x_non {j} : XE X xw (.Constant .none j pos) (kD .non) := ⟨de_non⟩
theorem x_add (ha : XP X xw a fa) (hb : XP X xw b fb) : XE X xw (.BinOp a .Add b pos) (b2 addD fa fb) := ⟨de_add ha.h hb.h⟩
theorem x_sub (ha : XP X xw a fa) (hb : XP X xw b fb) : XE X xw (.BinOp a .Sub b pos) (b2 subD fa fb) := ⟨de_sub ha.h hb.h⟩
theorem x_mod (ha : XP X xw a fa) (hb : XP X xw b fb) : XE X xw (.BinOp a .Mod b pos) (b2 modD fa fb) := ⟨de_mod ha.h hb.h⟩
theorem x_neg (ha : XP X xw a fa) : XE X xw (.UnaryOp .USub a pos) (b1 negD fa) := ⟨de_neg ha.h⟩
theorem x_and (ha : XE X xw a fa) (hb : XE X xw (.BoolOp .And (b :: rest) pos) fb) : XE X xw (.BoolOp .And (a :: b :: rest) pos) (vAnd fa fb) := ⟨de_and ha.h hb.h⟩
theorem x_cmp {o : CmpOp} {op : D → D → Res D} (hc : CmpR X xw o op) (ha : XP X xw a fa) (hb : XP X xw b fb) : XE X xw (.Compare a [o] [b] pos) (b2 op fa fb) := ⟨de_cmp hc ha.h hb.h⟩
theorem y_cmp {o : CmpOp} {op : D → D → Res D} (hc : CmpR X xw o op) (ha : XP X xw a fa) (hb : XP X xw b fb) : XT X xw (.Compare a [o] [b] pos) (tR (b2 op fa fb)) := ⟨dt_cmp hc ha.h hb.h⟩
theorem y_isN {j pos'} (ha : XP X xw a fa) : XT X xw (.Compare a [.Is] [.Constant .none j pos'] pos) (tR (b1 isNR fa)) := ⟨dt_isN ha.h⟩
theorem y_val (h : XE X xw e f) (he : ∀ whole, isTrue e X.env whole = (do let v ← whole; standAt e.pos; holding [v] (truthy v)) := by intro _; rfl) : XT X xw e (tR f) := ⟨DE.t h.h he⟩
theorem y_not (ha : XT X xw a ga) : XT X xw (.UnaryOp .Not a pos) (tNot1 ga) := ⟨dt_not ha.h⟩
theorem w_or (ha : XT X xw a ga) (hb : XW' X xw (.BoolOp .Or (b :: rest) pos) gb) : XW' X xw (.BoolOp .Or (a :: b :: rest) pos) (tOr2 ga gb) := ⟨dw_or ha.h hb.h⟩
theorem a_nil : XA X xw [] aNil := ⟨da_nil⟩
theorem a_cons (ha : XE X xw a fa) (hr : XA X xw es fs) (hs : starEach (a :: es) X.env = (false, eval a X.env) :: starEach es X.env := by rfl) : XA X xw (a :: es) (aCons fa fs) := ⟨da_cons ha.h hr.h hs⟩
theorem x_tup {x1} (h : XA X xw es fs) : XE X xw (.Tuple es x1 pos) (b1 tupR fs) := ⟨de_tup h.h⟩
theorem f_lst (h : XA X xw es fs) : XF X xw (.List es pos) (b1 lstR fs) := ⟨df_lst h.h⟩
theorem x_new (h : XF X xw e fs) : XE X xw e (asD fs) := ⟨DF.de h.h⟩
theorem x_ix (ha : XP X xw a fa) (hb : XP X xw b fb) (hs : PlainIx b := by intro _ _; rfl) : XE X xw (.Subscript a b pos) (b2 ixR fa fb) := ⟨de_ix ha.h hb.h hs⟩
theorem o_none : XO X xw none oNone := ⟨do_none⟩
theorem o_some (h : XE X xw e f) : XO X xw (some e) (b1 partR f) := ⟨do_some h.h⟩
theorem f_slL (ha : XP X xw a fa) (hl : XO X xw lo fl) (hh : XO X xw hi fh) : XF X xw (.Subscript a (.Slice lo hi none p2) pos) (b3 slL fa fl fh) := ⟨df_slL ha.h hl.h hh.h⟩
theorem x_len (hm : X.mg "len" = none) (ha : XP X xw a fa) (hg : Gl X "len" := by rfl) (he : starEach [a] X.env = (false, eval a X.env) :: starEach [] X.env := by rfl) (hpl : (backTo pos (starEach [] X.env)).any (·.1) = false := by rfl) :
    XE X xw (.Call (.Name "len" p) [a] [] pos) (b1 lenR fa) := ⟨de_len hm ha.h hg he hpl⟩
theorem x_isi {C : String} {c : Str} {p2 : Pos} (hC : isiOk C) (hbc : bootBuiltins c = some (.type C)) (hm : X.mg "isinstance" = none) (hmc : X.mg c = none) (ha : XP X xw a fa) (hg : Gl X "isinstance" := by rfl) (hgc : Gl X c := by rfl) (hcn : c ≠ "__name__" := by decide)
    (hcd : (c == ("__debug__" : Str)) = false := by decide)
    (he : starEach [a, .Name c p2] X.env = (false, eval a X.env) :: starEach [.Name c p2] X.env := by rfl) (he2 : starEach [.Name c p2] X.env = (false, eval (.Name c p2) X.env) :: starEach [] X.env := by rfl)
    (hpl : (backTo pos (starEach [.Name c p2] X.env)).any (·.1) = false := by rfl) :
    XE X xw (.Call (.Name "isinstance" p) [a, .Name c p2] [] pos) (b1 (isiR C) fa) := ⟨de_isi hC hbc hm hmc ha.h hg hgc hcn hcd he he2 hpl⟩
theorem x_call {k n : Nat} {x : Str} {m : List D → Res D} (F : Fn X.prog X.w X.K X.mg X.base k x n m) (hr : Room k X.A) (ha : XA X xw (a :: es) fs) (hg : Gl X x := by rfl)
    (hdb : (x == ("__debug__" : Str)) = false := by decide) (he : starEach (a :: es) X.env = (false, eval a X.env) :: starEach es X.env := by rfl) (hpl : (backTo pos (starEach es X.env)).any (·.1) = false := by rfl) :
    XE X xw (.Call (.Name x p) (a :: es) [] pos) (b1 (callR n m) fs) := ⟨de_call F hr ha.h hg hdb he hpl⟩
theorem f_comp (Nc Nx : List Str) (c : CompOk X scope Nc Nx) (hcalm : X.calm = true) (hi : XI X xw tg iter fi)
    (hY : ∀ (C : Addr) (fp : List Addr) (pins : List (Addr × Obj)) (s : Shared) (H : Hp), XG (compCx X scope Nc Nx C fp pins s H) tg t ∧ XTs (compCx X scope Nc Nx C fp pins s H) ifs gc ∧ XE (compCx X scope Nc Nx C fp pins s H) xwF elt fe)
    (hs : ∀ x, foldedSetIterable iter X.env x = pure x := by intro _; rfl) :
    XF X xw (.ListComp elt [⟨tg, iter, ifs, 0⟩] scope pos) (vComp Nc.length t gc fe fi) := ⟨df_comp Nc Nx c hcalm hi.h (fun C fp pins s H => ⟨(hY C fp pins s H).1.h, (hY C fp pins s H).2.1.h, (hY C fp pins s H).2.2.h⟩) hs⟩
theorem i_range1 (hm : X.mg "range" = none) (ha : XA X xw [a] fs) (hg : Gl X "range" := by rfl) (hs : starEach [a] X.env = [(false, eval a X.env)] := by rfl) : XI X xw tg (.Call (.Name "range" p) [a] [] pos) (b1 rng1R fs) := ⟨di_range1 hm ha.h hg hs⟩
theorem ss_cons (h1 : XS X xw st g1) (h2 : XSs X xw sts g2) : XSs X xw (st :: sts) (sSeq g1 g2) := ⟨dss_cons h1.h h2.h⟩
theorem s_ret (he : XE X xw e f) : XS X xw (.Return (some e) pos) (sRet f) := ⟨ds_ret he.h⟩
theorem s_retV (i : Nat) {x : Str} {pos' : Pos} (hN : X.N[i]? = some x := by rfl) (hv : Vis X.env.scope x := by first | exact Or.inl rfl | exact Or.inr (Or.inl rfl) | exact Or.inr (Or.inr rfl)) (hd : (x == ("__debug__" : Str)) = false := by decide)
    (hcd : (x == ("__classdict__" : Str)) = false := by decide) : XS X xw (.Return (some (.Name x pos')) pos) (sRet (slotP i)) := ⟨ds_retV i hN hv hd hcd⟩
theorem s_set (i : Nat) {x : Str} {pos' : Pos} (hN : X.N.Nodup) (he : XE X xw e f) (hi : X.N[i]? = some x := by rfl) (hx : Loc X.env.scope x := by first | exact Or.inl rfl | exact Or.inr rfl) (hs : swapsWith e (some (.Name x pos')) pos.line X.env = pure false := by rfl)
    (hf : X.fn x = true ∨ X.env.scope.names.lookup x = some .local := by first | exact .inl rfl | exact .inr rfl | assumption) : XS X xw (.Assign [.Name x pos'] e pos) (sSet i f) := ⟨ds_set i hN he.h hi hx hs hf⟩
theorem s_own (i : Nat) {x : Str} {pos' : Pos} {ff : DSt → Res (List D)} (hN : X.N.Nodup) (he : XF X xw e ff) (hi : X.N[i]? = some x := by rfl) (hx : Loc X.env.scope x := by first | exact Or.inl rfl | exact Or.inr rfl) (hs : swapsWith e (some (.Name x pos')) pos.line X.env = pure false := by rfl)
    (hf : X.fn x = true ∨ X.env.scope.names.lookup x = some .local := by first | exact .inl rfl | exact .inr rfl | assumption) : XS X xw (.Assign [.Name x pos'] e pos) (sOwn i ff) := ⟨ds_own i hN he.h hi hx hs hf⟩
theorem s_if (hc : XT X xw c ga) (ha : XSs X xw as g1) (hb : XSs X xw bs g2) : XS X xw (.If c as bs pos) (sIf ga g1 g2) := ⟨ds_if hc.h ha.h hb.h⟩
theorem s_for (hp : PassesOwn (model X.prog X.w) X.A X.env X.xe) (hc : X.calm = true) (hi : XI X xw tg iter fi) (hg : XG X tg t) (hb : XSs X xw sts g)
    (hs : ∀ x, foldedSetIterable iter X.env x = pure x := by intro _; rfl) : XS X xw (.For tg iter sts [] pos) (sFor t g fi) := ⟨ds_for hp hc hi.h hg.h hb.h hs⟩
theorem s_append (i : Nat) {x : Str} {p1 p2 p3 : Pos} (he : XE X xw e f) (hN : X.N[i]? = some x := by rfl) (hv : Vis X.env.scope x := by first | exact Or.inl rfl | exact Or.inr (Or.inl rfl) | exact Or.inr (Or.inr rfl)) (hd : (x == ("__debug__" : Str)) = false := by decide)
    (hcd : (x == ("__classdict__" : Str)) = false := by decide)
    (hsE : starEach [e] X.env = (false, eval e X.env) :: starEach [] X.env := by rfl)
    (hbase : attributeBase (.Name x p1) "append" X.env (eval (.Name x p1) X.env) = eval (.Name x p1) X.env := by rfl)
    (hfew : ((backTo p3 (starEach [e] X.env)).all (fun x => !x.1) && (backToKw p3 (keywordEach [] X.env)).all (fun x => x.1.isSome)
      && decide (([e] : List Expr).length + ([] : List Keyword).length + (if ([] : List Keyword).isEmpty then 0 else 1) < 30)) = true := by rfl)
    (hline : (p2.endLine == p3.line) = true := by rfl) (hplain : (backTo p3 (starEach [] X.env)).any (·.1) = false := by rfl)
    (hsw : swapsWith (.Call (.Attribute (.Name x p1) "append" p2) [e] [] p3) none pos.line X.env = pure false := by rfl) :
    XS X xw (.Expr (.Call (.Attribute (.Name x p1) "append" p2) [e] [] p3) pos) (sApp i f) := ⟨ds_append i he.h hN hv hd hcd hsE hbase hfew hline hplain hsw⟩
end
theorem fn_def {P : Program} {w : World} {K : PySem.W.Frag} {mg : Str → Option Value} {base : Heap} {k : Nat} {x qual : Str} {st : Stmt} {fa : Addr} {fd : FuncData} {N ps : List Str} {g : DSt → Out} (F : Fun K x qual st fa fd) (S : FnScope N ps (defScope st))
    (hm : mg x = some (.ref fa)) (hb : Binds K fd ps [])
    (body : ∀ (cdv : Value) (A : Around) (outer : List Env) (s : Shared) (H : Hp) (E : XK), Room k (A.deeper (envOfC qual (defScope st) s.heap.objs.size fa cdv)) →
      XSs (cxOf CX0 P w K mg base N qual (defScope st) fa cdv A outer s H E).nox xwF (defBody st) g) : Fn P w K mg base (k + 1) x ps.length (runD N.length g) :=
  fn_body F S hm hb fun cdv A outer s H E hr => (body cdv A outer s H E hr).h
theorem fn_law {P : Program} {w : World} {K : PySem.W.Frag} {mg : Str → Option Value} {base : Heap} {k : Nat} {x qual : Str} {st : Stmt} {fa : Addr} {fd : FuncData} {N ps : List Str} {g : DSt → Out} (F : Fun K x qual st fa fd) (S : FnScope N ps (defScope st))
    (body : ∀ (cdv : Value) (A : Around) (outer : List Env) (s : Shared) (H : Hp) (E : XK), Room k (A.deeper (envOfC qual (defScope st) s.heap.objs.size fa cdv)) →
      XSs (cxOf CX0 P w K mg base N qual (defScope st) fa cdv A outer s H E).nox xwF (defBody st) g) : FnOk P w K mg base CX0 (k + 1) fa fd ps (spD K ps.length (runD N.length g)) :=
  fn_bodyO F S fun cdv A outer s H E hr => (body cdv A outer s H E hr).h
end L3
namespace L3
open PySem PySem.Spec PyProof.Rows L2
section
variable {t : D → DSt → Res DSt} {body : DSt → Out}
theorem forD_ix (I : Nat → DSt → Prop) (ds : List D) (δ : DSt) (hb : ∀ i d δ, ds[i]? = some d → I i δ → ∃ δ', t d δ = .ok δ' ∧ ∃ δ2, (body δ' = .nx δ2 ∨ body δ' = .ct δ2) ∧ I (i + 1) δ2) (h : I 0 δ) : ∃ δ2, forD t body ds δ = .nx δ2 ∧ I ds.length δ2 := by
  induction ds generalizing I δ with
  | nil => exact ⟨δ, rfl, h⟩
  | cons d ds ih =>
    obtain ⟨δ', e1, δ2, e2, h2⟩ := hb 0 d δ rfl h
    obtain ⟨δ3, e3, h3⟩ := ih (fun i => I (i + 1)) δ2 (fun i x δ hx hI => hb (i + 1) x δ (by simpa using hx) hI) h2
    refine ⟨δ3, ?_, h3⟩
    rw [forD_cons d ds δ δ' e1]
    rcases e2 with e2 | e2 <;> · rw [e2]; exact e3
end
section
variable {fe : DSt → Res D} {c : DSt → Res Bool}
theorem compR_ok {n : Nat} {t : D → DSt → Res DSt} {δ : DSt} {ds r : List D} (h : compD t c fe ds (List.replicate n none ++ δ) = .ok r) (hl : ds.length ≤ 100000) : compR n t c fe δ ds = .ok r := by
  unfold compR
  rw [if_pos hl, h]; rfl
end
theorem rng1_i (j : Int) (h0 : 0 ≤ j) (h : j < 100000) : rng1R [.int j] = .ok (rngD 0 j.toNat) := by
  unfold rng1R
  simp only
  rw [if_pos (by omega)]
theorem rngD_get {lo : Int} {n i : Nat} {d : D} (h : (rngD lo n)[i]? = some d) : i < n ∧ d = .int (lo + i) := by
  unfold rngD at h
  rw [List.getElem?_map] at h
  have hi : i < n := by
    refine Nat.lt_of_not_le fun z => ?_
    rw [List.getElem?_eq_none (by simpa using z)] at h; cases h
  rw [List.getElem?_range hi] at h
  exact ⟨hi, (Option.some.inj h).symm⟩
theorem rngD_len (lo : Int) (n : Nat) : (rngD lo n).length = n := by simp [rngD]
theorem neR_nil (ds : List D) (h : ∀ d ∈ ds, shal 39 d = true) : neR (.lst ds) (.lst []) = .ok (.bl (!ds.isEmpty)) := by
  have hs : shal 40 (.lst ds) = true := by rw [shal, List.all_eq_true]; exact h
  unfold neR
  rw [hs]
  cases ds <;> simp [shal, eqD, eqL]
theorem atI_neg1 {α : Type} (xs : List α) (v : α) : atI (xs ++ [v]) (-1) = some v := L2.atI_last xs v
theorem appO_eq (i : Nat) (δ : DSt) (ds : List D) (d : D) (h : δ[i]? = some (some (.o ds))) (hl : ds.length ≤ 100000) : appO i δ (.ok d) = .nx (δ.set i (some (.o (ds ++ [d])))) := by
  unfold appO
  rw [h]
  show (@ite Out (ds.length ≤ 100000) (Classical.propDecidable _) _ _) = _
  rw [if_pos hl]; rfl
end L3
namespace L3
open PySem
theorem tm_fill : fillsNumberSlot (.type "tuple") "mul" = pure false := fillsNumberSlot_seq (id := "tuple.__mul__") (r := some (.builtin "tuple.__rmul__")) F.slot_tuple_mul.lookup (by decide +kernel) F.slot_tuple_rmul.lookup (by decide +kernel)
theorem tm_rep : seqRepeat? (.type "tuple") = pure (some (.builtin "tuple.__mul__")) := by
  unfold seqRepeat?
  rw [seqSlot_of (T := "tuple") (name := "__mul__") (id := "tuple.__mul__") F.slot_tuple_mul.lookup (by decide +kernel), seqSlot_of (T := "tuple") (name := "__rmul__") (id := "tuple.__rmul__") F.slot_tuple_rmul.lookup (by decide +kernel)]; rfl
theorem tm_no (a : Int) (t : Tok) (l : Addr) (items : Array Value) (n : Nat) (dd : Option Addr) (sl : Array (Option Value)) :
    Meets (Builtin.«int.__rmul__» ⟨[.int a t, .ref l], []⟩) (fun _ R s => s.heap.get? l = some { cls := .type "tuple", dict := dd, data := .seq items n, slots := sl } ∧ R (.ok (.ret Value.notImplemented)) s) :=
  .of_wp fun prog w A R s h => by
    obtain ⟨hp, g, d, tk, os⟩ := s
    obtain ⟨hl, h⟩ := h
    wp_walk
    exact ⟨_, rfl, h⟩
theorem tm_one (l : Addr) (items : Array Value) (n : Nat) (dd : Option Addr) (sl : Array (Option Value)) (u : Tok) :
    Meets (Builtin.«tuple.__mul__» ⟨[.ref l, .int 1 u], []⟩) (fun _ R s => s.heap.get? l = some { cls := .type "tuple", dict := dd, data := .seq items n, slots := sl } ∧ R (.ok (.ret (Value.ref l))) s) :=
  .of_wp fun prog w A R s h => by
    obtain ⟨hp, g, d, tk, os⟩ := s
    obtain ⟨hl, h⟩ := h
    wp_walk
    exact ⟨_, rfl, h⟩
theorem tm_many (l : Addr) (items : Array Value) (n : Nat) (dd : Option Addr) (sl : Array (Option Value)) (k : Int) (u : Tok) (h0 : (decide (k < -2 ^ 63) || decide (k ≥ 2 ^ 63)) = false) (h1 : (items.isEmpty || k == 1) = false) (h2 : (decide (k ≤ 0) || items.isEmpty) = false) (h3 : ¬ (items.size * k > (2 ^ 63 - 1) / 8)) (h4 : Builtin.Tuple.tupleTooMany (items.size * k) = false) (h5 : ((List.replicate k.toNat items).foldl (· ++ ·) #[]).size ≤ sizeLine) :
    Meets (Builtin.«tuple.__mul__» ⟨[.ref l, .int k u], []⟩) (fun _ R s => s.heap.get? l = some { cls := .type "tuple", dict := dd, data := .seq items n, slots := sl } ∧ R (.ok (.ret (Value.ref s.heap.objs.size))) { s with heap := s.heap.push { cls := .type "tuple", data := .seq ((List.replicate k.toNat items).foldl (· ++ ·) #[]) } }) :=
  .of_wp fun prog w A R s h => by
    obtain ⟨hp, g, d, tk, os⟩ := s
    obtain ⟨hl, h⟩ := h
    wp_walk
    refine wpAny_ite_false (by rw [h0]; rfl) ?_
    wp_walk
    refine wpAny_ite_false (decide_eq_false h3) ?_
    wp_walk
    exact ⟨_, rfl, h⟩
end L3
namespace L3
open PySem PySem.Spec PyProof.Rows L2 SeqAt
section
variable {X : Cx} {xw : XW} {a b : Expr} {fa fb : DSt → Res D} {pos p : Pos}
theorem op_repT : OpR X (binaryOp .Mult) (fun x y H Q => ∃ l k xs, x = .ref l ∧ y = .int k ∧ SqT X.K H l xs ∧ xs ≠ [] ∧ 1 ≤ k ∧ k ≤ 1000 ∧ xs.length ≤ 1000 ∧ (k = 1 → Q (.ref l) H) ∧ (k ≠ 1 → ∀ p, H p = none → Q (.ref p) (upd H p (.tup (List.replicate k.toNat xs).flatten)))) := by
  intro pins s σ H x y v u Q I rx ry h
  obtain ⟨l, k, xs, rfl, rfl, sq, hne, h1, h2, hl, q1, q2⟩ := h
  cases rx
  obtain ⟨t, rfl⟩ := ry
  obtain ⟨its, r, ⟨⟨cls, dd, data, sl⟩, ho, hc, n, hd⟩, hz⟩ := I.tuple sq
  simp only at hc hd
  subst hc hd
  have hlen := r.length
  have hi : its ≠ [] := fun e => hne (by rw [e] at hlen; exact List.eq_nil_of_length_eq_zero hlen)
  have he : its.toArray.isEmpty = false := by cases its with
    | nil => exact absurd rfl hi
    | cons => simp
  have hsz : (its.toArray.size : Int) * k ≤ 1000000 := by
    rw [List.size_toArray, ← hlen]
    have h3 : (xs.length : Int) * k ≤ 1000 * 1000 := Int.mul_le_mul (by omega) h2 (by omega) (by decide)
    omega
  have hsz' : (its.length : Int) * k ≤ 1000000 := by simpa using hsz
  refine wpAny_binaryOp_repeat_ref (T := "tuple") (U := "int") (by decide) ⟨_, ho, rfl⟩ (fun s' => typeIs_int s' k t) tm_fill F.fills_int_mul F.slot_int_rmul tm_rep F.slot_int_index.lookup
    (call_meets F.slot_int_rmul (typeIs_int s k t) F.entry_int_rmul (F.args_int_rmul_2 _ _) (tm_no k t l its.toArray n dd sl) ⟨ho, rfl, ⟨_, ho, rfl⟩, ?_⟩)
  by_cases hk : k = 1
  · subst hk
    exact call_meets F.slot_tuple_mul ⟨_, ho, rfl⟩ F.entry_tuple_mul (F.args_tuple_mul_2 _ _) (tm_one l its.toArray n dd sl t) ⟨ho, ⟨.ref l, H, I, rfl, q1 rfl⟩⟩
  · have hfl : (List.replicate k.toNat its.toArray).foldl (fun x1 x2 => x1 ++ x2) #[] = (List.replicate k.toNat its).flatten.toArray := by
      have := foldl_rep its k.toNat []
      rw [List.nil_append] at this
      exact this
    have hfz : (List.replicate k.toNat its).flatten.length ≤ sizeLine := by
      rw [len_rep, sizeLine_eq]
      have h3 : its.length * k.toNat ≤ 1000 * 1000 := Nat.mul_le_mul (by omega) (by omega)
      rw [Nat.mul_comm]; omega
    refine call_meets F.slot_tuple_mul ⟨_, ho, rfl⟩ F.entry_tuple_mul (F.args_tuple_mul_2 _ _) (tm_many l its.toArray n dd sl k t ?_ ?_ ?_ ?_ ?_ ?_) ⟨ho, ?_⟩
    · simp only [Bool.or_eq_false_iff, decide_eq_false_iff_not]; omega
    · rw [he]; simpa using hk
    · rw [he]; simp; omega
    · omega
    · unfold Builtin.Tuple.tupleTooMany
      have : ((sizeLine : Nat) : Int) = 16777216 := by rw [sizeLine_eq]; rfl
      rw [this]; simp; omega
    · rw [hfl, List.size_toArray]; exact hfz
    · rw [hfl]
      refine ⟨.ref s.heap.objs.size, _, I.laid (a := s.heap.objs.size) (o := .tup (List.replicate k.toNat xs).flatten) (t' := s.toks) (fun _ _ e => Heap.get?_push_of_some _ e) (Nat.le_refl _) ⟨?_, _, r.rep k.toNat, IsTup.new _ _⟩, rfl, q2 hk _ I.fresh⟩
      rw [len_rep, sizeLine_eq]
      have h3 : xs.length * k.toNat ≤ 1000 * 1000 := Nat.mul_le_mul (by omega) (by omega)
      rw [Nat.mul_comm]; omega
noncomputable def mulE : D → D → Res D
  | .int i, .int j => mulD (.int i) (.int j)
  | .tup xs, .int k => @ite (Res D) (xs ≠ [] ∧ 1 ≤ k ∧ k ≤ 1000 ∧ xs.length ≤ 1000) (Classical.propDecidable _) (.ok (.tup (List.replicate k.toNat xs).flatten)) .stuck
  | _, _ => .stuck
theorem mulE_ii (i j : Int) : mulE (.int i) (.int j) = @ite (Res D) ((-18446744073709551616 < i ∧ i < 18446744073709551616) ∨ (-18446744073709551616 < j ∧ j < 18446744073709551616)) (Classical.propDecidable _) (.ok (.int (i * j))) .stuck := rfl
theorem HasL.rep {K : PySem.W.Frag} {W : WS} {H : Hp} {ds : List D} {xs : List V} (h : HasL K W H ds xs) : ∀ k : Nat, HasL K W H (List.replicate k ds).flatten (List.replicate k xs).flatten
  | 0 => by simp [HasL]
  | k + 1 => by
    rw [List.replicate_succ, List.flatten_cons, List.replicate_succ, List.flatten_cons]
    exact h.append (HasL.rep h k)
theorem x_mulE (ha : XP X xw a fa) (hb : XP X xw b fb) : XE X xw (.BinOp a .Mult b pos) (b2 mulE fa fb) := ⟨by
  refine de_op2 (op_mul.or op_repT) (fun W H d e v u Q w hv hu q => ?_) ha.h hb.h
  unfold mulE at q
  split at q
  · unfold mulD at q
    dsimp only at q
    split at q
    · rename_i hj
      exact .inl ⟨_, _, hv.int, hu.int, hj, q.int⟩
    · exact q.elim
  · split at q
    · rename_i xs k hj
      obtain ⟨l, ys, e, sq, r⟩ := hv.tup
      refine .inr ⟨l, k, ys, e, hu.int, sq, ?_, hj.2.1, hj.2.2.1, by rw [← r.length]; exact hj.2.2.2, fun hk => ?_, fun _ p hp => q.newT w hp (r.rep _)⟩
      · intro z
        subst z
        exact hj.1 (List.eq_nil_of_length_eq_zero (by simpa using r.length))
      · subst hk
        refine q _ H (Same.refl _) ?_
        rw [Has]
        exact ⟨l, ys, rfl, sq, by simpa using r⟩
    · exact q.elim
  · exact q.elim⟩
def intsOf : List D → Option (List Int)
  | [] => some []
  | .int i :: r => (intsOf r).map (i :: ·)
  | _ => none
end
end L3
namespace L3
open PySem PySem.Spec PyProof.Rows L2 SeqAt
section
variable {K : PySem.W.Frag} {W₀ W : WS} {H₀ H H' : Hp} {σ : L2.St} {δ : DSt}
end
section
variable {X : Cx} {xw : XW} {pos p p2 : Pos} {tg a b c : Expr} {fa fb : DSt → Res D} {fs : DSt → Res (List D)}
def b2F (op : D → D → Res (List D)) (f g : DSt → Res D) : DSt → Res (List D) := fun δ => (f δ).bind fun x => (g δ).bind fun y => op x y
end
end L3
namespace L3
open PySem PySem.Spec PyProof.Rows L2 SeqAt
section
variable {K : PySem.W.Frag} {W : WS} {H : Hp}
end
def inB (d : D) (ds : List D) : Bool := ds.any fun y => eqD y d
section
variable {X : Cx} {xw : XW} {pos p p2 : Pos} {tg a b c e : Expr} {f fa fb : DSt → Res D} {fs : DSt → Res (List D)}
variable {lo hi : Option Expr} {fl fh : DSt → Res (Option Int)}
structure GlobT (K : PySem.W.Frag) (mg : Str → Option Value) (x : Str) (xs : List Str) : Prop where
  h : ∃ (ad : Addr) (o : Obj) (its : Array Value) (n : Nat), mg x = some (.ref ad) ∧ K.lookup ad = some o ∧ o.cls = .type "tuple" ∧ o.data = .seq its n ∧ its.size ≤ sizeLine ∧ Vals (xs.map V.str) its.toList
def keyD : D → Option Key
  | .str x => some (.inr x)
  | .int i => some (.inl i)
  | _ => none
end
end L3
namespace L3
open PySem PySem.Spec PyProof.Rows L2 SeqAt
open Builtin Builtin.Str
section
variable {X : Cx} {xw : XW} {pos p p2 apos cpos : Pos} {tg a b c e o : Expr} {es : List Expr} {f fa fb : DSt → Res D} {fs : DSt → Res (List D)}
end
end L3
namespace L3
open PySem PySem.Spec PyProof.Rows L2 SeqAt
section
variable {X : Cx} {xw : XW} {pos p p2 apos cpos : Pos} {tg a b c e o ie : Expr} {es : List Expr} {f fi fa fb : DSt → Res D} {fs : DSt → Res (List D)}
def setJ (i : Nat) (δ : DSt) (ds : List D) (d ix : D) : Out := match ix with
  | .int k => match ixN ds.length k with
    | some j => .nx (δ.set i (some (.o (ds.set j d))))
    | none => .stuck
  | _ => .stuck
def setO (i : Nat) (fi : DSt → Res D) (δ : DSt) (d : D) : Out := match δ[i]? with
  | some (some (.o ds)) => ofR (fi δ) (setJ i δ ds d)
  | _ => .stuck
def sSetI (i : Nat) (fi f : DSt → Res D) : DSt → Out := fun δ => ofR (f δ) (setO i fi δ)
end
end L3
namespace L3
open PySem PySem.Spec PyProof.Rows L2 SeqAt
theorem ints_are : ∀ {ns : List Int} {us : List Value}, Vals (ns.map V.int) us → IntsAre us ns
  | [], _, .nil => .nil
  | n :: ns, _, .cons ⟨t, h⟩ r => by rw [h]; exact .cons n t (ints_are r)
section
variable {X : Cx} {xw : XW} {pos p : Pos} {a : Expr} {fa : DSt → Res D}
theorem intsOf_has {K : PySem.W.Frag} {W : WS} {H : Hp} : ∀ {ds : List D} {ns : List Int} {vs : List V}, intsOf ds = some ns → HasL K W H ds vs → vs = ns.map V.int
  | [], ns, vs, h, r => by cases h; rw [HasL] at r; exact r
  | d :: ds, ns, vs, h, r => by
    cases d with
    | int x =>
      obtain ⟨ys, h1, rfl⟩ := Option.map_eq_some_iff.mp (show (intsOf ds).map (x :: ·) = some ns from h)
      rw [HasL] at r
      obtain ⟨v, q, rfl, hv, hq⟩ := r
      rw [Has] at hv
      rw [hv, intsOf_has h1 hq]; rfl
    | _ => cases h
end
end L3
namespace HT
open PySem PyProof.Rows
section
open PySem.SeqAt
open PySem.AutoSeq1 (wpAny_loadPart')
open PySem.MeetsSeq PySem.MeetsSeq2 PySem.MeetsSeq3
end
section
variable {prog : Program} {w : World} {A : Around} {E : Value → Shared → Prop} {s : Shared}
end
end HT
namespace L3
open PySem PySem.Spec PyProof.Rows L2 SeqAt
section
variable {X : Cx} {xw : XW}
end
end L3
namespace L3
open PySem
def Rise (xs : Array Nat) : Prop := xs.toList.Pairwise (fun a b => a < b)
theorem Rise.lt {xs : Array Nat} (r : Rise xs) {i j : Nat} {a b : Nat} (h : i < j) (ha : xs[i]? = some a) (hb : xs[j]? = some b) : a < b := by
  unfold Rise at r; rw [List.pairwise_iff_getElem] at r
  rw [← Array.getElem?_toList] at ha hb
  obtain ⟨p, e⟩ := List.getElem?_eq_some_iff.mp ha
  obtain ⟨q, f⟩ := List.getElem?_eq_some_iff.mp hb
  have z := r i j p q h
  rw [e, f] at z; exact z
def Parts (xs : Array Nat) (j p : Nat) : Prop := p ≤ xs.size ∧ (∀ i a, i < p → xs[i]? = some a → a < j) ∧ ∀ i a, p ≤ i → xs[i]? = some a → j ≤ a
theorem below_parts {xs : Array Nat} (r : Rise xs) (j : Nat) : ∀ (n lo hi : Nat), hi - lo ≤ n → lo ≤ hi → hi ≤ xs.size → (∀ i a, i < lo → xs[i]? = some a → a < j) → (∀ i a, hi ≤ i → xs[i]? = some a → j ≤ a) →
    Parts xs j (SetTable.below.go xs j n lo hi) := by
  intro n
  induction n with
  | zero =>
    intro lo hi h1 h2 h3 h4 h5
    have : lo = hi := by omega
    subst this
    exact ⟨h3, h4, h5⟩
  | succ n ih =>
    intro lo hi h1 h2 h3 h4 h5
    unfold SetTable.below.go
    by_cases hl : lo < hi
    · rw [if_pos hl]; dsimp only
      have hm : (lo + hi) / 2 < xs.size := by omega
      have hg : xs[(lo + hi) / 2]? = some xs[(lo + hi) / 2] := Array.getElem?_eq_getElem hm
      have hd : xs.getD ((lo + hi) / 2) j = xs[(lo + hi) / 2] := by simp [Array.getD, hm]
      rw [hd]
      by_cases hc : xs[(lo + hi) / 2] < j
      · rw [if_pos hc]
        refine ih _ _ (by omega) (by omega) h3 (fun i a hi' ha => ?_) h5
        rcases Nat.lt_or_ge i ((lo + hi) / 2) with q | q
        · exact Nat.lt_trans (r.lt q ha hg) hc
        · have : i = (lo + hi) / 2 := by omega
          subst this; rw [hg] at ha; cases ha; exact hc
      · rw [if_neg hc]
        refine ih _ _ (by omega) (by omega) (by omega) h4 (fun i a hi' ha => ?_)
        rcases Nat.lt_or_ge ((lo + hi) / 2) i with q | q
        · exact Nat.le_trans (Nat.le_of_not_lt hc) (Nat.le_of_lt (r.lt q hg ha))
        · have : i = (lo + hi) / 2 := by omega
          subst this; rw [hg] at ha; cases ha; exact Nat.le_of_not_lt hc
    · rw [if_neg hl]
      have : lo = hi := by omega
      subst this
      exact ⟨h3, h4, h5⟩
theorem below_at {xs : Array Nat} (r : Rise xs) (j : Nat) : Parts xs j (SetTable.below xs j) :=
  below_parts r j xs.size 0 xs.size (by omega) (Nat.zero_le _) (Nat.le_refl _) (fun _ _ h => absurd h (Nat.not_lt_zero _)) fun i a h e => by
    have := (Array.getElem?_eq_some_iff.mp e).1; omega
theorem insert_rise {xs : Array Nat} (r : Rise xs) {j : Nat} (hj : xs[SetTable.below xs j]? ≠ some j) : Rise (SetTable.insertAt xs (SetTable.below xs j) j) := by
  obtain ⟨h1, h2, h3⟩ := below_at r j
  generalize SetTable.below xs j = p at *
  have strict : ∀ i a, p ≤ i → xs[i]? = some a → j < a := fun i a hi ha => by
    rcases Nat.lt_or_ge j a with q | q
    · exact q
    · have e : a = j := Nat.le_antisymm q (h3 i a hi ha)
      subst e
      rcases Nat.eq_or_lt_of_le hi with z | z
      · subst z; exact absurd ha hj
      · have hp : p < xs.size := Nat.lt_trans z (Array.getElem?_eq_some_iff.mp ha).1
        have hg : xs[p]? = some xs[p] := Array.getElem?_eq_getElem hp
        have := r.lt z hg ha
        have := h3 p _ (Nat.le_refl _) hg
        omega
  unfold Rise at r ⊢
  rw [SetTable.toList_insertAt, List.pairwise_append]
  refine ⟨List.Pairwise.sublist (List.take_sublist _ _) r, List.pairwise_cons.mpr ⟨fun b hb => ?_, List.Pairwise.sublist (List.drop_sublist _ _) r⟩, fun a ha b hb => ?_⟩
  · obtain ⟨i, hi, e⟩ := List.mem_iff_getElem.mp hb
    rw [List.getElem_drop] at e
    refine strict (p + i) b (Nat.le_add_right _ _) ?_
    rw [← Array.getElem?_toList, ← e]; exact List.getElem?_eq_getElem _
  · have hlt : a < j := by
      obtain ⟨i, hi, e⟩ := List.mem_iff_getElem.mp ha
      rw [List.getElem_take] at e
      have hi' : i < p := by rw [List.length_take] at hi; omega
      refine h2 i a hi' ?_
      rw [← Array.getElem?_toList, ← e]; exact List.getElem?_eq_getElem _
    rcases List.mem_cons.mp hb with rfl | hb
    · exact hlt
    · obtain ⟨i, hi, e⟩ := List.mem_iff_getElem.mp hb
      rw [List.getElem_drop] at e
      refine Nat.lt_trans hlt (strict (p + i) b (Nat.le_add_right _ _) ?_)
      rw [← Array.getElem?_toList, ← e]; exact List.getElem?_eq_getElem _
structure TOk (txt : Bool) (t : SetTable) : Prop where
  led : t.led = !txt
  ok : t.plain = true → Rise t.place ∧ t.dummies = #[]
theorem standIn_ok {txt : Bool} {t : SetTable} (h : TOk txt t) (n : Nat) : TOk txt (t.standIn n) := ⟨h.led, fun e => by cases e⟩
theorem orStandIn_ok {txt : Bool} {t : SetTable} (h : TOk txt t) (n : Nat) : TOk txt (t.orStandIn n) := by
  unfold SetTable.orStandIn; split
  · exact h
  · exact standIn_ok h n
theorem has_none (j : Nat) : SetTable.has #[] j = false := by simp [SetTable.has]
theorem probe_free {t : SetTable} (hd : t.dummies = #[]) (h : Int) {j : Nat} {d : Option Nat} : ∀ (n : Nat) (p : SetTable.Probe), p.dummy = none → SetTable.probe.go t (fun _ => h + 1) h n p = some (.empty j d) → t.slot j = .empty ∧ d = none := by
  intro n
  induction n with
  | zero => intro p _ e; cases e
  | succ n ih =>
    intro p hp e
    unfold SetTable.probe.go at e
    split at e
    · rename_i hs
      cases e; exact ⟨hs, hp⟩
    · rename_i hs
      unfold SetTable.slot at hs; dsimp only at hs
      split at hs
      · cases hs
      · rw [hd, has_none] at hs; simp at hs
    · rw [if_neg (by simp; omega)] at e
      refine ih _ ?_ e
      unfold SetTable.advance
      split
      · exact hp
      · exact hp
theorem put_ok {txt : Bool} {t : SetTable} (k : TOk txt t) {h : Int} {j : Nat} {b : Bool} (e : t.freeSlot h = some (j, b)) : TOk txt (t.put j).1 := by
  refine ⟨k.led, fun hp => ?_⟩
  obtain ⟨r, d⟩ := k.ok hp
  unfold SetTable.freeSlot at e
  split at e
  · rename_i j' d' e'
    obtain ⟨z1, z2⟩ := probe_free d h _ _ rfl e'
    subst z2
    cases e
    show Rise (SetTable.insertAt t.place (SetTable.below t.place j') j') ∧ (if SetTable.has t.dummies j' = true then _ else t.dummies) = #[]
    refine ⟨insert_rise r fun q => ?_, ?_⟩
    · unfold SetTable.slot at z1; dsimp only at z1
      rw [if_pos (by rw [q]; simp)] at z1; cases z1
    · rw [d, has_none]; rfl
  · cases e
theorem layNew_ok {txt : Bool} {t : SetTable} (k : TOk txt t) (es : Array (Int × Value)) (h : Int) (x : Value) : TOk txt (layNew t es h x).2.1 := by
  unfold layNew
  split
  · rename_i j b e
    exact orStandIn_ok (put_ok k e) _
  · exact standIn_ok k _
theorem laid_ok {m f v : Nat} {l p : Bool} {hs : Array Int} {t : SetTable} {o : Array Nat} (e : SetTable.laid m f v l p hs = some (t, o)) : t.led = l ∧ t.plain = p ∧ Rise t.place ∧ t.dummies = #[] := by
  unfold SetTable.laid at e
  cases hc : SetTable.layClean m hs with
  | none => rw [hc] at e; cases e
  | some ow =>
    rw [hc] at e
    cases e
    refine ⟨rfl, rfl, ?_, rfl⟩
    show List.Pairwise _ (List.map _ (List.filterMap _ (List.range (m + 1)))).toArray.toList
    rw [List.toList_toArray, List.map_filterMap]
    refine List.Pairwise.filterMap _ (R := fun a b => a < b) ?_ List.pairwise_lt_range
    intro a a' h b hb b' hb'
    cases h1 : ow.getD a none with
    | none => rw [h1] at hb; cases hb
    | some z =>
      cases h2 : ow.getD a' none with
      | none => rw [h2] at hb'; cases hb'
      | some z' => rw [h1] at hb; rw [h2] at hb'; cases hb; cases hb'; exact h
theorem relay_ok {txt : Bool} {t : SetTable} (k : TOk txt t) (es : Array (Int × Value)) (n : Nat) : TOk txt (relayAll t es n).2.1 := by
  unfold relayAll
  split
  · rename_i t' o e
    dsimp only
    split
    · obtain ⟨a1, a2, a3, a4⟩ := laid_ok (show SetTable.laid _ _ _ _ _ _ = _ from e)
      exact ⟨a1.trans k.led, fun _ => ⟨a3, a4⟩⟩
    · exact standIn_ok k _
  · exact standIn_ok k _
theorem pulled {α : Type} : ∀ (l : List α) (i : Nat) (h : i < l.length), (l[i] :: l.eraseIdx i).Perm l
  | [], _, h => absurd h (Nat.not_lt_zero _)
  | a :: l, 0, _ => List.Perm.refl _
  | a :: l, i + 1, h => by
    have hi : i < l.length := by simpa using h
    rw [List.getElem_cons_succ, List.eraseIdx_cons_succ]
    exact (List.Perm.swap a _ _).trans (List.Perm.cons a (pulled l i hi))
theorem picked {α : Type} (next : Nat → Nat) : ∀ (n k : Nat) (left : List α) (out : Array α), n = left.length → (pickOrder.go next n k left out).toList.Perm (out.toList ++ left) := by
  intro n
  induction n with
  | zero => intro k left out e; have : left = [] := List.length_eq_zero_iff.mp e.symm; subst this; unfold pickOrder.go; simp
  | succ n ih =>
    intro k left out e
    have hl : next k % left.length < left.length := Nat.mod_lt _ (by omega)
    unfold pickOrder.go
    rw [List.getElem?_eq_getElem hl]
    dsimp only
    refine (ih _ _ _ (by rw [List.length_eraseIdx_of_lt hl]; omega)).trans ?_
    rw [Array.toList_push, List.append_assoc]
    exact List.Perm.append_left _ (by simpa using pulled left _ hl)
theorem pickOrder_perm {α : Type} (next : Nat → Nat) (xs : Array α) : (pickOrder next xs).toList.Perm xs.toList := by
  unfold pickOrder; simpa using picked next xs.size 0 xs.toList #[] (by simp)
end L3
namespace L3
open PySem
def nv : Value → Int
  | .int n _ => n
  | _ => 0
def ddp (σ : List Int) (k : Int) : List Int := if k ∈ σ then σ else σ ++ [k]
section
variable {prog : Program} {w : World} {A : Around} {E : Value → Shared → Prop} {s : Shared}
def SI (prog : Program) (w : World) (h : Heap) (a : Addr) (σ : List Int) : Prop :=
  ∃ o es ep t, h.get? a = some o ∧ o.ExactSet ∧ o.data = .set es ep t ∧ ElemsOf (intKind prog w) es.toList ∧ (es.toList.map fun e => nv e.2).Perm σ ∧ es.size < scanBound ∧ t.fits es.size = true ∧ TOk (w.params.followText "set-order") t
theorem SI.at' {h h' : Heap} {a : Addr} {σ : List Int} (x : SI prog w h a σ) (k : ∀ o, h.get? a = some o → h'.get? a = some o) : SI prog w h' a σ := by
  obtain ⟨o, es, ep, t, ho, r⟩ := x; exact ⟨o, es, ep, t, k o ho, r⟩
theorem is_nv {k : Int} {v : Value} (h : (intKind prog w).is k v = true) : nv v = k := by
  obtain ⟨t, rfl⟩ := Value.isInt_shape (show Value.isInt k v = true from h); rfl
theorem is_int (k : Int) (t : Tok) : (intKind prog w).is k (.int k t) = true := by
  show Value.isInt k (.int k t) = true; simp [Value.isInt]
theorem si_store {h : Heap} {a : Addr} {o : Obj} {es es' : Array (Int × Value)} {ep : Nat} {t t' : SetTable} {σ : List Int} (ho : h.get? a = some o) (hex : o.ExactSet) (hd : o.data = .set es ep t)
    (hel : ElemsOf (intKind prog w) es'.toList) (hp : (es'.toList.map fun e => nv e.2).Perm σ) (hb : es'.size < scanBound) (hf : t'.fits es'.size = true) (ht : TOk (w.params.followText "set-order") t') :
    (h.update a (Obj.putSet es' t')).get? a = some { o with data := .set es' (ep + 1) t' } ∧ SI prog w (h.update a (Obj.putSet es' t')) a σ := by
  have hg := Heap.get?_update_self (Obj.putSet es' t') ho (by rw [putSet_of es' t' hd]; rfl)
  rw [putSet_of es' t' hd] at hg
  exact ⟨hg, { o with data := .set es' (ep + 1) t' }, es', ep + 1, t', hg, hex, rfl, hel, hp, hb, hf, ht⟩
theorem si_tail {g : Bool → Sem Unit} (hg : ∀ (b : Bool) (s₁ : Shared) (Q' : Unit → Shared → Prop), Q' () s₁ → wpAny (model prog w) A (g b) Q' E s₁) {a : Addr} {o : Obj} {es es1 : Array (Int × Value)} {ep : Nat} {t t2 : SetTable} {σ : List Int}
    (ho : s.heap.get? a = some o) (hex : o.ExactSet) (hd : o.data = .set es ep t) (hel : ElemsOf (intKind prog w) es1.toList) (hp : (es1.toList.map fun e => nv e.2).Perm σ) (hb : es1.size < scanBound) (hf : t2.fits es1.size = true)
    (ht : TOk (w.params.followText "set-order") t2) {wd : Bool} {R : Option Bool → Shared → Prop} (h : ∀ h', Heap.SameBut a s.heap h' → SI prog w h' a σ → R (some true) { s with heap := h' }) :
    wpAny (model prog w) A (storeSet a es1 t2 >>= fun _ => if (!wd && t2.tooFull) = true then (g (relayAll t2 es1 (SetTable.grown es1.size)).2.2 >>= fun _ =>
      storeSet a (relayAll t2 es1 (SetTable.grown es1.size)).1 (relayAll t2 es1 (SetTable.grown es1.size)).2.1 >>= fun _ => pure (some true)) else pure (some true)) R E s := by
  obtain ⟨ho1, hS1⟩ := si_store (prog := prog) (w := w) ho hex hd hel hp hb hf ht
  have sb := Heap.SameBut.update s.heap a (Obj.putSet es1 t2)
  refine wpAny_bind (wpAny_storeSet_of ho hd (wpAny_ite_split (fun _ => ?_) fun _ => wpAny_pure (h _ sb hS1)) (fits_of_scanBound hb))
  have pp := relayAll_perm t2 es1 (SetTable.grown es1.size)
  have ff := relayAll_fits t2 es1 (SetTable.grown es1.size)
  have kk := relay_ok ht es1 (SetTable.grown es1.size)
  generalize relayAll t2 es1 (SetTable.grown es1.size) = R' at pp ff kk ⊢
  obtain ⟨es2, t3, g2⟩ := R'
  dsimp only at pp ff kk ⊢
  have hz : es2.size = es1.size := by rw [← Array.length_toList, pp.length_eq, Array.length_toList]
  have hb2 : es2.size < scanBound := by rw [hz]; exact hb
  refine wpAny_bind (hg _ _ _ (wpAny_bind (wpAny_storeSet_of ho1 rfl (wpAny_pure ?_) (fits_of_scanBound hb2))))
  exact h _ (sb.trans (Heap.SameBut.update _ a _)) (si_store (prog := prog) (w := w) ho1 hex rfl (hel.perm pp) ((pp.map _).trans hp) hb2 ff kk).2
theorem si_add {a : Addr} {σ : List Int} {k : Int} {u : Tok} {Q : Bool → Shared → Prop} (hS : SI prog w s.heap a σ) (room : σ.length + 1 < scanBound)
    (h : ∀ h' b, Heap.SameBut a s.heap h' → SI prog w h' a (ddp σ k) → Q b { s with heap := h' }) : wpAny (model prog w) A (setAddHashed a (.int k u) (hashInt k)) Q E s := by
  obtain ⟨o, es, ep, t, ho, hex, hd, hel, hp, hb, hf, ht⟩ := hS
  have hl : es.size = σ.length := by rw [← hp.length_eq, List.length_map, Array.length_toList]
  have hk : (intKind prog w).is k (.int k u) = true := is_int k u
  unfold setAddHashed setAddHashedIn
  refine wpAny_holding (wpAny_bind (wpAny_setState_of ho hd hf ?_)); dsimp only
  rw [byScan_of (knd := intKind prog w) rfl hb hel, if_pos rfl]
  unfold setAddByScan
  refine wpAny_bind (wpAny_bind (wpAny_rule (wpAny_bind (wpAny_setScan_of (knd := intKind prog w) hk ho hd hf hel ?_))))
  cases hr : List.findIdx? (fun e => (intKind prog w).is k e.2) es.toList with
  | some j =>
    obtain ⟨hj, hpj, _⟩ := List.findIdx?_eq_some_iff_getElem.mp hr
    have hm : k ∈ σ := hp.mem_iff.mp (List.mem_map.mpr ⟨es.toList[j], List.getElem_mem hj, is_nv hpj⟩)
    refine wpAny_pure (wpAny_pure (h s.heap _ (Heap.SameBut.refl a s.heap) ?_))
    rw [ddp, if_pos hm]; exact ⟨o, es, ep, t, ho, hex, hd, hel, hp, hb, hf, ht⟩
  | none =>
    have hm : k ∉ σ := fun z => by
      obtain ⟨e, he, q⟩ := List.mem_map.mp (hp.mem_iff.mpr z)
      obtain ⟨⟨k', hk', _⟩, _⟩ := hel e he
      have : k' = k := (is_nv hk').symm.trans q
      subst this
      have := List.findIdx?_eq_none_iff.mp hr e he
      rw [hk'] at this; cases this
    have pp := layNew_perm t es (hashInt k) (.int k u)
    have ff := layNew_fits t es (hashInt k) (.int k u)
    have kk := layNew_ok ht es (hashInt k) (.int k u)
    dsimp only
    generalize layNew t es (hashInt k) (.int k u) = L at pp ff kk ⊢
    obtain ⟨es1, t1, wd, gv⟩ := L
    dsimp only at pp ff kk ⊢
    rw [Array.toList_push] at pp
    have hp1 : (es1.toList.map fun e => nv e.2).Perm (ddp σ k) := by
      rw [ddp, if_neg hm]
      refine (pp.map _).trans ?_
      rw [List.map_append]
      exact hp.append_right _
    have hz : es1.size < scanBound := by rw [← Array.length_toList, pp.length_eq, List.length_append, Array.length_toList, hl]; exact room
    have gw : ∀ (b : Bool) (s₁ : Shared) (Q' : Unit → Shared → Prop), Q' () s₁ → wpAny (model prog w) A (match b with | true => rule "set.scan.the-table-gave-way" | false => (pure () : Sem Unit)) Q' E s₁ := fun b s₁ Q' q => by
      cases b
      · exact wpAny_pure q
      · exact wpAny_rule q
    refine wpAny_bind (gw gv _ _ ?_)
    have fin : ∀ h', Heap.SameBut a s.heap h' → SI prog w h' a (ddp σ k) → wpAny (model prog w) A (pure true) Q E { s with heap := h' } := fun h' q1 q2 => wpAny_pure (h h' true q1 q2)
    refine wpAny_ite_split (fun hpl => ?_) (fun hpl => ?_)
    · refine wpAny_bind ?_
      rw [hashByValue_scannable 8 (show (Value.int k u).scannable = true from rfl)]
      refine wpAny_pure ?_
      exact si_tail gw ho hex hd ((hel.push hk rfl).perm pp) hp1 hz ff kk fin
    · refine wpAny_bind (wpAny_pure ?_)
      exact si_tail gw ho hex hd ((hel.push hk rfl).perm pp) hp1 hz ff kk fin
end
end L3
namespace L3
open PySem
namespace F
theorem slot_si_next : Slot "set_iterator" "__next__" "set_iterator.__next__" :=
  .of (owner := "set_iterator") (n := "__next__") (by rw [typeLookup_type, builtinLookup_eq_fast]; kernel_rfl) (by decide +kernel) (by decide +kernel) (by decide +kernel) (by first | exact .inl (by decide +kernel) | exact .inr (by decide +kernel)) (by rw [isSubtype_type]; kernel_rfl)
theorem entry_si_next : entryFor table "set_iterator.__next__" = some Builtin.«set_iterator.__next__» := entryFor_of_fast (by kernel_rfl)
theorem args_si_next (a : Value) : argsOk "set_iterator.__next__" ⟨[a], []⟩ := by unfold argsOk; kernel_rfl
theorem entry_set_iter : entryFor table "set.__iter__" = some Builtin.«frozenset.__iter__» := entryFor_alias (id' := "frozenset.__iter__") (by kernel_rfl) rfl (by decide +kernel) (by kernel_rfl)
end F
abbrev IsSIt (h : Heap) (I : Addr) (first : Value) (i : Nat) (S : Addr) (n ep : Nat) : Prop :=
  h.get? I = some { cls := .type "set_iterator", dict := none, data := .fields #[first, rawInt i, .ref S, rawInt n, rawInt ep], slots := #[] }
section
variable {prog : Program} {w : World} {A : Around} {E : Value → Shared → Prop} {s : Shared} {S I : Addr} {o : Obj} {es : Array (Int × Value)} {ep : Nat} {t : SetTable}
theorem choose_ {src : Source} {n : Nat} {Q : Nat → Shared → Prop} (hn : n ≠ 0) (h : ∀ k d, k < n → Q k { s with drawn := d }) : wpAny (model prog w) A (choose src n) Q E s := fun Γ p hΓ => by
  unfold choose
  rw [Sem.wp_choose]
  exact ⟨hn, by rw [Sem.wp_pure]; exact h _ _ (Nat.mod_lt _ (Nat.pos_of_ne_zero hn))⟩
theorem drawOrder_ {α : Type} : ∀ (n : Nat) (xs : List α) (s : Shared) {Q : List α → Shared → Prop}, n = xs.length → (∀ ys d, ys.Perm xs → Q ys { s with drawn := d }) → wpAny (model prog w) A (drawOrder n xs) Q E s
  | 0, xs, s, Q, e, h => by
    have : xs = [] := List.length_eq_zero_iff.mp e.symm
    subst this
    unfold drawOrder
    exact wpAny_pure (h [] s.drawn (List.Perm.refl _))
  | n + 1, [], s, Q, e, h => by simp at e
  | n + 1, x :: xs, s, Q, e, h => by
    unfold drawOrder
    refine wpAny_bind (choose_ (by simp) fun k d hk => ?_)
    rw [List.getElem?_eq_getElem hk]
    dsimp only
    refine wpAny_bind (drawOrder_ n _ _ (by rw [List.length_eraseIdx_of_lt hk]; omega) fun ys d' hp => wpAny_pure ?_)
    exact h _ d' ((List.Perm.cons _ hp).trans (pulled _ _ hk))
theorem byText_ {b : Bool} {Q : Bool → Shared → Prop} (e : w.params.followText "set-order" = b) (h : Q b s) : wpAny (model prog w) A setsByText Q E s := by
  unfold setsByText
  refine wpAny_bind (wpAny_askSetting (wpAny_pure ?_))
  show Q (w.params.followText "set-order") s
  rw [e]; exact h
theorem setNext_text {slot given : Nat} {Q : Option (Value × Nat) → Shared → Prop} (bt : w.params.followText "set-order" = true) (ho : s.heap.get? S = some o) (hd : o.data = .set es ep t) (hf : t.fits es.size = true)
    (h : Q (((pickOrder (w.params.setOrder S ep) es)[given]?).map fun e => (e.2, slot)) s) : wpAny (model prog w) A (setNext S slot given ep) Q E s := by
  unfold setNext
  refine wpAny_bind (wpAny_setState_of ho hd hf ?_); dsimp only
  refine wpAny_bind (byText_ bt ?_)
  rw [if_pos rfl]
  rw [if_neg (by simp)]
  refine wpAny_bind ?_
  unfold setWalk
  refine wpAny_bind (wpAny_setState_of ho hd hf ?_); dsimp only
  refine wpAny_bind (byText_ bt ?_)
  rw [if_pos rfl]
  exact wpAny_bind (wpAny_askSetting (wpAny_pure (wpAny_pure h)))
theorem setNext_table {slot given : Nat} {Q : Option (Value × Nat) → Shared → Prop} (bt : w.params.followText "set-order" = false) (ho : s.heap.get? S = some o) (hd : o.data = .set es ep t) (hf : t.fits es.size = true)
    (hl : t.led = true) (hp : t.plain = true ∨ es.size ≤ 1) (h : Q (match es[SetTable.below t.place slot]?, t.place[SetTable.below t.place slot]? with | some (_, x), some j => some (x, j + 1) | _, _ => none) s) :
    wpAny (model prog w) A (setNext S slot given ep) Q E s := by
  unfold setNext
  refine wpAny_bind (wpAny_setState_of ho hd hf ?_); dsimp only
  refine wpAny_bind (byText_ bt ?_)
  rw [if_neg (by simp)]
  refine wpAny_ite_split (fun hc => ?_) (fun _ => ?_)
  · have hc' : (!t.plain && decide (es.size > 1)) = true := hc
    rcases hp with q | q
    · rw [q] at hc'; cases hc'
    · rw [show decide (es.size > 1) = false from decide_eq_false (by omega), Bool.and_false] at hc'; cases hc'
  · refine wpAny_bind ?_
    refine wpAny_ite_split (fun hc => ?_) (fun _ => wpAny_pure (wpAny_pure h))
    have hc' : (!t.led && !es.isEmpty) = true := hc
    rw [hl] at hc'; cases hc'
theorem next_int {sl : Nat} {i : Nat} {Q : Fin → Shared → Prop} (hi : IsSIt s.heap I (rawInt sl) i S es.size ep) (ho : s.heap.get? S = some o) (hd : o.data = .set es ep t) (hf : t.fits es.size = true)
    (h : wpAny (model prog w) A (setNext S sl i ep >>= fun r => match r with
        | some (x, next) => setField (.ref I) 0 (rawInt next) >>= fun _ => setField (.ref I) 1 (rawInt ((i : Int) + 1)) >>= fun _ => ret x
        | none => setField (.ref I) 2 .none >>= fun _ => newExc (.type "StopIteration") [] >>= fun e => raiseNew e) Q E s) : wpAny (model prog w) A (Builtin.«set_iterator.__next__» ⟨[.ref I], []⟩) Q E s := by
  unfold Builtin.«set_iterator.__next__»
  show wpAny _ _ (fieldsOf (.ref I) >>= _) _ _ s
  refine wpAny_bind (wpAny_fieldsOf hi rfl ?_)
  show wpAny _ _ (setEntries S >>= _) _ _ s
  refine wpAny_bind (wpAny_setEntries_of ho hd hf ?_)
  refine wpAny_ite_split (fun hc => absurd hc (by simp)) (fun _ => ?_)
  exact h
theorem next_ref {T : Addr} {i : Nat} {Q : Fin → Shared → Prop} (hi : IsSIt s.heap I (.ref T) i S es.size ep) (ho : s.heap.get? S = some o) (hd : o.data = .set es ep t) (hf : t.fits es.size = true) {ps : Array Value} (hT : s.heap.get? T = some { cls := .type "tuple", data := .seq ps })
    (h : wpAny (model prog w) A (match ps[i]? with
          | some (.int place _) => setNextDrawn S place.toNat ep >>= fun x => setField (.ref I) 1 (rawInt ((i : Int) + 1)) >>= fun _ => ret x
          | some _ => unsupported "internal:set_iterator"
          | none => setField (.ref I) 0 (rawInt 0) >>= fun _ => setField (.ref I) 2 .none >>= fun _ => newExc (.type "StopIteration") [] >>= fun e => raiseNew e) Q E s) : wpAny (model prog w) A (Builtin.«set_iterator.__next__» ⟨[.ref I], []⟩) Q E s := by
  unfold Builtin.«set_iterator.__next__»
  show wpAny _ _ (fieldsOf (.ref I) >>= _) _ _ s
  refine wpAny_bind (wpAny_fieldsOf hi rfl ?_)
  show wpAny _ _ (setEntries S >>= _) _ _ s
  refine wpAny_bind (wpAny_setEntries_of ho hd hf ?_)
  refine wpAny_ite_split (fun hc => absurd hc (by simp)) (fun _ => ?_)
  show wpAny _ _ (seqItems? (.ref T) >>= _) _ _ _
  refine wpAny_bind (wpAny_seqItems hT rfl ?_)
  dsimp only
  simp only [Int.toNat_natCast]
  exact h
end
end L3
namespace L3
open PySem
namespace F
theorem slot_si_iter : Slot "set_iterator" "__iter__" "set_iterator.__iter__" :=
  .of (owner := "set_iterator") (n := "__iter__") (by rw [typeLookup_type, builtinLookup_eq_fast]; kernel_rfl) (by decide +kernel) (by decide +kernel) (by decide +kernel) (by first | exact .inl (by decide +kernel) | exact .inr (by decide +kernel)) (by rw [isSubtype_type]; kernel_rfl)
theorem entry_si_iter : entryFor table "set_iterator.__iter__" = some Builtin.«dict_keyiterator.__iter__» := entryFor_alias (id' := "dict_keyiterator.__iter__") (by kernel_rfl) rfl (by decide +kernel) (by kernel_rfl)
theorem args_si_iter (a : Value) : argsOk "set_iterator.__iter__" ⟨[a], []⟩ := by unfold argsOk; kernel_rfl
end F
section
variable {prog : Program} {w : World} {A : Around} {E : Value → Shared → Prop} {s : Shared} {S I T : Addr} {o : Obj} {es : Array (Int × Value)} {ep : Nat} {t : SetTable} {first : Value} {i : Nat}
theorem si_self {n : Nat} {Q : Value → Shared → Prop} (hi : IsSIt s.heap I first i S n ep) (h : Q (.ref I) s) : wpAny (model prog w) A (pyIter (.ref I)) Q E s :=
  wpAny_pyIter_slot ⟨_, hi, rfl⟩ F.slot_si_iter (wpAny_call_entry F.slot_si_iter ⟨_, hi, rfl⟩ F.entry_si_iter (wpAny_pure ⟨_, rfl, "set_iterator", _, ⟨_, hi, rfl⟩, F.slot_si_next.lookup, h⟩) (F.args_si_iter _))
theorem si_next {n : Nat} {Q : Option Value → Shared → Prop} (hi : IsSIt s.heap I first i S n ep)
    (h : wpAny (model prog w) A.in1 (Builtin.«set_iterator.__next__» ⟨[.ref I], []⟩) (fun f s' => ∃ v, f = .done (.ret v) ∧ Q (some v) s') (fun e s' => (∃ a o, e = .ref a ∧ s'.heap.get? a = some o ∧ o.cls = .type "StopIteration") ∧ Q none s') s) :
    wpAny (model prog w) A (pyNext (.ref I)) Q E s := by
  unfold pyNext
  refine wpAny_bind (wpAny_attempt (wpAny_callSpecial?_slot (name := Str.ofString "__next__") ⟨_, hi, rfl⟩ F.slot_si_next (wpAny_call_entry F.slot_si_next ⟨_, hi, rfl⟩ F.entry_si_next (wpAny_mono h (fun f s' z => ?_) fun e s' z => ?_) (F.args_si_next _))))
  · obtain ⟨v, rfl, q⟩ := z
    exact ⟨v, rfl, wpAny_pure q⟩
  · obtain ⟨⟨a, oe, rfl, ho, hc⟩, q⟩ := z
    exact wpAny_bind (wpAny_isInstance (T := "StopIteration") (b := true) ⟨oe, ho, hc⟩ isSubtype_stop (wpAny_pure q))
theorem stop_ {Q : Fin → Shared → Prop} (hh : A.handled = none) (h : ∀ h' e, (∀ b o, s.heap.get? b = some o → h'.get? b = some o) → (∃ o, h'.get? e = some o ∧ o.cls = .type "StopIteration") → E (.ref e) { s with heap := h' }) :
    wpAny (model prog w) A (newExc (.type "StopIteration") [] >>= fun e => raiseNew e) Q E s := by
  refine wpAny_bind ?_; simp only [newExc, newTuple]
  refine wpAny_bind (wpAny_newObj_type ?_ (by size_fits)); refine wpAny_bind (m := firstArgMember _ _) (wpAny_of_eq (a := Value.none) (by first | rfl | (simp only [firstArgMember]; rfl)) ?_)
  refine wpAny_newObj_type ?_ (by size_fits); simp only [raiseNew]
  refine wpAny_bind (wpAny_handled ?_); rw [hh]
  exact wpAny_bind (wpAny_pure (wpAny_throw (h _ _ (fun b o e => Heap.get?_push_of_some _ (Heap.get?_push_of_some _ e)) ⟨_, Heap.get?_push_size _ rfl, rfl⟩)))
theorem walk_slots (hh : A.handled = none) (hne : S ≠ I) (ord : List Value) (hlen : ord.length = es.size) (sl : Nat → Nat) (hd : o.data = .set es ep t) (hf : t.fits es.size = true)
    (hN : ∀ (A' : Around) i (s : Shared) (Q : Option (Value × Nat) → Shared → Prop) (E : Value → Shared → Prop), i ≤ es.size → s.heap.get? S = some o → Q (ord[i]?.map fun x => (x, sl (i + 1))) s → wpAny (model prog w) A' (setNext S (sl i) i ep) Q E s) :
    Walks prog w A I [I, S] [I] es.size (fun i v => ord[i]? = some v) (fun i h => IsSIt h I (rawInt (sl i)) i S es.size ep ∧ h.get? S = some o) where
  sub := fun b hb => by simp at hb; simp [hb]
  frame := fun _ _ _ st hk => ⟨hk I (by simp) _ st.1, hk S (by simp) _ st.2⟩
  item := fun i s Q E hi st hQ => by
    refine si_next st.1 (next_int st.1 st.2 hd hf ?_)
    refine wpAny_bind (hN _ i s _ _ (Nat.le_of_lt hi) st.2 ?_)
    have hx : ord[i]? = some (ord[i]'(by omega)) := List.getElem?_eq_getElem (by omega)
    rw [hx]
    show wpAny _ _ (setField (.ref I) 0 (rawInt (sl (i + 1))) >>= _) _ _ _
    refine wpAny_bind (wpAny_setField_rec st.1 (by simp) fun h1 a1 c1 => ?_)
    refine wpAny_bind (wpAny_setField_rec (s := { s with heap := h1 }) a1 (by simp) fun h2 a2 c2 => ?_)
    refine wpAny_pure ⟨_, rfl, hQ _ h2 s.toks hx ⟨?_, ?_⟩ fun b ob hb e => ?_⟩
    · show h2.get? I = _
      rw [a2]; rfl
    · exact c2.extBut _ _ hne (c1.extBut _ _ hne st.2)
    · have hb' : b ≠ I := fun z => hb (by simp [z])
      exact c2.extBut _ _ hb' (c1.extBut _ _ hb' e)
  done := fun s Q E st hQ => by
    refine si_next st.1 (next_int st.1 st.2 hd hf ?_)
    refine wpAny_bind (hN _ _ s _ _ (Nat.le_refl _) st.2 ?_)
    rw [List.getElem?_eq_none (by omega)]
    show wpAny _ _ (setField (.ref I) 2 .none >>= _) _ _ _
    refine wpAny_bind (wpAny_setField_rec st.1 (by simp) fun h1 a1 c1 => ?_)
    refine stop_ (by simpa using hh) fun h2 e k he => ⟨⟨e, he.choose, rfl, he.choose_spec⟩, hQ h2 s.toks fun b ob hb q => k _ _ (c1.extBut _ _ (fun z => hb (by simp [z])) q)⟩
  self := fun _ _ _ _ st hQ => si_self st.1 hQ
theorem walk_drawn (hh : A.handled = none) (hne : S ≠ I) (hT : T ≠ I) (ys : List Nat) (hp : ys.Perm (List.range es.size)) (hd : o.data = .set es ep t) (hf : t.fits es.size = true) :
    Walks prog w A I [I, S, T] [I] es.size (fun i v => (ys.map fun j => (es.getD j (0, .none)).2)[i]? = some v)
      (fun i h => IsSIt h I (.ref T) i S es.size ep ∧ h.get? S = some o ∧ h.get? T = some { cls := .type "tuple", data := .seq (ys.map fun (j : Nat) => rawInt (j : Int)).toArray }) := by
  have hl : ys.length = es.size := by rw [hp.length_eq, List.length_range]
  exact {
  sub := fun b hb => by simp at hb; simp [hb]
  frame := fun _ _ _ st hk => ⟨hk I (by simp) _ st.1, hk S (by simp) _ st.2.1, hk T (by simp) _ st.2.2⟩
  item := fun i s Q E hi st hQ => by
    refine si_next st.1 (next_ref st.1 st.2.1 hd hf st.2.2 ?_)
    have hx : ys[i]? = some (ys[i]'(by omega)) := List.getElem?_eq_getElem (by omega)
    have hm : ys[i]'(by omega) < es.size := List.mem_range.mp (hp.mem_iff.mp (List.getElem_mem (by omega)))
    generalize ys[i]'(by omega) = j at hx hm
    rw [show (ys.map fun (j : Nat) => rawInt (j : Int)).toArray[i]? = some (rawInt j) by simp [hx]]
    show wpAny _ _ (setNextDrawn S j ep >>= _) _ _ _
    refine wpAny_bind ?_
    unfold setNextDrawn
    refine wpAny_bind (wpAny_setState_of st.2.1 hd hf ?_); dsimp only
    refine wpAny_ite_split (fun hc => absurd hc (by simp)) (fun _ => ?_)
    rw [Array.getElem?_eq_getElem hm]
    refine wpAny_pure ?_
    refine wpAny_bind (wpAny_setField_rec st.1 (by simp) fun h2 a2 c2 => ?_)
    refine wpAny_pure ⟨_, rfl, hQ _ h2 s.toks ?_ ⟨?_, ?_, ?_⟩ fun b ob hb e => c2.extBut _ _ (fun z => hb (by simp [z])) e⟩
    · rw [List.getElem?_map, hx]; simp [Array.getD, hm]
    · show h2.get? I = _
      rw [a2]; rfl
    · exact c2.extBut _ _ hne st.2.1
    · exact c2.extBut _ _ hT st.2.2
  done := fun s Q E st hQ => by
    refine si_next st.1 (next_ref st.1 st.2.1 hd hf st.2.2 ?_)
    rw [show (ys.map fun (j : Nat) => rawInt (j : Int)).toArray[es.size]? = none by simp [hl]]
    show wpAny _ _ (setField (.ref I) 0 (rawInt 0) >>= _) _ _ _
    refine wpAny_bind (wpAny_setField_rec st.1 (by simp) fun h1 a1 c1 => ?_)
    refine wpAny_bind (wpAny_setField_rec (s := { s with heap := h1 }) a1 (by simp) fun h2 a2 c2 => ?_)
    refine stop_ (by simpa using hh) fun h3 e k he => ⟨⟨e, he.choose, rfl, he.choose_spec⟩, hQ h3 s.toks fun b ob hb q => k _ _ (c2.extBut _ _ (fun z => hb (by simp [z])) (c1.extBut _ _ (fun z => hb (by simp [z])) q))⟩
  self := fun _ _ _ _ st hQ => si_self st.1 hQ }
end
structure SW (prog : Program) (w : World) (A : Around) (I : Addr) (fp : List Addr) (ord : List Value) (St : Nat → Heap → Prop) : Prop where
  W : Walks prog w A I fp [I] ord.length (fun i v => ord[i]? = some v) St
  mem : I ∈ fp
def slotAt (xs : Array Nat) : Nat → Nat
  | 0 => 0
  | i + 1 => xs.getD i 0 + 1
theorem sl_parts {xs : Array Nat} (r : Rise xs) (i : Nat) (hi : i ≤ xs.size) : SetTable.below xs (slotAt xs i) = i := by
  obtain ⟨h1, h2, h3⟩ := below_at r (slotAt xs i)
  generalize SetTable.below xs (slotAt xs i) = p at *
  cases i with
  | zero =>
    cases p with
    | zero => rfl
    | succ p =>
      have hg : xs[p]? = some xs[p] := Array.getElem?_eq_getElem (by omega)
      exact absurd (show xs[p] < 0 from h2 p _ (Nat.lt_succ_self _) hg) (Nat.not_lt_zero _)
  | succ i =>
    simp only [slotAt] at h2 h3
    have hgi : xs[i]? = some xs[i] := Array.getElem?_eq_getElem (by omega)
    have hd : xs.getD i 0 = xs[i] := by simp [Array.getD, show i < xs.size by omega]
    rw [hd] at h2 h3
    rcases Nat.lt_trichotomy p (i + 1) with q | q | q
    · have := h3 i _ (by omega) hgi; omega
    · exact q
    · have hg : xs[i + 1]? = some xs[i + 1] := Array.getElem?_eq_getElem (by omega)
      have a := h2 (i + 1) _ q hg
      have b := r.lt (Nat.lt_succ_self i) hgi hg
      omega
theorem rise_small {xs : Array Nat} (h : xs.size ≤ 1) : Rise xs := by
  unfold Rise
  match hx : xs.toList with
  | [] => exact List.Pairwise.nil
  | [a] => exact List.pairwise_singleton _ _
  | a :: b :: l => have := congrArg List.length hx; simp at this; omega
end L3
namespace L3
open PySem
section
variable {prog : Program} {w : World} {A : Around} {E : Value → Shared → Prop} {s : Shared} {S I T : Addr} {o : Obj} {es : Array (Int × Value)} {ep : Nat} {t : SetTable} {first : Value} {i : Nat} {σ : List Int}
theorem setDrawn_ {b : Bool} {Q : Bool → Shared → Prop} (e : w.params.followText "set-order" = b) (ho : s.heap.get? S = some o) (hd : o.data = .set es ep t) (hf : t.fits es.size = true) (h : Q (!b && (!t.plain && decide (es.size > 1))) s) :
    wpAny (model prog w) A (setDrawn S) Q E s := by
  unfold setDrawn
  refine wpAny_bind (wpAny_setState_of ho hd hf ?_); dsimp only
  exact wpAny_bind (byText_ e (wpAny_pure h))
theorem nums_all {prog : Program} {w : World} {l : List (Int × Value)} (h : ElemsOf (intKind prog w) l) : ∀ v ∈ l.map (·.2), ∃ n u, v = Value.int n u := by
  intro v hv
  obtain ⟨e, he, rfl⟩ := List.mem_map.mp hv
  obtain ⟨⟨k, hk, _⟩, _⟩ := h e he
  obtain ⟨u, q⟩ := Value.isInt_shape (show Value.isInt k e.2 = true from hk)
  exact ⟨k, u, q⟩
theorem si_made {Q : Fin → Shared → Prop} (hz : ∀ (h' : Heap) I, h' = s.heap.push { cls := .type "set_iterator", data := .fields #[first, rawInt 0, .ref S, rawInt es.size, rawInt ep] } → I = s.heap.objs.size →
      IsSIt h' I first 0 S es.size ep → (∀ b o, s.heap.get? b = some o → h'.get? b = some o) → Q (.done (.ret (.ref I))) { s with heap := h' }) (ho : s.heap.get? S = some o) (hd : o.data = .set es ep t) (hf : t.fits es.size = true) :
    wpAny (model prog w) A (setEpoch S >>= fun e => newFields "set_iterator" [first, rawInt 0, .ref S, rawInt es.size, rawInt e] >>= fun v => ret v) Q E s := by
  refine wpAny_bind (wpAny_setEpoch_of ho hd hf ?_)
  exact wpAny_bind (wpAny_newObj_type (wpAny_pure (hz _ _ rfl rfl (Heap.get?_push_size _ rfl) fun b o e => Heap.get?_push_of_some _ e)))
theorem si_iter {Q : Value → Shared → Prop} (hS : SI prog w s.heap S σ)
    (h : ∀ I fp ord St h' d, (∀ A' : Around, A'.handled = none → SW prog w A' I fp ord St) → (ord.map nv).Perm σ → (∀ v ∈ ord, ∃ n u, v = Value.int n u) → St 0 h' → (∀ b o, s.heap.get? b = some o → h'.get? b = some o) → s.heap.objs.size ≤ I →
      (∀ b ∈ fp, b = S ∨ s.heap.objs.size ≤ b) → Q (.ref I) { s with heap := h', drawn := d }) : wpAny (model prog w) A (pyIter (.ref S)) Q E s := by
  obtain ⟨o, es, ep, t, ho, hex, hd, hel, hp, hb, hf, ht⟩ := hS
  have lS : S < s.heap.objs.size := Heap.lt_size ho
  have hT : s.TypeIs (.ref S) "set" := ⟨o, ho, hex.1⟩
  refine wpAny_pyIter_slot hT PySem.F.slot_set_iter (wpAny_call_entry PySem.F.slot_set_iter hT F.entry_set_iter ?_ (PySem.F.args_set_iter_1 _))
  unfold Builtin.«frozenset.__iter__»
  show wpAny _ _ (Builtin.Frozenset.sizeOf S >>= _) _ _ s
  refine wpAny_bind ?_
  unfold Builtin.Frozenset.sizeOf
  refine wpAny_bind (wpAny_setEntries_of ho hd hf (wpAny_pure ?_))
  refine wpAny_bind (setDrawn_ rfl ho hd hf ?_)
  have ord1 : ∀ (ord : Array (Int × Value)), ord.toList.Perm es.toList → ((ord.toList.map (·.2)).map nv).Perm σ ∧ ∀ v ∈ ord.toList.map (·.2), ∃ n u, v = Value.int n u := fun ord q =>
    ⟨by rw [List.map_map]; exact (q.map _).trans hp, nums_all (hel.perm q)⟩
  cases hw : (!w.params.followText "set-order" && (!t.plain && decide (es.size > 1)))
  · rw [if_neg (by simp)]
    refine wpAny_bind (wpAny_pure ?_)
    cases bt : w.params.followText "set-order"
    · have hpl : t.plain = true ∨ es.size ≤ 1 := by
        rw [bt] at hw
        cases hq : t.plain
        · rw [hq] at hw
          exact .inr (by simpa using hw)
        · exact .inl rfl
      have rr : Rise t.place := by
        rcases hpl with q | q
        · exact (ht.ok q).1
        · refine rise_small ?_
          have hf' := hf
          simp only [SetTable.fits, Bool.and_eq_true, beq_iff_eq] at hf'
          omega
      have hps : t.place.size = es.size := by
        have hf' := hf
        simp only [SetTable.fits, Bool.and_eq_true, beq_iff_eq] at hf'
        exact hf'.1
      have hl : t.led = true := by rw [ht.led, bt]; rfl
      refine si_made (first := rawInt 0) (fun h' I eh eI hi k => ⟨_, rfl, "set_iterator", _, ⟨_, hi, rfl⟩, F.slot_si_next.lookup, ?_⟩) ho hd hf
      have hSI : S ≠ I := by rw [eI]; exact Nat.ne_of_lt lS
      have hll : (es.toList.map (·.2)).length = es.size := by simp
      refine h I [I, S] (es.toList.map (·.2)) (fun i h => IsSIt h I (rawInt (slotAt t.place i)) i S es.size ep ∧ h.get? S = some o) h' s.drawn (fun A' hA => ⟨?_, by simp⟩) (ord1 es (List.Perm.refl _)).1 (ord1 es (List.Perm.refl _)).2 ⟨hi, k _ _ ho⟩ k (by rw [eI]; exact Nat.le_refl _) fun b hb => ?_
      · rw [hll]
        refine walk_slots hA hSI _ hll (slotAt t.place) hd hf fun A'' i s' Q' E' hi' hs' q => setNext_table bt hs' hd hf hl hpl ?_
        rw [sl_parts rr i (by omega)]
        rcases Nat.lt_or_ge i es.size with z | z
        · rw [Array.getElem?_eq_getElem z, Array.getElem?_eq_getElem (show i < t.place.size by omega)]
          have e1 : (es.toList.map (·.2))[i]? = some (es[i]).2 := by simp [z]
          rw [e1] at q
          have e2 : slotAt t.place (i + 1) = t.place[i]'(by omega) + 1 := by simp [slotAt, Array.getD, show i < t.place.size by omega]
          rw [e2] at q
          exact q
        · rw [Array.getElem?_eq_none z]
          rw [List.getElem?_eq_none (by simpa using z)] at q
          exact q
      · simp only [List.mem_cons, List.not_mem_nil, or_false] at hb
        rcases hb with z | z
        · exact .inr (by rw [z, eI]; exact Nat.le_refl _)
        · exact .inl z
    · refine si_made (first := rawInt 0) (fun h' I eh eI hi k => ⟨_, rfl, "set_iterator", _, ⟨_, hi, rfl⟩, F.slot_si_next.lookup, ?_⟩) ho hd hf
      have hSI : S ≠ I := by rw [eI]; exact Nat.ne_of_lt lS
      have pk := pickOrder_perm (w.params.setOrder S ep) es
      have hll : ((pickOrder (w.params.setOrder S ep) es).toList.map (·.2)).length = es.size := by rw [List.length_map, pk.length_eq, Array.length_toList]
      refine h I [I, S] ((pickOrder (w.params.setOrder S ep) es).toList.map (·.2)) (fun i h => IsSIt h I (rawInt ((0 : Nat) : Int)) i S es.size ep ∧ h.get? S = some o) h' s.drawn (fun A' hA => ⟨?_, by simp⟩) (ord1 _ pk).1 (ord1 _ pk).2 ⟨hi, k _ _ ho⟩ k (by rw [eI]; exact Nat.le_refl _) fun b hb => ?_
      · rw [hll]
        refine walk_slots hA hSI _ hll (fun _ => 0) hd hf fun A'' i s' Q' E' hi' hs' q => setNext_text bt hs' hd hf ?_
        have e1 : ((pickOrder (w.params.setOrder S ep) es).toList.map (·.2))[i]? = ((pickOrder (w.params.setOrder S ep) es)[i]?).map (·.2) := by simp
        rw [e1, Option.map_map] at q
        exact q
      · simp only [List.mem_cons, List.not_mem_nil, or_false] at hb
        rcases hb with z | z
        · exact .inr (by rw [z, eI]; exact Nat.le_refl _)
        · exact .inl z
  · rw [if_pos rfl]
    refine wpAny_bind (drawOrder_ _ _ _ (by simp) fun ys d py => ?_)
    have hyl : ys.length = es.size := by rw [py.length_eq, List.length_range]
    refine wpAny_bind (wpAny_newTuple ?_ (by rw [List.length_map, hyl]; exact fits_of_scanBound hb))
    generalize hTd : s.heap.push { cls := .type "tuple", data := .seq (ys.map fun (j : Nat) => rawInt (j : Int)).toArray } = h1
    have hT1 : h1.get? s.heap.objs.size = some { cls := .type "tuple", data := .seq (ys.map fun (j : Nat) => rawInt (j : Int)).toArray } := by rw [← hTd]; exact Heap.get?_push_size _ rfl
    have k1 : ∀ b o, s.heap.get? b = some o → h1.get? b = some o := fun b o e => by rw [← hTd]; exact Heap.get?_push_of_some _ e
    have z1 : h1.objs.size = s.heap.objs.size + 1 := by rw [← hTd, Heap.size_push]
    refine si_made (s := { s with heap := h1, drawn := d }) (first := .ref s.heap.objs.size) (fun h' I eh eI hi k => ⟨_, rfl, "set_iterator", _, ⟨_, hi, rfl⟩, F.slot_si_next.lookup, ?_⟩) (k1 _ _ ho) hd hf
    have eI' : I = s.heap.objs.size + 1 := eI.trans z1
    have hSI : S ≠ I := by rw [eI']; exact Nat.ne_of_lt (Nat.lt_succ_of_lt lS)
    have hTI : s.heap.objs.size ≠ I := by rw [eI']; exact Nat.ne_of_lt (Nat.lt_succ_self _)
    have hll : (ys.map fun j => (es.getD j (0, .none)).2).length = es.size := by rw [List.length_map, hyl]
    have hyp : (ys.map fun j => (es.getD j (0, .none)).2).Perm (es.toList.map (·.2)) := by
      refine (py.map _).trans (List.Perm.of_eq ?_)
      apply List.ext_getElem?
      intro j
      rcases Nat.lt_or_ge j es.size with z | z
      · simp [z, Array.getD]
      · rw [List.getElem?_eq_none (by simpa using z), List.getElem?_eq_none (by simpa using z)]
    refine h I [I, S, s.heap.objs.size] (ys.map fun j => (es.getD j (0, .none)).2) (fun i h => IsSIt h I (.ref s.heap.objs.size) i S es.size ep ∧ h.get? S = some o ∧ h.get? s.heap.objs.size = some { cls := .type "tuple", data := .seq (ys.map fun (j : Nat) => rawInt (j : Int)).toArray }) h' d
      (fun A' hA => ⟨?_, by simp⟩) ((hyp.map nv).trans (ord1 es (List.Perm.refl _)).1) (fun v hv => (ord1 es (List.Perm.refl _)).2 v (hyp.mem_iff.mp hv)) ⟨hi, k _ _ (k1 _ _ ho), k _ _ hT1⟩ (fun b o e => k _ _ (k1 _ _ e)) (by rw [eI']; exact Nat.le_succ _) fun b hb => ?_
    · rw [hll]
      exact walk_drawn hA hSI hTI ys py hd hf
    · simp only [List.mem_cons, List.not_mem_nil, or_false] at hb
      rcases hb with z | z | z
      · exact .inr (by rw [z, eI']; exact Nat.le_succ _)
      · exact .inl z
      · exact .inr (by rw [z]; exact Nat.le_refl _)
end
end L3
namespace L3
open PySem
open Sem (wp)
section
variable {prog : Program} {w : World} {A : Around} {E : Value → Shared → Prop} {s : Shared} {S : Addr} {σ : List Int}
theorem hint_set {Q : Bool → Shared → Prop} (hT : s.TypeIs (.ref S) "set") (h : Q false s) : wpAny (model prog w) A (Builtin.List.listLengthHint (.ref S)) Q E s := by
  unfold Builtin.List.listLengthHint
  refine wpAny_bind (wpAny_specialOf hT PySem.F.slot_set_len.lookup ?_)
  generalize hid : ("set.__len__" : String) = id0
  wp_delta
  rw [show splitId id0 = some ("set", "__len__") from by subst hid; decide +kernel]
  subst hid
  refine wpAny_bind (wpAny_isInstance (T := "set") (b := true) hT (by rw [isSubtype_type]; kernel_rfl) (wpAny_ite_split (fun z => absurd z (by decide)) fun _ => ?_))
  refine wpAny_ite_split (fun _ => wpAny_bind (wpAny_typeOf hT (wpAny_pure h))) fun z => absurd (by decide +kernel) z
theorem si_collect {Q : List Value → Shared → Prop} (hh : A.handled = none) (hS : SI prog w s.heap S σ) (hz : σ.length ≤ sizeLine)
    (h : ∀ vs h' d tk, (vs.map nv).Perm σ → (∀ v ∈ vs, ∃ n u, v = Value.int n u) → (∀ b o, s.heap.get? b = some o → h'.get? b = some o) → s.heap.objs.size < h'.objs.size → Q vs { s with heap := h', drawn := d, toks := tk }) :
    wpAny (model prog w) A (collect (.ref S)) Q E s := by
  have hT : s.TypeIs (.ref S) "set" := let ⟨o, _, _, _, ho, hex, _⟩ := hS; ⟨o, ho, hex.1⟩
  have lS : S < s.heap.objs.size := let ⟨_, _, _, _, ho, _⟩ := hS; Heap.lt_size ho
  generalize hg : s.heap.push { cls := .type "list", data := .seq ([] : List Value).toArray } = h1
  have k1 : ∀ b o, s.heap.get? b = some o → h1.get? b = some o := fun b o e => by rw [← hg]; exact Heap.get?_push_of_some _ e
  have n1 : h1.get? s.heap.objs.size = some { cls := .type "list", data := .seq ([] : List Value).toArray } := by rw [← hg]; exact Heap.get?_push_size _ rfl
  have z1 : h1.objs.size = s.heap.objs.size + 1 := by rw [← hg, Heap.size_push]
  unfold collect
  refine wpAny_bind (wpAny_runValue (codeAny_builtin PySem.F.entry_proto_collect ?_)); rw [Around.under_plainId PySem.F.plain_proto_collect _]
  show wpAny _ A.in1 (newList [] >>= fun l => again (.builtin "list.__iadd__" ⟨[l, .ref S], []⟩)) _ _ s
  refine wpAny_bind (wpAny_newObj_type (wpAny_pure ⟨plainId_quiet PySem.F.plain_list_iadd _, codeAny_builtin PySem.F.entry_list_iadd ?_⟩)); rw [Around.under_plainId PySem.F.plain_list_iadd _, hg]
  show wpAny _ A.in1 (Builtin.List.listExtendWith (.ref s.heap.objs.size) (.ref S) (.ref s.heap.objs.size)) _ _ { s with heap := h1 }
  unfold Builtin.List.listExtendWith
  have hT1 : Shared.TypeIs { s with heap := h1 } (.ref S) "set" := let ⟨o, ho, c⟩ := hT; ⟨o, k1 _ _ ho, c⟩
  refine wpAny_bind (wpAny_typeOf hT1 ?_)
  have e1 : Builtin.List.listSameRef (.ref s.heap.objs.size) (.ref S) = false := by simp [Builtin.List.listSameRef]; exact Nat.ne_of_gt lS
  rw [if_neg (by rw [e1]; decide)]
  refine wpAny_bind (si_iter (hS.at' fun o e => k1 _ _ e) fun I fp ord St h2 d sw po nums st k2 hI hfp => ?_)
  have hT2 : Shared.TypeIs { s with heap := h2, drawn := d } (.ref S) "set" := let ⟨o, ho, c⟩ := hT1; ⟨o, k2 _ _ ho, c⟩
  refine wpAny_bind (wpAny_holding (hint_set hT2 ?_))
  have hI' : s.heap.objs.size + 1 ≤ I := by rw [← z1]; exact hI
  have hnf : s.heap.objs.size ∉ fp := fun z => by
    rcases hfp _ z with q | q
    · rw [q] at lS; exact Nat.lt_irrefl _ lS
    · have q' : s.heap.objs.size + 1 ≤ s.heap.objs.size := by rw [← z1]; exact q
      exact Nat.lt_irrefl _ q'
  show wpAny _ A.in1 (rule "list.extend.makes-room" >>= fun _ => Builtin.List.listTouch (.ref s.heap.objs.size) >>= fun _ => again (.builtin "list.extend.loop" ⟨[.ref s.heap.objs.size, .ref I, .ref s.heap.objs.size], []⟩)) _ _ _
  refine wpAny_bind (wpAny_rule (wpAny_bind ?_))
  have n2 := k2 _ _ n1
  show wpAny _ A.in1 (updateSeq s.heap.objs.size (·.push .none) >>= fun _ => updateSeq s.heap.objs.size (·.pop)) _ _ _
  refine wpAny_bind (wpAny_updateSeq n2 rfl ?_)
  have n3 := Heap.get?_update_self (Obj.mapSeq (·.push Value.none)) n2 rfl
  refine wpAny_updateSeq (s := { s with heap := h2.update s.heap.objs.size (Obj.mapSeq (·.push Value.none)), drawn := d }) n3 rfl ?_
  have n4 := Heap.get?_update_self (Obj.mapSeq (·.pop)) n3 rfl
  have oth : ∀ b o, b ≠ s.heap.objs.size → h2.get? b = some o → ((h2.update s.heap.objs.size (Obj.mapSeq (·.push Value.none))).update s.heap.objs.size (Obj.mapSeq (·.pop))).get? b = some o := fun b o hb e =>
    (Heap.get?_update_other _ _ (Ne.symm hb)).trans ((Heap.get?_update_other _ _ (Ne.symm hb)).trans e)
  have W := (sw A.in1 (by simpa using hh)).W
  have ho : ord.length ≤ sizeLine := by rw [← List.length_map (f := nv), po.length_eq]; exact hz
  refine wpAny_pure ⟨plainId_quiet PySem.F.plain_extend_loop _, codeAny_extend_loopS W.toS ho _ hnf _ ord.length 0 _ _ _ rfl (Nat.zero_le _) (W.frame 0 h2 _ st fun b hb o e => oth b o (fun q => hnf (q ▸ hb)) e) n4 (ItemsOf.nil _) fun s' acc c mv n5 its => ?_⟩
  show wpAny _ A (load s.heap.objs.size >>= _) _ _ s'
  refine wpAny_bind (wpAny_load n5 (wpAny_pure ?_))
  obtain ⟨hp', g', d', tk', os'⟩ := s'
  have e1 : g' = s.gens := mv.gens
  have e2 : d' = d := mv.drawn
  have e3 : os' = s.os := mv.os
  subst e1 e2 e3
  have ea : acc.toList = ord := by
    apply List.ext_getElem?
    intro j
    rw [Array.getElem?_toList]
    cases hj : acc[j]? with
    | some v => exact (its.2 j v hj).symm
    | none =>
      have : acc.size ≤ j := by
        rcases Nat.lt_or_ge j acc.size with q | q
        · rw [Array.getElem?_eq_getElem q] at hj; cases hj
        · exact q
      rw [its.1] at this
      exact (List.getElem?_eq_none this).symm
  rw [ea]
  refine h ord hp' _ tk' po nums (fun b o e => ?_) (Heap.lt_size n5)
  have lb : b < s.heap.objs.size := Heap.lt_size e
  refine mv.heap b o (fun z => ?_) (oth b o (Nat.ne_of_lt lb) (k2 _ _ (k1 _ _ e)))
  simp only [List.mem_cons, List.not_mem_nil, or_false] at z
  rcases z with z | z
  · rw [z] at lb; exact Nat.lt_irrefl _ lb
  · rw [z] at lb; exact absurd (Nat.lt_of_lt_of_le lb (Nat.le_trans (Nat.le_succ _) hI')) (Nat.lt_irrefl _)
end
end L3
namespace L3
open PySem
open Sem (wp)
def met (ns : List Int) : List Int := ns.foldl ddp []
theorem ddp_len (σ : List Int) (k : Int) : (ddp σ k).length ≤ σ.length + 1 := by unfold ddp; split <;> simp
theorem fold_len : ∀ (ns σ : List Int), (ns.foldl ddp σ).length ≤ σ.length + ns.length
  | [], σ => by simp
  | n :: ns, σ => by have := fold_len ns (ddp σ n); have := ddp_len σ n; rw [List.foldl_cons, List.length_cons]; omega
theorem met_len (ns : List Int) : (met ns).length ≤ ns.length := by have := fold_len ns []; simpa [met] using this
theorem met_take {ns : List Int} {i : Nat} (h : i < ns.length) : met (ns.take (i + 1)) = ddp (met (ns.take i)) (ns.getD i 0) := by
  unfold met
  rw [List.take_add_one, List.foldl_append, List.getElem?_eq_getElem h]
  simp [List.getD, List.getElem?_eq_getElem h]
section
variable {prog : Program} {w : World} {A : Around} {R : Result → Shared → Prop} {I : Addr} {fp wr : List Addr} {G : Array GenState → Array GenState → Prop} {n : Nat} {P : Nat → Value → Prop} {St : Nat → Shared → Prop} {E : Value → Shared → Prop} {s : Shared}
theorem si_loop (W : WalksS prog w A.in1 I fp wr G n P St) (S : Addr) (hSf : S ∉ fp) (ns : List Int) (hn : ns.length = n) (hv : ∀ i v, P i v → ∃ u, v = Value.int (ns.getD i 0) u) (hb : n + 1 < scanBound) :
    ∀ (k i : Nat) (s : Shared), n - i = k → i ≤ n → St i s → SI prog w s.heap S (met (ns.take i)) → (∀ s', Moved (S :: wr) G s s' → SI prog w s'.heap S (met ns) → R (.ok (.ret .none)) s') →
      codeAny (model prog w) A (.builtin "set.update.loop" ⟨[.ref S, .ref I], []⟩) R s := by
  have hSw : S ∉ wr := fun h => hSf (W.sub _ h)
  have up : ∀ b ∈ wr, b ∈ S :: wr := fun b hb => List.mem_cons_of_mem _ hb
  intro k
  induction k with
  | zero =>
    intro i s hk hi st hS hR
    have : i = n := by omega
    subst this
    refine codeAny_builtin PyProof.Rows.F.entry_set_update_loop ?_; rw [Around.under_plainId PyProof.Rows.F.plain_set_update_loop _]
    show wpAny _ A.in1 (pyNext (.ref I) >>= _) _ _ s
    refine wpAny_bind (W.done s _ _ st fun s' mv => wpAny_pure (hR s' (mv.mono up) ?_))
    rw [List.take_of_length_le (Nat.le_of_eq hn)] at hS
    exact hS.at' fun o e => mv.heap S o hSw e
  | succ k ih =>
    intro i s hk hi st hS hR
    have lt : i < n := by omega
    refine codeAny_builtin PyProof.Rows.F.entry_set_update_loop ?_; rw [Around.under_plainId PyProof.Rows.F.plain_set_update_loop _]
    show wpAny _ A.in1 (pyNext (.ref I) >>= _) _ _ s
    refine wpAny_bind (W.item i s _ _ lt st fun v s' pv st' mv => ?_)
    obtain ⟨u, rfl⟩ := hv i v pv
    have hS' : SI prog w s'.heap S (met (ns.take i)) := hS.at' fun o e => mv.heap S o hSw e
    have room : (met (ns.take i)).length + 1 < scanBound := by have := met_len (ns.take i); rw [List.length_take] at this; omega
    show wpAny _ A.in1 (holding [Value.int (ns.getD i 0) u] (setAdd S (.int (ns.getD i 0) u)) >>= _) _ _ s'
    refine wpAny_bind (wpAny_holding ?_)
    unfold setAdd
    refine wpAny_holding (wpAny_bind ((intKind prog w).pyHash (k := ns.getD i 0) (is_int _ _) ?_))
    refine si_add (s := { s' with toks := s'.toks + 1 }) hS' room fun h' b sb hS2 => wpAny_pure ⟨plainId_quiet PyProof.Rows.F.plain_set_update_loop _, ?_⟩
    refine ih (i + 1) _ (by omega) lt (W.frame _ s' _ _ st' (Nat.le_succ _) fun b hb o e => sb.extBut _ _ (fun q => hSf (q ▸ hb)) e) (by rw [met_take (by omega)]; exact hS2) fun s'' mv2 hS3 => hR s'' ?_ hS3
    exact Moved.trans W.gtrans ((mv.mono up).then_heap (Nat.le_succ _) fun b o hb e => sb.extBut _ _ (fun q => hb (by rw [q]; exact List.mem_cons_self)) e) mv2
def Itr (prog : Program) (w : World) (l : Addr) (ol : Obj) (items : Array Value) : Prop := ∀ (A : Around) (s' : Shared) (Q : Value → Shared → Prop) (E : Value → Shared → Prop), s'.heap.get? l = some ol →
  (∀ I St h', (∀ A' : Around, A'.handled = none → Walks prog w A' I [I, l] [I] items.size (fun i v => items[i]? = some v) St) → St 0 h' → I = s'.heap.objs.size → (∀ b o, s'.heap.get? b = some o → h'.get? b = some o) → Q (.ref I) { s' with heap := h' }) →
  wpAny (model prog w) A (pyIter (.ref l)) Q E s'
theorem itr_list {l : Addr} {ol : Obj} {items : Array Value} {nl : Nat} (hc : ol.cls = .type "list") (hd : ol.data = .seq items nl) : Itr prog w l ol items := fun A s' Q E hl h => by
  have hL : s'.heap.IsList l items := ⟨ol, hl, hc, nl, hd⟩
  have hne : l ≠ s'.heap.objs.size := Nat.ne_of_lt (Heap.lt_size hl)
  exact wpAny_pyIter_list hL (h _ (fun i h => h.IsListIter s'.heap.objs.size l i ∧ h.IsList l items) _ (fun A' hA => Walks.list hA _ l hne items) ⟨⟨_, Heap.get?_push_size _ rfl, rfl, rfl⟩, hL.push _⟩ rfl fun b o e => Heap.get?_push_of_some _ e)
theorem itr_tuple {l : Addr} {ol : Obj} {items : Array Value} {nl : Nat} (hc : ol.cls = .type "tuple") (hd : ol.data = .seq items nl) : Itr prog w l ol items := fun A s' Q E hl h => by
  have hL : s'.heap.IsTuple l items := ⟨ol, hl, hc, nl, hd⟩
  have hne : l ≠ s'.heap.objs.size := Nat.ne_of_lt (Heap.lt_size hl)
  exact wpAny_pyIter_tuple hL (h _ (fun i h => h.IsTupleIter s'.heap.objs.size l i ∧ h.IsTuple l items) _ (fun A' hA => Walks.tuple hA _ l hne items) ⟨⟨_, Heap.get?_push_size _ rfl, rfl, rfl⟩, hL.push _⟩ rfl fun b o e => Heap.get?_push_of_some _ e)
theorem set_made (a : Value) {Q₁ : Value → Shared → Prop} (h : ∀ led : Bool, led = (!w.params.followText "set-order") → Q₁ (.ref s.heap.objs.size) { s with heap := s.heap.push { cls := .type "set", dict := none, data := .set #[] 0 (.fresh 0 0 led) } }) :
    codeAny (model prog w) A (.call (.builtin "set.__new__") ⟨[.type "set", a], []⟩) (wants Q₁ E) s := by
  refine codeAny_of_tree ?_
  show wpAny _ A.in1 (checkBuiltinCall "set.__new__" ⟨[.type "set", a], []⟩ >>= fun _ => again (.builtin "set.__new__" ⟨[.type "set", a], []⟩)) _ _ s
  refine wpAny_bind (wpAny_of_eq (PySem.F.newCall_set_1 a) (wpAny_pure ⟨plainId_quiet PySem.F.plain_set_new _, codeAny_builtin PySem.F.entry_set_new ?_⟩)); rw [Around.under_plainId PySem.F.plain_set_new _]
  unfold Builtin.«set.__new__» Builtin.Frozenset.newClass
  have hsub := sub_set_self
  obtain ⟨hp, g, d, tk, os⟩ := s
  dsimp only; wp_walk
  refine wpAny_askSetting (wpAny_pure ?_)
  dsimp only; simp only [newObj]
  exact wpAny_bind (wpAny_alloc (wpAny_pure (wpAny_pure (h _ rfl))))
end
end L3
namespace L3
open PySem
open Sem (wp)
section
variable {prog : Program} {w : World} {A : Around} {E : Value → Shared → Prop} {s : Shared}
theorem si_fresh {h : Heap} {a : Addr} {led : Bool} (e : led = (!w.params.followText "set-order")) (hg : h.get? a = some { cls := .type "set", dict := none, data := .set #[] 0 (.fresh 0 0 led) }) : SI prog w h a [] :=
  ⟨_, #[], 0, _, hg, ⟨rfl, rfl, rfl⟩, rfl, fun e he => by simp at he, by simp, by decide, by rfl, ⟨e, fun _ => ⟨List.Pairwise.nil, rfl⟩⟩⟩
theorem call_set_seq {T : String} {l : Addr} {ol : Obj} {items : Array Value} {ns : List Int} {Q : Value → Shared → Prop} (hh : A.handled = none) (hol : s.heap.get? l = some ol) (hcl : ol.cls = .type T) (hs1 : isSubtype (.type T) (.type "set") = pure false)
    (hs2 : isSubtype (.type T) (.type "frozenset") = pure false) (hnd : (Value.type T == Value.type "dict") = false) (hit : Itr prog w l ol items) (hn : ns.length = items.size) (hv : ∀ i v, items[i]? = some v → ∃ u, v = Value.int (ns.getD i 0) u) (hb : items.size + 1 < scanBound)
    (h : ∀ h' tk, SI prog w h' s.heap.objs.size (met ns) → (∀ b o, s.heap.get? b = some o → h'.get? b = some o) → Q (.ref s.heap.objs.size) { s with heap := h', toks := tk }) : wpAny (model prog w) A (call (.type "set") [.ref l]) Q E s := by
  obtain ⟨c, tl, hmro⟩ := PySem.F.called_set.mro
  have hmade := PySem.F.called_set.made
  have hsub := PySem.F.called_set.sub
  refine wpAny_call (codeAny_of_tree ?_); show wpAny _ _ (callAny (.type "set") _) _ _ _
  refine wpAny_pure ⟨Code.quiet_builtin _ (by decide +kernel), codeAny_builtin PySem.F.entry_type_call ?_⟩; rw [Around.under_plain (weight_type_call_type "set" [.ref l] []) rfl]
  have q1 := PySem.F.called_set.notType
  have q2 := PySem.F.called_set.canCreate
  have q3 := PySem.F.typeCall_set_1 (.ref l)
  repeat (any_goals (first | assumption | wp_step))
  refine codeAny_mono (set_made (.ref l) (E := E) (Q₁ := fun obj s₁ => ∃ led : Bool, led = (!w.params.followText "set-order") ∧ obj = .ref s.heap.objs.size ∧ s₁ = { s with heap := s.heap.push { cls := .type "set", dict := none, data := .set #[] 0 (.fresh 0 0 led) } }) fun led e => ⟨led, e, rfl, rfl⟩) fun r s₁ hr => ?_
  cases r with
  | error e => exact hr
  | ok fl =>
    cases fl with
    | ret obj =>
      obtain ⟨led, hled, rfl, rfl⟩ := hr
      generalize hg : s.heap.push { cls := .type "set", dict := none, data := .set #[] 0 (.fresh 0 0 led) } = h1
      have k1 : ∀ b o, s.heap.get? b = some o → h1.get? b = some o := fun b o e => by rw [← hg]; exact Heap.get?_push_of_some _ e
      have n1 : h1.get? s.heap.objs.size = some { cls := .type "set", dict := none, data := .set #[] 0 (.fresh 0 0 led) } := by rw [← hg]; exact Heap.get?_push_size _ rfl
      have z1 : h1.objs.size = s.heap.objs.size + 1 := by rw [← hg, Heap.size_push]
      clear hg
      have hT : Shared.TypeIs { s with heap := h1 } (.ref s.heap.objs.size) "set" := ⟨_, n1, rfl⟩
      have q4 := PySem.F.called_set.init.lookup
      have q5 := PySem.F.called_set.init.bind (.ref s.heap.objs.size)
      repeat (any_goals (first | assumption | wp_step))
      refine codeAny_mono (codeAny_call_builtin (R := wants (fun r s₂ => r = .none ∧ ∃ h' tk, s₂ = { s with heap := h', toks := tk } ∧ SI prog w h' s.heap.objs.size (met ns) ∧ ∀ b o, s.heap.get? b = some o → h'.get? b = some o) E)
        PySem.F.called_set.init.plain PySem.F.entry_set_init (check_set_init_1 hT ?_)) fun r₂ s₂ hr₂ => ?_
      · have hol' := k1 _ _ hol
        have hTl : Shared.TypeIs { s with heap := h1 } (.ref l) T := ⟨_, hol', hcl⟩
        unfold Builtin.«set.__init__» noKeywords Builtin.Frozenset.updateFrom
        generalize hPI : pyIter = PI
        wp_walk
        subst hPI
        refine hit _ _ _ _ hol' fun I St h2 W st eI k2 => ?_
        refine wpAny_bind (wpAny_runValue ?_)
        have lS : s.heap.objs.size < I := by rw [eI]; show _ < h1.objs.size; rw [z1]; exact Nat.lt_succ_self _
        have ll : l < s.heap.objs.size := Heap.lt_size hol
        have hSf : s.heap.objs.size ∉ [I, l] := by
          simp only [List.mem_cons, List.not_mem_nil, or_false, not_or]
          exact ⟨Nat.ne_of_lt lS, Nat.ne_of_gt ll⟩
        refine si_loop ((W _ (by simp [hh])).toS) s.heap.objs.size hSf ns hn hv hb items.size 0 _ (by omega) (Nat.zero_le _) st (si_fresh hled (k2 _ _ n1)) fun s' mv hS => ?_
        obtain ⟨h', g', d', tk', os'⟩ := s'
        have eg : g' = s.gens := mv.gens
        have ed : d' = s.drawn := mv.drawn
        have eo : os' = s.os := mv.os
        subst eg ed eo
        refine wpAny_pure (wpAny_pure ⟨rfl, h', tk', rfl, hS, fun b o e => ?_⟩)
        have lb : b < s.heap.objs.size := Heap.lt_size e
        refine mv.heap b o (fun z => ?_) (k2 _ _ (k1 _ _ e))
        simp only [List.mem_cons, List.not_mem_nil, or_false] at z
        rcases z with z | z
        · rw [z] at lb; exact Nat.lt_irrefl _ lb
        · rw [z] at lb; exact Nat.lt_irrefl _ (Nat.lt_trans lb lS)
      · cases r₂ with
        | error e => exact hr₂
        | ok fl₂ =>
          cases fl₂ with
          | ret r =>
            obtain ⟨rfl, h', tk, rfl, hS', hk'⟩ := hr₂
            repeat (any_goals (first | assumption | wp_step))
            exact h _ _ hS' hk'
          | _ => exact hr₂.elim
    | _ => exact hr.elim
end
end L3
namespace L3
open PySem PyProof.Rows
section
variable {prog : Program} {w : World} {A : Around} {E : Value → Shared → Prop} {s : Shared}
theorem num_nv {v : Value} (h : ∃ n u, v = Value.int n u) : numOf v = nv v := by obtain ⟨n, u, rfl⟩ := h; rfl
theorem sorted_set {S : Addr} {σ : List Int} {Q : Value → Shared → Prop} (hh : A.handled = none) (hS : SI prog w s.heap S σ) (h64 : σ.length < 64)
    (h : ∀ h' d tk p (out : List Value) (ns : List Int) (e : Nat), IntsAre out ns → ns.Perm σ → ns.Pairwise (· ≤ ·) → h'.get? p = some (seqObj "list" out.toArray e) → s.heap.objs.size ≤ p → (∀ b o, s.heap.get? b = some o → h'.get? b = some o) →
      Q (.ref p) { s with heap := h', drawn := d, toks := tk }) : wpAny (model prog w) A (call (.builtin "sorted") [.ref S]) Q E s := by
  refine Calls.call_function_entry kind_sorted plain_sorted entry_sorted (args_sorted1 _) ?_
  unfold Builtin.«sorted»
  refine wpAny_bind (m := checkCount "sorted" 1 1 _) (wpAny_pure ?_)
  refine wpAny_bind (si_collect (by simpa using hh) hS (by rw [sizeLine_eq]; omega) fun vs h1 d tk po nums k1 z1 => ?_)
  have hm : vs.map numOf = vs.map nv := List.map_congr_left fun v hv => num_nv (nums v hv)
  have hI : IntsAre vs (vs.map nv) := by rw [← hm]; exact intsAre_map vs nums
  have hl : vs.length < 64 := by rw [← List.length_map (f := nv), po.length_eq]; exact h64
  refine wpAny_bind (wpAny_newList ?_ (by rw [sizeLine_eq]; omega))
  have n1 : (h1.push { cls := .type "list", data := .seq vs.toArray }).get? h1.objs.size = some (seqObj "list" vs.toArray 0) := Heap.get?_push_size _ rfl
  refine wpAny_bind (wpAny_holding (wpAny_call_entry slot_list_sort ⟨_, n1, rfl⟩ entry_list_sort (list_sort_tree n1 hI hl fun out ns' a1 a2 a3 => ⟨_, rfl, wpAny_pure ⟨_, rfl, ?_⟩⟩) (args_list_sort _)))
  obtain ⟨e, he⟩ := sortedHeap_at (out := out) n1
  have old : ∀ b o, s.heap.get? b = some o → b < h1.objs.size ∧ b ≠ h1.objs.size := fun b o q => ⟨Heap.lt_size (k1 _ _ q), Nat.ne_of_lt (Heap.lt_size (k1 _ _ q))⟩
  have hz : s.heap.objs.size ≤ h1.objs.size := Nat.le_of_lt z1
  refine h _ d tk h1.objs.size out.toList ns' e a1 (a2.trans po) a3 (by simpa using he) hz fun b o q => ?_
  rw [sortedHeap_old (old b o q).2 (by rw [size_push']; exact Nat.lt_succ_of_lt (old b o q).1)]
  exact Heap.get?_push_of_some _ (k1 _ _ q)
end
end L3
namespace L3
def insI (k : Int) : List Int → List Int
  | [] => [k]
  | x :: xs => if k < x then k :: x :: xs else if k = x then x :: xs else x :: insI k xs
def sortI : List Int → List Int
  | [] => []
  | n :: ns => insI n (sortI ns)
abbrev Up (l : List Int) : Prop := l.Pairwise (fun a b => a < b)
theorem mem_insI {k a : Int} : ∀ {l : List Int}, a ∈ insI k l ↔ a = k ∨ a ∈ l
  | [] => by simp [insI]
  | x :: xs => by
    unfold insI
    split
    · simp
    · split
      · rename_i h; subst h; simp
      · rw [List.mem_cons, mem_insI (l := xs), List.mem_cons]
        constructor
        · rintro (h | h | h) <;> simp [h]
        · rintro (h | h | h) <;> simp [h]
theorem up_insI {k : Int} : ∀ {l : List Int}, Up l → Up (insI k l)
  | [], _ => by simp [insI]
  | x :: xs, h => by
    obtain ⟨h1, h2⟩ := List.pairwise_cons.mp h
    unfold insI
    split
    · rename_i hk
      refine List.pairwise_cons.mpr ⟨fun b hb => ?_, h⟩
      rcases List.mem_cons.mp hb with rfl | hb
      · exact hk
      · have := h1 b hb; omega
    · split
      · exact h
      · refine List.pairwise_cons.mpr ⟨fun b hb => ?_, up_insI h2⟩
        rcases mem_insI.mp hb with rfl | hb
        · omega
        · exact h1 b hb
theorem mem_sortI {a : Int} : ∀ {l : List Int}, a ∈ sortI l ↔ a ∈ l
  | [] => Iff.rfl
  | x :: xs => by rw [sortI, mem_insI, mem_sortI, List.mem_cons]
theorem up_sortI : ∀ (l : List Int), Up (sortI l)
  | [] => List.Pairwise.nil
  | x :: xs => up_insI (up_sortI xs)
theorem up_unique : ∀ {a b : List Int}, Up a → Up b → (∀ x, x ∈ a ↔ x ∈ b) → a = b
  | [], [], _, _, _ => rfl
  | [], y :: ys, _, _, h => absurd ((h y).mpr List.mem_cons_self) (by simp)
  | x :: xs, [], _, _, h => absurd ((h x).mp List.mem_cons_self) (by simp)
  | x :: xs, y :: ys, ha, hb, h => by
    obtain ⟨a1, a2⟩ := List.pairwise_cons.mp ha
    obtain ⟨b1, b2⟩ := List.pairwise_cons.mp hb
    have e : x = y := by
      rcases List.mem_cons.mp ((h x).mp List.mem_cons_self) with p | p
      · exact p
      · rcases List.mem_cons.mp ((h y).mpr List.mem_cons_self) with q | q
        · exact q.symm
        · have := b1 x p; have := a1 y q; omega
    subst e
    refine congrArg _ (up_unique a2 b2 fun z => ?_)
    constructor
    · intro hz
      rcases List.mem_cons.mp ((h z).mp (List.mem_cons_of_mem _ hz)) with p | p
      · have := a1 z hz; omega
      · exact p
    · intro hz
      rcases List.mem_cons.mp ((h z).mpr (List.mem_cons_of_mem _ hz)) with p | p
      · have := b1 z hz; omega
      · exact p
theorem up_of {l : List Int} (h : l.Pairwise (fun a b => a ≤ b)) (n : l.Nodup) : Up l := by
  induction l with
  | nil => exact List.Pairwise.nil
  | cons x xs ih =>
    obtain ⟨h1, h2⟩ := List.pairwise_cons.mp h
    obtain ⟨n1, n2⟩ := List.nodup_cons.mp n
    refine List.pairwise_cons.mpr ⟨fun b hb => ?_, ih h2 n2⟩
    have := h1 b hb
    rcases Int.lt_or_eq_of_le this with q | q
    · exact q
    · subst q; exact absurd hb n1
end L3
namespace L3
open PySem PySem.Spec PyProof.Rows L2
section
variable {X : Cx} {xw : XW} {elts : List Expr} {kt : Nat} {pt p pos : Pos} {a b : Expr} {fs : DSt → Res (List D)}
end
end L3
namespace L3
open PySem PySem.Spec PyProof.Rows L2 SeqAt
theorem mem_ddp {σ : List Int} {k a : Int} : a ∈ ddp σ k ↔ a ∈ σ ∨ a = k := by
  unfold ddp
  split
  · rename_i h
    exact ⟨.inl, fun q => q.elim id fun e => e ▸ h⟩
  · simp
theorem nodup_ddp {σ : List Int} {k : Int} (h : σ.Nodup) : (ddp σ k).Nodup := by
  unfold ddp
  split
  · exact h
  · rename_i hk
    rw [List.nodup_append]
    exact ⟨h, by simp, fun a ha b hb => by simp at hb; subst hb; exact fun e => hk (e ▸ ha)⟩
theorem fold_ddp : ∀ (ns σ : List Int), σ.Nodup → (ns.foldl ddp σ).Nodup ∧ ∀ a, a ∈ ns.foldl ddp σ ↔ a ∈ σ ∨ a ∈ ns
  | [], σ, h => ⟨h, fun a => by simp⟩
  | n :: ns, σ, h => by
    obtain ⟨h1, h2⟩ := fold_ddp ns (ddp σ n) (nodup_ddp h)
    refine ⟨h1, fun a => ?_⟩
    rw [List.foldl_cons, h2, mem_ddp, List.mem_cons, or_assoc]
theorem sorted_met {ns out : List Int} (hp : out.Perm (met ns)) (hs : out.Pairwise (fun a b => a ≤ b)) : out = sortI ns := by
  obtain ⟨h1, h2⟩ := fold_ddp ns [] List.nodup_nil
  refine up_unique (up_of hs (hp.nodup_iff.mpr h1)) (up_sortI ns) fun x => ?_
  rw [hp.mem_iff, mem_sortI]
  exact (h2 x).trans (by simp)
theorem vals_ints : ∀ {us : List Value} {ns : List Int}, IntsAre us ns → Vals (ns.map V.int) us
  | _, _, .nil => .nil
  | _, _, .cons n t r => .cons ⟨t, rfl⟩ (vals_ints r)
theorem ints_at {us : List Value} {ns : List Int} (h : IntsAre us ns) : ns.length = us.length ∧ ∀ i v, us[i]? = some v → ∃ t, v = Value.int (ns.getD i 0) t :=
  ⟨h.length.symm, fun i v e => h.int_at i v e⟩
section
variable {X : Cx} {xw : XW} {pos p pos2 p2 : Pos} {a : Expr} {fa : DSt → Res D} {pins : List (Addr × Obj)} {σ : L2.St} {H : Hp} {s : Shared}
theorem inv_redrawn {d : Drawn} {t : Nat} (I : Inv X pins σ H s) : Inv X pins σ H { s with drawn := d, toks := t } :=
  I.step (g' := s.gens) (d' := d) (t' := t) (h' := s.heap) (ch := []) (fun _ z => nomatch z) (fun _ _ _ _ _ e _ => e) (fun b o _ _ _ e _ => ⟨o.slots, e⟩) (fun _ _ _ _ n => n) (fun b o _ e => ⟨o, e⟩) (fun _ _ e => e) (fun _ _ _ e => e) (fun b ps e => ⟨#[], by rw [e]; simp⟩) (fun _ h => h) I.hok I.bare
def tSS (K : PySem.W.Frag) (ta : TE) : TE := fun σ H Q => ta σ H fun v H1 => ∃ t l ns, v = .ref l ∧ SqK t K H1 l (ns.map V.int) ∧ ns.length < 64 ∧ ∀ p, H1 p = none → Q (.ref p) (upd H1 p (.lst ((sortI ns).map V.int)))
theorem sortI_len (ns : List Int) : (sortI ns).length ≤ ns.length := by
  induction ns with
  | nil => exact Nat.le_refl _
  | cons n ns ih =>
    have : ∀ (k : Int) (l : List Int), (insI k l).length ≤ l.length + 1 := fun k l => by
      induction l with
      | nil => exact Nat.le_refl _
      | cons x xs ih => unfold insI; split; · simp
                        split <;> simp; exact ih
    have := this n (sortI ns)
    rw [sortI, List.length_cons]; omega
theorem pe_sortset {ta : TE} (hc : X.calm = true) (hg1 : Gl X "sorted") (hm1 : X.mg "sorted" = none) (hg2 : Gl X "set") (hm2 : X.mg "set" = none) (ha : PE X a ta)
    (h1 : starEach [.Call (.Name "set" p2) [a] [] pos2] X.env = (false, eval (.Call (.Name "set" p2) [a] [] pos2) X.env) :: starEach [] X.env) (h2 : starEach [a] X.env = (false, eval a X.env) :: starEach [] X.env)
    (h3 : (backTo pos (starEach [] X.env)).any (·.1) = false) (h4 : (backTo pos2 (starEach [] X.env)).any (·.1) = false) : PE X (.Call (.Name "sorted" p) [.Call (.Name "set" p2) [a] [] pos2] [] pos) (tSS X.K ta) := by
  intro pins s σ H Q I h
  refine wpAny_Call_Name_kw (ld_blt I hg1 hm1 (show bootBuiltins "sorted" = some (.builtin "sorted") by decide +kernel) ?_)
  refine PyProof.Rows.callWith_builtin1 ?_ h1 h3
  rw [h1]
  show wpAny _ _ (spliced ((false, eval (.Call (.Name "set" p2) [a] [] pos2) X.env) :: backTo pos (starEach [] X.env))) _ _ s
  refine Calls.spliced_cons ?_
  refine wpAny_Call_Name_kw (ld_blt I hg2 hm2 (show bootBuiltins "set" = some (.type "set") by decide +kernel) ?_)
  refine PyProof.Rows.callWith_type1 ?_ h2 h4
  rw [h2]
  show wpAny _ _ (spliced ((false, eval a X.env) :: backTo pos2 (starEach [] X.env))) _ _ s
  refine Calls.spliced_cons (thn (ha pins s σ H _ I h) fun u s1 ⟨x, H1, I1, r1, q1⟩ => ?_)
  refine Calls.spliced_nil ?_
  obtain ⟨t, l, ns, rfl, sq, hl, q⟩ := q1
  cases (show u = Value.ref l from r1)
  obtain ⟨its, rv, ps, _⟩ := inv_sq I1 sq
  obtain ⟨el, hat⟩ := ints_at (ints_are rv)
  have fin : ∀ h' tk, SI X.prog X.w h' s1.heap.objs.size (met ns) → (∀ b o, s1.heap.get? b = some o → h'.get? b = some o) →
      wpAny (model X.prog X.w) X.A (spliced (backTo pos (starEach [] X.env))) (fun vs s' => wpAny (model X.prog X.w) X.A (call (.builtin "sorted") (Value.ref s1.heap.objs.size :: vs)) (EP X pins σ Q) X.xe s') X.xe { s1 with heap := h', toks := tk } := fun h' tk hS k => by
    refine Calls.spliced_nil ?_
    have hm := met_len ns
    refine sorted_set (s := { s1 with heap := h', toks := tk }) (I1.ok.hd hc) hS (by omega) fun h2 d tk2 p out os e a1 a2 a3 ho hz k2 => ?_
    have eo := sorted_met a2 a3
    subst eo
    have hsl := sortI_len ns
    have lz : s1.heap.objs.size < h'.objs.size := let ⟨_, _, _, _, ho, _⟩ := hS; Heap.lt_size ho
    have hp : s1.heap.objs.size ≤ p := Nat.le_trans (Nat.le_of_lt lz) hz
    refine ⟨.ref p, upd H1 p (.lst ((sortI ns).map V.int)), ?_, rfl, q p (I1.hok.fresh hp)⟩
    exact inv_redrawn (d := d) (t := tk2) (I1.laid (o := .lst ((sortI ns).map V.int)) (h' := h2) (t' := tk2) (fun b o e => k2 _ _ (k _ _ e)) hp ⟨by rw [List.length_map, sizeLine_eq]; omega, out, e, vals_ints a1, ho⟩)
  have hb : its.toArray.size + 1 < scanBound := by rw [List.size_toArray, ← el]; unfold scanBound; omega
  cases t with
  | true =>
    obtain ⟨ol, hol, hcl, nl, hd⟩ := ps
    exact call_set_seq (I1.ok.hd hc) hol hcl (by rw [isSubtype_type]; kernel_rfl) (by rw [isSubtype_type]; kernel_rfl) (by decide) (itr_tuple hcl hd) (by rw [List.size_toArray]; exact el) (fun i v e => hat i v (by simpa using e)) hb fin
  | false =>
    obtain ⟨ol, hol, hcl, nl, hd⟩ := ps
    exact call_set_seq (I1.ok.hd hc) hol hcl (by rw [isSubtype_type]; kernel_rfl) (by rw [isSubtype_type]; kernel_rfl) (by decide) (itr_list hcl hd) (by rw [List.size_toArray]; exact el) (fun i v e => hat i v (by simpa using e)) hb fin
noncomputable def sortR : D → Res (List D)
  | .tup ds => match intsOf ds with
    | some ns => @ite _ (ns.length < 64) (Classical.propDecidable _) (.ok ((sortI ns).map D.int)) .stuck
    | none => .stuck
  | .lst ds => match intsOf ds with
    | some ns => @ite _ (ns.length < 64) (Classical.propDecidable _) (.ok ((sortI ns).map D.int)) .stuck
    | none => .stuck
  | _ => .stuck
theorem f_sortset (hc : X.calm = true) (hm1 : X.mg "sorted" = none) (hm2 : X.mg "set" = none) (ha : XP X xw a fa) (hg1 : Gl X "sorted" := by rfl) (hg2 : Gl X "set" := by rfl)
    (h1 : starEach [.Call (.Name "set" p2) [a] [] pos2] X.env = (false, eval (.Call (.Name "set" p2) [a] [] pos2) X.env) :: starEach [] X.env := by rfl) (h2 : starEach [a] X.env = (false, eval a X.env) :: starEach [] X.env := by rfl)
    (h3 : (backTo pos (starEach [] X.env)).any (·.1) = false := by rfl) (h4 : (backTo pos2 (starEach [] X.env)).any (·.1) = false := by rfl) :
    XF X xw (.Call (.Name "sorted" p) [.Call (.Name "set" p2) [a] [] pos2] [] pos) (b1 sortR fa) :=
  ⟨PE.weak (pe_sortset hc hg1 hm1 hg2 hm2 ha.h h1 h2 h3 h4) fun σ H Q ⟨W₀, H₀, W, δ, st, q⟩ => one_readF st q fun H2 d v k w st2 hv _ q2 => by
    unfold sortR at q2
    split at q2
    · split at q2
      · rename_i ns hn
        split at q2
        · rename_i hl
          obtain ⟨p, xs, e, sq, r⟩ := hv.tup
          have := intsOf_has hn r
          subst this
          exact ⟨true, p, ns, e, sq, hl, fun l hl' => q2 l _ H2 (Same.refl _) hl' HasL.ints⟩
        · exact q2.elim
      · exact q2.elim
    · split at q2
      · rename_i ns hn
        split at q2
        · rename_i hl
          obtain ⟨p, xs, e, sq, r⟩ := hv.lst
          have := intsOf_has hn r
          subst this
          exact ⟨false, p, ns, e, sq, hl, fun l hl' => q2 l _ H2 (Same.refl _) hl' HasL.ints⟩
        · exact q2.elim
      · exact q2.elim
    · exact q2.elim⟩
end
end L3
namespace HT
open PySem PyProof.Rows
section
variable {prog : Program} {w : World} {A : Around} {E : Value → Shared → Prop} {s : Shared}
end
end HT
namespace L3
open PySem PySem.Spec PyProof.Rows L2 SeqAt
section
variable {X : Cx} {xw : XW} {a : Expr} {lo hi : Option Expr} {fa : DSt → Res D} {fl fh : DSt → Res (Option Int)} {pos p2 : Pos}
def slW (d : D) (lo hi : Option Int) : Res D := match d with
  | .tup ds => .ok (.tup (cutD ds lo hi))
  | .lst ds => .ok (.lst (cutD ds lo hi))
  | _ => .stuck
end
theorem slW_l (ds : List D) (lo hi : Option Int) : slW (.lst ds) lo hi = .ok (.lst (cutD ds lo hi)) := rfl
end L3
namespace HT
open PySem PyProof.Rows
section
variable {prog : Program} {w : World} {A : Around} {E : Value → Shared → Prop} {s : Shared}
end
end HT
namespace L3
open PySem PySem.Spec PyProof.Rows L2 SeqAt
section
variable {X : Cx} {xw : XW} {a st : Expr} {fa : DSt → Res D} {pos p2 : Pos}
end
end L3
namespace L3
open PySem PySem.Spec PyProof.Rows L2
section
variable {K : PySem.W.Frag} {xw : XW} {W₀ W W1 : WS} {H₀ H H1 : Hp} {Dn : Ends}
def RSO (K : PySem.W.Frag) (xw : XW) (W₀ : WS) (H₀ : Hp) (W : WS) (H : Hp) (o : Out) (Dn : Ends) : Prop := match o with
  | .rt (.lst ds) => ∀ a xs H', Same H₀ H' → H₀ a = none → H' a = some (.lst xs) → HasL K (fun b => W₀ b ∨ b = a) H' ds xs → Dn.rt (.ref a) H'
  | o => RS K xw W₀ H₀ W H o Dn
theorem RSO.step {o : Out} (h : RSO K xw W₀ H₀ W H o Dn) (k : Step W H W1 H1) : RSO K xw W₀ H₀ W1 H1 o Dn := by
  cases o with
  | rt d => cases d <;> exact h
  | nx δ => exact RS.step (xw := xw) (o := .nx δ) h k
  | bk δ => exact RS.step (xw := xw) (o := .bk δ) h k
  | ct δ => exact RS.step (xw := xw) (o := .ct δ) h k
  | ex c fs => exact h
  | stuck => exact h
def tDSO (K : PySem.W.Frag) (xw : XW) (g : DSt → Out) : TS := fun Dn σ H => ∃ W₀ H₀ W δ, StHas K W₀ H₀ W H σ δ ∧ RSO K xw W₀ H₀ W H (g δ) Dn
end
structure NoL (g : DSt → Out) : Prop where
  h : ∀ δ ds, g δ ≠ .rt (.lst ds)
theorem NoL.seq {a b : DSt → Out} (ha : NoL a) (hb : NoL b) : NoL (sSeq a b) := ⟨fun δ ds => by
  show seqO (a δ) b ≠ _
  cases h : a δ with
  | nx δ' => exact hb.h δ' ds
  | rt d => intro e; exact ha.h δ ds (by rw [h]; exact e)
  | bk δ' => intro e; cases e
  | ct δ' => intro e; cases e
  | ex c fs => intro e; cases e
  | stuck => intro e; cases e⟩
theorem ofR_no {α : Type} {r : Res α} {k : α → Out} {ds : List D} (h : ∀ a, k a ≠ .rt (.lst ds)) : ofR r k ≠ .rt (.lst ds) := by
  cases r with
  | ok a => exact h a
  | ex c fs => intro e; cases e
  | stuck => intro e; cases e
theorem NoL.nx : NoL Out.nx := ⟨fun δ ds e => by cases e⟩
theorem NoL.own {i : Nat} {f : DSt → Res (List D)} : NoL (sOwn i f) := ⟨fun δ ds => ofR_no fun k e => by cases e⟩
theorem NoL.set {i : Nat} {f : DSt → Res D} : NoL (sSet i f) := ⟨fun δ ds => ofR_no fun k e => by cases e⟩
section
variable {X : Cx} {xw : XW} {st : Stmt} {sts : List Stmt} {g1 g2 : DSt → Out} {pos p : Pos} {a : Expr} {es : List Expr}
structure XSO (X : Cx) (xw : XW) (sts : List Stmt) (g : DSt → Out) : Prop where
  h : PSs X sts (tDSO X.K xw g)
def spO (K : PySem.W.Frag) (n : Nat) (m : List D → Res D) : Sp := fun vs H Q _ => vs.length = n ∧ ∃ W ds, WL W H ∧ HasL K W H ds vs ∧ match m ds with
  | .ok (.lst fs) => ∀ a xs H', Same H H' → H a = none → H' a = some (.lst xs) → HasL K (fun b => W b ∨ b = a) H' fs xs → Q (.ref a) H'
  | .ok d => ∀ v H', Same H H' → Has K W H' d v → Q v H'
  | _ => False
structure FnO (P : Program) (w : World) (K : PySem.W.Frag) (mg : Str → Option Value) (base : Heap) (k : Nat) (x : Str) (n : Nat) (m : List D → Res D) : Prop where
  ex : ∃ f fd ps, FnOk P w K mg base CX0 k f fd ps (spO K n m) ∧ mg x = some (.ref f) ∧ PySem.W.keepIn K (.ref f) = true ∧ Binds K fd ps []
theorem FnO.mono {P : Program} {w : World} {K : PySem.W.Frag} {mg : Str → Option Value} {base : Heap} {j k n : Nat} {x : Str} {m : List D → Res D} (F : FnO P w K mg base j x n m) (h : j ≤ k) : FnO P w K mg base k x n m := by
  obtain ⟨f, fd, ps, a, b⟩ := F.ex
  exact ⟨f, fd, ps, a.mono h, b⟩
theorem FnO.fn {P : Program} {w : World} {K : PySem.W.Frag} {mg : Str → Option Value} {base : Heap} {k n : Nat} {x : Str} {m : List D → Res D} (F : FnO P w K mg base k x n m) : Fn P w K mg base k x n m := by
  obtain ⟨f, fd, ps, a, b⟩ := F.ex
  refine ⟨f, fd, ps, a.imp fun vs H Q E ⟨hl, W, ds, hw, hd, q⟩ => ⟨hl, W, ds, hw, hd, ?_⟩, b⟩
  cases h : m ds with
  | ex c fs => rw [h] at q; exact q
  | stuck => rw [h] at q; exact q
  | ok d =>
    rw [h] at q
    cases d with
    | lst fs =>
      intro a xs H' k hn ha hx
      refine q (.ref a) H' k ?_
      rw [Has]
      refine ⟨a, xs, rfl, .inl ⟨ha, fun z => ?_⟩, HasL.keep (fun _ _ e _ => e) (fun b z => z.elim (hw.same k b) fun z => by rw [z]; exact ⟨_, ha, trivial⟩) (fun b z => .inl (.inl z)) hx⟩
      obtain ⟨ys, e, _⟩ := hw a z
      rw [hn] at e; cases e
    | _ => exact q
def ownO (i : Nat) (δ : DSt) : D → Out
  | .lst ds => .nx (δ.set i (some (.o ds)))
  | d => .nx (δ.set i (some (.d d)))
def sOwnR (i : Nat) (f : DSt → Res D) : DSt → Out := fun δ => ofR (f δ) (ownO i δ)
def HasTL (K : PySem.W.Frag) (W : WS) (H : Hp) : List D → List V → Prop
  | [], xs => xs = []
  | d :: ds, xs => ∃ x r, xs = x :: r ∧ HasT K W H d x ∧ HasTL K W H ds r
def RAP (K : PySem.W.Frag) (xw : XW) (W : WS) (H : Hp) (r : Res (List D)) (Q : List V → Hp → Prop) : Prop := match r with
  | .ok ds => ∀ vs H', Same H H' → HasTL K W H' ds vs → Q vs H'
  | .ex c fs => ∀ H', Same H H' → xw c fs H'
  | .stuck => False
structure XAP (X : Cx) (xw : XW) (es : List Expr) (f : DSt → Res (List D)) : Prop where
  h : PA X es fun σ H Q => ∃ W₀ H₀ W δ, StHas X.K W₀ H₀ W H σ δ ∧ RAP X.K xw W H (f δ) Q
end
end L3
namespace L3
open PySem PySem.Spec PyProof.Rows L2 SeqAt
section
variable {α β : Type}
def tGet (l : List (Key × α)) (k : Key) : Option α := (l.find? fun p => decide (p.1 = k)).map (·.2)
def tHas (l : List (Key × α)) (k : Key) : Bool := l.any fun p => decide (p.1 = k)
def tPut (l : List (Key × α)) (k : Key) (y : α) : List (Key × α) := if tHas l k = true then l.map (fun p => if p.1 = k then (p.1, y) else p) else l ++ [(k, y)]
theorem tGet_pos {p : Key × α} {r : List (Key × α)} {k : Key} (e : p.1 = k) : tGet (p :: r) k = some p.2 := by simp [tGet, List.find?_cons, e]
theorem tGet_neg {p : Key × α} {r : List (Key × α)} {k : Key} (e : ¬ p.1 = k) : tGet (p :: r) k = tGet r k := by simp [tGet, List.find?_cons, e]
end
section
variable {K : PySem.W.Frag} {W : WS} {H : Hp}
def HasP (K : PySem.W.Frag) (W : WS) (H : Hp) (l : List (Key × D)) (kvs : List (Key × V)) : Prop := kvs.map (·.1) = l.map (·.1) ∧ HasL K W H (l.map (·.2)) (kvs.map (·.2))
theorem HasP.nil : HasP K W H [] [] := ⟨rfl, HasL.nil⟩
theorem HasP.cons {p : Key × D} {l : List (Key × D)} {kvs : List (Key × V)} (h : HasP K W H (p :: l) kvs) : ∃ v r, kvs = (p.1, v) :: r ∧ Has K W H p.2 v ∧ HasP K W H l r := by
  obtain ⟨h1, h2⟩ := h
  cases kvs with
  | nil => cases h1
  | cons q r =>
    rw [List.map_cons, List.map_cons] at h1 h2
    rw [HasL] at h2
    obtain ⟨x, t, e, g1, g2⟩ := h2
    cases e
    have h3 := List.cons.inj h1
    exact ⟨q.2, r, by rw [← h3.1], g1, h3.2, g2⟩
theorem HasP.mk {k : Key} {d : D} {v : V} {l : List (Key × D)} {kvs : List (Key × V)} (h : Has K W H d v) (t : HasP K W H l kvs) : HasP K W H ((k, d) :: l) ((k, v) :: kvs) := ⟨by rw [List.map_cons, List.map_cons, t.1], by rw [List.map_cons, List.map_cons]; exact HasL.cons h t.2⟩
theorem HasP.len {l : List (Key × D)} {kvs : List (Key × V)} (h : HasP K W H l kvs) : l.length = kvs.length := by
  have := congrArg List.length h.1
  simpa using this.symm
theorem HasP.of {ks : List Key} {ds : List D} {kvs : List (Key × V)} (h1 : kvs.map (·.1) = ks) (h2 : HasL K W H ds (kvs.map (·.2))) : HasP K W H (ks.zip ds) kvs ∧ (ks.zip ds).map (·.1) = ks ∧ (ks.zip ds).map (·.2) = ds := by
  have hl : ks.length = ds.length := by rw [← h1, h2.length, List.length_map, List.length_map]
  have e1 : (ks.zip ds).map (·.1) = ks := by rw [← List.unzip_fst, List.unzip_zip hl]
  have e2 : (ks.zip ds).map (·.2) = ds := by rw [← List.unzip_snd, List.unzip_zip hl]
  exact ⟨⟨by rw [e1, h1], by rw [e2]; exact h2⟩, e1, e2⟩
theorem HasP.keep {W' : WS} {H' : Hp} {l : List (Key × D)} {kvs : List (Key × V)} (k : Keep W H H') (w : WL W H) (hw : ∀ b, W' b → W b ∨ H b = none) (h : HasP K W H l kvs) : HasP K W' H' l kvs := ⟨h.1, HasL.keep k w hw h.2⟩
theorem HasP.same {H' : Hp} {l : List (Key × D)} {kvs : List (Key × V)} (h : HasP K W H l kvs) (k : Same H H') (w : WL W H) : HasP K W H' l kvs := ⟨h.1, h.2.same k w⟩
theorem HasP.get : ∀ {l : List (Key × D)} {kvs : List (Key × V)}, HasP K W H l kvs → ∀ (k : Key), (∀ d, tGet l k = some d → ∃ v, tGet kvs k = some v ∧ Has K W H d v) ∧ (tGet l k = none → tGet kvs k = none)
  | [], kvs, h, k => by
    obtain ⟨h1, _⟩ := h
    cases kvs with
    | nil => exact ⟨(fun d e => by cases e), fun _ => rfl⟩
    | cons _ _ => cases h1
  | p :: l, kvs, h, k => by
    obtain ⟨v, r, rfl, h1, h2⟩ := h.cons
    by_cases e : p.1 = k
    · rw [tGet_pos e, tGet_pos (p := (p.1, v)) e]
      exact ⟨fun d z => by cases z; exact ⟨v, rfl, h1⟩, fun z => by cases z⟩
    · rw [tGet_neg e, tGet_neg (p := (p.1, v)) e]; exact h2.get k
theorem HasP.has {l : List (Key × D)} {kvs : List (Key × V)} (h : HasP K W H l kvs) (k : Key) : tHas kvs k = tHas l k := by
  have := h.1
  unfold tHas
  rw [show (kvs.any fun p => decide (p.1 = k)) = (kvs.map (·.1)).any (fun z => decide (z = k)) by rw [List.any_map]; rfl, this, List.any_map]; rfl
theorem HasP.put {l : List (Key × D)} {kvs : List (Key × V)} {d : D} {v : V} (h : HasP K W H l kvs) (k : Key) (hd : Has K W H d v) : HasP K W H (tPut l k d) (tPut kvs k v) := by
  unfold tPut
  rw [h.has k]
  split
  · rename_i hh; clear hh
    induction l generalizing kvs with
    | nil =>
      obtain ⟨h1, _⟩ := h
      cases kvs with
      | nil => exact HasP.nil
      | cons _ _ => cases h1
    | cons p l ih =>
      obtain ⟨u, r, rfl, h1, h2⟩ := h.cons
      rw [List.map_cons, List.map_cons]
      by_cases e : p.1 = k
      · rw [if_pos e, if_pos e]; exact HasP.mk hd (ih h2)
      · rw [if_neg e, if_neg e]; exact HasP.mk h1 (ih h2)
  · rename_i hh; clear hh
    induction l generalizing kvs with
    | nil =>
      obtain ⟨h1, _⟩ := h
      cases kvs with
      | nil => exact HasP.mk hd HasP.nil
      | cons _ _ => cases h1
    | cons p l ih =>
      obtain ⟨u, r, rfl, h1, h2⟩ := h.cons
      exact HasP.mk h1 (ih h2)
end
section
variable {X : Cx} {xw : XW} {a b e ie : Expr} {pos p p1 p2 : Pos} {fa fb f fi : DSt → Res D}
theorem Rd.same {H H' : Hp} {a : Addr} {u : HO} (h : Rd H a u) (k : Same H H') : Rd H' a u := h.imp (k _ _) fun ⟨o, e⟩ => ⟨o, k _ _ e⟩
def RQ (K : PySem.W.Frag) (xw : XW) (W : WS) (H : Hp) (r : Res (List (Key × D))) (Q : VK) : Prop := match r with
  | .ok l => ∀ a kvs H', Same H H' → Rd H' a (.dK kvs) → HasP K W H' l kvs → Q (.ref a) H'
  | .ex c fs => ∀ H', Same H H' → xw c fs H'
  | .stuck => False
def tDQ (K : PySem.W.Frag) (xw : XW) (f : DSt → Res (List (Key × D))) : TE := fun σ H Q => ∃ W₀ H₀ W δ, StHas K W₀ H₀ W H σ δ ∧ RQ K xw W H (f δ) Q
structure XQ (X : Cx) (xw : XW) (e : Expr) (f : DSt → Res (List (Key × D))) : Prop where
  h : PE X e (tDQ X.K xw f)
theorem HasT.dct {K : PySem.W.Frag} {W : WS} {H : Hp} {ks : List Key} {ds : List D} {v : V} (h : HasT K W H (.dct ks ds) v) : Has K W H (.dct ks ds) v := by
  rcases h with h | ⟨_, _, _, h1, _⟩
  · exact h
  · cases h1
def b1Q {α : Type} (op : D → Res α) (f : DSt → Res D) : DSt → Res α := fun δ => (f δ).bind op
def b2Q {α : Type} (op : List (Key × D) → D → Res α) (f : DSt → Res (List (Key × D))) (g : DSt → Res D) : DSt → Res α := fun δ => (f δ).bind fun l => (g δ).bind fun d => op l d
def sOwnQ (i : Nat) : DSt → Out := fun δ => .nx (δ.set i (some (.q [] [])))
def putJ (i : Nat) (δ : DSt) (l : List (Key × D)) (d ix : D) : Out := match keyD ix with
  | some k => if l.length ≤ 1000 then .nx (δ.set i (some (.q ((tPut l k d).map (·.1)) ((tPut l k d).map (·.2))))) else .stuck
  | none => .stuck
def putO (i : Nat) (fi : DSt → Res D) (δ : DSt) (d : D) : Out := match δ[i]? with
  | some (some (.q ks ds)) => ofR (fi δ) (putJ i δ (ks.zip ds) d)
  | _ => .stuck
def sPutI (i : Nat) (fi f : DSt → Res D) : DSt → Out := fun δ => ofR (f δ) (putO i fi δ)
end
end L3
namespace L3
open PySem PySem.Spec PyProof.Rows L2 SeqAt
section
variable {X : Cx} {xw : XW} {e b tg : Expr} {f : DSt → Res D} {pos apos : Pos}
variable {elts : List Expr} {kt : Nat} {pt : Pos}
end
end L3
namespace L3
open PySem PySem.Spec PyProof.Rows L2 SeqAt
section
variable {X : Cx} {xw : XW} {pos p pos2 apos : Pos} {a e : Expr} {fa f : DSt → Res D}
end
end L3
namespace L3
open PySem PySem.Spec PyProof.Rows L2 SeqAt
def IsRv (h : Heap) (a l : Addr) (i : Int) : Prop := ∃ o, h.get? a = some o ∧ o.cls = .type "reversed" ∧ o.data = .fields #[.ref l, rawInt i]
theorem IsRv.typeIs {s : Shared} {a l : Addr} {i : Int} (x : IsRv s.heap a l i) : s.TypeIs (.ref a) "reversed" := let ⟨o, ho, hc, _⟩ := x; ⟨o, ho, hc⟩
theorem IsRv.at {h h' : Heap} {a l : Addr} {i : Int} (x : IsRv h a l i) (e : ∀ o, h.get? a = some o → h'.get? a = some o) : IsRv h' a l i := let ⟨o, ho, r⟩ := x; ⟨o, e _ ho, r⟩
section
variable {prog : Program} {w : World} {A : Around} {E : Value → Shared → Prop} {s : Shared}
end
section
variable {X : Cx} {xw : XW} {tg a : Expr} {p pos : Pos} {fs : DSt → Res (List D)}
end
end L3
namespace L3
open PySem PySem.Spec PyProof.Rows L2 SeqAt
section
variable {prog : Program} {w : World} {KK : Type} [DecidableEq KK] {knd : KeyKind prog w KK} {A : Around} {R : Result → Shared → Prop} {I : Addr} {fp wr : List Addr} {G : Array GenState → Array GenState → Prop} {n : Nat} {P : Nat → Value → Prop} {St : Nat → Shared → Prop} {E : Value → Shared → Prop} {s : Shared}
end
section
variable {X : Cx} {xw : XW} {pos p : Pos} {a : Expr} {fa : DSt → Res D}
def PairsAt (K : PySem.W.Frag) (H : Hp) : List V → List (Key × V) → Prop
  | [], kvs => kvs = []
  | x :: xs, kvs => ∃ t k v r, x = .ref t ∧ kvs = (k, v) :: r ∧ SqT K H t [kV k, v] ∧ PairsAt K H xs r
theorem PairsAt.len {K : PySem.W.Frag} {H : Hp} : ∀ {xs : List V} {kvs : List (Key × V)}, PairsAt K H xs kvs → xs.length = kvs.length
  | [], _, h => by rw [show _ = [] from h]; rfl
  | x :: xs, _, h => by
    obtain ⟨t, k, v, r, _, rfl, _, h⟩ := h
    rw [List.length_cons, List.length_cons, h.len]
end
end L3
namespace L3
open PySem PySem.Spec PyProof.Rows L2 SeqAt
section
variable {X : Cx} {xw : XW} {a b e : Expr} {pos : Pos} {fa f : DSt → Res D} {fq : DSt → Res (List (Key × D))}
end
end L3
namespace L3
open PySem PySem.Spec PyProof.Rows L2 SeqAt
structure FunD (K : PySem.W.Frag) (x qual : Str) (st : Stmt) (f : Addr) (fd : FuncData) (dV : Value) : Prop where
  ex : ∃ (oc : Value) (od : Option Addr) (kV doc pm : Value) (an : Option Addr) (cdv ct : Value) (osl : Array (Option Value)),
    fd = PySem.W.fnOf x qual (defArgs st) (defBody st) (defScope st) dV kV doc pm an cdv ct ∧ K.lookup f = some ⟨oc, od, .func fd, osl⟩ ∧ PySem.W.codeIn K cdv qual = true
  kp : PySem.W.keepIn K (.ref f) = true
section
variable {P : Program} {w : World} {K : PySem.W.Frag} {mg : Str → Option Value} {base : Heap}
theorem FunD.ok {x qual : Str} {st : Stmt} {f : Addr} {fd : FuncData} {dV : Value} {N ps : List Str} {k : Nat} {sp : Sp} (F : FunD K x qual st f fd dV) (S : FnScope N ps (defScope st)) (len : ∀ vs H Q E, sp vs H Q E → vs.length = ps.length)
    (hbody : ∀ (cdv : Value) (A : Around) (outer : List Env) (s : Shared) (H : Hp) (vs : List V) (Q : VK) (E : XK), Room k (A.deeper (envOfC qual (defScope st) s.heap.objs.size f cdv)) → sp vs H Q E →
      ∃ t, PSs (cxOf CX0 P w K mg base N qual (defScope st) f cdv A outer s H E).nox (defBody st) t ∧ t { nx := fun _ H' => Q .non H', rt := Q } (start N vs) H) : FnOk P w K mg base CX0 (k + 1) f fd ps sp := by
  obtain ⟨oc, od, kV, doc, pm, an, cdv, ct, osl, rfl, lk, hcd⟩ := F.ex
  refine fn_of lk hcd S len fun A outer s H vs Q E hr hsp => ?_
  obtain ⟨t, h, q⟩ := hbody cdv A outer s H vs Q E hr hsp
  exact ⟨t, h.nox, q⟩
theorem FunD.binds {x qual : Str} {st : Stmt} {f : Addr} {fd : FuncData} {dV : Value} {ps : List Str} (F : FunD K x qual st f fd dV)
    (h : ∀ (kV doc pm : Value) (an : Option Addr) (cdv ct : Value) (us : List Value), us.length = ps.length → bindArgs (PySem.W.fnOf x qual (defArgs st) (defBody st) (defScope st) dV kV doc pm an cdv ct) ⟨us, []⟩ = pure (ps.zip us)) : Binds K fd ps [] := by
  obtain ⟨oc, od, kV, doc, pm, an, cdv, ct, osl, rfl, lk, hcd⟩ := F.ex
  exact .all (h kV doc pm an cdv ct)
end
end L3
namespace L3
open PySem PySem.Spec PyProof.Rows L2 SeqAt
section
variable {X : Cx} {xw : XW} {a b : Expr} {fa fb : DSt → Res D} {pos p : Pos}
end
structure FnL (P : Program) (w : World) (K : PySem.W.Frag) (mg : Str → Option Value) (base : Heap) (k : Nat) (x : Str) (n : Nat) (m : List D → Res D) (i : Int) : Prop where
  ex : ∃ (fa : Addr) (fd : FuncData) (ps : List Str) (v0 : Value), FnOk P w K mg base CX0 k fa fd ps (spD K n m) ∧ mg x = some (.ref fa) ∧ PySem.W.keepIn K (.ref fa) = true ∧ Binds K fd ps [v0] ∧ RelV (.int i) v0
theorem FnL.mono {P : Program} {w : World} {K : PySem.W.Frag} {mg : Str → Option Value} {base : Heap} {j k n : Nat} {x : Str} {m : List D → Res D} {i : Int} (F : FnL P w K mg base j x n m i) (h : j ≤ k) : FnL P w K mg base k x n m i :=
  let ⟨fa, fd, ps, v0, G, hm, hk, hb, hv⟩ := F.ex
  ⟨fa, fd, ps, v0, G.mono h, hm, hk, hb, hv⟩
end L3
namespace PySem
open Sem (wp)
def DK (h h' : Heap) : Prop := ∀ b o, h.get? b = some o → ∃ o', h'.get? b = some o' ∧ o'.dict = o.dict
theorem DK.refl (h : Heap) : DK h h := fun _ o e => ⟨o, e, rfl⟩
theorem DK.trans {h1 h2 h3 : Heap} (x : DK h1 h2) (y : DK h2 h3) : DK h1 h3 := fun b o e =>
  let ⟨o1, e1, d1⟩ := x b o e
  let ⟨o2, e2, d2⟩ := y b o1 e1
  ⟨o2, e2, d2.trans d1⟩
theorem DK.push (h : Heap) (o : Obj) : DK h (h.push o) := fun b u e => ⟨u, Heap.get?_push_of_some o e, rfl⟩
theorem DK.upd (h : Heap) (a : Addr) (f : Obj → Obj) (hd : ∀ o, (f o).dict = o.dict) (hf : ∀ o, h.get? a = some o → (f o).isFreed = false) : DK h (h.update a f) := fun b u e => by
  by_cases hb : a = b
  · subst hb
    exact ⟨f u, Heap.get?_update_self f e (hf u e), hd u⟩
  · exact ⟨u, (Heap.get?_update_other h f hb).trans e, rfl⟩
structure KeepD {α : Type} (t : Sem α) : Prop where
  out : ∀ (M : Model) (Γ : Ctx) (P : α → Pos → Shared → Prop) (Ee : Value → Pos → Shared → Prop) (p : Pos) (s : Shared), wp M Γ t P Ee p s → wp M Γ t (fun a p' s' => P a p' s' ∧ DK s.heap s'.heap) Ee p s
namespace KeepD
variable {α β : Type}
theorem now (a : α) : KeepD (Pure.pure a : Sem α) := ⟨fun _ _ _ _ _ _ h => ⟨h, DK.refl _⟩⟩
theorem off (w : String) : KeepD (PySem.unsupported w : Sem α) := ⟨fun _ _ _ _ _ _ h => h⟩
theorem seq {m : Sem α} {f : α → Sem β} (hm : KeepD m) (hf : ∀ a, KeepD (f a)) : KeepD (m >>= f) := ⟨fun M Γ P Ee p s h => by
  rw [Sem.wp_bind'] at h ⊢
  refine Sem.wp_mono M Γ m (fun a p1 s1 h1 => ?_) (fun _ _ _ x => x) p s (hm.out M Γ _ Ee p s h)
  exact Sem.wp_mono M Γ (f a) (fun b p2 s2 h2 => ⟨h2.1, h1.2.trans h2.2⟩) (fun _ _ _ x => x) p1 s1 ((hf a).out M Γ P Ee p1 s1 h1.1)⟩
theorem cond {c : Prop} [Decidable c] {t u : Sem α} (ht : KeepD t) (hu : KeepD u) : KeepD (if c then t else u) := by split <;> assumption
theorem ld (a : Addr) : KeepD (PySem.load a) := ⟨fun M Γ P Ee p s h => by
  unfold PySem.load at h ⊢
  rw [Sem.wp_load] at h ⊢
  obtain ⟨o, e, q⟩ := h
  rw [Sem.wp_pure] at q
  exact ⟨o, e, by rw [Sem.wp_pure]; exact ⟨q, DK.refl _⟩⟩⟩
theorem up (a : Addr) (f : Obj → Obj) (hd : ∀ o, (f o).dict = o.dict) (he : ∀ o, (f o).data = o.data) : KeepD (PySem.update a f) := ⟨fun M Γ P Ee p s h => by
  unfold PySem.update at h ⊢
  rw [Sem.wp_update] at h ⊢
  obtain ⟨e, q⟩ := h
  rw [Sem.wp_pure] at q
  refine ⟨e, ?_⟩
  rw [Sem.wp_pure]
  refine ⟨q, DK.upd _ _ _ hd fun o ho => ?_⟩
  have al := ((Heap.get?_eq_some _ _ _).1 ho).2
  have h1 := he o
  revert h1
  generalize f o = u
  intro h1
  obtain ⟨c1, d1, t1, s1⟩ := u
  obtain ⟨c2, d2, t2, s2⟩ := o
  dsimp only at h1
  subst h1
  cases t1 <;> first | rfl | cases al⟩
theorem stk : KeepD PySem.stack := ⟨fun M Γ P Ee p s h => by
  unfold PySem.stack at h ⊢
  rw [Sem.wp_stack] at h ⊢
  rw [Sem.wp_pure] at h ⊢
  exact ⟨h, DK.refl _⟩⟩
theorem new (o : Obj) : KeepD (PySem.alloc o) := ⟨fun M Γ P Ee p s h => by
  unfold PySem.alloc at h ⊢
  rw [Sem.wp_alloc, Sem.wp_pure] at h ⊢
  exact ⟨h, DK.push _ _⟩⟩
theorem fld (v : Value) (i : Nat) : KeepD (PySem.field v i) := ⟨fun M Γ P Ee p s h => by
  rw [wp_field_iff] at h ⊢
  obtain ⟨a, o, vs, x, e1, e2, e3, e4, q⟩ := h
  exact ⟨a, o, vs, x, e1, e2, e3, e4, q, DK.refl _⟩⟩
theorem put (v : Value) (i : Nat) (x : Value) : KeepD (PySem.setField v i x) := ⟨fun M Γ P Ee p s h => by
  rw [wp_setField_iff] at h ⊢
  obtain ⟨a, o, vs, e1, e2, e3, e4, q⟩ := h
  refine ⟨a, o, vs, e1, e2, e3, e4, q, DK.upd _ _ _ (fun o => ?_) fun u hu => ?_⟩
  · unfold Obj.mapFields; split <;> rfl
  · rw [e2] at hu; cases hu
    exact Obj.isFreed_of_fields (Obj.data_mapFields e3 _)⟩
end KeepD
local macro_rules | `(tactic| walk_at "keepd") => `(tactic| repeat' with_reducible first
    | assumption
    | exact KeepD.now _
    | exact KeepD.off _
    | exact KeepD.fld _ _
    | exact KeepD.put _ _ _
    | exact KeepD.ld _
    | exact KeepD.stk
    | exact KeepD.new _
    | exact KeepD.up _ _ (fun _ => rfl) (fun _ => rfl)
    | apply KeepD.cond
    | apply KeepD.seq
    | intro _
    | split)
theorem kd_imp (env : Env) (outer : List Env) : KeepD (behindIsImport env outer) := by
  unfold behindIsImport
  walk_at "keepd"
theorem kd_caller : KeepD underTheClaimsCaller := by
  unfold underTheClaimsCaller
  walk_at "keepd"
theorem kd_back (env : Env) (i : Bool) (l : List Env) : KeepD (keptBack env i l) := by
  have := kd_caller
  cases l <;> unfold keptBack <;> walk_at "keepd"
theorem kd_ready : ∀ l : List Env, KeepD (readyFrames l)
  | [] => KeepD.now _
  | env :: outer => by
    have r := kd_ready outer
    have a := kd_imp env outer
    have b := fun i => kd_back env i outer
    unfold readyFrames
    walk_at "keepd"
    all_goals first | exact b _ | skip
theorem kd_frame (l : List Env) : KeepD (frameObject l) := by
  cases l with
  | nil => exact KeepD.now _
  | cons env outer =>
    have r := kd_ready (env :: outer)
    unfold frameObject
    walk_at "keepd"
theorem kd_of (env : Env) : KeepD (frameOf env) := by
  have a : KeepD frameEnvs := by unfold frameEnvs; walk_at "keepd"
  have b := kd_frame
  unfold frameOf
  walk_at "keepd"
  all_goals first | exact b _ | skip
theorem kd_place (f : Addr) (b : Bool) : KeepD (entryPlaceOf f b) := by
  unfold entryPlaceOf
  walk_at "keepd"
theorem kd_entry (a b c d e : Value) (l : List Value) : KeepD (EntryCells.newEntry a b c d e l) := by
  unfold EntryCells.newEntry newFields newObj newObjAsIs
  dsimp only
  walk_at "keepd"
theorem kd_note (e : Value) (env : Env) : KeepD (noteFrame e env) := by
  have a := kd_of env
  have b := kd_place
  have c := kd_entry
  unfold noteFrame
  walk_at "keepd"
  all_goals first | exact b _ _ | exact c _ _ _ _ _ _ | skip
theorem kd_flight (e : Value) (f : Option Addr) : KeepD (setFlight e f) := by
  unfold setFlight
  walk_at "keepd"
theorem kd_leave (env : Env) (e : Value) : KeepD (leaving env e) := by
  have a := kd_note e env
  have b := kd_flight e none
  unfold leaving
  walk_at "keepd"
theorem KeepD.anyK {α : Type} {t : Sem α} (k : KeepD t) {M : Model} {A : Around} {Q : α → Shared → Prop} {E : Value → Shared → Prop} {s : Shared} (h : wpAny M A t Q E s) : wpAny M A t (fun v s' => Q v s' ∧ DK s.heap s'.heap) E s :=
  fun Γ p hΓ => k.out M Γ _ _ p s (h Γ p hΓ)
theorem KeepD.thn {α : Type} {t : Sem α} (k : KeepD t) {M : Model} {A : Around} {Q Q' : α → Shared → Prop} {E : Value → Shared → Prop} {s : Shared} (h : wpAny M A t Q E s) (g : ∀ v s', Q v s' → DK s.heap s'.heap → Q' v s') : wpAny M A t Q' E s :=
  wpAny_mono (KeepD.anyK k h) (fun v s' q => g v s' q.1 q.2) fun _ _ z => z
end PySem
namespace L3
open PySem PySem.Spec PyProof.Rows L2 SeqAt
structure Fly (P : Program) (w : World) (l : List Env) (H : Hp) (s : Shared) (H' : Hp) (a : Addr) (cls : Value) (dx : Option Addr) (h : Heap) : Prop where
  un : Un (frs l) [] H H' s.heap h
  hok : HOk P w H' h
  frf : ∀ b ∈ frs l, H' b = none
  new : s.heap.get? a = none
  nh : H' a = none
  dc : ∃ o, h.get? a = some o ∧ o.dict = dx
  fl : ∃ B a0, Heap.FlyingW B l a cls a0 h ∧ ∀ b, b ∉ frs l → ((H' b).isSome = true ∨ (s.heap.get? b).isSome = true) → (B.get? b).isSome = true
theorem obj_get {P : Program} {w : World} {H : Hp} {h : Heap} {a : Addr} {o : HO} (x : ObjOk P w H h a o) : ∃ u, h.get? a = some u := by
  induction o with
  | lst xs => obtain ⟨_, _, _, _, e⟩ := x; exact ⟨_, e⟩
  | tup xs => obtain ⟨_, _, _, ob, e, _⟩ := x; exact ⟨_, e⟩
  | dK kvs => obtain ⟨_, _, _, _, ob, _, _, e, _⟩ := x; exact ⟨_, e⟩
  | dT kvs => obtain ⟨_, _, _, _, ob, _, _, e, _⟩ := x; exact ⟨_, e⟩
  | set S n => obtain ⟨ob, _, _, _, e, _⟩ := x; exact ⟨_, e⟩
  | ins C dx fs => obtain ⟨_, _, _, e, _⟩ := x; exact ⟨_, e⟩
  | own y => exact x
  | xd fs => obtain ⟨_, ⟨_, _, _, e, _⟩, _⟩ := x; exact ⟨_, e⟩
  | rng lo hi => obtain ⟨_, _, _, e⟩ := x; exact ⟨_, e⟩
  | frz ob u ih => obtain ⟨e, _⟩ := x; exact ⟨_, e⟩
  | tbl ps => exact ⟨_, x⟩
  | met f y => exact ⟨_, x⟩
  | ext φ => exact x.2.1
section
variable {P : Program} {w : World} {l : List Env} {H H' : Hp} {s : Shared} {a : Addr} {cls a0 : Value} {h h' B : Heap}
theorem fly_same (cov : ∀ b, b ∉ frs l → ((H' b).isSome = true ∨ (s.heap.get? b).isSome = true) → (B.get? b).isSome = true) (s1 : B.StaysIn h) (s2 : B.StaysIn h') {b : Addr} (hb : b ∉ frs l)
    (q : (H' b).isSome = true ∨ (s.heap.get? b).isSome = true) : h'.get? b = h.get? b := by
  obtain ⟨o, e⟩ := Option.isSome_iff_exists.mp (cov b hb q)
  rw [s1 b o e, s2 b o e]
theorem fly_slots (f : Heap.FlyingW B l a cls a0 h) (up : h.UpToSlots h') {b : Addr} (hb : b ∈ frs l) {o : Obj} (e : h.get? b = some o) : ∃ sl, h'.get? b = some { o with slots := sl } := by
  obtain ⟨_, o', e', nf⟩ := f.2.2.1.mem hb
  rw [e] at e'
  cases e'
  exact up b o e nf
theorem fly_un (un : Un (frs l) [] H H' s.heap h) (cov : ∀ b, b ∉ frs l → ((H' b).isSome = true ∨ (s.heap.get? b).isSome = true) → (B.get? b).isSome = true) (f : Heap.FlyingW B l a cls a0 h) (s2 : B.StaysIn h') (up : h.UpToSlots h') : Un (frs l) [] H H' s.heap h' where
  keep := fun b o e n hb hx => (fly_same cov f.1 s2 hb (.inr (by rw [e]; rfl))).trans (un.keep b o e n hb hx)
  slot := fun b o e n hb hx => by
    obtain ⟨sl, e1⟩ := un.slot b o e n hb hx
    obtain ⟨sl', e2⟩ := fly_slots f up hb e1
    exact ⟨sl', e2⟩
  free := un.free
  there := fun b o e hx => by
    obtain ⟨o', e1⟩ := un.there b o e hx
    by_cases hb : b ∈ frs l
    · obtain ⟨sl, e2⟩ := fly_slots f up hb e1
      exact ⟨_, e2⟩
    · exact ⟨o', (fly_same cov f.1 s2 hb (.inr (by rw [e]; rfl))).trans e1⟩
  tups := un.tups
  frzs := un.frzs
  tbls := un.tbls
theorem fly_hok (hok : HOk P w H' h) (frf : ∀ b ∈ frs l, H' b = none) (cov : ∀ b, b ∉ frs l → ((H' b).isSome = true ∨ (s.heap.get? b).isSome = true) → (B.get? b).isSome = true) (s1 : B.StaysIn h) (s2 : B.StaysIn h') : HOk P w H' h' := fun b u e => by
  have tr : ∀ c v, H' c = some v → c ∉ frs l := fun c v q z => by rw [frf c z] at q; cases q
  refine (hok b u e).stay (fun c v hc q => ?_) (fun _ q => q) fun _ _ q => q
  rcases hc with rfl | hc
  · exact (fly_same cov s1 s2 (tr c u e) (.inl (by rw [e]; rfl))).trans q
  · exact (fly_same cov s1 s2 (tr c _ hc) (.inl (by rw [hc]; rfl))).trans q
end
def CXD (P : Program) (w : World) : CXT := fun l H s E e s' => ∃ a cls dx H', e = .ref a ∧ s'.os = s.os ∧ AllBare s'.gens ∧ Fly P w l H s H' a cls dx s'.heap ∧ E cls dx H'
section
variable {X : Cx} {pins : List (Addr × Obj)} {σ : L2.St} {H H' : Hp} {s s' : Shared} {a : Addr} {cls : Value} {dx : Option Addr} {M : Model} {Ex : Value → Shared → Prop}
theorem frs_stack (hst : X.stack = X.env :: X.outer) (hfr : X.env.frame = some X.env.locals) : frs X.stack = X.env.locals :: frs X.outer := by
  rw [hst]; unfold frs; rw [List.filterMap_cons, hfr]
theorem inv_flown (I : Inv X pins σ H s) (os : s'.os = s.os) (bare : AllBare s'.gens) (x : Fly X.prog X.w X.stack H s H' a cls dx s'.heap) : Inv X pins σ H' s' :=
  I.call' (ch := []) os x.un x.hok bare fun b z => absurd z (by simp)
end
end L3
namespace L3
open PySem PySem.Spec PyProof.Rows L2 SeqAt
def spX (K : PySem.W.Frag) (n : Nat) (m : List D → Res D) : Sp := fun vs H Q E => vs.length = n ∧ ∃ W ds, WL W H ∧ HasL K W H ds vs ∧ match m ds with
  | .ok d => ∀ v H', Same H H' → Has K W H' d v → Q v H'
  | .ex c fs => ∀ cls dx H', PySem.W.nsIn K mainGlobals c = some (some cls) → Same H H' → ExF H' dx fs → E cls dx H'
  | .stuck => False
structure FnX (P : Program) (w : World) (K : PySem.W.Frag) (mg : Str → Option Value) (base : Heap) (k : Nat) (x : Str) (n : Nat) (m : List D → Res D) : Prop where
  ex : ∃ f fd ps, FnOk P w K mg base (CXD P w) k f fd ps (spX K n m) ∧ mg x = some (.ref f) ∧ PySem.W.keepIn K (.ref f) = true ∧ Binds K fd ps []
theorem FnX.mono {P : Program} {w : World} {K : PySem.W.Frag} {mg : Str → Option Value} {base : Heap} {j k n : Nat} {x : Str} {m : List D → Res D} (F : FnX P w K mg base j x n m) (h : j ≤ k) : FnX P w K mg base k x n m := by
  obtain ⟨f, fd, ps, a, b⟩ := F.ex
  exact ⟨f, fd, ps, a.mono h, b⟩
structure FnXL (P : Program) (w : World) (K : PySem.W.Frag) (mg : Str → Option Value) (base : Heap) (k : Nat) (x : Str) (n : Nat) (m : List D → Res D) (i : Int) : Prop where
  ex : ∃ (fa : Addr) (fd : FuncData) (ps : List Str) (v0 : Value), FnOk P w K mg base (CXD P w) k fa fd ps (spX K n m) ∧ mg x = some (.ref fa) ∧ PySem.W.keepIn K (.ref fa) = true ∧ Binds K fd ps [v0] ∧ RelV (.int i) v0
theorem FnXL.mono {P : Program} {w : World} {K : PySem.W.Frag} {mg : Str → Option Value} {base : Heap} {j k n : Nat} {x : Str} {m : List D → Res D} {i : Int} (F : FnXL P w K mg base j x n m i) (h : j ≤ k) : FnXL P w K mg base k x n m i :=
  let ⟨fa, fd, ps, v0, G, hm, hk, hb, hv⟩ := F.ex
  ⟨fa, fd, ps, v0, G.mono h, hm, hk, hb, hv⟩
def runX (n : Nat) (g : DSt → Out) (ds : List D) : Res D := match g (startD n ds) with
  | .rt d => .ok d
  | .nx _ => .ok .non
  | .ex c fs => .ex c fs
  | _ => .stuck
def xwX (K : PySem.W.Frag) (E : XK) : XW := fun c fs H' => ∀ cls dx, PySem.W.nsIn K mainGlobals c = some (some cls) → ExF H' dx fs → E cls dx H'
section
variable {P : Program} {w : World} {K : PySem.W.Frag} {mg : Str → Option Value} {base : Heap}
theorem body_X {k : Nat} {x qual : Str} {st : Stmt} {fa : Addr} {fd : FuncData} {N ps : List Str} {g : DSt → Out} {dV oc : Value} {od : Option Addr} {kV doc pm : Value} {an : Option Addr} {cdv ct : Value} {osl : Array (Option Value)}
    (hf : fd = PySem.W.fnOf x qual (defArgs st) (defBody st) (defScope st) dV kV doc pm an cdv ct) (lk : K.lookup fa = some ⟨oc, od, .func fd, osl⟩) (hcd : PySem.W.codeIn K cdv qual = true) (S : FnScope N ps (defScope st))
    (body : ∀ (cdv : Value) (A : Around) (outer : List Env) (s : Shared) (H : Hp) (E : XK), Room k (A.deeper (envOfC qual (defScope st) s.heap.objs.size fa cdv)) →
      XSs (cxOf (CXD P w) P w K mg base N qual (defScope st) fa cdv A outer s H E) (xwX K E) (defBody st) g) : FnOk P w K mg base (CXD P w) (k + 1) fa fd ps (spX K ps.length (runX N.length g)) := by
  subst hf
  refine fn_of lk hcd S (fun vs H Q E h => h.1) fun A outer s H vs Q E hr hsp => ?_
  obtain ⟨hl, W, ds, hw, hd, q⟩ := hsp
  refine ⟨_, (body cdv A outer s H E hr).h, W, H, W, startD N.length ds, start_has hw hd, ?_⟩
  unfold runX at q
  cases h : g (startD N.length ds) with
  | rt d => rw [h] at q; exact fun v H' k hv => q v H' k hv
  | nx δ => rw [h] at q; exact fun W' H' σ' k st' => q .non H' st'.fr.ext (by rw [Has])
  | bk δ => rw [h] at q; exact q.elim
  | ct δ => rw [h] at q; exact q.elim
  | ex c fs => rw [h] at q; exact fun H' k cls dx hn xf => q cls dx H' hn k xf
  | stuck => rw [h] at q; exact q.elim
theorem fn_defX {k : Nat} {x qual : Str} {st : Stmt} {fa : Addr} {fd : FuncData} {N ps : List Str} {g : DSt → Out} (F : Fun K x qual st fa fd) (S : FnScope N ps (defScope st))
    (hm : mg x = some (.ref fa)) (hb : Binds K fd ps [])
    (body : ∀ (cdv : Value) (A : Around) (outer : List Env) (s : Shared) (H : Hp) (E : XK), Room k (A.deeper (envOfC qual (defScope st) s.heap.objs.size fa cdv)) →
      XSs (cxOf (CXD P w) P w K mg base N qual (defScope st) fa cdv A outer s H E) (xwX K E) (defBody st) g) : FnX P w K mg base (k + 1) x ps.length (runX N.length g) := by
  obtain ⟨oc, od, kV, doc, pm, an, cdv, ct, osl, hf, lk, hcd⟩ := F.ex
  exact ⟨fa, fd, ps, body_X hf lk hcd S body, hm, F.kp, hb⟩
end
def noexO : Out → Out
  | .ex _ _ => .stuck
  | o => o
section
variable {X : Cx} {xw : XW} {e a : Expr} {es : List Expr} {f : DSt → Res D} {ga : DSt → Res Bool} {fs : DSt → Res (List D)} {pos p : Pos} {st : Stmt} {sts : List Stmt} {g : DSt → Out}
theorem PS.nox {st : Stmt} {t : TS} (h : PS X.nox st t) : PS X st t := fun pins s σ H D I hw =>
  wpAny_mono (h pins s σ H D (I.wish _) hw) (fun _ _ q => q.unwish) fun _ _ z => False.elim z
theorem PA.nox {t : TA} (h : PA X.nox es t) : PA X es t := fun ps pins s σ H Q I hw =>
  wpAny_mono (h ps pins s σ H Q (I.wish _) hw) (fun _ _ ⟨v, H', I', r, q⟩ => ⟨v, H', I'.unwish, r, q⟩) fun _ _ z => False.elim z
def noxA (f : DSt → Res (List D)) : DSt → Res (List D) := fun δ => noex (f δ)
def noxB (f : DSt → Res Bool) : DSt → Res Bool := fun δ => noex (f δ)
def noxS (g : DSt → Out) : DSt → Out := fun δ => noexO (g δ)
theorem y_nox (h : XT X.nox xwF e ga) : XT X xw e (noxB ga) := ⟨PT.weak (PT.nox h.h) fun σ H Q ⟨W₀, H₀, W, δ, st, q⟩ => ⟨W₀, H₀, W, δ, st, by
  have q : RT xw H (noex (ga δ)) Q := q
  cases hq : ga δ with
  | ok d => rw [hq] at q; exact q
  | ex c fs => rw [hq] at q; exact q.elim
  | stuck => rw [hq] at q; exact q.elim⟩⟩
theorem a_nox (h : XA X.nox xwF es fs) : XA X xw es (noxA fs) := ⟨PA.weak (PA.nox h.h) fun σ H Q ⟨W₀, H₀, W, δ, st, q⟩ => ⟨W₀, H₀, W, δ, st, by
  have q : RA X.K xw W H (noex (fs δ)) Q := q
  cases hq : fs δ with
  | ok d => rw [hq] at q; exact q
  | ex c gs => rw [hq] at q; exact q.elim
  | stuck => rw [hq] at q; exact q.elim⟩⟩
theorem s_nox (h : XS X.nox xwF st g) : XS X xw st (noxS g) := ⟨PS.weak (PS.nox h.h) fun Dn σ H ⟨W₀, H₀, W, δ, st, q⟩ => ⟨W₀, H₀, W, δ, st, by
  have q : RS X.K xw W₀ H₀ W H (noexO (g δ)) Dn := q
  cases hq : g δ with
  | ex c fs => rw [hq] at q; exact q.elim
  | _ => rw [hq] at q; exact q⟩⟩
def callX (n : Nat) (m : List D → Res D) (ds : List D) : Res D := if ds.length = n then m ds else .stuck
end
abbrev bmV : List Value := [.type "ValueError", .type "Exception", .type "BaseException", .type "object"]
structure ClsX (K : PySem.W.Frag) (c : Str) : Prop where
  ex : ∃ C, PySem.W.nsIn K mainGlobals c = some (some (.ref C)) ∧ PySem.W.excIn K C bmV "ValueError.__new__" = true
def sRaise (c : Str) (fs : DSt → Res (List D)) : DSt → Out := fun δ => ofR (fs δ) fun ds => if ds.length = 1 then .ex c [] else .stuck
section
variable {X : Cx} {xw : XW} {a : Expr} {es : List Expr} {fs : DSt → Res (List D)} {pos np cpos : Pos} {c : Str}
end
end L3
namespace L3
open PySem PySem.Spec PyProof.Rows L2 SeqAt
abbrev markX (X : Cx) (a : Addr) : Cx := { X with A := X.A.mark (some (.ref a)), calm := false, xe := fun _ _ => False }
abbrev tryX (X : Cx) (pins : List (Addr × Obj)) (E : Value → Shared → Prop) : Cx := { X with pn := X.pn ++ pins, xe := E }
section
variable {X : Cx} {pins : List (Addr × Obj)} {σ : L2.St} {H H' : Hp} {s s' : Shared} {a : Addr} {cls : Value} {dx : Option Addr} {Ex : Value → Shared → Prop}
theorem ok_mark (ok : X.Ok) (a : Addr) : (markX X a).Ok :=
  ⟨ok.mod, ok.kind, ok.glob, ok.blt, ok.above, ok.inj, ok.has, ok.cab, fun z => absurd (show false = true from z) (by decide), ok.frames, ok.stk, ok.exf, ok.bs, ok.bsz, ok.noex, ok.exfs, ok.funs, ok.frf⟩
theorem inv_mark (I : Inv X pins σ H s) (a : Addr) : Inv (markX X a) pins σ H s := ⟨ok_mark I.ok a, I.os, I.bare, I.base, I.loc, I.cell, I.free, I.freeC, I.pin, I.hok, I.len⟩
theorem inv_unmark (ok : X.Ok) (I : Inv (markX X a) pins σ H s) : Inv X pins σ H s := ⟨ok, I.os, I.bare, I.base, I.loc, I.cell, I.free, I.freeC, I.pin, I.hok, I.len⟩
theorem ok_try (ok : X.Ok) : (tryX X pins Ex).Ok :=
  ⟨ok.mod, ok.kind, ok.glob, ok.blt, ok.above, ok.inj, ok.has, ok.cab, ok.hd, ok.frames, ok.stk, ok.exf, ok.bs, ok.bsz, ok.noex, ok.exfs, ok.funs, ok.frf⟩
theorem inv_try (I : Inv X pins σ H s) : Inv (tryX X pins Ex) [] σ H s := ⟨ok_try I.ok, I.os, I.bare, I.base, I.loc, I.cell, I.free, I.freeC, fun p hp => I.pin p (by simpa using hp), I.hok, I.len⟩
theorem inv_untry {more : List (Addr × Obj)} (ok : X.Ok) (I : Inv (tryX X pins Ex) more σ H s) : Inv X pins σ H s := ⟨ok, I.os, I.bare, I.base, I.loc, I.cell, I.free, I.freeC, fun p hp => I.pin p (List.mem_append_left _ hp), I.hok, I.len⟩
theorem inv_track {φ : Heap → Prop} (I : Inv X pins σ H s) (I' : Inv X pins σ H' s') (hex : X.ex = []) (new : s.heap.get? a = none) (nh : H' a = none) (x : ObjOk X.prog X.w (upd H' a (.ext φ)) s'.heap a (.ext φ)) : Inv X pins σ (upd H' a (.ext φ)) s' := by
  have ne : ∀ b o, s.heap.get? b = some o → b ≠ a := fun b o e z => by rw [z, new] at e; cases e
  have ne0 : ∀ b o, X.s₀.heap.get? b = some o → b ≠ a := fun b o e => by
    obtain ⟨o', e'⟩ := I.base.there b o e (by rw [hex]; simp)
    exact ne b o' e'
  have up : ∀ b o, H' b = some o → upd H' a (.ext φ) b = some o := fun b o e => by rw [upd_ne (ne_of_none e nh)]; exact e
  refine ⟨I'.ok, I'.os, I'.bare, ⟨I'.base.keep, I'.base.slot, fun b o e n hx => ?_, I'.base.there, fun b xs e => up _ _ (I'.base.tups b xs e), fun b o u e => up _ _ (I'.base.frzs b o u e), fun b ps e => ?_⟩, I'.loc, I'.cell, ?_, fun y c e => ?_, fun p hp => ?_, fun b u e => ?_, I'.len⟩
  · rw [upd_ne (ne0 b o e)]; exact I'.base.free b o e n hx
  · obtain ⟨m, e1⟩ := I'.base.tbls b ps e
    exact ⟨m, up _ _ e1⟩
  · obtain ⟨m, ⟨o, _, _, ho, _⟩, _⟩ := I.loc
    rw [upd_ne (ne _ o ho)]; exact I'.free
  · obtain ⟨v, o, ho, _⟩ := I.cell y c e
    rw [upd_ne (ne c o ho)]; exact I'.freeC y c e
  · obtain ⟨e, n, r⟩ := I'.pin p hp
    refine ⟨e, ?_, r⟩
    rw [upd_ne (ne p.1 _ (I.pin p hp).1)]; exact n
  · by_cases hb : b = a
    · subst hb
      rw [upd_same] at e
      cases e
      exact x
    · rw [upd_ne hb] at e
      exact (I'.hok b u e).stay (fun _ _ _ q => q) (fun c q => up _ _ q) fun c xs q => up _ _ q
theorem inv_unset {i : Nat} {n : Str} {h' : Heap} {t : Nat} {v : Option Value} {m : Str → Option Value} (I : Inv X pins σ H s) (hN : X.N.Nodup) (hi : X.N[i]? = some n)
    (hm : s.heap.Ns X.env.locals m) (hl : ∀ (j : Nat) (x : Str) (w : V), X.N[j]? = some x → σ[j]? = some (some w) → Vis X.env.scope x → ∃ u, RelV w u ∧ Look X.env s.heap m x u)
    (hn : h'.Ns X.env.locals (fun x => if x = n then v else m x)) (hs : Heap.SameBut X.env.locals s.heap h') : Inv X pins (σ.set i none) H { s with heap := h', toks := t } := by
  obtain ⟨oL, _, _, hoL, _⟩ := id hm
  have cne := I.cne
  refine ⟨I.ok, I.os, I.bare, ⟨fun b o e n hb hx => ?_, fun b o e n hb hx => ?_, I.base.free, fun b o e hx => ?_, I.base.tups, I.base.frzs, I.base.tbls⟩, ⟨_, hn, fun j y w e1 e2 e3 => ?_⟩, fun y c e => ?_, I.free, I.freeC, fun p hp => ?_, fun b u e => ?_, by simpa using I.len⟩
  · exact (hs.2 b (Nat.ne_of_lt (Nat.lt_of_lt_of_le (Heap.lt_size e) I.ok.above))).trans (I.base.keep b o e n hb hx)
  · obtain ⟨sl, e1⟩ := I.base.slot b o e n hb hx
    exact ⟨sl, (hs.2 b (Nat.ne_of_lt (Nat.lt_of_lt_of_le (Heap.lt_size e) I.ok.above))).trans e1⟩
  · obtain ⟨o', e1⟩ := I.base.there b o e hx
    exact ⟨o', (hs.2 b (Nat.ne_of_lt (Nat.lt_of_lt_of_le (Heap.lt_size e) I.ok.above))).trans e1⟩
  · have hj : j ≠ i := by
      rintro rfl
      rw [List.getElem?_set_self'] at e2
      cases q : σ[j]? with
      | none => rw [q] at e2; cases e2
      | some z => rw [q] at e2; cases e2
    rw [List.getElem?_set_ne (Ne.symm hj)] at e2
    obtain ⟨u, r, q⟩ := hl j y w e1 e2 e3
    refine ⟨u, r, ?_⟩
    rcases q with ⟨k, e⟩ | ⟨k, c, e, z⟩
    · have : y ≠ n := fun e => hj (nodup_ix hN e1 (e ▸ hi))
      exact .inl ⟨k, by simp [this, e]⟩
    · exact .inr ⟨k, c, e, z.sameBut hs (cne y c e)⟩
  · obtain ⟨w, z⟩ := I.cell y c e
    exact ⟨w, z.sameBut hs (cne y c e)⟩
  · obtain ⟨e, n, ne, nf, d⟩ := I.pin p hp
    exact ⟨(hs.2 p.1 ne).trans e, n, ne, nf, d⟩
  · refine (I.hok b u e).stay (fun c w' hc q => (hs.2 c ?_).trans q) (fun _ q => q) fun _ _ q => q
    rintro rfl
    rcases hc with rfl | hc
    · rw [I.free] at e; cases e
    · rw [I.free] at hc; cases hc
theorem goes_as {A : Around} {M : Model} {i : Nat} {n : Str} {pos : Pos} {Q : Unit → Shared → Prop} (I : Inv X pins σ H s) (hN : X.N.Nodup) (hi : X.N[i]? = some n) (hk : X.env.kindOf n = some .local)
    (h : ∀ s', Inv X pins (σ.set i none) H s' → Q () s') : wpAny M A (do bindName X.env n .none; unbindBehindTheSuite X.env n pos) Q Ex s := by
  obtain ⟨m, hm, hl⟩ := id I.loc
  have hp : (X.env.scope.kind == .class || (X.env.scope.kind == .module && X.env.locals != X.env.globals)) = false := by rw [I.ok.kind]; rfl
  exact wpAny_nameGoes_keeps hk hm hp fun h' v hn hs => h _ (inv_unset I hN hi hm hl hn hs)
end
structure MatchX (K : PySem.W.Frag) (C c : Str) : Prop where
  ex : ∃ vc vC, PySem.W.nsIn K mainGlobals c = some (some vc) ∧ PySem.W.nsIn K mainGlobals C = some (some vC) ∧ PySem.W.exmOne K vc vC = some true
section
variable {X : Cx} {pins : List (Addr × Obj)} {σ : L2.St} {H H' : Hp} {s s' : Shared} {a : Addr} {cls vC : Value} {dx : Option Addr} {Ex : Value → Shared → Prop} {C n : Str} {np pos : Pos} {b₀ : Stmt} {suite : List Stmt} {rest : List ExceptHandler} {Q : Flow → Shared → Prop}
theorem caught_test {R : Result → Shared → Prop} (I : Inv X pins σ H s) (hst : X.stack = X.env :: X.outer) (hfr : X.env.frame = some X.env.locals) (os : s'.os = s.os) (bare : AllBare s'.gens) (x : Fly X.prog X.w X.stack H s H' a cls dx s'.heap)
    (hC : Gl X C) (hm : PySem.W.nsIn X.K mainGlobals C = some (some vC)) (he : PySem.W.exmOne X.K cls vC = some true) (hdb : (C == ("__debug__" : Str)) = false)
    (k : ∀ h', Fly X.prog X.w X.stack H s H' a cls dx h' → R (.ok .brk) { s' with heap := h' }) :
    codeAny (model X.prog X.w) (X.A.mark (some (.ref a))) (.handlers (.ref a) [.ExceptHandler (some (.Name C np)) none [] pos] X.env) R s' := by
  have I' := inv_mark (inv_flown I os bare x) a
  refine codeAny_handlers_test (ld_glob I' hC (PySem.W.mg_of I.ok.mod.kin I.ok.mod.glob hm) ?_ hdb)
  obtain ⟨B, a0, f, cov⟩ := x.fl
  obtain ⟨ob, hob, hc⟩ := f.there
  have LT : PySem.W.Looks (model X.prog X.w) s'.heap (typeOf (.ref a)) cls := by
    subst hc
    exact (PySem.W.Looks.ld hob).andThen .now
  exact (PySem.W.exm_one I'.kIn LT he).here (k s'.heap x)
theorem fly_heap {h' : Heap} {B : Heap} {a0 : Value} (x : Fly X.prog X.w X.stack H s H' a cls dx s'.heap) (f : Heap.FlyingW B X.stack a cls a0 s'.heap) (cov : ∀ b, b ∉ frs X.stack → ((H' b).isSome = true ∨ (s.heap.get? b).isSome = true) → (B.get? b).isSome = true)
    (f' : Heap.FlyingW B X.stack a cls a0 h') (up : s'.heap.UpToSlots h') (dk : DK s'.heap h') : Fly X.prog X.w X.stack H s H' a cls dx h' :=
  ⟨fly_un x.un cov f f'.1 up, fly_hok x.hok x.frf cov f.1 f'.1, x.frf, x.new, x.nh, (let ⟨o, e, d⟩ := x.dc; let ⟨o', e', d'⟩ := dk a o e; ⟨o', e', d'.trans d⟩), B, a0, f', cov⟩
theorem caught_look {hs : List ExceptHandler} (I : Inv X pins σ H s) (hst : X.stack = X.env :: X.outer) (hfr : X.env.frame = some X.env.locals) (x : Fly X.prog X.w X.stack H s H' a cls dx s'.heap)
    (k : ∀ h', Fly X.prog X.w X.stack H s H' a cls dx h' → wpAny (model X.prog X.w) X.A (handleBy (.ref a) X.env hs) Q Ex { s' with heap := h' }) :
    wpAny (model X.prog X.w) X.A (noteFrame (.ref a) X.env) (fun _ s₂ => wpAny (model X.prog X.w) X.A (setFlight (.ref a) none) (fun _ s₃ => wpAny (model X.prog X.w) X.A (handleBy (.ref a) X.env hs) Q Ex s₃) Ex s₂) Ex s' := by
  obtain ⟨B, a0, f, cov⟩ := x.fl
  have f2 : Heap.FlyingW B (X.env :: X.outer) a cls a0 s'.heap := by rw [← hst]; exact f
  refine (kd_note (.ref a) X.env).thn (Q := fun _ s4 => ∃ h₄, s4 = { s' with heap := h₄ } ∧ Heap.HeldW B (X.env :: X.outer) a cls a0 X.env.locals h₄ ∧ s'.heap.UpToSlots h₄) (wpAny_looks_onW (by rw [← hst]; exact I.ok.frames) hfr f2 fun h₄ held up₄ => ⟨h₄, rfl, held, up₄⟩) fun _ s4 ⟨h₄, e4, held, up₄⟩ dk4 => ?_
  subst e4
  refine (kd_flight (.ref a) none).thn (Q := fun _ s5 => ∃ h₅, s5 = { s' with heap := h₅ } ∧ Heap.FlyingW B (X.env :: X.outer) a cls a0 h₅ ∧ h₄.UpToSlots h₅) (wpAny_landsW held fun h₅ f₅ up₅ => ⟨h₅, rfl, f₅, up₅⟩) fun _ s5 ⟨h₅, e5, f₅, up₅⟩ dk5 => ?_
  subst e5
  exact k h₅ (fly_heap x f cov (by rw [hst]; exact f₅) (up₄.trans up₅) (dk4.trans dk5))
theorem exc_ok {P : Program} {w : World} {H : Hp} {h : Heap} (x : ExcAt a cls dx h) : ObjOk P w H h a (.ext (ExcAt a cls dx)) := by
  obtain ⟨o, vs, e, hc, hx, hd⟩ := x
  exact ⟨⟨o, vs, e, hc, hx, hd⟩, ⟨o, e⟩, fun h1 h2 ⟨o1, vs1, e1, hc1, hx1, hd1⟩ k => ⟨o1, vs1, k _ e1, hc1, hx1, hd1⟩⟩
theorem fly_exc {h : Heap} (x : Fly X.prog X.w X.stack H s H' a cls dx h) : ExcAt a cls dx h := by
  obtain ⟨B, a0, f, cov⟩ := x.fl
  obtain ⟨oe, vs, he, hc, hd, _⟩ := f.first
  obtain ⟨od, ed, dd⟩ := x.dc
  rw [he] at ed
  cases ed
  exact ⟨oe, vs, he, hc, dd, hd⟩
theorem caught_as {i : Nat} {D : Ends} {t : TS} (I : Inv X pins σ H s) (hex : X.ex = []) (hst : X.stack = X.env :: X.outer) (hfr : X.env.frame = some X.env.locals) (os : s'.os = s.os) (bare : AllBare s'.gens) (x : Fly X.prog X.w X.stack H s H' a cls dx s'.heap)
    (hC : Gl X C) (hm : PySem.W.nsIn X.K mainGlobals C = some (some vC)) (he : PySem.W.exmOne X.K cls vC = some true) (hdb : (C == ("__debug__" : Str)) = false)
    (hN : X.N.Nodup) (hi : X.N[i]? = some n) (hk : X.env.kindOf n = some .local)
    (hsu : ∀ a, PSs (markX X a) (b₀ :: suite) t) (ht : t { nx := fun σ' H' => D.nx (σ'.set i none) H', rt := D.rt, bk := fun σ' H' => D.bk (σ'.set i none) H', ct := fun σ' H' => D.ct (σ'.set i none) H' } (σ.set i (some (.ref a))) (upd H' a (.ext (ExcAt a cls dx)))) :
    wpAny (model X.prog X.w) X.A (noteFrame (.ref a) X.env) (fun _ s₂ => wpAny (model X.prog X.w) X.A (setFlight (.ref a) none) (fun _ s₃ =>
      wpAny (model X.prog X.w) X.A (handleBy (.ref a) X.env (.ExceptHandler (some (.Name C np)) (some n) (b₀ :: suite) pos :: rest)) (SP X pins D) Ex s₃) Ex s₂) Ex s' := by
  refine caught_look I hst hfr x fun h5 x5 => ?_
  refine wpAny_handleBy_cons (caught_test (s' := { s' with heap := h5 }) I hst hfr os bare x5 hC hm he hdb fun h6 x6 => codeAny_handlers_suite_as ?_) (by intro q; cases q)
  obtain ⟨B, a0, f, cov⟩ := x6.fl
  refine (kd_flight (.ref a) none).thn (Q := fun _ s7 => ∃ h7, s7 = { s' with heap := h7 } ∧ Heap.FlyingW B X.stack a cls a0 h7 ∧ h6.UpToSlots h7) (lands_againW f fun h7 f7 up7 => ⟨h7, rfl, f7, up7⟩) fun _ s7 ⟨h7, e7, f7, up7⟩ dk7 => ?_
  subst e7
  have x7 := fly_heap (s' := { s' with heap := h6 }) x6 f cov f7 up7 dk7
  have I7 : Inv X pins σ H' { s' with heap := h7 } := inv_flown (s' := { s' with heap := h7 }) I os bare x7
  have I8 := inv_track I I7 hex x7.new x7.nh (exc_ok (fly_exc x7))
  have hloc : Loc X.env.scope n := .inl hk
  refine store_ok I8 hN hi hloc (v := .ref a) rfl (fun s8 I9 => ?_) (.inr hk)
  refine wpAny_mono (hsu a pins _ _ _ _ (inv_mark I9 a) ht) (fun fl s9 q => ?_) fun _ _ z => False.elim z
  cases fl with
  | next => obtain ⟨σ', H9, J, q⟩ := q; exact goes_as (inv_unmark I.ok J) hN hi hk fun s10 K => ⟨_, H9, K, q⟩
  | brk => obtain ⟨σ', H9, J, q⟩ := q; exact goes_as (inv_unmark I.ok J) hN hi hk fun s10 K => ⟨_, H9, K, q⟩
  | cont => obtain ⟨σ', H9, J, q⟩ := q; exact goes_as (inv_unmark I.ok J) hN hi hk fun s10 K => ⟨_, H9, K, q⟩
  | ret u => obtain ⟨v, σ', H9, J, r, q⟩ := q; exact goes_as (inv_unmark I.ok J) hN hi hk fun s10 K => ⟨v, _, H9, K, r, q⟩
end
end L3
namespace L3
open PySem PySem.Spec PyProof.Rows L2 SeqAt
section
variable {X : Cx} {CX : CXT} {k : Nat} {f : Addr} {fd : FuncData} {ps : List Str} {sp : Sp} {dvs : List V} {ds : List Value} {E : L2.St → XK} {x : Str} {p pos : Pos} {e : Expr} {es : List Expr} {t : TA}
theorem pe_callS (F : FnOk X.prog X.w X.K X.mg X.base CX k f fd ps sp) (hr : Room k X.A) (hg : Gl X x) (hm : X.mg x = some (.ref f)) (hk : PySem.W.keepIn X.K (.ref f) = true) (hb : Binds X.K fd ps ds) (hd : Vals dvs ds)
    (hx : ∀ (pins : List (Addr × Obj)) (σ : L2.St) (H : Hp) (s : Shared) (e : Value) (s' : Shared), Inv X pins σ H s → CX X.stack H s (E σ) e s' → X.xe e s')
    (ha : PA X (e :: es) t) (hdb : (x == ("__debug__" : Str)) = false) (he : starEach (e :: es) X.env = (false, eval e X.env) :: starEach es X.env) (hpl : (backTo pos (starEach es X.env)).any (·.1) = false) :
    PE X (.Call (.Name x p) (e :: es) [] pos) (fun σ H Q => t σ H fun vs H1 => sp (vs ++ dvs) H1 Q (E σ)) := by
  intro pins s σ H Q I h
  refine wpAny_Call_Name_kw (ld_glob I hg hm ?_ hdb)
  refine PySem.W.callWith_K (h₀ := X.base) I.ok.mod.kin hk (thn (ha pos pins s σ H _ I h) fun us s1 ⟨vs, H1, I1, r, q⟩ => ⟨I1.kIn, ?_⟩) he hpl
  have r2 : Vals (vs ++ dvs) (us ++ ds) := r.append hd
  have hl : (us ++ ds).length = ps.length := by rw [← r2.length]; exact F.len _ _ _ _ q
  refine wpAny_call (codeAny_mono (F.run X.A X.stack s1 H1 ⟨us, []⟩ (us ++ ds) (vs ++ dvs) Q (E σ) hr I1.env0 (hb s1 us I1.kIn hl) r2 q) fun r s' hq => ?_)
  cases r with
  | error e => exact hx pins σ H1 s1 e s' I1 hq
  | ok fl =>
    cases fl with
    | ret u => exact I1.after hq
    | next => exact False.elim hq
    | brk => exact False.elim hq
    | cont => exact False.elim hq
theorem pa_try {pins : List (Addr × Obj)} {Ex : Value → Shared → Prop} (h : PA X.nox es t) : PA (tryX X pins Ex) es t := fun q more s σ H Q I hw => by
  have ok : X.Ok := ⟨I.ok.mod, I.ok.kind, I.ok.glob, I.ok.blt, I.ok.above, I.ok.inj, I.ok.has, I.ok.cab, I.ok.hd, I.ok.frames, I.ok.stk, I.ok.exf, I.ok.bs, I.ok.bsz, I.ok.noex, I.ok.exfs, I.ok.funs, I.ok.frf⟩
  have I' : Inv X.nox (pins ++ more) σ H s := ⟨ok.wish _, I.os, I.bare, I.base, I.loc, I.cell, I.free, I.freeC, fun z hz => I.pin z (by show z ∈ (X.pn ++ pins) ++ more; rw [List.append_assoc]; exact hz), I.hok, I.len⟩
  refine wpAny_mono (h q _ s σ H Q I' hw) (fun us s1 ⟨v, H', J, r, z⟩ => ⟨v, H', ?_, r, z⟩) fun _ _ z => False.elim z
  exact ⟨I.ok, J.os, J.bare, J.base, J.loc, J.cell, J.free, J.freeC, fun z hz => J.pin z (by show z ∈ X.pn ++ (pins ++ more); rw [← List.append_assoc]; exact hz), J.hok, J.len⟩
end
structure KindX (X : Cx) (e : Expr) (st : Stmt) (gK : D → DSt → Out) : Prop where
  ex : ∃ cont : Ends → L2.St → VK, (∀ (pins : List (Addr × Obj)) (Ex : Value → Shared → Prop) (te : TE), PE (tryX X pins Ex) e te → PS (tryX X pins Ex) st (fun Dn σ H => te σ H (cont Dn σ))) ∧
    ∀ (xw : XW) (W₀ : WS) (H₀ : Hp) (W : WS) (H : Hp) (d : D) (v : V) (σ : L2.St) (δ : DSt) (Dn : Ends), StHas X.K W₀ H₀ W H σ δ → Has X.K W H d v → RS X.K xw W₀ H₀ W H (gK d δ) Dn → cont Dn σ v H
section
variable {X : Cx} {e : Expr} {pos : Pos}
theorem kd_set (j : Nat) {x : Str} {pos' : Pos} (hN : X.N.Nodup) (hi : X.N[j]? = some x := by rfl) (hx : Loc X.env.scope x := by first | exact Or.inl rfl | exact Or.inr rfl) (hs : swapsWith e (some (.Name x pos')) pos.line X.env = pure false := by rfl)
    (hf : X.fn x = true ∨ X.env.scope.names.lookup x = some .local := by first | exact .inl rfl | exact .inr rfl | assumption) : KindX X e (.Assign [.Name x pos'] e pos) (fun d δ => .nx (δ.set j (some (.d d)))) :=
  ⟨fun Dn σ v H => Dn.nx (σ.set j (some v)) H, fun pins Ex te h => ps_set hN hi hx h hs hf, fun xw W₀ H₀ W H d v σ δ Dn st hv q => q W H _ Step.refl (st.set hv)⟩
end
def unsetO (i : Nat) : Out → Out
  | .nx δ => .nx (δ.set i none)
  | .bk δ => .bk (δ.set i none)
  | .ct δ => .ct (δ.set i none)
  | .rt d => .rt d
  | _ => .stuck
def sTry (cs : List Str) (f : DSt → Res D) (gK : D → DSt → Out) (go : DSt → Out) (gs : Str → List D → DSt → Out) : DSt → Out := fun δ => match f δ with
  | .ok d => seqO (gK d δ) go
  | .ex c fs => if c ∈ cs then gs c fs δ else .stuck
  | .stuck => .stuck
theorem StHas.unset {K : PySem.W.Frag} {W₀ W : WS} {H₀ H : Hp} {σ : L2.St} {δ : DSt} (h : StHas K W₀ H₀ W H σ δ) (i : Nat) : StHas K W₀ H₀ W H (σ.set i none) (δ.set i none) := by
  have ne : ∀ (j : Nat) (t : S), (δ.set i none)[j]? = some (some t) → i ≠ j ∧ δ[j]? = some (some t) := fun j t e => by
    have hj : i ≠ j := by
      rintro rfl
      rw [List.getElem?_set_self'] at e
      cases q : δ[i]? with
      | none => rw [q] at e; cases e
      | some z => rw [q] at e; cases e
    rw [List.getElem?_set_ne hj] at e
    exact ⟨hj, e⟩
  refine ⟨h.fr, by simp [h.len], fun j s e => ?_, fun j l s1 s2 a hjl os ot e1 e2 e3 e4 => ?_⟩
  · obtain ⟨hj, e'⟩ := ne j s e
    rw [List.getElem?_set_ne hj]
    exact h.at' j s e'
  · obtain ⟨hj, g1⟩ := ne j s1 e1
    obtain ⟨hl, g2⟩ := ne l s2 e2
    rw [List.getElem?_set_ne hj] at e3
    rw [List.getElem?_set_ne hl] at e4
    exact h.ap j l s1 s2 a hjl os ot g1 g2 e3 e4
section
variable {X : Cx} {xw : XW} {a : Expr} {es : List Expr} {fs : DSt → Res (List D)} {p pos cpos hpos tpos np : Pos} {st b₀ : Stmt} {suite orelse : List Stmt} {k nn : Nat} {x C n : Str} {m : List D → Res D} {gK : D → DSt → Out} {go gsu : DSt → Out}
theorem try_core {hd : ExceptHandler} {fa : Addr} {fd : FuncData} {ps : List Str} {vs0 : List V} {ds0 : List Value} {d0 : List D} {gs : Str → List D → DSt → Out} (cs : List Str) (G : FnOk X.prog X.w X.K X.mg X.base (CXD X.prog X.w) k fa fd ps (spX X.K nn m)) (hm : X.mg x = some (.ref fa)) (hk : PySem.W.keepIn X.K (.ref fa) = true) (hb : Binds X.K fd ps ds0) (hd0 : Vals vs0 ds0)
    (h0 : ∀ W H, HasL X.K W H d0 vs0) (hr : Room k X.A) (ha : XA X.nox xwF (a :: es) fs) (kd : KindX X (.Call (.Name x p) (a :: es) [] cpos) st gK) (hor : XSs X xw orelse go)
    (hcat : ∀ (pins : List (Addr × Obj)) (σ : L2.St) (H H0 H' : Hp) (s s' : Shared) (ar : Addr) (cls : Value) (dx : Option Addr) (c : Str) (fs : List D) (W₀ : WS) (H₀ : Hp) (W : WS) (δ : DSt) (Dn : Ends), Inv X pins σ H s → s'.os = s.os → AllBare s'.gens → Fly X.prog X.w X.stack H s H' ar cls dx s'.heap → ExF H' dx fs →
      PySem.W.nsIn X.K mainGlobals c = some (some cls) → c ∈ cs → StHas X.K W₀ H₀ W H0 σ δ → Same H0 H' → RS X.K xw W₀ H₀ W H0 (gs c fs δ) Dn →
      wpAny (model X.prog X.w) X.A (noteFrame (.ref ar) X.env) (fun _ s₂ => wpAny (model X.prog X.w) X.A (setFlight (.ref ar) none) (fun _ s₃ =>
        wpAny (model X.prog X.w) X.A (handleBy (.ref ar) X.env [hd]) (SP X pins Dn) X.xe s₃) X.xe s₂) X.xe s')
    (hg : Gl X x) (hdb : (x == ("__debug__" : Str)) = false) (he : starEach (a :: es) X.env = (false, eval a X.env) :: starEach es X.env) (hpl : (backTo cpos (starEach es X.env)).any (·.1) = false) :
    XS X xw (.Try [st] [hd] orelse [] tpos) (sTry cs (fun δ => (noex (fs δ)).bind fun ds => callX nn m (ds ++ d0)) gK go gs) := ⟨by
  intro pins s σ H Dn I ⟨W₀, H₀, W, δ, sth, q⟩
  obtain ⟨cont, kp, kr⟩ := kd.ex
  refine wpAny_Try_except ?_
  generalize hEx : (fun (e : Value) (s₁ : Shared) => wpAny (model X.prog X.w) X.A (noteFrame e X.env) (fun _ s₂ => wpAny (model X.prog X.w) X.A (setFlight e none) (fun _ s₃ => wpAny (model X.prog X.w) X.A (handleBy e X.env [hd]) (SP X pins Dn) X.xe s₃) X.xe s₂) X.xe s₁) = Ex
  have D1nx : ∀ σ' H', tDS X.K xw go Dn σ' H' → ∀ s', Inv X pins σ' H' s' → wpAny (model X.prog X.w) X.A (execs orelse X.env) (SP X pins Dn) X.xe s' := fun σ' H' h s' J => hor.h pins s' σ' H' Dn J h
  have pe := pe_callS (X := tryX X pins Ex) (p := p) (pos := cpos) (E := fun σ' cls dx H' => σ' = σ ∧ Same H H' ∧ ∃ c fs', PySem.W.nsIn X.K mainGlobals c = some (some cls) ∧ ((noex (fs δ)).bind fun ds => callX nn m (ds ++ d0)) = .ex c fs' ∧ ExF H' dx fs') G hr hg hm hk hb hd0 (fun more σ' H1 s1 e s' J h => by
    obtain ⟨ar, cls, dx, H', rfl, os, bare, fl, rfl, sm, c, fs', hn, hf, xf⟩ := h
    have J' := inv_untry I.ok J
    show Ex (.ref ar) s'
    subst hEx
    unfold sTry at q
    dsimp only at q
    rw [hf] at q
    have q' : RS X.K xw W₀ H₀ W H (if c ∈ cs then gs c fs' δ else .stuck) Dn := q
    split at q'
    · rename_i hc
      exact hcat pins σ' H1 H H' s1 s' ar cls dx c fs' W₀ H₀ W δ Dn J' os bare fl xf hn hc sth sm q'
    · exact q'.elim) (pa_try ha.h) hdb he hpl
  refine wpAny_mono (pss_one (kp pins Ex _ pe) [] s σ H { nx := tDS X.K xw go Dn, rt := Dn.rt, bk := Dn.bk, ct := Dn.ct } (inv_try I) ?_) (fun fl s1 h1 => ?_) fun e s1 h1 => h1
  · refine ⟨W₀, H₀, W, δ, sth, ?_⟩
    unfold sTry at q
    dsimp only at q
    cases hf : fs δ with
    | stuck => rw [hf] at q; exact q
    | ex c gs' => rw [hf] at q; exact False.elim q
    | ok ds =>
      rw [hf] at q
      intro vs H1 k1 hv
      have hv' : HasL X.K W H1 (ds ++ d0) (vs ++ vs0) := hv.append (h0 W H1)
      have q1 : RS X.K xw W₀ H₀ W H (match callX nn m (ds ++ d0) with | .ok d => seqO (gK d δ) go | .ex c fs => if c ∈ cs then gs c fs δ else .stuck | .stuck => .stuck) Dn := q
      have ec : ((noex (Res.ok ds)).bind fun ds => callX nn m (ds ++ d0)) = callX nn m (ds ++ d0) := rfl
      by_cases hl : (ds ++ d0).length = nn
      · have em : callX nn m (ds ++ d0) = m (ds ++ d0) := if_pos hl
        rw [em] at q1
        refine ⟨by rw [← hv'.length]; exact hl, W, ds ++ d0, sth.fr.wl.same k1, hv', ?_⟩
        cases h : m (ds ++ d0) with
        | ok d =>
          rw [h] at q1
          intro v H2 k2 hd2
          refine kr xw W₀ H₀ W H2 d v σ δ _ (sth.same (k1.trans k2)) hd2 ?_
          have q2 : RS X.K xw W₀ H₀ W H (seqO (gK d δ) go) Dn := q1
          have q3 := RS.step q2 (Step.same (W := W) (k1.trans k2))
          cases hgk : gK d δ with
          | nx δ' =>
            rw [hgk] at q3
            exact fun W' H' σ' kk st' => ⟨W₀, H₀, W', δ', st', RS.step (o := go δ') q3 kk⟩
          | bk δ' => rw [hgk] at q3; exact q3
          | ct δ' => rw [hgk] at q3; exact q3
          | rt d' => rw [hgk] at q3; exact q3
          | ex c' fs' => rw [hgk] at q3; exact q3
          | stuck => rw [hgk] at q3; exact q3
        | ex c fs' =>
          exact fun cls dx H2 hn k2 xf => ⟨rfl, k1.trans k2, c, fs', hn, by rw [ec, em, h], xf⟩
        | stuck => rw [h] at q1; exact q1
      · have em : callX nn m (ds ++ d0) = .stuck := if_neg hl
        rw [em] at q1
        exact q1.elim
  · cases fl with
    | next => obtain ⟨σ', H', J, z⟩ := h1; exact D1nx σ' H' z s1 (inv_untry I.ok J)
    | brk => obtain ⟨σ', H', J, z⟩ := h1; exact ⟨σ', H', inv_untry I.ok J, z⟩
    | cont => obtain ⟨σ', H', J, z⟩ := h1; exact ⟨σ', H', inv_untry I.ok J, z⟩
    | ret u => obtain ⟨v, σ', H', J, r, z⟩ := h1; exact ⟨v, σ', H', inv_untry I.ok J, r, z⟩⟩
end
end L3
namespace L3
open PySem PySem.Spec PyProof.Rows L2 SeqAt
def tryF (fs : DSt → Res (List D)) (nn : Nat) (m : List D → Res D) (d0 : List D) : DSt → Res D := fun δ => (noex (fs δ)).bind fun ds => callX nn m (ds ++ d0)
def gsAs (i : Nat) (gsu : DSt → Out) : Str → List D → DSt → Out := fun c fs δ => unsetO i (gsu (δ.set i (some (.d (.exc c fs)))))
section
variable {X : Cx} {xw : XW} {a : Expr} {es : List Expr} {fs : DSt → Res (List D)} {p pos cpos hpos tpos np : Pos} {st b₀ : Stmt} {suite orelse : List Stmt} {k nn : Nat} {x C n : Str} {m : List D → Res D} {gK : D → DSt → Out} {go gsu : DSt → Out}
theorem cat_as (i : Nat) (cs : List Str) (hcs : ∀ c ∈ cs, MatchX X.K C c) (hex : X.ex = []) (hst : X.stack = X.env :: X.outer) (hfr : X.env.frame = some X.env.locals) (hN : X.N.Nodup) (hi : X.N[i]? = some n) (hk : X.env.kindOf n = some .local) (hgC : Gl X C) (hdC : (C == ("__debug__" : Str)) = false)
    (hsu : ∀ a, XSs (markX X a) xwF (b₀ :: suite) gsu) (pins : List (Addr × Obj)) (σ : L2.St) (H H0 H' : Hp) (s s' : Shared) (ar : Addr) (cls : Value) (dx : Option Addr) (c : Str) (xs : List D) (W₀ : WS) (H₀ : Hp) (W : WS) (δ : DSt) (Dn : Ends) (I : Inv X pins σ H s) (os : s'.os = s.os) (bare : AllBare s'.gens) (fl : Fly X.prog X.w X.stack H s H' ar cls dx s'.heap) (xf : ExF H' dx xs)
    (hn : PySem.W.nsIn X.K mainGlobals c = some (some cls)) (hc : c ∈ cs) (sth : StHas X.K W₀ H₀ W H0 σ δ) (sm : Same H0 H') (q : RS X.K xw W₀ H₀ W H0 (gsAs i gsu c xs δ) Dn) :
    wpAny (model X.prog X.w) X.A (noteFrame (.ref ar) X.env) (fun _ s₂ => wpAny (model X.prog X.w) X.A (setFlight (.ref ar) none) (fun _ s₃ =>
      wpAny (model X.prog X.w) X.A (handleBy (.ref ar) X.env [.ExceptHandler (some (.Name C np)) (some n) (b₀ :: suite) hpos]) (SP X pins Dn) X.xe s₃) X.xe s₂) X.xe s' := by
  obtain ⟨vc, vC, e1, e2, e3⟩ := (hcs c hc).ex
  rw [hn] at e1
  cases e1
  have k2 : Same H0 (upd H' ar (.ext (ExcAt ar cls dx))) := fun b o e => by rw [upd_ne (ne_of_none (sm b o e) fl.nh)]; exact sm b o e
  refine caught_as (t := tDS X.K xwF gsu) I hex hst hfr os bare fl hgC e2 e3 hdC hN hi hk (fun a => (hsu a).h) ⟨W₀, H₀, W, δ.set i (some (.d (.exc c xs))), (sth.same k2).set (x := .exc c xs) (v := .ref ar) (by rw [Has]; exact ⟨ar, cls, dx, rfl, hn, upd_same, xf.to (fun b o u e => by rw [upd_ne (ne_of_none e fl.nh)]; exact e) fun b kvs e => by rw [upd_ne (ne_of_none e fl.nh)]; exact e⟩), ?_⟩
  unfold gsAs at q
  cases hq : gsu (δ.set i (some (.d (.exc c xs)))) with
  | nx δ' => rw [hq] at q; exact fun W' H2 σ2 stp st2 => q W' H2 _ ((Step.same k2).trans stp) (st2.unset i)
  | bk δ' => rw [hq] at q; exact fun W' H2 σ2 stp st2 => q W' H2 _ ((Step.same k2).trans stp) (st2.unset i)
  | ct δ' => rw [hq] at q; exact fun W' H2 σ2 stp st2 => q W' H2 _ ((Step.same k2).trans stp) (st2.unset i)
  | rt d => rw [hq] at q; exact q
  | ex c' fs' => rw [hq] at q; exact q.elim
  | stuck => rw [hq] at q; exact q.elim
theorem s_tryAs (i : Nat) (cs : List Str) (F : FnX X.prog X.w X.K X.mg X.base k x nn m) (hcs : ∀ c ∈ cs, MatchX X.K C c) (hN : X.N.Nodup) (hr : Room k X.A) (ha : XA X.nox xwF (a :: es) fs) (kd : KindX X (.Call (.Name x p) (a :: es) [] cpos) st gK) (hor : XSs X xw orelse go)
    (hsu : ∀ a, XSs (markX X a) xwF (b₀ :: suite) gsu) (hi : X.N[i]? = some n := by rfl) (hk : X.env.kindOf n = some .local := by rfl) (hex : X.ex = [] := by rfl) (hst : X.stack = X.env :: X.outer := by rfl) (hfr : X.env.frame = some X.env.locals := by rfl)
    (hgC : Gl X C := by rfl) (hdC : (C == ("__debug__" : Str)) = false := by decide) (hg : Gl X x := by rfl) (hdb : (x == ("__debug__" : Str)) = false := by decide) (he : starEach (a :: es) X.env = (false, eval a X.env) :: starEach es X.env := by rfl) (hpl : (backTo cpos (starEach es X.env)).any (·.1) = false := by rfl) :
    XS X xw (.Try [st] [.ExceptHandler (some (.Name C np)) (some n) (b₀ :: suite) hpos] orelse [] tpos) (sTry cs (tryF fs nn m []) gK go (gsAs i gsu)) := by
  obtain ⟨fa, fd, ps, G, hm, hkp, hb⟩ := F.ex
  exact try_core cs G hm hkp hb .nil (fun W H => HasL.nil) hr ha kd hor (cat_as i cs hcs hex hst hfr hN hi hk hgC hdC hsu) hg hdb he hpl
end
end L3
namespace L3
open PySem PySem.Spec PySem.Calls PyProof.Rows PySem.W Builtin Builtin.ObjectAttr Builtin.Getset_descriptor
structure ExcK (K : Frag) (C : Addr) : Prop where
  ga : findIn K (.ref C) "__getattribute__" = some (some (.builtin "BaseException.__getattribute__"))
  gt : findIn K (.ref C) "__getattr__" = some none
  cl : findIn K (.ref C) "__class__" = some (some (.builtin "object.__class__"))
  ob : mroIn K C (.type "object") = some true
  be : mroIn K C (.type "BaseException") = some true
theorem ExcK.ci {K : Frag} {C : Addr} (z : ExcK K C) : (clsIn K C).isSome = true := by
  obtain ⟨cd, e, _⟩ := Option.bind_eq_some_iff.mp z.ob
  rw [e]; rfl
section
variable {prog : Program} {w : World} {A : Around} {E : Value → Shared → Prop} {h : Heap} {g : Array GenState} {d : Drawn} {t : Nat} {os : OsState} {K : Frag} {a C : Addr} {o : Obj}
theorem xk_get {tp : Value} {R : Result → Shared → Prop} (X : K.In h) (hx : h.get? a = some o) (hc : o.cls = .ref C) (z : ExcK K C) (hq : R (.ok (.ret (.ref C))) ⟨h, g, d, t, os⟩) :
    codeAny (model prog w) A (.call (.builtin "getset_descriptor.__get__") ⟨[.builtin "object.__class__", .ref a, tp], []⟩) R ⟨h, g, d, t, os⟩ := by
  have L0 : Looks (model prog w) h (typeOf (.ref a)) (.ref C) := hc ▸ (Looks.ld hx).andThen .now
  have L1 := looks_mroIn (M := model prog w) X z.ob
  refine codeAny_call_builtin KF.slot_gs.plain KF.entry_gs (KF.slot_gs.check _ _ _ _ _ _ _ _ KF.type_class (KF.args_gs _ _ _) ?_)
  unfold Builtin.«getset_descriptor.__get__» descrGet
  rw [dga_obj]
  refine wpAny_bind (wpAny_pure ?_)
  unfold descrGetter descrCheckInstance descrNameAndClass isInstance
  simp only [KF.owner_class]
  repeat lk
  refine ⟨Code.quiet_builtin _ (by decide +kernel), codeAny_builtin KF.entry_class ?_⟩
  unfold Builtin.«object.__class__» shownTypeOf
  repeat lk
  exact hq
theorem xk_entry {tk : Tok} {Q : Fin → Shared → Prop} (X : K.In h) (hx : h.get? a = some o) (hc : o.cls = .ref C) (z : ExcK K C) (hq : Q (.done (.ret (.ref C))) ⟨h, g, d, t, os⟩) :
    wpAny (model prog w) A (Builtin.«object.__getattribute__» ⟨[.ref a, .str "__class__" tk], []⟩) Q E ⟨h, g, d, t, os⟩ := by
  have hT5 : (⟨h, g, d, t, os⟩ : Shared).TypeIs (.builtin "object.__class__") "getset_descriptor" := F.typeOf_object_class
  have L0 : Looks (model prog w) h (typeOf (.ref a)) (.ref C) := hc ▸ (Looks.ld hx).andThen .now
  have L3 := looks_findIn (M := model prog w) X z.cl
  have f5 := F.typeOf_object_class
  have f6 := F.slot_gs_get.lookup
  have f7 := F.slot_gs_set.lookup
  repeat (any_goals (first | assumption | refine wpAny_bind (L0.at ?_) | refine wpAny_bind (L3.at ?_) | wp_step))
  refine xk_get X hx hc z ?_
  repeat (any_goals (first | assumption | wp_step))
theorem xk_call {tk : Tok} {R : Result → Shared → Prop} (X : K.In h) (hx : h.get? a = some o) (hc : o.cls = .ref C) (z : ExcK K C) (hq : R (.ok (.ret (.ref C))) ⟨h, g, d, t, os⟩) :
    codeAny (model prog w) A (.call (.builtin "BaseException.__getattribute__") ⟨[.ref a, .str "__class__" tk], []⟩) R ⟨h, g, d, t, os⟩ := by
  have L0 : Looks (model prog w) h (typeOf (.ref a)) (.ref C) := hc ▸ (Looks.ld hx).andThen .now
  have L1 := looks_mroIn (M := model prog w) X z.be
  have hk : builtinKind "BaseException.__getattribute__" = some .slot := by decide +kernel
  have hsplit : splitId "BaseException.__getattribute__" = some ("BaseException", "__getattribute__") := by decide +kernel
  have ha := F.args_bexc_ga (.ref a) (.str "__class__" tk)
  have hp : plainId "BaseException.__getattribute__" = true := by decide +kernel
  refine codeAny_call_builtin hp F.entry_bexc_ga ?_
  simp only [checkBuiltinCall, hk, hsplit]
  refine wpAny_bind ((L0.andThen L1).at ?_)
  simp only [Bool.not_true, Bool.false_eq_true, if_false]
  repeat (first | assumption | exact xk_entry X hx hc z hq | wp_step)
theorem xk_by {tk : Tok} {fill expr : Bool} {Q : Value → Shared → Prop} (X : K.In h) (hx : h.get? a = some o) (hc : o.cls = .ref C) (z : ExcK K C) (hq : Q (.ref C) ⟨h, g, d, t, os⟩) :
    wpAny (model prog w) A (getAttrBy (.ref a) (.str "__class__" tk) fill expr) Q E ⟨h, g, d, t, os⟩ := by
  have L0 : Looks (model prog w) h (typeOf (.ref a)) (.ref C) := hc ▸ (Looks.ld hx).andThen .now
  have L1 := looks_findIn (M := model prog w) X z.ga
  have L2 := looks_findIn (M := model prog w) X z.gt
  have f3 : bindSpecial (.builtin "BaseException.__getattribute__") (.ref a) = pure (.builtin "BaseException.__getattribute__", [.ref a]) := F.excAttr_ValueError.ga.bind (.ref a)
  have hx0 : (expr && onTheHeap (Value.builtin "BaseException.__getattribute__")) = false := by cases expr <;> rfl
  have hx2 : (Value.builtin "BaseException.__getattribute__" == Value.builtin "object.__getattribute__") = false := by decide +kernel
  have hx1 : (onTheHeap (Value.ref C) && Value.builtin "BaseException.__getattribute__" == Value.builtin "object.__getattribute__") = false := by rw [hx2]; rfl
  repeat (any_goals (first | assumption | refine wpAny_bind (L0.at ?_) | refine wpAny_bind (L1.at ?_) | refine wpAny_bind (L2.at ?_) | wp_step))
  refine xk_call X hx hc z ?_
  repeat (any_goals (first | assumption | wp_step))
theorem xk_class {Q : Option Value → Shared → Prop} (X : K.In h) (hx : h.get? a = some o) (hc : o.cls = .ref C) (z : ExcK K C) (hq : Q (some (.ref C)) ⟨h, g, d, t + 1, os⟩) :
    wpAny (model prog w) A (getAttr? (.ref a) "__class__") Q E ⟨h, g, d, t, os⟩ := by
  unfold getAttr? getAttrBy?
  exact wpAny_bind (wpAny_mkText (wpAny_bind (wpAny_attempt (xk_by X hx hc z (wpAny_pure hq)))))
theorem kitx_exc (z : ExcK K C) : KitX K (.ref a) (.ref C) (fun h => ∃ o, h.get? a = some o ∧ o.cls = .ref C) where
  ty := fun M h _ ⟨o, hx, hc⟩ => hc ▸ (Looks.ld hx).andThen .now
  it := fun M h X _ => by
    have hci := z.ci
    unfold clsIn at hci
    split at hci
    · rename_i c' d' cd' sl' ho
      intro A' Q' E' s' k q
      unfold isType loadHead
      exact wpAny_bind (wpAny_loadPart (k _ _ (X _ _ ho)) (wpAny_pure q))
    · cases hci
  ne := fun h tp dd its n sl X htp => by
    have hci := z.ci
    refine Bool.eq_false_iff.mpr fun q => ?_
    have e : C = tp := Value.ref.inj (beq_iff_eq.mp q)
    subst e
    unfold clsIn at hci
    split at hci
    · rename_i c' d' cd' sl' ho
      have zz := (X _ _ ho).symm.trans htp
      cases zz
    · cases hci
  ca := fun {prog w A E Q s} X ⟨o, hx, hc⟩ k => by
    obtain ⟨hh, g, d, t, os⟩ := s
    exact xk_class X hx hc z k
end
end L3
namespace L3
open PySem PySem.Spec PyProof.Rows L2 SeqAt
section
variable {X : Cx} {xw : XW} {a : Expr} {es : List Expr} {fa : DSt → Res D} {fs : DSt → Res (List D)} {pos p p2 : Pos} {c : Str}
inductive IsC (K : PySem.W.Frag) (mg : Str → Option Value) : Str → V → Prop
  | own {c : Str} {C : Addr} : mg c = some (.ref C) → IsC K mg c (.ref C)
  | blt {c : Str} {T : String} : mg c = none → bootBuiltins c = some (.type T) → c ≠ "__name__" → IsC K mg c (.ty T)
structure XC (X : Cx) (e : Expr) (v : V) : Prop where
  h : PE X e (tC v)
structure XCs (X : Cx) (es : List Expr) (vs : List V) : Prop where
  h : PA X es (fun _ H Q => Q vs H)
theorem c_name {v : V} (hc : IsC X.K X.mg c v) (hg : Gl X c := by rfl) (hd : (c == ("__debug__" : Str)) = false := by decide) : XC X (.Name c pos) v := ⟨by
  cases hc with
  | own h => exact pe_glob hg h rfl hd
  | blt h1 h2 h3 => exact pe_bltn hg h1 h2 rfl h3 hd⟩
theorem cs_nil : XCs X [] [] := ⟨pa_nil⟩
theorem cs_cons {e : Expr} {v : V} {vs : List V} (h : XC X e v) (t : XCs X es vs) (hs : starEach (e :: es) X.env = (false, eval e X.env) :: starEach es X.env := by rfl) : XCs X (e :: es) (v :: vs) := ⟨PA.weak (pa_cons h.h t.h hs) fun σ H Q q => q⟩
def valC : V → Value
  | .ref a => .ref a
  | .ty T => .type T
  | _ => .none
def isiXR (tb : List (Str × Bool)) : D → Res D
  | .exc c _ => match tb.lookup c with
    | some b => .ok (.bl b)
    | none => .stuck
  | _ => .stuck
structure IsiX (K : PySem.W.Frag) (tb : List (Str × Bool)) (vs : List V) : Prop where
  cls : ∀ v ∈ vs, (∃ a, v = .ref a) ∨ ∃ T, v = .ty T
  ok : ∀ c b, tb.lookup c = some b → ∃ C, PySem.W.nsIn K mainGlobals c = some (some (.ref C)) ∧ ExcK K C ∧ PySem.W.kitAny K (.ref C) (vs.map valC) = some b
theorem clsC_nil : ∀ v ∈ ([] : List V), (∃ a, v = V.ref a) ∨ ∃ T, v = V.ty T := fun v h => absurd h (by simp)
theorem clsC_ref {a : Addr} {vs : List V} (h : ∀ v ∈ vs, (∃ a, v = V.ref a) ∨ ∃ T, v = V.ty T) : ∀ v ∈ V.ref a :: vs, (∃ a, v = V.ref a) ∨ ∃ T, v = V.ty T := List.forall_mem_cons.mpr ⟨.inl ⟨a, rfl⟩, h⟩
theorem clsC_ty {T : String} {vs : List V} (h : ∀ v ∈ vs, (∃ a, v = V.ref a) ∨ ∃ T, v = V.ty T) : ∀ v ∈ V.ty T :: vs, (∃ a, v = V.ref a) ∨ ∃ T, v = V.ty T := List.forall_mem_cons.mpr ⟨.inr ⟨T, rfl⟩, h⟩
theorem isiX_nil {K : PySem.W.Frag} {vs : List V} (h : ∀ v ∈ vs, (∃ a, v = V.ref a) ∨ ∃ T, v = V.ty T) : IsiX K [] vs := ⟨h, fun c b e => by simp at e⟩
theorem isiX_cons {K : PySem.W.Frag} {c : Str} {C : Addr} {b : Bool} {tb : List (Str × Bool)} {vs : List V} (hn : PySem.W.nsIn K mainGlobals c = some (some (.ref C))) (z : ExcK K C) (hk : PySem.W.kitAny K (.ref C) (vs.map valC) = some b) (t : IsiX K tb vs) : IsiX K ((c, b) :: tb) vs := ⟨t.cls, fun c' b' e => by
  rw [List.lookup_cons] at e
  cases hx : c' == c with
  | true =>
    rw [hx] at e
    have e' : b = b' := Option.some.inj e
    have ec : c' = c := by simpa using hx
    subst e'; subst ec
    exact ⟨C, hn, z, hk⟩
  | false => rw [hx] at e; exact t.ok c' b' e⟩
theorem vals_cls {vs : List V} : ∀ {us : List Value}, (∀ v ∈ vs, (∃ a, v = V.ref a) ∨ ∃ T, v = V.ty T) → Vals vs us → us = vs.map valC := by
  induction vs with
  | nil => intro us _ r; cases r; rfl
  | cons v vs ih =>
    intro us h r
    cases r with
    | cons r t =>
      rw [List.map_cons, ← ih (fun w hw => h w (List.mem_cons_of_mem _ hw)) t]
      rcases h v List.mem_cons_self with ⟨a, rfl⟩ | ⟨T, rfl⟩
      · rw [show _ = Value.ref a from r]; rfl
      · rw [show _ = Value.type T from r]; rfl
theorem exc_has {K : PySem.W.Frag} {W : WS} {H : Hp} {c : Str} {fs : List D} {v : V} (h : HasT K W H (.exc c fs) v) : ∃ a C dx, v = .ref a ∧ PySem.W.nsIn K mainGlobals c = some (some C) ∧ H a = some (.ext (ExcAt a C dx)) ∧ ExF H dx fs := by
  rcases h with h | ⟨ds, a, xs, h1, _⟩
  · rw [Has] at h
    exact h
  · cases h1
theorem call_isiX {tb : List (Str × Bool)} {vs : List V} (hi : IsiX X.K tb vs) : CallR X (.builtin "isinstance") (fun xs H Q => ∃ x c a C dx t b, xs = [x, .ref t] ∧ x = .ref a ∧ PySem.W.nsIn X.K mainGlobals c = some (some C) ∧ H a = some (.ext (ExcAt a C dx)) ∧ H t = some (.tup vs) ∧ tb.lookup c = some b ∧ Q (.bl b) H) := by
  intro pins s σ H xs us Q I r h
  obtain ⟨x, c, a, C, dx, t, b, rfl, rfl, hn, ha, ht, hb, q⟩ := h
  obtain ⟨u, u2, rfl, rx, rc⟩ := r.two
  obtain rfl : u = Value.ref a := rx
  obtain rfl : u2 = Value.ref t := rc
  obtain ⟨C', hn', z, hk⟩ := hi.ok c b hb
  rw [hn] at hn'
  cases hn'
  obtain ⟨⟨oe, ws, he, hc, _⟩, _⟩ := I.hok a _ ha
  obtain ⟨_, its, rv, ⟨cl, dd, dat, sl⟩, ho, hcl, n, hd⟩ := I.hok t _ ht
  simp only at hcl hd
  subst hcl hd
  have ei := vals_cls hi.cls rv
  rw [← ei] at hk
  exact PySem.W.kia_tup (kitx_exc (a := a) z) I.kIn ⟨oe, he, hc⟩ ho hk (fun z => nomatch z) fun tk => ⟨.bl b, H, I.tok tk, rfl, q⟩
theorem call_isiX1 {tb : List (Str × Bool)} {vc : V} (hi : IsiX X.K tb [vc]) : CallR X (.builtin "isinstance") (fun xs H Q => ∃ x c a C dx b, xs = [x, vc] ∧ x = .ref a ∧ PySem.W.nsIn X.K mainGlobals c = some (some C) ∧ H a = some (.ext (ExcAt a C dx)) ∧ tb.lookup c = some b ∧ Q (.bl b) H) := by
  intro pins s σ H xs us Q I r h
  obtain ⟨x, c, a, C, dx, b, rfl, rfl, hn, ha, hb, q⟩ := h
  obtain ⟨u, u2, rfl, rx, rc⟩ := r.two
  obtain rfl : u = Value.ref a := rx
  obtain ⟨C', hn', z, hk⟩ := hi.ok c b hb
  rw [hn] at hn'
  cases hn'
  obtain ⟨⟨oe, ws, he, hc, _⟩, _⟩ := I.hok a _ ha
  have ei : u2 = valC vc := by
    rcases hi.cls vc List.mem_cons_self with ⟨a, rfl⟩ | ⟨T, rfl⟩
    · exact rc
    · exact rc
  subst ei
  have hk1 : PySem.W.kitOne X.K (.ref C') (valC vc) = some b := by
    have hk' : (match PySem.W.kitOne X.K (.ref C') (valC vc) with | some true => some true | some false => some false | none => none) = some b := hk
    split at hk' <;> simp_all
  exact PySem.W.kia_one (kitx_exc (a := a) z) I.kIn ⟨oe, he, hc⟩ hk1 (fun z => nomatch z) fun tk => ⟨.bl b, H, I.tok tk, rfl, q⟩
theorem x_isiX {tb : List (Str × Bool)} {vs : List V} {ces : List Expr} {kt : Nat} (hi : IsiX X.K tb vs) (hm : X.mg "isinstance" = none) (ha : XP X xw a fa) (hcs : XCs X ces vs) (hl : vs.length ≤ 1000 := by simp) (hg : Gl X "isinstance" := by rfl)
    (he : starEach [a, .Tuple ces kt p2] X.env = (false, eval a X.env) :: starEach [.Tuple ces kt p2] X.env := by rfl) (he2 : starEach [.Tuple ces kt p2] X.env = (false, eval (.Tuple ces kt p2) X.env) :: starEach [] X.env := by rfl)
    (hpl : (backTo pos (starEach [.Tuple ces kt p2] X.env)).any (·.1) = false := by rfl) :
    XE X xw (.Call (.Name "isinstance" p) [a, .Tuple ces kt p2] [] pos) (b1 (isiXR tb) fa) := ⟨
  PE.weak (pe_callB (call_isiX hi) hg hm (by decide +kernel) (pa_cons ha.h (pa_cons (pe_tup hcs.h) pa_nil he2) he) (by decide) (by decide) he hpl) fun σ H Q ⟨W₀, H₀, W, δ, st, q⟩ => one_read st q fun H2 d v k w st2 hv _ q2 => by
    unfold isiXR at q2
    cases d with
    | exc c fs =>
      dsimp only at q2
      split at q2
      · rename_i b hb
        obtain ⟨ar, C, dx, e, hn, hH, _⟩ := exc_has hv
        refine ⟨by rw [sizeLine_eq]; omega, fun t ht => ⟨v, c, ar, C, dx, t, b, rfl, e, hn, ?_, upd_same, hb, ?_⟩⟩
        · rw [upd_ne (ne_of_none hH ht)]; exact hH
        · exact q2 _ _ (fun b o e => by rw [upd_ne (ne_of_none e ht)]; exact e) (by rw [Has])
      · exact q2.elim
    | _ => exact q2.elim⟩
theorem x_isiX1 {tb : List (Str × Bool)} {vc : V} {ce : Expr} (hi : IsiX X.K tb [vc]) (hm : X.mg "isinstance" = none) (ha : XP X xw a fa) (hcs : XC X ce vc) (hg : Gl X "isinstance" := by rfl)
    (he : starEach [a, ce] X.env = (false, eval a X.env) :: starEach [ce] X.env := by rfl) (he2 : starEach [ce] X.env = (false, eval ce X.env) :: starEach [] X.env := by rfl)
    (hpl : (backTo pos (starEach [ce] X.env)).any (·.1) = false := by rfl) :
    XE X xw (.Call (.Name "isinstance" p) [a, ce] [] pos) (b1 (isiXR tb) fa) := ⟨
  PE.weak (pe_callB (call_isiX1 hi) hg hm (by decide +kernel) (pa_cons ha.h (pa_cons hcs.h pa_nil he2) he) (by decide) (by decide) he hpl) fun σ H Q ⟨W₀, H₀, W, δ, st, q⟩ => one_read st q fun H2 d v k w st2 hv _ q2 => by
    unfold isiXR at q2
    cases d with
    | exc c fs =>
      dsimp only at q2
      split at q2
      · rename_i b hb
        obtain ⟨ar, C, dx, e, hn, hH, _⟩ := exc_has hv
        exact ⟨v, c, ar, C, dx, b, rfl, e, hn, hH, hb, q2.bl⟩
      · exact q2.elim
    | _ => exact q2.elim⟩
end
end L3
namespace L3
open PySem PySem.Spec PyProof.Rows L2 SeqAt
section
variable {X : Cx} {xw : XW} {a b c tg : Expr} {pos p : Pos}
end
def picks {α : Type} (xs : List α) (lo st : Option Int) : List α := (sliceRange (sliceBounds lo none st xs.length).1 (sliceBounds lo none st xs.length).2.1 (sliceBounds lo none st xs.length).2.2).filterMap (xs[·]?)
theorem vals_fm {xs : List V} {us : List Value} (r : Vals xs us) : ∀ l : List Nat, Vals (l.filterMap (xs[·]?)) (l.filterMap (us[·]?))
  | [] => .nil
  | i :: l => by
    rw [List.filterMap_cons, List.filterMap_cons]
    have g : ∀ {xs : List V} {us : List Value}, Vals xs us → ∀ i : Nat, (xs[i]? = none ∧ us[i]? = none) ∨ ∃ x u, xs[i]? = some x ∧ us[i]? = some u ∧ RelV x u := by
      intro xs us r
      induction r with
      | nil => intro i; exact .inl ⟨rfl, rfl⟩
      | cons h r ih =>
        intro i
        cases i with
        | zero => exact .inr ⟨_, _, rfl, rfl, h⟩
        | succ i => simpa using ih i
    rcases g r i with ⟨e1, e2⟩ | ⟨x, u, e1, e2, h⟩
    · rw [e1, e2]; exact vals_fm r l
    · rw [e1, e2]; exact .cons h (vals_fm r l)
theorem hasL_fm {K : PySem.W.Frag} {W : WS} {H : Hp} {ds : List D} {xs : List V} (r : HasL K W H ds xs) : ∀ l : List Nat, HasL K W H (l.filterMap (ds[·]?)) (l.filterMap (xs[·]?))
  | [] => HasL.nil
  | i :: l => by
    rw [List.filterMap_cons, List.filterMap_cons]
    have g : ∀ {ds : List D} {xs : List V}, HasL K W H ds xs → ∀ i : Nat, (ds[i]? = none ∧ xs[i]? = none) ∨ ∃ d x, ds[i]? = some d ∧ xs[i]? = some x ∧ Has K W H d x := by
      intro ds
      induction ds with
      | nil => intro xs r i; rw [HasL] at r; subst r; exact .inl ⟨rfl, rfl⟩
      | cons d ds ih =>
        intro xs r i
        rw [HasL] at r
        obtain ⟨v, r', rfl, hv, hr⟩ := r
        cases i with
        | zero => exact .inr ⟨_, _, rfl, rfl, hv⟩
        | succ i => simpa using ih hr i
    rcases g r i with ⟨e1, e2⟩ | ⟨x, u, e1, e2, h⟩
    · rw [e1, e2]; exact hasL_fm r l
    · rw [e1, e2]; exact HasL.cons h (hasL_fm r l)
section
variable {X : Cx} {xw : XW} {a : Expr} {lo : Option Expr} {st : Expr} {fa : DSt → Res D} {fl fh : DSt → Res (Option Int)} {pos p2 : Pos}
def tPick (K : PySem.W.Frag) (te : TE) (tl th : TO) : TE := fun σ H Q => te σ H fun x H1 => tl σ H1 fun l H2 => th σ H2 fun u H3 => ∃ a xs, x = .ref a ∧ SqL K H3 a xs ∧ u ≠ some 0 ∧ ∀ p, H3 p = none → Q (.ref p) (upd H3 p (.lst (picks xs l u)))
theorem pe_pick {te : TE} {tl th : TO} (he : PE X a te) (hl : PO X lo tl) (hu : PO X (some st) th) : PE X (.Subscript a (.Slice lo none (some st) p2) pos) (tPick X.K te tl th) := by
  intro pins s σ H Q I h
  refine Subscript_ (thn (he pins s σ H _ I h) fun v s1 ⟨x, H1, I1, r1, q1⟩ => ?_)
  refine wpAny_Slice (thn (hl pins s1 σ H1 _ I1 q1) fun vl s2 ⟨l, H2, I2, pl, q2⟩ => ?_)
  rw [evalPart_none]
  refine wpAny_pure (thn (hu pins s2 σ H2 _ I2 q2) fun vu s3 ⟨u, H3, I3, pu, q3⟩ => ?_)
  obtain ⟨b, xs, rfl, sq, h0, q⟩ := q3
  cases (show v = Value.ref b from r1)
  have I4 : Inv X pins σ H3 { s3 with heap := s3.heap.push { cls := .type "slice", data := .fields #[vl, .none, vu] } } := I3.kept (t' := s3.toks) fun b ob q => Heap.get?_push_of_some _ q
  obtain ⟨its, r, ht, hz⟩ := I4.list sq
  have hlen := r.length
  show wpAny (model X.prog X.w) X.A (subscriptTail a (.Slice lo none (some st) p2) (.ref b) (.ref s3.heap.objs.size)) (EP X pins σ Q) X.xe { s3 with heap := s3.heap.push { cls := .type "slice", data := .fields #[vl, .none, vu] } }
  refine tail_any (ops := [.ref b, .ref s3.heap.objs.size]) ht.isList.typeIs slot_list_getitem.lookup ?_ (by with_unfolding_all rfl)
  refine wpAny_getItem_list_slice ht.isList (Heap.IsSliceOf.new ..) pl .none pu h0 ?_ (by rw [List.size_toArray] <;> omega)
  have hsz := slicePick_size_le its.toArray l none u
  have e : slicePick its.toArray l none u = (picks its l u).toArray := by
    unfold slicePick picks
    simp
  rw [e] at hsz ⊢
  have rr : Vals (picks xs l u) (picks its l u) := by
    unfold picks
    rw [hlen]
    exact vals_fm r _
  exact ⟨.ref _, _, I4.laid (t' := s3.toks) (o := .lst (picks xs l u)) (fun b ob q => Heap.get?_push_of_some _ q) (Nat.le_refl _) ⟨by rw [rr.length]; simp at hsz; omega, _, 0, rr, Heap.get?_push_size _ rfl⟩, rfl, q _ (I4.hok.fresh (Nat.le_refl _))⟩
def slP (d : D) (lo st : Option Int) : Res (List D) := match d with
  | .lst ds => if st = some 0 then .stuck else .ok (picks ds lo st)
  | _ => .stuck
theorem f_slP (ha : XP X xw a fa) (hl : XO X xw lo fl) (hh : XO X xw (some st) fh) : XF X xw (.Subscript a (.Slice lo none (some st) p2) pos) (b3 slP fa fl fh) :=
  ⟨PE.weak (pe_pick ha.h hl.h hh.h) fun σ H Q ⟨W₀, H₀, W, δ, st, q⟩ => sl_read (G := fun H r => RF X.K xw W H r Q) st (fun _ _ _ q => q) (fun _ q => q) (fun _ _ _ k q => RF.same q k) q fun H2 d v l u k w hv q2 => by
    unfold slP at q2
    split at q2
    · split at q2
      · exact q2.elim
      · rename_i h0
        obtain ⟨a1, xs, e1, sq, r⟩ := hv.lst
        refine ⟨a1, xs, e1, sq, h0, fun p hp => q2 p _ H2 (Same.refl _) hp ?_⟩
        unfold picks
        rw [r.length]
        exact hasL_fm r _
    · exact q2.elim⟩
end
end L3
namespace L3
open PySem PySem.Spec PyProof.Rows L2 SeqAt
section
variable {X : Cx} {xw : XW}
end
end L3
namespace L3
open PySem PySem.Spec PyProof.Rows L2 SeqAt
theorem us1 {P : List Value → Prop} (h : ∀ a0 : Value, P [a0]) : ∀ us : List Value, us.length = 1 → P us
  | [a0], _ => h a0
theorem us2 {P : List Value → Prop} (h : ∀ a0 a1 : Value, P [a0, a1]) : ∀ us : List Value, us.length = 2 → P us
  | [a0, a1], _ => h a0 a1
theorem us4 {P : List Value → Prop} (h : ∀ a0 a1 a2 a3 : Value, P [a0, a1, a2, a3]) : ∀ us : List Value, us.length = 4 → P us
  | [a0, a1, a2, a3], _ => h a0 a1 a2 a3
section
variable {K : PySem.W.Frag} {W₀ W : WS} {H₀ H H' : Hp} {σ : L2.St} {δ : DSt}
end
def fldsR : List (Str × (DSt → Res D)) → DSt → Res (List D)
  | [], _ => .ok []
  | p :: r, δ => (p.2 δ).bind fun d => (fldsR r δ).bind fun ds => .ok (d :: ds)
def RI (K : PySem.W.Frag) (W₀ : WS) (H₀ : Hp) (W : WS) (δ : DSt) (σ : L2.St) (C dx x : Addr) (ks : List Str) (ds : List D) (r : Res (List D)) (Dn : Ends) : Prop := match r with
  | .ok es => ∀ H' fl', StHas K W₀ H₀ W H' σ δ → H' x = some (.ins C dx fl') → fl'.map (·.1) = ks → HasL K W H' (ds ++ es) (fl'.map (·.2)) → Dn.nx σ H'
  | _ => False
def tInit (K : PySem.W.Frag) (C : Addr) (fs : List (Str × (DSt → Res D))) : TS := fun Dn σ H => ∃ W₀ H₀ W δ x dx fl ds, StHas K W₀ H₀ W H σ δ ∧ σ[0]? = some (some (.ref x)) ∧ W x ∧ H₀ x = none ∧ H x = some (.ins C dx fl) ∧
  HasL K W H ds (fl.map (·.2)) ∧ (fl.map (·.1) ++ fs.map (·.1)).Nodup ∧ fl.length + fs.length < 1000 ∧ RI K W₀ H₀ W δ σ C dx x (fl.map (·.1) ++ fs.map (·.1)) ds (fldsR fs δ) Dn
structure XIn (X : Cx) (C : Addr) (sts : List Stmt) (fs : List (Str × (DSt → Res D))) : Prop where
  h : PSs X sts (tInit X.K C fs)
section
variable {X : Cx} {xw : XW} {C : Addr} {e a : Expr} {es : List Expr} {f fa fb : DSt → Res D} {fs : List (Str × (DSt → Res D))} {sts : List Stmt} {pos p p1 p2 p3 : Pos} {fld c : Str}
end
def spI (K : PySem.W.Frag) (C : Addr) (n : Nat) (nl : Nat) (c : Str) (fs : List (Str × (DSt → Res D))) : Sp := fun vs H Q _ => ∃ x dx vs' H1 W ds, vs = V.ref x :: vs' ∧ vs'.length = n ∧ H = upd (upd H1 dx (.own x)) x (.ins C dx []) ∧ H1 x = none ∧ H1 dx = none ∧ dx ≠ x ∧
  WL W H1 ∧ HasL K W H1 ds vs' ∧ match fldsR fs (none :: startD nl ds) with
    | .ok es => ∀ H' fl, Same H1 H' → H' x = some (.ins C dx fl) → fl.map (·.1) = fs.map (·.1) → HasL K W H' es (fl.map (·.2)) → Q .non H'
    | _ => False
structure FnI (P : Program) (w : World) (K : PySem.W.Frag) (mg : Str → Option Value) (base : Heap) (k : Nat) (c : Str) (n nl : Nat) (fs : List (Str × (DSt → Res D))) : Prop where
  ex : ∃ j C f fd ps, j + 1 ≤ k ∧ FnOk P w K mg base CX0 j f fd ps (spI K C n nl c fs) ∧ Mk K C f ∧ mg c = some (.ref C) ∧ PySem.W.nsIn K mainGlobals c = some (some (.ref C)) ∧ Binds K fd ps []
theorem FnI.mono {P : Program} {w : World} {K : PySem.W.Frag} {mg : Str → Option Value} {base : Heap} {j k n nl : Nat} {c : Str} {fs : List (Str × (DSt → Res D))} (F : FnI P w K mg base j c n nl fs) (h : j ≤ k) : FnI P w K mg base k c n nl fs := by
  obtain ⟨i, C, f, fd, ps, a, b⟩ := F.ex
  exact ⟨i, C, f, fd, ps, Nat.le_trans a h, b⟩
section
variable {X : Cx} {xw : XW} {e a b : Expr} {es : List Expr} {f fa fb : DSt → Res D} {gs : DSt → Res (List D)} {fs : List (Str × (DSt → Res D))} {pos p p1 p2 p3 : Pos} {fld c : Str}
structure FldK (K : PySem.W.Frag) (c fld : Str) : Prop where
  ex : ∃ C, PySem.W.nsIn K mainGlobals c = some (some (.ref C)) ∧ Cls K C ∧ NoAttr K C fld
def EntT (w : World) (e : DictEntry) (p : Str × Str) : Prop := e.hash = keyH w (.inr p.1) ∧ (∃ t, e.key = .str p.1 t) ∧ ∃ t, e.val = .str p.2 t
structure GlobQ (w : World) (K : PySem.W.Frag) (mg : Str → Option Value) (x : Str) (l : List (Str × Str)) : Prop where
  h : ∃ (ad : Addr) (o : Obj) (es : Array DictEntry) (n : Nat), mg x = some (.ref ad) ∧ K.lookup ad = some o ∧ o.ExactDict ∧ o.data = .dict es n ∧ Paired (EntT w) es.toList l ∧ (l.map (·.1)).Nodup
end
end L3
namespace L3
open PySem PySem.Spec PyProof.Rows L2 SeqAt
section
variable {X : Cx} {xw : XW} {e a b : Expr} {f fa fb : DSt → Res D} {pos pos' p p1 p2 p3 : Pos}
end
end L3
namespace L3
open PySem PySem.Spec PyProof.Rows L2 SeqAt
section
variable {X : Cx} {xw : XW} {e : Expr} {ff : DSt → Res (List D)} {pos : Pos}
end
end L3
namespace L3
open PySem PySem.Spec PyProof.Rows L2 SeqAt
section
variable {X : Cx} {xw : XW} {a b : Expr} {fa fb : DSt → Res D} {pos : Pos}
end
end L3
namespace L2
open PySem PySem.Spec PyProof.Rows
variable {X : Cx} {pos : Pos}
end L2
namespace L3
open PySem PySem.Spec PyProof.Rows L2 SeqAt
variable {X : Cx} {pos : Pos} {tgs : List Expr} {ts : List D → DSt → Res DSt}
end L3
namespace PySem
open Sem (wp)
section
variable {prog : Program} {w : World} {A : Around} {E : Value → Shared → Prop} {h : Heap} {g : Array GenState} {d : Drawn} {t : Nat} {os : OsState}
variable {nm q : Str} {C N f : Addr} {bs bm bmB : List Value} {hdct : Bool} {sn : List Str} {sub : List Value} {ab : Bool} {col : Option Bool} {dd : Option Addr} {k0 k1 k2 k3 k5 : Option Value} {B newId initId : String}
def excAt (h : Heap) (C : Addr) (rest : List Value) : Heap := (h.push { cls := .type "tuple", data := .seq rest.toArray }).push { cls := .ref C, data := .fields #[.ref h.objs.size, .none, .none, .none, .bool false, .none] }
theorem excAt_get {b : Addr} {o : Obj} {rest : List Value} (e : h.get? b = some o) : (excAt h C rest).get? b = some o := Heap.get?_push_of_some _ (Heap.get?_push_of_some _ e)
theorem excAt_new (rest : List Value) : (excAt h C rest).get? (h.objs.size + 1) = some { cls := .ref C, data := .fields #[.ref h.objs.size, .none, .none, .none, .bool false, .none] } := by
  unfold excAt
  heap_get
theorem made_own (F : ExcBaseFacts B newId initId bmB) (T : OwnTail h bmB bm) {mN : Str → Option Value} {rest : List Value} {Q : Fin → Shared → Prop}
    (kl : h.get? C = some (excClassObj nm q C N bs bm hdct sn sub ab col dd k0 k1 k2 k3 k5 newId)) (ns : h.Ns N mN) (hi : mN "__init__" = some (.ref f)) (hrest : rest.length ≤ sizeLine)
    (hb : ∀ self : Value, W.Looks (model prog w) h (bindSpecial (.ref f) self) (.ref f, [self]))
    (hq : codeAny (model prog w) A (.call (.ref f) ⟨.ref (h.objs.size + 1) :: rest, []⟩) (fun r s' => match r with
      | .ok (.ret v) => v = .none ∧ Q (.done (.ret (.ref (h.objs.size + 1)))) s'
      | .ok _ => False
      | .error e => E e s') ⟨excAt h C rest, g, d, t, os⟩) :
    wpAny (model prog w) A (Builtin.«type.__call__» ⟨.ref C :: rest, []⟩) Q E ⟨h, g, d, t, os⟩ := by
  repeat (first | with_reducible refine wpAny_loadPart_at kl ?_ | with_reducible refine wpAny_madeBy_exc kl ?_ | wp_step)
  refine codeAny_call_builtin_code (Code.quiet_builtin _ F.quiet) (wpAny_check_new_subT F T kl ?_)
  refine codeAny_exc_new_subT F T kl ?_ hrest
  show wpAny _ _ _ _ _ _
  have kl1 : (excAt h C rest).get? C = _ := excAt_get kl
  have ns1 : (excAt h C rest).Ns N mN := by
    obtain ⟨o, es, ep, e, r⟩ := ns
    exact ⟨o, es, ep, excAt_get e, r⟩
  have tl1 := T.keeps (h' := excAt h C rest) fun b o e => excAt_get e
  have hb1 := W.Looks.keeps (hb (.ref (h.objs.size + 1))) (h' := excAt h C rest) fun b o e => excAt_get e
  have at1 := excAt_new (h := h) (C := C) rest
  have own : (Value.ref C :: bm).contains (.ref C) = true := by simp
  show wpAny _ _ _ _ _ ⟨excAt h C rest, g, d, t, os⟩
  generalize excAt h C rest = h1 at *
  unfold isInstance
  repeat (first | with_reducible refine wpAny_loadPart_at at1 ?_ | (with_reducible refine wpAny_isSubtype_exc kl1 ?_; rw [own]) | wp_step)
  show wpAny _ _ (typeLookup (.ref C) _) _ _ _
  refine wpAny_typeLookup_tail kl1 ns1 tl1 F.mroIs F.init.lookup ?_
  rw [hi]
  show wpAny _ _ (holding _ (bindSpecial _ _ >>= _)) _ _ _
  refine wpAny_holding (wpAny_bind (W.Looks.at hb1 ?_))
  refine wpAny_bind (wpAny_call (codeAny_mono hq fun r s' z => ?_))
  rcases r with e | (v | _ | _ | _) <;> first | exact z | exact z.elim | skip
  obtain ⟨rfl, z⟩ := z
  exact wpAny_pure (wpAny_pure z)
theorem call_own (F : ExcBaseFacts B newId initId bmB) (T : OwnTail h bmB bm) {mN : Str → Option Value} {rest : List Value} {Q : Value → Shared → Prop}
    (kl : h.get? C = some (excClassObj nm q C N bs bm hdct sn sub ab col dd k0 k1 k2 k3 k5 newId)) (ns : h.Ns N mN) (hi : mN "__init__" = some (.ref f)) (hrest : rest.length ≤ sizeLine)
    (hb : ∀ self : Value, W.Looks (model prog w) h (bindSpecial (.ref f) self) (.ref f, [self]))
    (hq : codeAny (model prog w) (A.under (.builtin "type.__call__" ⟨.ref C :: rest, []⟩)) (.call (.ref f) ⟨.ref (h.objs.size + 1) :: rest, []⟩) (fun r s' => match r with
      | .ok (.ret v) => v = .none ∧ Q (.ref (h.objs.size + 1)) s'
      | .ok _ => False
      | .error e => E e s') ⟨excAt h C rest, g, d, t, os⟩) :
    wpAny (model prog w) A (call (.ref C) rest) Q E ⟨h, g, d, t, os⟩ := by
  have look := tc_lookup
  have bnd := tc_bind (.ref C)
  have isT : (⟨h, g, d, t, os⟩ : Shared).TypeIs (.ref C) "type" := ⟨_, kl, rfl⟩
  refine wpAny_call (codeAny_of_tree ?_)
  show wpAny _ _ (callAny (.ref C) _) _ _ _
  repeat (any_goals (first | assumption | with_reducible refine wpAny_loadPart_at kl ?_ | wp_step))
  refine ⟨rfl, ?_⟩
  refine codeAny_call_builtin_at (Code.quiet_builtin _ (by decide +kernel)) entry_typeCall (wpAny_check_type_call_sub kl (made_own F T kl ns hi hrest hb ?_))
  exact hq
end
end PySem
namespace PySem
open Sem (wp)
open Builtin Builtin.ObjectAttr W
section
variable {prog : Program} {w : World} {A : Around} {E : Value → Shared → Prop} {h : Heap} {g : Array GenState} {d : Drawn} {t : Nat} {os : OsState} {K : Frag}
variable {nm q : Str} {C N e : Addr} {bs bm bmB : List Value} {hdct : Bool} {sn : List Str} {sub : List Value} {ab : Bool} {col : Option Bool} {dd : Option Addr} {k0 k1 k2 k3 k5 : Option Value} {newId : String}
abbrev vTail : List Value := [.type "ValueError", .type "Exception", .type "BaseException", .type "object"]
def overV : Nat → List Value → Bool
  | 0, l => l == vTail
  | n + 1, .ref _ :: r => overV n r
  | _ + 1, _ => false
theorem overV_pass (self : Value) : ∀ {n : Nat} {l : List Value}, overV n l = true → refuseLoop self "__setattr__" l = pure ()
  | 0, _, e => by rw [beq_iff_eq.mp e]; exact F.store_ValueError.passes self
  | n + 1, .ref _ :: r, e => by rw [refuseLoop_ref]; exact overV_pass (n := n) self e
theorem exc_dict {vs : Array Value} {sl : Array (Option Value)} {name : Str} {v : Value} {tk : Tok} {b : Bool} {cd : ClassData} {Q : Fin → Shared → Prop} (KX : K.In h) (he : h.get? e = some ⟨.ref C, none, .fields vs, sl⟩)
    (f4 : clsIn K C = some cd) (f6 : cd.hasDict = true) 
    (hq : ∀ h' tk' dx, (∀ b o, b ≠ e → h.get? b = some o → h'.get? b = some o) → h'.get? e = some ⟨.ref C, some dx, .fields vs, sl⟩ → h.objs.size ≤ dx → h'.Ns1 dx (fun x => if x = name then some v else none) → Q (.done (.ret .none)) ⟨h', g, d, tk', os⟩) :
    wpAny (model prog w) A (storeInOwnDict (.ref e) (.ref C) (.str name tk) name v b) Q E ⟨h, g, d, t, os⟩ := by
  have es : e ≠ h.objs.size := Nat.ne_of_lt (Heap.lt_size he)
  have cl := looks_clsIn (M := model prog w) KX f4
  let d0 : Obj := { cls := .type "dict", data := .dict #[] }
  have he1 : (h.push d0).get? e = some ⟨.ref C, none, .fields vs, sl⟩ := Heap.get?_push_of_some _ he
  unfold storeInOwnDict
  refine wpAny_bind (wpAny_pure ?_)
  show wpAny _ _ (instanceDict e true >>= _) _ _ _
  unfold instanceDict
  refine wpAny_bind (wpAny_bind (wpAny_loadPart he ?_))
  show wpAny _ _ (classData C >>= _) _ _ _
  refine wpAny_bind (cl.at ?_)
  rw [f6]
  show wpAny _ _ (alloc d0 >>= _) _ _ _
  refine wpAny_bind (wpAny_alloc' ?_)
  refine wpAny_bind (wpAny_update' he1 ?_)
  refine wpAny_pure (a := some h.objs.size) ?_
  have gd : ((h.push d0).update e fun o => { cls := o.cls, dict := some h.objs.size, data := o.data, slots := o.slots }).get? h.objs.size = some d0 :=
    (Heap.get?_update_ne _ _ _ _ es.symm).trans (Heap.get?_push_at rfl rfl)
  have ge : ((h.push d0).update e fun o => { cls := o.cls, dict := some h.objs.size, data := o.data, slots := o.slots }).get? e = some ⟨.ref C, some h.objs.size, .fields vs, sl⟩ := Heap.get?_update_self _ he1 rfl
  have kp : ∀ b o, b ≠ e → h.get? b = some o → ((h.push d0).update e fun o => { cls := o.cls, dict := some h.objs.size, data := o.data, slots := o.slots }).get? b = some o := fun b o hb q =>
    (Heap.get?_update_ne _ _ _ _ hb).trans (Heap.get?_push_of_some _ q)
  show wpAny _ _ (storeInDict h.objs.size (.str name tk) name v) _ _ ⟨(h.push d0).update e _, g, d, t, os⟩
  revert gd ge kp
  generalize ((h.push d0).update e fun o => { cls := o.cls, dict := some h.objs.size, data := o.data, slots := o.slots }) = h1
  intro gd ge kp
  have nd : h1.Ns h.objs.size (fun _ => none) := ⟨_, #[], _, gd, rfl, fun e he => absurd he (by simp), fun _ => rfl⟩
  unfold storeInDict newKeyGuard
  refine wpAny_bind (wpAny_pure (wpAny_bind (wpAny_nsSet1 (Heap.Ns1.of_empty nd) fun h' n1 same => ?_)))
  obtain ⟨oD, eD, pD, oDh, dD, cD⟩ := n1.count (Within.cons name v Within.nil)
  refine wpAny_bind (wpAny_lookBehind oDh (by rw [dD]; exact pastItsLine_dict (Nat.le_trans cD (by rw [List.length_cons, List.length_nil, sizeLine_eq]; omega))) ?_)
  refine wpAny_pure (hq h' _ h.objs.size (fun b o hb q => (same.2 b (Nat.ne_of_lt (Heap.lt_size q))).trans (kp b o hb q)) ((same.2 e es).trans ge) (Nat.le_refl _) n1)
theorem osa_exc {vs : Array Value} {sl : Array (Option Value)} {name : Str} {v : Value} {tk : Tok} {cd : ClassData} {n : Nat} {R : Result → Shared → Prop} (KX : K.In h) (he : h.get? e = some ⟨.ref C, none, .fields vs, sl⟩)
    (f2 : findIn K (.ref C) name = some none) (f3 : mroIn K C (.type "object") = some true) (f4 : clsIn K C = some cd) (f5 : overV n cd.mro = true) (f6 : cd.hasDict = true)
    (hq : ∀ h' tk' dx, (∀ b o, b ≠ e → h.get? b = some o → h'.get? b = some o) → h'.get? e = some ⟨.ref C, some dx, .fields vs, sl⟩ → h.objs.size ≤ dx → h'.Ns1 dx (fun x => if x = name then some v else none) → R (.ok (.ret .none)) ⟨h', g, d, tk', os⟩) :
    codeAny (model prog w) A (.call (.builtin "object.__setattr__") ⟨[.ref e, .str name tk, v], []⟩) R ⟨h, g, d, t, os⟩ := by
  have L0 : Looks (model prog w) h (typeOf (.ref e)) (.ref C) := (Looks.ld he).andThen .now
  have L2 := looks_findIn (M := model prog w) KX f2
  have L3 : Looks (model prog w) h (isInstance (.ref e) (.type "object")) true := L0.andThen (looks_mroIn KX f3)
  have L4 : Looks (model prog w) h (mroOf (.ref C)) cd.mro := (looks_clsIn KX f4).andThen .now
  have SF := F.store_object
  refine codeAny_call_builtin SF.slot.plain SF.entry (@check_slot (model prog w) _ _ ⟨h, g, d, t, os⟩ "object.__setattr__" "object" "__setattr__" (.ref e) [.str name tk, v] [] _ SF.kind SF.split L3 (SF.args (.ref e) (.str name tk) v) ?_)
  rw [osa_eq, refuse_eq]
  refine wpAny_bind (wpAny_bind (L0.at (wpAny_bind (L4.at ?_))))
  rw [overV_pass _ f5]
  refine wpAny_pure (wpAny_bind (L0.at (wpAny_bind (L2.at (wpAny_bind (wpAny_pure (a := (none : Option Value)) ?_))))))
  exact exc_dict KX he f4 f6 fun h' tk' dx a b c e => hq h' tk' dx a b c e
theorem exc_store {vs : Array Value} {sl : Array (Option Value)} {name : Str} {v : Value} {cd : ClassData} {n : Nat} {Q : Unit → Shared → Prop} (KX : K.In h) (he : h.get? e = some ⟨.ref C, none, .fields vs, sl⟩)
    (f1 : findIn K (.ref C) "__setattr__" = some (some (.builtin "object.__setattr__"))) (f2 : findIn K (.ref C) name = some none) (f3 : mroIn K C (.type "object") = some true)
    (f4 : clsIn K C = some cd) (f5 : overV n cd.mro = true) (f6 : cd.hasDict = true)
    (hq : ∀ h' tk' dx, (∀ b o, b ≠ e → h.get? b = some o → h'.get? b = some o) → h'.get? e = some ⟨.ref C, some dx, .fields vs, sl⟩ → h.objs.size ≤ dx → h'.Ns1 dx (fun x => if x = name then some v else none) → Q () ⟨h', g, d, tk', os⟩) :
    wpAny (model prog w) A (setAttr (.ref e) name v) Q E ⟨h, g, d, t, os⟩ := by
  have L0 : Looks (model prog w) h (typeOf (.ref e)) (.ref C) := (Looks.ld he).andThen .now
  have L1 := looks_findIn (M := model prog w) KX f1
  unfold setAttr callSpecial? specialOf
  repeat (first | with_reducible refine wpAny_call ?_ | lk)
  refine osa_exc KX he f2 f3 f4 f5 f6 fun h' tk' dx a b c e => ?_
  exact wpAny_pure (wpAny_pure (hq h' tk' dx a b c e))
end
end PySem
namespace PySem
open Sem (wp)
open W
section
variable {prog : Program} {w : World} {A : Around} {E : Value → Shared → Prop} {h : Heap} {g : Array GenState} {d : Drawn} {t : Nat} {os : OsState}
variable {nm q : Str} {C N e : Addr} {bs bm bmB : List Value} {hdct : Bool} {sn : List Str} {sub : List Value} {ab : Bool} {col : Option Bool} {dd : Option Addr} {k0 k1 k2 k3 k5 : Option Value} {B newId initId : String}
theorem exc_base_init (F : ExcBaseFacts B newId initId bmB) (T : OwnTail h bmB bm) (kl : h.get? C = some (excClassObj nm q C N bs bm hdct sn sub ab col dd k0 k1 k2 k3 k5 newId)) {t0 : Addr} {sl : Array (Option Value)} {u : Value} {Q : Value → Shared → Prop}
    (he : h.get? e = some ⟨.ref C, none, .fields #[.ref t0, .none, .none, .none, .bool false, .none], sl⟩)
    (hq : ∀ h' t1, (∀ b o, b ≠ e → h.get? b = some o → h'.get? b = some o) → h'.get? e = some ⟨.ref C, none, .fields #[.ref t1, .none, .none, .none, .bool false, .none], sl⟩ → Q .none ⟨h', g, d, t, os⟩) :
    wpAny (model prog w) A (call (.builtin initId) [.ref e, u]) Q E ⟨h, g, d, t, os⟩ := by
  refine wpAny_call (codeAny_call_builtin F.init.plain F.initEntry (wpAny_check_init_subT F T kl he rfl ?_))
  wp_walk
  have he1 : (h.push { cls := .type "tuple", data := .seq #[u] }).get? e = some ⟨.ref C, none, .fields #[.ref t0, .none, .none, .none, .bool false, .none], sl⟩ := Heap.get?_push_of_some _ he
  refine hq _ h.objs.size (fun b o hb k => ?_) ?_
  · rw [Heap.get?_update_other _ _ (Ne.symm hb)]
    exact Heap.get?_push_of_some _ k
  · rw [Heap.get?_update_self _ he1 rfl]
    rfl
end
end PySem
namespace L2
open PySem PySem.Spec PyProof.Rows
def ExcN (a C : Addr) (h : Heap) : Prop := ∃ t0 sl, h.get? a = some ⟨.ref C, none, .fields #[.ref t0, .none, .none, .none, .bool false, .none], sl⟩
def ExcO (a C : Addr) (dx : Option Addr) (h : Heap) : Prop := ∃ t0 sl, h.get? a = some ⟨.ref C, dx, .fields #[.ref t0, .none, .none, .none, .bool false, .none], sl⟩
theorem excN_ok {P : Program} {w : World} {H : Hp} {h : Heap} {a C : Addr} (x : ExcN a C h) : ObjOk P w H h a (.ext (ExcN a C)) := by
  obtain ⟨t0, sl, e⟩ := x
  exact ⟨⟨t0, sl, e⟩, ⟨_, e⟩, fun h1 h2 ⟨t, z, q⟩ k => ⟨t, z, k _ q⟩⟩
theorem excO_ok {P : Program} {w : World} {H : Hp} {h : Heap} {a C : Addr} {dx : Option Addr} (x : ExcO a C dx h) : ObjOk P w H h a (.ext (ExcO a C dx)) := by
  obtain ⟨t0, sl, e⟩ := x
  exact ⟨⟨t0, sl, e⟩, ⟨_, e⟩, fun h1 h2 ⟨t, z, q⟩ k => ⟨t, z, k _ q⟩⟩
theorem inv_note {X : Cx} {pins : List (Addr × Obj)} {σ : St} {H H' : Hp} {s s' : Shared} {a : Addr} {u : HO} (I : Inv X pins σ H s) (I' : Inv X pins σ H' s') (hex : X.ex = []) (new : s.heap.get? a = none) (nh : H' a = none) (x : ObjOk X.prog X.w (upd H' a u) s'.heap a u) : Inv X pins σ (upd H' a u) s' := by
  have ne : ∀ b o, s.heap.get? b = some o → b ≠ a := fun b o e z => by rw [z, new] at e; cases e
  have ne0 : ∀ b o, X.s₀.heap.get? b = some o → b ≠ a := fun b o e => by
    obtain ⟨o', e'⟩ := I.base.there b o e (by rw [hex]; simp)
    exact ne b o' e'
  have up : ∀ b o, H' b = some o → upd H' a u b = some o := fun b o e => by rw [upd_ne (ne_of_none e nh)]; exact e
  refine ⟨I'.ok, I'.os, I'.bare, ⟨I'.base.keep, I'.base.slot, fun b o e n hx => ?_, I'.base.there, fun b xs e => up _ _ (I'.base.tups b xs e), fun b o v e => up _ _ (I'.base.frzs b o v e), fun b ps e => ?_⟩, I'.loc, I'.cell, ?_, fun y c e => ?_, fun p hp => ?_, fun b v e => ?_, I'.len⟩
  · rw [upd_ne (ne0 b o e)]; exact I'.base.free b o e n hx
  · obtain ⟨m, e1⟩ := I'.base.tbls b ps e
    exact ⟨m, up _ _ e1⟩
  · obtain ⟨m, ⟨o, _, _, ho, _⟩, _⟩ := I.loc
    rw [upd_ne (ne _ o ho)]; exact I'.free
  · obtain ⟨v, o, ho, _⟩ := I.cell y c e
    rw [upd_ne (ne c o ho)]; exact I'.freeC y c e
  · obtain ⟨e, n, r⟩ := I'.pin p hp
    refine ⟨e, ?_, r⟩
    rw [upd_ne (ne p.1 _ (I.pin p hp).1)]; exact n
  · by_cases hb : b = a
    · subst hb
      rw [upd_same] at e
      cases e
      exact x
    · rw [upd_ne hb] at e
      exact (I'.hok b v e).stay (fun _ _ _ q => q) (fun c q => up _ _ q) fun c xs q => up _ _ q
theorem upd_self {H : Hp} {a : Addr} {o : HO} (e : H a = some o) : upd H a o = H := by
  funext b
  unfold upd
  split
  · rename_i z; rw [z, e]
  · rfl
structure XInit (K : PySem.W.Frag) (C S f : Addr) : Prop where
  obj : ∃ nm q N bs bm hdct sn sub ab col dd k0 k1 k2 k3 k5, K.lookup C = some (excClassObj nm q C N bs bm hdct sn sub ab col dd k0 k1 k2 k3 k5 "ValueError.__new__") ∧ PySem.W.nsOkIn K N = true ∧
    PySem.W.nsIn K N "__init__" = some (some (.ref f)) ∧ PySem.W.tailIn K vTail bm = true
  ini : PySem.W.typeIn K (.ref f) = some (.type "function")
  kpC : PySem.W.keepIn K (.ref C) = true
  sa : PySem.W.findIn K (.ref C) "__setattr__" = some (some (.builtin "object.__setattr__"))
  ob : PySem.W.mroIn K C (.type "object") = some true
  cl : ∃ cd n, PySem.W.clsIn K C = some cd ∧ overV n cd.mro = true ∧ cd.hasDict = true
  bga : PySem.W.specialIn K (.ref S) "__getattribute__" = some (some (.builtin "type.__getattribute__"))
  brd : PySem.W.readsIn K S (.type "type") = true
  bfi : PySem.W.findCls K (.ref S) (.type "type") "__init__" = some (.val (.builtin "ValueError.__init__"))
section
variable {X : Cx} {pos p apos p2 : Pos} {a b o e : Expr} {es : List Expr} {ta tb to : TE} {t : TA} {C S f : Addr}
theorem pe_fstr (ha : PE X a ta) (hb : PE X b tb) : PE X (.JoinedStr [a, .FormattedValue b (-1) none p2] pos) (fun σ H Q => ta σ H fun x H1 => ∃ z : Str, x = .str z ∧ z.length ≤ 1000 ∧
    tb σ H1 fun y H2 => ∃ i : Int, y = .int i ∧ i.natAbs.log2 < 1920 ∧ (toString i : Str).length ≤ 1000 ∧ ∀ s, Q (.str s) H2) := by
  intro pins s σ H Q I h
  refine JoinedStr_many (joinParts_cons (thn (ha pins s σ H _ I h) fun u s1 ⟨x, H1, I1, r1, z, ez, hz, h1⟩ => ?_))
  subst ez
  obtain ⟨tk, rfl⟩ := r1
  have e0 : (Str.empty ++ z).length = z.length := by
    show (Str.empty ++ z).cps.size = z.cps.size
    rw [Str.cps_append, Array.size_append]
    exact Nat.zero_add _
  refine ⟨by rw [e0, sizeLine_eq]; omega, joinParts_cons (FormattedValue_plain (thn (hb pins s1 σ H1 _ I1 h1) fun u2 s2 ⟨y, H2, I2, r2, i, ei, hd, hl, q⟩ => ?_))⟩
  subst ei
  obtain ⟨tk2, rfl⟩ := r2
  refine formatField_int_small hd ?_
  have e1 : ((Str.empty ++ z) ++ (toString i : Str)).length = (Str.empty ++ z).length + (toString i : Str).length := by
    show ((Str.empty ++ z) ++ (toString i : Str)).cps.size = _
    rw [Str.cps_append, Array.size_append]
    rfl
  have hs : ((Str.empty ++ z) ++ (toString i : Str)).length ≤ sizeLine := by rw [e1, e0, sizeLine_eq]; omega
  refine ⟨hs, joinParts_nil ?_ hs⟩
  exact ⟨.str _, H2, I2.tok _, ⟨_, rfl⟩, q _⟩
theorem pe_binit {x : Str} {pl : Sem Bool} (Z : XInit X.K C S f) (hg : Gl X x) (hm : X.mg x = some (.ref S)) (ha : PA X (e :: es) t) (hdb : (x == ("__debug__" : Str)) = false := by decide)
    (hst : starEach (e :: es) X.env = (false, eval e X.env) :: starEach es X.env := by rfl) (hpl : (backTo pos (starEach es X.env)).any (·.1) = false := by rfl) (hkw : backToKw pos (keywordEach [] X.env) = [] := by rfl)
    (ht : eval (.Call (.Attribute (.Name x p) "__init__" apos) (e :: es) [] pos) X.env = (do
      let ov ← eval (.Name x p) X.env
      standAt apos.atName
      let (f, first) ← holding [ov] (getMethod ov "__init__" pl)
      callWith pos f first (backTo pos (starEach (e :: es) X.env)) (backToKw pos (keywordEach [] X.env))) := by rfl) :
    PE X (.Call (.Attribute (.Name x p) "__init__" apos) (e :: es) [] pos) (fun σ H Q => t σ H fun vs H1 => ∃ a z, vs = [.ref a, .str z] ∧ H1 a = some (.ext (ExcN a C)) ∧ Q .non H1) := by
  intro pins s σ H Q I h
  refine PySem.W.methodCall_KW (pl := pl) (ld_glob I hg hm ?_ hdb) ht
  refine PySem.W.method_cls I.kIn Z.bga (PySem.W.cls_value I.kIn Z.brd Z.bfi rfl ?_)
  rw [hkw]
  have hA := ha pos pins { s with toks := s.toks + 1 } σ H _ (I.tok _) h
  rw [hst] at hA ⊢
  refine Calls.callWith_builtin (by show (false || (backTo pos (starEach es X.env)).any (·.1)) = false; rw [hpl] <;> rfl) (Calls.evalArgs_plain ?_)
  refine thn hA fun us s2 ⟨vs, H2, I2, r2, a, z, ev, hH, q⟩ => ?_
  subst ev
  obtain ⟨u1, u2, rfl, ra, rz⟩ := Vals.two r2
  obtain rfl : u1 = .ref a := ra
  obtain ⟨nm, qn, N, bs, bm, hdct, sn, sub, ab, col, dd, k0, k1, k2, k3, k5, lk, _, _, tl⟩ := Z.obj
  obtain ⟨⟨t0, sl, he⟩, _, _⟩ := I2.hok a _ hH
  obtain ⟨hp, g, d, tk, os⟩ := s2
  refine exc_base_init F.excBase_ValueError (PySem.W.tail_of_in I2.kIn tl) (I2.kIn _ _ lk) he fun h' t1 k ge => ?_
  have I3 := I2.write (h' := h') (t' := tk) (x := a) (e := a) (o := .ext (ExcN a C)) (by rw [hH]; trivial) (.inl rfl) k ⟨_, ge⟩ (excN_ok ⟨t1, sl, ge⟩)
  rw [upd_self hH] at I3
  exact ⟨.non, H2, I3, rfl, q⟩
theorem pg_exc {attr : Str} (hex : X.ex = []) (Z : XInit X.K C S f) (hna : PySem.W.findIn X.K (.ref C) attr = some none) (ho : PE X o to) :
    PG X (.Attribute o attr apos) (fun v σ H Q => to σ H fun x H1 => ∃ a, x = .ref a ∧ H1 a = some (.ext (ExcN a C)) ∧ ∀ d, H1 d = none → X.s₀.heap.get? d = none → Q σ (upd (upd H1 a (.ext (ExcO a C (some d)))) d (.xd [(attr, v)]))) := by
  intro pins s σ H v u Q I r h
  rw [arm_assign_Attribute]
  refine wpAny_bind (wpAny_holding (thn (ho pins s σ H _ I h) fun ov s1 ⟨x, H1, I1, r1, a, ex, hH, q⟩ => ?_))
  subst ex
  obtain rfl : ov = .ref a := r1
  obtain ⟨⟨t0, sl, he⟩, _, _⟩ := I1.hok a _ hH
  obtain ⟨cd, n, c1, c2, c3⟩ := Z.cl
  obtain ⟨hp, g, d, tk, os⟩ := s1
  refine wpAny_bind (wpAny_standAt (wpAny_bind (wpAny_holding (exc_store I1.kIn he Z.sa hna Z.ob c1 c2 c3 fun h' tk' dx k ge le ns => ?_))))
  have I3 := I1.write (h' := h') (t' := tk') (x := a) (e := a) (o := .ext (ExcO a C (some dx))) (by rw [hH]; trivial) (.inl rfl) k ⟨_, ge⟩ (excO_ok ⟨t0, sl, ge⟩)
  have hd1 : H1 dx = none := I1.hok.fresh le
  have hdn : hp.get? dx = none := Heap.get?_none_of_le le
  have hd0 : X.s₀.heap.get? dx = none := by
    cases z : X.s₀.heap.get? dx with
    | none => rfl
    | some o =>
      obtain ⟨o', e'⟩ := I1.base.there dx o z (by rw [hex]; simp)
      rw [show _ = hp.get? dx from rfl] at e'
      rw [hdn] at e'; cases e'
  have hda : dx ≠ a := fun z => by rw [z, hH] at hd1; cases hd1
  have I4 := inv_note (u := .xd [(attr, v)]) I1 I3 hex hdn (by rw [upd_ne hda]; exact hd1) ⟨_, ns, fun y => by
    by_cases hy : y = attr
    · subst hy
      simp only [List.lookup_cons, beq_self_eq_true, if_true]
      exact r
    · have : (y == attr) = false := by simp [hy]
      simp only [List.lookup_cons, this, List.lookup_nil, if_neg hy]
      trivial⟩
  exact wpAny_release ⟨σ, _, I4, q dx hd1 hd0⟩
end
end L2
namespace L3
open PySem PySem.Spec PyProof.Rows L2 SeqAt
def spE (C : Addr) (attr : Str) : Sp := fun vs H Q _ => ∃ a i, vs = [.ref a, .int i] ∧ i.natAbs.log2 < 1920 ∧ (toString i : Str).length ≤ 1000 ∧ H a = some (.ext (ExcN a C)) ∧ ∀ d, H d = none → Q .non (upd (upd H a (.ext (ExcO a C (some d)))) d (.xd [(attr, .int i)]))
structure XInE (X : Cx) (C : Addr) (attr : Str) (sts : List Stmt) : Prop where
  h : PSs X sts (fun D σ H => ∃ a i, σ[0]? = some (some (.ref a)) ∧ σ[1]? = some (some (.int i)) ∧ i.natAbs.log2 < 1920 ∧ (toString i : Str).length ≤ 1000 ∧ H a = some (.ext (ExcN a C)) ∧ ∀ d, H d = none → D.nx σ (upd (upd H a (.ext (ExcO a C (some d)))) d (.xd [(attr, .int i)])))
section
variable {X : Cx} {C S f : Addr} {xb self x attr c0 : Str} {p1 p2 p3 p4 p5 p6 p7 p8 p9 q1 q2 q3 q4 : Pos} {j : Nat}
theorem in_exc {pl : Sem Bool} (Z : XInit X.K C S f) (hm : X.mg xb = some (.ref S)) (hna : PySem.W.findIn X.K (.ref C) attr = some none) (hex : X.ex = [] := by rfl) (hg : Gl X xb := by rfl) (hc0 : c0.length ≤ 1000 := by decide)
    (hN0 : X.N[0]? = some self := by rfl) (hN1 : X.N[1]? = some x := by rfl) (hv0 : Vis X.env.scope self := by first | exact Or.inl rfl | exact Or.inr (Or.inl rfl) | exact Or.inr (Or.inr rfl)) (hv1 : Vis X.env.scope x := by first | exact Or.inl rfl | exact Or.inr (Or.inl rfl) | exact Or.inr (Or.inr rfl))
    (d0 : (self == ("__debug__" : Str)) = false := by decide) (d1 : (x == ("__debug__" : Str)) = false := by decide) (d2 : (xb == ("__debug__" : Str)) = false := by decide)
    (e0 : (self == ("__classdict__" : Str)) = false := by decide) (e1 : (x == ("__classdict__" : Str)) = false := by decide)
    (s1 : starEach [.Name self p3, .JoinedStr [.Constant (.str c0) j p4, .FormattedValue (.Name x p5) (-1) none p6] p7] X.env = (false, eval (.Name self p3) X.env) :: starEach [.JoinedStr [.Constant (.str c0) j p4, .FormattedValue (.Name x p5) (-1) none p6] p7] X.env := by rfl)
    (s2 : starEach [.JoinedStr [.Constant (.str c0) j p4, .FormattedValue (.Name x p5) (-1) none p6] p7] X.env = (false, eval (.JoinedStr [.Constant (.str c0) j p4, .FormattedValue (.Name x p5) (-1) none p6] p7) X.env) :: starEach [] X.env := by rfl)
    (hpl : (backTo p8 (starEach [.JoinedStr [.Constant (.str c0) j p4, .FormattedValue (.Name x p5) (-1) none p6] p7] X.env)).any (·.1) = false := by rfl) (hkw : backToKw p8 (keywordEach [] X.env) = [] := by rfl)
    (ht : eval (.Call (.Attribute (.Name xb p1) "__init__" p2) [.Name self p3, .JoinedStr [.Constant (.str c0) j p4, .FormattedValue (.Name x p5) (-1) none p6] p7] [] p8) X.env = (do
      let ov ← eval (.Name xb p1) X.env
      standAt p2.atName
      let (f, first) ← holding [ov] (getMethod ov "__init__" pl)
      callWith p8 f first (backTo p8 (starEach [.Name self p3, .JoinedStr [.Constant (.str c0) j p4, .FormattedValue (.Name x p5) (-1) none p6] p7] X.env)) (backToKw p8 (keywordEach [] X.env))) := by rfl)
    (w1 : swapsWith (.Call (.Attribute (.Name xb p1) "__init__" p2) [.Name self p3, .JoinedStr [.Constant (.str c0) j p4, .FormattedValue (.Name x p5) (-1) none p6] p7] [] p8) none p9.line X.env = pure false := by rfl)
    (w2 : swapsWithSole [.Attribute (.Name self q1) attr q2] (.Name x q3) q4.line X.env = pure false := by rfl) (w3 : swappedStores [.Attribute (.Name self q1) attr q2] (.Name x q3) X.env = pure none := by rfl)
    (w4 : (assignEach [.Attribute (.Name self q1) attr q2] X.env).map (·.2) = [assign (.Attribute (.Name self q1) attr q2) X.env] := by rfl) :
    XInE X C attr [.Expr (.Call (.Attribute (.Name xb p1) "__init__" p2) [.Name self p3, .JoinedStr [.Constant (.str c0) j p4, .FormattedValue (.Name x p5) (-1) none p6] p7] [] p8) p9, .Assign [.Attribute (.Name self q1) attr q2] (.Name x q3) q4] := ⟨by
  refine PSs.weak (pss_cons (ps_expr (pe_binit (pl := pl) Z hg hm (pa_cons (pe_var hN0 hv0 d0 e0) (pa_cons (pe_fstr pe_str (pe_var hN1 hv1 d1 e1)) pa_nil s2) s1) d2 s1 hpl hkw ht) w1) (pss_one (ps_asg (pe_var hN1 hv1 d1 e1) (pg_exc hex Z hna (pe_var hN0 hv0 d0 e0)) w2 w3 w4))) fun D σ H ⟨a, i, h0, h1, hd, hl, hH, q⟩ => ?_
  exact ⟨.ref a, h0, c0, rfl, hc0, .int i, h1, i, rfl, hd, hl, fun t => ⟨a, t, rfl, hH, .int i, h1, .ref a, h0, a, rfl, hH, fun d h1 _ => q d h1⟩⟩⟩
end
end L3
namespace L3
open PySem PySem.Spec PyProof.Rows L2 SeqAt
def del (H : Hp) (a : Addr) : Hp := fun b => if b = a then none else H b
theorem del_ne {H : Hp} {a b : Addr} (h : b ≠ a) : del H a b = H b := by unfold del; rw [if_neg h]
theorem del_same {H : Hp} {a : Addr} : del H a a = none := by unfold del; rw [if_pos rfl]
theorem del_some {H : Hp} {a b : Addr} {o : HO} (h : del H a b = some o) : b ≠ a ∧ H b = some o := by
  unfold del at h
  split at h
  · cases h
  · rename_i z; exact ⟨z, h⟩
section
variable {X : Cx} {pins : List (Addr × Obj)} {σ : L2.St} {H : Hp} {s : Shared} {a C : Addr} {dx : Option Addr} {M : Model} {Ex : Value → Shared → Prop}
theorem fly_own {E : XK} {Q : Unit → Shared → Prop} (I : Inv X pins σ H s) (hex : X.ex = []) (hst : X.stack = X.env :: X.outer) (hfr : X.env.frame = some X.env.locals) (hH : H a = some (.ext (ExcO a C dx))) (hnew : X.s₀.heap.get? a = none)
    (hE : E (.ref C) dx (del H a)) (hQ : ∀ s'', CXD X.prog X.w X.outer X.H₀ X.s₀ E (.ref a) s'' → Q () s'') : wpAny M X.A (leaving X.env (.ref a)) Q Ex s := by
  have es := frs_stack hst hfr
  have noex : ∀ b, b ∉ X.ex := fun b => by rw [hex]; simp
  obtain ⟨⟨t0, sl, he⟩, _, _⟩ := I.hok a _ hH
  have nst : ∀ b u, H b = some u → b ∉ frs X.stack := fun b u q z => by rw [I.stkFree b z] at q; cases q
  have hin : ∀ env ∈ X.env :: X.outer, ∀ b, env.frame = some b → b ∈ a :: frs X.stack := fun env q b hb => by
    rw [hst]; exact List.mem_cons_of_mem _ (List.mem_filterMap.mpr ⟨env, q, hb⟩)
  have ff : s.heap.FunFrames (PySem.W.hideAll s.heap (a :: frs X.stack)) (X.env :: X.outer) := PySem.W.funFrames_hide (by rw [← hst]; exact I.stack) hin
  have old : ∀ b o, X.s₀.heap.get? b = some o → b ≠ a := fun b o q z => by rw [z, hnew] at q; cases q
  have nl : ∀ b, b ∉ frs X.outer → ((del H a b).isSome = true ∨ (X.s₀.heap.get? b).isSome = true) → b ∉ a :: frs X.stack := fun b hb h z => by
    rcases List.mem_cons.mp z with z | z
    · rw [z, del_same, hnew] at h
      rcases h with h | h <;> cases h
    · rw [es] at z
      rcases List.mem_cons.mp z with z | z
      · rw [z] at h
        rcases h with h | h
        · obtain ⟨o, q⟩ := Option.isSome_iff_exists.mp h
          have := (del_some q).2
          rw [I.free] at this; cases this
        · obtain ⟨o, q⟩ := Option.isSome_iff_exists.mp h
          exact absurd (Nat.lt_of_lt_of_le (Heap.lt_size q) I.ok.above) (Nat.lt_irrefl _)
      · exact hb z
  have inB : ∀ b o, s.heap.get? b = some o → b ∉ a :: frs X.stack → (PySem.W.hideAll s.heap (a :: frs X.stack)).get? b = some o := fun b o q hb => PySem.W.hideAll_get _ q hb
  have gone : (PySem.W.hideAll s.heap (a :: frs X.stack)).get? a = none := PySem.W.hideAll_none _ (List.mem_cons_self ..)
  refine (kd_leave X.env (.ref a)).thn (Q := fun _ s'' => ∃ h', s'' = { s with heap := h' } ∧ Heap.LeftW (PySem.W.hideAll s.heap (a :: frs X.stack)) (X.env :: X.outer) a (.ref C) (.ref t0) s.heap h') (wpAny_leaving_firstW (base := PySem.W.hideAll s.heap (a :: frs X.stack)) (by rw [← hst]; exact I.ok.frames) ff hfr he (fun b o q => PySem.W.of_hideAll _ q) gone rfl rfl rfl fun h' hL => ⟨h', rfl, hL⟩) fun _ s'' ⟨h', e'', hL⟩ dk => ?_
  subst e''
  obtain ⟨od', ed', dd'⟩ := dk a _ he
  obtain ⟨k1, ⟨_, _, k2⟩, k3, k4⟩ := hL
  have slots : ∀ {b : Addr} {o : Obj}, b ∈ frs X.outer → s.heap.get? b = some o → ∃ sl, h'.get? b = some { o with slots := sl } := fun {b o} hb q => by
    obtain ⟨_, o', e', nf⟩ := I.funs.mem hb
    rw [q] at e'; cases e'
    exact k4 b o q nf
  refine hQ _ ⟨a, .ref C, dx, del H a, rfl, I.os, I.bare, ⟨⟨fun b o e n hb hx => ?_, fun b o e n hb hx => ?_, fun b o e n hx => ?_, fun b o e hx => ?_, fun b xs e => ?_, fun b o u e => ?_, fun b ps e => ?_⟩, fun b u e => ?_, fun b hb => ?_, hnew, del_same, ⟨od', ed', dd'⟩, _, _, ⟨k1, gone, k2, k3⟩, fun b hb h => ?_⟩, hE⟩
  · exact k1 b o (inB b o (I.base.keep b o e n hb (noex b)) (nl b hb (.inr (by rw [e]; rfl))))
  · obtain ⟨z1, e1⟩ := I.base.slot b o e n hb (noex b)
    obtain ⟨z2, e2⟩ := slots hb e1
    exact ⟨z2, e2⟩
  · rw [del_ne (old b o e)]; exact I.base.free b o e n (noex b)
  · obtain ⟨o', e1⟩ := I.base.there b o e (noex b)
    by_cases hb : b ∈ frs X.outer
    · obtain ⟨z, e2⟩ := slots hb e1
      exact ⟨_, e2⟩
    · exact ⟨o', k1 b o' (inB b o' e1 (nl b hb (.inr (by rw [e]; rfl))))⟩
  · have q := I.base.tups b xs e
    rw [del_ne (fun z => by rw [z, hH] at q; cases q)]; exact q
  · have q := I.base.frzs b o u e
    rw [del_ne (fun z => by rw [z, hH] at q; cases q)]; exact q
  · obtain ⟨more, q⟩ := I.base.tbls b ps e
    exact ⟨more, by rw [del_ne (fun z => by rw [z, hH] at q; cases q)]; exact q⟩
  · obtain ⟨ne, q⟩ := del_some e
    have nin : ∀ c v, c ≠ a → H c = some v → c ∉ a :: frs X.stack := fun c v hc hq z => by
      rcases List.mem_cons.mp z with z | z
      · exact hc z
      · exact nst c v hq z
    refine (I.hok b u q).stay (fun c v hc q2 => ?_) (fun c z => ?_) fun c xs z => ?_
    · rcases hc with rfl | hc
      · exact k1 c v (inB c v q2 (nin c u ne q))
      · exact k1 c v (inB c v q2 (nin c _ (fun z => by rw [z, hH] at hc; cases hc) hc))
    · rw [del_ne (fun y => by rw [y, hH] at z; cases z)]; exact z
    · rw [del_ne (fun y => by rw [y, hH] at z; cases z)]; exact z
  · by_cases hba : b = a
    · rw [hba]; exact del_same
    · rw [del_ne hba]; exact I.stkFree b (by rw [es]; exact List.mem_cons_of_mem _ hb)
  · have hb' := nl b hb h
    have : ∃ o, s.heap.get? b = some o := by
      rcases h with h | h
      · obtain ⟨u, q⟩ := Option.isSome_iff_exists.mp h
        exact obj_get (I.hok b u (del_some q).2)
      · obtain ⟨o, q⟩ := Option.isSome_iff_exists.mp h
        exact I.base.there b o q (noex b)
    obtain ⟨o, q⟩ := this
    rw [inB b o q hb']; rfl
end
end L3
namespace PySem
open Sem (wp)
section
variable {M : Model} {A : Around} {E : Value → Shared → Prop} {s : Shared} {env : Env}
variable {nm q : Str} {C N : Addr} {bs bm : List Value} {hdct : Bool} {sn : List Str} {sub : List Value} {ab : Bool} {col : Option Bool} {dd : Option Addr} {k0 k1 k2 k3 k5 : Option Value} {newId : String}
theorem raise_made {x : Sem Value} {Q : Flow → Shared → Prop} (hbase : bm.contains (.type "BaseException") = true) (hh : A.handled = none)
    (h : wpAny M A x (fun v s1 => ∃ e dx t0 sl, v = .ref e ∧ s1.heap.get? C = some (excClassObj nm q C N bs bm hdct sn sub ab col dd k0 k1 k2 k3 k5 newId) ∧
      s1.heap.get? e = some ⟨.ref C, dx, .fields #[.ref t0, .none, .none, .none, .bool false, .none], sl⟩ ∧ E (.ref e) s1) E s) :
    wpAny M A (raiseStmt env (some x) none) Q E s := by
  have own : (Value.ref C :: bm).contains (.type "BaseException") = true := by rw [List.contains_cons, hbase, Bool.or_true]
  unfold raiseStmt
  refine wpAny_bind (wpAny_mono h (fun v s1 z => ?_) fun _ _ y => y)
  obtain ⟨e, dx, t0, sl, rfl, kl, at1, last⟩ := z
  obtain ⟨hp, g, d, tk, os⟩ := s1
  repeat (first | with_reducible refine wpAny_loadPart_at at1 ?_ | with_reducible refine wpAny_loadPart_at kl ?_ | (with_reducible refine wpAny_isSubtype_exc kl ?_; rw [own]) | wp_step)
  exact wpAny_raiseNew_none hh last
end
end PySem
namespace L2
open PySem PySem.Spec PyProof.Rows
theorem ns_has {K : PySem.W.Frag} {h : Heap} {N : Addr} {mN : Str → Option Value} {n : Str} {v : Value} (KX : K.In h) (G : h.Ns N mN) (e : PySem.W.nsIn K N n = some (some v)) : mN n = some v := by
  obtain ⟨o, es, ep, at1, dt, _, fnd⟩ := G
  unfold PySem.W.nsIn at e
  split at e
  · rename_i c d es2 n2 sl lk
    have q := KX _ _ lk
    rw [at1] at q
    cases q
    cases dt
    rw [← fnd]
    unfold nsFind findBy
    rw [← Array.find?_toList]
    split at e
    · rename_i en he
      rw [he]
      cases e
      rfl
    · split at e <;> cases e
  · cases e
section
variable {X : Cx} {C S f : Addr} {fd : FuncData} {ps : List Str} {sp : Sp} {k : Nat} {x : Str} {p pos : Pos} {e : Expr} {es : List Expr} {t : TA}
theorem run_exc {pins : List (Addr × Obj)} {σ : St} {H : Hp} {s : Shared} {Q : VK} {us : List Value} {vs : List V} (Z : XInit X.K C S f) (F : FnOk X.prog X.w X.K X.mg X.base CX0 k f fd ps sp) (hr : Room (k + 1) X.A) (hb : Binds X.K fd ps [])
    (I : Inv X pins σ H s) (r : Vals vs us) (hz : us.length ≤ sizeLine)
    (h : ∀ a, H a = none → s.heap.get? a = none → sp (.ref a :: vs) (upd H a (.ext (ExcN a C))) (fun v H2 => v = .non ∧ Q (.ref a) H2) E0) :
    wpAny (model X.prog X.w) X.A (call (.ref C) us) (EP X pins σ Q) X.xe s := by
  have hq := h (s.heap.objs.size + 1) (I.hok.fresh (Nat.le_succ _)) (Heap.get?_none_of_le (Nat.le_succ _))
  obtain ⟨nm, qn, N, bs, bm, hdct, sn, sub, ab, col, dd, k0, k1, k2, k3, k5, lk, ok, ni, tl⟩ := Z.obj
  have ns := Heap.Ns.of_isNs (PySem.W.isNs_of_in I.kIn ok)
  have hi : s.heap.nsMap N "__init__" = some (.ref f) := ns_has I.kIn ns ni
  have I2 : Inv X pins σ (upd H (s.heap.objs.size + 1) (.ext (ExcN (s.heap.objs.size + 1) C))) { s with heap := excAt s.heap C us } :=
    I.laid (h' := excAt s.heap C us) (t' := s.toks) (fun b o z => excAt_get z) (Nat.le_succ _) (excN_ok ⟨_, _, excAt_new us⟩)
  have r2 : Vals (V.ref (s.heap.objs.size + 1) :: vs) (Value.ref (s.heap.objs.size + 1) :: us) := .cons rfl r
  have hl : (Value.ref (s.heap.objs.size + 1) :: us).length = ps.length := by
    have e := r2.length
    rw [F.len _ _ _ _ hq] at e
    exact e.symm
  have run := F.run _ X.stack _ _ ⟨Value.ref (s.heap.objs.size + 1) :: us, []⟩ (Value.ref (s.heap.objs.size + 1) :: us) _ _ E0 (hr.make C us []) (I2.env0.make C us []) (by
    have := hb _ (Value.ref (s.heap.objs.size + 1) :: us) I2.kIn (by simpa using hl)
    simpa using this) r2 hq
  obtain ⟨hp, g, d, tk, os⟩ := s
  refine call_own PySem.F.excBase_ValueError (PySem.W.tail_of_in I.kIn tl) (I.kIn _ _ lk) ns hi hz (fun self => PySem.W.bind_fn I.kIn self Z.ini) (codeAny_mono run fun rr s' z => ?_)
  cases rr with
  | error e => exact False.elim z
  | ok fl =>
    cases fl with
    | ret u =>
      obtain ⟨v, H', I3, rv, ev, q3⟩ := I2.after z
      subst ev
      exact ⟨rv, ⟨V.ref (hp.objs.size + 1), H', I3, rfl, q3⟩⟩
    | next => exact False.elim z
    | brk => exact False.elim z
    | cont => exact False.elim z
end
end L2
namespace L3
open PySem PySem.Spec PyProof.Rows L2 SeqAt
theorem small_i {i : Int} (h0 : 0 ≤ i) (h1 : i < 1000) : i.natAbs.log2 < 1920 ∧ (toString i : Str).length ≤ 1000 := by
  obtain ⟨n, rfl⟩ : ∃ n : Nat, i = n := ⟨i.toNat, by omega⟩
  have h : ∀ n : Nat, n < 1000 → (n : Int).natAbs.log2 < 1920 ∧ (toString (n : Int) : Str).length ≤ 1000 := by decide +kernel
  exact h n (by omega)
structure FnE (P : Program) (w : World) (K : PySem.W.Frag) (mg : Str → Option Value) (base : Heap) (k : Nat) (c attr : Str) : Prop where
  ex : ∃ j C S f fd ps, j + 1 ≤ k ∧ FnOk P w K mg base CX0 j f fd ps (spE C attr) ∧ XInit K C S f ∧ mg c = some (.ref C) ∧ PySem.W.nsIn K mainGlobals c = some (some (.ref C)) ∧ Binds K fd ps []
theorem FnE.mono {P : Program} {w : World} {K : PySem.W.Frag} {mg : Str → Option Value} {base : Heap} {j k : Nat} {c attr : Str} (F : FnE P w K mg base j c attr) (h : j ≤ k) : FnE P w K mg base k c attr := by
  obtain ⟨i, C, S, f, fd, ps, a, b⟩ := F.ex
  exact ⟨i, C, S, f, fd, ps, Nat.le_trans a h, b⟩
theorem fn_exc {P : Program} {w : World} {K : PySem.W.Frag} {mg : Str → Option Value} {base : Heap} {k : Nat} {c attr qual : Str} {st : Stmt} {C S fa : Addr} {fd : FuncData} {N ps : List Str} (F : Fun K "__init__" qual st fa fd) (T : FnScope N ps (defScope st))
    (Z : XInit K C S fa) (hm : mg c = some (.ref C)) (hc : PySem.W.nsIn K mainGlobals c = some (some (.ref C))) (hb : Binds K fd ps [])
    (body : ∀ (cdv : Value) (A : Around) (outer : List Env) (s : Shared) (H : Hp) (E : XK), Room k (A.deeper (envOfC qual (defScope st) s.heap.objs.size fa cdv)) →
      XInE (cxOf CX0 P w K mg base N qual (defScope st) fa cdv A outer s H E).nox C attr (defBody st)) (hps : ps.length = 2 := by rfl) : FnE P w K mg base (k + 1 + 1) c attr := by
  refine ⟨k + 1, C, S, fa, fd, ps, Nat.le_refl _, F.ok T (fun vs H Q E h => ?_) (fun cdv A outer s H vs Q E hr h => ?_), Z, hm, hc, hb⟩
  · obtain ⟨a, i, rfl, _⟩ := h
    rw [hps]; rfl
  · obtain ⟨a, i, rfl, h1, h2, h3, q⟩ := h
    exact ⟨_, (body cdv A outer s _ E hr).h, a, i, rfl, rfl, h1, h2, h3, q⟩
def RaiseO (X : Cx) (xw : XW) : Prop := ∀ (pins : List (Addr × Obj)) (σ : L2.St) (H : Hp) (s : Shared) (a C : Addr) (dx : Option Addr) (c : Str) (fs : List D), Inv X pins σ H s → H a = some (.ext (ExcO a C dx)) → X.s₀.heap.get? a = none →
  PySem.W.nsIn X.K mainGlobals c = some (some (.ref C)) → ExF (del H a) dx fs → xw c fs (del H a) → X.xe (.ref a) s
theorem raise_own {P : Program} {w : World} {K : PySem.W.Frag} {mg : Str → Option Value} {base : Heap} {N : List Str} {qual : Str} {scope : Scope} {f : Addr} {cd : Value} {A : Around} {outer : List Env} {s₀ : Shared} {H₀ : Hp} {E : XK} :
    RaiseO (cxOf (CXD P w) P w K mg base N qual scope f cd A outer s₀ H₀ E) (xwX K E) := by
  intro pins σ H s a C dx c fs I hH hnew hn xf q
  exact fly_own I rfl rfl rfl hH hnew (q (.ref C) dx hn xf) fun s'' z => z
theorem del_upd2 {H : Hp} {a d : Addr} {o u : HO} (h : H a = none) (n : d ≠ a) : del (upd (upd H a o) d u) a = upd H d u := by
  funext b
  unfold del upd
  by_cases h1 : b = a
  · rw [if_pos h1, h1, if_neg (Ne.symm n), h]
  · rw [if_neg h1]
    by_cases h2 : b = d
    · rw [if_pos h2, if_pos h2]
    · rw [if_neg h2, if_neg h2, if_neg h1]
section
variable {X : Cx} {xw : XW} {C S f : Addr} {fd : FuncData} {ps : List Str} {k : Nat} {x c attr : Str} {p pos np cpos : Pos} {e a : Expr} {es : List Expr} {t : TA} {fs : DSt → Res (List D)}
theorem pe_exc (Z : XInit X.K C S f) (G : FnOk X.prog X.w X.K X.mg X.base CX0 k f fd ps (spE C attr)) (hr : Room (k + 1) X.A) (hg : Gl X x) (hm : X.mg x = some (.ref C)) (hb : Binds X.K fd ps []) (hex : X.ex = [])
    (ha : PA X (e :: es) t) (hdb : (x == ("__debug__" : Str)) = false := by decide) (he : starEach (e :: es) X.env = (false, eval e X.env) :: starEach es X.env := by rfl) (hpl : (backTo pos (starEach es X.env)).any (·.1) = false := by rfl) :
    PE X (.Call (.Name x p) (e :: es) [] pos) (fun σ H Q => t σ H fun vs H1 => ∃ i, vs = [.int i] ∧ i.natAbs.log2 < 1920 ∧ (toString i : Str).length ≤ 1000 ∧ ∀ a d, H1 a = none → H1 d = none → d ≠ a → X.s₀.heap.get? a = none → Q (.ref a) (upd (upd H1 a (.ext (ExcO a C (some d)))) d (.xd [(attr, .int i)]))) := by
  intro pins s σ H Q I h
  refine wpAny_Call_Name_kw (ld_glob I hg hm ?_ hdb)
  refine PySem.W.callWith_K (h₀ := X.base) I.ok.mod.kin Z.kpC (thn (ha pos pins s σ H _ I h) fun us s1 ⟨vs, H1, I1, r, i, ev, h1, h2, q⟩ => ⟨I1.kIn, ?_⟩) he hpl
  subst ev
  refine run_exc Z G hr hb I1 r (by show us.length ≤ _; rw [← r.length, sizeLine_eq]; simp) fun b hb1 hb2 => ?_
  refine ⟨b, i, rfl, h1, h2, upd_same, fun d hd => ⟨rfl, ?_⟩⟩
  have hdb' : d ≠ b := fun z => by rw [z, upd_same] at hd; cases hd
  rw [upd_ne hdb'] at hd
  rw [upd_upd]
  refine q b d hb1 hd hdb' ?_
  cases z : X.s₀.heap.get? b with
  | none => rfl
  | some o =>
    obtain ⟨o', e'⟩ := I1.base.there b o z (by rw [hex]; simp)
    rw [hb2] at e'; cases e'
def raiO (c attr : Str) : List D → Out
  | [.int i] => if 0 ≤ i ∧ i < 1000 then .ex c [.tup [.str attr], .int i] else .stuck
  | _ => .stuck
def sRaiseI (c attr : Str) (fs : DSt → Res (List D)) : DSt → Out := fun δ => ofR (fs δ) (raiO c attr)
def endE (X : Cx) (xw : XW) (C : Addr) (c attr : Str) : VK := fun v H' => ∃ b d H2 i, v = .ref b ∧ H' = upd (upd H2 b (.ext (ExcO b C (some d)))) d (.xd [(attr, .int i)]) ∧ H2 b = none ∧ H2 d = none ∧ d ≠ b ∧ X.s₀.heap.get? b = none ∧ xw c [.tup [.str attr], .int i] (upd H2 d (.xd [(attr, .int i)]))
theorem s_raiseI (F : FnE X.prog X.w X.K X.mg X.base k c attr) (hr : Room k X.A) (hx : RaiseO X xw) (hcalm : X.calm = true) (ha : XA X xw [a] fs) (hex : X.ex = [] := by rfl) (hg : Gl X c := by rfl)
    (hdb : (c == ("__debug__" : Str)) = false := by decide) (he : starEach [a] X.env = (false, eval a X.env) :: starEach [] X.env := by rfl) (hpl : (backTo cpos (starEach [] X.env)).any (·.1) = false := by rfl) :
    XS X xw (.Raise (some (.Call (.Name c np) [a] [] cpos)) none pos) (sRaiseI c attr fs) := ⟨by
  obtain ⟨j, C, S, f, fd, ps, hj, G, Z, hm, hn, hb⟩ := F.ex
  intro pins s σ H Dn I ⟨W₀, H₀, W, δ, st, q⟩
  have rd : tDA X.K xw fs σ H (fun vs H1 => ∃ i, vs = [.int i] ∧ i.natAbs.log2 < 1920 ∧ (toString i : Str).length ≤ 1000 ∧ ∀ b d, H1 b = none → H1 d = none → d ≠ b → X.s₀.heap.get? b = none →
      endE X xw C c attr (.ref b) (upd (upd H1 b (.ext (ExcO b C (some d)))) d (.xd [(attr, .int i)]))) := by
    refine ⟨W₀, H₀, W, δ, st, ?_⟩
    unfold sRaiseI at q
    cases hf : fs δ with
    | stuck => rw [hf] at q; exact q
    | ex c' fs' => rw [hf] at q; exact fun H2 k2 => q H2 (st.fr.ext.trans k2)
    | ok ds =>
      rw [hf] at q
      have q' : RS X.K xw W₀ H₀ W H (raiO c attr ds) Dn := q
      clear q
      unfold raiO at q'
      split at q'
      · rename_i i
        split at q'
        · rename_i hi
          obtain ⟨s1, s2⟩ := small_i hi.1 hi.2
          exact fun vs H2 k2 hv => ⟨i, HasL.one hv, s1, s2, fun b d hb1 hd1 hdb hb2 => ⟨b, d, H2, i, rfl, rfl, hb1, hd1, hdb, hb2, q' _ ((st.fr.ext.trans k2).trans fun x o e => by rw [upd_ne (ne_of_none e hd1)]; exact e)⟩⟩
        · exact q'.elim
      · exact q'.elim
  obtain ⟨nm, qn, N, bs, bm, hdct, sn, sub, ab, col, dd, k0, k1, k2, k3, k5, lk, _, _, tl⟩ := Z.obj
  have T := PySem.W.tail_of_in I.kIn tl
  rw [arm_exec_Raise]
  refine wpAny_bind (wpAny_standAt (raise_made (C := C) (nm := nm) (q := qn) (N := N) (bs := bs) (bm := bm) (hdct := hdct) (sn := sn) (sub := sub) (ab := ab) (col := col) (dd := dd) (k0 := k0) (k1 := k1) (k2 := k2) (k3 := k3) (k5 := k5) (newId := "ValueError.__new__") (T.hasType PySem.F.excBase_ValueError.hasBase) (I.ok.hd hcalm) ?_))
  refine wpAny_bind (thn (pe_exc Z G (hr.mono hj) hg hm hb hex ha.h hdb he hpl pins s σ H (endE X xw C c attr) I rd) fun v s1 ⟨y, H1, I1, r, b, d, H2, i, ey, eH, h1, hd1, hdb', h2, qx⟩ => ?_)
  subst ey eH
  obtain rfl : v = .ref b := r
  have hbb : upd (upd H2 b (.ext (ExcO b C (some d)))) d (.xd [(attr, .int i)]) b = some (.ext (ExcO b C (some d))) := by rw [upd_ne (Ne.symm hdb')]; exact upd_same
  obtain ⟨⟨t0, sl, hb'⟩, _, _⟩ := I1.hok b _ hbb
  refine wpAny_bind (wpAny_standAt (wpAny_pure ?_))
  refine ⟨b, some d, t0, sl, rfl, I1.kIn _ _ lk, hb', ?_⟩
  exact hx pins σ _ s1 b C (some d) c [.tup [.str attr], .int i] I1 hbb h2 hn (by rw [del_upd2 h1 hdb']; exact ⟨d, [(attr, .int i)], rfl, upd_same, rfl, .inl rfl, trivial⟩) (by rw [del_upd2 h1 hdb']; exact qx)⟩
end
end L3
namespace L3
open PySem PySem.Spec PyProof.Rows L2 SeqAt
section
variable {X : Cx} {xw : XW} {tg it : Expr} {f : DSt → Res (List D)}
theorem PI.nox {t : TI} (h : PI X.nox tg it t) : PI X tg it t := fun pins s σ H R I hw =>
  wpAny_mono (h pins s σ H R (I.wish _) hw) (fun v s1 q => wpAny_mono q (fun _ _ ⟨a, fp, tn, J, H', e, I', r⟩ => ⟨a, fp, tn, J, H', e, I'.unwish, r⟩) fun _ _ z => False.elim z) fun _ _ z => False.elim z
theorem i_nox (h : XI X.nox xwF tg it f) : XI X xw tg it (noxA f) := ⟨PI.weak (PI.nox h.h) fun σ H R ⟨W₀, H₀, W, δ, st, q⟩ => ⟨W₀, H₀, W, δ, st, by
  dsimp only [noxA] at q
  cases hq : f δ with
  | ok d => rw [hq] at q; exact q
  | ex c fs => rw [hq] at q; exact q.elim
  | stuck => rw [hq] at q; exact q.elim⟩⟩
end
end L3
namespace L3
open PySem PySem.Spec PySem.Calls PyProof.Rows PySem.W Builtin Builtin.ObjectAttr Builtin.Getset_descriptor
section
variable {prog : Program} {w : World} {A : Around} {E : Value → Shared → Prop} {h : Heap} {g : Array GenState} {d : Drawn} {t : Nat} {os : OsState} {K : Frag} {a C : Addr} {o : Obj} {od : Option Obj} {name : Str} {v : Value}
theorem xf_entry {tk : Tok} {Q : Fin → Shared → Prop} (X : K.In h) (J : InstAt h a o C od) (hf : findObj K C od name = some (.value v)) (hq : Q (.done (.ret v)) ⟨h, g, d, t, os⟩) :
    wpAny (model prog w) A (Builtin.«object.__getattribute__» ⟨[.ref a, .str name tk], []⟩) Q E ⟨h, g, d, t, os⟩ := by
  have L0 := J.type (M := model prog w)
  have L1 := looks_find (M := model prog w) X J hf
  unfold Builtin.«object.__getattribute__»
  repeat (first | assumption | refine wpAny_bind (L0.at ?_) | refine wpAny_bind (L1.at ?_) | wp_step)
theorem xf_call {tk : Tok} {R : Result → Shared → Prop} (X : K.In h) (J : InstAt h a o C od) (z : ExcK K C) (hf : findObj K C od name = some (.value v)) (hq : R (.ok (.ret v)) ⟨h, g, d, t, os⟩) :
    codeAny (model prog w) A (.call (.builtin "BaseException.__getattribute__") ⟨[.ref a, .str name tk], []⟩) R ⟨h, g, d, t, os⟩ := by
  have L0 := J.type (M := model prog w)
  have L1 := looks_mroIn (M := model prog w) X z.be
  have hk : builtinKind "BaseException.__getattribute__" = some .slot := by decide +kernel
  have hsplit : splitId "BaseException.__getattribute__" = some ("BaseException", "__getattribute__") := by decide +kernel
  have ha := F.args_bexc_ga (.ref a) (.str name tk)
  have hp : plainId "BaseException.__getattribute__" = true := by decide +kernel
  refine codeAny_call_builtin hp F.entry_bexc_ga ?_
  simp only [checkBuiltinCall, hk, hsplit]
  refine wpAny_bind ((L0.andThen L1).at ?_)
  simp only [Bool.not_true, Bool.false_eq_true, if_false]
  repeat (first | assumption | exact xf_entry X J hf hq | wp_step)
theorem xf_by {tk : Tok} {fill expr : Bool} {Q : Value → Shared → Prop} (X : K.In h) (J : InstAt h a o C od) (z : ExcK K C) (hf : findObj K C od name = some (.value v)) (hv : handedIn v = true) (hq : Q v ⟨h, g, d, t, os⟩) :
    wpAny (model prog w) A (getAttrBy (.ref a) (.str name tk) fill expr) Q E ⟨h, g, d, t, os⟩ := by
  have L0 := J.type (M := model prog w)
  have L1 := looks_findIn (M := model prog w) X z.ga
  have L2 := looks_findIn (M := model prog w) X z.gt
  have f3 : bindSpecial (.builtin "BaseException.__getattribute__") (.ref a) = pure (.builtin "BaseException.__getattribute__", [.ref a]) := F.excAttr_ValueError.ga.bind (.ref a)
  have hx0 : (expr && onTheHeap (Value.builtin "BaseException.__getattribute__")) = false := by cases expr <;> rfl
  have hx2 : (Value.builtin "BaseException.__getattribute__" == Value.builtin "object.__getattribute__") = false := by decide +kernel
  have hx1 : (onTheHeap (Value.ref C) && Value.builtin "BaseException.__getattribute__" == Value.builtin "object.__getattribute__") = false := by rw [hx2]; rfl
  have ho := handedOut_of hv
  repeat (any_goals (first | assumption | refine wpAny_bind (L0.at ?_) | refine wpAny_bind (L1.at ?_) | refine wpAny_bind (L2.at ?_) | wp_step))
  refine xf_call X J z hf ?_
  repeat (any_goals (first | assumption | (rw [ho]; exact wpAny_pure hq) | wp_step))
theorem xf_attr {expr : Bool} {Q : Value → Shared → Prop} (X : K.In h) (J : InstAt h a o C od) (z : ExcK K C) (hf : findObj K C od name = some (.value v)) (hv : handedIn v = true) (hq : Q v ⟨h, g, d, t + 1, os⟩) :
    wpAny (model prog w) A (getAttr (.ref a) name expr) Q E ⟨h, g, d, t, os⟩ := by
  unfold getAttr
  repeat (any_goals (first | assumption | with_reducible apply xf_by X J z hf hv | wp_step))
end
end L3
namespace L3
open PySem PySem.Spec PyProof.Rows L2 SeqAt
structure FldX (K : PySem.W.Frag) (c attr : Str) : Prop where
  ex : ∃ C, PySem.W.nsIn K mainGlobals c = some (some (.ref C)) ∧ ExcK K C ∧ PySem.W.hasDictIn K C = true ∧ PySem.W.findIn K (.ref C) attr = some none
def fldAt (f : Str) : List D → List D → Option D
  | .str n :: ns, x :: vs => if f = n then some x else fldAt f ns vs
  | _, _ => none
def exfR (cs : List Str) (f : Str) : D → Res D
  | .exc c (.tup ns :: vs) => if c ∈ cs then (match fldAt f ns vs with | some x => .ok x | none => .stuck) else .stuck
  | _ => .stuck
theorem scl_has {K : PySem.W.Frag} {W : WS} {H : Hp} {x : D} {v : V} (h : sclV x = some v) : Has K W H x v := by
  cases x with
  | non => cases h; rw [Has]
  | bl b => cases h; rw [Has]
  | int i => cases h; rw [Has]
  | str z => cases h; rw [Has]
  | _ => cases h
theorem scl_hasL {K : PySem.W.Frag} {W : WS} {H : Hp} : ∀ {ds : List D} {xs : List V}, ds.map sclV = xs.map some → HasL K W H ds xs
  | [], [], _ => by rw [HasL]
  | d :: ds, x :: xs, h => by
    rw [List.map_cons, List.map_cons] at h
    injection h with h1 h2
    rw [HasL]
    exact ⟨x, xs, rfl, scl_has h1, scl_hasL h2⟩
  | [], _ :: _, h => by simp at h
  | _ :: _, [], h => by simp at h
theorem ExV.has {K : PySem.W.Frag} {W : WS} {H : Hp} {x : D} {v : V} (h : ExV H x v) : Has K W H x v := by
  rcases h with h | ⟨ds, a, o, xs, rfl, rfl, e, q⟩
  · exact scl_has h
  · rw [Has]
    exact ⟨a, xs, rfl, .inr (.inl ⟨o, e⟩), scl_hasL q⟩
theorem fld_look {H : Hp} {f : Str} {x : D} : ∀ {kvs : List (Str × V)} {vs : List D}, ExVs H vs (kvs.map (·.2)) → fldAt f (kvs.map fun p => D.str p.1) vs = some x → ∃ v, kvs.lookup f = some v ∧ ExV H x v
  | [], [], _, e => by cases e
  | p :: kvs, y :: vs, ⟨h, t⟩, e => by
    have e : (if f = p.1 then some y else fldAt f (kvs.map fun p => D.str p.1) vs) = some x := e
    split at e
    · rename_i q
      cases e
      exact ⟨p.2, by obtain ⟨n, v⟩ := p; simp only at q; subst q; simp [List.lookup_cons], h⟩
    · rename_i q
      obtain ⟨v, h1, h2⟩ := fld_look t e
      refine ⟨v, ?_, h2⟩
      obtain ⟨n, u⟩ := p
      rw [List.lookup_cons, show (f == n) = false from by simpa using q]
      exact h1
  | [], _ :: _, h, _ => h.elim
  | _ :: _, [], h, _ => h.elim
section
variable {X : Cx} {xw : XW} {e : Expr} {f : DSt → Res D} {pos : Pos} {attr : Str} {ta : TE}
theorem pe_exf (he : PE X e ta) (hb : attributeBase e attr X.env (eval e X.env) = eval e X.env) : PE X (.Attribute e attr pos) (fun σ H Q => ta σ H fun x H1 => ∃ a C dx kvs v, x = .ref a ∧ H1 a = some (.ext (ExcAt a (.ref C) (some dx))) ∧ H1 dx = some (.xd kvs) ∧
    ExcK X.K C ∧ PySem.W.hasDictIn X.K C = true ∧ PySem.W.findIn X.K (.ref C) attr = some none ∧ kvs.lookup attr = some v ∧ Q v H1) := by
  intro pins s σ H Q I h
  refine attr_of hb (thn (he pins s σ H _ I h) fun u s1 ⟨x, H1, I1, rx, a, C, dx, kvs, v, ex, ea, ed, z, hd, na, lk, q⟩ => ?_)
  subst ex
  obtain rfl : u = Value.ref a := rx
  obtain ⟨⟨o, vs, ho, hc, hdx, hdt⟩, _⟩ := I1.hok a _ ea
  obtain ⟨mA, ns, r⟩ := I1.hok dx _ ed
  obtain ⟨od, hod, hl⟩ := lookIn_ns ns
  obtain ⟨u, hu, ru⟩ := RelO.some_of (v := v) (o := mA attr) (by rw [← lk]; exact r attr)
  obtain ⟨hp, g, d, tk, os⟩ := s1
  have J : PySem.W.InstAt hp a o C (some od) := ⟨ho, hc, by unfold PySem.W.notCls; rw [hdt], by rw [hdx]; exact hod⟩
  exact xf_attr I1.kIn J z (PySem.W.findObj_own hd na rfl (by rw [hl, hu])) (handed_of ru) ⟨v, H1, I1.tok _, ru, q⟩
theorem x_exf {cs : List Str} (T : ∀ c ∈ cs, FldX X.K c attr) (he : XE X xw e f) (hb : attributeBase e attr X.env (eval e X.env) = eval e X.env := by rfl) : XE X xw (.Attribute e attr pos) (b1 (exfR cs attr) f) :=
  ⟨PE.weak (pe_exf he.h hb) fun σ H Q ⟨W₀, H₀, W, δ, st, q⟩ => one_readE st q fun H2 d v k w st2 hv _ q2 => by
    cases d with
    | exc c fs =>
      cases fs with
      | nil => exact q2.elim
      | cons y vs =>
        cases y with
        | tup ns =>
          have q3 : RE X.K xw W H2 (if c ∈ cs then (match fldAt attr ns vs with | some x => .ok x | none => .stuck) else .stuck) Q := q2
          clear q2
          split at q3
          · rename_i hc
            split at q3
            · rename_i x hx
              rw [Has] at hv
              obtain ⟨a, C, dx, rfl, hn, hH, d, kvs, rfl, hd, rfl, hvs⟩ := hv
              obtain ⟨C', hn', z, hdt, na⟩ := (T c hc).ex
              rw [hn] at hn'
              cases hn'
              obtain ⟨u, h1, h2⟩ := fld_look hvs hx
              exact ⟨a, C', d, kvs, u, rfl, hH, hd, z, hdt, na, h1, q3 u H2 (Same.refl _) h2.has⟩
            · exact q3.elim
          · exact q3.elim
        | _ => exact q2.elim
    | _ => exact q2.elim⟩
end
end L3
namespace G
open PySem PySem.Spec PyProof.Rows L2 L3
noncomputable def e__law_due_1 : DSt → Res D := (slotD 0)
noncomputable def c__law_due_1 : DSt → Res Bool := (tR (b2 eqR (b2 ixR (slotP 0) (slotP 4)) (slotP 6)))
noncomputable def l__law_due_1 : DSt → Out := (sIf (tR (b2 gtR (b1 lenR (asD (vComp 1 (setI 0) c__law_due_1 e__law_due_1 (b1 seqR (slotD 1))))) (kD (.int 0)))) (sApp 4 (slotD 5)) Out.nx)
noncomputable def l__law_due_2 : DSt → Out := (sSeq (sOwn 4 (b1 lstR aNil))
    (sSeq (sFor (setI 5) l__law_due_1 (b1 rng1R (aCons (b2 ixR (slotP 0) (kD (.int 1))) aNil)))
    (sSeq (sIf (tR (b2 gtR (b1 lenR (slotP 4)) (b2 ixR (slotP 0) (kD (.int 2))))) (sRet (b1 tupR (aCons (kD .non) (aCons (slotD 3) aNil)))) Out.nx)
    (sApp 2 (b1 tupofR (slotP 4))))))
noncomputable def b__law_due : DSt → Out := (sSeq (sOwn 2 (b1 lstR aNil))
    (sSeq (sFor (setI 3) l__law_due_2 (b1 rng1R (aCons (b2 ixR (slotP 0) (kD (.int 0))) aNil)))
    (sRet (b1 tupR (aCons (b1 tupofR (slotP 2)) (aCons (kD .non) aNil))))))
noncomputable def m__law_due : List D → Res D := runD 6 b__law_due
noncomputable def b__law_mixed : DSt → Out := (sSeq (sIf (tR (b2 eqR (slotP 0) (asD (b1 lstR aNil)))) (sRet (b2 addD (b2 mulE (slotP 1) (kD (.int 7919))) (kD (.int 5)))) Out.nx)
    (sRet (b2 modD (b2 mulE (b2 addD (b2 addD (b2 ixR (slotP 0) (b2 modD (slotP 1) (b1 lenR (slotP 0)))) (kD (.int 1))) (slotP 1)) (b2 addD (kD (.int 48271)) (b2 mulE (kD (.int 7919)) (slotP 1)))) (kD (.int 2147483647)))))
noncomputable def m__law_mixed : List D → Res D := runD 2 b__law_mixed
noncomputable def b__law_only : DSt → Out := (sSeq (sIf (tR (b1 (isiXR [("TooHigh", false)]) (slotP 0))) (sRet (kD (.bl false))) Out.nx)
    (sSeq (sIf (tR (b1 (isiXR [("TooHigh", false)]) (slotP 0))) (sRet (kD (.bl false))) Out.nx)
    (sRet (vAnd (b1 (isiXR [("TooHigh", true)]) (slotP 0)) (vAnd (b1 (isiXR [("TooHigh", true)]) (slotP 0)) (b1 (isiXR [("TooHigh", true)]) (slotP 0)))))))
noncomputable def m__law_only : List D → Res D := runD 1 b__law_only
noncomputable def b_heights_of : DSt → Out := (sRet (b2 ixR (slotP 0) (kD (.int 2))))
noncomputable def m_heights_of : List D → Res D := runD 1 b_heights_of
noncomputable def b_places_of : DSt → Out := (sRet (b2 ixR (slotP 0) (kD (.int 0))))
noncomputable def m_places_of : List D → Res D := runD 1 b_places_of
noncomputable def e_least_of_1 : DSt → Res D := (b2 ixR (slotP 0) (slotP 4))
noncomputable def l_least_of_1 : DSt → Out := (sSeq (noxS (sSet 4 (b1 tupofR (asD (b1 sortR (asD (vComp 1 (setI 0) (fun _ => .ok true) e_least_of_1 (b1 seqR (slotD 1)))))))))
    (sSeq (sIf (noxB (tR (b2 gtR (b1 lenR (slotP 4)) (b1 (callR 1 m_heights_of) (aCons (slotD 0) aNil))))) (sRaiseI "TooHigh" "place" (noxA (aCons (slotD 3) aNil))) Out.nx)
    (noxS (sApp 2 (slotD 4)))))
noncomputable def b_least_of : DSt → Out := (sSeq (noxS (sOwn 2 (b1 lstR aNil)))
    (sSeq (sFor (setI 3) l_least_of_1 (noxA (b1 rng1R (aCons (b1 (callR 1 m_places_of) (aCons (slotD 0) aNil)) aNil))))
    (noxS (sRet (b1 tupofR (slotP 2))))))
noncomputable def m_least_of : List D → Res D := runX 5 b_least_of
noncomputable def h__law_right_1 : DSt → Out := (sSet 4 (slotD 6))
noncomputable def e__law_right_1 : DSt → Res D := (slotD 0)
noncomputable def c__law_right_1 : DSt → Res Bool := (tR (b1 (isiR "bool") (slotP 0)))
noncomputable def l__law_right_1 : DSt → Out := (sIf (tOr2 (tNot1 (tR (b1 (isiR "tuple") (slotP 7)))) (tR (b2 neR (asD (vComp 1 (setI 0) c__law_right_1 e__law_right_1 (b1 seqR (slotD 7)))) (asD (b1 lstR aNil))))) (sRet (kD (.bl false))) Out.nx)
noncomputable def b__law_right : DSt → Out := (sSeq (sSet 4 (kD .non))
    (sSeq (sSet 5 (kD .non))
    (sSeq (sTry ["TooHigh"] (tryF (aCons (slotD 0) (aCons (slotD 1) aNil)) 2 m_least_of []) (fun d δ => .nx (δ.set 5 (some (.d d)))) Out.nx (gsAs 6 h__law_right_1))
    (sSeq (sIf (tR (b1 isNR (slotP 2))) (sSeq (sIf (tOr2 (tNot1 (tR (b1 (callR 1 m__law_only) (aCons (slotD 4) aNil)))) (tOr2 (tNot1 (tR (b1 (isiR "int") (b1 (exfR ["TooHigh"] "place") (slotD 4))))) (tR (b1 (isiR "bool") (b1 (exfR ["TooHigh"] "place") (slotD 4)))))) (sRet (kD (.bl false))) Out.nx)
    (sRet (b2 eqR (b1 (exfR ["TooHigh"] "place") (slotD 4)) (slotP 3)))) Out.nx)
    (sSeq (sIf (tOr2 (tR (b1 notNR (slotP 4))) (tOr2 (tNot1 (tR (b1 (isiR "tuple") (slotP 5)))) (tR (b2 neR (slotP 5) (slotP 2))))) (sRet (kD (.bl false))) Out.nx)
    (sSeq (sFor (setI 7) l__law_right_1 (b1 seqR (slotD 5)))
    (sRet (kD (.bl true)))))))))
noncomputable def m__law_right : List D → Res D := runD 8 b__law_right
noncomputable def b__law_rules : DSt → Out := (sSeq (sSet 1 (b2 addD (kD (.int 2)) (b2 modD (b1 (callR 2 m__law_mixed) (aCons (slotD 0) (aCons (kD (.int 0)) aNil))) (kD (.int 19)))))
    (sSeq (sSet 2 (b2 addD (kD (.int 1)) (b2 modD (b1 (callR 2 m__law_mixed) (aCons (slotD 0) (aCons (kD (.int 1)) aNil))) (kD (.int 24)))))
    (sRet (b1 tupR (aCons (slotD 2) (aCons (slotD 1) (aCons (b2 addD (kD (.int 1)) (b2 modD (b1 (callR 2 m__law_mixed) (aCons (slotD 0) (aCons (kD (.int 2)) aNil))) (slotP 1))) (aCons (b2 addD (kD (.int 1)) (b2 modD (b1 (callR 2 m__law_mixed) (aCons (slotD 0) (aCons (kD (.int 3)) aNil))) (b2 subD (slotP 1) (kD (.int 1))))) aNil))))))))
noncomputable def m__law_rules : List D → Res D := runD 3 b__law_rules
noncomputable def l__law_some_1 : DSt → Out := (sSeq (sSet 8 (kD (.int 0)))
    (sSeq (sSet 9 (b2 subD (b2 ixR (slotP 0) (kD (.int 1))) (kD (.int 1))))
    (sSeq (sIf (tR (b2 neR (slotP 6) (asD (b1 lstR aNil)))) (sSeq (sSet 8 (b1 maxR (aCons (slotD 8) (aCons (b2 subD (b2 ixR (slotP 6) (b1 negD (kD (.int 1)))) (b2 ixR (slotP 0) (kD (.int 3)))) aNil))))
    (sSet 9 (b1 minR (aCons (slotD 9) (aCons (b2 addD (b2 ixR (slotP 6) (b1 negD (kD (.int 1)))) (b2 ixR (slotP 0) (kD (.int 3)))) aNil))))) Out.nx)
    (sSeq (sSet 10 (b1 (callR 2 m__law_mixed) (aCons (slotD 1) (aCons (b2 addD (b2 addD (kD (.int 30)) (slotP 7)) (b2 mulE (kD (.int 24)) (b2 modD (slotP 5) (slotP 3)))) aNil))))
    (sSeq (sIf (tR (b2 geR (slotP 5) (slotP 3))) (sSet 10 (b1 (callR 2 m__law_mixed) (aCons (slotD 1) (aCons (b2 addD (b2 addD (kD (.int 30)) (slotP 7)) (b2 mulE (kD (.int 24)) (b2 modD (b1 (callR 2 m__law_mixed) (aCons (slotD 1) (aCons (b2 addD (slotP 5) (slotP 7)) aNil))) (slotP 3)))) aNil)))) Out.nx)
    (sApp 6 (b2 addD (slotP 8) (b2 modD (slotP 10) (b2 addD (b2 subD (slotP 9) (slotP 8)) (kD (.int 1)))))))))))
noncomputable def l__law_some_2 : DSt → Out := (sSeq (sOwn 6 (b1 lstR aNil))
    (sSeq (sFor (setI 7) l__law_some_1 (b1 rng1R (aCons (b2 ixR (slotP 0) (kD (.int 0))) aNil)))
    (sApp 4 (b1 tupofR (slotP 6)))))
noncomputable def b__law_some : DSt → Out := (sSeq (sOwn 4 (b1 lstR aNil))
    (sSeq (sFor (setI 5) l__law_some_2 (b1 rng1R (aCons (slotD 2) aNil)))
    (sRet (slotP 4))))
noncomputable def m__law_some : List D → Res D := runD 11 b__law_some
noncomputable def l_law_1 : DSt → Out := (sSeq (sSet 4 (asD (b3 slL (slotP 2) oNone (b1 partR (slotD 3)))))
    (sSeq (sAsg (unTup 2 (unCons (setI 5) (unCons (setI 6) unNil))) (b1 (callR 2 m__law_due) (aCons (slotD 1) (aCons (slotD 4) aNil))))
    (sSeq (sIf (tOr2 (tNot1 (tR (b1 (callR 4 m__law_right) (aCons (slotD 1) (aCons (slotD 4) (aCons (slotD 5) (aCons (slotD 6) aNil))))))) (tR (b2 neR (slotP 4) (asD (b3 slL (slotP 2) oNone (b1 partR (slotD 3))))))) (sRet (kD (.bl false))) Out.nx)
    (sIf (tNot1 (tR (b1 (callR 4 m__law_right) (aCons (slotD 1) (aCons (asD (b3 slP (slotP 4) oNone (b1 partR (b1 negD (kD (.int 1)))))) (aCons (slotD 5) (aCons (slotD 6) aNil))))))) (sRet (kD (.bl false))) Out.nx))))
noncomputable def b_law : DSt → Out := (sSeq (sSet 1 (b1 (callR 1 m__law_rules) (aCons (slotD 0) aNil)))
    (sSeq (sSet 2 (b1 (callR 4 m__law_some) (aCons (slotD 1) (aCons (slotD 0) (aCons (b2 addD (kD (.int 1)) (b2 modD (b1 (callR 2 m__law_mixed) (aCons (slotD 0) (aCons (kD (.int 4)) aNil))) (kD (.int 8)))) (aCons (b2 addD (kD (.int 1)) (b2 modD (b1 (callR 2 m__law_mixed) (aCons (slotD 0) (aCons (kD (.int 5)) aNil))) (kD (.int 4)))) aNil))))))
    (sSeq (sFor (setI 3) l_law_1 (b1 seqR (asD (b1 lstR (aCons (b1 lenR (slotP 2)) (aCons (kD (.int 1)) aNil))))))
    (sRet (kD (.bl true))))))
noncomputable def m_law : List D → Res D := runD 7 b_law
end G
namespace G
open PySem PySem.Spec PyProof.Rows L2 L3
local macro_rules | `(tactic| walk_at "ev") => `(tactic| simp only [runD_eq, startD, List.map_cons, List.map_nil, List.length_cons, List.length_nil, List.cons_append, List.nil_append, Nat.reduceAdd, Nat.reduceSub, List.replicate,
  kD, b1, b2, b3, bCh, tR, tAnd2, tOr2, tNot1, vAnd, vOr, vIf, aNil, aCons, oNone, asD, vComp, sSeq, sSet, sOwn, sIf, sFor, sWhile, b2F, sApp, sRet, sRetN, sExpr, sAsg, sSetI, sOwnR, sOwnQ, sPutI, b1Q, b2Q,
  slotD_0, slotD_s, slotP_0, slotP_0o, slotP_s, Res.bind_ok, Res.bind_ex, Res.bind_stuck, ofR_ok, ofR_ex, ofR_stuck, seqO_nx, seqO_rt, seqO_stuck, ifO_ok, andB_ok, orB_ok, andD_bl, orD_bl, boolR_bl, notD_bl,
  eqR_ii, neR_ii, eqR_bb, ltR_ii, leR_ii, gtR_ii, geR_ii, addD_ii, addD_small, subD_ii, negD_i, modD_ii, fdivD_ii, mulE_ii, maxR_ii, minR_ii, absR_i, lenR_t, lenR_l, seqR_t, seqR_l, tupofR_t, tupofR_l, partR_i, consR_ok, noex_ok, slD_l, slW_l, finO_rt, finO_nx, chain_le, chain_lelt,
  List.set_cons_zero, List.set_cons_succ, lstR, tupR, if_true, if_false, reduceIte, Bool.not_true, Bool.not_false, Bool.false_eq_true, Nat.zero_le, Nat.reduceLeDiff, Nat.zero_add, Int.reduceLT, true_and, and_true, and_self])
local macro_rules | `(tactic| walk_at "ev*") => `(tactic| simp only [runD_eq, startD, List.map_cons, List.map_nil, List.length_cons, List.length_nil, List.cons_append, List.nil_append, Nat.reduceAdd, Nat.reduceSub, List.replicate,
  kD, b1, b2, b3, bCh, tR, tAnd2, tOr2, tNot1, vAnd, vOr, vIf, aNil, aCons, oNone, asD, vComp, sSeq, sSet, sOwn, sIf, sFor, sWhile, b2F, sApp, sRet, sRetN, sExpr, sAsg, sSetI, sOwnR, sOwnQ, sPutI, b1Q, b2Q,
  slotD_0, slotD_s, slotP_0, slotP_0o, slotP_s, Res.bind_ok, Res.bind_ex, Res.bind_stuck, ofR_ok, ofR_ex, ofR_stuck, seqO_nx, seqO_rt, seqO_stuck, ifO_ok, andB_ok, orB_ok, andD_bl, orD_bl, boolR_bl, notD_bl,
  eqR_ii, neR_ii, eqR_bb, ltR_ii, leR_ii, gtR_ii, geR_ii, addD_ii, addD_small, subD_ii, negD_i, modD_ii, fdivD_ii, mulE_ii, maxR_ii, minR_ii, absR_i, lenR_t, lenR_l, seqR_t, seqR_l, tupofR_t, tupofR_l, partR_i, consR_ok, noex_ok, slD_l, slW_l, finO_rt, finO_nx, chain_le, chain_lelt,
  List.set_cons_zero, List.set_cons_succ, lstR, tupR, if_true, if_false, reduceIte, Bool.not_true, Bool.not_false, Bool.false_eq_true, Nat.zero_le, Nat.reduceLeDiff, Nat.zero_add, Int.reduceLT, true_and, and_true, and_self, *])
local macro_rules | `(tactic| walk_at "evs") => `(tactic| simp [runD_eq, startD, List.map_cons, List.map_nil, List.length_cons, List.length_nil, List.cons_append, List.nil_append, Nat.reduceAdd, Nat.reduceSub, List.replicate,
  kD, b1, b2, b3, bCh, tR, tAnd2, tOr2, tNot1, vAnd, vOr, vIf, aNil, aCons, oNone, asD, vComp, sSeq, sSet, sOwn, sIf, sFor, sWhile, b2F, sApp, sRet, sRetN, sExpr, sAsg, sSetI, sOwnR, sOwnQ, sPutI, b1Q, b2Q,
  slotD_0, slotD_s, slotP_0, slotP_0o, slotP_s, Res.bind_ok, Res.bind_ex, Res.bind_stuck, ofR_ok, ofR_ex, ofR_stuck, seqO_nx, seqO_rt, seqO_stuck, ifO_ok, andB_ok, orB_ok, andD_bl, orD_bl, boolR_bl, notD_bl,
  eqR_ii, neR_ii, eqR_bb, ltR_ii, leR_ii, gtR_ii, geR_ii, addD_ii, addD_small, subD_ii, negD_i, modD_ii, fdivD_ii, mulE_ii, maxR_ii, minR_ii, absR_i, lenR_t, lenR_l, seqR_t, seqR_l, tupofR_t, tupofR_l, partR_i, consR_ok, noex_ok, slD_l, slW_l, finO_rt, finO_nx, chain_le, chain_lelt,
  List.set_cons_zero, List.set_cons_succ, lstR, tupR, if_true, if_false, reduceIte, Bool.not_true, Bool.not_false, Bool.false_eq_true, Nat.zero_le, Nat.reduceLeDiff, Nat.zero_add, Int.reduceLT, true_and, and_true, and_self, *])
theorem noexO_nx (δ : DSt) : noexO (.nx δ) = .nx δ := rfl
theorem noexO_rt (d : D) : noexO (.rt d) = .rt d := rfl
def finX : Out → Res D
  | .rt d => .ok d
  | .nx _ => .ok .non
  | .ex c fs => .ex c fs
  | _ => .stuck
theorem runX_eq (n : Nat) (g : DSt → Out) (ds : List D) : runX n g ds = finX (g (startD n ds)) := by unfold runX finX; cases g (startD n ds) <;> rfl
theorem finX_rt (d : D) : finX (.rt d) = .ok d := rfl
theorem finX_nx (δ : DSt) : finX (.nx δ) = .ok .non := rfl
theorem finX_ex (c : Str) (fs : List D) : finX (.ex c fs) = .ex c fs := rfl
theorem seqO_ex (c : Str) (fs : List D) (g : DSt → Out) : seqO (.ex c fs) g = .ex c fs := rfl
local macro_rules | `(tactic| walk_at "evx*") => `(tactic| simp only [noxS, noxB, noxA, noexO_nx, noexO_rt, runX_eq, finX_rt, finX_nx, finX_ex, seqO_ex, sRaise, ofR_ok, runD_eq, startD, List.map_cons, List.map_nil, List.length_cons, List.length_nil, List.cons_append, List.nil_append, Nat.reduceAdd, Nat.reduceSub, List.replicate,
  kD, b1, b2, b3, bCh, tR, tAnd2, tOr2, tNot1, vAnd, vOr, vIf, aNil, aCons, oNone, asD, vComp, sSeq, sSet, sOwn, sIf, sFor, sWhile, b2F, sApp, sRet, sRetN, sExpr, sAsg, sSetI, sOwnR, sOwnQ, sPutI, b1Q, b2Q,
  slotD_0, slotD_s, slotP_0, slotP_0o, slotP_s, Res.bind_ok, Res.bind_ex, Res.bind_stuck, ofR_ok, ofR_ex, ofR_stuck, seqO_nx, seqO_rt, seqO_stuck, ifO_ok, andB_ok, orB_ok, andD_bl, orD_bl, boolR_bl, notD_bl,
  eqR_ii, neR_ii, eqR_bb, ltR_ii, leR_ii, gtR_ii, geR_ii, addD_ii, addD_small, subD_ii, negD_i, modD_ii, fdivD_ii, mulE_ii, maxR_ii, minR_ii, absR_i, lenR_t, lenR_l, seqR_t, seqR_l, tupofR_t, tupofR_l, partR_i, consR_ok, noex_ok, slD_l, slW_l, finO_rt, finO_nx, chain_le, chain_lelt,
  List.set_cons_zero, List.set_cons_succ, lstR, tupR, if_true, if_false, reduceIte, Bool.not_true, Bool.not_false, Bool.false_eq_true, Nat.zero_le, Nat.reduceLeDiff, Nat.zero_add, Int.reduceLT, true_and, and_true, and_self, *])
def bnd (p d h s : Int) : Bool := decide (1 ≤ p ∧ p ≤ 24) && decide (2 ≤ d ∧ d ≤ 20) && decide (1 ≤ h ∧ h ≤ d) && decide (1 ≤ s ∧ s ≤ d - 1)
theorem mixed_eq (ns : List Int) (k : Int) (h0 : 0 ≤ k) (h1 : k ≤ 1000000) : ∃ v, m__law_mixed [.lst (ns.map D.int), .int k] = .ok (.int v) := by
  unfold m__law_mixed b__law_mixed
  walk_at "ev"
  rw [eqR_nil]
  cases hn : ns.isEmpty with
  | true => first | (refine ⟨k, ?_⟩; walk_at "evs"; done) | (refine ⟨k * 7919 + 5, ?_⟩; walk_at "evs"; done)
  | false =>
    have hl : (0 : Int) < (ns.length : Int) := by
      cases ns with
      | nil => cases hn
      | cons n r => simp only [List.length_cons]; omega
    have hl2 : 0 < ns.length := by omega
    obtain ⟨d, e, hd⟩ := atI_in (xs := ns.map D.int) (i := k % ns.length) (Int.emod_nonneg _ (by omega)) (by rw [List.length_map]; exact Int.emod_lt_of_pos _ hl)
    obtain ⟨v, _, rfl⟩ := List.mem_map.mp hd
    have hb : (-18446744073709551616 < (48271 + 7919 * k) ∧ (48271 + 7919 * k) < 18446744073709551616) := by omega
    have e' := ixR_l _ _ _ e
    have hq : ns ≠ [] := by rintro rfl; cases hn
    refine ⟨(v + 1 + k) * (48271 + 7919 * k) % 2147483647, ?_⟩
    walk_at "evs"
theorem mixed_call (ns : List Int) (k : Int) (h0 : 0 ≤ k) (h1 : k ≤ 1000000) : ∃ v, callR 2 m__law_mixed [.lst (ns.map D.int), .int k] = .ok (.int v) := by
  obtain ⟨v, h⟩ := mixed_eq ns k h0 h1
  exact ⟨v, callR_eq _ _ _ _ h rfl⟩
theorem rules_eq (ns : List Int) : ∃ p d h s, m__law_rules [.lst (ns.map D.int)] = .ok (.tup [.int p, .int d, .int h, .int s]) ∧ bnd p d h s = true := by
  obtain ⟨v0, e0⟩ := mixed_call ns 0 (by decide) (by decide)
  obtain ⟨v1, e1⟩ := mixed_call ns 1 (by decide) (by decide)
  obtain ⟨v2, e2⟩ := mixed_call ns 2 (by decide) (by decide)
  obtain ⟨v3, e3⟩ := mixed_call ns 3 (by decide) (by decide)
  have h0 : 0 < 2 + v0 % 19 := by omega
  have h1 : 0 < 2 + v0 % 19 - 1 := by omega
  refine ⟨1 + v1 % 24, 2 + v0 % 19, 1 + v2 % (2 + v0 % 19), 1 + v3 % (2 + v0 % 19 - 1), ?_, ?_⟩
  · unfold m__law_rules b__law_rules
    walk_at "ev*"
  · have a1 := Int.emod_nonneg v2 (show 2 + v0 % 19 ≠ 0 by omega)
    have a2 := Int.emod_lt_of_pos v2 h0
    have a3 := Int.emod_nonneg v3 (show 2 + v0 % 19 - 1 ≠ 0 by omega)
    have a4 := Int.emod_lt_of_pos v3 h1
    unfold bnd
    simp only [Bool.and_eq_true, decide_eq_true_eq]
    omega
def pD (p : List Int) : D := .tup (p.map D.int)
def cD (C : List (List Int)) : D := .lst (C.map pD)
theorem mixed_fun (ns : List Int) : ∃ f : Int → Int, ∀ k, 0 ≤ k → k ≤ 1000000 → callR 2 m__law_mixed [.lst (ns.map D.int), .int k] = .ok (.int (f k)) := by
  refine ⟨fun k => if h : 0 ≤ k ∧ k ≤ 1000000 then (mixed_call ns k h.1 h.2).choose else 0, fun k h0 h1 => ?_⟩
  simp only [dif_pos (And.intro h0 h1)]
  exact (mixed_call ns k h0 h1).choose_spec
theorem snoc_cases {α : Type} (cs : List α) : cs = [] ∨ ∃ pre l, cs = pre ++ [l] := by
  rcases List.eq_nil_or_concat cs with h | ⟨pre, l, h⟩
  · exact .inl h
  · exact .inr ⟨pre, l, by rw [h, List.concat_eq_append]⟩
theorem isE_map' (cs : List Int) : (cs.map D.int).isEmpty = cs.isEmpty := by cases cs <;> rfl
theorem shal_map' (cs : List Int) : ∀ d ∈ cs.map D.int, shal 39 d = true := by
  intro d hd
  obtain ⟨i, _, rfl⟩ := List.mem_map.mp hd
  simp [shal]
theorem pD_getD (q : List Int) (i : Nat) (h : i < q.length) : (q.map D.int).getD i .non = .int (q.getD i 0) := by
  rw [List.getD_eq_getElem?_getD, List.getElem?_map, List.getElem?_eq_getElem h, List.getD_eq_getElem?_getD, List.getElem?_eq_getElem h]; rfl
theorem pD_at (cs : List Int) (i : Nat) (h : i < cs.length) : ixR (pD cs) (.int (i : Int)) = .ok (.int (cs.getD i 0)) := by
  refine ixR_t _ _ _ (atI_pos (by omega) ?_)
  rw [show ((i : Int)).toNat = i by omega, List.getElem?_map, List.getElem?_eq_getElem h, List.getD_eq_getElem?_getD, List.getElem?_eq_getElem h]
  rfl
def bD (B : List (List Int)) : D := .tup (B.map pD)
theorem ints_map : ∀ (ns : List Int), intsOf (ns.map D.int) = some ns
  | [] => rfl
  | n :: ns => by show (intsOf (ns.map D.int)).map (n :: ·) = _; rw [ints_map ns]; rfl
theorem sortR_l (ns : List Int) (h : ns.length < 64) : sortR (.lst (ns.map D.int)) = .ok ((sortI ns).map D.int) := by
  unfold sortR; dsimp only; rw [ints_map]; dsimp only; rw [if_pos h]
theorem forD_first {t : D → DSt → Res DSt} {body : DSt → Out} (I : Nat → DSt → Prop) (ok : Nat → Bool) (r : Nat → D) (ds : List D) (δ : DSt)
    (hb : ∀ i d δ, ds[i]? = some d → I i δ → ∃ δ', t d δ = .ok δ' ∧ ((ok i = true ∧ ∃ δ2, (body δ' = .nx δ2 ∨ body δ' = .ct δ2) ∧ I (i + 1) δ2) ∨ (ok i = false ∧ body δ' = .rt (r i)))) (h : I 0 δ) :
    (∃ δ2, forD t body ds δ = .nx δ2 ∧ I ds.length δ2 ∧ ∀ i, i < ds.length → ok i = true) ∨ ∃ i, i < ds.length ∧ ok i = false ∧ (∀ j, j < i → ok j = true) ∧ forD t body ds δ = .rt (r i) := by
  induction ds generalizing I δ ok r with
  | nil => exact .inl ⟨δ, rfl, h, fun i hi => absurd hi (Nat.not_lt_zero _)⟩
  | cons d ds ih =>
    obtain ⟨δ', e1, hh⟩ := hb 0 d δ rfl h
    rw [forD_cons d ds δ δ' e1]
    rcases hh with ⟨o0, δ2, e2, h2⟩ | ⟨o0, e2⟩
    · have h3 := ih (fun i => I (i + 1)) (fun i => ok (i + 1)) (fun i => r (i + 1)) δ2 (fun i x δ hx hI => hb (i + 1) x δ (by simpa using hx) hI) h2
      have h4 : (∃ δ2', forD t body ds δ2 = .nx δ2' ∧ I (ds.length + 1) δ2' ∧ ∀ i, i < ds.length + 1 → ok i = true) ∨ ∃ i, i < ds.length + 1 ∧ ok i = false ∧ (∀ j, j < i → ok j = true) ∧ forD t body ds δ2 = .rt (r i) := by
        rcases h3 with ⟨δ3, a, b, c⟩ | ⟨i, a, b, c, e⟩
        · refine .inl ⟨δ3, a, b, fun i hi => ?_⟩
          cases i with
          | zero => exact o0
          | succ i => exact c i (by omega)
        · refine .inr ⟨i + 1, by omega, b, fun j hj => ?_, e⟩
          cases j with
          | zero => exact o0
          | succ j => exact c j (by omega)
      rcases e2 with e2 | e2 <;> · rw [e2]; exact h4
    · rw [e2]
      exact .inr ⟨0, Nat.succ_pos _, o0, fun j hj => absurd hj (Nat.not_lt_zero _), rfl⟩
theorem eqL_self : ∀ (ds : List D), (∀ d ∈ ds, eqD d d = true) → eqL ds ds = true
  | [], _ => by simp [eqL]
  | d :: ds, h => by rw [eqL, h d List.mem_cons_self, eqL_self ds fun x hx => h x (List.mem_cons_of_mem _ hx)]; rfl
theorem eqD_self : ∀ (n : Nat) (d : D), shal n d = true → eqD d d = true
  | _, .non, _ => by simp [eqD]
  | _, .bl b, _ => by simp [eqD]
  | _, .int i, _ => by simp [eqD]
  | _, .str x, _ => by simp [eqD]
  | 0, .tup ds, h => by simp [shal] at h
  | 0, .lst ds, h => by simp [shal] at h
  | n + 1, .tup ds, h => by
    rw [shal, List.all_eq_true] at h
    rw [eqD]
    exact eqL_self ds fun d hd => eqD_self n d (h d hd)
  | n + 1, .lst ds, h => by
    rw [shal, List.all_eq_true] at h
    rw [eqD]
    exact eqL_self ds fun d hd => eqD_self n d (h d hd)
  | _, .dct _ _, h => by simp [shal] at h
  | _, .exc _ _, h => by simp [shal] at h
  | _, .obj _ _ _, h => by simp [shal] at h
theorem eqR_self (d : D) (h : shal 40 d = true) : eqR d d = .ok (.bl true) := by
  unfold eqR
  rw [if_pos (by rw [h]; rfl), eqD_self 40 d h]
theorem neR_self (d : D) (h : shal 40 d = true) : neR d d = .ok (.bl false) := by
  unfold neR
  rw [if_pos (by rw [h]; rfl), eqD_self 40 d h]; rfl
theorem fm_congr {α β : Type} {f g : α → Option β} : ∀ {l : List α}, (∀ k ∈ l, f k = g k) → l.filterMap f = l.filterMap g
  | [], _ => rfl
  | a :: l, h => by rw [List.filterMap_cons, List.filterMap_cons, h a List.mem_cons_self, fm_congr fun k hk => h k (List.mem_cons_of_mem _ hk)]
theorem picks_rev {α : Type} (xs : List α) : picks xs none (some (-1)) = xs.reverse := by
  unfold picks
  have e : sliceRange (sliceBounds none none (some (-1)) xs.length).1 (sliceBounds none none (some (-1)) xs.length).2.1 (sliceBounds none none (some (-1)) xs.length).2.2 = (List.range xs.length).map fun (k : Nat) => xs.length - 1 - k := by
    show sliceRange ((xs.length : Int) - 1) (-1) (-1) = _
    unfold sliceRange
    rw [if_neg (by decide)]
    show (List.range (if (xs.length : Int) - 1 > -1 then ((xs.length : Int) - 1 - -1 - -1 - 1) / - -1 else 0).toNat).map _ = _
    have ec : (if (xs.length : Int) - 1 > -1 then ((xs.length : Int) - 1 - -1 - -1 - 1) / - -1 else 0).toNat = xs.length := by
      rw [show (- -1 : Int) = 1 by decide, Int.ediv_one]
      split <;> omega
    rw [ec]
    refine List.map_congr_left fun k hk => ?_
    have := List.mem_range.mp hk
    omega
  rw [e, List.filterMap_map]
  have fm : (List.range xs.length).filterMap ((fun x => xs[x]?) ∘ fun k => xs.length - 1 - k) = (List.range xs.length).filterMap fun k => xs.reverse[k]? := by
    refine fm_congr fun k hk => ?_
    show xs[xs.length - 1 - k]? = _
    rw [List.getElem?_reverse (List.mem_range.mp hk)]
  rw [fm]
  have all : ∀ (ys : List α), (List.range ys.length).filterMap (fun k => ys[k]?) = ys := by
    intro ys
    induction ys with
    | nil => rfl
    | cons y ys ih =>
      rw [List.length_cons, List.range_succ_eq_map, List.filterMap_cons, List.filterMap_map]
      show y :: (List.range ys.length).filterMap (fun k => ys[k]?) = _
      rw [ih]
  have := all xs.reverse
  rw [List.length_reverse] at this
  exact this
def lstB (n : Nat) (cs : List (List Int)) : List (List Int) := (List.range n).map fun i => sortI (cs.map fun c => c.getD i 0)
theorem lstB_len (n : Nat) (cs : List (List Int)) : (lstB n cs).length = n := by unfold lstB; rw [List.length_map, List.length_range]
def okH (h : Int) (C : List (List Int)) (i : Nat) : Bool := decide (((sortI (C.map fun c => c.getD i 0)).length : Int) ≤ h)
theorem cm_at {fe : DSt → Res D} (C : List (List Int)) (i : Nat) (hc : ∀ c ∈ C, i < c.length) (hn : C.length < 64) (δ : DSt) (hf : ∀ c : List Int, ixR (pD c) (.int (i : Int)) = .ok (.int (c.getD i 0)) → fe (some (.d (pD c)) :: δ) = .ok (.int (c.getD i 0))) :
    compR 1 (setI 0) (fun _ => .ok true) fe δ (C.map pD) = .ok ((C.map fun c => c.getD i 0).map D.int) := by
  have cm := compR_ok (n := 1) (c := fun _ => .ok true) (fe := fe) (δ := δ) (comp_map (fe := fe) (fun d => match d with | .tup ds => ds.getD i .non | _ => .non) δ (C.map pD) none (fun d hd => by
    obtain ⟨c, hc1, rfl⟩ := List.mem_map.mp hd
    rw [hf c (pD_at c i (hc c hc1))]
    unfold pD
    dsimp only
    rw [List.getD_eq_getElem?_getD, List.getD_eq_getElem?_getD, List.getElem?_map, List.getElem?_eq_getElem (hc c hc1)]
    rfl)) (by rw [List.length_map]; omega)
  have em : (C.map pD).map (fun d => match d with | .tup ds => ds.getD i .non | _ => .non) = (C.map fun c => c.getD i 0).map D.int := by
    rw [List.map_map, List.map_map]
    refine List.map_congr_left fun c hc1 => ?_
    show (c.map D.int).getD i .non = .int (c.getD i 0)
    rw [List.getD_eq_getElem?_getD, List.getD_eq_getElem?_getD, List.getElem?_map, List.getElem?_eq_getElem (hc c hc1)]
    rfl
  rw [em] at cm
  exact cm
def Bd (d : Int) (cs : List Int) : Prop := ∀ c ∈ cs, 0 ≤ c ∧ c < d
theorem some_turn (ns : List Int) (p d h s m kn k pl : Int) (F : List (List Int)) (cs : List Int) (y8 y9 y10 : Option L3.S) (hc : Bd d cs) (hl : cs.length ≤ 1000) (hd : 2 ≤ d) (hs : 1 ≤ s) (hk : 0 ≤ k) (hk2 : k ≤ 100) (hp : 0 ≤ pl) (hp2 : pl ≤ 100) (hn : 1 ≤ kn) (hn2 : kn ≤ 100) :
    ∃ c y8' y9' y10', l__law_some_1 [some (.d (.tup [.int p, .int d, .int h, .int s])), some (.d (.lst (ns.map D.int))), some (.d (.int m)), some (.d (.int kn)), some (.o (F.map pD)), some (.d (.int k)), some (.o (cs.map D.int)), some (.d (.int pl)), y8, y9, y10]
      = .nx [some (.d (.tup [.int p, .int d, .int h, .int s])), some (.d (.lst (ns.map D.int))), some (.d (.int m)), some (.d (.int kn)), some (.o (F.map pD)), some (.d (.int k)), some (.o ((cs ++ [c]).map D.int)), some (.d (.int pl)), y8', y9', y10'] ∧ 0 ≤ c ∧ c < d := by
  obtain ⟨f, hf⟩ := mixed_fun ns
  have i1 : ixR (.tup [.int p, .int d, .int h, .int s]) (.int 1) = .ok (.int d) := rfl
  have i3 : ixR (.tup [.int p, .int d, .int h, .int s]) (.int 3) = .ok (.int s) := rfl
  have hne := neR_nil (cs.map D.int) (shal_map' cs)
  rw [isE_map'] at hne
  have mk : 0 ≤ k % kn ∧ k % kn < kn := ⟨Int.emod_nonneg _ (by omega), Int.emod_lt_of_pos _ (by omega)⟩
  have mm : 0 ≤ f (k + pl) % kn ∧ f (k + pl) % kn < kn := ⟨Int.emod_nonneg _ (by omega), Int.emod_lt_of_pos _ (by omega)⟩
  have e1 := hf (30 + pl + 24 * (k % kn)) (by omega) (by omega)
  have e2 := hf (k + pl) (by omega) (by omega)
  have e3 := hf (30 + pl + 24 * (f (k + pl) % kn)) (by omega) (by omega)
  have m1 : modD (.int k) (.int kn) = .ok (.int (k % kn)) := by rw [modD_ii, if_pos (by omega)]
  have m2 : modD (.int (f (k + pl))) (.int kn) = .ok (.int (f (k + pl) % kn)) := by rw [modD_ii, if_pos (by omega)]
  have x1 : mulE (.int 24) (.int (k % kn)) = .ok (.int (24 * (k % kn))) := by simp [mulE_ii]
  have x2 : mulE (.int 24) (.int (f (k + pl) % kn)) = .ok (.int (24 * (f (k + pl) % kn))) := by simp [mulE_ii]
  obtain ⟨cell, hcell⟩ : ∃ cell, cell = if kn ≤ k then f (30 + pl + 24 * (f (k + pl) % kn)) else f (30 + pl + 24 * (k % kn)) := ⟨_, rfl⟩
  have main : ∀ (lo hi : Int), 0 ≤ lo → lo ≤ hi → hi < d → (cs = [] → lo = 0 ∧ hi = d - 1) → (∀ pre l, cs = pre ++ [l] → lo = max 0 (l - s) ∧ hi = min (d - 1) (l + s)) →
      l__law_some_1 [some (.d (.tup [.int p, .int d, .int h, .int s])), some (.d (.lst (ns.map D.int))), some (.d (.int m)), some (.d (.int kn)), some (.o (F.map pD)), some (.d (.int k)), some (.o (cs.map D.int)), some (.d (.int pl)), y8, y9, y10]
      = .nx [some (.d (.tup [.int p, .int d, .int h, .int s])), some (.d (.lst (ns.map D.int))), some (.d (.int m)), some (.d (.int kn)), some (.o (F.map pD)), some (.d (.int k)), some (.o ((cs ++ [lo + cell % (hi - lo + 1)]).map D.int)), some (.d (.int pl)), some (.d (.int lo)), some (.d (.int hi)), some (.d (.int cell))] := by
    intro lo hi h0 h1 h2 hnil hcons
    have m3 : ∀ c : Int, modD (.int c) (.int (hi - lo + 1)) = .ok (.int (c % (hi - lo + 1))) := fun c => by rw [modD_ii, if_pos (by omega)]
    have ap : ∀ (c v : D), appO 6 [some (.d (.tup [.int p, .int d, .int h, .int s])), some (.d (.lst (ns.map D.int))), some (.d (.int m)), some (.d (.int kn)), some (.o (F.map pD)), some (.d (.int k)), some (.o (cs.map D.int)), some (.d (.int pl)), some (.d (.int lo)), some (.d (.int hi)), some (.d c)] (.ok v)
        = .nx [some (.d (.tup [.int p, .int d, .int h, .int s])), some (.d (.lst (ns.map D.int))), some (.d (.int m)), some (.d (.int kn)), some (.o (F.map pD)), some (.d (.int k)), some (.o (cs.map D.int ++ [v])), some (.d (.int pl)), some (.d (.int lo)), some (.d (.int hi)), some (.d c)] := fun c v => appO_eq 6 _ _ v rfl (by rw [List.length_map]; omega)
    rw [show ((cs ++ [lo + cell % (hi - lo + 1)]).map D.int) = cs.map D.int ++ [.int (lo + cell % (hi - lo + 1))] by simp]
    rcases snoc_cases cs with rfl | ⟨pre, l, rfl⟩
    · obtain ⟨rfl, rfl⟩ := hnil rfl
      simp only [List.map_nil, List.isEmpty_nil, Bool.not_true] at hne ap ⊢
      by_cases hge : kn ≤ k
      · have g1 : geR (.int k) (.int kn) = .ok (.bl true) := by rw [geR_ii, decide_eq_true hge]
        rw [if_pos hge] at hcell
        subst hcell
        clear hf hc hl hd hs hk hk2 hp hp2 hn hn2 mk mm h0 h1 h2 hnil hcons hge
        unfold l__law_some_1
        walk_at "ev*"
      · have g1 : geR (.int k) (.int kn) = .ok (.bl false) := by rw [geR_ii, decide_eq_false hge]
        rw [if_neg hge] at hcell
        subst hcell
        clear hf hc hl hd hs hk hk2 hp hp2 hn hn2 mk mm h0 h1 h2 hnil hcons hge
        unfold l__law_some_1
        walk_at "ev*"
    · obtain ⟨rfl, rfl⟩ := hcons pre l rfl
      have eix : ixR (.lst ((pre ++ [l]).map D.int)) (.int (-1)) = .ok (.int l) := ixR_l _ _ _ (by rw [List.map_append]; exact atI_neg1 _ _)
      have he : (pre ++ [l]).isEmpty = false := by cases pre <;> rfl
      rw [he, Bool.not_false] at hne
      generalize (pre ++ [l]).map D.int = G at *
      by_cases hge : kn ≤ k
      · have g1 : geR (.int k) (.int kn) = .ok (.bl true) := by rw [geR_ii, decide_eq_true hge]
        rw [if_pos hge] at hcell
        subst hcell
        clear hf hc hl hd hs hk hk2 hp hp2 hn hn2 mk mm h0 h1 h2 hnil hcons hge he
        unfold l__law_some_1
        walk_at "ev*"
      · have g1 : geR (.int k) (.int kn) = .ok (.bl false) := by rw [geR_ii, decide_eq_false hge]
        rw [if_neg hge] at hcell
        subst hcell
        clear hf hc hl hd hs hk hk2 hp hp2 hn hn2 mk mm h0 h1 h2 hnil hcons hge he
        unfold l__law_some_1
        walk_at "ev*"
  have fin : ∀ lo hi : Int, 0 ≤ lo → lo ≤ hi → hi < d → 0 ≤ lo + cell % (hi - lo + 1) ∧ lo + cell % (hi - lo + 1) < d := fun lo hi h0 h1 h2 => by
    have a1 := Int.emod_nonneg cell (show hi - lo + 1 ≠ 0 by omega)
    have a2 := Int.emod_lt_of_pos cell (show 0 < hi - lo + 1 by omega)
    omega
  rcases snoc_cases cs with rfl | ⟨pre, l, rfl⟩
  · exact ⟨_, _, _, _, main 0 (d - 1) (by omega) (by omega) (by omega) (fun _ => ⟨rfl, rfl⟩) (fun pre l e => by simp at e), fin 0 (d - 1) (by omega) (by omega) (by omega)⟩
  · obtain ⟨l0, l1⟩ := hc l (by simp)
    refine ⟨_, _, _, _, main (max 0 (l - s)) (min (d - 1) (l + s)) (by omega) (by omega) (by omega) (fun e => by simp at e) (fun pre' l' e => ?_), fin _ _ (by omega) (by omega) (by omega)⟩
    have := List.append_inj' e rfl
    have el : l = l' := by simpa using this.2
    subst el; exact ⟨rfl, rfl⟩
theorem some_row (ns : List Int) (p d h s m kn k : Int) (F : List (List Int)) (y6 y7 y8 y9 y10 : Option L3.S) (hF : F.length ≤ 1000) (hd : 2 ≤ d) (hs : 1 ≤ s) (hp : 1 ≤ p) (hp2 : p ≤ 100) (hk : 0 ≤ k) (hk2 : k ≤ 100) (hn : 1 ≤ kn) (hn2 : kn ≤ 100) :
    ∃ cs y6' y7' y8' y9' y10', l__law_some_2 [some (.d (.tup [.int p, .int d, .int h, .int s])), some (.d (.lst (ns.map D.int))), some (.d (.int m)), some (.d (.int kn)), some (.o (F.map pD)), some (.d (.int k)), y6, y7, y8, y9, y10]
      = .nx [some (.d (.tup [.int p, .int d, .int h, .int s])), some (.d (.lst (ns.map D.int))), some (.d (.int m)), some (.d (.int kn)), some (.o ((F ++ [cs]).map pD)), some (.d (.int k)), y6', y7', y8', y9', y10'] ∧ cs.length = p.toNat ∧ Bd d cs := by
  have i0 : ixR (.tup [.int p, .int d, .int h, .int s]) (.int 0) = .ok (.int p) := rfl
  have hr := rng1_i p (by omega) (by omega)
  obtain ⟨δ2, f, cs, z7, z8, z9, z10, rfl, hl, hc⟩ := forD_ix (t := setI 7) (body := l__law_some_1) (fun i δ => ∃ (cs : List Int) (z7 z8 z9 z10 : Option L3.S), δ = [some (.d (.tup [.int p, .int d, .int h, .int s])), some (.d (.lst (ns.map D.int))), some (.d (.int m)), some (.d (.int kn)), some (.o (F.map pD)), some (.d (.int k)), some (.o (cs.map D.int)), z7, z8, z9, z10] ∧ cs.length = i ∧ Bd d cs)
    (rngD 0 p.toNat) [some (.d (.tup [.int p, .int d, .int h, .int s])), some (.d (.lst (ns.map D.int))), some (.d (.int m)), some (.d (.int kn)), some (.o (F.map pD)), some (.d (.int k)), some (.o []), y7, y8, y9, y10] (fun i x δ hx hI => by
      obtain ⟨cs, z7, z8, z9, z10, rfl, hl, hc⟩ := hI
      obtain ⟨hi, rfl⟩ := rngD_get hx
      obtain ⟨c, y8', y9', y10', e, c0, c1⟩ := some_turn ns p d h s m kn k (0 + i) F cs z8 z9 z10 hc (by omega) hd hs hk hk2 (by omega) (by omega) hn hn2
      refine ⟨_, rfl, _, .inl e, cs ++ [c], _, _, _, _, rfl, by simp [hl], fun x hx => ?_⟩
      rcases List.mem_append.mp hx with hx | hx
      · exact hc x hx
      · rw [List.mem_singleton.mp hx]; exact ⟨c0, c1⟩) ⟨[], y7, y8, y9, y10, rfl, rfl, fun c hc => by simp at hc⟩
  refine ⟨cs, some (.o (cs.map D.int)), z7, z8, z9, z10, ?_, by rw [hl, rngD_len], hc⟩
  have ap : ∀ (v : D), appO 4 [some (.d (.tup [.int p, .int d, .int h, .int s])), some (.d (.lst (ns.map D.int))), some (.d (.int m)), some (.d (.int kn)), some (.o (F.map pD)), some (.d (.int k)), some (.o (cs.map D.int)), z7, z8, z9, z10] (.ok v)
      = .nx [some (.d (.tup [.int p, .int d, .int h, .int s])), some (.d (.lst (ns.map D.int))), some (.d (.int m)), some (.d (.int kn)), some (.o (F.map pD ++ [v])), some (.d (.int k)), some (.o (cs.map D.int)), z7, z8, z9, z10] := fun v => appO_eq 4 _ _ v rfl (by rw [List.length_map]; omega)
  rw [show ((F ++ [cs]).map pD) = F.map pD ++ [.tup (cs.map D.int)] by simp [pD]]
  clear hl hc
  unfold l__law_some_2
  walk_at "ev*"
theorem some_eq (ns : List Int) (p d h s m kn : Int) (hd : 2 ≤ d) (hs : 1 ≤ s) (hp : 1 ≤ p) (hp2 : p ≤ 100) (hm : 1 ≤ m) (hm2 : m ≤ 50) (hn : 1 ≤ kn) (hn2 : kn ≤ 100) :
    ∃ C : List (List Int), callR 4 m__law_some [.tup [.int p, .int d, .int h, .int s], .lst (ns.map D.int), .int m, .int kn] = .ok (cD C) ∧ C.length = m.toNat ∧ ∀ q ∈ C, q.length = p.toNat ∧ Bd d q := by
  have hr := rng1_i m (by omega) (by omega)
  obtain ⟨δ2, f, C, z5, z6, z7, z8, z9, z10, rfl, hl, hc⟩ := forD_ix (t := setI 5) (body := l__law_some_2) (fun i δ => ∃ (C : List (List Int)) (z5 z6 z7 z8 z9 z10 : Option L3.S), δ = [some (.d (.tup [.int p, .int d, .int h, .int s])), some (.d (.lst (ns.map D.int))), some (.d (.int m)), some (.d (.int kn)), some (.o (C.map pD)), z5, z6, z7, z8, z9, z10] ∧ C.length = i ∧ ∀ q ∈ C, q.length = p.toNat ∧ Bd d q)
    (rngD 0 m.toNat) [some (.d (.tup [.int p, .int d, .int h, .int s])), some (.d (.lst (ns.map D.int))), some (.d (.int m)), some (.d (.int kn)), some (.o []), none, none, none, none, none, none] (fun i x δ hx hI => by
      obtain ⟨C, z5, z6, z7, z8, z9, z10, rfl, hl, hc⟩ := hI
      obtain ⟨hi, rfl⟩ := rngD_get hx
      obtain ⟨cs, y6', y7', y8', y9', y10', e, hcs⟩ := some_row ns p d h s m kn (0 + i) C z6 z7 z8 z9 z10 (by omega) hd hs hp hp2 (by omega) (by omega) hn hn2
      refine ⟨_, rfl, _, .inl e, C ++ [cs], _, _, _, _, _, _, rfl, by simp [hl], fun q hq => ?_⟩
      rcases List.mem_append.mp hq with hq | hq
      · exact hc q hq
      · rw [List.mem_singleton.mp hq]; exact hcs) ⟨[], none, none, none, none, none, none, rfl, rfl, fun q hq => by simp at hq⟩
  refine ⟨C, callR_eq _ _ _ _ ?_ rfl, by rw [hl, rngD_len], hc⟩
  clear hl hc
  unfold m__law_some b__law_some
  walk_at "ev*"
  rfl
theorem forD_exF {t : D → DSt → Res DSt} {body : DSt → Out} {c : Str} (I : Nat → DSt → Prop) (ok : Nat → Bool) (fs : Nat → List D) (ds : List D) (δ : DSt)
    (hb : ∀ i d δ, ds[i]? = some d → I i δ → ∃ δ', t d δ = .ok δ' ∧ ((ok i = true ∧ ∃ δ2, body δ' = .nx δ2 ∧ I (i + 1) δ2) ∨ (ok i = false ∧ body δ' = .ex c (fs i)))) (h : I 0 δ) :
    (∃ δ2, forD t body ds δ = .nx δ2 ∧ I ds.length δ2 ∧ ∀ i, i < ds.length → ok i = true) ∨ ∃ i, i < ds.length ∧ ok i = false ∧ (∀ j, j < i → ok j = true) ∧ forD t body ds δ = .ex c (fs i) := by
  induction ds generalizing I δ ok fs with
  | nil => exact .inl ⟨δ, rfl, h, fun i hi => absurd hi (Nat.not_lt_zero _)⟩
  | cons d ds ih =>
    obtain ⟨δ', e1, hh⟩ := hb 0 d δ rfl h
    rw [forD_cons d ds δ δ' e1]
    rcases hh with ⟨o0, δ2, e2, h2⟩ | ⟨o0, e2⟩
    · rw [e2]
      rcases ih (fun i => I (i + 1)) (fun i => ok (i + 1)) (fun i => fs (i + 1)) δ2 (fun i d δ hd hI => hb (i + 1) d δ hd hI) h2 with ⟨δ3, f, hI, ho⟩ | ⟨i, hi, oi, oj, f⟩
      · refine .inl ⟨δ3, f, hI, fun i hi => ?_⟩
        cases i with
        | zero => exact o0
        | succ i => exact ho i (by simpa using hi)
      · refine .inr ⟨i + 1, by simpa using hi, oi, fun j hj => ?_, f⟩
        cases j with
        | zero => exact o0
        | succ j => exact oj j (by omega)
    · rw [e2]; exact .inr ⟨0, by simp, o0, fun j hj => absurd hj (Nat.not_lt_zero _), rfl⟩
theorem least_F (p d h s : Int) (C : List (List Int)) (hp : 0 ≤ p) (hp2 : p ≤ 100) (hc : ∀ c ∈ C, c.length = p.toNat) (hn : C.length < 64) :
    (m_least_of [.tup [.int p, .int d, .int h, .int s], cD C] = .ok (bD (lstB p.toNat C)) ∧ ∀ i, i < p.toNat → okH h C i = true) ∨ ∃ i, i < p.toNat ∧ okH h C i = false ∧ (∀ j, j < i → okH h C j = true) ∧ m_least_of [.tup [.int p, .int d, .int h, .int s], cD C] = .ex "TooHigh" [.tup [.str "place"], .int (i : Int)] := by
  have pl : callR 1 m_places_of [.tup [.int p, .int d, .int h, .int s]] = .ok (.int p) := rfl
  have hg : callR 1 m_heights_of [.tup [.int p, .int d, .int h, .int s]] = .ok (.int h) := rfl
  have rg := rng1_i p hp (by omega)
  have hn2 : p.toNat ≤ 100 := by omega
  generalize p.toNat = n at *
  generalize D.tup [.int p, .int d, .int h, .int s] = RU at *
  have sq : seqR (cD C) = .ok (C.map pD) := rfl
  have lo := forD_exF (t := setI 3) (body := l_least_of_1) (c := "TooHigh") (fun i δ => ∃ (x y : Option L3.S), δ = [some (.d RU), some (.d (cD C)), some (.o ((lstB i C).map pD)), x, y]) (okH h C) (fun i => [.tup [.str "place"], .int (i : Int)]) (rngD 0 n) [some (.d RU), some (.d (cD C)), some (.o []), none, none] (fun i e δ he hI => by
    obtain ⟨x, y, rfl⟩ := hI
    obtain ⟨hi, rfl⟩ := rngD_get he
    rw [Int.zero_add]
    have cm := cm_at (fe := e_least_of_1) C i (fun c h1 => by rw [hc c h1]; exact hi) hn [some (.d RU), some (.d (cD C)), some (.o ((lstB i C).map pD)), some (.d (.int (i : Int))), y] (fun c e1 => by
      unfold e_least_of_1
      simp only [b2, slotP_0, slotP_s, Res.bind_ok, e1])
    have so := sortR_l (C.map fun c => c.getD i 0) (by rw [List.length_map]; exact hn)
    have dt : gtR (.int (((sortI (C.map fun c => c.getD i 0)).map D.int).length : Int)) (.int h) = .ok (.bl (!okH h C i)) := by
      rw [gtR_ii, List.length_map]
      unfold okH
      congr 2
      by_cases z : ((sortI (C.map fun c => c.getD i 0)).length : Int) ≤ h
      · rw [decide_eq_true z]; exact decide_eq_false (by omega)
      · rw [decide_eq_false z]; exact decide_eq_true (by omega)
    have ap := appO_eq 2 [some (.d RU), some (.d (cD C)), some (.o ((lstB i C).map pD)), some (.d (.int (i : Int))), some (.d (pD (sortI (C.map fun c => c.getD i 0))))] ((lstB i C).map pD) (pD (sortI (C.map fun c => c.getD i 0))) rfl (by rw [List.length_map, lstB_len]; omega)
    have es : (lstB (i + 1) C).map pD = (lstB i C).map pD ++ [pD (sortI (C.map fun c => c.getD i 0))] := by
      unfold lstB
      rw [List.range_succ, List.map_append, List.map_append, List.map_singleton, List.map_singleton]
    refine ⟨_, rfl, ?_⟩
    have tp : tupofR (.lst ((sortI (C.map fun c => c.getD i 0)).map D.int)) = .ok (pD (sortI (C.map fun c => c.getD i 0))) := rfl
    have ln : lenR (pD (sortI (C.map fun c => c.getD i 0))) = .ok (.int ((sortI (C.map fun c => c.getD i 0)).map D.int).length) := rfl
    have hi3 : (0 : Int) ≤ (i : Int) ∧ (i : Int) < 1000 := by omega
    cases ho : okH h C i with
    | true =>
      refine .inl ⟨rfl, [some (.d RU), some (.d (cD C)), some (.o ((lstB (i + 1) C).map pD)), some (.d (.int (i : Int))), some (.d (pD (sortI (C.map fun c => c.getD i 0))))], ?_, _, _, rfl⟩
      rw [es]
      rw [ho] at dt
      clear es ho
      generalize pD (sortI (C.map fun c => c.getD i 0)) = PV at *
      generalize (sortI (C.map fun c => c.getD i 0)).map D.int = V at *
      generalize (C.map fun c => c.getD i 0).map D.int = V0 at *
      unfold l_least_of_1
      simp only [noxS, noxB, noxA, noexO_nx, noexO_rt, noex_ok, List.set_cons_zero, List.set_cons_succ, sSeq, sSet, sIf, sApp, tR, b1, b2, asD, vComp, aCons, aNil, consR_ok, slotD_0, slotD_s, slotP_0, slotP_s, Res.bind_ok, sq, cm, so, tp, ln, ofR_ok, seqO_nx, hg, dt, boolR_bl, ifO_ok, Bool.not_true, Bool.false_eq_true, if_false, reduceIte, ap]
    | false =>
      refine .inr ⟨rfl, ?_⟩
      rw [ho] at dt
      clear es ho
      generalize pD (sortI (C.map fun c => c.getD i 0)) = PV at *
      generalize (sortI (C.map fun c => c.getD i 0)).map D.int = V at *
      generalize (C.map fun c => c.getD i 0).map D.int = V0 at *
      unfold l_least_of_1
      simp only [noxS, noxB, noxA, noexO_nx, noexO_rt, noex_ok, List.set_cons_zero, List.set_cons_succ, sSeq, sSet, sIf, sApp, tR, b1, b2, asD, vComp, aCons, aNil, consR_ok, slotD_0, slotD_s, slotP_0, slotP_s, Res.bind_ok, sq, cm, so, tp, ln, ofR_ok, seqO_nx, seqO_ex, hg, dt, boolR_bl, ifO_ok, Bool.not_false, if_true, reduceIte, sRaiseI, raiO]
      rw [if_pos hi3]
      rfl) ⟨none, none, rfl⟩
  rw [rngD_len] at lo
  rcases lo with ⟨δ2, f, ⟨x, y, rfl⟩, ho⟩ | ⟨i, hi, oi, oj, f⟩
  · refine .inl ⟨?_, ho⟩
    have tp : tupofR (.lst ((lstB n C).map pD)) = .ok (bD (lstB n C)) := rfl
    clear ho hc
    generalize bD (lstB n C) = OUT at *
    generalize (lstB n C).map pD = V at *
    generalize cD C = CC at *
    unfold m_least_of b_least_of
    simp only [runX_eq, noxS, noxA, noexO_nx, noexO_rt, noex_ok, startD, List.map_cons, List.map_nil, List.length_cons, List.length_nil, List.cons_append, List.nil_append, Nat.reduceAdd, Nat.reduceSub, List.replicate, kD, b1, lstR, aCons, aNil, consR_ok, sSeq, sOwn, sFor, sRet, slotD_0, slotD_s, slotP_0, slotP_0o, slotP_s, Res.bind_ok, pl, rg, f, tp, ofR_ok, seqO_nx, finX_rt, List.set_cons_zero, List.set_cons_succ, Nat.zero_le, if_true, reduceIte]
  · refine .inr ⟨i, hi, oi, oj, ?_⟩
    clear oi oj hi hc
    generalize cD C = CC at *
    unfold m_least_of b_least_of
    simp only [runX_eq, noxS, noxA, noexO_nx, noexO_rt, noex_ok, startD, List.map_cons, List.map_nil, List.length_cons, List.length_nil, List.cons_append, List.nil_append, Nat.reduceAdd, Nat.reduceSub, List.replicate, kD, b1, lstR, aCons, aNil, consR_ok, sSeq, sOwn, sFor, sRet, slotD_0, slotD_s, slotP_0, slotP_0o, slotP_s, Res.bind_ok, pl, rg, f, ofR_ok, seqO_nx, seqO_ex, finX_ex, List.set_cons_zero, List.set_cons_succ, Nat.zero_le, if_true, reduceIte]
def upto (col : List Int) (j : Nat) : List Int := ((List.range j).map fun (k : Nat) => (k : Int)).filter fun k => decide (k ∈ col)
theorem upto_succ (col : List Int) (j : Nat) : upto col (j + 1) = upto col j ++ (if (j : Int) ∈ col then [(j : Int)] else []) := by
  unfold upto
  rw [List.range_succ, List.map_append, List.filter_append, List.map_singleton]
  by_cases h : (j : Int) ∈ col
  · rw [if_pos h, List.filter_cons, if_pos (decide_eq_true h)]; rfl
  · rw [if_neg h, List.filter_cons, if_neg (by simp [h])]; rfl
theorem upto_sort {col : List Int} {d : Int} (h : ∀ c ∈ col, 0 ≤ c ∧ c < d) : upto col d.toNat = sortI col := by
  refine up_unique ?_ (up_sortI col) fun x => ?_
  · unfold upto
    refine List.Pairwise.filter _ ?_
    rw [List.pairwise_map]
    exact List.Pairwise.imp (fun {a b} (h : a < b) => by omega) List.pairwise_lt_range
  · unfold upto
    rw [List.mem_filter, mem_sortI]
    constructor
    · rintro ⟨_, h2⟩; exact of_decide_eq_true h2
    · intro hx
      refine ⟨List.mem_map.mpr ⟨x.toNat, List.mem_range.mpr (by have := h x hx; omega), by have := h x hx; omega⟩, decide_eq_true hx⟩
theorem upto_len (col : List Int) (j : Nat) : (upto col j).length ≤ j := by
  unfold upto
  refine Nat.le_trans (List.length_filter_le _ _) ?_
  rw [List.length_map, List.length_range]; exact Nat.le_refl _
theorem due_turn (RU : D) (C F : List (List Int)) (i j : Nat) (hc : ∀ c ∈ C, i < c.length) (hn : C.length < 64) (hj : j ≤ 100) :
    l__law_due_1 [some (.d RU), some (.d (cD C)), some (.o (F.map pD)), some (.d (.int (i : Int))), some (.o ((upto (C.map fun c => c.getD i 0) j).map D.int)), some (.d (.int (j : Int)))]
      = .nx [some (.d RU), some (.d (cD C)), some (.o (F.map pD)), some (.d (.int (i : Int))), some (.o ((upto (C.map fun c => c.getD i 0) (j + 1)).map D.int)), some (.d (.int (j : Int)))] := by
  have sq : seqR (cD C) = .ok (C.map pD) := rfl
  have cm : compR 1 (setI 0) c__law_due_1 e__law_due_1 [some (.d RU), some (.d (cD C)), some (.o (F.map pD)), some (.d (.int (i : Int))), some (.o ((upto (C.map fun c => c.getD i 0) j).map D.int)), some (.d (.int (j : Int)))] (C.map pD) = .ok (((C.map pD).filter fun x => match x with | .tup ds => (match ds.getD i .non with | .int v => v == (j : Int) | _ => false) | _ => false).map id) := by
    refine compR_ok ?_ (by rw [List.length_map]; omega)
    refine comp_filter (c := c__law_due_1) (fe := e__law_due_1) _ id [some (.d RU), some (.d (cD C)), some (.o (F.map pD)), some (.d (.int (i : Int))), some (.o ((upto (C.map fun c => c.getD i 0) j).map D.int)), some (.d (.int (j : Int)))] (C.map pD) none fun x hx => ?_
    obtain ⟨c, hc1, rfl⟩ := List.mem_map.mp hx
    have e1 := pD_at c i (hc c hc1)
    refine ⟨?_, fun _ => rfl⟩
    show _ = Res.ok (match (c.map D.int).getD i .non with | .int v => v == (j : Int) | _ => false)
    rw [pD_getD c i (hc c hc1)]
    unfold c__law_due_1
    simp only [tR, b2, slotP_0, slotP_s, Res.bind_ok, e1, eqR_ii, boolR_bl]
  generalize hL : (((C.map pD).filter fun x => match x with | .tup ds => (match ds.getD i .non with | .int v => v == (j : Int) | _ => false) | _ => false).map id) = L at cm
  have hm : (0 < L.length) ↔ (j : Int) ∈ (C.map fun c => c.getD i 0) := by
    rw [← hL, List.length_map, List.length_pos_iff_exists_mem]
    constructor
    · rintro ⟨x, hx⟩
      obtain ⟨h1, h2⟩ := List.mem_filter.mp hx
      obtain ⟨c, hc1, rfl⟩ := List.mem_map.mp h1
      have h3 : (match (c.map D.int).getD i .non with | .int v => v == (j : Int) | _ => false) = true := h2
      rw [pD_getD c i (hc c hc1)] at h3
      exact List.mem_map.mpr ⟨c, hc1, by simpa using h3⟩
    · intro h
      obtain ⟨c, hc1, e⟩ := List.mem_map.mp h
      refine ⟨pD c, List.mem_filter.mpr ⟨List.mem_map.mpr ⟨c, hc1, rfl⟩, ?_⟩⟩
      show (match (c.map D.int).getD i .non with | .int v => v == (j : Int) | _ => false) = true
      rw [pD_getD c i (hc c hc1)]
      simpa using e
  have gt : gtR (.int (L.length : Int)) (.int 0) = .ok (.bl (decide ((j : Int) ∈ (C.map fun c => c.getD i 0)))) := by
    rw [gtR_ii]
    congr 2
    rw [decide_eq_decide, ← hm]
    omega
  rw [upto_succ]
  have ap := appO_eq 4 [some (.d RU), some (.d (cD C)), some (.o (F.map pD)), some (.d (.int (i : Int))), some (.o ((upto (C.map fun c => c.getD i 0) j).map D.int)), some (.d (.int (j : Int)))] ((upto (C.map fun c => c.getD i 0) j).map D.int) (.int (j : Int)) rfl (by have := upto_len (C.map fun c => c.getD i 0) j; rw [List.length_map]; omega)
  by_cases h : (j : Int) ∈ (C.map fun c => c.getD i 0)
  · rw [decide_eq_true h] at gt
    rw [if_pos h, List.map_append]
    clear hL hm h hc hn hj
    generalize (upto (C.map fun c => c.getD i 0) j).map D.int = U at *
    generalize cD C = CC at *
    unfold l__law_due_1
    simp only [sIf, sApp, tR, b1, b2, asD, vComp, kD, slotD_0, slotD_s, slotP_0, slotP_s, Res.bind_ok, sq, cm, lenR_l, gt, boolR_bl, ifO_ok, if_true, reduceIte, ap, List.set_cons_zero, List.set_cons_succ, List.map_cons, List.map_nil]
  · rw [decide_eq_false h] at gt
    rw [if_neg h, List.append_nil]
    clear hL hm h hc hn hj
    generalize (upto (C.map fun c => c.getD i 0) j).map D.int = U at *
    generalize cD C = CC at *
    unfold l__law_due_1
    simp only [sIf, sApp, tR, b1, b2, asD, vComp, kD, slotD_0, slotD_s, slotP_0, slotP_s, Res.bind_ok, sq, cm, lenR_l, gt, boolR_bl, ifO_ok, Bool.false_eq_true, if_false, reduceIte]
theorem due_F (p d h s : Int) (C : List (List Int)) (hp : 0 ≤ p) (hp2 : p ≤ 100) (hd : 0 ≤ d) (hd2 : d ≤ 100) (hc : ∀ c ∈ C, c.length = p.toNat ∧ Bd d c) (hn : C.length < 64) :
    (callR 2 m__law_due [.tup [.int p, .int d, .int h, .int s], cD C] = .ok (.tup [bD (lstB p.toNat C), .non]) ∧ ∀ i, i < p.toNat → okH h C i = true) ∨ ∃ i, i < p.toNat ∧ okH h C i = false ∧ (∀ j, j < i → okH h C j = true) ∧ callR 2 m__law_due [.tup [.int p, .int d, .int h, .int s], cD C] = .ok (.tup [.non, .int (i : Int)]) := by
  have i0 : ixR (.tup [.int p, .int d, .int h, .int s]) (.int 0) = .ok (.int p) := rfl
  have i1 : ixR (.tup [.int p, .int d, .int h, .int s]) (.int 1) = .ok (.int d) := rfl
  have i2 : ixR (.tup [.int p, .int d, .int h, .int s]) (.int 2) = .ok (.int h) := rfl
  have rg := rng1_i p hp (by omega)
  have rg2 := rng1_i d hd (by omega)
  have hn2 : p.toNat ≤ 100 := by omega
  have hdn : d.toNat ≤ 100 := by omega
  generalize p.toNat = n at *
  generalize D.tup [.int p, .int d, .int h, .int s] = RU at *
  have hs := forD_first (t := setI 3) (body := l__law_due_2) (fun i δ => ∃ (x y z : Option L3.S), δ = [some (.d RU), some (.d (cD C)), some (.o ((lstB i C).map pD)), x, y, z]) (okH h C) (fun i => .tup [.non, .int (i : Int)]) (rngD 0 n) [some (.d RU), some (.d (cD C)), some (.o []), none, none, none] (fun i e δ he hI => by
    obtain ⟨x, y, z, rfl⟩ := hI
    obtain ⟨hi, rfl⟩ := rngD_get he
    rw [Int.zero_add]
    have es : (lstB (i + 1) C).map pD = (lstB i C).map pD ++ [pD (sortI (C.map fun c => c.getD i 0))] := by
      unfold lstB
      rw [List.range_succ, List.map_append, List.map_append, List.map_singleton, List.map_singleton]
    obtain ⟨δ2, f, z', hI2⟩ := forD_ix (t := setI 5) (body := l__law_due_1) (fun j δ => ∃ z', δ = [some (.d RU), some (.d (cD C)), some (.o ((lstB i C).map pD)), some (.d (.int (i : Int))), some (.o ((upto (C.map fun c => c.getD i 0) j).map D.int)), z']) (rngD 0 d.toNat) [some (.d RU), some (.d (cD C)), some (.o ((lstB i C).map pD)), some (.d (.int (i : Int))), some (.o []), z] (fun j x δ hx hI => by
      obtain ⟨z', rfl⟩ := hI
      obtain ⟨hj, rfl⟩ := rngD_get hx
      rw [Int.zero_add]
      exact ⟨_, rfl, _, .inl (due_turn RU C (lstB i C) i j (fun c h1 => by rw [(hc c h1).1]; exact hi) hn (by omega)), _, rfl⟩) ⟨z, rfl⟩
    subst hI2
    rw [rngD_len, upto_sort (fun c hc1 => by
      obtain ⟨q, hq, rfl⟩ := List.mem_map.mp hc1
      obtain ⟨l, b⟩ := hc q hq
      rw [List.getD_eq_getElem?_getD, List.getElem?_eq_getElem (show i < q.length by omega)]
      exact b _ (List.getElem_mem _))] at f
    have dt : gtR (.int (((sortI (C.map fun c => c.getD i 0)).map D.int).length : Int)) (.int h) = .ok (.bl (!okH h C i)) := by
      rw [gtR_ii, List.length_map]
      unfold okH
      congr 2
      by_cases z : ((sortI (C.map fun c => c.getD i 0)).length : Int) ≤ h
      · rw [decide_eq_true z]; exact decide_eq_false (by omega)
      · rw [decide_eq_false z]; exact decide_eq_true (by omega)
    have tp : tupofR (.lst ((sortI (C.map fun c => c.getD i 0)).map D.int)) = .ok (pD (sortI (C.map fun c => c.getD i 0))) := rfl
    have ap := appO_eq 2 [some (.d RU), some (.d (cD C)), some (.o ((lstB i C).map pD)), some (.d (.int (i : Int))), some (.o ((sortI (C.map fun c => c.getD i 0)).map D.int)), z'] ((lstB i C).map pD) (pD (sortI (C.map fun c => c.getD i 0))) rfl (by rw [List.length_map, lstB_len]; omega)
    refine ⟨_, rfl, ?_⟩
    cases ho : okH h C i with
    | true =>
      refine .inl ⟨rfl, [some (.d RU), some (.d (cD C)), some (.o ((lstB (i + 1) C).map pD)), some (.d (.int (i : Int))), some (.o ((sortI (C.map fun c => c.getD i 0)).map D.int)), z'], .inl ?_, _, _, _, rfl⟩
      rw [es]
      rw [ho] at dt
      clear es ho
      generalize pD (sortI (C.map fun c => c.getD i 0)) = PV at *
      generalize (sortI (C.map fun c => c.getD i 0)).map D.int = V at *
      unfold l__law_due_2
      simp only [List.set_cons_zero, List.set_cons_succ, sSeq, sOwn, sFor, sIf, sApp, sRet, tR, b1, b2, lstR, tupR, kD, aCons, aNil, consR_ok, slotD_0, slotD_s, slotP_0, slotP_0o, slotP_s, Res.bind_ok, i1, i2, rg2, f, lenR_l, tp, ofR_ok, seqO_nx, dt, boolR_bl, ifO_ok, Bool.not_true, Bool.false_eq_true, if_false, reduceIte, ap, List.length_nil, Nat.zero_le]
    | false =>
      refine .inr ⟨rfl, ?_⟩
      rw [ho] at dt
      clear es ho
      generalize pD (sortI (C.map fun c => c.getD i 0)) = PV at *
      generalize (sortI (C.map fun c => c.getD i 0)).map D.int = V at *
      unfold l__law_due_2
      simp only [List.set_cons_zero, List.set_cons_succ, sSeq, sOwn, sFor, sIf, sApp, sRet, tR, b1, b2, lstR, tupR, kD, aCons, aNil, consR_ok, slotD_0, slotD_s, slotP_0, slotP_0o, slotP_s, Res.bind_ok, i1, i2, rg2, f, lenR_l, tp, ofR_ok, seqO_nx, seqO_rt, dt, boolR_bl, ifO_ok, Bool.not_false, if_true, reduceIte, ap, List.length_cons, List.length_nil, Nat.zero_le, Nat.reduceAdd, Nat.reduceLeDiff]) ⟨none, none, none, rfl⟩
  rw [rngD_len] at hs
  rcases hs with ⟨δ2, f, ⟨x, y, z, rfl⟩, ho⟩ | ⟨i, hi, oi, oj, f⟩
  · refine .inl ⟨callR_eq _ _ _ _ ?_ rfl, ho⟩
    have tp : tupofR (.lst ((lstB n C).map pD)) = .ok (bD (lstB n C)) := rfl
    clear ho hc
    generalize bD (lstB n C) = OUT at *
    generalize (lstB n C).map pD = V at *
    generalize cD C = CC at *
    unfold m__law_due b__law_due
    simp only [runD_eq, startD, List.map_cons, List.map_nil, List.length_cons, List.length_nil, List.cons_append, List.nil_append, Nat.reduceAdd, Nat.reduceSub, Nat.reduceLeDiff, List.replicate, kD, b1, b2, lstR, tupR, aCons, aNil, consR_ok, sSeq, sOwn, sFor, sRet, slotD_0, slotD_s, slotP_0, slotP_0o, slotP_s, Res.bind_ok, i0, rg, f, tp, ofR_ok, seqO_nx, finO_rt, List.set_cons_zero, List.set_cons_succ, Nat.zero_le, if_true, reduceIte]
  · refine .inr ⟨i, hi, oi, oj, callR_eq _ _ _ _ ?_ rfl⟩
    clear oi oj hi hc
    generalize cD C = CC at *
    unfold m__law_due b__law_due
    simp only [runD_eq, startD, List.map_cons, List.map_nil, List.length_cons, List.length_nil, List.cons_append, List.nil_append, Nat.reduceAdd, Nat.reduceSub, Nat.reduceLeDiff, List.replicate, kD, b1, b2, lstR, tupR, aCons, aNil, consR_ok, sSeq, sOwn, sFor, sRet, slotD_0, slotD_s, slotP_0, slotP_0o, slotP_s, Res.bind_ok, i0, rg, f, ofR_ok, seqO_nx, seqO_rt, finO_rt, List.set_cons_zero, List.set_cons_succ, Nat.zero_le, if_true, reduceIte]
theorem isB_filter (q : List Int) (δ : DSt) {c : DSt → Res Bool} {e : DSt → Res D} (hc : ∀ d, c (some (.d d) :: δ) = (isiR "bool" d).bind boolR) (hl : q.length ≤ 1000) : compR 1 (setI 0) c e δ (q.map D.int) = .ok [] := by
  refine compR_ok ?_ (by rw [List.length_map]; omega)
  have := comp_filter (c := c) (fe := e) (fun _ => false) id δ (q.map D.int) none (fun d hd => by
    obtain ⟨i, _, rfl⟩ := List.mem_map.mp hd
    refine ⟨?_, fun h => absurd h Bool.false_ne_true⟩
    rw [hc, isiR_bool _ (by simp [ty_int])]
    rfl)
  exact this.trans (by simp)
theorem pin_turn (a b c d e f g : Option L3.S) (q : List Int) (hl : q.length ≤ 1000) : l__law_right_1 [a, b, c, d, e, f, g, some (.d (pD q))] = .nx [a, b, c, d, e, f, g, some (.d (pD q))] := by
  have i1 : isiR "tuple" (pD q) = .ok (.bl true) := isiR_tuple _ (by unfold pD; simp [ty_tup])
  have sq : seqR (pD q) = .ok (q.map D.int) := rfl
  have cm := isB_filter q [a, b, c, d, e, f, g, some (.d (pD q))] (c := c__law_right_1) (e := e__law_right_1) (fun x => by unfold c__law_right_1; simp only [tR, b1, slotP_0, Res.bind_ok]) hl
  have ne : neR (.lst []) (.lst []) = .ok (.bl false) := rfl
  generalize pD q = P at *
  unfold l__law_right_1
  simp only [sIf, tOr2, tNot1, tR, b1, b2, asD, vComp, lstR, aNil, slotD_0, slotD_s, slotP_0, slotP_s, Res.bind_ok, i1, sq, cm, ne, boolR_bl, orB_ok, ifO_ok, Bool.not_true, Bool.false_eq_true, if_false, reduceIte, List.length_nil, Nat.zero_le, if_true]
theorem right_y (T c : D) (B : List (List Int)) (hB : ∀ q ∈ B, q.length ≤ 1000) (h : m_least_of [T, c] = .ok (bD B)) : callR 4 m__law_right [T, c, bD B, .non] = .ok (.bl true) := by
  have tr : tryF (aCons (slotD 0) (aCons (slotD 1) aNil)) 2 m_least_of [] [some (.d T), some (.d c), some (.d (bD B)), some (.d .non), some (.d .non), some (.d .non), none, none] = .ok (bD B) := by
    show callX 2 m_least_of ([T, c] ++ []) = _
    rw [List.append_nil]
    exact (if_pos rfl).trans h
  have st : sTry ["TooHigh"] (tryF (aCons (slotD 0) (aCons (slotD 1) aNil)) 2 m_least_of []) (fun d δ => .nx (δ.set 5 (some (.d d)))) Out.nx (gsAs 6 h__law_right_1) [some (.d T), some (.d c), some (.d (bD B)), some (.d .non), some (.d .non), some (.d .non), none, none]
      = .nx [some (.d T), some (.d c), some (.d (bD B)), some (.d .non), some (.d .non), some (.d (bD B)), none, none] := by
    unfold sTry
    rw [tr]
    rfl
  have i1 : isiR "tuple" (bD B) = .ok (.bl true) := isiR_tuple _ (by unfold bD; simp [ty_tup])
  have n0 : isNR (bD B) = .ok (.bl false) := rfl
  have n1 : notNR .non = .ok (.bl false) := rfl
  have ne := neR_self (bD B) (by
    unfold bD
    simp only [shal, List.all_eq_true]
    intro x hx
    obtain ⟨q, _, rfl⟩ := List.mem_map.mp hx
    unfold pD
    simp [shal])
  have sq : seqR (bD B) = .ok (B.map pD) := rfl
  obtain ⟨δ2, f, _⟩ := forD_nx (t := setI 7) (body := l__law_right_1) (fun δ => ∃ z, δ = [some (.d T), some (.d c), some (.d (bD B)), some (.d .non), some (.d .non), some (.d (bD B)), none, z]) (B.map pD) [some (.d T), some (.d c), some (.d (bD B)), some (.d .non), some (.d .non), some (.d (bD B)), none, none] (fun x hx δ hI => by
    obtain ⟨z, rfl⟩ := hI
    obtain ⟨q, hq, rfl⟩ := List.mem_map.mp hx
    exact ⟨_, rfl, _, .inl (pin_turn _ _ _ _ _ _ _ q (hB q hq)), _, rfl⟩) ⟨none, rfl⟩
  refine callR_eq _ _ _ _ ?_ rfl
  clear hB h tr
  generalize bD B = BB at *
  unfold m__law_right b__law_right
  simp only [runD_eq, startD, List.map_cons, List.map_nil, List.length_cons, List.length_nil, List.cons_append, List.nil_append, Nat.reduceAdd, Nat.reduceSub, List.replicate, kD, sSeq, sSet, sFor, sIf, sRet, tR, tOr2, tNot1, b1, b2, slotD_0, slotD_s, slotP_0, slotP_s, Res.bind_ok, ofR_ok, seqO_nx, List.set_cons_zero, List.set_cons_succ, st, n0, n1, i1, ne, sq, f, boolR_bl, orB_ok, ifO_ok, Bool.not_true, Bool.false_eq_true, if_false, reduceIte, finO_rt]
theorem right_n (T c : D) (i : Nat) (h : m_least_of [T, c] = .ex "TooHigh" [.tup [.str "place"], .int (i : Int)]) : callR 4 m__law_right [T, c, .non, .int (i : Int)] = .ok (.bl true) := by
  have tr : tryF (aCons (slotD 0) (aCons (slotD 1) aNil)) 2 m_least_of [] [some (.d T), some (.d c), some (.d .non), some (.d (.int (i : Int))), some (.d .non), some (.d .non), none, none] = .ex "TooHigh" [.tup [.str "place"], .int (i : Int)] := by
    show callX 2 m_least_of ([T, c] ++ []) = _
    rw [List.append_nil]
    exact (if_pos rfl).trans h
  have st : sTry ["TooHigh"] (tryF (aCons (slotD 0) (aCons (slotD 1) aNil)) 2 m_least_of []) (fun d δ => .nx (δ.set 5 (some (.d d)))) Out.nx (gsAs 6 h__law_right_1) [some (.d T), some (.d c), some (.d .non), some (.d (.int (i : Int))), some (.d .non), some (.d .non), none, none]
      = .nx [some (.d T), some (.d c), some (.d .non), some (.d (.int (i : Int))), some (.d (.exc "TooHigh" [.tup [.str "place"], .int (i : Int)])), some (.d .non), none, none] := by
    unfold sTry
    rw [tr]
    rfl
  have on : callR 1 m__law_only [.exc "TooHigh" [.tup [.str "place"], .int (i : Int)]] = .ok (.bl true) := rfl
  have ef : exfR ["TooHigh"] "place" (.exc "TooHigh" [.tup [.str "place"], .int (i : Int)]) = .ok (.int (i : Int)) := rfl
  have n0 : isNR .non = .ok (.bl true) := rfl
  have i1 : isiR "int" (.int (i : Int)) = .ok (.bl true) := isiR_int _ (by simp [ty_int])
  have i2 : isiR "bool" (.int (i : Int)) = .ok (.bl false) := isiR_bool _ (by simp [ty_int])
  have eq : eqR (.int (i : Int)) (.int (i : Int)) = .ok (.bl true) := eqR_self _ (by simp [shal])
  refine callR_eq _ _ _ _ ?_ rfl
  clear h tr
  generalize D.exc "TooHigh" [.tup [.str "place"], .int (i : Int)] = E at *
  unfold m__law_right b__law_right
  simp only [runD_eq, startD, List.map_cons, List.map_nil, List.length_cons, List.length_nil, List.cons_append, List.nil_append, Nat.reduceAdd, Nat.reduceSub, List.replicate, kD, sSeq, sSet, sFor, sIf, sRet, tR, tOr2, tNot1, b1, b2, aCons, aNil, consR_ok, slotD_0, slotD_s, slotP_0, slotP_s, Res.bind_ok, ofR_ok, seqO_nx, seqO_rt, List.set_cons_zero, List.set_cons_succ, st, n0, on, ef, i1, i2, eq, boolR_bl, orB_ok, ifO_ok, Bool.not_true, Bool.false_eq_true, if_false, if_true, reduceIte, finO_rt]
theorem sortI_rev (l : List Int) : sortI l.reverse = sortI l := up_unique (up_sortI _) (up_sortI _) fun x => by rw [mem_sortI, mem_sortI, List.mem_reverse]
theorem okH_rev (h : Int) (C : List (List Int)) (i : Nat) : okH h C.reverse i = okH h C i := by
  unfold okH
  rw [List.map_reverse, sortI_rev]
theorem lstB_rev (n : Nat) (C : List (List Int)) : lstB n C.reverse = lstB n C := by
  unfold lstB
  refine List.map_congr_left fun i _ => ?_
  rw [List.map_reverse, sortI_rev]
theorem both (p d h s : Int) (C : List (List Int)) (hp : 0 ≤ p) (hp2 : p ≤ 100) (hd : 0 ≤ d) (hd2 : d ≤ 100) (hc : ∀ c ∈ C, c.length = p.toNat ∧ Bd d c) (hn : C.length < 64) :
    ∃ du pl, callR 2 m__law_due [.tup [.int p, .int d, .int h, .int s], cD C] = .ok (.tup [du, pl]) ∧ callR 4 m__law_right [.tup [.int p, .int d, .int h, .int s], cD C, du, pl] = .ok (.bl true) ∧ callR 4 m__law_right [.tup [.int p, .int d, .int h, .int s], cD C.reverse, du, pl] = .ok (.bl true) := by
  have hl : ∀ c ∈ C, c.length = p.toNat := fun c h1 => (hc c h1).1
  have hlr : ∀ c ∈ C.reverse, c.length = p.toNat := fun c h1 => hl c (List.mem_reverse.mp h1)
  have hB : ∀ q ∈ lstB p.toNat C, q.length ≤ 1000 := fun q hq => by
    obtain ⟨i, _, rfl⟩ := List.mem_map.mp hq
    have := sortI_len (C.map fun c => c.getD i 0)
    rw [List.length_map] at this
    omega
  have uq : ∀ (i j : Nat), okH h C i = false → (∀ k, k < i → okH h C k = true) → okH h C j = false → (∀ k, k < j → okH h C k = true) → i = j := fun i j a b a' b' => by
    rcases Nat.lt_trichotomy i j with z | z | z
    · rw [b' i z] at a; cases a
    · exact z
    · rw [b j z] at a'; cases a'
  have lf := least_F p d h s C hp hp2 hl hn
  have lr := least_F p d h s C.reverse hp hp2 hlr (by rw [List.length_reverse]; exact hn)
  simp only [okH_rev, lstB_rev] at lr
  rcases due_F p d h s C hp hp2 hd hd2 hc hn with ⟨e, ho⟩ | ⟨i, hi, oi, oj, e⟩
  · refine ⟨_, _, e, ?_, ?_⟩
    · rcases lf with ⟨f, _⟩ | ⟨j, hj, a, _⟩
      · exact right_y _ _ _ hB f
      · rw [ho j hj] at a; cases a
    · rcases lr with ⟨f, _⟩ | ⟨j, hj, a, _⟩
      · exact right_y _ _ _ hB f
      · rw [ho j hj] at a; cases a
  · refine ⟨_, _, e, ?_, ?_⟩
    · rcases lf with ⟨_, ho⟩ | ⟨j, hj, a, b, f⟩
      · rw [ho i hi] at oi; cases oi
      · have := uq i j oi oj a b
        subst this
        exact right_n _ _ _ f
    · rcases lr with ⟨_, ho⟩ | ⟨j, hj, a, b, f⟩
      · rw [ho i hi] at oi; cases oi
      · have := uq i j oi oj a b
        subst this
        exact right_n _ _ _ f
theorem law_turn (S T : D) (C : List (List Int)) (m : Nat) (du pl : D) (y4 y5 y6 : Option L3.S) (e1 : callR 2 m__law_due [T, cD (C.take m)] = .ok (.tup [du, pl])) (e2 : callR 4 m__law_right [T, cD (C.take m), du, pl] = .ok (.bl true)) (e3 : callR 4 m__law_right [T, cD (C.take m).reverse, du, pl] = .ok (.bl true)) :
    l_law_1 [some (.d S), some (.d T), some (.d (cD C)), some (.d (.int (m : Int))), y4, y5, y6] = .nx [some (.d S), some (.d T), some (.d (cD C)), some (.d (.int (m : Int))), some (.d (cD (C.take m))), some (.d du), some (.d pl)] := by
  have s1 : slL (cD C) none (some (m : Int)) = .ok ((C.take m).map pD) := by
    show Res.ok (cutD (C.map pD) none (some (m : Int))) = _
    rw [cutD_to, List.map_take]
  have s2 : slP (cD (C.take m)) none (some (-1)) = .ok ((C.take m).reverse.map pD) := by
    show (if some (-1 : Int) = some 0 then Res.stuck else .ok (picks ((C.take m).map pD) none (some (-1)))) = _
    rw [if_neg (by decide), picks_rev, List.map_reverse]
  have ne := neR_self (cD (C.take m)) (by
    unfold cD
    simp only [shal, List.all_eq_true]
    intro x hx
    obtain ⟨q, _, rfl⟩ := List.mem_map.mp hx
    unfold pD
    simp [shal])
  have ec : D.lst ((C.take m).map pD) = cD (C.take m) := rfl
  have er : D.lst ((C.take m).reverse.map pD) = cD (C.take m).reverse := rfl
  generalize cD (C.take m).reverse = R at *
  generalize (C.take m).reverse.map pD = R0 at *
  generalize cD (C.take m) = M at *
  generalize (C.take m).map pD = M0 at *
  generalize cD C = CC at *
  have ng : negD (.int 1) = .ok (.int (-1)) := rfl
  have ag : asgO (unTup 2 (unCons (setI 5) (unCons (setI 6) unNil))) [some (.d S), some (.d T), some (.d CC), some (.d (.int (m : Int))), some (.d M), y5, y6] (.tup [du, pl]) = .nx [some (.d S), some (.d T), some (.d CC), some (.d (.int (m : Int))), some (.d M), some (.d du), some (.d pl)] := rfl
  unfold l_law_1
  simp only [sSeq, sSet, sAsg, ag, sIf, tOr2, tNot1, tR, b1, b2, b3, asD, kD, oNone, partR_i, aCons, aNil, consR_ok, unTup, unCons, unNil, slotD_0, slotD_s, slotP_0, slotP_s, Res.bind_ok, ofR_ok, seqO_nx, List.set_cons_zero, List.set_cons_succ, List.length_cons, List.length_nil, Nat.reduceAdd, setI, s1, s2, ec, er, ne, ng, e1, e2, e3, boolR_bl, orB_ok, ifO_ok, Bool.not_true, Bool.false_eq_true, if_false, if_true, reduceIte]
theorem law_true (ns : List Int) (hl : ns.length ≤ 63) : m_law [.lst (ns.map D.int)] = .ok (.bl true) := by
  obtain ⟨p, d, h, s, e, hb⟩ := rules_eq ns
  have e1 : callR 1 m__law_rules [.lst (ns.map D.int)] = .ok (.tup [.int p, .int d, .int h, .int s]) := callR_eq _ _ _ _ e rfl
  simp only [bnd, Bool.and_eq_true, decide_eq_true_eq] at hb
  obtain ⟨v4, g4⟩ := mixed_call ns 4 (by omega) (by omega)
  obtain ⟨v5, g5⟩ := mixed_call ns 5 (by omega) (by omega)
  obtain ⟨C, e2, hC, hq⟩ := some_eq ns p d h s (1 + v4 % 8) (1 + v5 % 4) (by omega) (by omega) (by omega) (by omega) (by omega) (by omega) (by omega) (by omega)
  have m4 : modD (.int v4) (.int 8) = .ok (.int (v4 % 8)) := by rw [modD_ii, if_pos (by decide)]
  have m5 : modD (.int v5) (.int 4) = .ok (.int (v5 % 4)) := by rw [modD_ii, if_pos (by decide)]
  have lC : lenR (cD C) = .ok (.int (C.length : Int)) := by show Res.ok (D.int ((C.map pD).length : Int)) = _; rw [List.length_map]
  have tk : ∀ m : Nat, ∃ du pl, callR 2 m__law_due [.tup [.int p, .int d, .int h, .int s], cD (C.take m)] = .ok (.tup [du, pl]) ∧ callR 4 m__law_right [.tup [.int p, .int d, .int h, .int s], cD (C.take m), du, pl] = .ok (.bl true) ∧ callR 4 m__law_right [.tup [.int p, .int d, .int h, .int s], cD (C.take m).reverse, du, pl] = .ok (.bl true) := fun m =>
    both p d h s (C.take m) (by omega) (by omega) (by omega) (by omega) (fun c hc => hq c (List.mem_of_mem_take hc)) (by rw [List.length_take]; omega)
  obtain ⟨δ2, f, _⟩ := forD_nx (t := setI 3) (body := l_law_1) (fun δ => ∃ (y3 y4 y5 y6 : Option L3.S), δ = [some (.d (.lst (ns.map D.int))), some (.d (.tup [.int p, .int d, .int h, .int s])), some (.d (cD C)), y3, y4, y5, y6])
    [.int (C.length : Int), .int 1] [some (.d (.lst (ns.map D.int))), some (.d (.tup [.int p, .int d, .int h, .int s])), some (.d (cD C)), none, none, none, none] (fun x hx δ hI => by
      obtain ⟨y3, y4, y5, y6, rfl⟩ := hI
      obtain ⟨m, rfl⟩ : ∃ m : Nat, x = .int (m : Int) := by
        rcases List.mem_cons.mp hx with rfl | hx
        · exact ⟨_, rfl⟩
        · rw [List.mem_singleton.mp hx]; exact ⟨1, rfl⟩
      obtain ⟨du, pl, a1, a2, a3⟩ := tk m
      exact ⟨_, rfl, _, .inl (law_turn _ _ C m du pl y4 y5 y6 a1 a2 a3), _, _, _, _, rfl⟩) ⟨_, _, _, _, rfl⟩
  clear tk hq hC hl hb
  generalize D.tup [.int p, .int d, .int h, .int s] = T at *
  generalize cD C = CC at *
  generalize D.lst (ns.map D.int) = S at *
  unfold m_law b_law
  simp only [runD_eq, startD, List.map_cons, List.map_nil, List.length_cons, List.length_nil, List.cons_append, List.nil_append, Nat.reduceAdd, Nat.reduceSub, List.replicate, kD, b1, b2, aNil, aCons, asD, sSeq, sSet, sFor, sRet, slotD_0, slotD_s, slotP_0, slotP_s, Res.bind_ok, ofR_ok, seqO_nx, addD_ii, consR_ok, finO_rt, List.set_cons_zero, List.set_cons_succ, lstR, Nat.reduceLeDiff, reduceIte, seqR_l, if_true,
    e1, g4, g5, m4, m5, e2, lC, f]
end G
local macro_rules | `(tactic| walk_at "memfree") => `(tactic| first | exact List.forall_mem_nil _ | exact List.forall_mem_cons.mpr ⟨(by intro h; first | exact absurd h (by decide) | exact Or.inl rfl | exact Or.inr rfl), by walk_at "memfree"⟩)
local macro_rules | `(tactic| walk_at "memdis") => `(tactic| first | exact List.forall_mem_nil _ | exact List.forall_mem_cons.mpr ⟨by decide +kernel, by walk_at "memdis"⟩)
local macro_rules | `(tactic| walk_at "compok") => `(tactic| exact ⟨rfl, by decide +kernel, by walk_at "memfree", rfl, by walk_at "memdis"⟩)
namespace G
open PySem PySem.Spec PyProof.Rows L2 L3
def top (i : Nat) : Stmt := PySem.Challenge.pw_wardsmith_k14_the_least_barrel.main.body.getD i (.Pass ⟨0, 0, 0, 0⟩)
abbrev s__law_due : Stmt := top 31
abbrev s__law_mixed : Stmt := top 28
abbrev s__law_only : Stmt := top 32
abbrev s_TooHigh : Stmt := inClass (top 5) 0
abbrev s_heights_of : Stmt := top 24
abbrev s_places_of : Stmt := top 23
abbrev s_least_of : Stmt := top 26
abbrev s__law_right : Stmt := top 33
abbrev s__law_rules : Stmt := top 29
abbrev s__law_some : Stmt := top 30
abbrev s_law : Stmt := top 34
structure Txt (K : PySem.W.Frag) (mg : Str → Option Value) (ca : Nat → V) : Prop where
  n_ValueError : mg "ValueError" = none
  n_bool : mg "bool" = none
  n_int : mg "int" = none
  n_isinstance : mg "isinstance" = none
  n_len : mg "len" = none
  n_max : mg "max" = none
  n_min : mg "min" = none
  n_range : mg "range" = none
  n_set : mg "set" = none
  n_sorted : mg "sorted" = none
  n_tuple : mg "tuple" = none
  f_place : ∀ c ∈ (["TooHigh"] : List Str), FldX K c "place"
  m_SmithError_TooHigh : MatchX K "SmithError" "TooHigh"
  v_NoBarrel : IsC K mg "NoBarrel" (ca 2)
  v_NoCuts : IsC K mg "NoCuts" (ca 1)
  v_NoDeed : IsC K mg "NoDeed" (ca 15)
  v_NoPlan : IsC K mg "NoPlan" (ca 17)
  v_NoRow : IsC K mg "NoRow" (ca 4)
  v_NoRules : IsC K mg "NoRules" (ca 0)
  v_NoSay : IsC K mg "NoSay" (ca 19)
  v_NoSuch : IsC K mg "NoSuch" (ca 3)
  v_NoThing : IsC K mg "NoThing" (ca 16)
  v_NoTower : IsC K mg "NoTower" (ca 11)
  v_Ring : IsC K mg "Ring" (ca 8)
  v_Shallow : IsC K mg "Shallow" (ca 14)
  v_Shared : IsC K mg "Shared" (ca 7)
  v_SmithError : IsC K mg "SmithError" (ca 20)
  v_Steep : IsC K mg "Steep" (ca 10)
  v_TooFlat : IsC K mg "TooFlat" (ca 13)
  v_TooHigh : IsC K mg "TooHigh" (ca 9)
  v_TooNarrow : IsC K mg "TooNarrow" (ca 12)
  v_Twice : IsC K mg "Twice" (ca 5)
  v_Unknown : IsC K mg "Unknown" (ca 6)
  v_ValueError : IsC K mg "ValueError" (ca 21)
  v_Wrong : IsC K mg "Wrong" (ca 18)
  i_0 : IsiX K [("TooHigh", false)] [ca 0, ca 1, ca 2, ca 3, ca 4, ca 5, ca 6, ca 7, ca 8]
  i_1 : IsiX K [("TooHigh", false)] [ca 10, ca 11, ca 12, ca 13, ca 14, ca 15, ca 16, ca 17, ca 18, ca 19]
  i_2 : IsiX K [("TooHigh", true)] [ca 9]
  i_3 : IsiX K [("TooHigh", true)] [ca 20]
  i_4 : IsiX K [("TooHigh", true)] [ca 21]
section
variable {P : Program} {w : World} {K : PySem.W.Frag} {mg : Str → Option Value} {base : Heap} {ca : Nat → V}
theorem sc__law_due : FnScope ["_law_rules_here", "_law_some_here", "_law_due_here", "_law_place", "_law_pin", "_law_depth"] ["_law_rules_here", "_law_some_here"] (defScope s__law_due) := ⟨rfl, rfl, rfl, by decide +kernel, rfl, by decide +kernel, by decide +kernel⟩
theorem ok__law_due {f : Addr} {fd : FuncData} (F : Fun K "_law_due" "_law_due" s__law_due f fd) (hm : mg "_law_due" = some (.ref f)) (T : Txt K mg ca)  : Fn P w K mg base 1 "_law_due" 2 m__law_due :=
  fn_def (k := 0) F sc__law_due hm (F.binds (ps := ["_law_rules_here", "_law_some_here"]) fun _ _ _ _ _ _ => us2 fun _ _ => rfl) fun cdv A outer s H E hr =>
    (ss_cons (s_own 2 sc__law_due.nd (f_lst a_nil))
    (ss_cons (s_for PassesOwn.never rfl (i_range1 T.n_range (a_cons (x_ix (p_var 0) (p_of x_int)) a_nil)) (g_name 3 sc__law_due.nd) (ss_cons (s_own 4 sc__law_due.nd (f_lst a_nil))
    (ss_cons (s_for PassesOwn.never rfl (i_range1 T.n_range (a_cons (x_ix (p_var 0) (p_of x_int)) a_nil)) (g_name 5 sc__law_due.nd) (ss_one (s_if (y_cmp c_gt (p_of (x_len T.n_len (p_of (x_new (f_comp ["_law_one"] ["_law_rules_here", "_law_some_here", "_law_due_here", "_law_place", "_law_pin", "_law_depth"] (by walk_at "compok") rfl (i_seq (x_var 1)) (fun C fp pins s H => ⟨(g_name 0 (show List.Nodup (["_law_one", "_law_rules_here", "_law_some_here", "_law_due_here", "_law_place", "_law_pin", "_law_depth"] : List Str) by decide +kernel)), (t_one (y_cmp (c_eq (hu40 hr)) (p_of (x_ix (p_var 0) (p_var 4))) (p_var 6))), (x_var 0)⟩)))))) (p_of x_int)) (ss_one (s_append 4 (x_var 5))) ss_nil)))
    (ss_cons (s_if (y_cmp c_gt (p_of (x_len T.n_len (p_var 4))) (p_of (x_ix (p_var 0) (p_of x_int)))) (ss_one (s_ret (x_tup (a_cons x_non (a_cons (x_var 3) a_nil))))) ss_nil)
    (ss_one (s_append 2 (x_tuple T.n_tuple (p_var 4))))))))
    (ss_one (s_ret (x_tup (a_cons (x_tuple T.n_tuple (p_var 2)) (a_cons x_non a_nil)))))))
theorem sc__law_mixed : FnScope ["_law_script", "_law_k"] ["_law_script", "_law_k"] (defScope s__law_mixed) := ⟨rfl, rfl, rfl, by decide +kernel, rfl, by decide +kernel, by decide +kernel⟩
theorem ok__law_mixed {f : Addr} {fd : FuncData} (F : Fun K "_law_mixed" "_law_mixed" s__law_mixed f fd) (hm : mg "_law_mixed" = some (.ref f)) (T : Txt K mg ca)  : Fn P w K mg base 1 "_law_mixed" 2 m__law_mixed :=
  fn_def (k := 0) F sc__law_mixed hm (F.binds (ps := ["_law_script", "_law_k"]) fun _ _ _ _ _ _ => us2 fun _ _ => rfl) fun cdv A outer s H E hr =>
    (ss_cons (s_if (y_cmp (c_eq (hu40 hr)) (p_var 0) (p_of (x_new (f_lst a_nil)))) (ss_one (s_ret (x_add (p_of (x_mulE (p_var 1) (p_of x_int))) (p_of x_int)))) ss_nil)
    (ss_one (s_ret (x_mod (p_of (x_mulE (p_of (x_add (p_of (x_add (p_of (x_ix (p_var 0) (p_of (x_mod (p_var 1) (p_of (x_len T.n_len (p_var 0))))))) (p_of x_int))) (p_var 1))) (p_of (x_add (p_of x_int) (p_of (x_mulE (p_of x_int) (p_var 1))))))) (p_of x_int)))))
theorem sc__law_only : FnScope ["_law_kept"] ["_law_kept"] (defScope s__law_only) := ⟨rfl, rfl, rfl, by decide +kernel, rfl, by decide +kernel, by decide +kernel⟩
theorem ok__law_only {f : Addr} {fd : FuncData} (F : Fun K "_law_only" "_law_only" s__law_only f fd) (hm : mg "_law_only" = some (.ref f)) (T : Txt K mg ca)  : Fn P w K mg base 1 "_law_only" 1 m__law_only :=
  fn_def (k := 0) F sc__law_only hm (F.binds (ps := ["_law_kept"]) fun _ _ _ _ _ _ => us1 fun _ => rfl) fun cdv A outer s H E hr =>
    (ss_cons (s_if (y_val (x_isiX T.i_0 T.n_isinstance (p_var 0) (cs_cons (c_name T.v_NoRules) (cs_cons (c_name T.v_NoCuts) (cs_cons (c_name T.v_NoBarrel) (cs_cons (c_name T.v_NoSuch) (cs_cons (c_name T.v_NoRow) (cs_cons (c_name T.v_Twice) (cs_cons (c_name T.v_Unknown) (cs_cons (c_name T.v_Shared) (cs_cons (c_name T.v_Ring) cs_nil))))))))))) (ss_one (s_ret x_bl)) ss_nil)
    (ss_cons (s_if (y_val (x_isiX T.i_1 T.n_isinstance (p_var 0) (cs_cons (c_name T.v_Steep) (cs_cons (c_name T.v_NoTower) (cs_cons (c_name T.v_TooNarrow) (cs_cons (c_name T.v_TooFlat) (cs_cons (c_name T.v_Shallow) (cs_cons (c_name T.v_NoDeed) (cs_cons (c_name T.v_NoThing) (cs_cons (c_name T.v_NoPlan) (cs_cons (c_name T.v_Wrong) (cs_cons (c_name T.v_NoSay) cs_nil)))))))))))) (ss_one (s_ret x_bl)) ss_nil)
    (ss_one (s_ret (x_and (x_isiX1 T.i_2 T.n_isinstance (p_var 0) (c_name T.v_TooHigh)) (x_and (x_isiX1 T.i_3 T.n_isinstance (p_var 0) (c_name T.v_SmithError)) (x_one (x_isiX1 T.i_4 T.n_isinstance (p_var 0) (c_name T.v_ValueError)))))))))
theorem sc_TooHigh : FnScope ["self", "place"] ["self", "place"] (defScope s_TooHigh) := ⟨rfl, rfl, rfl, by decide +kernel, rfl, by decide +kernel, by decide +kernel⟩
theorem ok_TooHigh {f C S : Addr} {fd : FuncData} (F : Fun K "__init__" "TooHigh.__init__" s_TooHigh f fd) (Z : XInit K C S f) (hm : mg "TooHigh" = some (.ref C)) (hc : PySem.W.nsIn K mainGlobals "TooHigh" = some (some (.ref C))) (hS : mg "SmithError" = some (.ref S)) (na : PySem.W.findIn K (.ref C) "place" = some none) : FnE P w K mg base 2 "TooHigh" "place" :=
  fn_exc (k := 0) F sc_TooHigh Z hm hc (F.binds (ps := ["self", "place"]) fun _ _ _ _ _ _ => us2 fun _ _ => rfl) fun cdv A outer s H E hr => in_exc Z hS na
theorem sc_heights_of : FnScope ["rules"] ["rules"] (defScope s_heights_of) := ⟨rfl, rfl, rfl, by decide +kernel, rfl, by decide +kernel, by decide +kernel⟩
theorem ok_heights_of {f : Addr} {fd : FuncData} (F : Fun K "heights_of" "heights_of" s_heights_of f fd) (hm : mg "heights_of" = some (.ref f)) (T : Txt K mg ca)  : Fn P w K mg base 1 "heights_of" 1 m_heights_of :=
  fn_def (k := 0) F sc_heights_of hm (F.binds (ps := ["rules"]) fun _ _ _ _ _ _ => us1 fun _ => rfl) fun cdv A outer s H E hr =>
    (ss_one (s_ret (x_ix (p_var 0) (p_of x_int))))
theorem sc_places_of : FnScope ["rules"] ["rules"] (defScope s_places_of) := ⟨rfl, rfl, rfl, by decide +kernel, rfl, by decide +kernel, by decide +kernel⟩
theorem ok_places_of {f : Addr} {fd : FuncData} (F : Fun K "places_of" "places_of" s_places_of f fd) (hm : mg "places_of" = some (.ref f)) (T : Txt K mg ca)  : Fn P w K mg base 1 "places_of" 1 m_places_of :=
  fn_def (k := 0) F sc_places_of hm (F.binds (ps := ["rules"]) fun _ _ _ _ _ _ => us1 fun _ => rfl) fun cdv A outer s H E hr =>
    (ss_one (s_ret (x_ix (p_var 0) (p_of x_int))))
theorem sc_least_of : FnScope ["rules", "some", "barrel", "place", "pin"] ["rules", "some"] (defScope s_least_of) := ⟨rfl, rfl, rfl, by decide +kernel, rfl, by decide +kernel, by decide +kernel⟩
theorem ok_least_of {f : Addr} {fd : FuncData} (F : Fun K "least_of" "least_of" s_least_of f fd) (hm : mg "least_of" = some (.ref f)) (T : Txt K mg ca) (F_TooHigh : FnE P w K mg base 2 "TooHigh" "place") (F_heights_of : Fn P w K mg base 1 "heights_of" 1 m_heights_of) (F_places_of : Fn P w K mg base 1 "places_of" 1 m_places_of) : FnX P w K mg base 3 "least_of" 2 m_least_of :=
  fn_defX (k := 2) F sc_least_of hm (F.binds (ps := ["rules", "some"]) fun _ _ _ _ _ _ => us2 fun _ _ => rfl) fun cdv A outer s H E hr =>
    (ss_cons (s_nox (s_own 2 sc_least_of.nd (f_lst a_nil)))
    (ss_cons (s_for PassesOwn.leaving rfl (i_nox (i_range1 T.n_range (a_cons (x_call (F_places_of.mono (by decide)) hr (a_cons (x_var 0) a_nil)) a_nil))) (g_name 3 sc_least_of.nd) (ss_cons (s_nox (s_set 4 sc_least_of.nd (x_tuple T.n_tuple (p_of (x_new (f_sortset rfl T.n_sorted T.n_set (p_of (x_new (f_comp ["one"] ["rules", "some", "barrel", "place", "pin"] (by walk_at "compok") rfl (i_seq (x_var 1)) (fun C fp pins s H => ⟨(g_name 0 (show List.Nodup (["one", "rules", "some", "barrel", "place", "pin"] : List Str) by decide +kernel)), t_nil, (x_ix (p_var 0) (p_var 4))⟩))))))))))
    (ss_cons (s_if (y_nox (y_cmp c_gt (p_of (x_len T.n_len (p_var 4))) (p_of (x_call (F_heights_of.mono (by decide)) hr (a_cons (x_var 0) a_nil))))) (ss_one (s_raiseI (F_TooHigh.mono (by decide)) hr raise_own rfl (a_nox (a_cons (x_var 3) a_nil)))) ss_nil)
    (ss_one (s_nox (s_append 2 (x_var 4)))))))
    (ss_one (s_nox (s_ret (x_tuple T.n_tuple (p_var 2)))))))
theorem sc__law_right : FnScope ["_law_rules_here", "_law_some_here", "_law_due_here", "_law_place", "_law_kept", "_law_found", "e", "_law_pin"] ["_law_rules_here", "_law_some_here", "_law_due_here", "_law_place"] (defScope s__law_right) := ⟨rfl, rfl, rfl, by decide +kernel, rfl, by decide +kernel, by decide +kernel⟩
theorem ok__law_right {f : Addr} {fd : FuncData} (F : Fun K "_law_right" "_law_right" s__law_right f fd) (hm : mg "_law_right" = some (.ref f)) (T : Txt K mg ca) (F_TooHigh : FnE P w K mg base 2 "TooHigh" "place") (F__law_only : Fn P w K mg base 1 "_law_only" 1 m__law_only) (F_least_of : FnX P w K mg base 3 "least_of" 2 m_least_of) : Fn P w K mg base 4 "_law_right" 4 m__law_right :=
  fn_def (k := 3) F sc__law_right hm (F.binds (ps := ["_law_rules_here", "_law_some_here", "_law_due_here", "_law_place"]) fun _ _ _ _ _ _ => us4 fun _ _ _ _ => rfl) fun cdv A outer s H E hr =>
    (ss_cons (s_set 4 sc__law_right.nd x_non)
    (ss_cons (s_set 5 sc__law_right.nd x_non)
    (ss_cons (s_tryAs 6 ["TooHigh"] (F_least_of.mono (by decide)) (List.forall_mem_cons.mpr ⟨T.m_SmithError_TooHigh, List.forall_mem_nil _⟩) sc__law_right.nd hr (a_cons (x_var 0) (a_cons (x_var 1) a_nil)) (kd_set 5 sc__law_right.nd) ss_nil (fun _ => (ss_one (s_set 4 sc__law_right.nd (x_var 6)))))
    (ss_cons (s_if (y_isN (p_var 2)) (ss_cons (s_if (y_w (w_or (y_not (y_val (x_call (F__law_only.mono (by decide)) hr (a_cons (x_var 4) a_nil)))) (w_or (y_not (y_val (x_isi isi_int (by decide +kernel) T.n_isinstance T.n_int (p_of (x_exf T.f_place (x_var 4)))))) (w_or1 (y_val (x_isi isi_bool (by decide +kernel) T.n_isinstance T.n_bool (p_of (x_exf T.f_place (x_var 4))))))))) (ss_one (s_ret x_bl)) ss_nil)
    (ss_one (s_ret (x_cmp (c_eq (hu40 hr)) (p_of (x_exf T.f_place (x_var 4))) (p_var 3))))) ss_nil)
    (ss_cons (s_if (y_w (w_or (y_notN (p_var 4)) (w_or (y_not (y_val (x_isi isi_tuple (by decide +kernel) T.n_isinstance T.n_tuple (p_var 5)))) (w_or1 (y_cmp (c_ne (hu40 hr)) (p_var 5) (p_var 2)))))) (ss_one (s_ret x_bl)) ss_nil)
    (ss_cons (s_for PassesOwn.never rfl (i_seq (x_var 5)) (g_name 7 sc__law_right.nd) (ss_one (s_if (y_w (w_or (y_not (y_val (x_isi isi_tuple (by decide +kernel) T.n_isinstance T.n_tuple (p_var 7)))) (w_or1 (y_cmp (c_ne (hu40 hr)) (p_of (x_new (f_comp ["_law_one"] ["_law_rules_here", "_law_some_here", "_law_due_here", "_law_place", "_law_kept", "_law_found", "e", "_law_pin"] (by walk_at "compok") rfl (i_seq (x_var 7)) (fun C fp pins s H => ⟨(g_name 0 (show List.Nodup (["_law_one", "_law_rules_here", "_law_some_here", "_law_due_here", "_law_place", "_law_kept", "_law_found", "e", "_law_pin"] : List Str) by decide +kernel)), (t_one (y_val (x_isi isi_bool (by decide +kernel) T.n_isinstance T.n_bool (p_var 0)))), (x_var 0)⟩)))) (p_of (x_new (f_lst a_nil))))))) (ss_one (s_ret x_bl)) ss_nil)))
    (ss_one (s_ret x_bl))))))))
theorem sc__law_rules : FnScope ["_law_script", "_law_depths", "_law_places"] ["_law_script"] (defScope s__law_rules) := ⟨rfl, rfl, rfl, by decide +kernel, rfl, by decide +kernel, by decide +kernel⟩
theorem ok__law_rules {f : Addr} {fd : FuncData} (F : Fun K "_law_rules" "_law_rules" s__law_rules f fd) (hm : mg "_law_rules" = some (.ref f)) (T : Txt K mg ca) (F__law_mixed : Fn P w K mg base 1 "_law_mixed" 2 m__law_mixed) : Fn P w K mg base 2 "_law_rules" 1 m__law_rules :=
  fn_def (k := 1) F sc__law_rules hm (F.binds (ps := ["_law_script"]) fun _ _ _ _ _ _ => us1 fun _ => rfl) fun cdv A outer s H E hr =>
    (ss_cons (s_set 1 sc__law_rules.nd (x_add (p_of x_int) (p_of (x_mod (p_of (x_call (F__law_mixed.mono (by decide)) hr (a_cons (x_var 0) (a_cons x_int a_nil)))) (p_of x_int)))))
    (ss_cons (s_set 2 sc__law_rules.nd (x_add (p_of x_int) (p_of (x_mod (p_of (x_call (F__law_mixed.mono (by decide)) hr (a_cons (x_var 0) (a_cons x_int a_nil)))) (p_of x_int)))))
    (ss_one (s_ret (x_tup (a_cons (x_var 2) (a_cons (x_var 1) (a_cons (x_add (p_of x_int) (p_of (x_mod (p_of (x_call (F__law_mixed.mono (by decide)) hr (a_cons (x_var 0) (a_cons x_int a_nil)))) (p_var 1)))) (a_cons (x_add (p_of x_int) (p_of (x_mod (p_of (x_call (F__law_mixed.mono (by decide)) hr (a_cons (x_var 0) (a_cons x_int a_nil)))) (p_of (x_sub (p_var 1) (p_of x_int)))))) a_nil)))))))))
theorem sc__law_some : FnScope ["_law_rules_here", "_law_script", "_law_many", "_law_kinds", "_law_some_here", "_law_k", "_law_one", "_law_place", "_law_low", "_law_high", "_law_cell"] ["_law_rules_here", "_law_script", "_law_many", "_law_kinds"] (defScope s__law_some) := ⟨rfl, rfl, rfl, by decide +kernel, rfl, by decide +kernel, by decide +kernel⟩
theorem ok__law_some {f : Addr} {fd : FuncData} (F : Fun K "_law_some" "_law_some" s__law_some f fd) (hm : mg "_law_some" = some (.ref f)) (T : Txt K mg ca) (F__law_mixed : Fn P w K mg base 1 "_law_mixed" 2 m__law_mixed) : Fn P w K mg base 2 "_law_some" 4 m__law_some :=
  fn_def (k := 1) F sc__law_some hm (F.binds (ps := ["_law_rules_here", "_law_script", "_law_many", "_law_kinds"]) fun _ _ _ _ _ _ => us4 fun _ _ _ _ => rfl) fun cdv A outer s H E hr =>
    (ss_cons (s_own 4 sc__law_some.nd (f_lst a_nil))
    (ss_cons (s_for PassesOwn.never rfl (i_range1 T.n_range (a_cons (x_var 2) a_nil)) (g_name 5 sc__law_some.nd) (ss_cons (s_own 6 sc__law_some.nd (f_lst a_nil))
    (ss_cons (s_for PassesOwn.never rfl (i_range1 T.n_range (a_cons (x_ix (p_var 0) (p_of x_int)) a_nil)) (g_name 7 sc__law_some.nd) (ss_cons (s_set 8 sc__law_some.nd x_int)
    (ss_cons (s_set 9 sc__law_some.nd (x_sub (p_of (x_ix (p_var 0) (p_of x_int))) (p_of x_int)))
    (ss_cons (s_if (y_cmp (c_ne (hu40 hr)) (p_var 6) (p_of (x_new (f_lst a_nil)))) (ss_cons (s_set 8 sc__law_some.nd (x_max rfl T.n_max (a_cons (x_var 8) (a_cons (x_sub (p_of (x_ix (p_var 6) (p_of (x_neg (p_of x_int))))) (p_of (x_ix (p_var 0) (p_of x_int)))) a_nil))))
    (ss_one (s_set 9 sc__law_some.nd (x_min rfl T.n_min (a_cons (x_var 9) (a_cons (x_add (p_of (x_ix (p_var 6) (p_of (x_neg (p_of x_int))))) (p_of (x_ix (p_var 0) (p_of x_int)))) a_nil)))))) ss_nil)
    (ss_cons (s_set 10 sc__law_some.nd (x_call (F__law_mixed.mono (by decide)) hr (a_cons (x_var 1) (a_cons (x_add (p_of (x_add (p_of x_int) (p_var 7))) (p_of (x_mulE (p_of x_int) (p_of (x_mod (p_var 5) (p_var 3)))))) a_nil))))
    (ss_cons (s_if (y_cmp c_ge (p_var 5) (p_var 3)) (ss_one (s_set 10 sc__law_some.nd (x_call (F__law_mixed.mono (by decide)) hr (a_cons (x_var 1) (a_cons (x_add (p_of (x_add (p_of x_int) (p_var 7))) (p_of (x_mulE (p_of x_int) (p_of (x_mod (p_of (x_call (F__law_mixed.mono (by decide)) hr (a_cons (x_var 1) (a_cons (x_add (p_var 5) (p_var 7)) a_nil)))) (p_var 3)))))) a_nil))))) ss_nil)
    (ss_one (s_append 6 (x_add (p_var 8) (p_of (x_mod (p_var 10) (p_of (x_add (p_of (x_sub (p_var 9) (p_var 8))) (p_of x_int))))))))))))))
    (ss_one (s_append 4 (x_tuple T.n_tuple (p_var 6)))))))
    (ss_one (s_retV 4))))
theorem sc_law : FnScope ["_law_script", "_law_rules_here", "_law_some_here", "_law_many", "_law_handed", "_law_due_here", "_law_place"] ["_law_script"] (defScope s_law) := ⟨rfl, rfl, rfl, by decide +kernel, rfl, by decide +kernel, by decide +kernel⟩
theorem ok_law {f : Addr} {fd : FuncData} (F : Fun K "law" "law" s_law f fd) (T : Txt K mg ca) (F__law_due : Fn P w K mg base 1 "_law_due" 2 m__law_due) (F__law_mixed : Fn P w K mg base 1 "_law_mixed" 2 m__law_mixed) (F__law_right : Fn P w K mg base 4 "_law_right" 4 m__law_right) (F__law_rules : Fn P w K mg base 2 "_law_rules" 1 m__law_rules) (F__law_some : Fn P w K mg base 2 "_law_some" 4 m__law_some) : FnOk P w K mg base CX0 5 f fd ["_law_script"] (spD K 1 m_law) :=
  fn_law (k := 4) F sc_law fun cdv A outer s H E hr =>
    (ss_cons (s_set 1 sc_law.nd (x_call (F__law_rules.mono (by decide)) hr (a_cons (x_var 0) a_nil)))
    (ss_cons (s_set 2 sc_law.nd (x_call (F__law_some.mono (by decide)) hr (a_cons (x_var 1) (a_cons (x_var 0) (a_cons (x_add (p_of x_int) (p_of (x_mod (p_of (x_call (F__law_mixed.mono (by decide)) hr (a_cons (x_var 0) (a_cons x_int a_nil)))) (p_of x_int)))) (a_cons (x_add (p_of x_int) (p_of (x_mod (p_of (x_call (F__law_mixed.mono (by decide)) hr (a_cons (x_var 0) (a_cons x_int a_nil)))) (p_of x_int)))) a_nil))))))
    (ss_cons (s_for PassesOwn.never rfl (i_seq (x_new (f_lst (a_cons (x_len T.n_len (p_var 2)) (a_cons x_int a_nil))))) (g_name 3 sc_law.nd) (ss_cons (s_set 4 sc_law.nd (x_new (f_slL (p_var 2) o_none (o_some (x_var 3)))))
    (ss_cons (s_asg (x_call (F__law_due.mono (by decide)) hr (a_cons (x_var 1) (a_cons (x_var 4) a_nil))) (g_tup rfl (g_cons (g_name 5 sc_law.nd) (g_cons (g_name 6 sc_law.nd) g_nil))))
    (ss_cons (s_if (y_w (w_or (y_not (y_val (x_call (F__law_right.mono (by decide)) hr (a_cons (x_var 1) (a_cons (x_var 4) (a_cons (x_var 5) (a_cons (x_var 6) a_nil))))))) (w_or1 (y_cmp (c_ne (hu40 hr)) (p_var 4) (p_of (x_new (f_slL (p_var 2) o_none (o_some (x_var 3))))))))) (ss_one (s_ret x_bl)) ss_nil)
    (ss_one (s_if (y_not (y_val (x_call (F__law_right.mono (by decide)) hr (a_cons (x_var 1) (a_cons (x_new (f_slP (p_var 4) o_none (o_some (x_neg (p_of x_int))))) (a_cons (x_var 5) (a_cons (x_var 6) a_nil))))))) (ss_one (s_ret x_bl)) ss_nil))))))
    (ss_one (s_ret x_bl)))))
end
end G
namespace G
open PySem PySem.Spec PyProof.Rows L2 L3
theorem all_mk {l : PySem.W.OpenLaw} {w : World} {K : PySem.W.Frag} {h : Heap} {mg : Str → Option Value} {fa : Addr} (X : K.In h) (G : h.Ns mainGlobals mg) (hfa : mg "law" = some (.ref fa))
    {f0 : Addr} {od0 an0 : Option Addr} {sl0 : Array (Option Value)} {oc0 kV0 dc0 pm0 cd0 ct0 : Value} {f1 : Addr} {od1 an1 : Option Addr} {sl1 : Array (Option Value)} {oc1 kV1 dc1 pm1 cd1 ct1 : Value} {f2 : Addr} {od2 an2 : Option Addr} {sl2 : Array (Option Value)} {oc2 kV2 dc2 pm2 cd2 ct2 : Value} {f3 : Addr} {od3 an3 : Option Addr} {sl3 : Array (Option Value)} {oc3 kV3 dc3 pm3 cd3 ct3 : Value} {C3 S3 xN3 : Addr} {xm3 xq3 : Str} {xb3 xe3 xs3 : List Value} {xh3 xa3 : Bool} {xn3 : List Str} {xo3 : Option Bool} {xd3 : Option Addr} {x0_3 x1_3 x2_3 x3_3 x5_3 : Option Value} {xc3 : ClassData} {f4 : Addr} {od4 an4 : Option Addr} {sl4 : Array (Option Value)} {oc4 kV4 dc4 pm4 cd4 ct4 : Value} {f5 : Addr} {od5 an5 : Option Addr} {sl5 : Array (Option Value)} {oc5 kV5 dc5 pm5 cd5 ct5 : Value} {f6 : Addr} {od6 an6 : Option Addr} {sl6 : Array (Option Value)} {oc6 kV6 dc6 pm6 cd6 ct6 : Value} {f7 : Addr} {od7 an7 : Option Addr} {sl7 : Array (Option Value)} {oc7 kV7 dc7 pm7 cd7 ct7 : Value} {f8 : Addr} {od8 an8 : Option Addr} {sl8 : Array (Option Value)} {oc8 kV8 dc8 pm8 cd8 ct8 : Value} {f9 : Addr} {od9 an9 : Option Addr} {sl9 : Array (Option Value)} {oc9 kV9 dc9 pm9 cd9 ct9 : Value} {f10 : Addr} {od10 an10 : Option Addr} {sl10 : Array (Option Value)} {oc10 kV10 dc10 pm10 cd10 ct10 : Value} {ck0 : Addr} {ck1 : Addr} {ck2 : Addr} {ck3 : Addr} {ck4 : Addr} {ck5 : Addr} {ck6 : Addr} {ck7 : Addr} {ck8 : Addr} {ck9 : Addr} {ck10 : Addr} {ck11 : Addr} {ck12 : Addr} {ck13 : Addr} {ck14 : Addr} {ck15 : Addr} {ck16 : Addr} {ck17 : Addr} {ck18 : Addr} {ck19 : Addr} {ck20 : Addr}
    (a0 : PySem.W.nsIn K mainGlobals "_law_due" = some (some (.ref f0))) (l0 : K.lookup f0 = some ⟨oc0, od0, .func (PySem.W.fnOf "_law_due" "_law_due" (defArgs s__law_due) (defBody s__law_due) (defScope s__law_due) .none kV0 dc0 pm0 an0 cd0 ct0), sl0⟩) (c0 : PySem.W.codeIn K cd0 "_law_due" = true) (k0 : PySem.W.keepIn K (.ref f0) = true)
    (a1 : PySem.W.nsIn K mainGlobals "_law_mixed" = some (some (.ref f1))) (l1 : K.lookup f1 = some ⟨oc1, od1, .func (PySem.W.fnOf "_law_mixed" "_law_mixed" (defArgs s__law_mixed) (defBody s__law_mixed) (defScope s__law_mixed) .none kV1 dc1 pm1 an1 cd1 ct1), sl1⟩) (c1 : PySem.W.codeIn K cd1 "_law_mixed" = true) (k1 : PySem.W.keepIn K (.ref f1) = true)
    (a2 : PySem.W.nsIn K mainGlobals "_law_only" = some (some (.ref f2))) (l2 : K.lookup f2 = some ⟨oc2, od2, .func (PySem.W.fnOf "_law_only" "_law_only" (defArgs s__law_only) (defBody s__law_only) (defScope s__law_only) .none kV2 dc2 pm2 an2 cd2 ct2), sl2⟩) (c2 : PySem.W.codeIn K cd2 "_law_only" = true) (k2 : PySem.W.keepIn K (.ref f2) = true)
    (aC3 : PySem.W.nsIn K mainGlobals "TooHigh" = some (some (.ref C3))) (aS3 : PySem.W.nsIn K mainGlobals "SmithError" = some (some (.ref S3))) (ex3 : K.lookup C3 = some (excClassObj xm3 xq3 C3 xN3 xb3 xe3 xh3 xn3 xs3 xa3 xo3 xd3 x0_3 x1_3 x2_3 x3_3 x5_3 "ValueError.__new__")) (eo3 : PySem.W.nsOkIn K xN3 = true) (ei3 : PySem.W.nsIn K xN3 "__init__" = some (some (.ref f3))) (et3 : PySem.W.tailIn K vTail xe3 = true) (ef3 : PySem.W.typeIn K (.ref f3) = some (.type "function")) (kc3 : PySem.W.keepIn K (.ref C3) = true) (sa3 : PySem.W.findIn K (.ref C3) "__setattr__" = some (some (.builtin "object.__setattr__"))) (em3 : PySem.W.mroIn K C3 (.type "object") = some true) (el3 : PySem.W.clsIn K C3 = some xc3) (ev3 : overV 2 xc3.mro = true) (eh3 : xc3.hasDict = true) (eg3 : PySem.W.specialIn K (.ref S3) "__getattribute__" = some (some (.builtin "type.__getattribute__"))) (er3 : PySem.W.readsIn K S3 (.type "type") = true) (eb3 : PySem.W.findCls K (.ref S3) (.type "type") "__init__" = some (.val (.builtin "ValueError.__init__"))) (en3 : PySem.W.findIn K (.ref C3) "place" = some none) (l3 : K.lookup f3 = some ⟨oc3, od3, .func (PySem.W.fnOf "__init__" "TooHigh.__init__" (defArgs s_TooHigh) (defBody s_TooHigh) (defScope s_TooHigh) .none kV3 dc3 pm3 an3 cd3 ct3), sl3⟩) (c3 : PySem.W.codeIn K cd3 "TooHigh.__init__" = true) (k3 : PySem.W.keepIn K (.ref f3) = true)
    (xa3 : PySem.W.findIn K (.ref C3) "__getattribute__" = some (some (.builtin "BaseException.__getattribute__"))) (xb3 : PySem.W.findIn K (.ref C3) "__getattr__" = some none) (xc3 : PySem.W.findIn K (.ref C3) "__class__" = some (some (.builtin "object.__class__"))) (xd3 : PySem.W.mroIn K C3 (.type "BaseException") = some true) (xf3 : PySem.W.hasDictIn K C3 = true)
    (a4 : PySem.W.nsIn K mainGlobals "heights_of" = some (some (.ref f4))) (l4 : K.lookup f4 = some ⟨oc4, od4, .func (PySem.W.fnOf "heights_of" "heights_of" (defArgs s_heights_of) (defBody s_heights_of) (defScope s_heights_of) .none kV4 dc4 pm4 an4 cd4 ct4), sl4⟩) (c4 : PySem.W.codeIn K cd4 "heights_of" = true) (k4 : PySem.W.keepIn K (.ref f4) = true)
    (a5 : PySem.W.nsIn K mainGlobals "places_of" = some (some (.ref f5))) (l5 : K.lookup f5 = some ⟨oc5, od5, .func (PySem.W.fnOf "places_of" "places_of" (defArgs s_places_of) (defBody s_places_of) (defScope s_places_of) .none kV5 dc5 pm5 an5 cd5 ct5), sl5⟩) (c5 : PySem.W.codeIn K cd5 "places_of" = true) (k5 : PySem.W.keepIn K (.ref f5) = true)
    (a6 : PySem.W.nsIn K mainGlobals "least_of" = some (some (.ref f6))) (l6 : K.lookup f6 = some ⟨oc6, od6, .func (PySem.W.fnOf "least_of" "least_of" (defArgs s_least_of) (defBody s_least_of) (defScope s_least_of) .none kV6 dc6 pm6 an6 cd6 ct6), sl6⟩) (c6 : PySem.W.codeIn K cd6 "least_of" = true) (k6 : PySem.W.keepIn K (.ref f6) = true)
    (a7 : PySem.W.nsIn K mainGlobals "_law_right" = some (some (.ref f7))) (l7 : K.lookup f7 = some ⟨oc7, od7, .func (PySem.W.fnOf "_law_right" "_law_right" (defArgs s__law_right) (defBody s__law_right) (defScope s__law_right) .none kV7 dc7 pm7 an7 cd7 ct7), sl7⟩) (c7 : PySem.W.codeIn K cd7 "_law_right" = true) (k7 : PySem.W.keepIn K (.ref f7) = true)
    (a8 : PySem.W.nsIn K mainGlobals "_law_rules" = some (some (.ref f8))) (l8 : K.lookup f8 = some ⟨oc8, od8, .func (PySem.W.fnOf "_law_rules" "_law_rules" (defArgs s__law_rules) (defBody s__law_rules) (defScope s__law_rules) .none kV8 dc8 pm8 an8 cd8 ct8), sl8⟩) (c8 : PySem.W.codeIn K cd8 "_law_rules" = true) (k8 : PySem.W.keepIn K (.ref f8) = true)
    (a9 : PySem.W.nsIn K mainGlobals "_law_some" = some (some (.ref f9))) (l9 : K.lookup f9 = some ⟨oc9, od9, .func (PySem.W.fnOf "_law_some" "_law_some" (defArgs s__law_some) (defBody s__law_some) (defScope s__law_some) .none kV9 dc9 pm9 an9 cd9 ct9), sl9⟩) (c9 : PySem.W.codeIn K cd9 "_law_some" = true) (k9 : PySem.W.keepIn K (.ref f9) = true)
    (a10 : PySem.W.nsIn K mainGlobals "law" = some (some (.ref f10))) (l10 : K.lookup f10 = some ⟨oc10, od10, .func (PySem.W.fnOf "law" "law" (defArgs s_law) (defBody s_law) (defScope s_law) .none kV10 dc10 pm10 an10 cd10 ct10), sl10⟩) (c10 : PySem.W.codeIn K cd10 "law" = true) (k10 : PySem.W.keepIn K (.ref f10) = true)
    (z0 : PySem.W.nsIn K mainGlobals "ValueError" = some none)
    (z1 : PySem.W.nsIn K mainGlobals "bool" = some none)
    (z2 : PySem.W.nsIn K mainGlobals "int" = some none)
    (z3 : PySem.W.nsIn K mainGlobals "isinstance" = some none)
    (z4 : PySem.W.nsIn K mainGlobals "len" = some none)
    (z5 : PySem.W.nsIn K mainGlobals "max" = some none)
    (z6 : PySem.W.nsIn K mainGlobals "min" = some none)
    (z7 : PySem.W.nsIn K mainGlobals "range" = some none)
    (z8 : PySem.W.nsIn K mainGlobals "set" = some none)
    (z9 : PySem.W.nsIn K mainGlobals "sorted" = some none)
    (z10 : PySem.W.nsIn K mainGlobals "tuple" = some none)
    (cn0 : PySem.W.nsIn K mainGlobals "NoRules" = some (some (.ref ck0)))
    (cn1 : PySem.W.nsIn K mainGlobals "NoCuts" = some (some (.ref ck1)))
    (cn2 : PySem.W.nsIn K mainGlobals "NoBarrel" = some (some (.ref ck2)))
    (cn3 : PySem.W.nsIn K mainGlobals "NoSuch" = some (some (.ref ck3)))
    (cn4 : PySem.W.nsIn K mainGlobals "NoRow" = some (some (.ref ck4)))
    (cn5 : PySem.W.nsIn K mainGlobals "Twice" = some (some (.ref ck5)))
    (cn6 : PySem.W.nsIn K mainGlobals "Unknown" = some (some (.ref ck6)))
    (cn7 : PySem.W.nsIn K mainGlobals "Shared" = some (some (.ref ck7)))
    (cn8 : PySem.W.nsIn K mainGlobals "Ring" = some (some (.ref ck8)))
    (cn9 : PySem.W.nsIn K mainGlobals "TooHigh" = some (some (.ref ck9)))
    (cn10 : PySem.W.nsIn K mainGlobals "Steep" = some (some (.ref ck10)))
    (cn11 : PySem.W.nsIn K mainGlobals "NoTower" = some (some (.ref ck11)))
    (cn12 : PySem.W.nsIn K mainGlobals "TooNarrow" = some (some (.ref ck12)))
    (cn13 : PySem.W.nsIn K mainGlobals "TooFlat" = some (some (.ref ck13)))
    (cn14 : PySem.W.nsIn K mainGlobals "Shallow" = some (some (.ref ck14)))
    (cn15 : PySem.W.nsIn K mainGlobals "NoDeed" = some (some (.ref ck15)))
    (cn16 : PySem.W.nsIn K mainGlobals "NoThing" = some (some (.ref ck16)))
    (cn17 : PySem.W.nsIn K mainGlobals "NoPlan" = some (some (.ref ck17)))
    (cn18 : PySem.W.nsIn K mainGlobals "Wrong" = some (some (.ref ck18)))
    (cn19 : PySem.W.nsIn K mainGlobals "NoSay" = some (some (.ref ck19)))
    (cn20 : PySem.W.nsIn K mainGlobals "SmithError" = some (some (.ref ck20)))
    (cm20_9 : PySem.W.exmOne K (.ref ck9) (.ref ck20) = some true)
    (ea9 : PySem.W.findIn K (.ref ck9) "__getattribute__" = some (some (.builtin "BaseException.__getattribute__"))) (eb9 : PySem.W.findIn K (.ref ck9) "__getattr__" = some none) (ec9 : PySem.W.findIn K (.ref ck9) "__class__" = some (some (.builtin "object.__class__"))) (ed9 : PySem.W.mroIn K ck9 (.type "object") = some true) (ee9 : PySem.W.mroIn K ck9 (.type "BaseException") = some true)
    (ek0_9 : PySem.W.kitAny K (.ref ck9) [.ref ck0, .ref ck1, .ref ck2, .ref ck3, .ref ck4, .ref ck5, .ref ck6, .ref ck7, .ref ck8] = some false)
    (ek1_9 : PySem.W.kitAny K (.ref ck9) [.ref ck10, .ref ck11, .ref ck12, .ref ck13, .ref ck14, .ref ck15, .ref ck16, .ref ck17, .ref ck18, .ref ck19] = some false)
    (ek2_9 : PySem.W.kitAny K (.ref ck9) [.ref ck9] = some true)
    (ek3_9 : PySem.W.kitAny K (.ref ck9) [.ref ck20] = some true)
    (ek4_9 : PySem.W.kitAny K (.ref ck9) [.type "ValueError"] = some true)
    : ∃ fd : FuncData, (∀ (s : Shared) (v : Value), BindsTo s fd ⟨[v], []⟩ [("_law_script", v)]) ∧ ∀ base : Heap, K.In base → base.Ns mainGlobals mg → FnOk l.prog w K mg base CX0 5 fa fd ["_law_script"] (spLaw K) := by
  have e := hfa.symm.trans (PySem.W.mg_of X G a10)
  cases e
  have T : Txt K mg (fun i => ([.ref ck0, .ref ck1, .ref ck2, .ref ck3, .ref ck4, .ref ck5, .ref ck6, .ref ck7, .ref ck8, .ref ck9, .ref ck10, .ref ck11, .ref ck12, .ref ck13, .ref ck14, .ref ck15, .ref ck16, .ref ck17, .ref ck18, .ref ck19, .ref ck20, .ty "ValueError"] : List V).getD i .non) := ⟨PySem.W.mg_none_of X G z0, PySem.W.mg_none_of X G z1, PySem.W.mg_none_of X G z2, PySem.W.mg_none_of X G z3, PySem.W.mg_none_of X G z4, PySem.W.mg_none_of X G z5, PySem.W.mg_none_of X G z6, PySem.W.mg_none_of X G z7, PySem.W.mg_none_of X G z8, PySem.W.mg_none_of X G z9, PySem.W.mg_none_of X G z10, List.forall_mem_cons.mpr ⟨⟨C3, aC3, ⟨xa3, xb3, xc3, em3, xd3⟩, xf3, en3⟩, List.forall_mem_nil _⟩, ⟨_, _, cn9, cn20, cm20_9⟩, .own (PySem.W.mg_of X G cn2), .own (PySem.W.mg_of X G cn1), .own (PySem.W.mg_of X G cn15), .own (PySem.W.mg_of X G cn17), .own (PySem.W.mg_of X G cn4), .own (PySem.W.mg_of X G cn0), .own (PySem.W.mg_of X G cn19), .own (PySem.W.mg_of X G cn3), .own (PySem.W.mg_of X G cn16), .own (PySem.W.mg_of X G cn11), .own (PySem.W.mg_of X G cn8), .own (PySem.W.mg_of X G cn14), .own (PySem.W.mg_of X G cn7), .own (PySem.W.mg_of X G cn20), .own (PySem.W.mg_of X G cn10), .own (PySem.W.mg_of X G cn13), .own (PySem.W.mg_of X G cn9), .own (PySem.W.mg_of X G cn12), .own (PySem.W.mg_of X G cn5), .own (PySem.W.mg_of X G cn6), .blt (PySem.W.mg_none_of X G z0) PyProof.Rows.Boot.«ValueError» (by decide), .own (PySem.W.mg_of X G cn18), (isiX_cons cn9 ⟨ea9, eb9, ec9, ed9, ee9⟩ ek0_9 (isiX_nil (clsC_ref (clsC_ref (clsC_ref (clsC_ref (clsC_ref (clsC_ref (clsC_ref (clsC_ref (clsC_ref clsC_nil))))))))))), (isiX_cons cn9 ⟨ea9, eb9, ec9, ed9, ee9⟩ ek1_9 (isiX_nil (clsC_ref (clsC_ref (clsC_ref (clsC_ref (clsC_ref (clsC_ref (clsC_ref (clsC_ref (clsC_ref (clsC_ref clsC_nil)))))))))))), (isiX_cons cn9 ⟨ea9, eb9, ec9, ed9, ee9⟩ ek2_9 (isiX_nil (clsC_ref clsC_nil))), (isiX_cons cn9 ⟨ea9, eb9, ec9, ed9, ee9⟩ ek3_9 (isiX_nil (clsC_ref clsC_nil))), (isiX_cons cn9 ⟨ea9, eb9, ec9, ed9, ee9⟩ ek4_9 (isiX_nil (clsC_ty clsC_nil)))⟩
  refine ⟨PySem.W.fnOf "law" "law" (defArgs s_law) (defBody s_law) (defScope s_law) .none kV10 dc10 pm10 an10 cd10 ct10, fun s v => .of_eq rfl, fun base _ _ => ?_⟩
  have F__law_due : Fn l.prog w K mg base 1 "_law_due" 2 m__law_due := ok__law_due (fun_mk (st := s__law_due) l0 c0 k0) (PySem.W.mg_of X G a0) T  
  have F__law_mixed : Fn l.prog w K mg base 1 "_law_mixed" 2 m__law_mixed := ok__law_mixed (fun_mk (st := s__law_mixed) l1 c1 k1) (PySem.W.mg_of X G a1) T  
  have F__law_only : Fn l.prog w K mg base 1 "_law_only" 1 m__law_only := ok__law_only (fun_mk (st := s__law_only) l2 c2 k2) (PySem.W.mg_of X G a2) T  
  have F_TooHigh : FnE l.prog w K mg base 2 "TooHigh" "place" := ok_TooHigh (fun_mk (st := s_TooHigh) l3 c3 k3) ⟨⟨_, _, _, _, _, _, _, _, _, _, _, _, _, _, _, _, ex3, eo3, ei3, et3⟩, ef3, kc3, sa3, em3, ⟨_, 2, el3, ev3, eh3⟩, eg3, er3, eb3⟩ (PySem.W.mg_of X G aC3) aC3 (PySem.W.mg_of X G aS3) en3
  have F_heights_of : Fn l.prog w K mg base 1 "heights_of" 1 m_heights_of := ok_heights_of (fun_mk (st := s_heights_of) l4 c4 k4) (PySem.W.mg_of X G a4) T  
  have F_places_of : Fn l.prog w K mg base 1 "places_of" 1 m_places_of := ok_places_of (fun_mk (st := s_places_of) l5 c5 k5) (PySem.W.mg_of X G a5) T  
  have F_least_of : FnX l.prog w K mg base 3 "least_of" 2 m_least_of := ok_least_of (fun_mk (st := s_least_of) l6 c6 k6) (PySem.W.mg_of X G a6) T F_TooHigh F_heights_of F_places_of 
  have F__law_right : Fn l.prog w K mg base 4 "_law_right" 4 m__law_right := ok__law_right (fun_mk (st := s__law_right) l7 c7 k7) (PySem.W.mg_of X G a7) T F_TooHigh F__law_only F_least_of 
  have F__law_rules : Fn l.prog w K mg base 2 "_law_rules" 1 m__law_rules := ok__law_rules (fun_mk (st := s__law_rules) l8 c8 k8) (PySem.W.mg_of X G a8) T F__law_mixed 
  have F__law_some : Fn l.prog w K mg base 2 "_law_some" 4 m__law_some := ok__law_some (fun_mk (st := s__law_some) l9 c9 k9) (PySem.W.mg_of X G a9) T F__law_mixed 
  exact law_of (ok_law (fun_mk (st := s_law) l10 c10 k10) T F__law_due F__law_mixed F__law_right F__law_rules F__law_some) law_true
theorem walk {l : PySem.W.OpenLaw} {q : Program} {loose : List Str} {XP : (Str → Option Value) → Heap → Prop} {YP : World → Heap → Prop} {d : DefRec} {K : Params → PySem.W.Frag} (hn : l.most = some 63) (hdf : d.params.defaults = [])
    (hY : ∀ (w : World) (h : Heap), YP w h → (K w.params).In h)
    (F : ∀ (w : World) (mg : Str → Option Value) (fa : Addr) (h : Heap), (K w.params).In h → h.Ns mainGlobals mg → mg d.name = some (.ref fa) →
      ∃ fd : FuncData, (∀ (s : Shared) (u : Value), BindsTo s fd ⟨[u], []⟩ [("_law_script", u)]) ∧ ∀ base : Heap, (K w.params).In base → base.Ns mainGlobals mg → FnOk l.prog w (K w.params) mg base CX0 5 fa fd ["_law_script"] (spLaw (K w.params))) :
    PySem.W.WalkO q loose XP YP l.row.toRowW d [] (fun f vs => PySem.call f vs) :=
  L2.walk_of (n := 63) (k := 5) (x := "_law_script") (CX := fun _ => CX0) (sp := fun w => spLaw (K w.params)) hn (by decide) hdf ⟨rfl, by decide, by decide, rfl⟩ hY F (fun _ _ a ns hl _ hS => ⟨a, ns, rfl, hS, hl, fun _ => rfl⟩) fun _ _ _ _ _ z => z
end G
open PySem PySem.W PyProof.Rows
set_option maxRecDepth 100000 in
set_option maxHeartbeats 0 in
theorem PySem.W.Fast.tw15123440120285077617 : True := trivial
theorem PySem.W.Fast.tw14710552625845282733 : True := trivial
theorem PySem.W.Fast.tw8653366199337914969 : True := trivial
theorem PySem.W.Fast.tw14896233566726090761 : True := trivial
theorem PySem.W.Fast.tw4520622575457592668 : True := trivial
theorem PySem.W.Fast.tw4322059185288225269 : True := trivial
theorem PySem.W.Fast.tw6329348598129013945 : True := trivial
theorem PySem.W.Fast.tw3078291510289821357 : True := trivial
theorem PySem.W.Fast.tw16509491450005374056 : True := trivial
theorem PySem.W.Fast.tw1366450408576213297 : True := trivial
theorem PySem.W.Fast.tw1826429664937864616 : True := trivial
theorem PySem.W.Fast.tw5047798416669053679 : True := trivial
theorem PySem.W.Fast.tw17574789645778192003 : True := trivial
theorem PySem.W.Fast.tw1271241291181004304 : True := trivial
theorem PySem.W.Fast.tw16669946050867589161 : True := trivial
theorem PySem.W.Fast.tw1500891201566631849 : True := trivial
theorem PySem.W.Fast.tw16241935743819360540 : True := trivial
theorem PySem.W.Fast.tw8266617519738412674 : True := trivial
theorem PySem.W.Fast.tw8210099250714926982 : True := trivial
theorem PySem.W.Fast.tw9306081964293099607 : True := trivial
theorem PySem.W.Fast.tw16829190957708440103 : True := trivial
theorem PySem.W.Fast.tw5522455455368728864 : True := trivial
theorem PySem.W.Fast.tw10715588804058685701 : True := trivial
theorem PySem.W.Fast.tw8354723531972271676 : True := trivial
theorem PySem.W.Fast.tw15347219512869691482 : True := trivial
theorem PySem.W.Fast.tw17614969859142135866 : True := trivial
theorem PySem.W.Fast.tw8264380504366517244 : True := trivial
theorem PySem.W.Fast.tw3645261258489725805 : True := trivial
theorem PySem.W.Fast.tw16084833416355528896 : True := trivial
theorem PySem.W.Fast.tw6849359291553798602 : True := trivial
theorem PySem.W.Fast.tw3745854619306508008 : True := trivial
theorem PySem.W.Fast.tw16741309020628117157 : True := trivial
theorem PySem.W.Fast.tw363563985939829883 : True := trivial
theorem PySem.W.Fast.tw13342332747615913006 : True := trivial
theorem PySem.W.Fast.tw17277870179109133974 : True := trivial
theorem PySem.W.Fast.tw14470323527543400432 : True := trivial
theorem PySem.W.Fast.tw1724362980481178363 : True := trivial
theorem PySem.W.Fast.tw1047451299906693847 : True := trivial
theorem PySem.W.Fast.tw10044065593009399609 : True := trivial
theorem PySem.W.Fast.tw66307997714798348 : True := trivial
theorem PySem.W.Fast.tw13675590151119526157 : True := trivial
theorem PySem.W.Fast.tw8459915131167093262 : True := trivial
theorem PySem.W.Fast.tw5862414293725874379 : True := trivial
theorem PySem.W.Fast.tw657107889012941806 : True := trivial
theorem PySem.W.Fast.tw10907604600280458674 : True := trivial
theorem PySem.W.Fast.tw4402815253241695013 : True := trivial
theorem PySem.W.Fast.tw12152266562124901647 : True := trivial
theorem PySem.W.Fast.tw14611399496434247850 : True := trivial
theorem PySem.W.Fast.tw9670803717251744462 : True := trivial
theorem PySem.W.Fast.tw4641955335560120123 : True := trivial
theorem PySem.W.Fast.tw9997181427938819628 : True := trivial
theorem PySem.W.Fast.tw5984662481476416394 : True := trivial
theorem PySem.W.Fast.tw15417520237093623980 : True := trivial
theorem PySem.W.Fast.tw8564744608744873981 : True := trivial
theorem PySem.W.Fast.tw15530431735939023732 : True := trivial
theorem PySem.W.Fast.tw2817553969872900946 : True := trivial
theorem PySem.W.Fast.tw2248068538938697858 : True := trivial
theorem PySem.W.Fast.tw12871815879616739968 : True := trivial
theorem PySem.W.Fast.tw15868685585136014216 : True := trivial
theorem PySem.W.Fast.tw7787065075597839583 : True := trivial
theorem PySem.W.Fast.tw15554665459158268289 : True := trivial
theorem PySem.W.Fast.tw1355842420729672017 : True := trivial
theorem PySem.W.Fast.tw17356375483109891414 : True := trivial
theorem PySem.W.Fast.tw4327539746606273518 : True := trivial
theorem PySem.W.Fast.tw10101410734498662404 : True := trivial
theorem PySem.W.Fast.tw2698570672257300590 : True := trivial
theorem PySem.W.Fast.tw13499074775243086121 : True := trivial
theorem PySem.W.Fast.tw13075500171461389886 : True := trivial
theorem PySem.W.Fast.tw3375078939510381515 : True := trivial
theorem PySem.W.Fast.tw10890391893966970790 : True := trivial
theorem PySem.W.Fast.tw4765233569100291394 : True := trivial
theorem PySem.W.Fast.tw8854251276129251943 : True := trivial
theorem PySem.W.Fast.tw17277071468878383129 : True := trivial
theorem PySem.W.Fast.tw17534347737235997027 : True := trivial
theorem PySem.W.Fast.tw10565551759376424909 : True := trivial
theorem PySem.W.Fast.tw5099540670525845339 : True := trivial
theorem PySem.W.Fast.tw3375273168078629547 : True := trivial
theorem PySem.W.Fast.tw2467461546356932897 : True := trivial
theorem PySem.W.Fast.tw6773705636463555124 : True := trivial
theorem PySem.W.Fast.tw207940214164822243 : True := trivial
theorem PySem.W.Fast.tw11397308913351418749 : True := trivial
theorem PySem.W.Fast.tw6679585106827297947 : True := trivial
theorem PySem.W.Fast.tw5764936709439906144 : True := trivial
theorem PySem.W.Fast.tw3307781609364344448 : True := trivial
theorem PySem.W.Fast.tw6368081125732567156 : True := trivial
theorem PySem.W.Fast.tw15713861036768268568 : True := trivial
theorem PySem.W.Fast.tw702304175414294782 : True := trivial
theorem PySem.W.Fast.tw18139444263353285699 : True := trivial
theorem PySem.W.Fast.tw7002544156846774101 : True := trivial
theorem PySem.W.Fast.tw16545179568663686384 : True := trivial
theorem PySem.W.Fast.tw7322604385338851378 : True := trivial
theorem PySem.W.Fast.tw1240373957141575639 : True := trivial
theorem PySem.W.Fast.tw12487186739197811987 : True := trivial
theorem PySem.W.Fast.tw4180398882528173002 : True := trivial
theorem PySem.W.Fast.tw11660769617156682243 : True := trivial
theorem PySem.W.Fast.tw742596770777200889 : True := trivial
theorem PySem.W.Fast.tw13701108827625457198 : True := trivial
theorem PySem.W.Fast.tw8544184987123653818 : True := trivial
theorem PySem.W.Fast.tw701830236593697600 : True := trivial
theorem PySem.W.Fast.tw3450293807320615040 : True := trivial
theorem PySem.W.Fast.tw4532629896983100550 : True := trivial
theorem PySem.W.Fast.tw15839084327893473808 : True := trivial
theorem PySem.W.Fast.tw6764974846199929814 : True := trivial
theorem PySem.W.Fast.tw14645244871200294232 : True := trivial
theorem PySem.W.Fast.tw1313750175563490376 : True := trivial
theorem PySem.W.Fast.tw16424285243504930105 : True := trivial
theorem PySem.W.Fast.tw2640076366324710601 : True := trivial
theorem PySem.W.Fast.tw4243872756414058529 : True := trivial
theorem PySem.W.Fast.tw12393131326938296421 : True := trivial
theorem PySem.W.Fast.tw392526083090908173 : True := trivial
theorem PySem.W.Fast.tw7149411575838787784 : True := trivial
theorem PySem.W.Fast.tw1154114473519244837 : True := trivial
theorem PySem.W.Fast.tw7295973105858609346 : True := trivial
theorem PySem.W.Fast.tw1035340615679469931 : True := trivial
theorem PySem.W.Fast.tw315838800729727955 : True := trivial
theorem PySem.W.Fast.tw11298138375116951478 : True := trivial
theorem PySem.W.Fast.tw13146652871970604838 : True := trivial
theorem PySem.W.Fast.tw11024323020422068831 : True := trivial
theorem PySem.W.Fast.tw8625923071718475480 : True := trivial
theorem PySem.W.Fast.tw10742422293566020471 : True := trivial
theorem PySem.W.Fast.tw7866346981124715932 : True := trivial
theorem PySem.W.Fast.tw9468493877953058993 : True := trivial
theorem PySem.W.Fast.tw9852636128081625740 : True := trivial
theorem PySem.W.Fast.tw11522296925456143232 : True := trivial
theorem PySem.W.Fast.tw10724893524583902507 : True := trivial
theorem PySem.W.Fast.tw3152230619491159005 : True := trivial
theorem PySem.W.Fast.tw18030047064239527591 : True := trivial
theorem PySem.W.Fast.tw10320088772465430562 : True := trivial
theorem PySem.W.Fast.tw11733856651495365368 : True := trivial
theorem PySem.W.Fast.tw801883036913139841 : True := trivial
theorem PySem.W.Fast.tw10451057500385841458 : True := trivial
theorem PySem.W.Fast.tw3984850991630959477 : True := trivial
theorem PySem.W.Fast.tw4098282924332021422 : True := trivial
theorem PySem.W.Fast.tw1149032842480355813 : True := trivial
theorem PySem.W.Fast.tw8701614344622662001 : True := trivial
theorem PySem.W.Fast.tw13273628299498759776 : True := trivial
theorem PySem.W.Fast.tw9297589866194594163 : True := trivial
theorem PySem.W.Fast.tw18036686833745873918 : True := trivial
theorem PySem.W.Fast.tw17688769819496527283 : True := trivial
theorem PySem.W.Fast.tw12258359432168333943 : True := trivial
theorem PySem.W.Fast.tw4825355179516732481 : True := trivial
theorem PySem.W.Fast.tw8124338590945265435 : True := trivial
theorem PySem.W.Fast.tw1393824637469809747 : True := trivial
theorem PySem.W.Fast.tw13269653187863263868 : True := trivial
theorem PySem.W.Fast.tw9806769687007549853 : True := trivial
theorem PySem.W.Fast.tw6565769863267089641 : True := trivial
theorem PySem.W.Fast.tw4577441744125078641 : True := trivial
theorem PySem.W.Fast.tw17300911051700468457 : True := trivial
theorem PySem.W.Fast.tw6734002364138096232 : True := trivial
theorem PySem.W.Fast.tw13811222054647658575 : True := trivial
theorem PySem.W.Fast.tw1446818345878640366 : True := trivial
theorem PySem.W.Fast.tw17847793632970175503 : True := trivial
theorem PySem.W.Fast.tw5620657863790976942 : True := trivial
theorem PySem.W.Fast.tw2331405625614948930 : True := trivial
theorem PySem.W.Fast.tw16603655102621529880 : True := trivial
theorem PySem.W.Fast.tw13573969023126801799 : True := trivial
theorem PySem.W.Fast.tw1538142392671208668 : True := trivial
theorem PySem.W.Fast.tw9984075553883851372 : True := trivial
theorem PySem.W.Fast.tw5984424373526757808 : True := trivial
theorem PySem.W.Fast.tw3940486293112852933 : True := trivial
theorem PySem.W.Fast.tw17945772130763646401 : True := trivial
theorem PySem.W.Fast.tw1867187953292182689 : True := trivial
theorem PySem.W.Fast.tw12715076193751768836 : True := trivial
theorem PySem.W.Fast.tw6888919883804861342 : True := trivial
theorem PySem.W.Fast.tw9868293148585199475 : True := trivial
theorem PySem.W.Fast.tw10973735487329143527 : True := trivial
theorem PySem.W.Fast.tw10020538125284874713 : True := trivial
theorem PySem.W.Fast.tw6543028654149813943 : True := trivial
theorem PySem.W.Fast.tw1255015810132415281 : True := trivial
theorem PySem.W.Fast.tw16178790036652456083 : True := trivial
theorem PySem.W.Fast.tw10789636830758282729 : True := trivial
theorem PySem.W.Fast.tw14987043845562694266 : True := trivial
theorem PySem.W.Fast.tw5979057284612332825 : True := trivial
theorem PySem.W.Fast.tw11223238381039958333 : True := trivial
theorem PySem.W.Fast.tw801368492636437620 : True := trivial
theorem PySem.W.Fast.tw7701306522297228784 : True := trivial
theorem PySem.W.Fast.tw3849106333987543456 : True := trivial
theorem PySem.W.Fast.tw10673231882100898001 : True := trivial
theorem PySem.W.Fast.tw5502111726024861135 : True := trivial
theorem PySem.W.Fast.tw12883016570437909939 : True := trivial
theorem PySem.W.Fast.tw5742589334003574956 : True := trivial
theorem PySem.W.Fast.tw2440569682930023768 : True := trivial
theorem PySem.W.Fast.tw7643561387215554586 : True := trivial
theorem PySem.W.Fast.tw1488392307043815153 : True := trivial
theorem PySem.W.Fast.tw11444195547837049491 : True := trivial
theorem PySem.W.Fast.tw14493270093579073460 : True := trivial
theorem PySem.W.Fast.tw2004446140217531953 : True := trivial
theorem PySem.W.Fast.tw16045202223729000292 : True := trivial
theorem PySem.W.Fast.tw11301211095090666511 : True := trivial
theorem PySem.W.Fast.tw2729643562739064021 : True := trivial
theorem PySem.W.Fast.tw1808311749002892768 : True := trivial
theorem PySem.W.Fast.tw3332277897138680092 : True := trivial
theorem PySem.W.Fast.tw1464978658471841520 : True := trivial
theorem PySem.W.Fast.tw9202383706761420263 : True := trivial
theorem PySem.W.Fast.tw16717769309641139303 : True := trivial
theorem PySem.W.Fast.tw15518567042933870438 : True := trivial
theorem PySem.W.Fast.tw13165716499254954147 : True := trivial
theorem PySem.W.Fast.tw15068948575476237357 : True := trivial
theorem PySem.W.Fast.tw14502530405338474895 : True := trivial
theorem PySem.W.Fast.tw328342503329731915 : True := trivial
theorem PySem.W.Fast.tw16956844918595651117 : True := trivial
theorem PySem.W.Fast.tw2793966698270695573 : True := trivial
theorem PySem.W.Fast.tw12490922334125765730 : True := trivial
theorem PySem.W.Fast.tw930619772627272303 : True := trivial
theorem PySem.W.Fast.tw6932668719812129480 : True := trivial
theorem PySem.W.Fast.tw7239459934230118706 : True := trivial
theorem PySem.W.Fast.tw16437583796548188258 : True := trivial
theorem PySem.W.Fast.tw17531683660977690577 : True := trivial
theorem PySem.W.Fast.tw17747217057569614806 : True := trivial
theorem PySem.W.Fast.tw6705397414922913746 : True := trivial
theorem PySem.W.Fast.tw5704625339787752123 : True := trivial
theorem PySem.W.Fast.tw6587853676803090585 : True := trivial
theorem PySem.W.Fast.tw2802280214564490562 : True := trivial
theorem PySem.W.Fast.tw9433759880370533790 : True := trivial
theorem PySem.W.Fast.tw17908849144138473457 : True := trivial
theorem PySem.W.Fast.tw12314602607645501927 : True := trivial
theorem PySem.W.Fast.tw8257713098214139758 : True := trivial
theorem PySem.W.Fast.tw14199023542368666680 : True := trivial
theorem PySem.W.Fast.tw9373828775264586501 : True := trivial
theorem PySem.W.Fast.tw5188068743250953095 : True := trivial
theorem PySem.W.Fast.tw3344699100748969412 : True := trivial
theorem PySem.W.Fast.tw2530574802681246941 : True := trivial
theorem PySem.W.Fast.tw10571967542420184514 : True := trivial
theorem PySem.W.Fast.tw14457282100188154671 : True := trivial
theorem PySem.W.Fast.tw13698923228089712244 : True := trivial
theorem PySem.W.Fast.tw5174638206337423855 : True := trivial
theorem PySem.W.Fast.tw11618044266774314157 : True := trivial
theorem PySem.W.Fast.tw15240629475428288163 : True := trivial
theorem PySem.W.Fast.tw4657797563005719013 : True := trivial
theorem PySem.W.Fast.tw6677855457168191220 : True := trivial
theorem PySem.W.Fast.tw1297235649983982572 : True := trivial
theorem PySem.W.Fast.tw10367358913024722296 : True := trivial
theorem PySem.W.Fast.tw13941114975284161415 : True := trivial
theorem PySem.W.Fast.tw11571533496008292415 : True := trivial
theorem PySem.W.Fast.tw10071170488692768454 : True := trivial
theorem PySem.W.Fast.tw11062375312544313801 : True := trivial
theorem PySem.W.Fast.tw8481039663979878981 : True := trivial
theorem PySem.W.Fast.tw8018892661034468634 : True := trivial
theorem PySem.W.Fast.tw37658045251653351 : True := trivial
theorem PySem.W.Fast.tw3546567801000170976 : True := trivial
theorem PySem.W.Fast.tw3916279807072142002 : True := trivial
theorem PySem.W.Fast.tw16750329793671646176 : True := trivial
theorem PySem.W.Fast.tw17928019117157082557 : True := trivial
theorem PySem.W.Fast.tw17714582653888650710 : True := trivial
theorem PySem.W.Fast.tw14620808984159174580 : True := trivial
theorem PySem.W.Fast.tw14536294960600722976 : True := trivial
theorem PySem.W.Fast.tw1153545559649616260 : True := trivial
theorem PySem.W.Fast.tw9221370147825454944 : True := trivial
theorem PySem.W.Fast.tw13561925762401982413 : True := trivial
theorem PySem.W.Fast.tw2508676535232077913 : True := trivial
theorem PySem.W.Fast.tw10738581446899673167 : True := trivial
theorem PySem.W.Fast.tw7642598755170667284 : True := trivial
theorem PySem.W.Fast.tw18191168710138937460 : True := trivial
theorem PySem.W.Fast.tw2770583336986241415 : True := trivial
theorem PySem.W.Fast.tw12901991036582737560 : True := trivial
theorem PySem.W.Fast.tw7223202540582732500 : True := trivial
theorem PySem.W.Fast.tw7813179987054153896 : True := trivial
theorem PySem.W.Fast.tw13318238385480729693 : True := trivial
theorem PySem.W.Fast.tw10411949194575408165 : True := trivial
theorem PySem.W.Fast.tw9224842233338678771 : True := trivial
theorem PySem.W.Fast.tw13633295849781306165 : True := trivial
theorem PySem.W.Fast.tw8637890734561383057 : True := trivial
theorem PySem.W.Fast.tw1317717628469640081 : True := trivial
theorem PySem.W.Fast.tw13696004392265358272 : True := trivial
theorem PySem.W.Fast.tw13886458210084815849 : True := trivial
theorem PySem.W.Fast.tw15256859517218669239 : True := trivial
theorem PySem.W.Fast.tw891531872336580180 : True := trivial
theorem PySem.W.Fast.tw8792633240328607043 : True := trivial
theorem PySem.W.Fast.tw6288999182069315734 : True := trivial
theorem PySem.W.Fast.tw5766055413775203850 : True := trivial
theorem PySem.W.Fast.tw8045011024020790261 : True := trivial
theorem PySem.W.Fast.tw14248817649760522327 : True := trivial
theorem PySem.W.Fast.tw7420744114191437503 : True := trivial
theorem PySem.W.Fast.tw13410553708543321226 : True := trivial
theorem PySem.W.Fast.tw9548570767265725024 : True := trivial
theorem PySem.W.Fast.tw8977194667963865582 : True := trivial
theorem PySem.W.Fast.tw17084878699063443698 : True := trivial
theorem PySem.W.Fast.tw16644427512323951009 : True := trivial
theorem PySem.W.Fast.tw7217063926873804805 : True := trivial
theorem PySem.W.Fast.tw4449931595829015379 : True := trivial
theorem PySem.W.Fast.tw6351560228156761377 : True := trivial
theorem PySem.W.Fast.tw7131258867752170037 : True := trivial
theorem PySem.W.Fast.tw9013610305732331523 : True := trivial
theorem PySem.W.Fast.tw4416476692135395451 : True := trivial
theorem PySem.W.Fast.tw13145770127444390485 : True := trivial
theorem PySem.W.Fast.tw15999986586907922843 : True := trivial
theorem PySem.W.Fast.tw8714506514472972708 : True := trivial
theorem PySem.W.Fast.tw11896308177936818459 : True := trivial
theorem PySem.W.Fast.tw5948443509913659577 : True := trivial
theorem PySem.W.Fast.tw10092129073229976225 : True := trivial
theorem PySem.W.Fast.tw11286476961886350691 : True := trivial
theorem PySem.W.Fast.tw14065107389482709632 : True := trivial
theorem PySem.W.Fast.tw6329608866061409780 : True := trivial
theorem PySem.W.Fast.tw16293073121875860531 : True := trivial
theorem PySem.W.Fast.tw9950553389510164960 : True := trivial
theorem PySem.W.Fast.tw3493606307041683248 : True := trivial
theorem PySem.W.Fast.tw16006511451800554912 : True := trivial
theorem PySem.W.Fast.tw9069514864697335647 : True := trivial
theorem PySem.W.Fast.tw9362250798802755297 : True := trivial
theorem PySem.W.Fast.tw10384266540289499721 : True := trivial
theorem PySem.W.Fast.tw15179072891017858811 : True := trivial
theorem PySem.W.Fast.tw18421828721567737872 : True := trivial
theorem PySem.W.Fast.tw3550690036083286103 : True := trivial
theorem PySem.W.Fast.tw12896983053741960613 : True := trivial
theorem PySem.W.Fast.tw2719115529634232169 : True := trivial
theorem PySem.Challenge.cw_wardsmith_k14_the_least_barrel_holds : PySem.Challenge.rw_wardsmith_k14_the_least_barrel.Holds := by
  w_on; o_law; k_head; (case hw => w_witness2)
  k_fill
  refine G.walk (l := PySem.Challenge.rw_wardsmith_k14_the_least_barrel) rfl rfl (fun w h Y => PySem.W.kIn_of Y) ?F
  case F =>
    intro w mg fa h KX GG hmg
    refine' G.all_mk KX GG hmg ?a0 ?l0 ?c0 ?k0 ?a1 ?l1 ?c1 ?k1 ?a2 ?l2 ?c2 ?k2 ?aC3 ?aS3 ?ex3 ?eo3 ?ei3 ?et3 ?ef3 ?kc3 ?sa3 ?em3 ?el3 ?ev3 ?eh3 ?eg3 ?er3 ?eb3 ?en3 ?l3 ?c3 ?k3 ?xa3 ?xb3 ?xc3 ?xd3 ?xf3 ?a4 ?l4 ?c4 ?k4 ?a5 ?l5 ?c5 ?k5 ?a6 ?l6 ?c6 ?k6 ?a7 ?l7 ?c7 ?k7 ?a8 ?l8 ?c8 ?k8 ?a9 ?l9 ?c9 ?k9 ?a10 ?l10 ?c10 ?k10 ?z0 ?z1 ?z2 ?z3 ?z4 ?z5 ?z6 ?z7 ?z8 ?z9 ?z10 ?cn0 ?cn1 ?cn2 ?cn3 ?cn4 ?cn5 ?cn6 ?cn7 ?cn8 ?cn9 ?cn10 ?cn11 ?cn12 ?cn13 ?cn14 ?cn15 ?cn16 ?cn17 ?cn18 ?cn19 ?cn20 ?cm20_9 ?ea9 ?eb9 ?ec9 ?ed9 ?ee9 ?ek0_9 ?ek1_9 ?ek2_9 ?ek3_9 ?ek4_9
    (case a0 => k_is); (case l0 => k_is); (case c0 => k_is); (case k0 => k_is); (case a1 => k_is); (case l1 => k_is)
    (case c1 => k_is); (case k1 => k_is); (case a2 => k_is); (case l2 => k_is); (case c2 => k_is); (case k2 => k_is)
    (case aC3 => k_is); (case aS3 => k_is); (case ex3 => k_is); (case eo3 => kernel_rfl); (case ei3 => k_is); (case et3 => kernel_rfl)
    (case ef3 => k_is); (case kc3 => k_is); (case sa3 => k_is); (case em3 => k_is); (case el3 => k_is); (case ev3 => kernel_rfl)
    (case eh3 => kernel_rfl); (case eg3 => k_is); (case er3 => k_is); (case eb3 => k_is); (case en3 => k_is); (case l3 => k_is)
    (case c3 => k_is); (case k3 => k_is); (case xa3 => k_is); (case xb3 => k_is); (case xc3 => k_is); (case xd3 => k_is)
    (case xf3 => k_is); (case a4 => k_is); (case l4 => k_is); (case c4 => k_is); (case k4 => k_is); (case a5 => k_is)
    (case l5 => k_is); (case c5 => k_is); (case k5 => k_is); (case a6 => k_is); (case l6 => k_is); (case c6 => k_is)
    (case k6 => k_is); (case a7 => k_is); (case l7 => k_is); (case c7 => k_is); (case k7 => k_is); (case a8 => k_is)
    (case l8 => k_is); (case c8 => k_is); (case k8 => k_is); (case a9 => k_is); (case l9 => k_is); (case c9 => k_is)
    (case k9 => k_is); (case a10 => k_is); (case l10 => k_is); (case c10 => k_is); (case k10 => k_is); (case z0 => k_is)
    (case z1 => k_is); (case z2 => k_is); (case z3 => k_is); (case z4 => k_is); (case z5 => k_is); (case z6 => k_is)
    (case z7 => k_is); (case z8 => k_is); (case z9 => k_is); (case z10 => k_is); (case cn0 => k_is); (case cn1 => k_is)
    (case cn2 => k_is); (case cn3 => k_is); (case cn4 => k_is); (case cn5 => k_is); (case cn6 => k_is); (case cn7 => k_is)
    (case cn8 => k_is); (case cn9 => k_is); (case cn10 => k_is); (case cn11 => k_is); (case cn12 => k_is); (case cn13 => k_is)
    (case cn14 => k_is); (case cn15 => k_is); (case cn16 => k_is); (case cn17 => k_is); (case cn18 => k_is); (case cn19 => k_is)
    (case cn20 => k_is); (case cm20_9 => kts_exm); (case ea9 => k_is); (case eb9 => k_is); (case ec9 => k_is); (case ed9 => k_is)
    (case ee9 => k_is); (case ek0_9 => kit_is); (case ek1_9 => kit_is); (case ek2_9 => kit_is); (case ek3_9 => kit_is); (case ek4_9 => kit_is)
