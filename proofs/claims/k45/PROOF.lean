import PyProof.Rows.All
import Wide.All
import OpenK.AllK
import Wide.FinOn
import Lean
import PyProof.EqAt
import PyProof.EqKinds
import PyProof.TupleCall
import PyProof.ZipIter
import PyProof.Draws
import PyProof.TupleIter
import PyProof.ListMulRoad
import PyProof.FactsAll.tuple
import PyProof.ReprRoads
import PyProof.Rows.RegFStrParts
import PyProof.Rows.Range3
import KE.KIntText
import PyProof.AutoListH
import PyProof.Rows.MinMaxN
import PyProof.SetScanFacts
import PyProof.SetKind
import PyProof.DictKinds
import PyProof.WalkLemmas
import PyProof.CollectWalk
import PyProof.FactsAll.set
import PyProof.Walks
import PyProof.WalksS
import PyProof.SetRoads
import PyProof.Rows.SetFrom
import PyProof.Rows.SortWalk
import PyProof.EnumMake
import PyProof.EnumFor
import PyProof.DictItemsLoops
import PyProof.DictWalks
import KE.KDictList
import PyProof.Rows.SumAny
import KE.KRevIter
import KE.KDictOf
import PyProof.AttrMissHeap
import PyProof.NsDelKeeps
import PyProof.RulesAs
import KE.KTryMore
import PyProof.ExcArgsOwn
import PySem.Challenge.RW_wardsmith_k45_whole_least_barrels_do
set_option Elab.async false
set_option linter.all false
set_option maxRecDepth 100000
theorem slim0 (h : True := by rfl) : True := trivial
theorem slim1 (h : True := by decide) : True := trivial
theorem slim2 (h : True := by intro _; rfl) : True := trivial
theorem slim3 (h : True := by intro _ _; rfl) : True := trivial
theorem slim4 (h : True := by decide +kernel) : True := trivial
theorem slim5 (h : True := by first | exact .inl rfl | exact .inr rfl | assumption) : True := trivial
theorem slim6 (h : True := by first | exact Or.inl rfl | exact Or.inr (Or.inl rfl) | exact Or.inr (Or.inr rfl)) : True := trivial
theorem slim7 (h : True := by first | exact Or.inl rfl | exact Or.inr rfl) : True := trivial
namespace L2
open PySem PySem.Spec PyProof.Rows
noncomputable abbrev Key := Sum Int Str
noncomputable def keyIs : Key → Value → Bool
  | .inl k, v => Value.isInt k v
  | .inr x, v => Value.isStrOf x v
noncomputable def keyH (w : World) : Key → Int
  | .inl k => hashInt k
  | .inr x => hashStr w x
theorem Az0U : ∀ {k : Key} {v : Value}, keyIs k v = true → (∃ i t, k = Sum.inl i ∧ v = Value.int i t) ∨ (∃ x t, k = Sum.inr x ∧ v = Value.str x t)
  | .inl i, v, h => by
    obtain ⟨t, e⟩ := Value.isInt_shape (k := i) (v := v) h
    exact .inl ⟨i, t, rfl, e⟩
  | .inr x, v, h => by
    obtain ⟨t, e⟩ := Value.isStrOf_shape (x := x) (v := v) h
    exact .inr ⟨x, t, rfl, e⟩
theorem Bz5U (i : Int) (t : Tok) : keyIs (.inl i) (.int i t) = true := by simp [keyIs, Value.isInt]
theorem Bz5T (x : Str) (t : Tok) : keyIs (.inr x) (.str x t) = true := by simp [keyIs, Value.isStrOf]
theorem key_ll (a b : Int) : decide ((Sum.inl a : Key) = Sum.inl b) = (a == b) := by
  by_cases e : a = b
  · subst e; simp
  · have h : ¬ (Sum.inl a : Key) = Sum.inl b := fun q => e (Sum.inl.inj q)
    rw [decide_eq_false h]
    exact (beq_eq_false_iff_ne.mpr e).symm
theorem key_rr (a b : Str) : decide ((Sum.inr a : Key) = Sum.inr b) = decide (a = b) := by
  by_cases e : a = b
  · subst e; simp
  · have h : ¬ (Sum.inr a : Key) = Sum.inr b := fun q => e (Sum.inr.inj q)
    rw [decide_eq_false h, decide_eq_false e]
theorem key_lr (a : Int) (b : Str) : decide ((Sum.inl a : Key) = Sum.inr b) = false := decide_eq_false (fun q => nomatch q)
theorem key_rl (a : Str) (b : Int) : decide ((Sum.inr a : Key) = Sum.inl b) = false := decide_eq_false (fun q => nomatch q)
noncomputable def Az2Y (prog : Program) (w : World) : PySem.KeyKind prog w Key where
  is := keyIs
  hash := keyH w
  inj := fun v a b ha hb => by
    rcases Az0U ha with ⟨i, t, rfl, rfl⟩ | ⟨x, t, rfl, rfl⟩
    · rcases Az0U hb with ⟨j, u, rfl, e⟩ | ⟨y, u, rfl, e⟩
      · injection e with e1 _; rw [e1]
      · exact nomatch e
    · rcases Az0U hb with ⟨j, u, rfl, e⟩ | ⟨y, u, rfl, e⟩
      · exact nomatch e
      · injection e with e1 _; rw [e1]
  byValue := fun k v h => by
    rcases Az0U h with ⟨i, t, rfl, rfl⟩ | ⟨x, t, rfl, rfl⟩ <;> rfl
  pyHash := fun hv h => by
    rcases Az0U hv with ⟨i, t, rfl, rfl⟩ | ⟨x, t, rfl, rfl⟩
    · exact wpAny_pyHash_int h
    · exact wpAny_pyHash_str h
  eqBool := fun hu hv h => by
    rcases Az0U hu with ⟨i, t, rfl, rfl⟩ | ⟨x, t, rfl, rfl⟩
    · rcases Az0U hv with ⟨j, u, rfl, rfl⟩ | ⟨y, u, rfl, rfl⟩
      · rw [key_ll] at h; exact wpAny_eqBool_int h
      · rw [key_lr] at h; exact SeqAt.EqAt.int_str i t y u _ _ _ _ h
    · rcases Az0U hv with ⟨j, u, rfl, rfl⟩ | ⟨y, u, rfl, rfl⟩
      · rw [key_rl] at h; exact SeqAt.EqAt.str_int x t j u _ _ _ _ h
      · rw [key_rr] at h; exact wpAny_eqBool_str h
  «strs» := fun k x t v h => by
    rcases Az0U h with ⟨i, u, rfl, e⟩ | ⟨y, u, rfl, e⟩
    · exact nomatch e
    · injection e with e1 _
      subst e1
      cases v <;> rfl
theorem Bz1N (prog : Program) (w : World) (i : Int) (t : Tok) : (Az2Y prog w).is (.inl i) (.int i t) = true := Bz5U i t
theorem Bz1M (prog : Program) (w : World) (x : Str) (t : Tok) : (Az2Y prog w).is (.inr x) (.str x t) = true := Bz5T x t
end L2
namespace L2
open PySem PySem.Spec PyProof.Rows
inductive V where
  | non | bl (b : Bool) | int (i : Int) | str (x : Str) | byt (b : Array UInt8) | flt (b : UInt64) | ref (a : Addr) | ty (n : String)
  deriving DecidableEq
noncomputable def RelV : V → Value → Prop
  | .non, u => u = Value.none
  | .bl b, u => u = Value.bool b
  | .int i, u => ∃ t, u = Value.int i t
  | .str x, u => ∃ t, u = Value.str x t
  | .byt b, u => ∃ t, u = Value.bytes b t
  | .flt b, u => ∃ t, u = Value.float b t
  | .ref a, u => u = Value.ref a
  | .ty n, u => u = Value.type n
noncomputable abbrev Vals : List V → List Value → Prop := Paired RelV
theorem Vals.length {xs : List V} {us : List Value} (r : Vals xs us) : xs.length = us.length := Paired.length r
theorem Vals.get : ∀ {xs : List V} {us : List Value} {i : Nat} {x : V}, Vals xs us → xs[i]? = some x → ∃ u, us[i]? = some u ∧ RelV x u
  | _, _, _, _, .nil, e => by simp at e
  | _, _, 0, _, .cons r _, e => by simp at e; subst e; exact ⟨_, rfl, r⟩
  | _, _, i + 1, x, .cons _ t, e => by
    obtain ⟨u, h1, h2⟩ := Vals.get (i := i) (x := x) t (by simpa using e)
    exact ⟨u, by simpa using h1, h2⟩
theorem Vals.set {x : V} {u : Value} (r : RelV x u) : ∀ {xs : List V} {us : List Value} (i : Nat), Vals xs us → Vals (xs.set i x) (us.set i u)
  | _, _, _, .nil => .nil
  | _, _, 0, .cons _ t => .cons r t
  | _, _, i + 1, .cons q t => .cons q (Vals.set r i t)
theorem Vals.append : ∀ {xs ys : List V} {us ws : List Value}, Vals xs us → Vals ys ws → Vals (xs ++ ys) (us ++ ws)
  | _, _, _, _, .nil, s => s
  | _, _, _, _, .cons r t, s => .cons r (Vals.append t s)
theorem Vals.take : ∀ {xs : List V} {us : List Value} (n : Nat), Vals xs us → Vals (xs.take n) (us.take n)
  | _, _, 0, _ => .nil
  | _, _, _ + 1, .nil => .nil
  | _, _, n + 1, .cons r t => .cons r (Vals.take n t)
theorem Vals.drop : ∀ {xs : List V} {us : List Value} (n : Nat), Vals xs us → Vals (xs.drop n) (us.drop n)
  | _, _, 0, r => r
  | _, _, _ + 1, .nil => .nil
  | _, _, n + 1, .cons _ t => Vals.drop n t
noncomputable def RelO : Option V → Option Value → Prop
  | some v, some u => RelV v u
  | none, none => True
  | _, _ => False
noncomputable def KV {κ : Type} : List (κ × V) → List (κ × Value) → Prop := Paired fun (p : κ × V) (q : κ × Value) => p.1 = q.1 ∧ RelV p.2 q.2
noncomputable def kV : Key → V
  | .inl i => .int i
  | .inr x => .str x
inductive HO where
    | lst (xs : List V)
    | tup (xs : List V)
    | dK (kvs : List (Key × V)) | dT (kvs : List (List Key × V))
    | set (S : Int → Bool) (n : Nat)
    | ins (C dx : Addr) (fs : List (Str × V))
    | own (x : Addr)
    | xd (fs : List (Str × V))
    | met (f x : Addr)
    | rng (lo hi : Int)
    | frz (o : Obj) (u : HO)
    | tbl (ps : Array Value)
    | ext (φ : Heap → Prop)
noncomputable abbrev Hp := Addr → Option HO
noncomputable def upd (H : Hp) (a : Addr) (o : HO) : Hp := fun b => if b = a then some o else H b
theorem Az0H {H : Hp} {a : Addr} {o : HO} : upd H a o a = some o := by unfold upd; rw [if_pos rfl]
theorem upd_ne {H : Hp} {a b : Addr} {o : HO} (h : b ≠ a) : upd H a o b = H b := by unfold upd; rw [if_neg h]
theorem Az0D {H : Hp} {a b : Addr} {o : HO} (h : H a = some o) (h' : H b = none) : a ≠ b := by
  intro e; subst e; rw [h] at h'; cases h'
section
variable (P : Program) (w : World)
noncomputable def ObjOk (H : Hp) (h : Heap) (a : Addr) : HO → Prop
  | .lst xs => xs.length ≤ sizeLine ∧ ∃ (its : List Value) (n : Nat), Vals xs its ∧ h.get? a = some { cls := .type "list", data := .seq its.toArray n }
  | .tup xs => xs.length ≤ sizeLine ∧ ∃ its : List Value, Vals xs its ∧ IsTup h a its.toArray
  | .dK kvs => kvs.length ≤ sizeLine ∧ (a == sysModules) = false ∧ ∃ vs, KV kvs vs ∧ h.DictOf (Az2Y P w) a vs
  | .dT kvs => kvs.length ≤ sizeLine ∧ (a == sysModules) = false ∧ ∃ xs : List (List Key × Addr × Value),
      Paired (fun (p : List Key × V) (q : List Key × Addr × Value) => p.1 = q.1 ∧ H q.2.1 = some (.tup (p.1.map kV)) ∧ RelV p.2 q.2.2) kvs xs ∧
      ∃ o es ep, h.get? a = some o ∧ o.ExactDict ∧ o.data = .dict es ep ∧ es.toList = xs.map (entryOfKey (tupleKind (Az2Y P w))) ∧ (xs.map (·.1)).Nodup
  | .set S n => h.SetOf (intKind P w) a S n
  | .ins C dx fs => H dx = some (.own a) ∧ fs.length ≤ 1000 ∧ dx ≠ a ∧ h.get? a = some (PySem.W.instObj C dx) ∧
      ∃ mA, h.Ns1 dx mA ∧ (∀ f, RelO (fs.lookup f) (mA f)) ∧ PySem.Within mA (fs.map (·.1))
  | .own _ => ∃ o, h.get? a = some o
  | .xd fs => ∃ mA, h.Ns1 a mA ∧ ∀ f, RelO (fs.lookup f) (mA f)
  | .rng lo hi => ∃ t u v, h.get? a = some { cls := .type "range", data := .fields #[.int lo t, .int hi u, .int 1 v] }
  | .frz o u => h.get? a = some o ∧ ObjOk H h a u
  | .tbl ps => h.get? a = some { cls := .none, data := .fields ps }
  | .met f x => h.get? a = some (PySem.W.methodObj (.ref f) (.ref x))
  | .ext φ => φ h ∧ (∃ o, h.get? a = some o) ∧ ∀ h1 h2 : Heap, φ h1 → (∀ o, h1.get? a = some o → h2.get? a = some o) → φ h2
noncomputable def HOk (H : Hp) (h : Heap) : Prop := ∀ a o, H a = some o → ObjOk P w H h a o
end
section
variable {P : Program} {w : World} {H H' : Hp} {h h' : Heap} {a : Addr} {o : HO}
theorem ObjOk.lt (x : ObjOk P w H h a o) : a < h.objs.size := by
  cases o with
  | lst xs => obtain ⟨_, _, _, _, e⟩ := x; exact Heap.lt_size e
  | tup xs => obtain ⟨_, _, _, p⟩ := x; exact p.lt
  | dK kvs => obtain ⟨_, _, _, _, o, _, _, e, _⟩ := x; exact Heap.lt_size e
  | dT kvs => obtain ⟨_, _, _, _, o, _, _, e, _⟩ := x; exact Heap.lt_size e
  | set S n => obtain ⟨o, _, _, _, e, _⟩ := x; exact Heap.lt_size e
  | ins C dx fs => obtain ⟨_, _, _, e, _⟩ := x; exact Heap.lt_size e
  | own y => obtain ⟨_, e⟩ := x; exact Heap.lt_size e
  | xd fs => obtain ⟨_, ⟨_, _, _, e, _⟩, _⟩ := x; exact Heap.lt_size e
  | rng lo hi => obtain ⟨_, _, _, e⟩ := x; exact Heap.lt_size e
  | frz ob u => obtain ⟨e, _⟩ := x; exact Heap.lt_size e
  | tbl ps => exact Heap.lt_size (show h.get? a = some _ from x)
  | met f y => exact Heap.lt_size (show h.get? a = some _ from x)
  | ext φ => obtain ⟨_, ⟨_, e⟩, _⟩ := x; exact Heap.lt_size e
theorem Paired.mapP {α β : Type} {F G : α → β → Prop} : ∀ {l₁ : List α} {l₂ : List β}, Paired F l₁ l₂ → (∀ a b, F a b → G a b) → Paired G l₁ l₂
  | _, _, .nil, _ => .nil
  | _, _, .cons r t, f => .cons (f _ _ r) (Paired.mapP t f)
theorem ObjOk.stay (x : ObjOk P w H h a o) (k : ∀ b u, (b = a ∨ H b = some (.own a)) → h.get? b = some u → h'.get? b = some u)
    (ho : ∀ b, H b = some (.own a) → H' b = some (.own a)) (ht : ∀ b xs, H b = some (.tup xs) → H' b = some (.tup xs)) : ObjOk P w H' h' a o := by
  induction o with
  | lst xs => obtain ⟨z, its, n, r, e⟩ := x; exact ⟨z, its, n, r, k _ _ (.inl rfl) e⟩
  | tup xs => obtain ⟨z, its, r, ob, e, c⟩ := x; exact ⟨z, its, r, ob, k _ _ (.inl rfl) e, c⟩
  | dK kvs => obtain ⟨z, y, vs, r, ob, es, ep, e, c⟩ := x; exact ⟨z, y, vs, r, ob, es, ep, k _ _ (.inl rfl) e, c⟩
  | dT kvs =>
    obtain ⟨z, y, xs, r, ob, es, ep, e, c⟩ := x
    exact ⟨z, y, xs, Paired.mapP r fun p q z => ⟨z.1, ht _ _ z.2.1, z.2.2⟩, ob, es, ep, k _ _ (.inl rfl) e, c⟩
  | set S n => obtain ⟨ob, es, ep, t, e, c⟩ := x; exact ⟨ob, es, ep, t, k _ _ (.inl rfl) e, c⟩
  | ins C dx fs =>
    obtain ⟨d, z, ne, e, mA, ⟨od, es, ep, e2, c⟩, r⟩ := x
    exact ⟨ho _ d, z, ne, k _ _ (.inl rfl) e, mA, ⟨od, es, ep, k _ _ (.inr d) e2, c⟩, r⟩
  | own y => obtain ⟨ob, e⟩ := x; exact ⟨ob, k _ _ (.inl rfl) e⟩
  | xd fs => obtain ⟨mA, ⟨od, es, ep, e, c⟩, r⟩ := x; exact ⟨mA, ⟨od, es, ep, k _ _ (.inl rfl) e, c⟩, r⟩
  | rng lo hi => obtain ⟨t, u, v, e⟩ := x; exact ⟨t, u, v, k _ _ (.inl rfl) e⟩
  | frz ob u ih => obtain ⟨e, q⟩ := x; exact ⟨k _ _ (.inl rfl) e, ih q⟩
  | tbl ps =>
    have e : h.get? a = some { cls := .none, data := .fields ps } := x
    show h'.get? a = some { cls := .none, data := .fields ps }
    exact k a _ (.inl rfl) e
  | met f y =>
    have e : h.get? a = some (PySem.W.methodObj (.ref f) (.ref y)) := x
    show h'.get? a = some (PySem.W.methodObj (.ref f) (.ref y))
    exact k a _ (.inl rfl) e
  | ext φ => obtain ⟨p, ⟨o, e⟩, st⟩ := x; exact ⟨st _ _ p fun o q => k _ _ (.inl rfl) q, ⟨o, k _ _ (.inl rfl) e⟩, st⟩
theorem HOk.lt (x : HOk P w H h) (e : H a = some o) : a < h.objs.size := (x a o e).lt
theorem HOk.fresh (x : HOk P w H h) (e : h.objs.size ≤ a) : H a = none := by
  cases q : H a with
  | none => rfl
  | some u => exact absurd (Nat.lt_of_lt_of_le (x.lt q) e) (Nat.lt_irrefl _)
theorem HOk.kept (x : HOk P w H h) (k : ∀ b u, h.get? b = some u → h'.get? b = some u) : HOk P w H h' := fun a o e =>
  (x a o e).stay (fun b u _ q => k b u q) (fun _ q => q) fun _ _ q => q
theorem HOk.laid (x : HOk P w H h) (k : ∀ b u, h.get? b = some u → h'.get? b = some u) (hp : h.objs.size ≤ a) (new : ObjOk P w (upd H a o) h' a o) : HOk P w (upd H a o) h' := fun b u e => by
  have hn := x.fresh hp
  by_cases hb : b = a
  · subst hb; rw [Az0H] at e; cases e; exact new
  · rw [upd_ne hb] at e
    exact (x b u e).stay (fun c v _ q => k c v q) (fun c q => by rw [upd_ne (Az0D q hn)]; exact q) fun c xs q => by rw [upd_ne (Az0D q hn)]; exact q
end
noncomputable def Rd (H : Hp) (a : Addr) (u : HO) : Prop := H a = some u ∨ ∃ o, H a = some (.frz o u)
theorem Rd.of {H : Hp} {a : Addr} {u : HO} (h : H a = some u) : Rd H a u := .inl h
theorem Rd.ok {P : Program} {w : World} {H : Hp} {h : Heap} {a : Addr} {u : HO} (r : Rd H a u) (x : HOk P w H h) : ObjOk P w H h a u := by
  rcases r with r | ⟨o, r⟩
  · exact x a u r
  · obtain ⟨_, q⟩ := x a _ r
    exact q
noncomputable def Mut : Option HO → Prop
  | some (.lst _) => True
  | some (.dK _) => True
  | some (.dT _) => True
  | some (.set _ _) => True
  | some (.ins _ _ _) => True
  | some (.ext _) => True
  | _ => False
section
variable {P : Program} {w : World} {H : Hp} {h h' : Heap} {x e : Addr} {o' : HO}
theorem HOk.write (ok : HOk P w H h) (mu : Mut (H x)) (he : e = x ∨ H e = some (.own x)) (k : ∀ b u, b ≠ e → h.get? b = some u → h'.get? b = some u) (heo : ∃ u, h'.get? e = some u)
    (new : ObjOk P w (upd H x o') h' x o') : HOk P w (upd H x o') h' := fun b u q => by
  have nown : ∀ c y, H c = some (.own y) → c ≠ x := fun c y r z => by subst z; rw [r] at mu; exact mu
  have ntup : ∀ c xs, H c = some (.tup xs) → c ≠ x := fun c xs r z => by subst z; rw [r] at mu; exact mu
  by_cases hb : b = x
  · subst hb; rw [Az0H] at q; cases q; exact new
  · rw [upd_ne hb] at q
    by_cases hbe : b = e
    · have q' : H b = some (.own x) := by
        rcases he with z | z
        · exact absurd (hbe.trans z) hb
        · rw [hbe]; exact z
      rw [q] at q'; cases q'
      obtain ⟨v, hv⟩ := heo
      exact ⟨v, by rw [hbe]; exact hv⟩
    · refine (ok b u q).stay (fun c v hc r => k c v ?_ r) (fun c r => by rw [upd_ne (nown c b r)]; exact r) fun c xs r => by rw [upd_ne (ntup c xs r)]; exact r
      rcases hc with rfl | hc
      · exact hbe
      · rintro rfl
        rcases he with z | z
        · exact nown c b hc z
        · rw [hc] at z; cases z; exact hb rfl
end
structure Un (fs ex : List Addr) (H H' : Hp) (h h' : Heap) : Prop where
  keep : ∀ b o, h.get? b = some o → H b = none → b ∉ fs → b ∉ ex → h'.get? b = some o
  slot : ∀ b o, h.get? b = some o → H b = none → b ∈ fs → b ∉ ex → ∃ sl, h'.get? b = some { o with slots := sl }
  free : ∀ b o, h.get? b = some o → H b = none → b ∉ ex → H' b = none
  there : ∀ b o, h.get? b = some o → b ∉ ex → ∃ o', h'.get? b = some o'
  tups : ∀ b xs, H b = some (.tup xs) → H' b = some (.tup xs)
  frzs : ∀ b o u, H b = some (.frz o u) → H' b = some (.frz o u)
  tbls : ∀ b ps, H b = some (.tbl ps) → ∃ more, H' b = some (.tbl (ps ++ more))
section
variable {fs fs' ex ex' : List Addr} {H H1 H2 : Hp} {h h1 h2 h' : Heap} {a x e : Addr} {o : HO}
theorem Un.any (u : Un fs ex H H1 h h1) {b : Addr} {ob : Obj} (q : h.get? b = some ob) (n : H b = none) (hx : b ∉ ex) : ∃ sl, h1.get? b = some { ob with slots := sl } := by
  by_cases hb : b ∈ fs
  · exact u.slot b ob q n hb hx
  · exact ⟨ob.slots, u.keep b ob q n hb hx⟩
theorem Un.trans (a : Un fs ex H H1 h h1) (b : Un fs ex H1 H2 h1 h2) : Un fs ex H H2 h h2 where
  keep := fun c ob q n hc hx => b.keep c ob (a.keep c ob q n hc hx) (a.free c ob q n hx) hc hx
  slot := fun c ob q n hc hx => by
    obtain ⟨sl, e1⟩ := a.slot c ob q n hc hx
    obtain ⟨sl', e2⟩ := b.slot c _ e1 (a.free c ob q n hx) hc hx
    exact ⟨sl', e2⟩
  free := fun c ob q n hx => by
    obtain ⟨o', e1⟩ := a.there c ob q hx
    exact b.free c o' e1 (a.free c ob q n hx) hx
  there := fun c ob q hx => by
    obtain ⟨o', e1⟩ := a.there c ob q hx
    exact b.there c o' e1 hx
  tups := fun c xs q => b.tups c xs (a.tups c xs q)
  frzs := fun c ob xs q => b.frzs c ob xs (a.frzs c ob xs q)
  tbls := fun c ps q => by
    obtain ⟨m1, e1⟩ := a.tbls c ps q
    obtain ⟨m2, e2⟩ := b.tbls c _ e1
    exact ⟨m1 ++ m2, by rw [e2, Array.append_assoc]⟩
theorem Un.kept (k : ∀ b u, h.get? b = some u → h'.get? b = some u) : Un fs ex H H h h' :=
  ⟨fun b ob q _ _ _ => k b ob q, fun b ob q _ _ _ => ⟨ob.slots, k b ob q⟩, fun _ _ _ n _ => n, fun b ob q _ => ⟨ob, k b ob q⟩, fun _ _ q => q, fun _ _ _ q => q, fun _ ps q => ⟨#[], by rw [q]; simp⟩⟩
theorem Un.refl : Un fs ex H H h h := Un.kept fun _ _ q => q
theorem Un.laid (k : ∀ b u, h.get? b = some u → h'.get? b = some u) (hp : h.objs.size ≤ a) (hn : H a = none) : Un fs ex H (upd H a o) h h' where
  keep := fun b u q _ _ _ => k b u q
  slot := fun b u q _ _ _ => ⟨u.slots, k b u q⟩
  free := fun b u q n _ => by rw [upd_ne (Nat.ne_of_lt (Nat.lt_of_lt_of_le (Heap.lt_size q) hp))]; exact n
  there := fun b u q _ => ⟨u, k b u q⟩
  tups := fun b xs q => by rw [upd_ne (Az0D q hn)]; exact q
  frzs := fun b u xs q => by rw [upd_ne (Az0D q hn)]; exact q
  tbls := fun b ps q => ⟨#[], by rw [upd_ne (Az0D q hn), q]; simp⟩
theorem Un.write (mu : Mut (H x)) (he : e = x ∨ H e = some (.own x)) (k : ∀ b u, b ≠ e → h.get? b = some u → h'.get? b = some u) (heo : ∃ u, h'.get? e = some u) : Un fs ex H (upd H x o) h h' := by
  have hx : ∀ b, H b = none → b ≠ x := fun b n z => by subst z; rw [n] at mu; exact mu
  have hb : ∀ b, H b = none → b ≠ e := fun b n z => by
    subst z
    rcases he with r | r
    · exact hx b n r
    · rw [n] at r; cases r
  have hm : ∀ b u, H b = some u → ¬ Mut (some u) → b ≠ x := fun b u q nm z => by subst z; rw [q] at mu; exact nm mu
  refine ⟨fun b u q n _ _ => k b u (hb b n) q, fun b u q n _ _ => ⟨u.slots, k b u (hb b n) q⟩, fun b u q n _ => by rw [upd_ne (hx b n)]; exact n, fun b u q _ => ?_,
    fun b xs q => by rw [upd_ne (hm b _ q fun z => z)]; exact q, fun b u xs q => by rw [upd_ne (hm b _ q fun z => z)]; exact q, fun b ps q => ⟨#[], by rw [upd_ne (hm b _ q fun z => z), q]; simp⟩⟩
  by_cases hbe : b = e
  · subst hbe; exact heo
  · exact ⟨u, k b u hbe q⟩
theorem Un.mono (u : Un fs ex H H1 h h1) (hs : ∀ b ∈ fs, b ∈ fs') (hx : ∀ b ∈ ex, b ∈ ex') : Un fs' ex' H H1 h h1 :=
  ⟨fun b ob q n hb he => u.keep b ob q n (fun z => hb (hs b z)) fun z => he (hx b z), fun _ _ q n _ he => u.any q n fun z => he (hx _ z), fun b ob q n he => u.free b ob q n fun z => he (hx b z), fun b ob q he => u.there b ob q fun z => he (hx b z), u.tups, u.frzs, u.tbls⟩
end
noncomputable def trk (h : Heap) (H : Hp) : List Addr := (List.range h.objs.size).filter fun a => (H a).isSome
noncomputable def hidT (h : Heap) (H : Hp) : Heap := PySem.W.hideAll h (trk h H)
theorem Bz5Z (h : Heap) (H : Hp) : (hidT h H).objs.size = h.objs.size := PySem.W.hideAll_size _ _
theorem Bz8T {h : Heap} {H : Hp} {b : Addr} {o : Obj} (e : h.get? b = some o) (n : H b = none) : (hidT h H).get? b = some o :=
  PySem.W.hideAll_get _ e fun hm => by
    have q : (H b).isSome = true := (List.mem_filter.mp hm).2
    rw [n] at q; simp at q
theorem Cz1H {h : Heap} {H : Hp} {b : Addr} {o : Obj} (e : (hidT h H).get? b = some o) : h.get? b = some o ∧ H b = none := by
  have e' : h.get? b = some o := PySem.W.of_hideAll (trk h H) e
  refine ⟨e', ?_⟩
  cases q : H b with
  | none => rfl
  | some x =>
    have hm : b ∈ trk h H := List.mem_filter.mpr ⟨List.mem_range.mpr (Heap.lt_size e'), by simp [q]⟩
    have z : (hidT h H).get? b = none := PySem.W.hideAll_none (trk h H) hm
    rw [z] at e; cases e
noncomputable def Cz3L (g h : Heap) (L : Addr) : List (Addr × Obj) := (List.range h.objs.size).filterMap fun a => if a = L ∨ (g.get? a).isSome = true then none else (h.get? a).map fun o => (a, o)
noncomputable def rest (g h : Heap) (L d : Addr) : List (Addr × Obj) := (Cz3L g h L).filter fun p => decide (p.1 ≠ d)
end L2
namespace L2
open PySem PySem.Spec PyProof.Rows
structure Mod (K : PySem.W.Frag) (mg : Str → Option Value) (base : Heap) : Prop where
  kin : K.In base
  glob : base.Ns mainGlobals mg
  blt : ∃ mb, base.Ns builtinsNs mb ∧ ∀ x : Str, x ≠ "__name__" → mb x = bootBuiltins x
  nolimit : base.NoLimit
structure Cx where
  prog : Program
  w : World
  K : PySem.W.Frag
  mg : Str → Option Value
  base : Heap
  A : Around
  N : List Str
  s₀ : Shared
  H₀ : Hp
  env : Env
  outer : List Env
  stack : List Env
  ex : List Addr
  fn : Str → Bool
  calm : Bool
  pn : List (Addr × Obj)
  xe : Value → Shared → Prop
noncomputable def frs (l : List Env) : List Addr := l.filterMap (·.frame)
noncomputable abbrev Cx.fs (X : Cx) : List Addr := frs X.outer
noncomputable def Vis (sc : Scope) (x : Str) : Prop := sc.names.lookup x = some .local ∨ sc.names.lookup x = some .cell ∨ sc.names.lookup x = some .free
noncomputable def Loc (sc : Scope) (x : Str) : Prop := sc.names.lookup x = some .local ∨ sc.names.lookup x = some .cell
noncomputable def Look (env : Env) (h : Heap) (m : Str → Option Value) (x : Str) (u : Value) : Prop :=
  (env.kindOf x = some .local ∧ m x = some u) ∨ ((env.kindOf x = some .cell ∨ env.kindOf x = some .free) ∧ ∃ c, env.cells.lookup x = some c ∧ h.IsCell c (some u))
structure Cx.Ok (X : Cx) : Prop where
  mod : Mod X.K X.mg X.base
  kind : X.env.scope.kind = .function
  glob : X.env.globals = mainGlobals
  blt : X.env.builtins = builtinsNs
  above : X.s₀.heap.objs.size ≤ X.env.locals
  inj : ∀ x y c, X.env.cells.lookup x = some c → X.env.cells.lookup y = some c → x = y
  has : ∀ x, (X.env.kindOf x = some .cell ∨ X.env.kindOf x = some .free) → ∃ c, X.env.cells.lookup x = some c
  cab : ∀ x c, X.fn x = true → X.env.cells.lookup x = some c → X.s₀.heap.objs.size ≤ c
  hd : X.calm = true → X.A.handled = none
  frames : X.A.frames = some X.stack
  stk : X.stack = X.outer ∨ (X.stack = X.env :: X.outer ∧ X.env.frame = some X.env.locals)
  exf : ∀ b ∈ X.ex, b ≠ X.env.locals ∧ ∀ x c, X.env.cells.lookup x = some c → c ≠ b
  bs : ∀ b o, X.base.get? b = some o → X.s₀.heap.get? b = some o ∧ X.H₀ b = none
  bsz : X.base.objs.size ≤ X.s₀.heap.objs.size
  noex : ∀ b o, X.base.get? b = some o → b ∉ X.ex
  exfs : ∀ b ∈ X.ex, b ∉ X.fs
  funs : X.s₀.heap.FunFrames X.base X.outer
  frf : ∀ b ∈ X.fs, X.H₀ b = none
structure Inv (X : Cx) (pins : List (Addr × Obj)) (σ : List (Option V)) (H : Hp) (s : Shared) : Prop where
  ok : X.Ok
  os : s.os = X.s₀.os
  bare : AllBare s.gens
  base : Un X.fs X.ex X.H₀ H X.s₀.heap s.heap
  loc : ∃ m, s.heap.Ns X.env.locals m ∧ ∀ (i : Nat) (x : Str) (v : V), X.N[i]? = some x → σ[i]? = some (some v) → Vis X.env.scope x → ∃ u, RelV v u ∧ Look X.env s.heap m x u
  cell : ∀ x c, X.env.cells.lookup x = some c → ∃ v, s.heap.IsCell c v
  free : H X.env.locals = none
  freeC : ∀ x c, X.env.cells.lookup x = some c → H c = none
  pin : ∀ p ∈ X.pn ++ pins, s.heap.get? p.1 = some p.2 ∧ H p.1 = none ∧ p.1 ≠ X.env.locals ∧ p.1 ∉ X.fs ∧ ∀ v, p.2.data ≠ .cell v
  hok : HOk X.prog X.w H s.heap
  len : σ.length = X.N.length
section
variable {X : Cx} {pins : List (Addr × Obj)} {σ : List (Option V)} {H H' : Hp} {s : Shared} {h' : Heap}
theorem Cx.Ok.nofr (ok : X.Ok) {b : Addr} {o : Obj} (e : X.base.get? b = some o) : b ∉ X.fs := fun hb => by
  have := (ok.funs.mem hb).1
  rw [e] at this; cases this
theorem Inv.bs (I : Inv X pins σ H s) : ∀ b o, X.base.get? b = some o → s.heap.get? b = some o ∧ H b = none := fun b o e =>
  ⟨I.base.keep b o (I.ok.bs b o e).1 (I.ok.bs b o e).2 (I.ok.nofr e) (I.ok.noex b o e), I.base.free b o (I.ok.bs b o e).1 (I.ok.bs b o e).2 (I.ok.noex b o e)⟩
theorem Inv.bk (I : Inv X pins σ H s) : ∀ b o, X.base.get? b = some o → s.heap.get? b = some o := fun b o e => (I.bs b o e).1
theorem Inv.mod (I : Inv X pins σ H s) : Mod X.K X.mg X.base := I.ok.mod
theorem Inv.kIn (I : Inv X pins σ H s) : X.K.In s.heap := I.ok.mod.kin.keeps I.bk
theorem Inv.nolimit (I : Inv X pins σ H s) : s.heap.NoLimit := I.ok.mod.nolimit.keeps I.bk
theorem Inv.fr (I : Inv X pins σ H s) : ∃ m, Fr X.base X.env.locals s.heap m :=
  let ⟨m, hn, _⟩ := I.loc
  ⟨m, hn, I.bk, Nat.le_trans I.ok.bsz I.ok.above⟩
theorem Inv.lt (I : Inv X pins σ H s) : X.env.locals < s.heap.objs.size := let ⟨_, hn, _⟩ := I.loc; hn.lt
theorem Inv.sz (I : Inv X pins σ H s) : X.s₀.heap.objs.size ≤ s.heap.objs.size := Nat.le_trans I.ok.above (Nat.le_of_lt I.lt)
theorem Inv.nofs (I : Inv X pins σ H s) {a : Addr} (h : s.heap.objs.size ≤ a) : a ∉ X.fs := fun hb => by
  obtain ⟨_, o, ho, _⟩ := I.ok.funs.mem hb
  exact absurd (Nat.lt_of_lt_of_le (Heap.lt_size ho) (Nat.le_trans I.sz h)) (Nat.lt_irrefl _)
theorem Inv.cne (I : Inv X pins σ H s) : ∀ x c, X.env.cells.lookup x = some c → c ≠ X.env.locals := fun x c e z => by
  obtain ⟨v, o, ho, hd⟩ := I.cell x c e
  obtain ⟨m, ⟨o', es, ep, ho', hd', _⟩, _⟩ := I.loc
  rw [z, ho'] at ho; cases ho; rw [hd'] at hd; cases hd
theorem Inv.funs (I : Inv X pins σ H s) : s.heap.FunFrames X.base X.outer := by
  have all : ∀ (l : List Env), (∀ b ∈ frs l, b ∈ X.fs) → X.s₀.heap.FunFrames X.base l → s.heap.FunFrames X.base l := by
    intro l
    induction l with
    | nil => intro _ _; trivial
    | cons env r ih =>
      intro hs hl
      obtain ⟨hk, ⟨L, o, hf, hn, ho, hd⟩, hr⟩ := hl
      have hL : L ∈ X.fs := hs L (by unfold frs; rw [List.filterMap_cons, hf]; exact List.mem_cons_self)
      obtain ⟨sl, e⟩ := I.base.slot L o ho (I.ok.frf L hL) hL fun z => I.ok.exfs L z hL
      exact ⟨hk, ⟨L, _, hf, hn, e, hd⟩, ih (fun b hb => hs b (by unfold frs; rw [List.filterMap_cons, hf]; exact List.mem_cons_of_mem _ hb)) hr⟩
  exact all X.outer (fun _ hb => hb) I.ok.funs
theorem Inv.stack (I : Inv X pins σ H s) : s.heap.FunFrames X.base X.stack := by
  rcases I.ok.stk with e | ⟨e, hf⟩
  · rw [e]; exact I.funs
  · rw [e]
    obtain ⟨m, hn, _⟩ := I.loc
    refine .cons (by rw [I.ok.kind]; decide) hf hn ?_ I.funs
    exact Heap.get?_none_of_le (Nat.le_trans I.ok.bsz I.ok.above)
theorem Inv.stkSub (I : Inv X pins σ H s) : ∀ b ∈ frs X.stack, b ∈ X.env.locals :: X.fs := fun b hb => by
  rcases I.ok.stk with e | ⟨e, hf⟩
  · rw [e] at hb; exact List.mem_cons_of_mem _ hb
  · rw [e] at hb
    unfold frs at hb
    rw [List.filterMap_cons, hf] at hb
    exact hb
theorem Inv.stkFree (I : Inv X pins σ H s) : ∀ b ∈ frs X.stack, H b = none := fun b hb => by
  rcases List.mem_cons.mp (I.stkSub b hb) with e | hb
  · rw [e]; exact I.free
  · obtain ⟨_, o, ho, _⟩ := I.ok.funs.mem hb
    exact I.base.free b o ho (I.ok.frf b hb) fun z => I.ok.exfs b z hb
theorem Inv.step {g' : Array GenState} {t' : Nat} {d' : Drawn} {ch : List Addr} (I : Inv X pins σ H s)
    (hch : ∀ b ∈ ch, (b ∈ X.ex ∨ X.s₀.heap.objs.size ≤ b) ∧ b ≠ X.env.locals ∧ (∀ x c, X.env.cells.lookup x = some c → c ≠ b) ∧ ∀ p ∈ X.pn ++ pins, p.1 ≠ b)
    (keep : ∀ b o, b ≠ X.env.locals → b ∉ X.fs → b ∉ ch → s.heap.get? b = some o → H b = none → h'.get? b = some o)
    (slot : ∀ b o, b ≠ X.env.locals → b ∈ X.fs → b ∉ ch → s.heap.get? b = some o → H b = none → ∃ sl, h'.get? b = some { o with slots := sl }) (free : ∀ b o, b ∉ ch → s.heap.get? b = some o → H b = none → H' b = none)
    (there : ∀ b o, b ∉ ch → s.heap.get? b = some o → ∃ o', h'.get? b = some o')
    (tups : ∀ b xs, H b = some (.tup xs) → H' b = some (.tup xs)) (frzs : ∀ b o u, H b = some (.frz o u) → H' b = some (.frz o u)) (tbls : ∀ b ps, H b = some (.tbl ps) → ∃ more, H' b = some (.tbl (ps ++ more)))
    (ns : ∀ m, s.heap.Ns X.env.locals m → h'.Ns X.env.locals m) (hok : HOk X.prog X.w H' h') (hg : AllBare g') :
    Inv X pins σ H' { s with heap := h', gens := g', drawn := d', toks := t' } := by
  have neL : ∀ b o, X.s₀.heap.get? b = some o → b ≠ X.env.locals := fun b o e => Nat.ne_of_lt (Nat.lt_of_lt_of_le (Heap.lt_size e) I.ok.above)
  have neC : ∀ b o, X.s₀.heap.get? b = some o → b ∉ X.ex → b ∉ ch := fun b o e hx hb => by
    rcases (hch b hb).1 with z | z
    · exact hx z
    · exact absurd (Nat.lt_of_lt_of_le (Heap.lt_size e) z) (Nat.lt_irrefl _)
  have cellK : ∀ x c, X.env.cells.lookup x = some c → ∀ v, s.heap.IsCell c v → h'.IsCell c v := fun x c e v ⟨o, ho, hd⟩ => by
    have nch : c ∉ ch := fun z => (hch c z).2.2.1 x c e rfl
    by_cases hc : c ∈ X.fs
    · obtain ⟨sl, q⟩ := slot c o (I.cne x c e) hc nch ho (I.freeC x c e)
      exact ⟨_, q, hd⟩
    · exact ⟨o, keep c o (I.cne x c e) hc nch ho (I.freeC x c e), hd⟩
  refine ⟨I.ok, I.os, hg, ⟨fun b o e n hb hx => ?_, fun b o e n hb hx => ?_, fun b o e n hx => ?_, fun b o e hx => ?_, fun b xs e => tups b xs (I.base.tups b xs e), fun b o xs e => frzs b o xs (I.base.frzs b o xs e), fun b ps e => ?_⟩, ?_, fun x c e => ?_, ?_, fun x c e => ?_, fun p hp => ?_, hok, I.len⟩
  · exact keep b o (neL b o e) hb (neC b o e hx) (I.base.keep b o e n hb hx) (I.base.free b o e n hx)
  · obtain ⟨sl, e1⟩ := I.base.slot b o e n hb hx
    obtain ⟨sl', e2⟩ := slot b _ (neL b o e) hb (neC b o e hx) e1 (I.base.free b o e n hx)
    exact ⟨sl', e2⟩
  · obtain ⟨o', e1⟩ := I.base.there b o e hx
    exact free b o' (neC b o e hx) e1 (I.base.free b o e n hx)
  · obtain ⟨o', e1⟩ := I.base.there b o e hx
    exact there b o' (neC b o e hx) e1
  · obtain ⟨m1, e1⟩ := I.base.tbls b ps e
    obtain ⟨m2, e2⟩ := tbls b _ e1
    exact ⟨m1 ++ m2, by rw [e2, Array.append_assoc]⟩
  · obtain ⟨m, hn, hl⟩ := I.loc
    refine ⟨m, ns m hn, fun i x v e1 e2 e3 => ?_⟩
    obtain ⟨u, r, l⟩ := hl i x v e1 e2 e3
    refine ⟨u, r, ?_⟩
    rcases l with l | ⟨k, c, e, z⟩
    · exact .inl l
    · exact .inr ⟨k, c, e, cellK x c e _ z⟩
  · obtain ⟨v, z⟩ := I.cell x c e
    exact ⟨v, cellK x c e v z⟩
  · obtain ⟨m, ⟨o, _, _, ho, _⟩, _⟩ := I.loc
    exact free _ o (fun z => (hch _ z).2.1 rfl) ho I.free
  · obtain ⟨v, o, ho, hd⟩ := I.cell x c e
    exact free c o (fun z => (hch c z).2.2.1 x c e rfl) ho (I.freeC x c e)
  · obtain ⟨e, n, ne, nf, d⟩ := I.pin p hp
    have nch : p.1 ∉ ch := fun z => (hch p.1 z).2.2.2 p hp rfl
    exact ⟨keep p.1 p.2 ne nf nch e n, free p.1 p.2 nch e n, ne, nf, d⟩
theorem Inv.un {t' : Nat} (I : Inv X pins σ H s) (u : Un X.fs [] H H' s.heap h') (hok : HOk X.prog X.w H' h') : Inv X pins σ H' { s with heap := h', toks := t' } := by
  obtain ⟨m, ⟨o, es, ep, ho, r⟩, _⟩ := id I.loc
  obtain ⟨sl, hL⟩ := u.any ho I.free (by simp)
  exact I.step (g' := s.gens) (d' := s.drawn) (ch := []) (fun _ z => nomatch z) (fun b o _ hb _ e n => u.keep b o e n hb (by simp)) (fun b o _ hb _ e n => u.slot b o e n hb (by simp)) (fun b o _ e n => u.free b o e n (by simp)) (fun b o _ e => u.there b o e (by simp)) u.tups u.frzs u.tbls (fun m' hm => by
    obtain ⟨o', es', ep', ho', r'⟩ := hm
    rw [ho] at ho'; cases ho'
    exact ⟨_, es', ep', hL, r'⟩) hok I.bare
theorem Inv.call {g' : Array GenState} {t' : Nat} {d' : Drawn} {ch : List Addr} (I : Inv X pins σ H s) (u : Un (frs X.stack) ch H H' s.heap h') (hok : HOk X.prog X.w H' h') (hg : AllBare g')
    (hch : ∀ b ∈ ch, (b ∈ X.ex ∨ X.s₀.heap.objs.size ≤ b) ∧ b ≠ X.env.locals ∧ (∀ x c, X.env.cells.lookup x = some c → c ≠ b) ∧ ∀ p ∈ X.pn ++ pins, p.1 ≠ b) :
    Inv X pins σ H' { s with heap := h', gens := g', drawn := d', toks := t' } := by
  obtain ⟨m, ⟨o, es, ep, ho, r⟩, _⟩ := id I.loc
  obtain ⟨sl, hL⟩ := u.any ho I.free fun z => (hch _ z).2.1 rfl
  exact I.step (ch := ch) hch (fun b o hL hb hc e n => u.keep b o e n (fun z => (List.mem_cons.mp (I.stkSub b z)).elim hL hb) hc) (fun b o _ _ hc e n => u.any e n hc) (fun b o hc e n => u.free b o e n hc) (fun b o hc e => u.there b o e hc) u.tups u.frzs u.tbls (fun m' hm => by
    obtain ⟨o', es', ep', ho', r'⟩ := hm
    rw [ho] at ho'; cases ho'
    exact ⟨_, es', ep', hL, r'⟩) hok hg
theorem Inv.turned {t' : Nat} {it : Addr} (I : Inv X pins σ H s) (k : ∀ b o, b ≠ it → s.heap.get? b = some o → h'.get? b = some o) (hn : H it = none) (hL : it ≠ X.env.locals)
    (h1 : it ∈ X.ex ∨ X.s₀.heap.objs.size ≤ it) (h2 : ∀ x c, X.env.cells.lookup x = some c → c ≠ it) (h3 : ∀ p ∈ X.pn ++ pins, p.1 ≠ it) : Inv X pins σ H { s with heap := h', toks := t' } := by
  have nit : ∀ b u, H b = some u → b ≠ it := fun b u e z => by rw [z, hn] at e; cases e
  refine I.step (g' := s.gens) (d' := s.drawn) (ch := [it]) (fun b hb => ?_) (fun b o _ _ hc e _ => k b o (fun z => hc (by simp [z])) e) (fun b o _ _ hc e _ => ⟨o.slots, k b o (fun z => hc (by simp [z])) e⟩) (fun _ _ _ _ n => n)
    (fun b o hc e => ⟨o, k b o (fun z => hc (by simp [z])) e⟩) (fun _ _ e => e) (fun _ _ _ e => e) (fun b ps e => ⟨#[], by rw [e]; simp⟩) (fun m hm => ?_) (fun b u e => ?_) I.bare
  · have e : b = it := by simpa using hb
    subst e
    exact ⟨h1, hL, h2, h3⟩
  · obtain ⟨o, es, ep, ho, r⟩ := hm
    exact ⟨o, es, ep, k _ o (Ne.symm hL) ho, r⟩
  · refine (I.hok b u e).stay (fun c v hc q => k c v ?_ q) (fun _ q => q) fun _ _ q => q
    rcases hc with z | z
    · rw [z]; exact nit b u e
    · exact nit c _ z
theorem Inv.tok (I : Inv X pins σ H s) (t : Nat) : Inv X pins σ H { s with toks := t } := I.un (h' := s.heap) (t' := t) Un.refl I.hok
theorem Inv.kept {t' : Nat} (I : Inv X pins σ H s) (k : ∀ b u, s.heap.get? b = some u → h'.get? b = some u) : Inv X pins σ H { s with heap := h', toks := t' } := I.un (Un.kept k) (I.hok.kept k)
theorem Inv.laid {a : Addr} {o : HO} {t' : Nat} (I : Inv X pins σ H s) (k : ∀ b u, s.heap.get? b = some u → h'.get? b = some u) (hp : s.heap.objs.size ≤ a) (new : ObjOk X.prog X.w (upd H a o) h' a o) :
    Inv X pins σ (upd H a o) { s with heap := h', toks := t' } := I.un (Un.laid k hp (I.hok.fresh hp)) (I.hok.laid k hp new)
theorem Inv.write {x e : Addr} {o : HO} {t' : Nat} (I : Inv X pins σ H s) (mu : Mut (H x)) (he : e = x ∨ H e = some (.own x)) (k : ∀ b u, b ≠ e → s.heap.get? b = some u → h'.get? b = some u) (heo : ∃ u, h'.get? e = some u)
    (new : ObjOk X.prog X.w (upd H x o) h' x o) : Inv X pins σ (upd H x o) { s with heap := h', toks := t' } := I.un (Un.write mu he k heo) (I.hok.write mu he k heo new)
theorem Inv.weak {σ' : List (Option V)} (I : Inv X pins σ H s) (hl : σ'.length = σ.length) (w : ∀ (i : Nat) v, σ'[i]? = some (some v) → σ[i]? = some (some v)) : Inv X pins σ' H s :=
  ⟨I.ok, I.os, I.bare, I.base, let ⟨m, hn, hl'⟩ := I.loc; ⟨m, hn, fun i x v e1 e2 e3 => hl' i x v e1 (w i v e2) e3⟩, I.cell, I.free, I.freeC, I.pin, I.hok, hl.trans I.len⟩
theorem Inv.pins_of {pins' : List (Addr × Obj)} (I : Inv X pins σ H s) (h : ∀ p ∈ pins', s.heap.get? p.1 = some p.2 ∧ H p.1 = none ∧ p.1 ≠ X.env.locals ∧ p.1 ∉ X.fs ∧ ∀ v, p.2.data ≠ .cell v) : Inv X pins' σ H s :=
  ⟨I.ok, I.os, I.bare, I.base, I.loc, I.cell, I.free, I.freeC, fun p hp => (List.mem_append.mp hp).elim (fun z => I.pin p (List.mem_append_left _ z)) (h p), I.hok, I.len⟩
theorem Az9E {N : List Str} (hN : N.Nodup) {i j : Nat} {x : Str} (a : N[i]? = some x) (b : N[j]? = some x) : i = j := by
  obtain ⟨h1, e1⟩ := List.getElem?_eq_some_iff.mp a
  obtain ⟨h2, e2⟩ := List.getElem?_eq_some_iff.mp b
  exact (List.getElem_inj hN).mp (e1.trans e2.symm)
theorem Bz4Y {M : Model} {A : Around} {E : Value → Shared → Prop} {i : Nat} {x : Str} {v : V} {u : Value} {Q : Unit → Shared → Prop} (I : Inv X pins σ H s) (hN : X.N.Nodup) (hi : X.N[i]? = some x) (hx : Loc X.env.scope x) (r : RelV v u)
    (h : ∀ s', Inv X pins (σ.set i (some v)) H s' → (∃ a, Heap.SameBut a s.heap s'.heap ∧ (a = X.env.locals ∨ X.env.cells.lookup x = some a)) → Q () s') (hf : autoParam (X.fn x = true ∨ X.env.scope.names.lookup x = some .local) slim5._auto_1) : wpAny M A (storeName X.env x u) Q E s := by
  obtain ⟨m, hn, hl⟩ := id I.loc
  have hcls : (X.env.scope.kind == .class || (X.env.scope.kind == .module && X.env.locals != X.env.globals)) = false := by rw [I.ok.kind]; rfl
  have hiσ : i < σ.length := by rw [I.len]; exact (List.getElem?_eq_some_iff.mp hi).1
  have cne := I.cne
  have tracked : ∀ {a : Addr} {h' : Heap}, (∃ o, s.heap.get? a = some o ∧ H a = none) → Heap.SameBut a s.heap h' → HOk X.prog X.w H h' := fun {a h'} ha hs b ob e => by
    obtain ⟨_, _, hfree⟩ := ha
    refine (I.hok b ob e).stay (fun c w' hc q => (hs.2 c ?_).trans q) (fun _ q => q) fun _ _ q => q
    rintro rfl
    rcases hc with rfl | hc
    · rw [hfree] at e; cases e
    · rw [hfree] at hc; cases hc
  rcases hx with hk | hk
  · refine wpAny_storeName_local hk hn (fun h' hn' hs => ?_) hcls
    obtain ⟨oL, _, _, hoL, _⟩ := id hn
    refine h _ ⟨I.ok, I.os, I.bare, ⟨fun b o e n hb hx => ?_, fun b o e n hb hx => ?_, I.base.free, fun b o e hx => ?_, I.base.tups, I.base.frzs, I.base.tbls⟩, ⟨_, hn', fun j y v' e1 e2 e3 => ?_⟩, fun y c e => ?_, I.free, I.freeC, fun p hp => ?_, tracked ⟨oL, hoL, I.free⟩ hs, by simpa using I.len⟩ ⟨_, hs, .inl rfl⟩
    · exact (hs.2 b (Nat.ne_of_lt (Nat.lt_of_lt_of_le (Heap.lt_size e) I.ok.above))).trans (I.base.keep b o e n hb hx)
    · obtain ⟨sl, e1⟩ := I.base.slot b o e n hb hx
      exact ⟨sl, (hs.2 b (Nat.ne_of_lt (Nat.lt_of_lt_of_le (Heap.lt_size e) I.ok.above))).trans e1⟩
    · obtain ⟨o', e1⟩ := I.base.there b o e hx
      exact ⟨o', (hs.2 b (Nat.ne_of_lt (Nat.lt_of_lt_of_le (Heap.lt_size e) I.ok.above))).trans e1⟩
    · by_cases hj : j = i
      · subst hj
        rw [hi] at e1; cases e1
        rw [List.getElem?_set_self hiσ] at e2
        cases e2
        exact ⟨u, r, .inl ⟨hk, by simp⟩⟩
      · rw [List.getElem?_set_ne (Ne.symm hj)] at e2
        obtain ⟨u', r', q⟩ := hl j y v' e1 e2 e3
        refine ⟨u', r', ?_⟩
        rcases q with ⟨k, e⟩ | ⟨k, c, e, z⟩
        · refine .inl ⟨k, ?_⟩
          have : y ≠ x := fun e => hj (Az9E hN e1 (e ▸ hi))
          simp [this, e]
        · exact .inr ⟨k, c, e, z.sameBut hs (cne y c e)⟩
    · obtain ⟨w', z⟩ := I.cell y c e
      exact ⟨w', z.sameBut hs (cne y c e)⟩
    · obtain ⟨e, n, ne, nf, d⟩ := I.pin p hp
      exact ⟨(hs.2 p.1 ne).trans e, n, ne, nf, d⟩
  · have hfn : X.fn x = true := by
      rcases hf with z | z
      · exact z
      · rw [z] at hk; cases hk
    obtain ⟨c, hc⟩ := I.ok.has x (.inl hk)
    obtain ⟨w', z⟩ := I.cell x c hc
    refine wpAny_storeName_cell I.ok.kind hk hc z (fun h' hc' hs => ?_)
    obtain ⟨oc, hoc, hocd⟩ := id z
    refine h { s with heap := h' } ⟨I.ok, I.os, I.bare, ⟨fun b o e n hb hx => ?_, fun b o e n hb hx => ?_, I.base.free, fun b o e hx => ?_, I.base.tups, I.base.frzs, I.base.tbls⟩, ⟨m, hn.sameBut hs (Ne.symm (cne x c hc)), fun j y v' e1 e2 e3 => ?_⟩, fun y c' e => ?_, I.free, I.freeC, fun p hp => ?_, tracked ⟨oc, hoc, I.freeC x c hc⟩ hs, by simpa using I.len⟩ ⟨c, hs, .inr hc⟩
    · exact (hs.2 b (Nat.ne_of_lt (Nat.lt_of_lt_of_le (Heap.lt_size e) (I.ok.cab x c hfn hc)))).trans (I.base.keep b o e n hb hx)
    · obtain ⟨sl, e1⟩ := I.base.slot b o e n hb hx
      exact ⟨sl, (hs.2 b (Nat.ne_of_lt (Nat.lt_of_lt_of_le (Heap.lt_size e) (I.ok.cab x c hfn hc)))).trans e1⟩
    · obtain ⟨o', e1⟩ := I.base.there b o e hx
      exact ⟨o', (hs.2 b (Nat.ne_of_lt (Nat.lt_of_lt_of_le (Heap.lt_size e) (I.ok.cab x c hfn hc)))).trans e1⟩
    · by_cases hj : j = i
      · subst hj
        rw [hi] at e1; cases e1
        rw [List.getElem?_set_self hiσ] at e2
        cases e2
        exact ⟨u, r, .inr ⟨.inl hk, c, hc, hc'⟩⟩
      · rw [List.getElem?_set_ne (Ne.symm hj)] at e2
        obtain ⟨u', r', q⟩ := hl j y v' e1 e2 e3
        refine ⟨u', r', ?_⟩
        rcases q with q | ⟨k, c', e, z'⟩
        · exact .inl q
        · refine .inr ⟨k, c', e, z'.sameBut hs ?_⟩
          rintro rfl
          exact hj (Az9E hN e1 (I.ok.inj _ _ _ e hc ▸ hi))
    · by_cases hcc : c' = c
      · subst hcc; exact ⟨_, hc'⟩
      · obtain ⟨w2, z2⟩ := I.cell y c' e
        exact ⟨w2, z2.sameBut hs hcc⟩
    · obtain ⟨e, n, ne, nf, d⟩ := I.pin p hp
      refine ⟨(hs.2 p.1 ?_).trans e, n, ne, nf, d⟩
      intro q
      rw [q, hoc] at e
      have q' : oc = p.2 := Option.some.inj e
      exact d w' (by rw [← q']; exact hocd)
theorem Az6W {M : Model} {A : Around} {E : Value → Shared → Prop} {i : Nat} {x : Str} {v : V} {u : Value} {Q : Unit → Shared → Prop} (I : Inv X pins σ H s) (hN : X.N.Nodup) (hi : X.N[i]? = some x) (hx : Loc X.env.scope x) (r : RelV v u)
    (h : ∀ s', Inv X pins (σ.set i (some v)) H s' → Q () s') (hf : autoParam (X.fn x = true ∨ X.env.scope.names.lookup x = some .local) slim5._auto_1) : wpAny M A (storeName X.env x u) Q E s :=
  Bz4Y I hN hi hx r (fun s' I' _ => h s' I') hf
theorem Inv.call' {s' : Shared} {ch : List Addr} (I : Inv X pins σ H s) (ho : s'.os = s.os) (u : Un (frs X.stack) ch H H' s.heap s'.heap) (hok : HOk X.prog X.w H' s'.heap) (hg : AllBare s'.gens)
    (hch : ∀ b ∈ ch, (b ∈ X.ex ∨ X.s₀.heap.objs.size ≤ b) ∧ b ≠ X.env.locals ∧ (∀ x c, X.env.cells.lookup x = some c → c ≠ b) ∧ ∀ p ∈ X.pn ++ pins, p.1 ≠ b) : Inv X pins σ H' s' := by
  obtain ⟨h', g', d', t', o'⟩ := s'
  have e : o' = s.os := ho
  subst e
  exact I.call (g' := g') (t' := t') (d' := d') u hok hg hch
end
noncomputable abbrev XK := Value → Option Addr → Hp → Prop
noncomputable abbrev St := List (Option V)
noncomputable abbrev VK := V → Hp → Prop
noncomputable abbrev TE := St → Hp → VK → Prop
noncomputable abbrev TT := St → Hp → (Bool → Hp → Prop) → Prop
noncomputable abbrev TA := St → Hp → (List V → Hp → Prop) → Prop
structure Ends where
  nx : St → Hp → Prop
  rt : VK
  bk : St → Hp → Prop := fun _ _ => False
  ct : St → Hp → Prop := fun _ _ => False
noncomputable abbrev TS := Ends → St → Hp → Prop
noncomputable def EP (X : Cx) (pins : List (Addr × Obj)) (σ : St) (Q : VK) (u : Value) (s' : Shared) : Prop := ∃ v H', Inv X pins σ H' s' ∧ RelV v u ∧ Q v H'
noncomputable def TP (X : Cx) (pins : List (Addr × Obj)) (σ : St) (Q : Bool → Hp → Prop) (b : Bool) (s' : Shared) : Prop := ∃ H', Inv X pins σ H' s' ∧ Q b H'
noncomputable def AP (X : Cx) (pins : List (Addr × Obj)) (σ : St) (Q : List V → Hp → Prop) (us : List Value) (s' : Shared) : Prop := ∃ vs H', Inv X pins σ H' s' ∧ Vals vs us ∧ Q vs H'
noncomputable def SP (X : Cx) (pins : List (Addr × Obj)) (D : Ends) (f : Flow) (s' : Shared) : Prop :=
  match f with
  | .next => ∃ σ' H', Inv X pins σ' H' s' ∧ D.nx σ' H'
  | .brk => ∃ σ' H', Inv X pins σ' H' s' ∧ D.bk σ' H'
  | .cont => ∃ σ' H', Inv X pins σ' H' s' ∧ D.ct σ' H'
  | .ret u => ∃ v σ' H', Inv X pins σ' H' s' ∧ RelV v u ∧ D.rt v H'
noncomputable def PE (X : Cx) (e : Expr) (t : TE) : Prop :=
  ∀ (pins : List (Addr × Obj)) (s : Shared) (σ : St) (H : Hp) (Q : VK), Inv X pins σ H s → t σ H Q → wpAny (model X.prog X.w) X.A (eval e X.env) (EP X pins σ Q) X.xe s
noncomputable def PT (X : Cx) (e : Expr) (t : TT) : Prop :=
  ∀ (pins : List (Addr × Obj)) (s : Shared) (σ : St) (H : Hp) (Q : Bool → Hp → Prop), Inv X pins σ H s → t σ H Q → wpAny (model X.prog X.w) X.A (isTrue e X.env (eval e X.env)) (TP X pins σ Q) X.xe s
noncomputable def PW (X : Cx) (e : Expr) (t : TT) : Prop :=
  ∀ (whole : Sem Value) (pins : List (Addr × Obj)) (s : Shared) (σ : St) (H : Hp) (Q : Bool → Hp → Prop), Inv X pins σ H s → t σ H Q → wpAny (model X.prog X.w) X.A (isTrue e X.env whole) (TP X pins σ Q) X.xe s
theorem PW.pt {X : Cx} {e : Expr} {t : TT} (h : PW X e t) : PT X e t := h _
noncomputable def PA (X : Cx) (es : List Expr) (t : TA) : Prop :=
  ∀ (pos : Pos) (pins : List (Addr × Obj)) (s : Shared) (σ : St) (H : Hp) (Q : List V → Hp → Prop), Inv X pins σ H s → t σ H Q → wpAny (model X.prog X.w) X.A (spliced (backTo pos (starEach es X.env))) (AP X pins σ Q) X.xe s
noncomputable def PS (X : Cx) (st : Stmt) (t : TS) : Prop :=
  ∀ (pins : List (Addr × Obj)) (s : Shared) (σ : St) (H : Hp) (D : Ends), Inv X pins σ H s → t D σ H → wpAny (model X.prog X.w) X.A (exec st X.env) (SP X pins D) X.xe s
noncomputable def PSs (X : Cx) (st : List Stmt) (t : TS) : Prop :=
  ∀ (pins : List (Addr × Obj)) (s : Shared) (σ : St) (H : Hp) (D : Ends), Inv X pins σ H s → t D σ H → wpAny (model X.prog X.w) X.A (execs st X.env) (SP X pins D) X.xe s
theorem thn {α : Type} {t : Sem α} {Q Q' : α → Shared → Prop} {M : Model} {A : Around} {E : Value → Shared → Prop} {s : Shared} (h : wpAny M A t Q E s) (hQ : ∀ a s, Q a s → Q' a s) : wpAny M A t Q' E s := wpAny_mono h hQ fun _ _ x => x
end L2
namespace L2
open PySem PySem.Spec PyProof.Rows
section
variable {X : Cx}
noncomputable def tVar (i : Nat) : TE := fun σ H Q => ∃ v, σ[i]? = some (some v) ∧ Q v H
noncomputable def tC (v : V) : TE := fun _ H Q => Q v H
theorem pe_var {i : Nat} {x : Str} {pos : Pos} (hN : X.N[i]? = some x) (hv : Vis X.env.scope x) (hd : autoParam ((x == ("__debug__" : Str)) = false) slim1._auto_1) (hcd : autoParam ((x == ("__classdict__" : Str)) = false) slim1._auto_1) : PE X (.Name x pos) (tVar i) := by
  intro pins s σ H Q I h
  obtain ⟨v, e, h⟩ := h
  obtain ⟨m, hn, hl⟩ := I.loc
  obtain ⟨u, r, l⟩ := hl i x v hN e hv
  have fin : EP X pins σ Q u s := ⟨v, H, I, r, h⟩
  rcases l with ⟨hk, hm⟩ | ⟨hk, c, hc, hcell⟩
  · exact wpAny_Name (wpAny_loadName_local I.ok.kind hk hn hm fin) hd
  · rcases hk with hk | hk
    · exact wpAny_Name (wpAny_loadName_cell I.ok.kind hk hc hcell fin) hd
    · exact wpAny_Name (wpAny_loadName_free I.ok.kind hk hc hcell fin hcd) hd
theorem pe_int {i j pos} : PE X (.Constant (.int i) j pos) (tC (.int i)) := fun _ _ _ H _ I h => wpAny_Constant_int ⟨.int i, H, I.tok _, ⟨_, rfl⟩, h⟩
theorem pe_bl {b j pos} : PE X (.Constant (.bool b) j pos) (tC (.bl b)) := fun _ _ _ H _ I h => Constant_bool ⟨.bl b, H, I, rfl, h⟩
theorem pe_non {j pos} : PE X (.Constant .none j pos) (tC .non) := fun _ _ _ H _ I h => Constant_none ⟨.non, H, I, rfl, h⟩
theorem pe_str {x j pos} : PE X (.Constant (.str x) j pos) (tC (.str x)) := fun _ _ _ H _ I h => Calls.Constant_str ⟨.str x, H, I.tok _, ⟨_, rfl⟩, h⟩
noncomputable def Gl (X : Cx) (x : Str) : Prop := X.env.kindOf x = some .globalImplicit
theorem Az9Y {E : Value → Shared → Prop} {pins : List (Addr × Obj)} {s : Shared} {σ : St} {H : Hp} {x : Str} {u : Value} {pos : Pos} {Q : Value → Shared → Prop} (I : Inv X pins σ H s) (hg : Gl X x) (hm : X.mg x = some u) (h : Q u s)
    (hd : autoParam ((x == ("__debug__" : Str)) = false) slim1._auto_1) : wpAny (model X.prog X.w) X.A (eval (.Name x pos) X.env) Q E s :=
  Calls.Name_function_global I.ok.kind hg (Calls.loadGlobal_global (by rw [I.ok.glob]; exact I.mod.glob.keeps I.bk) hm h) hd
theorem ld_blt {E : Value → Shared → Prop} {pins : List (Addr × Obj)} {s : Shared} {σ : St} {H : Hp} {x : Str} {u : Value} {pos : Pos} {Q : Value → Shared → Prop} (I : Inv X pins σ H s) (hg : Gl X x) (hm : X.mg x = none) (hv : bootBuiltins x = some u) (h : Q u s)
    (hn : autoParam (x ≠ "__name__") slim1._auto_1) (hd : autoParam ((x == ("__debug__" : Str)) = false) slim1._auto_1) : wpAny (model X.prog X.w) X.A (eval (.Name x pos) X.env) Q E s := by
  obtain ⟨mb, h1, h2⟩ := I.mod.blt
  exact Calls.Name_function_global I.ok.kind hg (Calls.loadGlobal_builtin (by rw [I.ok.glob]; exact I.mod.glob.keeps I.bk) hm (by rw [I.ok.blt]; exact h1.keeps I.bk) ((h2 x hn).trans hv) h) hd
variable {a b : Expr} {ta tb : TE} {pos : Pos}
noncomputable def PC (X : Cx) (op : CmpOp) (a b : Expr) (t : TE) : Prop :=
  ∀ (pins : List (Addr × Obj)) (s : Shared) (σ : St) (H : Hp) (Q : VK), Inv X pins σ H s → t σ H Q →
    wpAny (model X.prog X.w) X.A (eval a X.env) (fun v s₁ => wpAny (model X.prog X.w) X.A (eval b X.env) (fun u s₂ => wpAny (model X.prog X.w) X.A (compareOp op v u) (EP X pins σ Q) X.xe s₂) X.xe s₁) X.xe s
theorem Bz2X (b : Expr) {op : CmpOp} (h : op ≠ .In) (h2 : op ≠ .NotIn) : behindInMarks op b = false := by
  have e1 : (op == CmpOp.In) = false := by cases op <;> first | rfl | exact absurd rfl h
  have e2 : (op == CmpOp.NotIn) = false := by cases op <;> first | rfl | exact absurd rfl h2
  cases b <;> simp [behindInMarks, e1, e2]
noncomputable def tIsN (ta : TE) : TE := fun σ H Q => ta σ H fun x H1 => Q (.bl (decide (x = .non))) H1
noncomputable def tNotN (ta : TE) : TE := fun σ H Q => ta σ H fun x H1 => Q (.bl (!decide (x = .non))) H1
theorem RelV.none_iff {x : V} {v : Value} (r : RelV x v) : (v == Value.none) = decide (x = .non) := by
  cases x with
  | non => cases r; rfl
  | bl _ => cases r; rfl
  | int _ => obtain ⟨t, rfl⟩ := r; rfl
  | str _ => obtain ⟨t, rfl⟩ := r; rfl
  | byt _ => obtain ⟨t, rfl⟩ := r; rfl
  | flt _ => obtain ⟨t, rfl⟩ := r; rfl
  | ref _ => cases r; rfl
  | ty _ => cases r; rfl
theorem pc_isN {j pos'} (ha : PE X a ta) : PC X .Is a (.Constant .none j pos') (tIsN ta) := by
  intro pins s σ H Q I h
  refine thn (ha pins s σ H _ I h) fun v s1 ⟨x, H1, I1, r1, q1⟩ => ?_
  exact Constant_none (is_none_gen ⟨.bl _, H1, I1, by rw [r1.none_iff]; rfl, q1⟩)
theorem Cz0Y {j pos'} (ha : PE X a ta) : PC X .IsNot a (.Constant .none j pos') (tNotN ta) := by
  intro pins s σ H Q I h
  refine thn (ha pins s σ H _ I h) fun v s1 ⟨x, H1, I1, r1, q1⟩ => ?_
  exact Constant_none (isnot_none_gen ⟨.bl _, H1, I1, by rw [r1.none_iff]; rfl, q1⟩)
noncomputable def tB (t : TE) : TT := fun σ H Q => t σ H fun x H1 => ∃ c, x = .bl c ∧ Q c H1
theorem pe_cmp {op : CmpOp} {t : TE} (h : PC X op a b t) (h1 : behindInMarks op b = false := by first | exact Bz2X _ (by decide) (by decide) | rfl) : PE X (.Compare a [op] [b] pos) t := fun pins s σ H Q I hw => wpAny_Compare1 (h pins s σ H Q I hw) h1
theorem pt_cmp {op : CmpOp} {t : TE} (h : PC X op a b t) (h1 : behindInMarks op b = false := by first | exact Bz2X _ (by decide) (by decide) | rfl) : PT X (.Compare a [op] [b] pos) (tB t) := by
  intro pins s σ H Q I hw
  refine wpAny_isTrue_Compare1 (thn (h pins s σ H _ I hw) fun v s1 h1 => thn h1 fun u s2 h2 => thn h2 fun c s3 ⟨x, H1, I1, r1, q1⟩ => ?_) h1
  obtain ⟨d, rfl, q⟩ := q1
  cases r1
  exact wpAny_truthy_bool ⟨H1, I1, q⟩
theorem pt_val {e : Expr} {t : TE} (h : PE X e t) (he : autoParam (∀ whole, isTrue e X.env whole = (do let v ← whole; standAt e.pos; holding [v] (truthy v))) slim2._auto_1) : PT X e (tB t) := by
  intro pins s σ H Q I hw
  refine isTrue_plain (thn (h pins s σ H _ I hw) fun v s1 ⟨x, H1, I1, r1, q1⟩ => ?_) (he _)
  obtain ⟨d, rfl, q⟩ := q1
  cases r1
  exact wpAny_truthy_bool ⟨H1, I1, q⟩
variable {tA tB' : TT} {rest : List Expr}
noncomputable def tAnd (t u : TT) : TT := fun σ H Q => t σ H fun c H1 => if c = true then u σ H1 Q else Q false H1
noncomputable def tOr (t u : TT) : TT := fun σ H Q => t σ H fun c H1 => if c = true then Q true H1 else u σ H1 Q
noncomputable def tNot (t : TT) : TT := fun σ H Q => t σ H fun c H1 => Q (!c) H1
theorem Cz0J (ha : PT X a tA) : PW X (.BoolOp .And [a] pos) tA := by
  intro wh pins s σ H Q I h
  refine isTrue_and (thn (ha pins s σ H Q I h) fun c s1 e => ?_)
  cases c with
  | true => exact isTrue_and_nil e
  | false => exact e
theorem pw_or1 (ha : PT X a tA) : PW X (.BoolOp .Or [a] pos) tA := by
  intro wh pins s σ H Q I h
  refine isTrue_or (thn (ha pins s σ H Q I h) fun c s1 e => ?_)
  cases c with
  | false => exact isTrue_or_nil e
  | true => exact e
theorem pw_and (ha : PT X a tA) (hb : PW X (.BoolOp .And (b :: rest) pos) tB') : PW X (.BoolOp .And (a :: b :: rest) pos) (tAnd tA tB') := by
  intro wh pins s σ H Q I h
  refine isTrue_and (thn (ha pins s σ H _ I h) fun c s1 ⟨H1, I1, q1⟩ => ?_)
  cases c with
  | true => exact hb wh pins s1 σ H1 Q I1 q1
  | false => exact ⟨H1, I1, q1⟩
theorem pw_or (ha : PT X a tA) (hb : PW X (.BoolOp .Or (b :: rest) pos) tB') : PW X (.BoolOp .Or (a :: b :: rest) pos) (tOr tA tB') := by
  intro wh pins s σ H Q I h
  refine isTrue_or (thn (ha pins s σ H _ I h) fun c s1 ⟨H1, I1, q1⟩ => ?_)
  cases c with
  | true => exact ⟨H1, I1, q1⟩
  | false => exact hb wh pins s1 σ H1 Q I1 q1
theorem pt_not (ha : PT X a tA) : PT X (.UnaryOp .Not a pos) (tNot tA) := by
  intro pins s σ H Q I h
  exact isTrue_not (ha pins s σ H (fun c H1 => Q (!c) H1) I h)
end
end L2
namespace L2
open PySem PySem.Spec PyProof.Rows
noncomputable def SqL (K : PySem.W.Frag) (H : Hp) (a : Addr) (xs : List V) : Prop :=
  Rd H a (.lst xs) ∨
    ∃ (o : Obj) (its : Array Value) (n : Nat), K.lookup a = some o ∧ o.cls = .type "list" ∧ o.dict = none ∧ o.data = .seq its n ∧ its.size ≤ sizeLine ∧ Vals xs its.toList
noncomputable def SqT (K : PySem.W.Frag) (H : Hp) (a : Addr) (xs : List V) : Prop :=
  Rd H a (.tup xs) ∨
    ∃ (o : Obj) (its : Array Value) (n : Nat), K.lookup a = some o ∧ o.cls = .type "tuple" ∧ o.data = .seq its n ∧ its.size ≤ sizeLine ∧ Vals xs its.toList
noncomputable def absV : Value → Option V
  | .none => some .non
  | .bool b => some (.bl b)
  | .int i _ => some (.int i)
  | .str x _ => some (.str x)
  | .bytes b _ => some (.byt b)
  | .float b _ => some (.flt b)
  | .ref a => some (.ref a)
  | .type n => some (.ty n)
  | _ => none
theorem RelV.abs {x : V} {u : Value} (r : RelV x u) : absV u = some x := by
  cases x with
  | non => cases r; rfl
  | bl _ => cases r; rfl
  | int _ => obtain ⟨t, rfl⟩ := r; rfl
  | str _ => obtain ⟨t, rfl⟩ := r; rfl
  | byt _ => obtain ⟨t, rfl⟩ := r; rfl
  | flt _ => obtain ⟨t, rfl⟩ := r; rfl
  | ref _ => cases r; rfl
  | ty _ => cases r; rfl
theorem RelV.inj {x y : V} {u : Value} (r : RelV x u) (q : RelV y u) : x = y := Option.some.inj (r.abs.symm.trans q.abs)
theorem Vals.inj : ∀ {xs ys : List V} {us : List Value}, Vals xs us → Vals ys us → xs = ys
  | _, _, _, .nil, .nil => rfl
  | _, _, _, .cons r t, .cons r' t' => by rw [r.inj r', Vals.inj t t']
section
variable {X : Cx} {pins : List (Addr × Obj)} {σ : St} {H : Hp} {s : Shared} {a : Addr} {xs ys : List V}
theorem SqL.of {K : PySem.W.Frag} (h : H a = some (.lst xs)) : SqL K H a xs := .inl (.inl h)
theorem SqT.of {K : PySem.W.Frag} (h : H a = some (.tup xs)) : SqT K H a xs := .inl (.inl h)
theorem Inv.list (I : Inv X pins σ H s) (h : SqL X.K H a xs) : ∃ its : List Value, Vals xs its ∧ PlainL s.heap a its.toArray ∧ xs.length ≤ sizeLine := by
  rcases h with h | ⟨o, its, n, hk, hc, hd, hs, hz, r⟩
  · obtain ⟨z, its, n, r, e⟩ := h.ok I.hok
    exact ⟨its, r, ⟨_, n, e, rfl, rfl, rfl⟩, z⟩
  · refine ⟨its.toList, r, ⟨o, n, I.kIn a o hk, hc, hd, by simpa using hs⟩, ?_⟩
    have e := r.length
    simp only [Array.length_toList] at e
    omega
theorem Inv.tuple (I : Inv X pins σ H s) (h : SqT X.K H a xs) : ∃ its : List Value, Vals xs its ∧ IsTup s.heap a its.toArray ∧ xs.length ≤ sizeLine := by
  rcases h with h | ⟨o, its, n, hk, hc, hs, hz, r⟩
  · obtain ⟨z, its, r, p⟩ := h.ok I.hok
    exact ⟨its, r, p, z⟩
  · refine ⟨its.toList, r, ⟨o, I.kIn a o hk, hc, n, by simpa using hs⟩, ?_⟩
    have e := r.length
    simp only [Array.length_toList] at e
    omega
theorem Inv.list_inj (I : Inv X pins σ H s) (h : SqL X.K H a xs) (h' : SqL X.K H a ys) : xs = ys := by
  obtain ⟨its, r, ⟨o, n, e, _, _, d⟩, _⟩ := I.list h
  obtain ⟨its', r', ⟨o', n', e', _, _, d'⟩, _⟩ := I.list h'
  rw [e] at e'; cases e'
  rw [d] at d'
  injection d' with d1 _
  have : its = its' := by simpa using congrArg Array.toList d1
  subst this
  exact r.inj r'
theorem Inv.tuple_inj (I : Inv X pins σ H s) (h : SqT X.K H a xs) (h' : SqT X.K H a ys) : xs = ys := by
  obtain ⟨its, r, ⟨o, e, _, n, d⟩, _⟩ := I.tuple h
  obtain ⟨its', r', ⟨o', e', _, n', d'⟩, _⟩ := I.tuple h'
  rw [e] at e'; cases e'
  rw [d] at d'
  injection d' with d1 _
  have : its = its' := by simpa using congrArg Array.toList d1
  subst this
  exact r.inj r'
end
noncomputable abbrev Cx.wish (X : Cx) (E : Value → Shared → Prop) : Cx := { X with xe := E }
noncomputable abbrev Cx.nox (X : Cx) : Cx := X.wish fun _ _ => False
theorem Cx.Ok.wish {X : Cx} (ok : X.Ok) (E : Value → Shared → Prop) : (X.wish E).Ok :=
  ⟨ok.mod, ok.kind, ok.glob, ok.blt, ok.above, ok.inj, ok.has, ok.cab, ok.hd, ok.frames, ok.stk, ok.exf, ok.bs, ok.bsz, ok.noex, ok.exfs, ok.funs, ok.frf⟩
theorem Cx.Ok.unwish {X : Cx} {E : Value → Shared → Prop} (ok : (X.wish E).Ok) : X.Ok :=
  ⟨ok.mod, ok.kind, ok.glob, ok.blt, ok.above, ok.inj, ok.has, ok.cab, ok.hd, ok.frames, ok.stk, ok.exf, ok.bs, ok.bsz, ok.noex, ok.exfs, ok.funs, ok.frf⟩
section
variable {X : Cx} {pins : List (Addr × Obj)} {σ : St} {H : Hp} {s : Shared} {E : Value → Shared → Prop}
theorem Inv.wish (I : Inv X pins σ H s) (E : Value → Shared → Prop) : Inv (X.wish E) pins σ H s := ⟨I.ok.wish E, I.os, I.bare, I.base, I.loc, I.cell, I.free, I.freeC, I.pin, I.hok, I.len⟩
theorem Inv.unwish (I : Inv (X.wish E) pins σ H s) : Inv X pins σ H s := ⟨I.ok.unwish, I.os, I.bare, I.base, I.loc, I.cell, I.free, I.freeC, I.pin, I.hok, I.len⟩
theorem SP.unwish {D : Ends} {f : Flow} {s' : Shared} (h : SP (X.wish E) pins D f s') : SP X pins D f s' := by
  cases f with
  | next => obtain ⟨σ', H', I, q⟩ := h; exact ⟨σ', H', I.unwish, q⟩
  | brk => obtain ⟨σ', H', I, q⟩ := h; exact ⟨σ', H', I.unwish, q⟩
  | cont => obtain ⟨σ', H', I, q⟩ := h; exact ⟨σ', H', I.unwish, q⟩
  | ret u => obtain ⟨v, σ', H', I, r, q⟩ := h; exact ⟨v, σ', H', I.unwish, r, q⟩
theorem PE.nox {e : Expr} {t : TE} (h : PE X.nox e t) : PE X e t := fun pins s σ H Q I hw =>
  wpAny_mono (h pins s σ H Q (I.wish _) hw) (fun _ _ ⟨v, H', I', r, q⟩ => ⟨v, H', I'.unwish, r, q⟩) fun _ _ z => False.elim z
theorem PT.nox {e : Expr} {t : TT} (h : PT X.nox e t) : PT X e t := fun pins s σ H Q I hw =>
  wpAny_mono (h pins s σ H Q (I.wish _) hw) (fun _ _ ⟨H', I', q⟩ => ⟨H', I'.unwish, q⟩) fun _ _ z => False.elim z
theorem PSs.nox {st : List Stmt} {t : TS} (h : PSs X.nox st t) : PSs X st t := fun pins s σ H D I hw =>
  wpAny_mono (h pins s σ H D (I.wish _) hw) (fun _ _ q => q.unwish) fun _ _ z => False.elim z
end
section
variable {X : Cx} {st : Stmt} {rest : List Stmt} {t u : TS} {e : Expr} {te : TE} {pos : Pos}
noncomputable def tNext : TS := fun D σ H => D.nx σ H
noncomputable def tSeq (t u : TS) : TS := fun D σ H => t { D with nx := u D } σ H
theorem Bz6R : PSs X [] tNext := fun _ _ σ H _ I h => wpAny_execs_nil ⟨σ, H, I, h⟩
theorem Bz2P (h1 : PS X st t) (h2 : PSs X rest u) : PSs X (st :: rest) (tSeq t u) := by
  intro pins s σ H D I h
  refine wpAny_execs_cons (thn (h1 pins s σ H { D with nx := u D } I h) fun f s1 q => ?_)
  cases f with
  | next =>
    obtain ⟨σ', H', I', q⟩ := q
    exact h2 pins s1 σ' H' D I' q
  | ret v => exact q
  | brk => exact q
  | cont => exact q
theorem Bz6Q (h1 : PS X st t) : PSs X [st] t := by
  intro pins s σ H D I h
  refine wpAny_execs_cons (thn (h1 pins s σ H D I h) fun f s1 q => ?_)
  cases f with
  | next => exact wpAny_execs_nil q
  | ret v => exact q
  | brk => exact q
  | cont => exact q
theorem Inv.quiet {pins : List (Addr × Obj)} {σ : St} {H : Hp} {s : Shared} (I : Inv X pins σ H s) : interactive X.env = false := by simp [interactive, I.ok.kind]
noncomputable def tDrop (te : TE) : TS := fun D σ H => te σ H fun _ H1 => D.nx σ H1
theorem Bz6S (he : PE X e te) (hs : autoParam (swapsWith e none pos.line X.env = pure false) slim0._auto_1) : PS X (.Expr e pos) (tDrop te) := by
  intro pins s σ H D I h
  exact wpAny_Expr_any (thn (he pins s σ H _ I h) fun v s1 ⟨x, H1, I1, r1, q1⟩ => ⟨σ, H1, I1, q1⟩) I.quiet hs
noncomputable def tRet (te : TE) : TS := fun D σ H => te σ H D.rt
theorem ps_ret (he : PE X e te) : PS X (.Return (some e) pos) (tRet te) := by
  intro pins s σ H D I h
  exact wpAny_Return_some (thn (he pins s σ H _ I h) fun v s1 ⟨x, H1, I1, r1, q1⟩ => ⟨x, σ, H1, I1, r1, q1⟩)
noncomputable def tIfS (c : TT) (t u : TS) : TS := fun D σ H => c σ H fun b H1 => if b = true then t D σ H1 else u D σ H1
theorem ps_if {c : Expr} {a b : List Stmt} {tc : TT} (hc : PT X c tc) (ha : PSs X a t) (hb : PSs X b u) : PS X (.If c a b pos) (tIfS tc t u) := by
  intro pins s σ H D I h
  refine wpAny_If (thn (hc pins s σ H _ I h) fun d s1 ⟨H1, I1, q1⟩ => ?_)
  cases d with
  | true => exact ha pins s1 σ H1 D I1 q1
  | false => exact hb pins s1 σ H1 D I1 q1
noncomputable def tNever : TS := fun _ _ _ => False
theorem Bz7X : PS X st tNever := fun _ _ _ _ _ _ h => h.elim
end
noncomputable abbrev TG := V → St → Hp → (St → Hp → Prop) → Prop
noncomputable abbrev TGs := List V → St → Hp → (St → Hp → Prop) → Prop
noncomputable def PG (X : Cx) (target : Expr) (t : TG) : Prop :=
  ∀ (pins : List (Addr × Obj)) (s : Shared) (σ : St) (H : Hp) (v : V) (u : Value) (Q : St → Hp → Prop), Inv X pins σ H s → RelV v u → t v σ H Q →
    wpAny (model X.prog X.w) X.A (assign target X.env u) (fun _ s' => ∃ σ' H', Inv X pins σ' H' s' ∧ Q σ' H') X.xe s
noncomputable def PGs (X : Cx) (ts : List Expr) (t : TGs) : Prop :=
  ∀ (pins : List (Addr × Obj)) (s : Shared) (σ : St) (H : Hp) (vs : List V) (us : List Value) (Q : St → Hp → Prop), Inv X pins σ H s → Vals vs us → t vs σ H Q →
    wpAny (model X.prog X.w) X.A (assignInOrder ((assignEach ts X.env).map (·.2)) us) (fun _ s' => ∃ σ' H', Inv X pins σ' H' s' ∧ Q σ' H') X.xe s
noncomputable abbrev TSet := V → V → V → Hp → (Hp → Prop) → Prop
noncomputable def PSet (X : Cx) (t : TSet) : Prop :=
  ∀ (pins : List (Addr × Obj)) (s : Shared) (σ : St) (H : Hp) (o i v : V) (ov iv u : Value) (Q : Hp → Prop), Inv X pins σ H s → RelV o ov → RelV i iv → RelV v u → t o i v H Q →
    wpAny (model X.prog X.w) X.A (setItem ov iv u) (fun _ s' => ∃ H', Inv X pins σ H' s' ∧ Q H') X.xe s
section
variable {X : Cx} {pos : Pos}
noncomputable def gName (i : Nat) : TG := fun v σ H Q => Q (σ.set i (some v)) H
theorem Cz0R {i : Nat} {x : Str} (hN : X.N.Nodup) (hi : X.N[i]? = some x) (hx : Loc X.env.scope x) (hf : autoParam (X.fn x = true ∨ X.env.scope.names.lookup x = some .local) slim5._auto_1) : PG X (.Name x pos) (gName i) := by
  intro pins s σ H v u Q I r h
  exact wpAny_assign_Name (Az6W I hN hi hx r (fun s' I' => ⟨_, H, I', h⟩) hf)
noncomputable def gNil : TGs := fun vs σ H Q => vs = [] ∧ Q σ H
noncomputable def gCons (t : TG) (u : TGs) : TGs := fun vs σ H Q => ∃ v r, vs = v :: r ∧ t v σ H fun σ' H' => u r σ' H' Q
theorem Cz0Q : PGs X [] gNil := by
  intro pins s σ H vs us Q I r h
  obtain ⟨e, h⟩ := h
  subst e
  cases r
  exact assignInOrder_nil ⟨σ, H, I, h⟩
theorem Bz7Y {e : Expr} {es : List Expr} {t : TG} {u : TGs} (h1 : PG X e t) (h2 : PGs X es u)
    (hs : autoParam ((assignEach (e :: es) X.env).map (·.2) = assign e X.env :: (assignEach es X.env).map (·.2)) slim0._auto_1) : PGs X (e :: es) (gCons t u) := by
  intro pins s σ H vs us Q I r h
  obtain ⟨v, vr, e1, h⟩ := h
  subst e1
  cases r with
  | cons r rr =>
    rw [hs]
    refine assignInOrder_cons (thn (h1 pins s σ H _ _ _ I r h) fun _ s1 ⟨σ1, H1, I1, q1⟩ => ?_)
    exact h2 pins s1 σ1 H1 _ _ Q I1 rr q1
noncomputable def gTup (K : PySem.W.Frag) (n : Nat) (t : TGs) : TG := fun v σ H Q => ∃ a xs, v = .ref a ∧ SqT K H a xs ∧ xs.length = n ∧ t xs σ H Q
theorem pg_tup {es : List Expr} {k : Nat} {t : TGs} {n : Nat} (hc : X.calm = true) (h : PGs X es t)
    (hn : autoParam ((assignEach es X.env).length = n) slim0._auto_1) (hst : autoParam ((assignEach es X.env).findIdx? (·.1) = none) slim0._auto_1) : PG X (.Tuple es k pos) (gTup X.K n t) := by
  intro pins s σ H v u Q I r hw
  obtain ⟨a, xs, e1, hq, hl, hw⟩ := hw
  subst e1
  cases r
  obtain ⟨its, rv, ht, hz⟩ := I.tuple hq
  refine assign_Tuple_tuple (I.ok.hd hc) ht (by simp [hn, ← hl, rv.length]) hst fun h' hx => ?_
  have I1 : Inv X pins σ H { s with heap := h' } := I.kept (t' := s.toks) fun b o e => hx b o (Nat.ne_of_lt (Heap.lt_size e)) e
  exact h pins _ σ H xs _ Q I1 (by simpa using rv) hw
noncomputable def gSub (to ti : TE) (t : TSet) : TG := fun v σ H Q => to σ H fun o H1 => ti σ H1 fun i H2 => t o i v H2 fun H3 => Q σ H3
theorem pg_sub {o i : Expr} {to ti : TE} {t : TSet} (ho : PE X o to) (hi : PE X i ti) (hs : PSet X t)
    (ha : autoParam (∀ v, assign (.Subscript o i pos) X.env v = (do
      let ov ← holding [v] (eval o X.env)
      let iv ← holding [v, ov] (eval i X.env)
      standAt pos
      holding [v, ov, iv] (setItem ov iv v)
      release [v, ov, iv] [])) slim2._auto_1) : PG X (.Subscript o i pos) (gSub to ti t) := by
  intro pins s σ H v u Q I r h
  rw [ha]
  refine wpAny_bind (wpAny_holding (thn (ho pins s σ H _ I h) fun ov s1 ⟨x, H1, I1, r1, q1⟩ => ?_))
  refine wpAny_bind (wpAny_holding (thn (hi pins s1 σ H1 _ I1 q1) fun iv s2 ⟨y, H2, I2, r2, q2⟩ => ?_))
  refine wpAny_bind (wpAny_standAt (wpAny_bind (wpAny_holding (thn (hs pins s2 σ H2 x y v ov iv u _ I2 r1 r2 r q2) fun _ s3 ⟨H3, I3, q3⟩ => ?_))))
  exact wpAny_release ⟨σ, H3, I3, q3⟩
noncomputable def tAsg (te : TE) (g : TG) : TS := fun D σ H => te σ H fun x H1 => g x σ H1 D.nx
theorem ps_asg {tg e : Expr} {te : TE} {g : TG} (he : PE X e te) (hg : PG X tg g) (hs : autoParam (swapsWithSole [tg] e pos.line X.env = pure false) slim0._auto_1) (hw : autoParam (swappedStores [tg] e X.env = pure none) slim0._auto_1)
    (h1 : autoParam ((assignEach [tg] X.env).map (·.2) = [assign tg X.env]) slim0._auto_1) : PS X (.Assign [tg] e pos) (tAsg te g) := by
  intro pins s σ H D I h
  refine wpAny_Assign_stores (thn (he pins s σ H _ I h) fun v s1 ⟨x, H1, I1, r1, q1⟩ => ?_) hs hw
  rw [h1]
  exact thn (hg pins s1 σ H1 x v _ I1 r1 q1) fun _ s2 q => q
theorem ps_set {i : Nat} {x : Str} {e : Expr} {te : TE} {pos' : Pos} (hN : X.N.Nodup) (hi : X.N[i]? = some x) (hx : Loc X.env.scope x) (he : PE X e te) (hs : autoParam (swapsWith e (some (.Name x pos')) pos.line X.env = pure false) slim0._auto_1) (hf : autoParam (X.fn x = true ∨ X.env.scope.names.lookup x = some .local) slim5._auto_1) :
    PS X (.Assign [.Name x pos'] e pos) (tAsg te (gName i)) := by
  intro pins s σ H D I h
  refine wpAny_Assign_Name (thn (he pins s σ H _ I h) fun v s1 ⟨y, H1, I1, r1, q1⟩ => ?_) hs
  exact Az6W I1 hN hi hx r1 (fun s2 I2 => ⟨_, H1, I2, q1⟩) hf
end
section
variable {X : Cx} {pos : Pos}
noncomputable def tWhile (c : TT) (tb : TS) : TS := fun D σ H => ∃ W : Nat → St → Hp → Prop, (∃ m, W m σ H) ∧ ∀ m σ H, W m σ H →
  c σ H fun b H1 => if b = true then ∃ N : St → Hp → Prop, (∀ σ' H', N σ' H' → ∃ m', m' < m ∧ W m' σ' H') ∧ tb { D with nx := N, ct := N, bk := D.nx } σ H1 else D.nx σ H1
theorem Bz7W {c : Expr} {body : List Stmt} {tc : TT} {tb : TS} (hp : PassesOwn (model X.prog X.w) X.A X.env X.xe) (hc : PT X c tc) (hb : PSs X body tb) : PS X (.While c body [] pos) (tWhile tc tb) := by
  intro pins s σ H D I h
  obtain ⟨W, ⟨m0, w0⟩, turn⟩ := h
  refine wpAny_While (codeAny_whileLoop (fun n s' => ∃ σ' H', Inv X pins σ' H' s' ∧ W n σ' H') ?_ m0 ⟨σ, H, I, w0⟩)
  rintro n s1 ⟨σ1, H1, I1, w1⟩
  refine wpAny_passesOwn hp (thn (hc pins s1 σ1 H1 _ I1 (turn n σ1 H1 w1)) fun b s2 ⟨H2, I2, q2⟩ => ?_)
  cases b with
  | true =>
    obtain ⟨N, hN, q2⟩ := q2
    rw [if_pos rfl]
    refine wpAny_passesOwn hp (thn (hb pins s2 σ1 H2 _ I2 q2) fun f s3 q3 => ?_)
    cases f with
    | next =>
      obtain ⟨σ3, H3, I3, n3⟩ := q3
      obtain ⟨m', hm, w3⟩ := hN σ3 H3 n3
      exact ⟨m', hm, σ3, H3, I3, w3⟩
    | cont =>
      obtain ⟨σ3, H3, I3, n3⟩ := q3
      obtain ⟨m', hm, w3⟩ := hN σ3 H3 n3
      exact ⟨m', hm, σ3, H3, I3, w3⟩
    | brk => exact q3
    | ret v => exact q3
  | false =>
    rw [if_neg Bool.false_ne_true]
    exact wpAny_execs_nil ⟨σ1, H2, I2, q2⟩
end
structure It where
  go : Nat → Hp → Prop
  yld : Nat → Hp → V → Hp → Prop
  stop : Nat → Hp → Prop
noncomputable def FpOk (X : Cx) (pins : List (Addr × Obj)) (H : Hp) (b : Addr) : Prop :=
  H b = none ∧ b ≠ X.env.locals ∧ b ∉ X.fs ∧ (b ∈ X.ex ∨ X.s₀.heap.objs.size ≤ b) ∧ (∀ x c, X.env.cells.lookup x = some c → c ≠ b) ∧ ∀ p ∈ X.pn ++ pins, p.1 ≠ b
theorem Inv.fpOk {X : Cx} {pins : List (Addr × Obj)} {σ : St} {H H' : Hp} {s : Shared} {b : Addr} (I : Inv X pins σ H s) (hb : s.heap.objs.size ≤ b) (hn : H' b = none) : FpOk X pins H' b := by
  refine ⟨hn, Nat.ne_of_gt (Nat.lt_of_lt_of_le I.lt hb), I.nofs hb, .inr (Nat.le_trans I.sz hb), fun x c e z => ?_, fun p hp z => ?_⟩
  · obtain ⟨v, q⟩ := I.cell x c e
    exact absurd (Nat.lt_of_lt_of_le q.lt (by rw [z]; exact hb)) (Nat.lt_irrefl _)
  · exact absurd (Nat.lt_of_lt_of_le (Heap.lt_size (I.pin p hp).1) (by rw [z]; exact hb)) (Nat.lt_irrefl _)
structure Turn (P : Program) (w : World) (K : PySem.W.Frag) (tg : Expr) (J : It) (fp : List Addr) (it : Addr) (tn : Nat → Heap → Prop) : Prop where
  mem : it ∈ fp
  obj : ∀ i h, tn i h → ∀ b ∈ fp, ∃ o, h.get? b = some o ∧ ∀ v, o.data ≠ .cell v
  keep : ∀ i h h', tn i h → (∀ b ∈ fp, ∀ o, h.get? b = some o → h'.get? b = some o) → tn i h'
  item : ∀ (X : Cx), X.prog = P → X.w = w → X.K = K → X.calm = true → ∀ (i : Nat) (pins : List (Addr × Obj)) (s : Shared) (σ : St) (H : Hp) (E : Value → Shared → Prop), Inv X pins σ H s → (∀ b ∈ fp, FpOk X pins H b) → tn i s.heap → J.go i H →
    wpAny (model P w) X.A (pyNext (.ref it)) (fun r s1 => ∃ u, r = some u ∧
      wpAny (model P w) X.A (letOwnedTupleGo tg (.ref it) u) (fun _ s2 => ∃ x H', Inv X pins σ H' s2 ∧ RelV x u ∧ J.yld i H x H' ∧ tn (i + 1) s2.heap ∧ ∀ b ∈ fp, H' b = none) E s1) E s
  done : ∀ (X : Cx), X.prog = P → X.w = w → X.K = K → X.calm = true → ∀ (i : Nat) (pins : List (Addr × Obj)) (s : Shared) (σ : St) (H : Hp) (E : Value → Shared → Prop), Inv X pins σ H s → (∀ b ∈ fp, FpOk X pins H b) → tn i s.heap → J.stop i H →
    wpAny (model P w) X.A (pyNext (.ref it)) (fun r s1 => r = none ∧ Inv X pins σ H s1) E s
  self : ∀ (A : Around) (i : Nat) (s : Shared) (Q : Value → Shared → Prop) (E : Value → Shared → Prop), tn i s.heap → Q (.ref it) s → wpAny (model P w) A (pyIter (.ref it)) Q E s
noncomputable abbrev TI := St → Hp → (It → Hp → Prop) → Prop
noncomputable def PIE (X : Cx) (pins : List (Addr × Obj)) (σ : St) (tg : Expr) (R : It → Hp → Prop) (itv : Value) (s2 : Shared) : Prop :=
  ∃ (it : Addr) (fp : List Addr) (tn : Nat → Heap → Prop) (J : It) (H' : Hp), itv = .ref it ∧ Inv X pins σ H' s2 ∧ Turn X.prog X.w X.K tg J fp it tn ∧ tn 0 s2.heap ∧ (∀ b ∈ fp, FpOk X pins H' b) ∧ R J H'
noncomputable def PI (X : Cx) (tg iter : Expr) (wi : TI) : Prop :=
  ∀ (pins : List (Addr × Obj)) (s : Shared) (σ : St) (H : Hp) (R : It → Hp → Prop), Inv X pins σ H s → wi σ H R →
    wpAny (model X.prog X.w) X.A (eval iter X.env) (fun v s1 => wpAny (model X.prog X.w) X.A (pyIter v) (PIE X pins σ tg R) X.xe s1) X.xe s
theorem go_of {M : Model} {A : Around} {E : Value → Shared → Prop} {s : Shared} {tg : Expr} {it : Addr} {u : Value} {o : Obj} {n : String} {vs : Array Value} {Q : Unit → Shared → Prop} (ho : s.heap.get? it = some o) (hc : o.cls = .type n) (hd : o.data = .fields vs)
    (hn : ["enumerate", "zip", "dict_itemiterator", "dict_reverseitemiterator", "odict_iterator", "itertools.zip_longest", "itertools.pairwise"].contains n = false) (hQ : Q () s) : wpAny M A (letOwnedTupleGo tg (.ref it) u) Q E s := by
  unfold letOwnedTupleGo
  cases tg <;> first
    | exact wpAny_pure hQ
    | (cases u <;> first
        | exact wpAny_pure hQ
        | (refine wpAny_bind (wpAny_load ho ?_)
           rw [hc, hd]
           show wpAny M A (if (["enumerate", "zip", "dict_itemiterator", "dict_reverseitemiterator", "odict_iterator", "itertools.zip_longest", "itertools.pairwise"].contains n && vs[0]? == some (rawInt _)) = true then _ else _) Q E s
           rw [if_neg (by intro h; rw [hn, Bool.false_and] at h; cases h)]
           exact wpAny_pure hQ))
noncomputable def Itl (K : PySem.W.Frag) (a : Addr) : It :=
  ⟨fun i H => ∃ xs x, SqL K H a xs ∧ xs[i]? = some x, fun i H x H' => H' = H ∧ ∀ xs, SqL K H a xs → xs[i]? = some x, fun i H => ∃ xs, SqL K H a xs ∧ xs.length ≤ i⟩
noncomputable def Itt (K : PySem.W.Frag) (a : Addr) : It :=
  ⟨fun i H => ∃ xs x, SqT K H a xs ∧ xs[i]? = some x, fun i H x H' => H' = H ∧ ∀ xs, SqT K H a xs → xs[i]? = some x, fun i H => ∃ xs, SqT K H a xs ∧ xs.length ≤ i⟩
noncomputable def Itr (lo : Int) (n : Nat) : It := ⟨fun i _ => i < n, fun i H x H' => H' = H ∧ x = .int (lo + i), fun i _ => n ≤ i⟩
theorem Bz4W {P : Program} {w : World} {K : PySem.W.Frag} {tg : Expr} (a it : Addr) : Turn P w K tg (Itl K a) [it] it (fun i h => h.IsListIter it a i) where
  mem := by simp
  obj := fun i h st b hb => by
    have e : b = it := by simpa using hb
    subst e
    obtain ⟨o, e, c, d⟩ := st
    exact ⟨o, e, fun v z => by rw [d] at z; cases z⟩
  keep := fun i h h' st k => st.at fun o e => k it (by simp) o e
  item := by
    intro X hP hw hK hc i pins s σ H E I hf st hg
    subst hP hw hK
    obtain ⟨xs, x, hq, hx⟩ := hg
    obtain ⟨its, rv, p, hz⟩ := I.list hq
    obtain ⟨u, hu, ru⟩ := rv.get hx
    obtain ⟨f0, f1, f2, f3, f4, f5⟩ := hf it (by simp)
    refine wpAny_pyNext_list_item st p.isList (x := u) (by simpa using hu) fun h' st' sb => ?_
    have I1 : Inv X pins σ H { s with heap := h' } := I.turned (t' := s.toks) (fun b o hb e => (sb.2 b hb).trans e) f0 f1 f3 f4 f5
    obtain ⟨o, e, c, d⟩ := id st'
    exact ⟨u, rfl, go_of (s := { s with heap := h' }) e c d (by decide) ⟨x, H, I1, ru, ⟨rfl, fun ys hy => by rw [I.list_inj hy hq]; exact hx⟩, st', fun b hb => (hf b hb).1⟩⟩
  done := by
    intro X hP hw hK hc i pins s σ H E I hf st hg
    subst hP hw hK
    obtain ⟨xs, hq, hx⟩ := hg
    obtain ⟨its, rv, p, hz⟩ := I.list hq
    obtain ⟨f0, f1, f2, f3, f4, f5⟩ := hf it (by simp)
    have hl := rv.length
    exact wpAny_pyNext_list_end (I.ok.hd hc) st p.isList (by simp; omega) fun h' eb => ⟨rfl, I.turned (t' := s.toks) (fun b o hb e => eb b o hb e) f0 f1 f3 f4 f5⟩
  self := fun _ _ _ _ _ st h => wpAny_pyIter_listiter st h
theorem Bz2A {P : Program} {w : World} {K : PySem.W.Frag} {tg : Expr} (a it : Addr) : Turn P w K tg (Itt K a) [it] it (fun i h => h.IsTupleIter it a i) where
  mem := by simp
  obj := fun i h st b hb => by
    have e : b = it := by simpa using hb
    subst e
    obtain ⟨o, e, c, d⟩ := st
    exact ⟨o, e, fun v z => by rw [d] at z; cases z⟩
  keep := fun i h h' st k => st.at fun o e => k it (by simp) o e
  item := by
    intro X hP hw hK hc i pins s σ H E I hf st hg
    subst hP hw hK
    obtain ⟨xs, x, hq, hx⟩ := hg
    obtain ⟨its, rv, p, hz⟩ := I.tuple hq
    obtain ⟨u, hu, ru⟩ := rv.get hx
    obtain ⟨f0, f1, f2, f3, f4, f5⟩ := hf it (by simp)
    refine wpAny_pyNext_tuple_item st (show s.heap.IsTuple a its.toArray from p) (x := u) (by simpa using hu) fun h' st' sb => ?_
    have I1 : Inv X pins σ H { s with heap := h' } := I.turned (t' := s.toks) (fun b o hb e => (sb.2 b hb).trans e) f0 f1 f3 f4 f5
    obtain ⟨o, e, c, d⟩ := id st'
    exact ⟨u, rfl, go_of (s := { s with heap := h' }) e c d (by decide) ⟨x, H, I1, ru, ⟨rfl, fun ys hy => by rw [I.tuple_inj hy hq]; exact hx⟩, st', fun b hb => (hf b hb).1⟩⟩
  done := by
    intro X hP hw hK hc i pins s σ H E I hf st hg
    subst hP hw hK
    obtain ⟨xs, hq, hx⟩ := hg
    obtain ⟨its, rv, p, hz⟩ := I.tuple hq
    obtain ⟨f0, f1, f2, f3, f4, f5⟩ := hf it (by simp)
    have hl := rv.length
    exact wpAny_pyNext_tuple_end (I.ok.hd hc) st (show s.heap.IsTuple a its.toArray from p) (by simp; omega) fun h' eb => ⟨rfl, I.turned (t' := s.toks) (fun b o hb e => eb b o hb e) f0 f1 f3 f4 f5⟩
  self := fun _ _ _ _ _ st h => wpAny_pyIter_tupleiter st h
theorem Bz2B {P : Program} {w : World} {K : PySem.W.Frag} {tg : Expr} (it : Addr) (lo : Int) (n : Nat) : Turn P w K tg (Itr lo n) [it] it (fun i h => IsRangeIter h it (lo + (i : Nat) * 1) ((n : Int) - (i : Nat)) 1) where
  mem := by simp
  obj := fun i h st b hb => by
    have e : b = it := by simpa using hb
    subst e
    exact ⟨_, st, fun v z => by
      have z' : Data.fields _ = Data.cell v := z
      cases z'⟩
  keep := fun i h h' st k => k it (by simp) _ st
  item := by
    intro X hP hw hK hc i pins s σ H E I hf st hg
    subst hP hw hK
    obtain ⟨f0, f1, f2, f3, f4, f5⟩ := hf it (by simp)
    have W := Walks.range (prog := X.prog) (w := X.w) (I.ok.hd hc) it lo 1 n
    refine W.item i s _ _ hg st fun v h' tk hv st' kk => ?_
    obtain ⟨t, rfl⟩ := hv
    have I1 : Inv X pins σ H { s with heap := h', toks := tk } := I.turned (fun b o hb e => kk b o (by simpa using hb) e) f0 f1 f3 f4 f5
    refine ⟨_, rfl, go_of (s := { s with heap := h', toks := tk }) (n := "range_iterator") st' rfl rfl (by decide) ⟨.int (lo + i), H, I1, ⟨t, ?_⟩, ⟨rfl, rfl⟩, st', fun b hb => (hf b hb).1⟩⟩
    rw [Int.mul_one]
  done := by
    intro X hP hw hK hc i pins s σ H E I hf st hg
    subst hP hw hK
    obtain ⟨f0, f1, f2, f3, f4, f5⟩ := hf it (by simp)
    exact wpAny_pyNext_range_end (I.ok.hd hc) st (by have : n ≤ i := hg; omega) fun h' eb => ⟨rfl, I.turned (t' := s.toks) (fun b o hb e => eb b o hb e) f0 f1 f3 f4 f5⟩
  self := fun _ _ _ _ _ st h => wpAny_pyIter_rangeiter st h
end L2
namespace L2
open PySem PySem.Spec PyProof.Rows
section
variable {X : Cx} {tg : Expr}
theorem Bz7V {pins : List (Addr × Obj)} {σ : St} {H : Hp} {s : Shared} {R : It → Hp → Prop} {E : Value → Shared → Prop} {lo hi : Int} {t u v : Tok} {tk : Nat} (I : Inv X pins σ H s) (h1 : -(2 ^ 62) ≤ lo) (h2 : lo < 2 ^ 62) (h3 : -(2 ^ 62) ≤ hi) (h4 : hi < 2 ^ 62)
    (q : R (Itr lo (hi - lo).toNat) H) : wpAny (model X.prog X.w) X.A (pyIter (.ref s.heap.objs.size)) (PIE X pins σ tg R) E { s with heap := s.heap.push { cls := .type "range", data := .fields #[.int lo t, .int hi u, .int 1 v] }, toks := tk } := by
  refine wpAny_pyIter_range (IsRange.new ..) (small_one h1 h2 h3 h4) ?_
  have I1 : Inv X pins σ H { s with heap := s.heap.push { cls := .type "range", data := .fields #[.int lo t, .int hi u, .int 1 v] }, toks := tk } := I.kept fun b o e => Heap.get?_push_of_some _ e
  refine ⟨(s.heap.push { cls := .type "range", data := .fields #[.int lo t, .int hi u, .int 1 v] }).objs.size, [(s.heap.push { cls := .type "range", data := .fields #[.int lo t, .int hi u, .int 1 v] }).objs.size], _, _, H, rfl,
    I1.kept (t' := tk) fun b o e => Heap.get?_push_of_some _ e, Bz2B _ lo (hi - lo).toNat, ?_, fun b hb => ?_, q⟩
  · have e1 : lo + ((0 : Nat) : Int) * 1 = lo := by simp
    have e2 : (((hi - lo).toNat : Nat) : Int) - ((0 : Nat) : Int) = Builtin.Range.rangeSize lo hi 1 := by rw [rangeSize_one]; split <;> omega
    show IsRangeIter _ _ (lo + ((0 : Nat) : Int) * 1) ((((hi - lo).toNat : Nat) : Int) - ((0 : Nat) : Int)) 1
    rw [e1, e2]
    exact Heap.get?_push_size _ rfl
  · have e : b = (s.heap.push { cls := .type "range", data := .fields #[.int lo t, .int hi u, .int 1 v] }).objs.size := by simpa using hb
    subst e
    exact I1.fpOk (Nat.le_refl _) (I1.hok.fresh (Nat.le_refl _))
noncomputable def iRng1 (ta : TA) : TI := fun σ H R => ta σ H fun vs H1 => ∃ j : Int, vs = [.int j] ∧ -(2 ^ 62) ≤ j ∧ j < 2 ^ 62 ∧ R (Itr 0 j.toNat) H1
theorem Bz5G {a : Expr} {ta : TA} {p pos : Pos} (hg : Gl X "range") (hm : X.mg "range" = none) (ha : PA X [a] ta) (hs : autoParam (starEach [a] X.env = [(false, eval a X.env)]) slim0._auto_1) : PI X tg (.Call (.Name "range" p) [a] [] pos) (iRng1 ta) := by
  intro pins s σ H R I h
  refine Call_ (ld_blt I hg hm boot_range (PyProof.Rows.callWith_type1 (thn (ha pos pins s σ H _ I h) fun us s1 ⟨vs, H1, I1, r1, q1⟩ => ?_) hs rfl))
  obtain ⟨j, e, q1, q2, q⟩ := q1
  subst e
  cases r1 with
  | cons r rr =>
    cases rr
    obtain ⟨t, rfl⟩ := r
    exact call_range_1 (Bz7V I1 (by omega) (by omega) q1 q2 (by simpa using q))
noncomputable def tFor (wi : TI) (g : TG) (tb : TS) : TS := fun D σ H => wi σ H fun J H1 => ∃ W : Nat → Nat → St → Hp → Prop, (∃ m, W 0 m σ H1) ∧ ∀ i m σ H, W i m σ H →
  (J.stop i H ∧ D.nx σ H) ∨ (J.go i H ∧ ∃ N : St → Hp → Prop, (∀ σ' H', N σ' H' → ∃ m', m' < m ∧ W (i + 1) m' σ' H') ∧ ∀ x H', J.yld i H x H' → g x σ H' fun σ2 H2 => tb { D with nx := N, ct := N, bk := D.nx } σ2 H2)
noncomputable def pinsAt (fp : List Addr) (h : Heap) : List (Addr × Obj) := fp.filterMap fun b => (h.get? b).map fun o => (b, o)
theorem Az4L {fp : List Addr} {h : Heap} {b : Addr} {o : Obj} (hb : b ∈ fp) (e : h.get? b = some o) : (b, o) ∈ pinsAt fp h := List.mem_filterMap.mpr ⟨b, hb, by rw [e]; rfl⟩
theorem Bz5K {fp : List Addr} {h : Heap} {p : Addr × Obj} (hp : p ∈ pinsAt fp h) : p.1 ∈ fp ∧ h.get? p.1 = some p.2 := by
  obtain ⟨b, hb, e⟩ := List.mem_filterMap.mp hp
  cases q : h.get? b with
  | none => rw [q] at e; cases e
  | some o =>
    rw [q] at e
    have e' : (b, o) = p := Option.some.inj e
    subst e'
    exact ⟨hb, q⟩
theorem Inv.pinned {pins : List (Addr × Obj)} {σ : St} {H : Hp} {s : Shared} {fp : List Addr} (I : Inv X pins σ H s) (hf : ∀ b ∈ fp, FpOk X pins H b) (ho : ∀ b ∈ fp, ∃ o, s.heap.get? b = some o ∧ ∀ v, o.data ≠ .cell v) : Inv X (pins ++ pinsAt fp s.heap) σ H s :=
  I.pins_of fun p hp => (List.mem_append.mp hp).elim (fun z => I.pin p (List.mem_append_right _ z)) fun z => by
    obtain ⟨hb, e⟩ := Bz5K z
    obtain ⟨f0, f1, f2, _⟩ := hf p.1 hb
    obtain ⟨o, e', d⟩ := ho p.1 hb
    rw [e] at e'; cases e'
    exact ⟨e, f0, f1, f2, d⟩
theorem Inv.unpinned {pins pl : List (Addr × Obj)} {σ : St} {H : Hp} {s : Shared} (I : Inv X (pins ++ pl) σ H s) : Inv X pins σ H s := I.pins_of fun p hp => I.pin p (List.mem_append_right _ (List.mem_append_left _ hp))
theorem ps_for {iter : Expr} {body : List Stmt} {wi : TI} {g : TG} {tb : TS} {pos : Pos} (hp : PassesOwn (model X.prog X.w) X.A X.env X.xe) (hc : X.calm = true) (hi : PI X tg iter wi) (hg : PG X tg g) (hb : PSs X body tb)
    (hs : autoParam (∀ x, foldedSetIterable iter X.env x = pure x) slim2._auto_1) : PS X (.For tg iter body [] pos) (tFor wi g tb) := by
  intro pins s σ H D I h
  refine wpAny_For (thn (hi pins s σ H _ I h) fun v s1 h1 => thn h1 fun itv s2 h2 => ?_) hs
  obtain ⟨it, fp, tn, J, H2, e, I2, T, st2, f2, W, ⟨m0, w0⟩, turn⟩ := h2
  subst e
  have stat : ∀ {H' : Hp}, (∀ b ∈ fp, H' b = none) → ∀ b ∈ fp, FpOk X pins H' b := fun hn b hb => ⟨hn b hb, (f2 b hb).2⟩
  refine codeAny_forLoop_any (fun n s' => ∃ i σ' H', Inv X pins σ' H' s' ∧ tn i s'.heap ∧ (∀ b ∈ fp, H' b = none) ∧ W i n σ' H') ?_ m0 ⟨0, σ, H2, I2, st2, fun b hb => (f2 b hb).1, w0⟩
  rintro n s3 ⟨i, σ3, H3, I3, st3, fr3, w3⟩
  rcases turn i n σ3 H3 w3 with ⟨stop, qn⟩ | ⟨go, N, hN, step⟩
  · refine wpAny_passesOwn hp (thn (T.done X rfl rfl rfl hc i pins s3 σ3 H3 X.xe I3 (stat fr3) st3 stop) fun r s4 ⟨hr, I4⟩ => ?_)
    subst hr
    exact wpAny_execs_nil ⟨σ3, H3, I4, qn⟩
  · refine wpAny_passesOwn hp (thn (T.item X rfl rfl rfl hc i pins s3 σ3 H3 X.xe I3 (stat fr3) st3 go) fun r s4 ⟨u, hr, h4⟩ => ?_)
    subst hr
    refine wpAny_passesOwn hp (thn h4 fun _ s5 ⟨x, H5, I5, r5, y5, st5, fr5⟩ => ?_)
    have I5' := I5.pinned (stat fr5) (T.obj _ _ st5)
    refine wpAny_passesOwn hp (thn (hg _ s5 σ3 H5 x u _ I5' r5 (step x H5 y5)) fun _ s6 ⟨σ6, H6, I6, q6⟩ => ?_)
    refine wpAny_passesOwn hp (thn (hb _ s6 σ6 H6 _ I6 q6) fun f s7 q7 => ?_)
    have again : ∀ {σ7 : St} {H7 : Hp}, Inv X (pins ++ pinsAt fp s5.heap) σ7 H7 s7 → N σ7 H7 → ∃ m, m < n ∧ ∃ i σ' H', Inv X pins σ' H' s7 ∧ tn i s7.heap ∧ (∀ b ∈ fp, H' b = none) ∧ W i m σ' H' := fun {σ7 H7} I7 n7 => by
      obtain ⟨m', hm, w7⟩ := hN σ7 H7 n7
      refine ⟨m', hm, i + 1, σ7, H7, I7.unpinned, T.keep _ _ _ st5 fun b hb o e => (I7.pin (b, o) (List.mem_append_right _ (List.mem_append_right _ (Az4L hb e)))).1, fun b hb => ?_, w7⟩
      obtain ⟨o, e, d⟩ := T.obj _ _ st5 b hb
      exact (I7.pin (b, o) (List.mem_append_right _ (List.mem_append_right _ (Az4L hb e)))).2.1
    cases f with
    | next => obtain ⟨σ7, H7, I7, n7⟩ := q7; exact again I7 n7
    | cont => obtain ⟨σ7, H7, I7, n7⟩ := q7; exact again I7 n7
    | brk => obtain ⟨σ7, H7, I7, q7⟩ := q7; exact ⟨σ7, H7, I7.unpinned, q7⟩
    | ret v => obtain ⟨x7, σ7, H7, I7, r7, q7⟩ := q7; exact ⟨x7, σ7, H7, I7.unpinned, r7, q7⟩
end
end L2
namespace L2
open PySem PySem.Spec PyProof.Rows
noncomputable abbrev R2 := V → V → Hp → VK → Prop
noncomputable def OpR (X : Cx) (f : Value → Value → Sem Value) (r : R2) : Prop :=
  ∀ (pins : List (Addr × Obj)) (s : Shared) (σ : St) (H : Hp) (x y : V) (v u : Value) (Q : VK), Inv X pins σ H s → RelV x v → RelV y u → r x y H Q →
    wpAny (model X.prog X.w) X.A (f v u) (EP X pins σ Q) X.xe s
noncomputable def UnR (X : Cx) (f : Value → Sem Value) (r : V → Hp → VK → Prop) : Prop :=
  ∀ (pins : List (Addr × Obj)) (s : Shared) (σ : St) (H : Hp) (x : V) (v : Value) (Q : VK), Inv X pins σ H s → RelV x v → r x H Q →
    wpAny (model X.prog X.w) X.A (f v) (EP X pins σ Q) X.xe s
noncomputable def CallR (X : Cx) (f : Value) (r : List V → Hp → VK → Prop) : Prop :=
  ∀ (pins : List (Addr × Obj)) (s : Shared) (σ : St) (H : Hp) (xs : List V) (us : List Value) (Q : VK), Inv X pins σ H s → Vals xs us → r xs H Q →
    wpAny (model X.prog X.w) X.A (call f us) (EP X pins σ Q) X.xe s
noncomputable def tOp (r : R2) (ta tb : TE) : TE := fun σ H Q => ta σ H fun x H1 => tb σ H1 fun y H2 => r x y H2 Q
noncomputable def tUn (r : V → Hp → VK → Prop) (ta : TE) : TE := fun σ H Q => ta σ H fun x H1 => r x H1 Q
noncomputable def rI (C : Int → Int → Prop) (g : Int → Int → V) : R2 := fun x y H Q => ∃ i j, x = .int i ∧ y = .int j ∧ C i j ∧ Q (g i j) H
noncomputable def rI0 (g : Int → Int → V) : R2 := fun x y H Q => ∃ i j, x = .int i ∧ y = .int j ∧ Q (g i j) H
noncomputable def rU (g : Int → V) : V → Hp → VK → Prop := fun x H Q => ∃ i, x = .int i ∧ Q (g i) H
section
variable {X : Cx} {a b c : Expr} {ta tb tc : TE} {pos : Pos}
theorem binT (ha : PE X a ta) (hb : PE X b tb) {pins : List (Addr × Obj)} {s : Shared} {σ : St} {H : Hp} {R : V → V → Hp → Prop} (I : Inv X pins σ H s)
    (h : ta σ H fun x H1 => tb σ H1 fun y H2 => R x y H2) {Q : Value → Shared → Prop} {f : Value → Value → Sem Value}
    (hf : ∀ v u s2 x y H2, Inv X pins σ H2 s2 → RelV x v → RelV y u → R x y H2 → wpAny (model X.prog X.w) X.A (f v u) Q X.xe s2) :
    wpAny (model X.prog X.w) X.A (eval a X.env) (fun v s₁ => wpAny (model X.prog X.w) X.A (eval b X.env) (fun u s₂ => wpAny (model X.prog X.w) X.A (f v u) Q X.xe s₂) X.xe s₁) X.xe s := by
  refine thn (ha pins s σ H _ I h) fun v s1 ⟨x, H1, I1, r1, q1⟩ => ?_
  refine thn (hb pins s1 σ H1 _ I1 q1) fun u s2 ⟨y, H2, I2, r2, q2⟩ => ?_
  exact hf v u s2 x y H2 I2 r1 r2 q2
theorem pe_op {op : Operator} {r : R2} (ho : OpR X (binaryOp op) r) (ha : PE X a ta) (hb : PE X b tb) : PE X (.BinOp a op b pos) (tOp r ta tb) := by
  intro pins s σ H Q I h
  exact wpAny_BinOp (binT ha hb I h fun v u s2 x y H2 I2 rx ry q => ho pins s2 σ H2 x y v u Q I2 rx ry q)
theorem pe_un {op : UnaryOp} {r : V → Hp → VK → Prop} (ho : UnR X (unaryOp op) r) (ha : PE X a ta) : PE X (.UnaryOp op a pos) (tUn r ta) := by
  intro pins s σ H Q I h
  exact UnaryOp_ (thn (ha pins s σ H _ I h) fun v s1 ⟨x, H1, I1, r1, q1⟩ => ho pins s1 σ H1 x v Q I1 r1 q1)
theorem opI {f : Value → Value → Sem Value} {C : Int → Int → Prop} {g : Int → Int → Int}
    (rule : ∀ (i j : Int) (t u : Tok) (s : Shared) (Q : Value → Shared → Prop) (E : Value → Shared → Prop), C i j → Q (.int (g i j) s.toks) { s with toks := s.toks + 1 } → wpAny (model X.prog X.w) X.A (f (.int i t) (.int j u)) Q E s) :
    OpR X f (rI C fun i j => .int (g i j)) := by
  intro pins s σ H x y v u Q I rx ry h
  obtain ⟨i, j, rfl, rfl, hc, q⟩ := h
  obtain ⟨t, rfl⟩ := rx
  obtain ⟨t', rfl⟩ := ry
  exact rule i j t t' s _ _ hc ⟨.int (g i j), H, I.tok _, ⟨_, rfl⟩, q⟩
theorem opI0 {f : Value → Value → Sem Value} {g : Int → Int → Int}
    (rule : ∀ (i j : Int) (t u : Tok) (s : Shared) (Q : Value → Shared → Prop) (E : Value → Shared → Prop), Q (.int (g i j) s.toks) { s with toks := s.toks + 1 } → wpAny (model X.prog X.w) X.A (f (.int i t) (.int j u)) Q E s) :
    OpR X f (rI0 fun i j => .int (g i j)) := by
  intro pins s σ H x y v u Q I rx ry h
  obtain ⟨i, j, rfl, rfl, q⟩ := h
  obtain ⟨t, rfl⟩ := rx
  obtain ⟨t', rfl⟩ := ry
  exact rule i j t t' s _ _ ⟨.int (g i j), H, I.tok _, ⟨_, rfl⟩, q⟩
theorem opB0 {f : Value → Value → Sem Value} {g : Int → Int → Bool}
    (rule : ∀ (i j : Int) (t u : Tok) (s : Shared) (Q : Value → Shared → Prop) (E : Value → Shared → Prop), Q (.bool (g i j)) s → wpAny (model X.prog X.w) X.A (f (.int i t) (.int j u)) Q E s) :
    OpR X f (rI0 fun i j => .bl (g i j)) := by
  intro pins s σ H x y v u Q I rx ry h
  obtain ⟨i, j, rfl, rfl, q⟩ := h
  obtain ⟨t, rfl⟩ := rx
  obtain ⟨t', rfl⟩ := ry
  exact rule i j t t' s _ _ ⟨.bl (g i j), H, I, rfl, q⟩
noncomputable def CDiv (i j : Int) : Prop := 0 < j ∧ j < 1073741824
noncomputable def CPow (i j : Int) : Prop := 0 ≤ j ∧ j ≤ 1000000 ∧ i.natAbs < 2 ^ 64
noncomputable def CMul (i j : Int) : Prop := (-(2 ^ 64) < i ∧ i < 2 ^ 64) ∨ (-(2 ^ 64) < j ∧ j < 2 ^ 64)
theorem CMul.ok {i j : Int} (h : CMul i j) : IntMulOk i j := by
  rcases h with ⟨h1, h2⟩ | ⟨h1, h2⟩
  · exact .of_left (intBits_le_64 h1 h2)
  · exact .of_right (intBits_le_64 h1 h2)
theorem op_add : OpR X (binaryOp .Add) (rI0 fun i j => .int (i + j)) := opI0 fun _ _ _ _ _ _ _ q => add_int q
theorem op_sub : OpR X (binaryOp .Sub) (rI0 fun i j => .int (i - j)) := opI0 fun _ _ _ _ _ _ _ q => sub_int q
theorem op_mul : OpR X (binaryOp .Mult) (rI CMul fun i j => .int (i * j)) := opI fun _ _ _ _ _ _ _ hc q => mul_int q hc.ok
theorem Cz1C : OpR X (binaryOp .FloorDiv) (rI CDiv fun i j => .int (i / j)) := opI fun i j _ _ _ _ _ hc q => by
  have h1 : (0 : Int) < j := hc.1
  have h2 : j < 1073741824 := hc.2
  exact floordiv_int (by omega) (by rw [Int.fdiv_eq_ediv_of_nonneg i (by omega)]; exact q) (.inl (PyProof.noPylong_small (by omega)))
theorem op_mod : OpR X (binaryOp .Mod) (rI (fun _ j => 0 < j) fun i j => .int (i % j)) := opI fun i j _ _ _ _ _ hc q => by
  have h1 : (0 : Int) < j := hc
  exact mod_int' (by omega) (by rw [Int.fmod_eq_emod_of_nonneg i (by omega)]; exact q)
theorem op_pow : OpR X (binaryOp .Pow) (rI CPow fun i j => .int (i ^ j.toNat)) := opI fun _ _ _ _ _ _ _ hc q => pow_int_small hc.1 hc.2.1 hc.2.2 q
theorem unI {f : Value → Sem Value} {g : Int → Int}
    (rule : ∀ (i : Int) (t : Tok) (s : Shared) (Q : Value → Shared → Prop) (E : Value → Shared → Prop), Q (.int (g i) s.toks) { s with toks := s.toks + 1 } → wpAny (model X.prog X.w) X.A (f (.int i t)) Q E s) :
    UnR X f (rU fun i => .int (g i)) := by
  intro pins s σ H x v Q I rx h
  obtain ⟨i, rfl, q⟩ := h
  obtain ⟨t, rfl⟩ := rx
  exact rule i t s _ _ ⟨.int (g i), H, I.tok _, ⟨_, rfl⟩, q⟩
theorem un_neg : UnR X (unaryOp .USub) (rU fun i => .int (-i)) := unI fun _ _ _ _ _ q => neg_int q
end
section
variable {X : Cx} {a b c : Expr} {ta tb tc : TE} {pos : Pos}
theorem fin_bl {pins : List (Addr × Obj)} {σ : St} {H : Hp} {s : Shared} {Q : VK} {k k' : Bool} (I : Inv X pins σ H s) (q : Q (.bl k) H) (e : k = k') : EP X pins σ Q (.bool k') s := by
  subst e
  exact ⟨.bl k, H, I, rfl, q⟩
theorem op_lt : OpR X (compareOp .Lt) (rI0 fun i j => .bl (decide (i < j))) := opB0 fun _ _ _ _ _ _ _ q => lt_int q
theorem op_le : OpR X (compareOp .LtE) (rI0 fun i j => .bl (decide (i ≤ j))) := opB0 fun _ _ _ _ _ _ _ q => le_int q
theorem op_gt : OpR X (compareOp .Gt) (rI0 fun i j => .bl (decide (j < i))) := opB0 fun _ _ _ _ _ _ _ q => gt_int q
theorem op_in_str : OpR X (compareOp .In) (fun x y H Q => ∃ i j, x = .str i ∧ y = .str j ∧ Q (.bl (!(Builtin.Str.occurrences j i 0 j.length 1).isEmpty)) H) := by
  intro pins s σ H x y v u Q I rx ry h
  obtain ⟨i, j, rfl, rfl, q⟩ := h
  obtain ⟨t, rfl⟩ := rx
  obtain ⟨t', rfl⟩ := ry
  exact in_str (fin_bl I q rfl)
theorem op_notin_str : OpR X (compareOp .NotIn) (fun x y H Q => ∃ i j, x = .str i ∧ y = .str j ∧ Q (.bl (!(!(Builtin.Str.occurrences j i 0 j.length 1).isEmpty))) H) := by
  intro pins s σ H x y v u Q I rx ry h
  obtain ⟨i, j, rfl, rfl, q⟩ := h
  obtain ⟨t, rfl⟩ := rx
  obtain ⟨t', rfl⟩ := ry
  exact notIn_str (fin_bl I q rfl)
theorem OpR.or {f : Value → Value → Sem Value} {r r' : R2} (h : OpR X f r) (h' : OpR X f r') : OpR X f (fun x y H Q => r x y H Q ∨ r' x y H Q) := by
  intro pins s σ H x y v u Q I rx ry q
  rcases q with q | q
  · exact h pins s σ H x y v u Q I rx ry q
  · exact h' pins s σ H x y v u Q I rx ry q
theorem nomark (b : Expr) {op : CmpOp} (h : autoParam (op ≠ .In) slim1._auto_1) (h2 : autoParam (op ≠ .NotIn) slim1._auto_1) : behindInMarks op b = false := by
  have e1 : (op == CmpOp.In) = false := by cases op <;> first | rfl | exact absurd rfl h
  have e2 : (op == CmpOp.NotIn) = false := by cases op <;> first | rfl | exact absurd rfl h2
  cases b <;> simp [behindInMarks, e1, e2]
noncomputable def tTest (t : TE) : TT := fun σ H Q => t σ H fun x H' => ∃ k, x = .bl k ∧ Q k H'
theorem Az7R {op : CmpOp} {r : R2} (ho : OpR X (compareOp op) r) (ha : PE X a ta) (hb : PE X b tb) (hm : behindInMarks op b = false) : PT X (.Compare a [op] [b] pos) (tTest (tOp r ta tb)) := by
  intro pins s σ H Q I h
  refine wpAny_isTrue_Compare1 (thn (ha pins s σ H _ I h) fun v s1 ⟨x, H1, I1, r1, q1⟩ => thn (hb pins s1 σ H1 _ I1 q1) fun u s2 ⟨y, H2, I2, r2, q2⟩ =>
    thn (ho pins s2 σ H2 x y v u _ I2 r1 r2 q2) fun c s3 ⟨z, H3, I3, r3, k, e, q3⟩ => ?_) hm
  subst e
  cases r3
  exact wpAny_truthy_bool ⟨H3, I3, q3⟩
theorem line63 : (sizeLine : Nat) < 2 ^ 63 := by rw [sizeLine_eq]; decide
theorem Bz2U : OpR X (binaryOp .Add) (fun x y H Q => ∃ i j, x = .str i ∧ y = .str j ∧ i.length + j.length ≤ sizeLine ∧ Q (.str (i ++ j)) H) := by
  intro pins s σ H x y v u Q I rx ry h
  obtain ⟨i, j, rfl, rfl, hz, q⟩ := h
  obtain ⟨t, rfl⟩ := rx
  obtain ⟨t', rfl⟩ := ry
  exact add_str (fun t' tk => ⟨.str (i ++ j), H, I.tok _, ⟨_, rfl⟩, q⟩) hz
theorem vals1 {x : V} {us : List Value} (r : Vals [x] us) : ∃ u, us = [u] ∧ RelV x u := by
  cases r with
  | cons r1 r2 => cases r2; exact ⟨_, rfl, r1⟩
theorem vals2 {x y : V} {us : List Value} (r : Vals [x, y] us) : ∃ u w', us = [u, w'] ∧ RelV x u ∧ RelV y w' := by
  cases r with
  | cons r1 r2 =>
    cases r2 with
    | cons r3 r4 => cases r4; exact ⟨_, _, rfl, r1, r3⟩
theorem Bz9M : CallR X (.builtin "abs") (fun xs H Q => ∃ i, xs = [.int i] ∧ Q (.int (if i < 0 then -i else i)) H) := by
  intro pins s σ H xs us Q I r h
  obtain ⟨i, rfl, q⟩ := h
  obtain ⟨u, rfl, t, rfl⟩ := vals1 r
  exact call_abs_int fun u tk => ⟨.int (if i < 0 then -i else i), H, I.tok _, ⟨_, rfl⟩, q⟩
theorem Bz6J (hc : X.calm = true) : CallR X (.builtin "min") (fun xs H Q => ∃ i j, xs = [.int i, .int j] ∧ Q (.int (if j < i then j else i)) H) := by
  intro pins s σ H xs us Q I r h
  obtain ⟨i, j, rfl, q⟩ := h
  obtain ⟨u, w', rfl, ⟨t, rfl⟩, ⟨t', rfl⟩⟩ := vals2 r
  refine min_two_ints (I.ok.hd hc) fun h' tk k => ⟨_, H, I.kept k, ?_, q⟩
  by_cases hj : j < i
  · rw [if_pos hj, if_pos hj]; exact ⟨_, rfl⟩
  · rw [if_neg hj, if_neg hj]; exact ⟨_, rfl⟩
noncomputable def LenV (K : PySem.W.Frag) (x : V) (H : Hp) (n : Nat) : Prop :=
  match x with
  | .str y => y.length ≤ sizeLine ∧ n = y.length
  | .byt y => y.size ≤ sizeLine ∧ n = y.size
  | .ref p => (∃ xs, SqL K H p xs ∧ n = xs.length) ∨ ∃ xs, SqT K H p xs ∧ n = xs.length
  | _ => False
theorem Bz9L : CallR X (.builtin "len") (fun xs H Q => ∃ x n, xs = [x] ∧ LenV X.K x H n ∧ Q (.int n) H) := by
  intro pins s σ H xs us Q I r h
  obtain ⟨x, n, rfl, e, q⟩ := h
  obtain ⟨u, rfl, rx⟩ := vals1 r
  have hl := line63
  have hs : sizeLine = 16777216 := sizeLine_eq
  cases x with
  | str y =>
    obtain ⟨t, rfl⟩ := rx
    obtain ⟨hy, e'⟩ : y.length ≤ sizeLine ∧ n = y.length := e
    subst e'
    exact len_str (by omega) ⟨.int _, H, I.tok _, ⟨_, rfl⟩, q⟩
  | byt y =>
    obtain ⟨t, rfl⟩ := rx
    obtain ⟨hy, e'⟩ : y.size ≤ sizeLine ∧ n = y.size := e
    subst e'
    exact PySem.W.len_bytes (by omega) ⟨.int _, H, I.tok _, ⟨_, rfl⟩, q⟩
  | ref p =>
    cases rx
    have e' : (∃ xs, SqL X.K H p xs ∧ n = xs.length) ∨ ∃ xs, SqT X.K H p xs ∧ n = xs.length := e
    rcases e' with ⟨xs, hx, e'⟩ | ⟨xs, hx, e'⟩
    · subst e'
      obtain ⟨its, r', pl, hz⟩ := I.list hx
      have hlen := r'.length
      exact Calls.call_len_list pl.isList (by simp only [List.size_toArray]; omega) ⟨.int xs.length, H, I.tok _, ⟨_, by simp only [List.size_toArray]; rw [hlen]⟩, q⟩
    · subst e'
      obtain ⟨its, r', pl, hz⟩ := I.tuple hx
      have hlen := r'.length
      exact len_tuple pl (by simp only [List.size_toArray]; omega) ⟨.int xs.length, H, I.tok _, ⟨_, by simp only [List.size_toArray]; rw [hlen]⟩, q⟩
  | _ => exact (show False from e).elim
end
end L2
namespace L2
open PySem PySem.Spec PyProof.Rows
structure ObjM (h : Heap) (x dx C : Addr) (mA : Str → Option Value) : Prop where
  obj : h.get? x = some (PySem.W.instObj C dx)
  ns : h.Ns1 dx mA
  ne : dx ≠ x
theorem Bz5Q {h : Heap} {dx : Addr} {mA : Str → Option Value} (n : h.Ns1 dx mA) : ∃ od, h.get? dx = some od ∧ ∀ name, PySem.W.lookIn name od = some (mA name) := by
  obtain ⟨o, es, ep, ho, hd, hk, _, hm⟩ := n
  refine ⟨o, ho, fun name => ?_⟩
  have e := hm name
  unfold nsFind findBy at e
  rw [← Array.find?_toList] at e
  unfold PySem.W.lookIn
  rw [hd]
  dsimp only
  split
  · rename_i y q
    rw [q] at e
    exact congrArg some e
  · rename_i q
    rw [q] at e
    have a : es.toList.any (·.refKey) = false := by
      rw [List.any_eq_false]
      intro y hy
      obtain ⟨z, t, hkey⟩ := hk y (Array.mem_toList_iff.mp hy)
      simp [DictEntry.refKey, hkey]
    have a' : ¬ es.toList.any (·.refKey) = true := by rw [a]; exact Bool.false_ne_true
    rw [if_neg a']
    exact congrArg some e
theorem ObjM.look {h : Heap} {x dx C : Addr} {mA : Str → Option Value} (I : ObjM h x dx C mA) : ∃ od, PySem.W.InstAt h x (PySem.W.instObj C dx) C (some od) ∧ ∀ name, PySem.W.lookIn name od = some (mA name) :=
  let ⟨od, ho, hl⟩ := Bz5Q I.ns
  ⟨od, ⟨I.obj, rfl, rfl, ho⟩, hl⟩
section
variable {prog : Program} {w : World} {A : Around} {E : Value → Shared → Prop} {s : Shared} {K : PySem.W.Frag} {x dx C f : Addr} {mA : Str → Option Value} {name : Str} {v : Value}
theorem Cz2C {expr : Bool} {Q : Value → Shared → Prop} (X : K.In s.heap) (I : ObjM s.heap x dx C mA) (hg : PySem.W.plainGet K C name = true) (hh : PySem.W.hasDictIn K C = true)
    (ha : PySem.W.findIn K (.ref C) name = some none) (hv : mA name = some v) (hv' : PySem.W.handedIn v = true) (h : Q v { s with toks := s.toks + 1 }) :
    wpAny (model prog w) A (getAttr (.ref x) name expr) Q E s := by
  obtain ⟨od, J, hl⟩ := I.look
  exact PySem.W.get_value X J (PySem.W.plainGet_of hg).1 (PySem.W.findObj_own hh ha rfl (by rw [hl, hv])) hv' h
theorem Cz0D {ns : List Str} {Q : Unit → Shared → Prop} (X : K.In s.heap) (I : ObjM s.heap x dx C mA)
    (hs : PySem.W.findIn K (.ref C) "__setattr__" = some (some (.builtin "object.__setattr__"))) (hp : PySem.W.plainOver K C = true) (ht : PySem.W.takerIn K C name = some none) (hh : PySem.W.hasDictIn K C = true)
    (hw : PySem.Within mA ns) (hsz : ns.length ≤ sizeLine)
    (h : ∀ h', ObjM h' x dx C (fun y => if y = name then some v else mA y) → Heap.SameBut dx s.heap h' → Q () { s with heap := h', toks := s.toks + 2 }) :
    wpAny (model prog w) A (setAttr (.ref x) name v) Q E s := by
  obtain ⟨od, J, hl⟩ := I.look
  refine PySem.W.set_plain X J hs (PySem.W.osa_open (s := { s with toks := s.toks + 1 }) (r := none) X J hp ht fun b => ?_)
  obtain ⟨cd, hc, hd'⟩ := PySem.W.any_some hh
  have hx : s.heap.get? x = some ⟨.ref C, some dx, .plain, #[]⟩ := I.obj
  refine wpAny_bind (wpAny_pure (wpAny_bind (wpAny_bind (wpAny_loadPart hx (wpAny_bind (PySem.W.Looks.here (s := { s with toks := s.toks + 1 }) (PySem.W.looks_clsIn X hc) ?_))))))
  rw [hd']
  refine wpAny_pure (a := some dx) (wpAny_bind (wpAny_pure (wpAny_bind ?_)))
  refine wpAny_nsSet1 (s := { s with toks := s.toks + 1 }) I.ns fun h' hn2 hs2 => ?_
  obtain ⟨oD, esD, epD, hoD, hdD, hcD⟩ := hn2.count (PySem.Within.cons name v hw)
  refine wpAny_bind (wpAny_lookBehind hoD (by rw [hdD]; exact pastItsLine_dict (Nat.le_trans hcD (by rw [List.length_cons]; omega))) ?_)
  exact wpAny_pure (h _ ⟨(hs2.2 _ (Ne.symm I.ne)).trans I.obj, hn2, I.ne⟩ hs2)
theorem Bz8I {R : Result → Shared → Prop} {vs : List Value} {kw : List (Str × Value)} (X : K.In s.heap) (hm : PySem.W.makesIn K C = true)
    (hi : PySem.W.findIn K (.ref C) "__init__" = some (some (.ref f))) (hf : PySem.W.typeIn K (.ref f) = some (.type "function"))
    (h : codeAny (model prog w) (A.under (.builtin "type.__call__" ⟨.ref C :: vs, kw⟩)) (.call (.ref f) ⟨.ref (s.heap.objs.size + 1) :: vs, kw⟩) (PySem.W.InitBack (s.heap.objs.size + 1) R)
      { s with heap := (s.heap.push PySem.W.emptyDict).push (PySem.W.instObj C s.heap.objs.size) }) :
    codeAny (model prog w) A (.call (.ref C) ⟨vs, kw⟩) R s := by
  obtain ⟨hh, g, d, t, os⟩ := s
  exact PySem.W.make_core (PySem.W.makes_of X hm) (PySem.W.looks_findIn X hi) (fun self => PySem.W.bind_fn X self hf) (.inl rfl) h
end
noncomputable def putF (f : Str) (v : V) : List (Str × V) → List (Str × V)
  | [] => [(f, v)]
  | (g, x) :: r => if g = f then (g, v) :: r else (g, x) :: putF f v r
theorem Az6J (f g : Str) (v : V) : ∀ fs : List (Str × V), (putF f v fs).lookup g = if g = f then some v else fs.lookup g
  | [] => by
    show List.lookup g [(f, v)] = _
    by_cases h : g = f
    · have hb : (g == f) = true := beq_iff_eq.mpr h
      simp only [List.lookup, hb, if_pos h]
    · have hb : (g == f) = false := beq_eq_false_iff_ne.mpr h
      simp only [List.lookup, hb, if_neg h]
  | (k, x) :: r => by
    have ih := Az6J f g v r
    rw [show putF f v ((k, x) :: r) = (if k = f then (k, v) :: r else (k, x) :: putF f v r) from rfl]
    by_cases hk : k = f
    · rw [if_pos hk]
      by_cases h : g = k
      · have hb : (g == k) = true := beq_iff_eq.mpr h
        simp only [List.lookup, hb, if_pos (h.trans hk)]
      · have hb : (g == k) = false := beq_eq_false_iff_ne.mpr h
        simp only [List.lookup, hb, if_neg (fun e : g = f => h (e.trans hk.symm))]
    · rw [if_neg hk]
      by_cases h : g = k
      · have hb : (g == k) = true := beq_iff_eq.mpr h
        simp only [List.lookup, hb, if_neg (fun e : g = f => hk (h.symm.trans e))]
      · have hb : (g == k) = false := beq_eq_false_iff_ne.mpr h
        simp only [List.lookup, hb]
        exact ih
theorem Az7D (f : Str) (v : V) : ∀ fs : List (Str × V), f ∈ (putF f v fs).map (·.1) ∧ ∀ g, g ∈ fs.map (·.1) → g ∈ (putF f v fs).map (·.1)
  | [] => ⟨by simp [putF], fun g h => by simp at h⟩
  | (k, x) :: r => by
    obtain ⟨i1, i2⟩ := Az7D f v r
    rw [show putF f v ((k, x) :: r) = (if k = f then (k, v) :: r else (k, x) :: putF f v r) from rfl]
    by_cases hk : k = f
    · rw [if_pos hk]
      subst hk
      exact ⟨by simp, fun g h => by simpa using h⟩
    · rw [if_neg hk]
      refine ⟨?_, fun g h => ?_⟩
      · rw [List.map_cons]
        exact List.mem_cons_of_mem _ i1
      · rw [List.map_cons] at h ⊢
        rcases List.mem_cons.mp h with e | e
        · exact List.mem_cons.mpr (.inl e)
        · exact List.mem_cons_of_mem _ (i2 g e)
theorem Az6K (f : Str) (v : V) : ∀ fs : List (Str × V), (putF f v fs).length ≤ fs.length + 1
  | [] => by simp [putF]
  | (k, x) :: r => by
    have ih := Az6K f v r
    rw [show putF f v ((k, x) :: r) = (if k = f then (k, v) :: r else (k, x) :: putF f v r) from rfl]
    by_cases hk : k = f
    · rw [if_pos hk, List.length_cons, List.length_cons]; omega
    · rw [if_neg hk, List.length_cons, List.length_cons]; omega
theorem RelO.some_of {v : V} {o : Option Value} (r : RelO (some v) o) : ∃ u, o = some u ∧ RelV v u := by
  cases o with
  | none => exact (show False from r).elim
  | some u => exact ⟨u, rfl, r⟩
theorem Bz6A {v : V} {u : Value} (r : RelV v u) : PySem.W.handedIn u = true := by
  cases v with
  | non => cases (show u = Value.none from r); rfl
  | bl b => cases (show u = Value.bool b from r); rfl
  | int i => obtain ⟨t, e⟩ := (show ∃ t, u = Value.int i t from r); cases e; rfl
  | str x => obtain ⟨t, e⟩ := (show ∃ t, u = Value.str x t from r); cases e; rfl
  | byt b => obtain ⟨t, e⟩ := (show ∃ t, u = Value.bytes b t from r); cases e; rfl
  | flt b => obtain ⟨t, e⟩ := (show ∃ t, u = Value.float b t from r); cases e; rfl
  | ref a => cases (show u = Value.ref a from r); rfl
  | ty n => cases (show u = Value.type n from r); rfl
section
variable {P : Program} {w : World} {H H' : Hp} {h h' : Heap} {a C dx : Addr} {fs fs' : List (Str × V)}
theorem Bz7A (hok : HOk P w H h) (e : H a = some (.ins C dx fs)) : ∃ mA, ObjM h a dx C mA ∧ (∀ f, RelO (fs.lookup f) (mA f)) ∧ PySem.Within mA (fs.map (·.1)) ∧ fs.length ≤ 1000 ∧ H dx = some (.own a) := by
  obtain ⟨d, z, ne, ob, mA, n, r, q⟩ := (show ObjOk P w H h a (.ins C dx fs) from hok a _ e)
  exact ⟨mA, ⟨ob, n, ne⟩, r, q, z, d⟩
end
structure Cls (K : PySem.W.Frag) (C : Addr) : Prop where
  pg : PySem.W.plainGet K C Str.empty = true
  hd : PySem.W.hasDictIn K C = true
  po : PySem.W.plainOver K C = true
  sa : PySem.W.findIn K (.ref C) "__setattr__" = some (some (.builtin "object.__setattr__"))
theorem Cls.get {K : PySem.W.Frag} {C : Addr} (c : Cls K C) (f : Str) : PySem.W.plainGet K C f = true := c.pg
noncomputable def NoAttr (K : PySem.W.Frag) (C : Addr) (f : Str) : Prop := PySem.W.findIn K (.ref C) f = some none
theorem NoAttr.taker {K : PySem.W.Frag} {C : Addr} {f : Str} (n : NoAttr K C f) : PySem.W.takerIn K C f = some none := by
  unfold PySem.W.takerIn
  rw [show PySem.W.findIn K (.ref C) f = some none from n]
  rfl
structure Con (K : PySem.W.Frag) (C : Addr) (f : Str) (v : V) (u : Value) : Prop where
  at_ : PySem.W.findIn K (.ref C) f = some (some u)
  rel : RelV v u
  get : PySem.W.specialIn K u "__get__" = some none
  cp : PySem.W.copiedNames.contains f = false
structure Meth (K : PySem.W.Frag) (C : Addr) (m : Str) (f : Addr) : Prop where
  at_ : PySem.W.findIn K (.ref C) m = some (some (.ref f))
  fn : PySem.W.isFn K (.ref f) = true
  kp : PySem.W.keepIn K (.ref f) = true
section
variable {X : Cx} {pins : List (Addr × Obj)} {σ : St} {H : Hp} {s : Shared} {a C dx : Addr} {fs : List (Str × V)} {f : Str} {v : V} {A : Around} {E : Value → Shared → Prop}
theorem Bz3R {b : Bool} {Q : Value → Shared → Prop} (I : Inv X pins σ H s) (e : H a = some (.ins C dx fs)) (c : Cls X.K C) (n : NoAttr X.K C f) (l : fs.lookup f = some v)
    (h : ∀ u s', Inv X pins σ H s' → RelV v u → Q u s') : wpAny (model X.prog X.w) A (getAttr (.ref a) f b) Q E s := by
  obtain ⟨mA, O, r, _, _, _⟩ := Bz7A I.hok e
  obtain ⟨u, hu, ru⟩ := RelO.some_of (v := v) (o := mA f) (by rw [← l]; exact r f)
  exact Cz2C I.kIn O (c.get f) c.hd n hu (Bz6A ru) (h u _ (I.tok _) ru)
theorem Bz2L {y : V} {u : Value} {Q : Unit → Shared → Prop} (I : Inv X pins σ H s) (e : H a = some (.ins C dx fs)) (c : Cls X.K C) (n : NoAttr X.K C f) (hl : fs.length < 1000) (ry : RelV y u)
    (h : ∀ s', Inv X pins σ (upd H a (.ins C dx (putF f y fs))) s' → Q () s') : wpAny (model X.prog X.w) A (setAttr (.ref a) f u) Q E s := by
  obtain ⟨mA, O, r, wi, _, ho⟩ := Bz7A I.hok e
  have hz : (fs.map (·.1)).length ≤ sizeLine := by rw [List.length_map, sizeLine_eq]; omega
  refine Cz0D I.kIn O c.sa c.po n.taker c.hd wi hz fun h' O' sb => h _ ?_
  have hd : ∃ o, h'.get? dx = some o := let ⟨o, _, _, e', _⟩ := O'.ns; ⟨o, e'⟩
  refine I.write (x := a) (e := dx) (by rw [e]; exact True.intro) (.inr ho) (fun b q hb z => (sb.2 b hb).trans z) hd ?_
  refine ⟨by rw [upd_ne O.ne]; exact ho, ?_, O.ne, O'.obj, _, O'.ns, fun g => ?_, fun g hg => ?_⟩
  · have := Az6K f y fs; omega
  · show RelO ((putF f y fs).lookup g) (if g = f then some u else mA g)
    rw [Az6J]
    by_cases q : g = f
    · rw [if_pos q, if_pos q]; exact ry
    · rw [if_neg q, if_neg q]; exact r g
  · by_cases q : g = f
    · rw [q]; exact (Az7D f y fs).1
    · refine (Az7D f y fs).2 g (wi g fun z => hg ?_)
      show (if g = f then some u else mA g) = none
      rw [if_neg q]; exact z
theorem Inv.made (I : Inv X pins σ H s) : Inv X pins σ (upd (upd H s.heap.objs.size (.own (s.heap.objs.size + 1))) (s.heap.objs.size + 1) (.ins C s.heap.objs.size []))
    { s with heap := (s.heap.push PySem.W.emptyDict).push (PySem.W.instObj C s.heap.objs.size) } := by
  have e1 : (s.heap.push PySem.W.emptyDict).get? s.heap.objs.size = some PySem.W.emptyDict := Heap.get?_push_size s.heap rfl
  have e2 : ((s.heap.push PySem.W.emptyDict).push (PySem.W.instObj C s.heap.objs.size)).get? (s.heap.objs.size + 1) = some (PySem.W.instObj C s.heap.objs.size) := by
    have := Heap.get?_push_size (s.heap.push PySem.W.emptyDict) (o := PySem.W.instObj C s.heap.objs.size) rfl
    rwa [Heap.size_push] at this
  have e3 : (s.heap.push PySem.W.emptyDict).Ns s.heap.objs.size (fun _ => none) := ⟨PySem.W.emptyDict, #[], _, e1, rfl, (fun e he => absurd he (by simp)), fun _ => rfl⟩
  have I1 := I.laid (a := s.heap.objs.size) (o := .own (s.heap.objs.size + 1)) (h' := s.heap.push PySem.W.emptyDict) (t' := s.toks) (fun b u q => Heap.get?_push_of_some _ q) (Nat.le_refl _) ⟨_, e1⟩
  refine I1.laid (a := s.heap.objs.size + 1) (o := .ins C s.heap.objs.size []) (t' := s.toks) (fun b u q => Heap.get?_push_of_some _ q) (Nat.le_of_eq (Heap.size_push _ _)) ?_
  have ne : s.heap.objs.size ≠ s.heap.objs.size + 1 := Nat.ne_of_lt (Nat.lt_succ_self _)
  refine ⟨by rw [upd_ne ne, Az0H], Nat.zero_le _, ne, e2, fun _ => none, (Heap.Ns1.of_empty e3).at fun o q => Heap.get?_push_of_some _ q, fun _ => True.intro, fun y hy => absurd rfl hy⟩
theorem Cz3J {prog : Program} {w : World} {env : Env} {e : Expr} {f : Str} {pos : Pos} {s : Shared} {Q : Value → Shared → Prop} (hb : attributeBase e f env (eval e env) = eval e env)
    (h : wpAny (model prog w) A (eval e env) (fun o s₁ => wpAny (model prog w) A (getAttr o f true) Q E s₁) E s) : wpAny (model prog w) A (eval (.Attribute e f pos) env) Q E s :=
  Attribute_any_ h (by rw [arm_eval_Attribute, hb])
end
noncomputable def tFld (K : PySem.W.Frag) (ta : TE) (f : Str) : TE := fun σ H Q => ta σ H fun x H1 => ∃ a C dx fs v, x = .ref a ∧ H1 a = some (.ins C dx fs) ∧ Cls K C ∧ NoAttr K C f ∧ fs.lookup f = some v ∧ Q v H1
noncomputable def sFld (K : PySem.W.Frag) (ta tv : TE) (f : Str) : TS := fun D σ H => tv σ H fun y H1 => ta σ H1 fun x H2 => ∃ a C dx fs, x = .ref a ∧ H2 a = some (.ins C dx fs) ∧ Cls K C ∧ NoAttr K C f ∧ fs.length < 1000 ∧
  D.nx σ (upd H2 a (.ins C dx (putF f y fs)))
section
variable {X : Cx} {o e value : Expr} {f : Str} {pos pos' tpos : Pos} {ta tv : TE}
theorem pe_fld (he : PE X e ta) (hb : attributeBase e f X.env (eval e X.env) = eval e X.env) : PE X (.Attribute e f pos) (tFld X.K ta f) := by
  intro pins s σ H Q I h
  refine Cz3J hb (thn (he pins s σ H _ I h) fun u s1 ⟨x, H1, I1, rx, a, C, dx, fs, v, ex, ea, c, n, l, q⟩ => ?_)
  subst ex
  obtain rfl : u = Value.ref a := rx
  exact Bz3R I1 ea c n l fun u' s2 I2 ru => ⟨v, H1, I2, ru, q⟩
theorem ps_fld (ha : PE X o ta) (hv : PE X value tv) (hs : swapsWith value (some (.Attribute o f pos')) pos.line X.env = pure false) : PS X (.Assign [.Attribute o f pos'] value pos) (sFld X.K ta tv f) := by
  intro pins s σ H D I h
  refine plainObj_wpAny_Assign_Attribute (thn (hv pins s σ H _ I h) fun u s1 ⟨y, H1, I1, ry, q⟩ => thn (ha pins s1 σ H1 _ I1 q) fun ov s2 ⟨x, H2, I2, rx, a, C, dx, fs, ex, ea, c, n, l, q2⟩ => ?_) hs
  subst ex
  obtain rfl : ov = Value.ref a := rx
  exact Bz2L I2 ea c n l ry fun s3 I3 => ⟨σ, _, I3, q2⟩
end
section
variable {X : Cx} {pins : List (Addr × Obj)} {σ : St} {H : Hp} {s : Shared} {A : Around} {E : Value → Shared → Prop} {Q : Value → Shared → Prop} {c : Value} {b : Bool}
inductive TyOf (K : PySem.W.Frag) (H : Hp) : V → Value → Prop where
  | non : TyOf K H .non (.type "NoneType")
  | bl (x : Bool) : TyOf K H (.bl x) (.type "bool")
  | int (i : Int) : TyOf K H (.int i) (.type "int")
  | str (x : Str) : TyOf K H (.str x) (.type "str")
  | flt (x : UInt64) : TyOf K H (.flt x) (.type "float")
  | lst {a : Addr} {xs : List V} (e : H a = some (.lst xs)) : TyOf K H (.ref a) (.type "list")
  | frz {a : Addr} {o : Obj} {xs : List V} (e : H a = some (.frz o (.lst xs))) : TyOf K H (.ref a) (.type "list")
  | tup {a : Addr} {xs : List V} (e : H a = some (.tup xs)) : TyOf K H (.ref a) (.type "tuple")
  | dK {a : Addr} {kvs : List (Key × V)} (e : H a = some (.dK kvs)) : TyOf K H (.ref a) (.type "dict")
  | dT {a : Addr} {kvs : List (List Key × V)} (e : H a = some (.dT kvs)) : TyOf K H (.ref a) (.type "dict")
  | ins {a C dx : Addr} {fs : List (Str × V)} (e : H a = some (.ins C dx fs)) (cl : Cls K C) (ha : PySem.W.findIn K (.ref C) "__class__" = some (some (.builtin "object.__class__")))
      (hn : PySem.W.specialIn K (.builtin "object.__class__") "__get__" = some (some (.builtin "getset_descriptor.__get__"))) (htk : PySem.W.takesIn K (.builtin "object.__class__") = some true)
      (hm : PySem.W.mroIn K C (.type "object") = some true) : TyOf K H (.ref a) (.ref C)
end
end L2
namespace L2
open PySem PySem.Spec PyProof.Rows
structure Room (k : Nat) (A : Around) : Prop where
  hd : A.handled = none
  dp : A.depth + 3 * k + 5 < recursionLimit
  un : A.units + 16 * k + 200 < cLine
  gd : A.guards = some []
theorem Room.mono {j k : Nat} {A : Around} (r : Room k A) (h : j ≤ k) : Room j A := ⟨r.hd, by have := r.dp; omega, by have := r.un; omega, r.gd⟩
theorem Room.deeper {k : Nat} {A : Around} (r : Room (k + 1) A) (env : Env) : Room k (A.deeper env) :=
  ⟨r.hd, by have := r.dp; show A.depth + 1 + 3 * k + 5 < _; omega, by have := r.un; show A.units + 3 + 16 * k + 200 < _; omega, r.gd⟩
theorem Room.in1 {k : Nat} {A : Around} (r : Room (k + 1) A) : Room k A.in1 :=
  ⟨r.hd, by have := r.dp; show A.depth + 3 * k + 5 < _; omega, by have := r.un; show A.units + 1 + 16 * k + 200 < _; omega, r.gd⟩
theorem Bz3H {A : Around} {C : Addr} {us : List Value} {kw : List (Str × Value)} : (A.under (.builtin "type.__call__" ⟨.ref C :: us, kw⟩)).depth = A.depth + 1 := by
  first | rfl | simp [Around.under, Code.weight, Code.isCreation, Code.isGuard, Code.isCaller, Code.frames, Code.isFrame, guardIds]
theorem Bz3G {A : Around} {C : Addr} {us : List Value} {kw : List (Str × Value)} : (A.under (.builtin "type.__call__" ⟨.ref C :: us, kw⟩)).units = A.units + 1 := by
  first | rfl | simp [Around.under, Code.cUnits, Code.frames, Code.isFrame]
theorem Room.make {k : Nat} {A : Around} (r : Room (k + 1) A) (C : Addr) (us : List Value) (kw : List (Str × Value)) : Room k (A.under (.builtin "type.__call__" ⟨.ref C :: us, kw⟩)) :=
  ⟨r.hd, by have := r.dp; rw [Bz3H]; omega, by have := r.un; rw [Bz3G]; omega, by first | exact r.gd | (simpa [Around.under, Code.guards, pushGuards] using r.gd)⟩
theorem Room.depth {k : Nat} {A : Around} (r : Room k A) : A.depth < recursionLimit := by have := r.dp; omega
theorem Room.units {k : Nat} {A : Around} (r : Room k A) : A.units + 64 < cLine := by have := r.un; omega
noncomputable def tNil : TA := fun _ H Q => Q [] H
noncomputable def tCons (ta : TE) (tr : TA) : TA := fun σ H Q => ta σ H fun x H1 => tr σ H1 fun xs H2 => Q (x :: xs) H2
section
variable {X : Cx} {e : Expr} {es : List Expr} {te : TE} {t : TA} {pos : Pos}
theorem pa_nil : PA X [] tNil := fun _ _ _ _ H Q I h => Calls.spliced_nil ⟨[], H, I, .nil, h⟩
theorem Az6I (ha : PE X e te) (hr : PA X es t) (hs : autoParam (starEach (e :: es) X.env = (false, eval e X.env) :: starEach es X.env) slim0._auto_1) : PA X (e :: es) (tCons te t) := by
  intro pos pins s σ H Q I h
  rw [hs]
  show wpAny _ _ (spliced ((false, eval e X.env) :: backTo pos (starEach es X.env))) _ _ s
  refine Calls.spliced_cons (thn (ha pins s σ H _ I h) fun u s1 ⟨x, H1, I1, r1, q1⟩ => ?_)
  exact thn (hr pos pins s1 σ H1 _ I1 q1) fun us s2 ⟨xs, H2, I2, r2, q2⟩ => ⟨x :: xs, H2, I2, .cons r1 r2, q2⟩
noncomputable def tTup (t : TA) : TE := fun σ H Q => t σ H fun xs H1 => xs.length ≤ sizeLine ∧ ∀ p, H1 p = none → Q (.ref p) (upd H1 p (.tup xs))
noncomputable def tLst (t : TA) : TE := fun σ H Q => t σ H fun xs H1 => xs.length ≤ sizeLine ∧ ∀ p, H1 p = none → Q (.ref p) (upd H1 p (.lst xs))
theorem pe_tup {x1} (h : PA X es t) : PE X (.Tuple es x1 pos) (tTup t) := by
  intro pins s σ H Q I hq
  refine wpAny_Tuple_spliced (thn (h pos pins s σ H _ I hq) fun us s1 ⟨xs, H1, I1, r, z, q⟩ => ⟨by rw [← r.length]; exact z, ?_⟩)
  have hf : H1 s1.heap.objs.size = none := I1.hok.fresh (Nat.le_refl _)
  refine ⟨.ref s1.heap.objs.size, upd H1 s1.heap.objs.size (.tup xs), I1.laid (t' := s1.toks) (fun b u e => Heap.get?_push_of_some _ e) (Nat.le_refl _) ?_, rfl, q _ hf⟩
  exact ⟨z, us, r, ⟨_, Heap.get?_push_size _ rfl, rfl, _, rfl⟩⟩
theorem pe_lst (h : PA X es t) : PE X (.List es pos) (tLst t) := by
  intro pins s σ H Q I hq
  refine wpAny_List_spliced (thn (h pos pins s σ H _ I hq) fun us s1 ⟨xs, H1, I1, r, z, q⟩ => ⟨by rw [← r.length]; exact z, ?_⟩)
  have hf : H1 s1.heap.objs.size = none := I1.hok.fresh (Nat.le_refl _)
  refine ⟨.ref s1.heap.objs.size, upd H1 s1.heap.objs.size (.lst xs), I1.laid (t' := s1.toks) (fun b u e => Heap.get?_push_of_some _ e) (Nat.le_refl _) ?_, rfl, q _ hf⟩
  exact ⟨z, us, 0, r, Heap.get?_push_size _ rfl⟩
end
noncomputable abbrev Sp := List V → Hp → VK → XK → Prop
noncomputable abbrev CXT := List Env → Hp → Shared → XK → Value → Shared → Prop
structure Env0 (P : Program) (w : World) (K : PySem.W.Frag) (mg : Str → Option Value) (base : Heap) (A : Around) (outer : List Env) (s : Shared) (H : Hp) : Prop where
  frames : A.frames = some outer
  mod : Mod K mg base
  bs : ∀ b o, base.get? b = some o → s.heap.get? b = some o ∧ H b = none
  bsz : base.objs.size ≤ s.heap.objs.size
  funs : s.heap.FunFrames base outer
  frf : ∀ b ∈ frs outer, H b = none
  hok : HOk P w H s.heap
  bare : AllBare s.gens
noncomputable def CE (outer : List Env) (P : Program) (w : World) (H : Hp) (s : Shared) (Q : VK) (u : Value) (s' : Shared) : Prop :=
  ∃ v H', s'.os = s.os ∧ AllBare s'.gens ∧ Un (frs outer) [] H H' s.heap s'.heap ∧ HOk P w H' s'.heap ∧ RelV v u ∧ Q v H'
noncomputable def CR (CX : CXT) (outer : List Env) (P : Program) (w : World) (H : Hp) (s : Shared) (Q : VK) (E : XK) (r : Result) (s' : Shared) : Prop :=
  match r with
  | .ok (.ret u) => CE outer P w H s Q u s'
  | .ok _ => False
  | .error e => CX outer H s E e s'
structure FnOk (P : Program) (w : World) (K : PySem.W.Frag) (mg : Str → Option Value) (base : Heap) (CX : CXT) (k : Nat) (f : Addr) (fd : FuncData) (ps : List Str) (sp : Sp) : Prop where
  len : ∀ vs H Q E, sp vs H Q E → vs.length = ps.length
  run : ∀ (A : Around) (outer : List Env) (s : Shared) (H : Hp) (args : Args) (us : List Value) (vs : List V) (Q : VK) (E : XK), Room k A → Env0 P w K mg base A outer s H → BindsTo s fd args (ps.zip us) → Vals vs us → sp vs H Q E →
    codeAny (model P w) A (.call (.ref f) args) (CR CX outer P w H s Q E) s
theorem FnOk.mono {P : Program} {w : World} {K : PySem.W.Frag} {mg : Str → Option Value} {base : Heap} {CX : CXT} {j k : Nat} {f : Addr} {fd : FuncData} {ps : List Str} {sp : Sp} (F : FnOk P w K mg base CX j f fd ps sp) (h : j ≤ k) :
    FnOk P w K mg base CX k f fd ps sp := ⟨F.len, fun A outer s H args us vs Q E hr => F.run A outer s H args us vs Q E (hr.mono h)⟩
theorem FnOk.imp {P : Program} {w : World} {K : PySem.W.Frag} {mg : Str → Option Value} {base : Heap} {CX : CXT} {k : Nat} {f : Addr} {fd : FuncData} {ps : List Str} {sp sp' : Sp} (F : FnOk P w K mg base CX k f fd ps sp)
    (h : ∀ vs H Q E, sp' vs H Q E → sp vs H Q E) : FnOk P w K mg base CX k f fd ps sp' :=
  ⟨fun vs H Q E q => F.len vs H Q E (h _ _ _ _ q), fun A outer s H args us vs Q E hr he hb hv hs => F.run A outer s H args us vs Q E hr he hb hv (h _ _ _ _ hs)⟩
theorem Env0.make {P : Program} {w : World} {K : PySem.W.Frag} {mg : Str → Option Value} {base : Heap} {A : Around} {outer : List Env} {s : Shared} {H : Hp} (e : Env0 P w K mg base A outer s H) (C : Addr) (us : List Value) (kw : List (Str × Value)) :
    Env0 P w K mg base (A.under (.builtin "type.__call__" ⟨.ref C :: us, kw⟩)) outer s H := ⟨by first | exact e.frames | (simpa [Around.under, Code.envs, Code.isFrame, pushEnvs] using e.frames), e.mod, e.bs, e.bsz, e.funs, e.frf, e.hok, e.bare⟩
theorem Env0.in1 {P : Program} {w : World} {K : PySem.W.Frag} {mg : Str → Option Value} {base : Heap} {A : Around} {outer : List Env} {s : Shared} {H : Hp} (e : Env0 P w K mg base A outer s H) :
    Env0 P w K mg base A.in1 outer s H := ⟨e.frames, e.mod, e.bs, e.bsz, e.funs, e.frf, e.hok, e.bare⟩
section
variable {X : Cx} {pins : List (Addr × Obj)} {σ : St} {H : Hp} {s s' : Shared}
theorem Inv.env0 (I : Inv X pins σ H s) : Env0 X.prog X.w X.K X.mg X.base X.A X.stack s H :=
  ⟨I.ok.frames, I.ok.mod, I.bs, Nat.le_trans I.ok.bsz I.sz, I.stack, I.stkFree, I.hok, I.bare⟩
theorem Inv.after {Q : VK} {u : Value} (I : Inv X pins σ H s) (h : CE X.stack X.prog X.w H s Q u s') : EP X pins σ Q u s' := by
  obtain ⟨v, H', os, bare, un, hok, r, q⟩ := h
  obtain ⟨hh, g, d, t, os'⟩ := s'
  obtain rfl : os' = s.os := os
  exact ⟨v, H', I.call (h' := hh) (g' := g) (d' := d) (t' := t) (ch := []) un hok bare (fun b z => absurd z (by simp)), r, q⟩
end
noncomputable def tCall (sp : Sp) (dvs : List V) (E : XK) (t : TA) : TE := fun σ H Q => t σ H fun vs H1 => sp (vs ++ dvs) H1 Q E
noncomputable def tMake (C : Addr) (sp : Sp) (dvs : List V) (E : XK) (t : TA) : TE := fun σ H Q => t σ H fun vs H1 => ∀ x dx, H1 x = none → H1 dx = none → dx ≠ x →
  sp (.ref x :: (vs ++ dvs)) (upd (upd H1 dx (.own x)) x (.ins C dx [])) (fun v H2 => v = .non ∧ Q (.ref x) H2) E
noncomputable def Binds (K : PySem.W.Frag) (fd : FuncData) (ps : List Str) (ds : List Value) : Prop :=
  ∀ (s : Shared) (us : List Value), K.In s.heap → (us ++ ds).length = ps.length → BindsTo s fd ⟨us, []⟩ (ps.zip (us ++ ds))
theorem Binds.all {K : PySem.W.Frag} {fd : FuncData} {ps : List Str} (h : ∀ us : List Value, us.length = ps.length → bindArgs fd ⟨us, []⟩ = pure (ps.zip us)) : Binds K fd ps [] := fun s us _ hl => by
  rw [List.append_nil] at hl ⊢
  exact .of_eq (h us hl)
noncomputable def Passes (CX : CXT) (X : Cx) (E : XK) : Prop := ∀ (pins : List (Addr × Obj)) (σ : St) (H : Hp) (s : Shared) (e : Value) (s' : Shared), Inv X pins σ H s → CX X.stack H s E e s' → X.xe e s'
section
variable {X : Cx} {CX : CXT} {k : Nat} {f C : Addr} {fd : FuncData} {ps : List Str} {sp : Sp} {dvs : List V} {ds : List Value} {E : XK} {x m : Str} {p pos apos : Pos} {e o : Expr} {es : List Expr} {ta : TE} {t : TA}
theorem run_fn {pins : List (Addr × Obj)} {σ : St} {H : Hp} {s : Shared} {Q : VK} {us : List Value} {vs : List V} (F : FnOk X.prog X.w X.K X.mg X.base CX k f fd ps sp) (hr : Room k X.A) (hb : Binds X.K fd ps ds) (hd : Vals dvs ds) (hx : Passes CX X E)
    (I : Inv X pins σ H s) (r : Vals vs us) (h : sp (vs ++ dvs) H Q E) : wpAny (model X.prog X.w) X.A (call (.ref f) us) (EP X pins σ Q) X.xe s := by
  have r2 : Vals (vs ++ dvs) (us ++ ds) := r.append hd
  have hl : (us ++ ds).length = ps.length := by rw [← r2.length]; exact F.len _ _ _ _ h
  refine wpAny_call (codeAny_mono (F.run X.A X.stack s H ⟨us, []⟩ (us ++ ds) (vs ++ dvs) Q E hr I.env0 (hb s us I.kIn hl) r2 h) fun r s' hq => ?_)
  cases r with
  | error e => exact hx pins σ H s e s' I hq
  | ok fl =>
    cases fl with
    | ret u => exact I.after hq
    | next => exact False.elim hq
    | brk => exact False.elim hq
    | cont => exact False.elim hq
theorem Cz0X (F : FnOk X.prog X.w X.K X.mg X.base CX k f fd ps sp) (hr : Room k X.A) (hg : Gl X x) (hm : X.mg x = some (.ref f)) (hk : PySem.W.keepIn X.K (.ref f) = true) (hb : Binds X.K fd ps ds) (hd : Vals dvs ds) (hx : Passes CX X E)
    (ha : PA X (e :: es) t) (hdb : autoParam ((x == ("__debug__" : Str)) = false) slim1._auto_1) (he : autoParam (starEach (e :: es) X.env = (false, eval e X.env) :: starEach es X.env) slim0._auto_1) (hpl : autoParam ((backTo pos (starEach es X.env)).any (·.1) = false) slim0._auto_1) :
    PE X (.Call (.Name x p) (e :: es) [] pos) (tCall sp dvs E t) := by
  intro pins s σ H Q I h
  refine wpAny_Call_Name_kw (Az9Y I hg hm ?_ hdb)
  refine PySem.W.callWith_K (h₀ := X.base) I.ok.mod.kin hk (thn (ha pos pins s σ H _ I h) fun us s1 ⟨vs, H1, I1, r, q⟩ => ⟨I1.kIn, ?_⟩) he hpl
  exact run_fn F hr hb hd hx I1 r q
structure Mk (K : PySem.W.Frag) (C f : Addr) : Prop where
  makes : PySem.W.makesIn K C = true
  init : PySem.W.findIn K (.ref C) "__init__" = some (some (.ref f))
  fn : PySem.W.isFn K (.ref f) = true
  kp : PySem.W.keepIn K (.ref C) = true
theorem Bz7T {pins : List (Addr × Obj)} {σ : St} {H : Hp} {s : Shared} {Q : VK} {us : List Value} {vs : List V} (M : Mk X.K C f) (F : FnOk X.prog X.w X.K X.mg X.base CX k f fd ps sp) (hr : Room (k + 1) X.A) (hb : Binds X.K fd ps ds) (hd : Vals dvs ds)
    (hx : Passes CX X E) (I : Inv X pins σ H s) (r : Vals vs us)
    (h : ∀ x dx, H x = none → H dx = none → dx ≠ x → sp (.ref x :: (vs ++ dvs)) (upd (upd H dx (.own x)) x (.ins C dx [])) (fun v H2 => v = .non ∧ Q (.ref x) H2) E) :
    wpAny (model X.prog X.w) X.A (call (.ref C) us) (EP X pins σ Q) X.xe s := by
  have hq := h (s.heap.objs.size + 1) s.heap.objs.size (I.hok.fresh (Nat.le_succ _)) (I.hok.fresh (Nat.le_refl _)) (Nat.ne_of_lt (Nat.lt_succ_self _))
  have I2 := Inv.made (C := C) I
  have r2 : Vals (V.ref (s.heap.objs.size + 1) :: (vs ++ dvs)) (Value.ref (s.heap.objs.size + 1) :: (us ++ ds)) := .cons rfl (r.append hd)
  have hl : (Value.ref (s.heap.objs.size + 1) :: us ++ ds).length = ps.length := by
    have e := r2.length
    rw [F.len _ _ _ _ hq] at e
    exact e.symm
  refine wpAny_call (Bz8I (f := f) I.kIn M.makes M.init (beq_iff_eq.mp M.fn) (codeAny_mono (F.run _ X.stack _ _ ⟨Value.ref (s.heap.objs.size + 1) :: us, []⟩ (Value.ref (s.heap.objs.size + 1) :: (us ++ ds)) _ _ E (hr.make C us [])
    (I2.env0.make C us []) (hb _ (Value.ref (s.heap.objs.size + 1) :: us) I2.kIn hl) r2 hq) fun r s' hq' => ?_))
  cases r with
  | error e => exact hx pins σ _ _ e s' I2 hq'
  | ok fl =>
    cases fl with
    | ret u =>
      obtain ⟨v, H', I3, rv, ev, q3⟩ := I2.after hq'
      subst ev
      exact ⟨rv, ⟨V.ref (s.heap.objs.size + 1), H', I3, rfl, q3⟩⟩
    | next => exact False.elim hq'
    | brk => exact False.elim hq'
    | cont => exact False.elim hq'
theorem Cz0S (M : Mk X.K C f) (F : FnOk X.prog X.w X.K X.mg X.base CX k f fd ps sp) (hr : Room (k + 1) X.A) (hg : Gl X x) (hm : X.mg x = some (.ref C)) (hb : Binds X.K fd ps ds) (hd : Vals dvs ds) (hx : Passes CX X E)
    (ha : PA X (e :: es) t) (hdb : autoParam ((x == ("__debug__" : Str)) = false) slim1._auto_1) (he : autoParam (starEach (e :: es) X.env = (false, eval e X.env) :: starEach es X.env) slim0._auto_1) (hpl : autoParam ((backTo pos (starEach es X.env)).any (·.1) = false) slim0._auto_1) :
    PE X (.Call (.Name x p) (e :: es) [] pos) (tMake C sp dvs E t) := by
  intro pins s σ H Q I h
  refine wpAny_Call_Name_kw (Az9Y I hg hm ?_ hdb)
  refine PySem.W.callWith_K (h₀ := X.base) I.ok.mod.kin M.kp (thn (ha pos pins s σ H _ I h) fun us s1 ⟨vs, H1, I1, r, q⟩ => ⟨I1.kIn, ?_⟩) he hpl
  exact Bz7T M F hr hb hd hx I1 r q
end
section
variable {X : Cx} {CX : CXT} {k : Nat} {f C : Addr} {fd : FuncData} {ps ks : List Str} {sp : Sp} {E : XK} {x m : Str} {p pos apos kpos : Pos} {e o : Expr} {es : List Expr} {kws : List Keyword} {te ta : TE} {t tk : TA} {nm : Option Str}
structure KBinds (K : PySem.W.Frag) (fd : FuncData) (ps ks : List Str) (g : List Value → List Value → List Value) (gV : List V → List V → List V) : Prop where
  to : ∀ (s : Shared) (us ws : List Value), K.In s.heap → (g us ws).length = ps.length → BindsTo s fd ⟨us, ks.zip ws⟩ (ps.zip (g us ws))
  rel : ∀ {vs : List V} {us : List Value} {zs : List V} {ws : List Value}, Vals vs us → Vals zs ws → Vals (gV vs zs) (g us ws)
variable {g : List Value → List Value → List Value} {gV : List V → List V → List V}
end
structure FnScope (N P : List Str) (sc : Scope) : Prop where
  kind : sc.kind = .function
  co : sc.isCoroutine = false
  gen : sc.isGenerator = false
  nd : N.Nodup
  pre : N.take P.length = P
  par : ∀ x ∈ P, sc.names.lookup x = some .local ∨ sc.names.lookup x = some .cell
  nofree : ∀ y ∈ sc.names, y.2 ≠ .free
theorem Bz0U {kindOf : Str → Option NameKind} {x : Str} : ∀ {binds : List (Str × Value)} {m : Str → Option Value}, (∀ v, (x, v) ∉ binds) → bindL kindOf binds m x = m x
  | [], _, _ => rfl
  | (n, v) :: r, m, h => by
    unfold bindL
    rw [Bz0U fun w hw => h w (List.mem_cons_of_mem _ hw)]
    split
    · have : x ≠ n := by rintro rfl; exact h v List.mem_cons_self
      simp [this]
    · rfl
theorem Bz0W {kindOf : Str → Option NameKind} {x : Str} : ∀ {binds : List (Str × Value)} {m : Str → Option Value}, (∀ v, (x, v) ∉ binds) → bindC kindOf binds m x = m x
  | [], _, _ => rfl
  | (n, v) :: r, m, h => by
    unfold bindC
    rw [Bz0W fun w hw => h w (List.mem_cons_of_mem _ hw)]
    split
    · rfl
    · have : x ≠ n := by rintro rfl; exact h v List.mem_cons_self
      simp [this]
theorem Bz0V {kindOf : Str → Option NameKind} {x : Str} {v : Value} : ∀ {P : List Str} {vs : List Value} {i : Nat} {m : Str → Option Value}, P.Nodup → P[i]? = some x → vs[i]? = some v → kindOf x = some .local →
    bindL kindOf (P.zip vs) m x = some v
  | [], _, _, _, _, h, _, _ => by simp at h
  | _ :: _, [], _, _, _, _, h, _ => by simp at h
  | p :: P, w :: vs, 0, m, nd, h1, h2, hk => by
    simp at h1 h2; subst h1; subst h2
    show bindL kindOf ((p, w) :: P.zip vs) m p = _
    unfold bindL
    rw [Bz0U fun v hv => (List.nodup_cons.mp nd).1 (List.of_mem_zip hv).1, if_pos hk]
    simp
  | p :: P, w :: vs, i + 1, m, nd, h1, h2, hk => by
    show bindL kindOf ((p, w) :: P.zip vs) m x = _
    unfold bindL
    exact Bz0V (i := i) (List.nodup_cons.mp nd).2 (by simpa using h1) (by simpa using h2) hk
theorem Bz0X {kindOf : Str → Option NameKind} {x : Str} {v : Value} : ∀ {P : List Str} {vs : List Value} {i : Nat} {m : Str → Option Value}, P.Nodup → P[i]? = some x → vs[i]? = some v → kindOf x ≠ some .local →
    bindC kindOf (P.zip vs) m x = some v
  | [], _, _, _, _, h, _, _ => by simp at h
  | _ :: _, [], _, _, _, _, h, _ => by simp at h
  | p :: P, w :: vs, 0, m, nd, h1, h2, hk => by
    simp at h1 h2; subst h1; subst h2
    show bindC kindOf ((p, w) :: P.zip vs) m p = _
    unfold bindC
    rw [Bz0W fun v hv => (List.nodup_cons.mp nd).1 (List.of_mem_zip hv).1, if_neg hk]
    simp
  | p :: P, w :: vs, i + 1, m, nd, h1, h2, hk => by
    show bindC kindOf ((p, w) :: P.zip vs) m x = _
    unfold bindC
    exact Bz0X (i := i) (List.nodup_cons.mp nd).2 (by simpa using h1) (by simpa using h2) hk
noncomputable def start (N : List Str) (vs : List V) : St := vs.map some ++ List.replicate (N.length - vs.length) none
noncomputable def cxOf (CX : CXT) (P : Program) (w : World) (K : PySem.W.Frag) (mg : Str → Option Value) (base : Heap) (N : List Str) (qual : Str) (scope : Scope) (f : Addr) (cd : Value) (A : Around) (outer : List Env) (s : Shared) (H : Hp) (E : XK) : Cx where
  prog := P
  w := w
  K := K
  mg := mg
  base := base
  A := A.deeper (envOfC qual scope s.heap.objs.size f cd)
  N := N
  s₀ := s
  H₀ := H
  env := envOfC qual scope s.heap.objs.size f cd
  outer := outer
  stack := envOfC qual scope s.heap.objs.size f cd :: outer
  ex := []
  calm := true
  fn := fun _ => true
  pn := []
  xe := fun e s' => wpAny (model P w) (A.deeper (envOfC qual scope s.heap.objs.size f cd)) (leaving (envOfC qual scope s.heap.objs.size f cd) e) (fun _ s'' => CX outer H s E e s'') (fun e' s'' => CX outer H s E e' s'') s'
theorem Bz4K {sc : Scope} {n : Nat} {x : Str} (h : sc.names.lookup x = some .cell) : ∃ c, (cellsFrom n sc.names []).lookup x = some c := by
  have q := PySem.W.cellsFrom_some sc.names n [] (.inl h)
  exact Option.isSome_iff_exists.mp q
theorem Bz5Y {CX : CXT} {P : Program} {w : World} {K : PySem.W.Frag} {mg : Str → Option Value} {base : Heap} {N ps : List Str} {qual : Str} {scope : Scope} {f : Addr} {cd : Value} {A : Around} {outer : List Env} {s s1 : Shared} {H : Hp} {E : XK} {us : List Value} {vs : List V}
    (S : FnScope N ps scope) (hd : A.handled = none) (e0 : Env0 P w K mg base A outer s H) (hl : vs.length = ps.length) (r : Vals vs us)
    (x : InCallC s s.heap.objs.size (bindL (envOfC qual scope s.heap.objs.size f cd).kindOf (ps.zip us) fun _ => none) (cellsFrom (s.heap.objs.size + 1) scope.names []) (bindC (envOfC qual scope s.heap.objs.size f cd).kindOf (ps.zip us) fun _ => none) s1) :
    Inv (cxOf CX P w K mg base N qual scope f cd A outer s H E) [] (start N vs) H s1 := by
  have hpl : ps.length ≤ N.length := by have := congrArg List.length S.pre; rw [List.length_take] at this; omega
  obtain ⟨h1, tk, rfl, hk⟩ := x.done
  have noA : ∀ b : Addr, b ∉ (cxOf CX P w K mg base N qual scope f cd A outer s H E).ex := fun b z => absurd (show b ∈ ([] : List Addr) from z) (by simp)
  refine ⟨⟨e0.mod, S.kind, rfl, rfl, Nat.le_refl _, fun y z c h1 h2 => ?_, fun y hy => ?_, fun y c _ h => ?_, fun _ => hd, Around.frames_deeper e0.frames, .inr ⟨rfl, rfl⟩, fun b z => absurd z (noA b), e0.bs, e0.bsz, fun b _ _ => noA b, fun b z => absurd z (noA b), e0.funs, e0.frf⟩,
    rfl, e0.bare, Un.kept hk, ⟨_, x.toInCall.ns, fun i y v h1 h2 h3 => ?_⟩, fun y c h => ⟨_, x.cell y c h⟩, e0.hok.fresh (Nat.le_refl _), fun y c h => ?_, fun p hp => absurd (show p ∈ ([] : List (Addr × Obj)) from hp) (by simp), e0.hok.kept hk, ?_⟩
  · exact name_of_addr x.apart (PySem.mem_of_lookup h1) (PySem.mem_of_lookup h2)
  · have hy : scope.names.lookup y = some .cell ∨ scope.names.lookup y = some .free := hy
    rcases hy with hy | hy
    · exact Bz4K hy
    · exact absurd rfl (S.nofree _ (PySem.mem_of_lookup hy))
  · exact Nat.le_of_lt (x.above y c (PySem.mem_of_lookup h))
  · have hi : i < vs.length := by
      unfold start at h2
      by_cases hi : i < vs.length
      · exact hi
      · rw [List.getElem?_append_right (by simpa using hi)] at h2
        rw [List.getElem?_replicate] at h2
        split at h2 <;> cases h2
    have ha : vs[i]? = some v := by
      unfold start at h2
      rw [List.getElem?_append_left (by simpa using hi), List.getElem?_map] at h2
      cases e : vs[i]? with
      | none => rw [e] at h2; cases h2
      | some a => rw [e] at h2; cases h2; rfl
    obtain ⟨u, hu, rv⟩ := r.get ha
    have hp : ps[i]? = some y := by
      rw [← S.pre, List.getElem?_take_of_lt (by omega)]; exact h1
    have ndP : ps.Nodup := by rw [← S.pre]; exact S.nd.sublist (List.take_sublist _ _)
    refine ⟨u, rv, ?_⟩
    rcases S.par y (List.mem_of_getElem? hp) with k | k
    · exact .inl ⟨k, Bz0V ndP hp hu k⟩
    · obtain ⟨c, e⟩ := Bz4K (n := s.heap.objs.size + 1) k
      refine .inr ⟨.inl k, c, e, ?_⟩
      have q := x.cell y c e
      rw [Bz0X ndP hp hu (by show scope.names.lookup y ≠ _; rw [k]; decide)] at q
      exact q
  · exact e0.hok.fresh (Nat.le_of_lt (x.above y c (PySem.mem_of_lookup h)))
  · unfold start
    show _ = N.length
    rw [List.length_append, List.length_map, List.length_replicate]
    omega
theorem fn_of {CX : CXT} {P : Program} {w : World} {K : PySem.W.Frag} {mg : Str → Option Value} {base : Heap} {k : Nat} {f : Addr} {name qual : Str} {params : Arguments} {body : List Stmt} {scope : Scope} {dV kV doc pm cdv ct oc : Value} {an od : Option Addr}
    {osl : Array (Option Value)} {N ps : List Str} {sp : Sp} (lk : K.lookup f = some ⟨oc, od, .func (PySem.W.fnOf name qual params body scope dV kV doc pm an cdv ct), osl⟩) (hcd : PySem.W.codeIn K cdv qual = true) (S : FnScope N ps scope)
    (len : ∀ vs H Q E, sp vs H Q E → vs.length = ps.length)
    (hbody : ∀ (A : Around) (outer : List Env) (s : Shared) (H : Hp) (vs : List V) (Q : VK) (E : XK), Room k (A.deeper (envOfC qual scope s.heap.objs.size f cdv)) → sp vs H Q E →
      ∃ t, PSs (cxOf CX P w K mg base N qual scope f cdv A outer s H E) body t ∧ t { nx := fun _ H' => Q .non H', rt := Q } (start N vs) H) :
    FnOk P w K mg base CX (k + 1) f (PySem.W.fnOf name qual params body scope dV kV doc pm an cdv ct) ps sp := by
  refine ⟨len, fun A outer s H args us vs Q E hr e0 hb r hsp => ?_⟩
  have hl := len _ _ _ _ hsp
  have KX : K.In s.heap := e0.mod.kin.keeps fun b o e => (e0.bs b o e).1
  have lim : s.heap.NoLimit := e0.mod.nolimit.keeps fun b o e => (e0.bs b o e).1
  have hkind : ∀ y ∈ ps.zip us, scope.names.lookup y.1 = some .local ∨ (scope.names.lookup y.1 = some .cell ∧ ((cellsFrom (s.heap.objs.size + 1) scope.names []).lookup y.1).isSome = true) := fun ⟨n, v⟩ hy => by
    rcases S.par n (List.of_mem_zip hy).1 with q | q
    · exact .inl q
    · exact .inr ⟨q, PySem.W.cellsFrom_some _ _ _ (.inl q)⟩
  refine codeAny_call_function hr.depth (KX _ _ lk) rfl S.co S.gen rfl (PySem.W.codeRec_of KX hcd) (hb _ _ _ _ ?_)
  refine wpAny_newFunctionEnv_cells S.kind hkind fun env he s1 x => ?_
  subst he
  refine ⟨lim.keeps x.toInCall.keep, codeAny_func ?_⟩
  obtain ⟨t, ht, hq⟩ := hbody A outer s H vs Q E (hr.deeper _) hsp
  have I : Inv (cxOf CX P w K mg base N qual scope f cdv A outer s H E) [] (start N vs) H s1 := Bz5Y S hr.hd e0 hl r x
  refine wpAny_mono (ht [] s1 (start N vs) H _ I hq) (fun fl s' hs => ?_) fun e s' hs => hs
  have fin : ∀ {σ' : St} {H' : Hp} {v : V} {u : Value}, Inv (cxOf CX P w K mg base N qual scope f cdv A outer s H E) [] σ' H' s' → RelV v u → Q v H' → CE outer P w H s Q u s' :=
    fun {σ' H' v u} J rv q => ⟨v, H', J.os, J.bare, J.base, J.hok, rv, q⟩
  cases fl with
  | ret u =>
    obtain ⟨v, σ', H', J, rv, q⟩ := hs
    exact fin J rv q
  | next =>
    obtain ⟨σ', H', J, q⟩ := hs
    exact fin (v := V.non) (u := Value.none) J rfl q
  | brk =>
    obtain ⟨_, _, _, q⟩ := hs
    exact False.elim q
  | cont =>
    obtain ⟨_, _, _, q⟩ := hs
    exact False.elim q
end L2
namespace L2
open PySem PySem.Spec PyProof.Rows
section
variable {X : Cx} {x : Str} {p pos : Pos} {e : Expr} {es : List Expr} {t : TA} {id T : String} {r : List V → Hp → VK → Prop}
noncomputable def tCB (r : List V → Hp → VK → Prop) (t : TA) : TE := fun σ H Q => t σ H fun vs H1 => r vs H1 Q
theorem Bz2S (hc : CallR X (.builtin id) r) (hg : Gl X x) (hm : X.mg x = none) (hv : bootBuiltins x = some (.builtin id)) (ha : PA X (e :: es) t) (hn : autoParam (x ≠ "__name__") slim1._auto_1) (hdb : autoParam ((x == ("__debug__" : Str)) = false) slim1._auto_1)
    (he : autoParam (starEach (e :: es) X.env = (false, eval e X.env) :: starEach es X.env) slim0._auto_1) (hpl : autoParam ((backTo pos (starEach es X.env)).any (·.1) = false) slim0._auto_1) : PE X (.Call (.Name x p) (e :: es) [] pos) (tCB r t) := by
  intro pins s σ H Q I h
  refine wpAny_Call_Name_kw (ld_blt I hg hm hv ?_ hn hdb)
  exact PyProof.Rows.callWith_builtin1 (thn (ha pos pins s σ H _ I h) fun us s1 ⟨vs, H1, I1, r1, q1⟩ => hc pins s1 σ H1 vs us Q I1 r1 q1) he hpl
theorem Az9S (hc : CallR X (.type T) r) (hg : Gl X x) (hm : X.mg x = none) (hv : bootBuiltins x = some (.type T)) (ha : PA X (e :: es) t) (hn : autoParam (x ≠ "__name__") slim1._auto_1) (hdb : autoParam ((x == ("__debug__" : Str)) = false) slim1._auto_1)
    (he : autoParam (starEach (e :: es) X.env = (false, eval e X.env) :: starEach es X.env) slim0._auto_1) (hpl : autoParam ((backTo pos (starEach es X.env)).any (·.1) = false) slim0._auto_1) : PE X (.Call (.Name x p) (e :: es) [] pos) (tCB r t) := by
  intro pins s σ H Q I h
  refine wpAny_Call_Name_kw (ld_blt I hg hm hv ?_ hn hdb)
  exact PyProof.Rows.callWith_type1 (thn (ha pos pins s σ H _ I h) fun us s1 ⟨vs, H1, I1, r1, q1⟩ => hc pins s1 σ H1 vs us Q I1 r1 q1) he hpl
end
end L2
namespace HT
open PySem PyProof.Rows
section
open PySem.SeqAt
open PySem.AutoSeq1 (wpAny_loadPart')
open PySem.MeetsSeq PySem.MeetsSeq2 PySem.MeetsSeq3
end
section
variable {prog : Program} {w : World} {A : Around} {E : Value → Shared → Prop} {s : Shared}
theorem cat_tup {t b : Addr} {vs ws : List Value} {Q : Value → Shared → Prop} (ht : IsTup s.heap t vs.toArray) (hb : IsTup s.heap b ws.toArray) (hv : vs ≠ [])
    (h1 : ws = [] → Q (.ref t) s) (h2 : ws ≠ [] → Q (.ref s.heap.objs.size) { s with heap := s.heap.push { cls := .type "tuple", data := .seq (vs ++ ws).toArray } })
    (hsz : vs.length + ws.length ≤ sizeLine) : wpAny (model prog w) A (binaryOp .Add (.ref t) (.ref b)) Q E s := by
  obtain ⟨⟨cls, dd, data, sl⟩, ho, hc, n, hd⟩ := id ht
  obtain ⟨⟨cls2, dd2, data2, sl2⟩, ho2, hc2, n2, hd2⟩ := id hb
  simp only at hc hd hc2 hd2
  subst hc hd hc2 hd2
  have e : vs.toArray ++ ws.toArray = (vs ++ ws).toArray := by simp
  by_cases hw : ws = []
  · exact concat_meets ⟨_, ho, rfl⟩ ⟨_, ho2, rfl⟩ noFill_tuple_add seq_tuple_add PySem.F.slot_tuple_add PySem.F.entry_tuple_add (PySem.F.args_tuple_add_2 _ _)
      (tuple_addW1 t b vs.toArray ws.toArray n n2 dd dd2 sl sl2 (by simpa using hv) (by simp [hw])) ⟨ho, ho2, h1 hw⟩
  · refine concat_meets ⟨_, ho, rfl⟩ ⟨_, ho2, rfl⟩ noFill_tuple_add seq_tuple_add PySem.F.slot_tuple_add PySem.F.entry_tuple_add (PySem.F.args_tuple_add_2 _ _)
      (tuple_addW2 t b vs.toArray ws.toArray n n2 dd dd2 sl sl2 (by simpa using hv) (by simpa using hw) (by rw [List.size_toArray, List.size_toArray]; exact hsz)) ⟨ho, ho2, ?_⟩
    rw [e]
    exact h2 hw
noncomputable def sIx (n d : Nat) : Option Int → Nat
  | none => d
  | some v => if v < 0 then (v + (n : Int)).toNat else min v.toNat n
end
end HT
namespace L2
open PySem PySem.Spec PyProof.Rows
noncomputable abbrev TO := St → Hp → (Option Int → Hp → Prop) → Prop
noncomputable def PO (X : Cx) (e : Option Expr) (t : TO) : Prop :=
  ∀ (pins : List (Addr × Obj)) (s : Shared) (σ : St) (H : Hp) (Q : Option Int → Hp → Prop), Inv X pins σ H s → t σ H Q →
    wpAny (model X.prog X.w) X.A (evalPart e X.env) (fun u s' => ∃ o H', Inv X pins σ H' s' ∧ IsPart u o ∧ Q o H') X.xe s
noncomputable def tPart (t : TE) : TO := fun σ H Q => t σ H fun x H1 => ∃ i, x = .int i ∧ Q (some i) H1
section
variable {X : Cx} {e : Expr} {te : TE} {lo hi : Option Expr} {tl th : TO} {pos p2 : Pos}
theorem Cz0O (h : PE X e te) : PO X (some e) (tPart te) := by
  intro pins s σ H Q I hw
  rw [evalPart_some]
  refine thn (h pins s σ H _ I hw) fun u s1 ⟨x, H1, I1, r1, q1⟩ => ?_
  obtain ⟨i, rfl, q⟩ := q1
  obtain ⟨t, rfl⟩ := r1
  exact ⟨some i, H1, I1, .int i t, q⟩
noncomputable def SlR (X : Cx) (r : V → Option Int → Option Int → Hp → VK → Prop) : Prop :=
  ∀ (pins : List (Addr × Obj)) (s : Shared) (σ : St) (H : Hp) (x : V) (v vl vu : Value) (lo hi : Option Int) (sl : Addr) (Q : VK), Inv X pins σ H s → RelV x v → s.heap.IsSliceOf sl vl vu .none → IsPart vl lo → IsPart vu hi → r x lo hi H Q →
    ∃ T id, typeLookup (.type T) "__getitem__" = pure (some (.builtin id)) ∧ s.TypeIs v T ∧ wpAny (model X.prog X.w) X.A (getItem v (.ref sl)) (EP X pins σ Q) X.xe s
theorem SlR.or {r r' : V → Option Int → Option Int → Hp → VK → Prop} (h : SlR X r) (h' : SlR X r') : SlR X (fun x lo hi H Q => r x lo hi H Q ∨ r' x lo hi H Q) := by
  intro pins s σ H x v vl vu lo hi sl Q I rx hs pl pu q
  rcases q with q | q
  · exact h pins s σ H x v vl vu lo hi sl Q I rx hs pl pu q
  · exact h' pins s σ H x v vl vu lo hi sl Q I rx hs pl pu q
noncomputable def tSl (r : V → Option Int → Option Int → Hp → VK → Prop) (te : TE) (tl th : TO) : TE := fun σ H Q => te σ H fun x H1 => tl σ H1 fun l H2 => th σ H2 fun u H3 => r x l u H3 Q
theorem Bz7Z {r : V → Option Int → Option Int → Hp → VK → Prop} (hr : SlR X r) (he : PE X e te) (hl : PO X lo tl) (hu : PO X hi th) : PE X (.Subscript e (.Slice lo hi none p2) pos) (tSl r te tl th) := by
  intro pins s σ H Q I h
  refine Subscript_ (thn (he pins s σ H _ I h) fun v s1 ⟨x, H1, I1, r1, q1⟩ => ?_)
  refine wpAny_Slice (thn (hl pins s1 σ H1 _ I1 q1) fun vl s2 ⟨l, H2, I2, pl, q2⟩ => thn (hu pins s2 σ H2 _ I2 q2) fun vu s3 ⟨u, H3, I3, pu, q3⟩ => ?_)
  rw [evalPart_none]
  refine wpAny_pure ?_
  have I4 : Inv X pins σ H3 { s3 with heap := s3.heap.push { cls := .type "slice", data := .fields #[vl, vu, .none] } } := I3.kept (t' := s3.toks) fun b ob q => Heap.get?_push_of_some _ q
  obtain ⟨T, id, hT, ht, hg⟩ := hr pins { s3 with heap := s3.heap.push { cls := .type "slice", data := .fields #[vl, vu, .none] } } σ H3 x v vl vu l u s3.heap.objs.size Q I4 r1 (Heap.IsSliceOf.new ..) pl pu q3
  show wpAny (model X.prog X.w) X.A (subscriptTail e (.Slice lo hi none p2) v (.ref s3.heap.objs.size)) (EP X pins σ Q) X.xe { s3 with heap := s3.heap.push { cls := .type "slice", data := .fields #[vl, vu, .none] } }
  exact tail_any (ops := [.ref s3.heap.objs.size, v]) ht hT hg (by with_unfolding_all rfl)
noncomputable def cutV (xs : List V) (lo hi : Option Int) : List V := (xs.drop (HT.sIx xs.length 0 lo)).take (HT.sIx xs.length xs.length hi - HT.sIx xs.length 0 lo)
theorem Bz1S (xs : List V) (lo hi : Option Int) : (cutV xs lo hi).length ≤ xs.length := by
  unfold cutV
  rw [List.length_take, List.length_drop]
  omega
noncomputable def rCatT (K : PySem.W.Frag) : R2 := fun x y H Q => ∃ a b xs ys, x = .ref a ∧ y = .ref b ∧ SqT K H a xs ∧ SqT K H b ys ∧ xs ≠ [] ∧ xs.length + ys.length ≤ sizeLine ∧
  (ys = [] → Q (.ref a) H) ∧ (ys ≠ [] → ∀ p, H p = none → Q (.ref p) (upd H p (.tup (xs ++ ys))))
theorem Vals.nil_iff {xs : List V} {us : List Value} (r : Vals xs us) : us = [] ↔ xs = [] := by
  cases r with
  | nil => simp
  | cons _ _ => simp
theorem Cz1D : OpR X (binaryOp .Add) (rCatT X.K) := by
  intro pins s σ H x y v u Q I rx ry h
  obtain ⟨a, b, xs, ys, rfl, rfl, ha, hb, hx, hz, q1, q2⟩ := h
  cases rx
  cases ry
  obtain ⟨its, r1, p1, _⟩ := I.tuple ha
  obtain ⟨its2, r2, p2, _⟩ := I.tuple hb
  refine HT.cat_tup p1 p2 (fun z => hx (r1.nil_iff.mp z)) (fun z => ⟨.ref a, H, I, rfl, q1 (r2.nil_iff.mp z)⟩) (fun z => ?_) (by rw [← r1.length, ← r2.length]; exact hz)
  refine ⟨.ref s.heap.objs.size, _, I.laid (t' := s.toks) (o := .tup (xs ++ ys)) (fun b ob q => Heap.get?_push_of_some _ q) (Nat.le_refl _) ?_, rfl, q2 (fun w => z (r2.nil_iff.mpr w)) _ (I.hok.fresh (Nat.le_refl _))⟩
  exact ⟨by rw [List.length_append]; exact hz, _, r1.append r2, IsTup.new _ _⟩
end
end L2
namespace L2
open PySem PySem.Spec PyProof.Rows
noncomputable def ixN (n : Nat) (i : Int) : Option Nat := if 0 ≤ i then (if i < n then some i.toNat else none) else if -(n : Int) ≤ i then some (i + n).toNat else none
noncomputable def atI {α : Type} (xs : List α) (i : Int) : Option α := (ixN xs.length i).bind fun j => xs[j]?
theorem Cz1X {n : Nat} {i : Int} {j : Nat} (h : ixN n i = some j) : seqIndex? i n = some j ∧ j < n ∧ -(n : Int) ≤ i ∧ i < n := by
  unfold ixN at h
  by_cases h0 : 0 ≤ i
  · rw [if_pos h0] at h
    by_cases h1 : i < n
    · rw [if_pos h1] at h
      have e : i.toNat = j := Option.some.inj h
      exact ⟨by rw [seqIndex_of h0 h1, e], by omega, by omega, h1⟩
    · rw [if_neg h1] at h; cases h
  · rw [if_neg h0] at h
    by_cases h1 : -(n : Int) ≤ i
    · rw [if_pos h1] at h
      have e : (i + n).toNat = j := Option.some.inj h
      exact ⟨by rw [seqIndex_neg (by omega) h1, e], by omega, h1, by omega⟩
    · rw [if_neg h1] at h; cases h
theorem Bz4S {α : Type} {xs : List α} {i : Int} {v : α} (h : atI xs i = some v) : ∃ j, seqIndex? i xs.length = some j ∧ xs[j]? = some v ∧ j < xs.length ∧ -(xs.length : Int) ≤ i ∧ i < xs.length := by
  unfold atI at h
  cases e : ixN xs.length i with
  | none => rw [e] at h; cases h
  | some j =>
    rw [e] at h
    obtain ⟨h1, h2, h3, h4⟩ := Cz1X e
    exact ⟨j, h1, h, h2, h3, h4⟩
theorem atI_last {α : Type} (xs : List α) (v : α) : atI (xs ++ [v]) (-1) = some v := by
  have hl : (xs ++ [v]).length = xs.length + 1 := by simp
  have e : ixN (xs ++ [v]).length (-1) = some xs.length := by
    unfold ixN
    rw [hl, if_neg (by decide), if_pos (by omega)]
    congr 1
    omega
  unfold atI
  rw [e]
  show (xs ++ [v])[xs.length]? = some v
  simp
noncomputable def Az8R (b : Expr) : Prop := ∀ o i, subscripted b false o i = operate [o, i] (getItem o i)
noncomputable def IxR (X : Cx) (r : R2) : Prop :=
  ∀ (value slice : Expr) (pins : List (Addr × Obj)) (s : Shared) (σ : St) (H : Hp) (x y : V) (v u : Value) (Q : VK), Inv X pins σ H s → RelV x v → RelV y u → r x y H Q →
    subscripted slice false v u = operate [v, u] (getItem v u) → wpAny (model X.prog X.w) X.A (subscriptTail value slice v u) (EP X pins σ Q) X.xe s
noncomputable def MtR (X : Cx) (id : String) (r : V → List V → Hp → VK → Prop) : Prop :=
  ∀ (pins : List (Addr × Obj)) (s : Shared) (σ : St) (H : Hp) (x : V) (xs : List V) (v : Value) (us : List Value) (Q : VK), Inv X pins σ H s → RelV x v → Vals xs us → r x xs H Q →
    wpAny (model X.prog X.w) X.A (call (.builtin id) (v :: us)) (EP X pins σ Q) X.xe s
section
variable {X : Cx} {a b : Expr} {ta tb : TE} {pos : Pos}
theorem IxR.or {r r' : R2} (h : IxR X r) (h' : IxR X r') : IxR X (fun x y H Q => r x y H Q ∨ r' x y H Q) := by
  intro value slice pins s σ H x y v u Q I rx ry q hs
  rcases q with q | q
  · exact h value slice pins s σ H x y v u Q I rx ry q hs
  · exact h' value slice pins s σ H x y v u Q I rx ry q hs
theorem MtR.or {id : String} {r r' : V → List V → Hp → VK → Prop} (h : MtR X id r) (h' : MtR X id r') : MtR X id (fun x xs H Q => r x xs H Q ∨ r' x xs H Q) := by
  intro pins s σ H x xs v us Q I rx rs q
  rcases q with q | q
  · exact h pins s σ H x xs v us Q I rx rs q
  · exact h' pins s σ H x xs v us Q I rx rs q
theorem pe_ix {r : R2} (hr : IxR X r) (ha : PE X a ta) (hb : PE X b tb) (hs : Az8R b) : PE X (.Subscript a b pos) (tOp r ta tb) := by
  intro pins s σ H Q I h
  exact Subscript_ (binT ha hb I h fun v u s2 x y H2 I2 rx ry q => hr a b pins s2 σ H2 x y v u Q I2 rx ry q (hs _ _))
noncomputable def rIxL (K : PySem.W.Frag) : R2 := fun x y H Q => ∃ p xs i v, x = .ref p ∧ y = .int i ∧ SqL K H p xs ∧ atI xs i = some v ∧ Q v H
noncomputable def rIxT (K : PySem.W.Frag) : R2 := fun x y H Q => ∃ p xs i v, x = .ref p ∧ y = .int i ∧ SqT K H p xs ∧ atI xs i = some v ∧ Q v H
noncomputable def rIxS : R2 := fun x y H Q => ∃ z i c, x = .str z ∧ y = .int i ∧ z.length ≤ sizeLine ∧ atI z.cps.toList i = some c ∧ Q (.str ⟨#[c]⟩) H
theorem ix_list : IxR X (rIxL X.K) := by
  intro value slice pins s σ H x y v u Q I rx ry h hs
  obtain ⟨p, xs, i, z, rfl, rfl, hq, he, q⟩ := h
  cases rx
  obtain ⟨t, rfl⟩ := ry
  obtain ⟨its, r, pl, hz⟩ := I.list hq
  obtain ⟨j, h1, h2, h3, h4, h5⟩ := Bz4S he
  obtain ⟨w, ew, rw'⟩ := r.get h2
  have hl := r.length
  have hn := line63
  have fin : EP X pins σ Q w s := ⟨z, H, I, rw', q⟩
  by_cases h0 : 0 ≤ i
  · have hj : i.toNat = j := by
      rw [seqIndex_of h0 h5] at h1
      exact Option.some.inj h1
    exact item_listR pl.isList h0 (by omega) (by rw [hj]; simpa using ew) fin hs
  · have hj : (i + (its.toArray.size : Int)).toNat = j := by
      rw [seqIndex_neg (by omega) h4] at h1
      rw [List.size_toArray, ← hl]
      exact Option.some.inj h1
    exact subscriptTail_builtinR (x := w) pl.isList.typeIs slot_list_getitem.lookup
      (wpAny_getItem_list_neg (Q := fun r s' => r = w ∧ EP X pins σ Q r s') pl.isList (by omega) (by rw [List.size_toArray] <;> omega) (by omega) (by rw [hj]; simpa using ew) ⟨rfl, fin⟩) hs
theorem ix_tup : IxR X (rIxT X.K) := by
  intro value slice pins s σ H x y v u Q I rx ry h hs
  obtain ⟨p, xs, i, z, rfl, rfl, hq, he, q⟩ := h
  cases rx
  obtain ⟨t, rfl⟩ := ry
  obtain ⟨its, r, pl, hz⟩ := I.tuple hq
  obtain ⟨j, h1, h2, h3, h4, h5⟩ := Bz4S he
  obtain ⟨w, ew, rw'⟩ := r.get h2
  have hl := r.length
  have hn := line63
  have fin : EP X pins σ Q w s := ⟨z, H, I, rw', q⟩
  exact subscriptTail_builtinR (x := w) pl.typeIs slot_tuple_getitem.lookup
    (getItem_tuple (j := j) (Q := fun r s' => r = w ∧ EP X pins σ Q r s') pl (by omega) (by omega) (by rw [List.size_toArray, ← hl]; exact h1) (by simpa using ew) ⟨rfl, fin⟩) hs
theorem ix_str : IxR X rIxS := by
  intro value slice pins s σ H x y v u Q I rx ry h hs
  obtain ⟨z, i, c, rfl, rfl, hz, he, q⟩ := h
  obtain ⟨t, rfl⟩ := rx
  obtain ⟨t', rfl⟩ := ry
  obtain ⟨j, h1, h2, h3, h4, h5⟩ := Bz4S he
  have hl : z.cps.toList.length = z.length := by simp [Str.length]
  rw [hl] at h1 h4 h5
  have hn := line63
  exact tail_any (typeIs_str s z t) slot_str_getitem.lookup (getItem_str (c := c) (by
    have e1 : decide (i < -(2 ^ 63 : Int)) = false := decide_eq_false (by omega)
    have e2 : decide (i ≥ 2 ^ 63) = false := decide_eq_false (by omega)
    rw [e1, e2, Bool.or_false]) (by rw [h1]; simpa using h2) ⟨.str ⟨#[c]⟩, H, I.tok _, ⟨_, rfl⟩, q⟩) hs
noncomputable def rIx (K : PySem.W.Frag) : R2 := fun x y H Q => rIxL K x y H Q ∨ rIxT K x y H Q ∨ rIxS x y H Q
theorem ix_seq : IxR X (rIx X.K) := ix_list.or (ix_tup.or ix_str)
theorem Inv.lst {pins : List (Addr × Obj)} {σ : St} {H : Hp} {s : Shared} {p : Addr} {xs : List V} (I : Inv X pins σ H s) (h : H p = some (.lst xs)) :
    ∃ (its : List Value) (n : Nat), Vals xs its ∧ s.heap.get? p = some { cls := .type "list", data := .seq its.toArray n } ∧ xs.length ≤ sizeLine := by
  obtain ⟨z, its, n, r, e⟩ := I.hok p _ h
  exact ⟨its, n, r, e, z⟩
theorem Az8T (lo hi : Option Int) (n : Nat) : (sliceBounds lo hi none n).1 = ((HT.sIx n 0 lo : Nat) : Int) ∧ (sliceBounds lo hi none n).2.1 = ((HT.sIx n n hi : Nat) : Int) ∧ (sliceBounds lo hi none n).2.2 = 1 := by
  refine ⟨?_, ?_, rfl⟩
  · cases lo with
    | none => simp [sliceBounds, HT.sIx]
    | some i =>
      simp only [sliceBounds, HT.sIx, Option.getD_none, show (1 : Int) > 0 by decide, if_true]
      by_cases h : i < 0
      · simp only [h, if_true] <;> omega
      · simp only [h, if_false] <;> omega
  · cases hi with
    | none => simp [sliceBounds, HT.sIx]
    | some i =>
      simp only [sliceBounds, HT.sIx, Option.getD_none, show (1 : Int) > 0 by decide, if_true]
      by_cases h : i < 0
      · simp only [h, if_true] <;> omega
      · simp only [h, if_false] <;> omega
theorem Az7M (its : List Value) (lo hi : Option Int) : slicePick its.toArray lo hi none = ((its.drop (HT.sIx its.length 0 lo)).take (HT.sIx its.length its.length hi - HT.sIx its.length 0 lo)).toArray := by
  obtain ⟨h1, h2, h3⟩ := Az8T lo hi its.toArray.size
  unfold slicePick
  rw [h1, h2, h3]
  simp only [sliceRange_one, pick_run, List.size_toArray] <;> rfl
noncomputable def rSlL (K : PySem.W.Frag) : V → Option Int → Option Int → Hp → VK → Prop := fun x lo hi H Q => ∃ a xs, x = .ref a ∧ SqL K H a xs ∧ ∀ p, H p = none → Q (.ref p) (upd H p (.lst (cutV xs lo hi)))
theorem Bz9Y : SlR X (rSlL X.K) := by
  intro pins s σ H x v vl vu lo hi sl Q I rx hs pl pu h
  obtain ⟨a, xs, rfl, hx, q⟩ := h
  cases rx
  obtain ⟨its, r, ht, hz⟩ := I.list hx
  have hlen := r.length
  refine ⟨"list", _, slot_list_getitem.lookup, ht.isList.typeIs, ?_⟩
  refine wpAny_getItem_list_slice ht.isList hs pl pu .none (by simp) ?_ (by rw [List.size_toArray] <;> omega)
  rw [Az7M, ← hlen]
  refine ⟨.ref s.heap.objs.size, _, I.laid (t' := s.toks) (o := .lst (cutV xs lo hi)) (fun b ob q => Heap.get?_push_of_some _ q) (Nat.le_refl _) ?_, rfl, q _ (I.hok.fresh (Nat.le_refl _))⟩
  exact ⟨Nat.le_trans (Bz1S xs lo hi) hz, _, 0, (r.drop (HT.sIx xs.length 0 lo)).take (HT.sIx xs.length xs.length hi - HT.sIx xs.length 0 lo), Heap.get?_push_size _ rfl⟩
noncomputable def flatV : V → Bool
  | .non => true
  | .bl _ => true
  | .int _ => true
  | .str _ => true
  | _ => false
noncomputable def eqV : V → V → Bool
  | .non, .non => true
  | .bl a, .bl b => a == b
  | .bl a, .int b => (if a then 1 else 0) == b
  | .int a, .bl b => a == (if b then 1 else 0)
  | .int a, .int b => a == b
  | .str a, .str b => a == b
  | _, _ => false
theorem eqAt_V {A : Around} {s : Shared} {y x : V} {u v : Value} (ry : RelV y u) (rx : RelV x v) (fy : flatV y = true) (fx : flatV x = true) : SeqAt.EqAt A s u v (eqV y x) := by
  cases y with
  | non =>
    cases ry
    cases x with
    | non => cases rx; exact SeqAt.EqAt.same _
    | bl b => cases rx; exact SeqAt.EqAt.none_bool b
    | int b => obtain ⟨t, rfl⟩ := rx; exact SeqAt.EqAt.none_int b t
    | str b => obtain ⟨t, rfl⟩ := rx; exact SeqAt.EqAt.none_str b t
    | _ => exact absurd (show false = true from fx) Bool.false_ne_true
  | bl a =>
    cases ry
    cases x with
    | non => cases rx; exact SeqAt.EqAt.bool_none a
    | bl b => cases rx; exact SeqAt.EqAt.bool_bool a b
    | int b => obtain ⟨t, rfl⟩ := rx; exact SeqAt.EqAt.bool_int a b t
    | str b => obtain ⟨t, rfl⟩ := rx; exact SeqAt.EqAt.bool_str a b t
    | _ => exact absurd (show false = true from fx) Bool.false_ne_true
  | int a =>
    obtain ⟨t', rfl⟩ := ry
    cases x with
    | non => cases rx; exact SeqAt.EqAt.int_none a t'
    | bl b => cases rx; exact SeqAt.EqAt.int_bool a t' b
    | int b => obtain ⟨t, rfl⟩ := rx; exact SeqAt.EqAt.int_int a t' b t
    | str b => obtain ⟨t, rfl⟩ := rx; exact SeqAt.EqAt.int_str a t' b t
    | _ => exact absurd (show false = true from fx) Bool.false_ne_true
  | str a =>
    obtain ⟨t', rfl⟩ := ry
    cases x with
    | non => cases rx; exact SeqAt.EqAt.str_none a t'
    | bl b => cases rx; exact SeqAt.EqAt.str_bool a t' b
    | int b => obtain ⟨t, rfl⟩ := rx; exact SeqAt.EqAt.str_int a t' b t
    | str b => obtain ⟨t, rfl⟩ := rx; exact SeqAt.EqAt.str_str a t' b t
    | _ => exact absurd (show false = true from fx) Bool.false_ne_true
  | _ => exact absurd (show false = true from fy) Bool.false_ne_true
noncomputable def eqU (x : V) (u : Value) : Bool := match u with
  | .none => eqV .non x
  | .bool b => eqV (.bl b) x
  | .int i _ => eqV (.int i) x
  | .str z _ => eqV (.str z) x
  | _ => false
theorem eqU_of {x y : V} {u : Value} (r : RelV y u) (f : flatV y = true) : eqU x u = eqV y x := by
  cases y with
  | non => cases r; rfl
  | bl b => cases r; rfl
  | int i => obtain ⟨t, rfl⟩ := r; rfl
  | str z => obtain ⟨t, rfl⟩ := r; rfl
  | _ => exact absurd (show false = true from f) Bool.false_ne_true
theorem Az8Q {x : V} : ∀ {xs : List V} {us : List Value}, Vals xs us → xs.all flatV = true → us.any (eqU x) = xs.any fun y => eqV y x
  | _, _, .nil, _ => rfl
  | y :: xs, u :: us, .cons r t, f => by
    rw [List.all_cons, Bool.and_eq_true] at f
    rw [List.any_cons, List.any_cons, eqU_of r f.1, Az8Q t f.2]
theorem Az5R {A : Around} {s : Shared} {x : V} {v : Value} (rx : RelV x v) (fx : flatV x = true) : ∀ {xs : List V} {us : List Value}, Vals xs us → xs.all flatV = true → ∀ u ∈ us, SeqAt.EqAt A s u v (eqU x u)
  | _, _, .nil, _ => fun u hu => by cases hu
  | y :: xs, u :: us, .cons r t, f => fun u' hu => by
    rw [List.all_cons, Bool.and_eq_true] at f
    rcases List.mem_cons.mp hu with rfl | hu
    · rw [eqU_of r f.1]; exact eqAt_V r rx f.1 fx
    · exact Az5R rx fx t f.2 u' hu
noncomputable def inV (x : V) (xs : List V) : Bool := xs.any fun y => eqV y x
noncomputable def rIn (K : PySem.W.Frag) (neg : Bool) : R2 := fun x y H Q => ∃ p xs, y = .ref p ∧ (SqL K H p xs ∨ SqT K H p xs) ∧ flatV x = true ∧ xs.all flatV = true ∧ Q (.bl (if neg then !inV x xs else inV x xs)) H
theorem Bz5H : OpR X (compareOp .In) (rIn X.K false) := by
  intro pins s σ H x y v u Q I rx ry h
  obtain ⟨p, xs, rfl, hq, fx, fs, q⟩ := h
  cases ry
  rcases hq with hq | hq
  · obtain ⟨its, r, pl, hz⟩ := I.list hq
    refine SeqAt.in_listAt (eqU x) pl.isList (fun w hw => Az5R rx fx r fs w (by simpa using hw)) ⟨.bl _, H, I, rfl, ?_⟩
    rw [show its.toArray.any (eqU x) = its.any (eqU x) by simp, Az8Q r fs]
    exact q
  · obtain ⟨its, r, pl, hz⟩ := I.tuple hq
    refine SeqAt.in_tupleAt (eqU x) pl (fun w hw => Az5R rx fx r fs w (by simpa using hw)) ⟨.bl _, H, I, rfl, ?_⟩
    rw [show its.toArray.any (eqU x) = its.any (eqU x) by simp, Az8Q r fs]
    exact q
theorem Az8Y : OpR X (compareOp .NotIn) (rIn X.K true) := by
  intro pins s σ H x y v u Q I rx ry h
  obtain ⟨p, xs, rfl, hq, fx, fs, q⟩ := h
  cases ry
  rcases hq with hq | hq
  · obtain ⟨its, r, pl, hz⟩ := I.list hq
    refine SeqAt.notIn_listAt (eqU x) pl.isList (fun w hw => Az5R rx fx r fs w (by simpa using hw)) ⟨.bl _, H, I, rfl, ?_⟩
    rw [show its.toArray.any (eqU x) = its.any (eqU x) by simp, Az8Q r fs]
    exact q
  · obtain ⟨its, r, pl, hz⟩ := I.tuple hq
    refine SeqAt.notIn_tupleAt (eqU x) pl (fun w hw => Az5R rx fx r fs w (by simpa using hw)) ⟨.bl _, H, I, rfl, ?_⟩
    rw [show its.toArray.any (eqU x) = its.any (eqU x) by simp, Az8Q r fs]
    exact q
theorem CallR.or {f : Value} {r r' : List V → Hp → VK → Prop} (h : CallR X f r) (h' : CallR X f r') : CallR X f (fun xs H Q => r xs H Q ∨ r' xs H Q) := by
  intro pins s σ H xs us Q I rs q
  rcases q with q | q
  · exact h pins s σ H xs us Q I rs q
  · exact h' pins s σ H xs us Q I rs q
theorem Az9K : CallR X (.type "list") (fun xs H Q => ∃ p ys, xs = [.ref p] ∧ (SqL X.K H p ys ∨ SqT X.K H p ys) ∧ ∀ l, H l = none → Q (.ref l) (upd H l (.lst ys))) := by
  intro pins s σ H xs us Q I r h
  obtain ⟨p, ys, rfl, hq, q⟩ := h
  obtain ⟨u, rfl, rx⟩ := vals1 r
  cases rx
  have fin : ∀ (its : List Value), Vals ys its → ys.length ≤ sizeLine → ∀ (h' : Heap) (c' : Nat), (∀ b o', s.heap.get? b = some o' → h'.get? b = some o') →
      h'.get? s.heap.objs.size = some { cls := .type "list", dict := none, data := .seq its.toArray c', slots := #[] } → EP X pins σ Q (.ref s.heap.objs.size) { s with heap := h' } := fun its r' hz h' c' kp e =>
    ⟨.ref s.heap.objs.size, _, I.laid (t' := s.toks) kp (Nat.le_refl _) (show ObjOk X.prog X.w _ h' _ (.lst ys) from ⟨hz, its, c', r', e⟩), rfl, q _ (I.hok.fresh (Nat.le_refl _))⟩
  rcases hq with hq | hq
  · obtain ⟨its, r', pl, hz⟩ := I.list hq
    have hlen := r'.length
    obtain ⟨o, ho, hc, n, hd⟩ := pl.isList
    exact call_list_seq p (.inl rfl) ho hc hd (fun h' c' kp e => fin its r' hz h' c' kp e) (by simp only [List.size_toArray] <;> omega)
  · obtain ⟨its, r', pl, hz⟩ := I.tuple hq
    have hlen := r'.length
    obtain ⟨o, ho, hc, n, hd⟩ := pl
    exact call_list_seq p (.inr rfl) ho hc hd (fun h' c' kp e => fin its r' hz h' c' kp e) (by simp only [List.size_toArray] <;> omega)
theorem Az8F : CallR X (.type "tuple") (fun xs H Q => ∃ p ys, xs = [.ref p] ∧ ((SqL X.K H p ys ∧ ∀ l, H l = none → Q (.ref l) (upd H l (.tup ys))) ∨ (SqT X.K H p ys ∧ Q (.ref p) H))) := by
  intro pins s σ H xs us Q I r h
  obtain ⟨p, ys, rfl, h⟩ := h
  obtain ⟨u, rfl, rx⟩ := vals1 r
  cases rx
  rcases h with ⟨hq, q⟩ | ⟨hq, q⟩
  · obtain ⟨its, r', pl, hz⟩ := I.list hq
    have hlen := r'.length
    refine call_tuple_list pl.isList (fun h' kp => ?_) (by simp only [List.size_toArray] <;> omega)
    have I1 : Inv X pins σ H { s with heap := h' } := I.kept (t' := s.toks) kp
    have I2 : Inv X pins σ (upd H h'.objs.size (.tup ys)) { s with heap := h'.push { cls := .type "tuple", data := .seq its.toArray } } :=
      I1.laid (t' := s.toks) (fun b o e => Heap.get?_push_of_some _ e) (Nat.le_refl _) (show ObjOk X.prog X.w _ _ _ (.tup ys) from ⟨hz, its, r', IsTup.new _ _⟩)
    exact ⟨.ref h'.objs.size, _, I2, rfl, q _ (I1.hok.fresh (Nat.le_refl _))⟩
  · obtain ⟨its, r', pl, hz⟩ := I.tuple hq
    exact call_tuple_same pl ⟨.ref p, H, I, rfl, q⟩
noncomputable def tyV (K : PySem.W.Frag) (T : String) (x : V) (H : Hp) : Prop := match x with
  | .str _ => T = "str"
  | .int _ => T = "int"
  | .ref p => (T = "list" ∧ ∃ xs, SqL K H p xs) ∨ (T = "tuple" ∧ ∃ o, K.lookup p = some o ∧ o.cls = .type "tuple" ∧ o.dict = none) ∨
      (T = "dict" ∧ ((∃ kvs, H p = some (.dK kvs)) ∨ ∃ kvs, H p = some (.dT kvs))) ∨ (T = "set" ∧ ∃ S n, H p = some (.set S n))
  | _ => False
theorem tyV_is {pins : List (Addr × Obj)} {σ : St} {H : Hp} {s : Shared} {T : String} {x : V} {v : Value} (I : Inv X pins σ H s) (r : RelV x v) (ty : tyV X.K T x H) :
    s.TypeIs v T ∧ ∀ a, v = .ref a → ∃ ob, s.heap.get? a = some ob ∧ ob.dict = none := by
  cases x with
  | str z =>
    obtain ⟨t, rfl⟩ := r
    cases (show T = "str" from ty)
    exact ⟨typeIs_str s z t, fun _ e => nomatch e⟩
  | int i =>
    obtain ⟨t, rfl⟩ := r
    cases (show T = "int" from ty)
    exact ⟨typeIs_int s i t, fun _ e => nomatch e⟩
  | ref p =>
    cases r
    rcases ty with ⟨rfl, xs, hq⟩ | ⟨rfl, o, hk, hc, hd⟩ | ⟨rfl, hk⟩ | ⟨rfl, S, n, hk⟩
    · obtain ⟨its, _, pl, _⟩ := I.list hq
      refine ⟨pl.isList.typeIs, fun a e => ?_⟩
      cases e
      obtain ⟨o, n, e, c, hd, _⟩ := pl
      exact ⟨o, e, hd⟩
    · refine ⟨⟨o, I.kIn p o hk, hc⟩, fun a e => ?_⟩
      cases e
      exact ⟨o, I.kIn _ o hk, hd⟩
    · have z : ∃ o, s.heap.get? p = some o ∧ o.ExactDict := by
        rcases hk with ⟨kvs, hk⟩ | ⟨kvs, hk⟩
        · obtain ⟨_, _, _, _, o, _, _, e, ex, _⟩ := I.hok p _ hk
          exact ⟨o, e, ex⟩
        · obtain ⟨_, _, _, _, o, _, _, e, ex, _⟩ := I.hok p _ hk
          exact ⟨o, e, ex⟩
      obtain ⟨o, e, ex⟩ := z
      refine ⟨⟨o, e, ex.1⟩, fun a e2 => ?_⟩
      cases e2
      exact ⟨o, e, ex.2.1⟩
    · obtain ⟨o, _, _, _, e, ex, _⟩ := I.hok p _ hk
      refine ⟨⟨o, e, ex.1⟩, fun a e2 => ?_⟩
      cases e2
      exact ⟨o, e, ex.2.1⟩
  | _ => exact False.elim ty
noncomputable def tBM0 (K : PySem.W.Frag) (T : String) (r : V → List V → Hp → VK → Prop) (to : TE) : TE := fun σ H Q => to σ H fun x H1 => tyV K T x H1 ∧ r x [] H1 Q
noncomputable def tBM (K : PySem.W.Frag) (T : String) (r : V → List V → Hp → VK → Prop) (to : TE) (t : TA) : TE := fun σ H Q => to σ H fun x H1 => tyV K T x H1 ∧ t σ H1 fun xs H2 => r x xs H2 Q
variable {o e : Expr} {es : List Expr} {to : TE} {t : TA} {name : Str} {apos cpos : Pos} {T id : String} {r : V → List V → Hp → VK → Prop}
theorem pe_bm0 (pa : PlainAttrs T) (slot : Slot T name id) (hty : typeOf (.builtin id) = pure (.type "method_descriptor")) (hm : MtR X id r) (ho : PE X o to)
    (hbase : autoParam (attributeBase o name X.env (eval o X.env) = eval o X.env) slim0._auto_1) (hline : autoParam ((apos.endLine == cpos.line) = true) slim0._auto_1) : PE X (.Call (.Attribute o name apos) [] [] cpos) (tBM0 X.K T r to) := by
  intro pins s σ H Q I h
  refine wpAny_Call_method0_late hbase hline (thn (ho pins s σ H _ I h) fun v s1 ⟨x, H1, I1, r1, ty, q1⟩ => ?_)
  obtain ⟨h1, h2⟩ := tyV_is I1 r1 ty
  exact ⟨T, id, pa, slot, hty, h1, h2, Calls.callWith_builtin rfl (PySem.evalArgs_none (hm pins s1 σ H1 x [] v [] Q I1 r1 .nil q1))⟩
theorem pe_bm (pa : PlainAttrs T) (slot : Slot T name id) (hty : typeOf (.builtin id) = pure (.type "method_descriptor")) (hm : MtR X id r) (ho : PE X o to) (ha : PA X (e :: es) t)
    (hbase : autoParam (attributeBase o name X.env (eval o X.env) = eval o X.env) slim0._auto_1)
    (hfew : autoParam (((backTo cpos (starEach (e :: es) X.env)).all (fun x => !x.1) && (backToKw cpos (keywordEach [] X.env)).all (fun x => x.1.isSome)
      && decide ((e :: es).length + ([] : List Keyword).length + (if ([] : List Keyword).isEmpty then 0 else 1) < 30)) = true) slim0._auto_1)
    (hline : autoParam ((apos.endLine == cpos.line) = true) slim0._auto_1) (hs : autoParam (starEach (e :: es) X.env = (false, eval e X.env) :: starEach es X.env) slim0._auto_1) (hplain : autoParam ((backTo cpos (starEach es X.env)).any (·.1) = false) slim0._auto_1) :
    PE X (.Call (.Attribute o name apos) (e :: es) [] cpos) (tBM X.K T r to t) := by
  intro pins s σ H Q I h
  refine wpAny_Call_method_late hbase hfew hline rfl (thn (ho pins s σ H _ I h) fun v s1 ⟨x, H1, I1, r1, ty, q1⟩ => ?_)
  obtain ⟨h1, h2⟩ := tyV_is I1 r1 ty
  refine ⟨T, id, pa, slot, hty, h1, h2, ?_⟩
  have hA := ha cpos pins s1 σ H1 _ I1 q1
  rw [hs] at hA ⊢
  refine Calls.callWith_builtin (by show (false || (backTo cpos (starEach es X.env)).any (·.1)) = false; rw [hplain] <;> rfl) (Calls.evalArgs_plain ?_)
  exact thn hA fun us s2 ⟨vs, H2, I2, r2, q2⟩ => hm pins s2 σ H2 x vs v us Q I2 r1 r2 q2
/- xs.append(e), list.index on a module's tuple .. are MtR facts of 06m -/
end
end L2
namespace L2
open PySem PySem.Spec PyProof.Rows
noncomputable def MtM (X : Cx) (id : String) (r : V → List V → Hp → VK → Prop) : Prop :=
  ∀ (pins : List (Addr × Obj)) (s : Shared) (σ : St) (H : Hp) (x : V) (xs : List V) (v : Value) (us : List Value) (Q : VK), Inv X pins σ H s → RelV x v → Vals xs us → r x xs H Q →
    wpAny (model X.prog X.w) X.A (call (.builtin id) (v :: us)) (EP X pins σ Q) X.xe s
theorem Vals.one : ∀ {x : V} {us : List Value}, Vals [x] us → ∃ u, us = [u] ∧ RelV x u
  | _, _, .cons r .nil => ⟨_, rfl, r⟩
theorem Vals.two : ∀ {x y : V} {us : List Value}, Vals [x, y] us → ∃ u v, us = [u, v] ∧ RelV x u ∧ RelV y v
  | _, _, _, .cons r (.cons q .nil) => ⟨_, _, rfl, r, q⟩
theorem Vals.zero : ∀ {us : List Value}, Vals [] us → us = []
  | _, .nil => rfl
theorem Vals.dropLast {xs : List V} {us : List Value} (h : Vals xs us) : Vals xs.dropLast us.dropLast := by
  induction h with
  | nil => exact .nil
  | cons r t ih =>
    cases t with
    | nil => exact .nil
    | cons q t' => exact .cons r ih
theorem Vals.eraseIdx : ∀ {xs : List V} {us : List Value} (i : Nat), Vals xs us → Vals (xs.eraseIdx i) (us.eraseIdx i)
  | _, _, _, .nil => .nil
  | _, _, 0, .cons _ t => t
  | _, _, i + 1, .cons r t => .cons r (Vals.eraseIdx i t)
theorem Vals.rep {xs : List V} {us : List Value} (h : Vals xs us) : ∀ k : Nat, Vals (List.replicate k xs).flatten (List.replicate k us).flatten
  | 0 => .nil
  | k + 1 => by
    rw [List.replicate_succ, List.replicate_succ, List.flatten_cons, List.flatten_cons]
    exact Vals.append h (Vals.rep h k)
theorem Bz3Y {α : Type} (l : List α) : l.eraseIdx (l.length - 1) = l.dropLast := by
  induction l with
  | nil => rfl
  | cons a r ih =>
    cases r with
    | nil => rfl
    | cons b r =>
      have e : (a :: b :: r).length - 1 = ((b :: r).length - 1) + 1 := by
        have h1 : (a :: b :: r).length = r.length + 2 := rfl
        have h2 : (b :: r).length = r.length + 1 := rfl
        omega
      rw [e, List.eraseIdx_cons_succ, ih]
      all_goals rfl
theorem Bz0H (its : List Value) : ∀ (k : Nat) (acc : List Value),
    List.foldl (fun x1 x2 => x1 ++ x2) acc.toArray (List.replicate k its.toArray) = (acc ++ (List.replicate k its).flatten).toArray
  | 0, acc => by simp
  | k + 1, acc => by
    have e : acc.toArray ++ its.toArray = (acc ++ its).toArray := by simp
    have e2 : (acc ++ its) ++ (List.replicate k its).flatten = acc ++ (List.replicate (k + 1) its).flatten := by
      rw [List.replicate_succ, List.flatten_cons, List.append_assoc]
    rw [← e2, ← Bz0H its k (acc ++ its), ← e, List.replicate_succ, List.foldl_cons]
section
variable {X : Cx} {pins : List (Addr × Obj)} {σ : St} {H : Hp} {s : Shared} {l b : Addr} {xs ys zs : List V}
theorem Inv.lset {its its' : List Value} {n : Nat} {f : Array Value → Array Value} {t' : Nat} (I : Inv X pins σ H s) (hH : H l = some (.lst xs))
    (e : s.heap.get? l = some { cls := .type "list", data := .seq its.toArray n }) (hf : f its.toArray = its'.toArray) (hv : Vals ys its') (hz : ys.length ≤ sizeLine) :
    Inv X pins σ (upd H l (.lst ys)) { s with heap := s.heap.update l (Obj.mapSeq f), toks := t' } := by
  have q := PySem.IsL.update e f
  rw [hf] at q
  refine I.write (x := l) (e := l) (by rw [hH]; exact trivial) (.inl rfl) (fun b' u hb hu => (Heap.get?_update_other s.heap (Obj.mapSeq f) (Ne.symm hb)).trans hu) ⟨_, q⟩ ?_
  exact ⟨hz, its', _, hv, q⟩
theorem Inv.lnew {its : List Value} {t' : Nat} (I : Inv X pins σ H s) (hv : Vals ys its) (hz : ys.length ≤ sizeLine) :
    Inv X pins σ (upd H s.heap.objs.size (.lst ys)) { s with heap := s.heap.push { cls := .type "list", data := .seq its.toArray }, toks := t' } :=
  I.laid (fun _ _ q => Heap.get?_push_of_some _ q) (Nat.le_refl _) ⟨hz, its, 0, hv, Heap.get?_push_size _ rfl⟩
theorem Inv.fresh (I : Inv X pins σ H s) : H s.heap.objs.size = none := I.hok.fresh (Nat.le_refl _)
theorem Inv.lstM (I : Inv X pins σ H s) (hH : H l = some (.lst xs)) : xs.length ≤ sizeLine ∧ ∃ (its : List Value) (n : Nat), Vals xs its ∧ xs.length = its.length ∧ s.heap.get? l = some { cls := .type "list", data := .seq its.toArray n } := by
  obtain ⟨z, its, n, r, e⟩ := I.hok l _ hH
  exact ⟨z, its, n, r, r.length, e⟩
theorem Bz8D {n : Nat} (h : n ≤ sizeLine) : Builtin.List.listTooLong n = false := by
  unfold Builtin.List.listTooLong
  exact decide_eq_false (by omega)
end
section
variable {X : Cx}
noncomputable def Cz0I : V → List V → Hp → VK → Prop := fun x vs H Q => ∃ l xs y, x = .ref l ∧ vs = [y] ∧ H l = some (.lst xs) ∧ xs.length < sizeLine ∧ Q .non (upd H l (.lst (xs ++ [y])))
theorem Az9W : MtM X "list.append" Cz0I := by
  intro pins s σ H x vs v us Q I rx rv h
  obtain ⟨l, xs, y, rfl, rfl, hH, hz, q⟩ := h
  cases rx
  obtain ⟨u, rfl, ru⟩ := rv.one
  obtain ⟨z, its, n, r, hl, e⟩ := I.lstM hH
  refine call_meets F.slot_list_append ⟨_, e, rfl⟩ F.entry_list_append (F.args_list_append_2 _ _) (PySem.list_append l its.toArray n u (by rw [List.size_toArray]; omega)) ⟨e, ?_⟩
  refine ⟨.non, _, I.lset (its' := its ++ [u]) hH e (by simp) (r.append (.cons ru .nil)) ?_, rfl, q⟩
  rw [List.length_append, List.length_singleton]
  omega
noncomputable def rPop : V → List V → Hp → VK → Prop := fun x vs H Q => ∃ l xs y, x = .ref l ∧ vs = [] ∧ H l = some (.lst xs) ∧ xs[xs.length - 1]? = some y ∧ Q y (upd H l (.lst xs.dropLast))
theorem mt_pop : MtM X "list.pop" rPop := by
  intro pins s σ H x vs v us Q I rx rv h
  obtain ⟨l, xs, y, rfl, rfl, hH, hy, q⟩ := h
  cases rx
  have hus := rv.zero
  subst hus
  obtain ⟨z, its, n, r, hl, e⟩ := I.lstM hH
  obtain ⟨u, hu, ru⟩ := r.get hy
  have hy' : its.toArray[its.toArray.size - 1]? = some u := by
    show its.toArray[its.length - 1]? = some u
    rw [← Array.getElem?_toList, ← hl]
    exact hu
  refine call_meets F.slot_list_pop ⟨_, e, rfl⟩ F.entry_list_pop (F.args_list_pop_1 _) (MeetsSeq.list_pop_last l its.toArray n u hy' (by rw [List.size_toArray]; omega)) ⟨e, ?_⟩
  refine ⟨y, _, I.lset (its' := its.dropLast) hH e ?_ r.dropLast ?_, ru, q⟩
  · show its.toArray.eraseIdxIfInBounds (its.toArray.size - 1) = its.dropLast.toArray
    rw [List.size_toArray, List.eraseIdxIfInBounds_toArray, Bz3Y]
  · rw [List.length_dropLast]
    omega
theorem Bz6Z {α : Type} (xs : List α) (k : Nat) : (List.replicate k xs).flatten.length = k * xs.length := by
  induction k with
  | zero => simp
  | succ k ih => rw [List.replicate_succ, List.flatten_cons, List.length_append, ih, Nat.succ_mul, Nat.add_comm]
end
section
variable {prog : Program} {w : World} {A : Around} {E : Value → Shared → Prop} {s : Shared}
end
section
variable {X : Cx}
end
end L2
namespace Att
open PySem PySem.W PySem.Calls PyProof.Rows
theorem Az6D {P : Params} {h : Heap} : ∀ (ns : List Int) (vs : List Value), WellAll P h vs (ns.map WData.int) → IntsAre vs ns := by
  intro ns
  induction ns with
  | nil =>
    intro vs w
    rw [List.map_nil] at w
    cases w
    exact .nil
  | cons n ns ih =>
    intro vs w
    rw [List.map_cons] at w
    cases w with
    | cons a b =>
      cases a
      exact .cons _ _ (ih _ b)
theorem Bz5B {l : OpenLaw} {n : Nat} (hn : l.most = some n) {P : Params} {h : Heap} {args : List WData} {vals : List Value}
    (hpre : l.row.toRowW.claim.pre args = true) (hwl : WellAll P h vals args) :
    ∃ a vs ns, vals = [Value.ref a] ∧ args = [WData.list (ns.map WData.int)] ∧ h.get? a = some { cls := .type "list", data := .seq vs.toArray } ∧ IntsAre vs ns ∧ ns.length ≤ n := by
  have hsh : WShape.hasAll [] args [.list .int] = true := (pre_splitW hpre).1
  have hc : l.pre.holds [] { args := args } = true := (pre_splitW hpre).2
  obtain ⟨d, r, rfl, h1, h2⟩ := hasAllW_cons hsh
  obtain rfl := hasAllW_nil h2
  obtain ⟨xs, rfl, h3⟩ := hasW_list h1
  obtain ⟨ns, rfl⟩ := items_int h3
  have hlen : ns.length ≤ n := by
    unfold OpenLaw.pre at hc
    have h4 : (WTm.not (.lt (.lit (.int (n : Int))) (.len (.arg 0)))).holds [] { args := [.list (ns.map .int)] } = true := by
      have h4 := (holds_andW hc).1
      rw [hn] at h4
      exact h4
    have h5 := condW_of h4 (w_not (w_lt w_lit (w_len_list (w_arg rfl))))
    rw [List.length_map] at h5
    refine Nat.le_of_not_lt fun q => ?_
    have q' : (n : Int) < ((ns.length : Nat) : Int) := by omega
    first
      | (rw [decide_eq_true q'] at h5; exact absurd h5 (by decide))
      | (simp at h5; omega)
  cases hwl with
  | cons w1 w2 =>
    cases w2
    cases w1 with
    | list ho hall => exact ⟨_, _, ns, rfl, rfl, ho, Az6D ns _ hall, hlen⟩
theorem Bz5E (l : OpenLaw) (args : List WData) : l.row.toRowW.claim.post args (.bool true) args = true :=
  postW_of (r := l.row.toRowW) (X := (true == true))
    (show WShape.has [] (.bool true) .bool = true by first | rfl | decide | simp [WShape.has, WShape.arms, WShape.armsAll])
    (show (WTm.eq .res (.lit (.bool true))).value [] { args := args, res := some (.bool true), after := args } = some (.bool (true == true)) from w_eq_bool (w_res rfl) w_lit) rfl
theorem attach_call {l : OpenLaw} {n : Nat} {q : Program} {loose : List Str} {XP : (Str → Option Value) → Heap → Prop} {YP : World → Heap → Prop} {d : DefRec}
    (hn : l.most = some n) (hdf : d.params.defaults = [])
    (call : ∀ (w : World) (s₀ s₁ : Shared) (mg mb : Str → Option Value) (fa : Addr) (o : Obj) (pm cd doc : Value) (a : Addr) (vs : List Value) (ns : List Int),
      Ground q loose [] XP w s₀ mg mb s₁.heap → YP w s₁.heap →
      s₁.heap.get? fa = some o → o.data = .func (docDef d.name d.params d.body d.scope pm cd doc) → s₁.heap.CodeRec cd d.name → mg d.name = some (.ref fa) →
      s₁.heap.get? a = some { cls := .type "list", data := .seq vs.toArray } → IntsAre vs ns → ns.length ≤ n → s₁.gens = #[] →
      codeAny (model l.prog w) callerA (.call (.ref fa) ⟨[.ref a], []⟩) (fun r s' => r = .ok (.ret (.bool true)) ∧ OldK s₁.heap s'.heap ∧ s'.os = s₁.os ∧ AllBare s'.gens) s₁) :
    WalkO q loose XP YP l.row.toRowW d [] (fun f vs => PySem.call f vs) := by
  intro w s₀ s₁ mg mb G Y fa o pm cd doc dV kV ho hd hcd hD hmg hg args vals as hpre hlay hrd hwl hlo
  obtain rfl : dV = .none := Dflts.none hD hdf
  obtain rfl : kV = .none := Dflts.noKw hD
  obtain ⟨a, vs, ns, rfl, rfl, hobj, hints, hlen⟩ := Bz5B hn hpre hwl
  refine enter_call (codeAny_mono (call w s₀ s₁ mg mb fa o pm cd doc a vs ns G Y ho (fd_plain hd) hcd hmg hobj hints hlen hg) fun r s' hq => ?_)
  obtain ⟨rfl, h2, h3, h4⟩ := hq
  exact ⟨.inl ⟨.bool true, .bool true, [], rfl, fun _ => rfl, .bool true, Bz5E l _, fun _ => ⟨List.Pairwise.nil, fun _ hm => (nomatch hm)⟩⟩, h2, h3, h4⟩
section
variable {prog : Program} {w : World} {A : Around} {E : Value → Shared → Prop} {s : Shared} {K : Frag}
end
end Att
namespace L2
open PySem PySem.Spec PyProof.Rows
theorem vals_ints : ∀ {vs : List Value} {ns : List Int}, IntsAre vs ns → Vals (ns.map V.int) vs
  | _, _, .nil => .nil
  | _, _, .cons n t h => .cons ⟨t, rfl⟩ (vals_ints h)
noncomputable def Only (H : Hp) : Prop := ∀ b, H b = none ∨ ∃ o xs, H b = some (.frz o (.lst xs))
theorem Bz8K {P : Program} {w : World} {K : PySem.W.Frag} {mg mb : Str → Option Value} {CX : CXT} {k : Nat} {fa a : Addr} {fd : FuncData} {x : Str} {sp : Sp} {s₁ : Shared} {vs : List Value} {ns : List Int}
    (KX : K.In s₁.heap) (hns : s₁.heap.Ns mainGlobals mg) (hb : s₁.heap.Ns builtinsNs mb) (hbb : ∀ x : Str, x ≠ "__name__" → mb x = bootBuiltins x) (hlim : s₁.heap.NoLimit) (hg : s₁.gens = #[])
    (ha : s₁.heap.get? a = some { cls := .type "list", data := .seq vs.toArray }) (hi : IntsAre vs ns) (hl : ns.length ≤ sizeLine) (hr : Room k callerA)
    (F : ∀ base : Heap, K.In base → base.Ns mainGlobals mg → FnOk P w K mg base CX k fa fd [x] sp) (hbind : ∀ (s : Shared) (u : Value), BindsTo s fd ⟨[u], []⟩ [(x, u)])
    (hsp : ∀ H : Hp, Only H → SqL K H a (ns.map V.int) → sp [.ref a] H (fun v _ => v = .bl true) fun _ _ _ => False)
    (hCX : ∀ H e s', CX [] H s₁ (fun _ _ _ => False) e s' → False) :
    codeAny (model P w) callerA (.call (.ref fa) ⟨[.ref a], []⟩) (fun r s' => r = .ok (.ret (.bool true)) ∧ OldK s₁.heap s'.heap ∧ s'.os = s₁.os ∧ AllBare s'.gens) s₁ := by
  have rv := vals_ints hi
  have lenV := hi.length
  have core : ∀ H : Hp, Only H → SqL K H a (ns.map V.int) → HOk P w H s₁.heap → (∀ b, H b ≠ none → b = a) → (H a ≠ none → K.lookup a = none) →
      codeAny (model P w) callerA (.call (.ref fa) ⟨[.ref a], []⟩) (fun r s' => r = .ok (.ret (.bool true)) ∧ OldK s₁.heap s'.heap ∧ s'.os = s₁.os ∧ AllBare s'.gens) s₁ := by
    intro H hO hS hok hA hK
    have base_of : ∀ {b : Addr} {o : Obj}, s₁.heap.get? b = some o → H b = none → (hidT s₁.heap H).get? b = some o := fun e n => Bz8T e n
    have noA : ∀ {b : Addr} {o : Obj} {es : Array DictEntry} {ep : Nat}, s₁.heap.get? b = some o → o.data = .dict es ep → H b = none := fun {b o es ep} e d => by
      cases q : H b with
      | none => rfl
      | some u =>
        have e' : b = a := hA b (by rw [q]; simp)
        subst e'
        rw [ha] at e; cases e
        have d' : Data.seq vs.toArray _ = Data.dict es ep := d
        cases d'
    have nsK : ∀ {b : Addr} {m : Str → Option Value}, s₁.heap.Ns b m → (hidT s₁.heap H).Ns b m := fun {b m} ⟨o, es, ep, e, d, r⟩ => ⟨o, es, ep, base_of e (noA e d), d, r⟩
    have hKb : K.In (hidT s₁.heap H) := fun b o e => base_of (KX b o e) (by
      cases q : H b with
      | none => rfl
      | some u =>
        have e' : b = a := hA b (by rw [q]; simp)
        subst e'
        rw [hK (by rw [q]; simp)] at e; cases e)
    have hM : Mod K mg (hidT s₁.heap H) := ⟨hKb, nsK hns, ⟨mb, nsK hb, hbb⟩, let ⟨mc, h1, h2⟩ := hlim; ⟨mc, nsK h1, h2⟩⟩
    have e0 : Env0 P w K mg (hidT s₁.heap H) callerA [] s₁ H := ⟨rfl, hM, fun b o e => Cz1H e, Nat.le_of_eq (Bz5Z _ _), trivial, fun b hb => absurd (show b ∈ ([] : List Addr) from hb) (by simp), hok, .of_eq hg⟩
    refine codeAny_mono ((F _ hKb (nsK hns)).run callerA [] s₁ H ⟨[.ref a], []⟩ [.ref a] [.ref a] _ _ hr e0 (hbind s₁ (.ref a)) (.cons rfl .nil) (hsp H hO hS)) fun r s' h => ?_
    cases r with
    | error e => exact (hCX H e s' h).elim
    | ok fl =>
      cases fl with
      | next => exact False.elim h
      | brk => exact False.elim h
      | cont => exact False.elim h
      | ret u =>
        obtain ⟨v, H', os, bare, un, hok', r', q⟩ := h
        have q' : v = .bl true := q
        subst q'
        obtain rfl : u = Value.bool true := r'
        refine ⟨rfl, OldK.of_keep fun b o e => ?_, os, bare⟩
        cases q : H b with
        | none => exact un.keep b o e q (by intro z; exact absurd (show b ∈ ([] : List Addr) from z) (by simp)) (by simp)
        | some u =>
          rcases hO b with z | ⟨ob, xs, z⟩
          · rw [q] at z; cases z
          · have z2 := un.frzs b ob _ z
            obtain ⟨e1, _⟩ := hok b _ z
            obtain ⟨e2, _⟩ := hok' b _ z2
            rw [e] at e1; cases e1
            exact e2
  cases hk : K.lookup a with
  | some o =>
    have e := KX a o hk
    rw [ha] at e
    cases e
    refine core (fun _ => none) (fun _ => .inl rfl) (.inr ⟨_, vs.toArray, _, hk, rfl, rfl, rfl, by rw [List.size_toArray, lenV]; exact hl, by simpa using rv⟩) (fun b u z => by have z' : (none : Option HO) = some u := z; cases z') (fun b z => absurd rfl z) fun z => absurd rfl z
  | none =>
    refine core (fun b => if b = a then some (.frz { cls := .type "list", data := .seq vs.toArray } (.lst (ns.map V.int))) else none) (fun b => ?_) (.inl (.inr ⟨{ cls := .type "list", data := .seq vs.toArray }, if_pos rfl⟩)) (fun b u z => ?_) (fun b z => ?_) fun _ => hk
    · by_cases hb : b = a
      · exact .inr ⟨_, _, if_pos hb⟩
      · exact .inl (if_neg hb)
    · by_cases hb : b = a
      · have z' := (if_pos hb).symm.trans z
        cases z'
        subst hb
        exact ⟨ha, by rw [List.length_map]; exact hl, vs, _, rv, ha⟩
      · have z' := (if_neg hb).symm.trans z
        cases z'
    · by_cases hb : b = a
      · exact hb
      · exact absurd (if_neg hb) z
end L2
namespace L2
open PySem PySem.Spec PyProof.Rows
theorem walk_of {l : PySem.W.OpenLaw} {n k : Nat} {q : Program} {loose : List Str} {XP : (Str → Option Value) → Heap → Prop} {YP : World → Heap → Prop} {d : DefRec} {K : Params → PySem.W.Frag} {CX : World → CXT} {sp : World → Sp} {x : Str}
    (hn : l.most = some n) (hn2 : n ≤ sizeLine) (hdf : d.params.defaults = []) (hr : Room k callerA)
    (hY : ∀ (w : World) (h : Heap), YP w h → (K w.params).In h)
    (F : ∀ (w : World) (mg : Str → Option Value) (fa : Addr) (h : Heap), (K w.params).In h → h.Ns mainGlobals mg → mg d.name = some (.ref fa) →
      ∃ fd : FuncData, (∀ (s : Shared) (u : Value), BindsTo s fd ⟨[u], []⟩ [(x, u)]) ∧
        ∀ base : Heap, (K w.params).In base → base.Ns mainGlobals mg → FnOk l.prog w (K w.params) mg base (CX w) k fa fd [x] (sp w))
    (hsp : ∀ (w : World) (H : Hp) (a : Addr) (ns : List Int), ns.length ≤ n → Only H → SqL (K w.params) H a (ns.map V.int) → sp w [.ref a] H (fun v _ => v = .bl true) fun _ _ _ => False)
    (hCX : ∀ (w : World) (H : Hp) (s : Shared) (e : Value) (s' : Shared), CX w [] H s (fun _ _ _ => False) e s' → False) :
    PySem.W.WalkO q loose XP YP l.row.toRowW d [] (fun f vs => PySem.call f vs) := by
  refine Att.attach_call hn hdf fun w s₀ s₁ mg mb fa o pm cd doc a vs ns G Y ho hd hcd hmg hobj hints hlen hg => ?_
  have KX := hY w _ Y
  obtain ⟨fd, hb, hF⟩ := F w mg fa _ KX G.T.g hmg
  exact Bz8K KX G.T.g G.T.b G.T.builtins G.T.nolimit hg hobj hints (Nat.le_trans hlen hn2) hr hF hb (fun H hO hS => hsp w H a ns hlen hO hS) fun H e s' => hCX w H s₁ e s'
end L2
/- THE LAST THEOREM (shape; LID, My.* are yours):
   My.Adr: a structure of the addresses that your layer names (classes, functions); My.Txt K t: a structure (Prop) of the equations over K;
   My.txt_mk : {K} {implicit addresses ..} (e1 : nsIn K mainGlobals "law" = some (some (.ref f))) (e2 : K.lookup f = some ⟨oc, od, .func (fnOf "law" "law" params body scope dV kV doc pm an cdv ct), sl⟩) (e3 : codeIn K cdv "law" = true) .. : ∃ t, My.Txt K t
(the tactic k_is has no namespace: write k_is) -/
namespace L2
open PySem PySem.Spec PyProof.Rows
noncomputable def Cz2B (s : Stmt) (j : Nat) : Stmt := match s with
  | .ClassDef _ _ _ body _ _ _ _ _ _ _ => body.getD j (.Pass ⟨0, 0, 0, 0⟩)
  | _ => .Pass ⟨0, 0, 0, 0⟩
noncomputable def Az0M (s : Stmt) : Arguments := match s with
  | .FunctionDef _ a _ _ _ _ _ _ _ _ => a
  | _ => { posonlyargs := [], args := [], vararg := none, kwonlyargs := [], kw_defaults := [], kwarg := none, defaults := [] }
noncomputable def Az0J (s : Stmt) : List Stmt := match s with
  | .FunctionDef _ _ b _ _ _ _ _ _ _ => b
  | _ => []
noncomputable def Az0A (s : Stmt) : Scope := match s with
  | .FunctionDef _ _ _ _ _ _ sc _ _ _ => sc
  | _ => { kind := .function, names := [], isGenerator := false, isCoroutine := false }
noncomputable abbrev CX0 : CXT := fun _ _ _ _ _ _ => False
noncomputable abbrev E0 : XK := fun _ _ _ => False
theorem pass0 {X : Cx} : Passes CX0 X E0 := fun _ _ _ _ _ _ _ h => h.elim
structure Fun (K : PySem.W.Frag) (x qual : Str) (st : Stmt) (f : Addr) (fd : FuncData) : Prop where
  ex : ∃ (oc : Value) (od : Option Addr) (kV doc pm : Value) (an : Option Addr) (cdv ct : Value) (osl : Array (Option Value)),
    fd = PySem.W.fnOf x qual (Az0M st) (Az0J st) (Az0A st) .none kV doc pm an cdv ct ∧ K.lookup f = some ⟨oc, od, .func fd, osl⟩ ∧ PySem.W.codeIn K cdv qual = true
  kp : PySem.W.keepIn K (.ref f) = true
section
variable {P : Program} {w : World} {K : PySem.W.Frag} {mg : Str → Option Value} {base : Heap}
theorem Fun.ok {x qual : Str} {st : Stmt} {f : Addr} {fd : FuncData} {N ps : List Str} {k : Nat} {sp : Sp} (F : Fun K x qual st f fd) (S : FnScope N ps (Az0A st)) (len : ∀ vs H Q E, sp vs H Q E → vs.length = ps.length)
    (hbody : ∀ (cdv : Value) (A : Around) (outer : List Env) (s : Shared) (H : Hp) (vs : List V) (Q : VK) (E : XK), Room k (A.deeper (envOfC qual (Az0A st) s.heap.objs.size f cdv)) → sp vs H Q E →
      ∃ t, PSs (cxOf CX0 P w K mg base N qual (Az0A st) f cdv A outer s H E).nox (Az0J st) t ∧ t { nx := fun _ H' => Q .non H', rt := Q } (start N vs) H) : FnOk P w K mg base CX0 (k + 1) f fd ps sp := by
  obtain ⟨oc, od, kV, doc, pm, an, cdv, ct, osl, rfl, lk, hcd⟩ := F.ex
  refine fn_of lk hcd S len fun A outer s H vs Q E hr hsp => ?_
  obtain ⟨t, h, q⟩ := hbody cdv A outer s H vs Q E hr hsp
  exact ⟨t, h.nox, q⟩
theorem Fun.binds {x qual : Str} {st : Stmt} {f : Addr} {fd : FuncData} {ps : List Str} (F : Fun K x qual st f fd)
    (h : ∀ (kV doc pm : Value) (an : Option Addr) (cdv ct : Value) (us : List Value), us.length = ps.length → bindArgs (PySem.W.fnOf x qual (Az0M st) (Az0J st) (Az0A st) .none kV doc pm an cdv ct) ⟨us, []⟩ = pure (ps.zip us)) : Binds K fd ps [] := by
  obtain ⟨oc, od, kV, doc, pm, an, cdv, ct, osl, rfl, lk, hcd⟩ := F.ex
  exact .all (h kV doc pm an cdv ct)
theorem fun_mk {x qual : Str} {st : Stmt} {f : Addr} {oc : Value} {od an : Option Addr} {osl : Array (Option Value)} {kV doc pm cdv ct : Value} (l : K.lookup f = some ⟨oc, od, .func (PySem.W.fnOf x qual (Az0M st) (Az0J st) (Az0A st) .none kV doc pm an cdv ct), osl⟩)
    (c : PySem.W.codeIn K cdv qual = true) (k : PySem.W.keepIn K (.ref f) = true) : Fun K x qual st f (PySem.W.fnOf x qual (Az0M st) (Az0J st) (Az0A st) .none kV doc pm an cdv ct) := ⟨⟨oc, od, kV, doc, pm, an, cdv, ct, osl, rfl, l, c⟩, k⟩
end
section
variable {X : Cx}
theorem pv (i : Nat) {x : Str} {pos : Pos} (hN : autoParam (X.N[i]? = some x) slim0._auto_1) (hv : autoParam (Vis X.env.scope x) slim6._auto_1) (hd : autoParam ((x == ("__debug__" : Str)) = false) slim1._auto_1)
    (hcd : autoParam ((x == ("__classdict__" : Str)) = false) slim1._auto_1) : PE X (.Name x pos) (tVar i) := pe_var hN hv hd hcd
end
noncomputable def Same (H H' : Hp) : Prop := ∀ b o, H b = some o → H' b = some o
theorem Same.refl (H : Hp) : Same H H := fun _ _ h => h
theorem Same.trans {H H1 H2 : Hp} (a : Same H H1) (b : Same H1 H2) : Same H H2 := fun c o h => b c o (a c o h)
theorem Same.free {H H' : Hp} (e : Same H H') {l : Addr} (h : H' l = Option.none) : H l = Option.none := by
  cases q : H l with
  | none => rfl
  | some o =>
    rw [e l o q] at h
    cases h
theorem Same.seq {K : PySem.W.Frag} {H H' : Hp} {a : Addr} {xs : List V} (e : Same H H') (h : SqL K H a xs) : SqL K H' a xs := by
  rcases h with (h | ⟨o, h⟩) | h
  · exact .inl (.inl (e _ _ h))
  · exact .inl (.inr ⟨o, e _ _ h⟩)
  · exact .inr h
end L2
set_option maxHeartbeats 4000000
namespace L3
open PySem PySem.Spec PyProof.Rows L2
inductive D where
  | non | bl (b : Bool) | int (i : Int) | str (x : Str) | tup (ds : List D) | lst (ds : List D) | dct (ks : List Key) (ds : List D) | exc (c : Str) (ds : List D) | obj (c : Str) (ks : List Str) (ds : List D)
inductive Res (α : Type) where
  | ok (a : α) | ex (c : Str) (fs : List D) | stuck
noncomputable def Res.bind {α β : Type} (r : Res α) (k : α → Res β) : Res β := match r with
  | .ok a => k a
  | .ex c fs => .ex c fs
  | .stuck => .stuck
theorem Res.bind_ok {α β : Type} (a : α) (k : α → Res β) : (Res.ok a).bind k = k a := rfl
theorem Res.bind_ex {α β : Type} (c : Str) (fs : List D) (k : α → Res β) : (Res.ex c fs).bind k = .ex c fs := rfl
theorem Res.bind_stuck {α β : Type} (k : α → Res β) : (Res.stuck : Res α).bind k = .stuck := rfl
inductive S where
  | d (x : D) | o (ds : List D) | q (ks : List Key) (ds : List D)
noncomputable def Ow : S → Prop
  | .d _ => False
  | _ => True
noncomputable def MutO : HO → Prop
  | .lst _ => True
  | .dK _ => True
  | .ins _ _ _ => True
  | _ => False
noncomputable abbrev DSt := List (Option S)
noncomputable def ExcAt (a : Addr) (C : Value) : Heap → Prop := fun h => ∃ o vs, h.get? a = some o ∧ o.cls = C ∧ o.data = .fields vs
noncomputable abbrev WS := Addr → Prop
section
variable (K : PySem.W.Frag) (W : WS) (H : Hp)
noncomputable def LR (a : Addr) (xs : List V) : Prop := (H a = some (.lst xs) ∧ ¬ W a) ∨ ((∃ o, H a = some (.frz o (.lst xs))) ∨ ∃ (o : Obj) (its : Array Value) (n : Nat), K.lookup a = some o ∧ o.cls = .type "list" ∧ o.dict = none ∧ o.data = .seq its n ∧ its.size ≤ sizeLine ∧ Vals xs its.toList)
mutual
noncomputable def Has : D → V → Prop
  | .non, v => v = .non
  | .bl b, v => v = .bl b
  | .int i, v => v = .int i
  | .str x, v => v = .str x
  | .tup ds, v => ∃ a xs, v = .ref a ∧ SqT K H a xs ∧ HasL ds xs
  | .lst ds, v => ∃ a xs, v = .ref a ∧ LR K W H a xs ∧ HasL ds xs
  | .dct ks ds, v => ∃ a kvs, v = .ref a ∧ (∃ o, H a = some (.frz o (.dK kvs))) ∧ kvs.map (·.1) = ks ∧ HasL ds (kvs.map (·.2))
  | .exc c fs, v => fs = [] ∧ ∃ a C, v = .ref a ∧ PySem.W.nsIn K mainGlobals c = some (some C) ∧ H a = some (.ext (ExcAt a C))
  | .obj c ks ds, v => ∃ a C dx fs, v = .ref a ∧ PySem.W.nsIn K mainGlobals c = some (some (.ref C)) ∧ H a = some (.ins C dx fs) ∧ ¬ W a ∧ fs.map (·.1) = ks ∧ HasL ds (fs.map (·.2))
noncomputable def HasL : List D → List V → Prop
  | [], xs => xs = []
  | d :: ds, xs => ∃ x r, xs = x :: r ∧ Has d x ∧ HasL ds r
end
end
theorem LR.sq {K : PySem.W.Frag} {W : WS} {H : Hp} {a : Addr} {xs : List V} (h : LR K W H a xs) : SqL K H a xs := by
  rcases h with ⟨h, _⟩ | ⟨o, h⟩ | h
  · exact .inl (.inl h)
  · exact .inl (.inr ⟨o, h⟩)
  · exact .inr h
noncomputable def Keep (W : WS) (H H' : Hp) : Prop := ∀ b o, H b = some o → ¬ W b → H' b = some o
noncomputable def WL (W : WS) (H : Hp) : Prop := ∀ b, W b → ∃ o, H b = some o ∧ MutO o
theorem Same.keep {W : WS} {H H' : Hp} (h : Same H H') : Keep W H H' := fun b o e _ => h b o e
theorem Keep.trans {W : WS} {H H1 H2 : Hp} (a : Keep W H H1) (b : Keep W H1 H2) : Keep W H H2 := fun c o e n => b c o (a c o e n) n
theorem Az8S {K : PySem.W.Frag} {W : WS} {H H' : Hp} {a : Addr} {xs : List V} (k : Keep W H H') (w : WL W H) (h : SqT K H a xs) : SqT K H' a xs := by
  have nw : ∀ o, H a = some o → ¬ MutO o → ¬ W a := fun o e n z => by
    obtain ⟨o', e', m⟩ := w a z
    rw [e] at e'
    cases e'
    exact n m
  rcases h with (h | ⟨o, h⟩) | h
  · exact .inl (.inl (k _ _ h (nw _ h fun z => z)))
  · exact .inl (.inr ⟨o, k _ _ h (nw _ h fun z => z)⟩)
  · exact .inr h
theorem LR.keep {K : PySem.W.Frag} {W W' : WS} {H H' : Hp} {a : Addr} {xs : List V} (k : Keep W H H') (w : WL W H) (hw : ∀ b, W' b → W b ∨ H b = none) (h : LR K W H a xs) : LR K W' H' a xs := by
  rcases h with ⟨h, n⟩ | ⟨o, h⟩ | h
  · refine .inl ⟨k _ _ h n, fun z => ?_⟩
    rcases hw a z with z | z
    · exact n z
    · rw [h] at z; cases z
  · refine .inr (.inl ⟨o, k _ _ h fun z => ?_⟩)
    obtain ⟨o', e', m⟩ := w a z
    rw [h] at e'; cases e'; exact m
  · exact .inr (.inr h)
section
variable {K : PySem.W.Frag} {W W' : WS} {H H' : Hp}
mutual
theorem Has.keep (k : Keep W H H') (w : WL W H) (hw : ∀ b, W' b → W b ∨ H b = none) : ∀ {d : D} {v : V}, Has K W H d v → Has K W' H' d v
  | .non, _, h => by rw [Has] at h ⊢; exact h
  | .bl _, _, h => by rw [Has] at h ⊢; exact h
  | .int _, _, h => by rw [Has] at h ⊢; exact h
  | .str _, _, h => by rw [Has] at h ⊢; exact h
  | .tup ds, _, h => by
    rw [Has] at h ⊢
    obtain ⟨a, xs, e, q, r⟩ := h
    exact ⟨a, xs, e, Az8S k w q, HasL.keep k w hw r⟩
  | .lst ds, _, h => by
    rw [Has] at h ⊢
    obtain ⟨a, xs, e, q, r⟩ := h
    exact ⟨a, xs, e, q.keep k w hw, HasL.keep k w hw r⟩
  | .dct ks ds, _, h => by
    rw [Has] at h ⊢
    obtain ⟨a, kvs, e, ⟨o, q⟩, m, r⟩ := h
    refine ⟨a, kvs, e, ⟨o, k _ _ q fun z => ?_⟩, m, HasL.keep k w hw r⟩
    obtain ⟨o', e', m'⟩ := w a z
    rw [q] at e'; cases e'; exact m'
  | .exc _ _, _, h => by
    rw [Has] at h ⊢
    obtain ⟨z, a, C, e, n, q⟩ := h
    refine ⟨z, a, C, e, n, k _ _ q fun z => ?_⟩
    obtain ⟨o', e', m'⟩ := w a z
    rw [q] at e'; cases e'; exact m'
  | .obj _ _ ds, _, h => by
    rw [Has] at h ⊢
    obtain ⟨a, C, dx, fs, e, n, q, nw, m, r⟩ := h
    refine ⟨a, C, dx, fs, e, n, k _ _ q nw, fun z => ?_, m, HasL.keep k w hw r⟩
    rcases hw a z with z | z
    · exact nw z
    · rw [q] at z; cases z
theorem HasL.keep (k : Keep W H H') (w : WL W H) (hw : ∀ b, W' b → W b ∨ H b = none) : ∀ {ds : List D} {xs : List V}, HasL K W H ds xs → HasL K W' H' ds xs
  | [], _, h => by rw [HasL] at h ⊢; exact h
  | d :: ds, _, h => by
    rw [HasL] at h ⊢
    obtain ⟨x, r, e, q, t⟩ := h
    exact ⟨x, r, e, Has.keep k w hw q, HasL.keep k w hw t⟩
end
theorem Has.same {d : D} {v : V} (h : Has K W H d v) (k : Same H H') (w : WL W H) : Has K W H' d v := Has.keep (Same.keep k) w (fun _ z => .inl z) h
theorem HasL.same {d : List D} {v : List V} (h : HasL K W H d v) (k : Same H H') (w : WL W H) : HasL K W H' d v := HasL.keep (Same.keep k) w (fun _ z => .inl z) h
theorem HasL.length : ∀ {ds : List D} {xs : List V}, HasL K W H ds xs → ds.length = xs.length
  | [], _, h => by rw [HasL] at h; rw [h]; rfl
  | d :: ds, _, h => by
    rw [HasL] at h
    obtain ⟨x, r, e, q, t⟩ := h
    rw [e, List.length_cons, List.length_cons, HasL.length t]
theorem HasL.get : ∀ {ds : List D} {xs : List V} {i : Nat} {d : D}, HasL K W H ds xs → ds[i]? = some d → ∃ x, xs[i]? = some x ∧ Has K W H d x
  | [], _, _, _, _, e => by simp at e
  | d :: ds, _, 0, _, h, e => by
    rw [HasL] at h
    obtain ⟨x, r, rfl, q, t⟩ := h
    simp at e; subst e
    exact ⟨x, rfl, q⟩
  | d :: ds, _, i + 1, _, h, e => by
    rw [HasL] at h
    obtain ⟨x, r, rfl, q, t⟩ := h
    obtain ⟨y, h1, h2⟩ := HasL.get (i := i) t (by simpa using e)
    exact ⟨y, by simpa using h1, h2⟩
theorem HasL.at' {ds : List D} {xs : List V} {i : Nat} {x : V} (h : HasL K W H ds xs) (e : xs[i]? = some x) : ∃ d, ds[i]? = some d ∧ Has K W H d x := by
  have hl := h.length
  have hi : i < ds.length := by rw [hl]; exact (List.getElem?_eq_some_iff.mp e).1
  obtain ⟨y, h1, h2⟩ := h.get (List.getElem?_eq_getElem hi)
  rw [e] at h1; cases h1
  exact ⟨_, List.getElem?_eq_getElem hi, h2⟩
theorem HasL.nil : HasL K W H [] [] := by rw [HasL]
theorem HasL.cons {d : D} {ds : List D} {x : V} {xs : List V} (h : Has K W H d x) (t : HasL K W H ds xs) : HasL K W H (d :: ds) (x :: xs) := by rw [HasL]; exact ⟨x, xs, rfl, h, t⟩
theorem HasL.append : ∀ {ds es : List D} {xs ys : List V}, HasL K W H ds xs → HasL K W H es ys → HasL K W H (ds ++ es) (xs ++ ys)
  | [], _, _, _, h, t => by rw [HasL] at h; subst h; exact t
  | d :: ds, _, _, _, h, t => by
    rw [HasL] at h
    obtain ⟨x, r, rfl, q, s⟩ := h
    exact HasL.cons q (HasL.append s t)
theorem HasL.take : ∀ {ds : List D} {xs : List V} (n : Nat), HasL K W H ds xs → HasL K W H (ds.take n) (xs.take n)
  | [], _, n, h => by rw [HasL] at h; subst h; simp [HasL]
  | d :: ds, _, 0, h => by simp [HasL]
  | d :: ds, _, n + 1, h => by
    rw [HasL] at h
    obtain ⟨x, r, rfl, q, s⟩ := h
    exact HasL.cons q (HasL.take n s)
theorem HasL.drop : ∀ {ds : List D} {xs : List V} (n : Nat), HasL K W H ds xs → HasL K W H (ds.drop n) (xs.drop n)
  | [], _, n, h => by rw [HasL] at h; subst h; simp [HasL]
  | d :: ds, _, 0, h => h
  | d :: ds, _, n + 1, h => by
    rw [HasL] at h
    obtain ⟨x, r, rfl, q, s⟩ := h
    exact HasL.drop n s
theorem HasL.snoc {ds : List D} {xs : List V} {d : D} {x : V} (h : HasL K W H ds xs) (t : Has K W H d x) : HasL K W H (ds ++ [d]) (xs ++ [x]) := h.append (HasL.cons t HasL.nil)
theorem HasL.set : ∀ {ds : List D} {xs : List V} (i : Nat) {d : D} {x : V}, HasL K W H ds xs → Has K W H d x → HasL K W H (ds.set i d) (xs.set i x)
  | [], _, n, _, _, h, _ => by rw [HasL] at h; subst h; simp [HasL]
  | e :: ds, _, 0, _, _, h, t => by
    rw [HasL] at h
    obtain ⟨y, r, rfl, q, s⟩ := h
    exact HasL.cons t s
  | e :: ds, _, i + 1, _, _, h, t => by
    rw [HasL] at h
    obtain ⟨y, r, rfl, q, s⟩ := h
    exact HasL.cons q (HasL.set i s t)
theorem HasL.ints {ns : List Int} : HasL K W H (ns.map D.int) (ns.map V.int) := by
  induction ns with
  | nil => exact HasL.nil
  | cons n ns ih => exact HasL.cons (by rw [Has]) ih
end
structure FrOk (W₀ : WS) (H₀ : Hp) (W : WS) (H : Hp) : Prop where
  ext : Same H₀ H
  sub : ∀ b, W₀ b → W b
  wl : WL W H
  wl0 : WL W₀ H₀
noncomputable def SlotHas (K : PySem.W.Frag) (W₀ : WS) (H₀ : Hp) (W : WS) (H : Hp) : S → V → Prop
  | .d x, v => Has K W H x v
  | .o ds, v => ∃ a xs, v = .ref a ∧ W a ∧ H₀ a = none ∧ H a = some (.lst xs) ∧ HasL K W H ds xs
  | .q ks ds, v => ∃ a kvs, v = .ref a ∧ W a ∧ H₀ a = none ∧ H a = some (.dK kvs) ∧ kvs.map (·.1) = ks ∧ HasL K W H ds (kvs.map (·.2))
structure StHas (K : PySem.W.Frag) (W₀ : WS) (H₀ : Hp) (W : WS) (H : Hp) (σ : L2.St) (δ : DSt) : Prop where
  fr : FrOk W₀ H₀ W H
  len : σ.length = δ.length
  at' : ∀ (i : Nat) (s : S), δ[i]? = some (some s) → ∃ v, σ[i]? = some (some v) ∧ SlotHas K W₀ H₀ W H s v
  ap : ∀ (i j : Nat) (s t : S) (a : Addr), i ≠ j → Ow s → Ow t → δ[i]? = some (some s) → δ[j]? = some (some t) → σ[i]? = some (some (.ref a)) → σ[j]? ≠ some (some (.ref a))
section
variable {K : PySem.W.Frag} {W₀ W : WS} {H₀ H H' : Hp} {σ : L2.St} {δ : DSt}
theorem WL.same (w : WL W H) (k : Same H H') : WL W H' := fun b z => let ⟨xs, e, m⟩ := w b z; ⟨xs, k _ _ e, m⟩
theorem FrOk.same (f : FrOk W₀ H₀ W H) (k : Same H H') : FrOk W₀ H₀ W H' := ⟨f.ext.trans k, f.sub, f.wl.same k, f.wl0⟩
theorem SlotHas.same {s : S} {v : V} (w : WL W H) (k : Same H H') (h : SlotHas K W₀ H₀ W H s v) : SlotHas K W₀ H₀ W H' s v := by
  cases s with
  | d x => exact Has.same h k w
  | o ds =>
    obtain ⟨a, xs, e, h1, h2, h3, h4⟩ := h
    exact ⟨a, xs, e, h1, h2, k _ _ h3, h4.same k w⟩
  | q ks ds =>
    obtain ⟨a, xs, e, h1, h2, h3, h4, h5⟩ := h
    exact ⟨a, xs, e, h1, h2, k _ _ h3, h4, h5.same k w⟩
theorem owo (ds : List D) : Ow (.o ds) := trivial
theorem owq (ks : List Key) (ds : List D) : Ow (.q ks ds) := trivial
theorem SlotHas.mv {W' : WS} {s : S} {v : V} (w : WL W H) (kk : Keep W H H') (hw : ∀ b, W' b → W b ∨ H b = none) (hq : ∀ b o, v = .ref b → W b → H₀ b = none → H b = some o → MutO o → W' b ∧ H' b = some o) (h : SlotHas K W₀ H₀ W H s v) : SlotHas K W₀ H₀ W' H' s v := by
  cases s with
  | d x => exact Has.keep kk w hw h
  | o ds =>
    obtain ⟨a, xs, e, h1, h2, h3, h4⟩ := h
    obtain ⟨g1, g2⟩ := hq a _ e h1 h2 h3 trivial
    exact ⟨a, xs, e, g1, h2, g2, HasL.keep kk w hw h4⟩
  | q ks ds =>
    obtain ⟨a, xs, e, h1, h2, h3, h4, h5⟩ := h
    obtain ⟨g1, g2⟩ := hq a _ e h1 h2 h3 trivial
    exact ⟨a, xs, e, g1, h2, g2, h4, HasL.keep kk w hw h5⟩
theorem SlotHas.own {s : S} {v : V} (h : SlotHas K W₀ H₀ W H s v) (o : Ow s) : ∃ a ob, v = .ref a ∧ W a ∧ H₀ a = none ∧ H a = some ob ∧ MutO ob := by
  cases s with
  | d x => exact o.elim
  | o ds =>
    obtain ⟨a, xs, e, h1, h2, h3, h4⟩ := h
    exact ⟨a, _, e, h1, h2, h3, trivial⟩
  | q ks ds =>
    obtain ⟨a, xs, e, h1, h2, h3, h4, h5⟩ := h
    exact ⟨a, _, e, h1, h2, h3, trivial⟩
theorem StHas.same (h : StHas K W₀ H₀ W H σ δ) (k : Same H H') : StHas K W₀ H₀ W H' σ δ :=
  ⟨h.fr.same k, h.len, fun i s e => let ⟨v, h1, h2⟩ := h.at' i s e; ⟨v, h1, h2.same h.fr.wl k⟩, h.ap⟩
theorem StHas.set {i : Nat} {x : D} {v : V} (h : StHas K W₀ H₀ W H σ δ) (q : Has K W H x v) : StHas K W₀ H₀ W H (σ.set i (some v)) (δ.set i (some (.d x))) := by
  refine ⟨h.fr, by simp [h.len], fun j s e => ?_, fun j k s1 s2 a hjk os ot e1 e2 e3 e4 => ?_⟩
  · by_cases hj : i = j
    · subst hj
      rw [List.getElem?_set_self'] at e ⊢
      cases q' : δ[i]? with
      | none => rw [q'] at e; cases e
      | some z =>
        rw [q'] at e
        have e' : some (S.d x) = some s := Option.some.inj e
        cases e'
        have hi : i < σ.length := by rw [h.len]; exact (List.getElem?_eq_some_iff.mp q').1
        exact ⟨v, by rw [List.getElem?_eq_getElem hi]; rfl, q⟩
    · rw [List.getElem?_set_ne hj] at e ⊢
      exact h.at' j s e
  · have hj : i ≠ j := by
      rintro rfl
      rw [List.getElem?_set_self'] at e1
      cases q' : δ[i]? with
      | none => rw [q'] at e1; cases e1
      | some z => rw [q'] at e1; cases e1; exact os
    have hk : i ≠ k := by
      rintro rfl
      rw [List.getElem?_set_self'] at e2
      cases q' : δ[i]? with
      | none => rw [q'] at e2; cases e2
      | some z => rw [q'] at e2; cases e2; exact ot
    rw [List.getElem?_set_ne hj] at e1 e3
    rw [List.getElem?_set_ne hk] at e2 e4
    exact h.ap j k s1 s2 a hjk os ot e1 e2 e3 e4
theorem StHas.ownG {W' : WS} {i : Nat} {sl : S} {ob : HO} {a : Addr} (h : StHas K W₀ H₀ W H σ δ) (k : Same H H') (ha : H a = none) (ha' : H' a = some ob) (mo : MutO ob) (q : SlotHas K W₀ H₀ (fun b => W b ∨ b = a) H' sl (.ref a)) :
    StHas K W₀ H₀ (fun b => W b ∨ b = a) H' (σ.set i (some (.ref a))) (δ.set i (some sl)) := by
  have hw : ∀ b, (W b ∨ b = a) → W b ∨ H b = none := fun b z => z.elim .inl fun z => .inr (by rw [z]; exact ha)
  have kk : Keep W H H' := Same.keep k
  have fr' : FrOk W₀ H₀ (fun b => W b ∨ b = a) H' := ⟨h.fr.ext.trans k, fun b z => .inl (h.fr.sub b z), fun b z => z.elim (h.fr.wl.same k b) fun z => by rw [z]; exact ⟨ob, ha', mo⟩, h.fr.wl0⟩
  have slot : ∀ {s : S} {v : V}, SlotHas K W₀ H₀ W H s v → SlotHas K W₀ H₀ (fun b => W b ∨ b = a) H' s v := fun {s v} z => z.mv h.fr.wl kk hw fun b o e h1 h2 h3 h4 => ⟨.inl h1, k _ _ h3⟩
  have old : ∀ (j : Nat) (t : S), Ow t → δ[j]? = some (some t) → σ[j]? ≠ some (some (.ref a)) := fun j t ot e z => by
    obtain ⟨v, h1, h2⟩ := h.at' j _ e
    obtain ⟨b, o, e', _, _, h3, _⟩ := h2.own ot
    rw [h1] at z
    cases z
    cases e'
    rw [ha] at h3; cases h3
  refine ⟨fr', by simp [h.len], fun j s e => ?_, fun j l s1 s2 b hjl os ot e1 e2 e3 e4 => ?_⟩
  · by_cases hj : i = j
    · subst hj
      rw [List.getElem?_set_self'] at e ⊢
      cases q' : δ[i]? with
      | none => rw [q'] at e; cases e
      | some z =>
        rw [q'] at e
        have e' : some sl = some s := Option.some.inj e
        cases e'
        have hi : i < σ.length := by rw [h.len]; exact (List.getElem?_eq_some_iff.mp q').1
        exact ⟨.ref a, by rw [List.getElem?_eq_getElem hi]; rfl, q⟩
    · rw [List.getElem?_set_ne hj] at e ⊢
      obtain ⟨v, h1, h2⟩ := h.at' j s e
      exact ⟨v, h1, slot h2⟩
  · have get : ∀ m : Nat, m ≠ i → ∀ {α : Type} (l : List α) (z : α), (l.set i z)[m]? = l[m]? := fun m hm α l z => List.getElem?_set_ne (Ne.symm hm)
    by_cases hj : j = i
    · have hl : l ≠ i := fun z => hjl (hj.trans z.symm)
      rw [get l hl] at e2 e4
      have hs : (σ.set i (some (V.ref a)))[j]? = some (some (V.ref a)) ∨ (σ.set i (some (V.ref a)))[j]? = none := by
        rw [hj, List.getElem?_set_self']
        cases σ[i]? <;> simp
      rcases hs with hs | hs
      · rw [hs] at e3; cases e3
        exact old l s2 ot e2 e4
      · rw [hs] at e3; cases e3
    · rw [get j hj] at e1 e3
      by_cases hl : l = i
      · have hs : (σ.set i (some (V.ref a)))[l]? = some (some (V.ref a)) ∨ (σ.set i (some (V.ref a)))[l]? = none := by
          rw [hl, List.getElem?_set_self']
          cases σ[i]? <;> simp
        rcases hs with hs | hs
        · rw [hs] at e4; cases e4
          exact old j s1 os e1 e3
        · rw [hs] at e4; cases e4
      · rw [get l hl] at e2 e4
        exact h.ap j l s1 s2 b hjl os ot e1 e2 e3 e4
theorem StHas.own {i : Nat} {ds : List D} {a : Addr} {xs : List V} (h : StHas K W₀ H₀ W H σ δ) (ha : H a = none) (q : HasL K W H ds xs) :
    StHas K W₀ H₀ (fun b => W b ∨ b = a) (upd H a (.lst xs)) (σ.set i (some (.ref a))) (δ.set i (some (.o ds))) := by
  have k : Same H (upd H a (.lst xs)) := fun b o e => by rw [upd_ne (Az0D e ha)]; exact e
  exact h.ownG (W' := W) k ha Az0H trivial ⟨a, xs, rfl, .inr rfl, Same.free h.fr.ext ha, Az0H, HasL.keep (Same.keep k) h.fr.wl (fun b z => z.elim .inl fun z => .inr (by rw [z]; exact ha)) q⟩
theorem StHas.ownQ {i : Nat} {ks : List Key} {ds : List D} {a : Addr} {kvs : List (Key × V)} (h : StHas K W₀ H₀ W H σ δ) (ha : H a = none) (e : kvs.map (·.1) = ks) (q : HasL K W H ds (kvs.map (·.2))) :
    StHas K W₀ H₀ (fun b => W b ∨ b = a) (upd H a (.dK kvs)) (σ.set i (some (.ref a))) (δ.set i (some (.q ks ds))) := by
  have k : Same H (upd H a (.dK kvs)) := fun b o e => by rw [upd_ne (Az0D e ha)]; exact e
  exact h.ownG (W' := W) k ha Az0H trivial ⟨a, kvs, rfl, .inr rfl, Same.free h.fr.ext ha, Az0H, e, HasL.keep (Same.keep k) h.fr.wl (fun b z => z.elim .inl fun z => .inr (by rw [z]; exact ha)) q⟩
theorem StHas.changeG {i : Nat} {so sl : S} {ob : HO} {a : Addr} (h : StHas K W₀ H₀ W H σ δ) (oo : Ow so) (hi : δ[i]? = some (some so)) (hs : σ[i]? = some (some (.ref a))) (mo : MutO ob) (hW : W a) (q : H₀ a = none → Keep W H (upd H a ob) → SlotHas K W₀ H₀ W (upd H a ob) sl (.ref a)) (ol : Ow sl) :
    StHas K W₀ H₀ W (upd H a ob) σ (δ.set i (some sl)) := by
  have kk : Keep W H (upd H a ob) := fun b o e n => by
    rw [upd_ne (fun z => n (by rw [z]; exact hW))]; exact e
  have hw : ∀ b, W b → W b ∨ H b = none := fun b z => .inl z
  obtain ⟨v, h1, h2⟩ := h.at' i _ hi
  obtain ⟨b, o1, e', _, h0, h3, _⟩ := h2.own oo
  rw [hs] at h1
  cases h1
  cases e'
  have fr' : FrOk W₀ H₀ W (upd H a ob) := ⟨fun b o e => by rw [upd_ne (Az0D e h0)]; exact h.fr.ext _ _ e, h.fr.sub, fun b z => by
    by_cases hb : b = a
    · rw [hb]; exact ⟨ob, Az0H, mo⟩
    · rw [upd_ne hb]; exact h.fr.wl b z, h.fr.wl0⟩
  have hl : i < δ.length := (List.getElem?_eq_some_iff.mp hi).1
  refine ⟨fr', by simp [h.len], fun j s e => ?_, fun j l s1 s2 b hjl os ot e1 e2 e3 e4 => ?_⟩
  · by_cases hj : i = j
    · subst hj
      rw [List.getElem?_set_self hl] at e
      cases e
      exact ⟨.ref a, hs, q h0 kk⟩
    · rw [List.getElem?_set_ne hj] at e
      obtain ⟨v, h1, h2⟩ := h.at' j s e
      refine ⟨v, h1, ?_⟩
      cases s with
      | d x => exact Has.keep kk h.fr.wl hw h2
      | o ds => exact h2.mv h.fr.wl kk hw fun b o e1 h1' _ h3' _ => ⟨h1', by
          have hb : b ≠ a := fun z => by
            subst z; subst e1
            exact h.ap i j _ _ b hj oo (owo ds) hi e hs h1
          rw [upd_ne hb]; exact h3'⟩
      | q ks ds => exact h2.mv h.fr.wl kk hw fun b o e1 h1' _ h3' _ => ⟨h1', by
          have hb : b ≠ a := fun z => by
            subst z; subst e1
            exact h.ap i j _ _ b hj oo (owq ks ds) hi e hs h1
          rw [upd_ne hb]; exact h3'⟩
  · have own : ∀ (m : Nat) (t : S), Ow t → (δ.set i (some sl))[m]? = some (some t) → ∃ t', Ow t' ∧ δ[m]? = some (some t') := fun m t ot e => by
      by_cases hm : i = m
      · subst hm; exact ⟨so, oo, hi⟩
      · rw [List.getElem?_set_ne hm] at e; exact ⟨t, ot, e⟩
    obtain ⟨x1, o1, g1⟩ := own j s1 os e1
    obtain ⟨x2, o2, g2⟩ := own l s2 ot e2
    exact h.ap j l x1 x2 b hjl o1 o2 g1 g2 e3 e4
theorem StHas.change {i : Nat} {ds es : List D} {a : Addr} {xs ys : List V} (h : StHas K W₀ H₀ W H σ δ) (hi : δ[i]? = some (some (.o ds))) (hs : σ[i]? = some (some (.ref a))) (ha : H a = some (.lst xs)) (hW : W a) (q : HasL K W H es ys) :
    StHas K W₀ H₀ W (upd H a (.lst ys)) σ (δ.set i (some (.o es))) :=
  h.changeG (owo ds) hi hs trivial hW (fun h0 kk => ⟨a, ys, rfl, hW, h0, Az0H, HasL.keep kk h.fr.wl (fun b z => .inl z) q⟩) (owo es)
theorem StHas.changeQ {i : Nat} {ks ks' : List Key} {ds es : List D} {a : Addr} {kvs' : List (Key × V)} (h : StHas K W₀ H₀ W H σ δ) (hi : δ[i]? = some (some (.q ks ds))) (hs : σ[i]? = some (some (.ref a))) (hW : W a) (e : kvs'.map (·.1) = ks') (q : HasL K W H es (kvs'.map (·.2))) :
    StHas K W₀ H₀ W (upd H a (.dK kvs')) σ (δ.set i (some (.q ks' es))) :=
  h.changeG (owq ks ds) hi hs trivial hW (fun h0 kk => ⟨a, kvs', rfl, hW, h0, Az0H, e, HasL.keep kk h.fr.wl (fun b z => .inl z) q⟩) (owq ks' es)
theorem StHas.freezeG {i : Nat} {so : S} {x : D} {a : Addr} (h : StHas K W₀ H₀ W H σ δ) (oo : Ow so) (hi : δ[i]? = some (some so)) (hs : σ[i]? = some (some (.ref a)))
    (hd : Has K (fun b => W b ∧ b ≠ a) H x (.ref a)) : StHas K W₀ H₀ (fun b => W b ∧ b ≠ a) H σ (δ.set i (some (.d x))) := by
  obtain ⟨v, h1, h2⟩ := h.at' i _ hi
  obtain ⟨b, o1, e', hW, h0, h3, _⟩ := h2.own oo
  rw [hs] at h1
  cases h1
  cases e'
  have kk : Keep W H H := fun _ _ e _ => e
  have hw : ∀ b, (W b ∧ b ≠ a) → W b ∨ H b = none := fun b z => .inl z.1
  have hl : i < δ.length := (List.getElem?_eq_some_iff.mp hi).1
  refine ⟨⟨h.fr.ext, fun b z => ⟨h.fr.sub b z, fun e => ?_⟩, fun b z => h.fr.wl b z.1, h.fr.wl0⟩, by simp [h.len], fun j s e => ?_, fun j l s1 s2 b hjl os ot e1 e2 e3 e4 => ?_⟩
  · subst e
    obtain ⟨ys, z', _⟩ := h.fr.wl0 _ z
    rw [h0] at z'; cases z'
  · by_cases hj : i = j
    · subst hj
      rw [List.getElem?_set_self hl] at e
      cases e
      exact ⟨.ref a, hs, hd⟩
    · rw [List.getElem?_set_ne hj] at e
      obtain ⟨v, g1, g2⟩ := h.at' j s e
      refine ⟨v, g1, ?_⟩
      by_cases ow : Ow s
      · exact g2.mv h.fr.wl kk hw fun b o e1 h1' _ h3' _ => ⟨⟨h1', fun z => by subst z; subst e1; exact h.ap i j _ _ b hj oo ow hi e hs g1⟩, h3'⟩
      · cases s with
        | d x => exact Has.keep kk h.fr.wl hw g2
        | _ => exact (ow trivial).elim
  · have hj : i ≠ j := by
      rintro rfl
      rw [List.getElem?_set_self hl] at e1; cases e1; exact os
    have hk : i ≠ l := by
      rintro rfl
      rw [List.getElem?_set_self hl] at e2; cases e2; exact ot
    rw [List.getElem?_set_ne hj] at e1
    rw [List.getElem?_set_ne hk] at e2
    exact h.ap j l s1 s2 b hjl os ot e1 e2 e3 e4
theorem StHas.freezeH {i : Nat} {so : S} {x : D} {a : Addr} {ob : HO} (h : StHas K W₀ H₀ W H σ δ) (oo : Ow so) (hi : δ[i]? = some (some so)) (hs : σ[i]? = some (some (.ref a)))
    (hd : Has K (fun b => W b ∧ b ≠ a) (upd H a ob) x (.ref a)) : StHas K W₀ H₀ (fun b => W b ∧ b ≠ a) (upd H a ob) σ (δ.set i (some (.d x))) := by
  obtain ⟨v, h1, h2⟩ := h.at' i _ hi
  obtain ⟨b, o1, e', hW, h0, h3, _⟩ := h2.own oo
  rw [hs] at h1
  cases h1
  cases e'
  have kk : Keep W H (upd H a ob) := fun b o e n => by rw [upd_ne (fun z => n (by rw [z]; exact hW))]; exact e
  have hw : ∀ b, (W b ∧ b ≠ a) → W b ∨ H b = none := fun b z => .inl z.1
  have hl : i < δ.length := (List.getElem?_eq_some_iff.mp hi).1
  refine ⟨⟨fun b o e => by rw [upd_ne (Az0D e h0)]; exact h.fr.ext _ _ e, fun b z => ⟨h.fr.sub b z, fun e => ?_⟩, fun b z => by rw [upd_ne z.2]; exact h.fr.wl b z.1, h.fr.wl0⟩, by simp [h.len], fun j s e => ?_, fun j l s1 s2 b hjl os ot e1 e2 e3 e4 => ?_⟩
  · subst e
    obtain ⟨ys, z', _⟩ := h.fr.wl0 _ z
    rw [h0] at z'; cases z'
  · by_cases hj : i = j
    · subst hj
      rw [List.getElem?_set_self hl] at e
      cases e
      exact ⟨.ref a, hs, hd⟩
    · rw [List.getElem?_set_ne hj] at e
      obtain ⟨v, g1, g2⟩ := h.at' j s e
      refine ⟨v, g1, ?_⟩
      by_cases ow : Ow s
      · exact g2.mv h.fr.wl kk hw fun b o e1 h1' _ h3' _ => (fun hba => ⟨⟨h1', hba⟩, by rw [upd_ne hba]; exact h3'⟩) (fun z => by subst z; subst e1; exact h.ap i j _ _ b hj oo ow hi e hs g1)
      · cases s with
        | d x => exact Has.keep kk h.fr.wl hw g2
        | _ => exact (ow trivial).elim
  · have hj : i ≠ j := by
      rintro rfl
      rw [List.getElem?_set_self hl] at e1; cases e1; exact os
    have hk : i ≠ l := by
      rintro rfl
      rw [List.getElem?_set_self hl] at e2; cases e2; exact ot
    rw [List.getElem?_set_ne hj] at e1
    rw [List.getElem?_set_ne hk] at e2
    exact h.ap j l s1 s2 b hjl os ot e1 e2 e3 e4
end
noncomputable abbrev XW := Str → List D → Hp → Prop
section
variable (K : PySem.W.Frag) (xw : XW)
noncomputable def RE (W : WS) (H : Hp) (r : Res D) (Q : VK) : Prop := match r with
  | .ok d => ∀ v H', Same H H' → Has K W H' d v → Q v H'
  | .ex c fs => ∀ H', Same H H' → xw c fs H'
  | .stuck => False
noncomputable def HasT (W : WS) (H : Hp) (d : D) (v : V) : Prop := Has K W H d v ∨ ∃ ds a xs, d = .lst ds ∧ v = .ref a ∧ H a = some (.lst xs) ∧ HasL K W H ds xs
noncomputable def RP (W : WS) (H : Hp) (r : Res D) (Q : VK) : Prop := match r with
  | .ok d => ∀ v H', Same H H' → HasT K W H' d v → Q v H'
  | .ex c fs => ∀ H', Same H H' → xw c fs H'
  | .stuck => False
noncomputable def RF (W : WS) (H : Hp) (r : Res (List D)) (Q : VK) : Prop := match r with
  | .ok ds => ∀ a xs H1, Same H H1 → H1 a = none → HasL K W H1 ds xs → Q (.ref a) (upd H1 a (.lst xs))
  | .ex c fs => ∀ H', Same H H' → xw c fs H'
  | .stuck => False
noncomputable def RT (H : Hp) (r : Res Bool) (Q : Bool → Hp → Prop) : Prop := match r with
  | .ok b => ∀ H', Same H H' → Q b H'
  | .ex c fs => ∀ H', Same H H' → xw c fs H'
  | .stuck => False
noncomputable def RA (W : WS) (H : Hp) (r : Res (List D)) (Q : List V → Hp → Prop) : Prop := match r with
  | .ok ds => ∀ vs H', Same H H' → HasL K W H' ds vs → Q vs H'
  | .ex c fs => ∀ H', Same H H' → xw c fs H'
  | .stuck => False
noncomputable def tDE (f : DSt → Res D) : TE := fun σ H Q => ∃ W₀ H₀ W δ, StHas K W₀ H₀ W H σ δ ∧ RE K xw W H (f δ) Q
noncomputable def tDP (f : DSt → Res D) : TE := fun σ H Q => ∃ W₀ H₀ W δ, StHas K W₀ H₀ W H σ δ ∧ RP K xw W H (f δ) Q
noncomputable def tDF (f : DSt → Res (List D)) : TE := fun σ H Q => ∃ W₀ H₀ W δ, StHas K W₀ H₀ W H σ δ ∧ RF K xw W H (f δ) Q
noncomputable def tDT (f : DSt → Res Bool) : TT := fun σ H Q => ∃ W₀ H₀ W δ, StHas K W₀ H₀ W H σ δ ∧ RT xw H (f δ) Q
noncomputable def tDA (f : DSt → Res (List D)) : TA := fun σ H Q => ∃ W₀ H₀ W δ, StHas K W₀ H₀ W H σ δ ∧ RA K xw W H (f δ) Q
end
noncomputable def DE (X : Cx) (xw : XW) (e : Expr) (f : DSt → Res D) : Prop := PE X e (tDE X.K xw f)
noncomputable def DP (X : Cx) (xw : XW) (e : Expr) (f : DSt → Res D) : Prop := PE X e (tDP X.K xw f)
noncomputable def DF (X : Cx) (xw : XW) (e : Expr) (f : DSt → Res (List D)) : Prop := PE X e (tDF X.K xw f)
noncomputable def DT (X : Cx) (xw : XW) (e : Expr) (f : DSt → Res Bool) : Prop := PT X e (tDT X.K xw f)
noncomputable def DW (X : Cx) (xw : XW) (e : Expr) (f : DSt → Res Bool) : Prop := PW X e (tDT X.K xw f)
noncomputable def DA (X : Cx) (xw : XW) (es : List Expr) (f : DSt → Res (List D)) : Prop := PA X es (tDA X.K xw f)
theorem PE.weak {X : Cx} {e : Expr} {t t' : TE} (h : PE X e t) (k : ∀ σ H Q, t' σ H Q → t σ H Q) : PE X e t' := fun pins s σ H Q I q => h pins s σ H Q I (k σ H Q q)
theorem PT.weak {X : Cx} {e : Expr} {t t' : TT} (h : PT X e t) (k : ∀ σ H Q, t' σ H Q → t σ H Q) : PT X e t' := fun pins s σ H Q I q => h pins s σ H Q I (k σ H Q q)
theorem PW.weak {X : Cx} {e : Expr} {t t' : TT} (h : PW X e t) (k : ∀ σ H Q, t' σ H Q → t σ H Q) : PW X e t' := fun wh pins s σ H Q I q => h wh pins s σ H Q I (k σ H Q q)
theorem PA.weak {X : Cx} {e : List Expr} {t t' : TA} (h : PA X e t) (k : ∀ σ H Q, t' σ H Q → t σ H Q) : PA X e t' := fun ps pins s σ H Q I q => h ps pins s σ H Q I (k σ H Q q)
section
variable {K : PySem.W.Frag} {xw : XW} {W : WS} {H H' : Hp} {Q : VK}
theorem RE.same {r : Res D} (h : RE K xw W H r Q) (k : Same H H') : RE K xw W H' r Q := by
  cases r with
  | ok d => exact fun v H2 k2 q => h v H2 (k.trans k2) q
  | ex c fs => exact fun H2 k2 => h H2 (k.trans k2)
  | stuck => exact h
theorem RF.same {r : Res (List D)} (h : RF K xw W H r Q) (k : Same H H') : RF K xw W H' r Q := by
  cases r with
  | ok d => exact fun a xs H1 k1 n q => h a xs H1 (k.trans k1) n q
  | ex c fs => exact fun H2 k2 => h H2 (k.trans k2)
  | stuck => exact h
theorem RT.same {r : Res Bool} {Q : Bool → Hp → Prop} (h : RT xw H r Q) (k : Same H H') : RT xw H' r Q := by
  cases r with
  | ok d => exact fun H2 k2 => h H2 (k.trans k2)
  | ex c fs => exact fun H2 k2 => h H2 (k.trans k2)
  | stuck => exact h
theorem RA.same {r : Res (List D)} {Q : List V → Hp → Prop} (h : RA K xw W H r Q) (k : Same H H') : RA K xw W H' r Q := by
  cases r with
  | ok d => exact fun v H2 k2 q => h v H2 (k.trans k2) q
  | ex c fs => exact fun H2 k2 => h H2 (k.trans k2)
  | stuck => exact h
theorem HasT.same {d : D} {v : V} (h : HasT K W H d v) (k : Same H H') (w : WL W H) : HasT K W H' d v := by
  rcases h with h | ⟨ds, a, xs, h1, h2, h3, h4⟩
  · exact .inl (h.same k w)
  · exact .inr ⟨ds, a, xs, h1, h2, k _ _ h3, h4.same k w⟩
theorem Has.top {d : D} {v : V} (h : Has K W H d v) : HasT K W H d v := .inl h
theorem HasT.int {i : Int} {v : V} (h : HasT K W H (.int i) v) : v = .int i := by
  rcases h with h | ⟨ds, a, xs, h1, _⟩
  · rw [Has] at h; exact h
  · cases h1
theorem HasT.bl {i : Bool} {v : V} (h : HasT K W H (.bl i) v) : v = .bl i := by
  rcases h with h | ⟨ds, a, xs, h1, _⟩
  · rw [Has] at h; exact h
  · cases h1
theorem HasT.str {i : Str} {v : V} (h : HasT K W H (.str i) v) : v = .str i := by
  rcases h with h | ⟨ds, a, xs, h1, _⟩
  · rw [Has] at h; exact h
  · cases h1
theorem HasT.non {v : V} (h : HasT K W H .non v) : v = .non := by
  rcases h with h | ⟨ds, a, xs, h1, _⟩
  · rw [Has] at h; exact h
  · cases h1
theorem HasT.tup {ds : List D} {v : V} (h : HasT K W H (.tup ds) v) : ∃ a xs, v = .ref a ∧ SqT K H a xs ∧ HasL K W H ds xs := by
  rcases h with h | ⟨ds, a, xs, h1, _⟩
  · rw [Has] at h; exact h
  · cases h1
theorem HasT.lst {ds : List D} {v : V} (h : HasT K W H (.lst ds) v) : ∃ a xs, v = .ref a ∧ SqL K H a xs ∧ HasL K W H ds xs := by
  rcases h with h | ⟨ds, a, xs, h1, h2, h3, h4⟩
  · rw [Has] at h
    obtain ⟨a, xs, e, q, r⟩ := h
    exact ⟨a, xs, e, q.sq, r⟩
  · cases h1
    exact ⟨a, xs, h2, .of h3, h4⟩
end
end L3
namespace L3
open PySem PySem.Spec PyProof.Rows L2
noncomputable def clOf (scope : Scope) (env : Env) : List (Str × Addr) := scope.names.foldl (fun cs y => if y.2 == .free then (match env.cells.lookup y.1 with | some a => (y.1, a) :: cs | none => cs) else cs) []
theorem Cz3H {env : Env} (names : List (Str × NameKind)) : ∀ (cs : List (Str × Addr)), (∀ y ∈ names, y.2 = .free → ∃ c, env.cells.lookup y.1 = some c) →
    (forIn names cs (fun (y : Str × NameKind) (r : List (Str × Addr)) => (do
      if (y.2 == NameKind.free) = true then do
        let a ← cellOf env y.1
        pure (ForInStep.yield ((y.1, a) :: r))
      else pure (ForInStep.yield r) : Sem (ForInStep (List (Str × Addr)))))) = (pure (names.foldl (fun cs y => if y.2 == .free then (match env.cells.lookup y.1 with | some a => (y.1, a) :: cs | none => cs) else cs) cs) : Sem _) := by
  induction names with
  | nil => intro cs _; rfl
  | cons y r ih =>
    intro cs h
    have h' : ∀ y ∈ r, y.2 = .free → ∃ c, env.cells.lookup y.1 = some c := fun z hz => h z (List.mem_cons_of_mem _ hz)
    rw [List.forIn_cons, List.foldl_cons]
    by_cases hk : y.2 = .free
    · obtain ⟨c, hc⟩ := h y List.mem_cons_self hk
      have hb : (y.2 == NameKind.free) = true := by rw [hk]; rfl
      simp only [hb, if_true, cellOf, hc, pure_bind]
      exact ih _ h'
    · have hb : (y.2 == NameKind.free) = false := by simpa using hk
      simp only [hb, Bool.false_eq_true, if_false, pure_bind]
      exact ih _ h'
theorem Bz7G {scope : Scope} {env : Env} (h : ∀ y ∈ scope.names, y.2 = .free → ∃ c, env.cells.lookup y.1 = some c) : closureFor scope env = pure (clOf scope env) := by
  unfold closureFor clOf
  exact (congrArg (fun z => z >>= fun r => pure r) (Cz3H scope.names [] h)).trans (by simp)
theorem Bz9H {env : Env} (names : List (Str × NameKind)) : ∀ (cs : List (Str × Addr)), (∀ x c, cs.lookup x = some c → env.cells.lookup x = some c) →
    ∀ x c, (names.foldl (fun cs y => if y.2 == .free then (match env.cells.lookup y.1 with | some a => (y.1, a) :: cs | none => cs) else cs) cs).lookup x = some c → env.cells.lookup x = some c := by
  induction names with
  | nil => intro cs h; exact h
  | cons y r ih =>
    intro cs h
    rw [List.foldl_cons]
    refine ih _ ?_
    split
    · split
      · rename_i a ha
        intro x c e
        rw [List.lookup_cons] at e
        by_cases hx : x = y.1
        · have : (x == y.1) = true := by rw [hx]; simp
          rw [this] at e
          have e' : a = c := Option.some.inj e
          rw [hx, ha, e']
        · have : (x == y.1) = false := by simpa using hx
          rw [this] at e
          exact h x c e
      · exact h
    · exact h
theorem Bz4H {env : Env} (names : List (Str × NameKind)) : ∀ (cs : List (Str × Addr)) (x : Str), ((∃ c, cs.lookup x = some c) ∨ ((x, NameKind.free) ∈ names ∧ ∃ c, env.cells.lookup x = some c)) →
    ∃ c, (names.foldl (fun cs y => if y.2 == .free then (match env.cells.lookup y.1 with | some a => (y.1, a) :: cs | none => cs) else cs) cs).lookup x = some c := by
  induction names with
  | nil =>
    intro cs x h
    rcases h with h | ⟨h, _⟩
    · exact h
    · simp at h
  | cons y r ih =>
    intro cs x h
    rw [List.foldl_cons]
    refine ih _ x ?_
    rcases h with ⟨c, h⟩ | ⟨h, c, hc⟩
    · left
      split
      · split
        · rename_i a ha
          rw [List.lookup_cons]
          cases hx : x == y.1 with
          | true => exact ⟨a, rfl⟩
          | false => exact ⟨c, h⟩
        · exact ⟨c, h⟩
      · exact ⟨c, h⟩
    · rcases List.mem_cons.mp h with h | h
      · left
        subst h
        simp only [beq_self_eq_true, if_true, hc]
        exact ⟨c, by rw [List.lookup_cons]; simp⟩
      · exact .inr ⟨h, c, hc⟩
theorem Az5G {g : Str → NameKind → NameKind} : ∀ (l : List (Str × NameKind)) (x : Str), (l.map fun y => (y.1, g y.1 y.2)).lookup x = (l.lookup x).map (g x)
  | [], _ => rfl
  | y :: r, x => by
    rw [List.map_cons, List.lookup_cons, List.lookup_cons]
    cases hx : x == y.1 with
    | true =>
      have : x = y.1 := by simpa using hx
      rw [this]; rfl
    | false => exact Az5G r x
theorem Az1W (scope : Scope) (env : Env) (x : Str) : (relabel scope env).names.lookup x = (scope.names.lookup x).map fun k => if (k == .free && env.scope.kind == .function && env.kindOf x == some .cell) then .cell else k := by
  have e : (relabel scope env).names = scope.names.map fun y => (y.1, (fun n k => if (k == NameKind.free && env.scope.kind == .function && env.kindOf n == some .cell) then NameKind.cell else k) y.1 y.2) := by
    unfold relabel
    refine List.map_congr_left fun y _ => ?_
    obtain ⟨n, k⟩ := y
    dsimp only
    split <;> rfl
  rw [e]
  exact Az5G (g := fun n k => if (k == NameKind.free && env.scope.kind == .function && env.kindOf n == some .cell) then NameKind.cell else k) scope.names x
theorem Bz9I {env : Env} (names : List (Str × NameKind)) : ∀ (cs : List (Str × Addr)) (x : Str) (c : Addr), (names.foldl (fun cs y => if y.2 == .free then (match env.cells.lookup y.1 with | some a => (y.1, a) :: cs | none => cs) else cs) cs).lookup x = some c → cs.lookup x = some c ∨ (x, NameKind.free) ∈ names := by
  induction names with
  | nil => intro cs x c h; exact .inl h
  | cons y r ih =>
    intro cs x c h
    rw [List.foldl_cons] at h
    rcases ih _ x c h with h | h
    · by_cases hf : y.2 = .free
      · by_cases hx : x = y.1
        · right; subst hx; rw [← hf]; exact List.mem_cons_self
        · left
          have hb : (y.2 == NameKind.free) = true := by rw [hf]; rfl
          have hxb : (x == y.1) = false := by simpa using hx
          simp only [hb, if_true] at h
          split at h
          · rw [List.lookup_cons, hxb] at h; exact h
          · exact h
      · left
        have hb : (y.2 == NameKind.free) = false := by simpa using hf
        simp only [hb, Bool.false_eq_true, if_false] at h
        exact h
    · exact .inr (List.mem_cons_of_mem _ h)
theorem cf_or : ∀ (names : List (Str × NameKind)) (n : Nat) (acc : List (Str × Addr)) (x : Str) (c : Addr), (cellsFrom n names acc).lookup x = some c → acc.lookup x = some c ∨ (n ≤ c ∧ (x, NameKind.cell) ∈ names)
  | [], _, _, _, _, h => .inl h
  | (y, k) :: r, n, acc, x, c, h => by
    unfold cellsFrom at h
    by_cases hk : (k == .cell) = true
    · rw [if_pos hk] at h
      have hk' : k = .cell := by simpa using hk
      rcases cf_or r (n + 1) _ x c h with h | ⟨h1, h2⟩
      · rw [List.lookup_cons] at h
        cases hx : x == y with
        | true =>
          rw [hx] at h
          have e : n = c := Option.some.inj h
          have ex : x = y := by simpa using hx
          subst ex; subst hk'
          exact .inr ⟨by omega, List.mem_cons_self⟩
        | false => rw [hx] at h; exact .inl h
      · exact .inr ⟨by omega, List.mem_cons_of_mem _ h2⟩
    · rw [if_neg hk] at h
      rcases cf_or r n acc x c h with h | ⟨h1, h2⟩
      · exact .inl h
      · exact .inr ⟨h1, List.mem_cons_of_mem _ h2⟩
theorem cf_old : ∀ (names : List (Str × NameKind)) (n : Nat) (acc : List (Str × Addr)) (x : Str), (x, NameKind.cell) ∉ names → (cellsFrom n names acc).lookup x = acc.lookup x
  | [], _, _, _, _ => rfl
  | (y, k) :: r, n, acc, x, h => by
    have hr : (x, NameKind.cell) ∉ r := fun z => h (List.mem_cons_of_mem _ z)
    unfold cellsFrom
    by_cases hk : (k == .cell) = true
    · rw [if_pos hk, cf_old r (n + 1) _ x hr, List.lookup_cons]
      have hk' : k = .cell := by simpa using hk
      have hx : (x == y) = false := by
        cases hx : x == y with
        | false => rfl
        | true =>
          have ex : x = y := by simpa using hx
          subst ex; subst hk'
          exact absurd List.mem_cons_self h
      rw [hx]
    · rw [if_neg hk]; exact cf_old r n acc x hr
theorem cf_inj : ∀ (names : List (Str × NameKind)) (n : Nat) (acc : List (Str × Addr)), (∀ x y c, acc.lookup x = some c → acc.lookup y = some c → x = y) → (∀ x c, acc.lookup x = some c → c < n) →
    ∀ x y c, (cellsFrom n names acc).lookup x = some c → (cellsFrom n names acc).lookup y = some c → x = y
  | [], _, _, h, _ => h
  | (z, k) :: r, n, acc, h, hb => by
    unfold cellsFrom
    by_cases hk : (k == .cell) = true
    · rw [if_pos hk]
      refine cf_inj r (n + 1) _ (fun x y c e1 e2 => ?_) fun x c e => ?_
      · rw [List.lookup_cons] at e1 e2
        cases hx : x == z with
        | true =>
          rw [hx] at e1
          have ec : n = c := Option.some.inj e1
          have ex : x = z := by simpa using hx
          cases hy : y == z with
          | true =>
            have ey : y = z := by simpa using hy
            rw [ex, ey]
          | false =>
            rw [hy] at e2
            have := hb y c e2
            rw [← ec] at this
            exact absurd this (Nat.lt_irrefl _)
        | false =>
          rw [hx] at e1
          cases hy : y == z with
          | true =>
            rw [hy] at e2
            have ec : n = c := Option.some.inj e2
            have := hb x c e1
            rw [← ec] at this
            exact absurd this (Nat.lt_irrefl _)
          | false => rw [hy] at e2; exact h x y c e1 e2
      · rw [List.lookup_cons] at e
        cases hx : x == z with
        | true =>
          rw [hx] at e
          have ec : n = c := Option.some.inj e
          rw [← ec]
          exact Nat.lt_succ_self _
        | false => rw [hx] at e; exact Nat.lt_succ_of_lt (hb x c e)
    · rw [if_neg hk]; exact cf_inj r n acc h hb
theorem Bz4J : ∀ (names : List (Str × NameKind)) (h : Heap) (acc : List (Str × Addr)), (∀ x c, acc.lookup x = some c → ∃ v, h.IsCell c v) → ∀ x c, (cellsFrom h.objs.size names acc).lookup x = some c → ∃ v, (pushCells h names).IsCell c v
  | [], _, _, hc => hc
  | (z, k) :: r, h, acc, hc => by
    unfold cellsFrom pushCells
    by_cases hk : (k == .cell) = true
    · rw [if_pos hk, if_pos hk]
      have := Bz4J r (h.push { cls := .type "cell", data := .cell none }) ((z, h.objs.size) :: acc) fun x c e => by
        rw [List.lookup_cons] at e
        cases hx : x == z with
        | true =>
          rw [hx] at e
          have ec : h.objs.size = c := Option.some.inj e
          subst ec
          exact ⟨none, _, Heap.get?_push_size _ rfl, rfl⟩
        | false =>
          rw [hx] at e
          obtain ⟨v, q⟩ := hc x c e
          exact ⟨v, q.keeps fun b o e => Heap.get?_push_of_some _ e⟩
      rw [Heap.size_push] at this
      exact this
    · rw [if_neg hk, if_neg hk]; exact Bz4J r h acc hc
noncomputable def ccOf (scope : Scope) (env : Env) (C : Addr) : List (Str × Addr) := cellsFrom (C + 1) scope.names (clOf scope env)
theorem Az5M {M : Model} {A : Around} {E : Value → Shared → Prop} {s : Shared} {scope : Scope} {globals : Addr} {cl : List (Str × Addr)} {qual : Str} {env : Env} {Q : Env → Shared → Prop}
    (hQ : Q { scope := scope, locals := s.heap.objs.size, globals := globals, cells := cellsFrom (s.heap.objs.size + 1) scope.names cl, qual := qual, func := none, code := env.code, frame := env.frame, builtins := env.builtins }
      { s with heap := pushCells (s.heap.push { cls := .type "dict", data := .dict #[] }) scope.names }) :
    wpAny M A (newFunctionEnv scope globals cl [] qual none .none (some env)) Q E s := by
  simp only [newFunctionEnv, Option.isSome_some, if_true]
  refine wpAny_bind (wpAny_alloc ?_)
  refine wpAny_bind (wpAny_layCells _ (fun name kind cells => by cases hkc : kind == NameKind.cell <;> simp [hkc]) _ _ _ _ ?_)
  rw [show ({ s with heap := s.heap.push { cls := .type "dict", data := .dict #[] } } : Shared).heap.objs.size = s.heap.objs.size + 1 from Heap.size_push ..]
  refine wpAny_bind ?_
  rw [List.forIn_nil]
  exact wpAny_pure (wpAny_pure hQ)
theorem Bz2W {h : Heap} {names : List (Str × NameKind)} : (pushCells (h.push { cls := .type "dict", data := .dict #[] }) names).Ns h.objs.size fun _ => none := (Heap.Ns.new h (.type "dict")).keeps (pushCells_keeps _ _)
noncomputable def compCx (X : Cx) (scope : Scope) (Nc Nx : List Str) (C : Addr) (fp : List Addr) (pins : List (Addr × Obj)) (s : Shared) (H : Hp) : Cx :=
  { X with N := Nc ++ Nx, s₀ := s, H₀ := H, env := compEnvC scope (ccOf scope X.env C) C X.env, outer := X.stack, stack := X.stack, ex := fp, fn := fun x => scope.names.lookup x == some .cell, pn := X.pn ++ pins, xe := fun _ _ => False }
structure CompOk (X : Cx) (scope : Scope) (Nc Nx : List Str) : Prop where
  kind : scope.kind = .function
  one : ∀ y ∈ scope.names, scope.names.lookup y.1 = some y.2
  free : ∀ y ∈ scope.names, y.2 = .free → X.env.kindOf y.1 = some .cell ∨ X.env.kindOf y.1 = some .free
  same : Nx.length = X.N.length
  dis : ∀ p ∈ Nx.zip X.N, (p.1 = p.2 ∧ scope.names.lookup p.2 ≠ some .local ∧ scope.names.lookup p.2 ≠ some .cell) ∨ scope.names.lookup p.1 = none
section
variable {X : Cx} {scope : Scope} {Nc Nx : List Str}
theorem CompOk.loc (c : CompOk X scope Nc Nx) : ∀ y ∈ scope.names, y.2 = .local → scope.names.lookup y.1 = some .local := fun y hy h => by rw [c.one y hy, h]
theorem CompOk.old (c : CompOk X scope Nc Nx) {x : Str} {k : NameKind} (h : scope.names.lookup x = some k) (hk : k ≠ .cell) : (x, NameKind.cell) ∉ scope.names := fun z => by
  have := c.one _ z
  rw [h] at this
  exact hk (Option.some.inj this)
theorem CompOk.cells (c : CompOk X scope Nc Nx) (ok : X.Ok) : ∀ y ∈ scope.names, y.2 = .free → ∃ a, X.env.cells.lookup y.1 = some a := fun y hy hf => ok.has y.1 (c.free y hy hf)
theorem Az3G {x : Str} {a : Addr} (h : (clOf scope X.env).lookup x = some a) : X.env.cells.lookup x = some a := Bz9H scope.names [] (fun _ _ e => by simp at e) x a h
theorem Bz4L (C : Addr) {x : Str} {a : Addr} (h : (ccOf scope X.env C).lookup x = some a) : X.env.cells.lookup x = some a ∨ (C < a ∧ (x, NameKind.cell) ∈ scope.names) := by
  rcases cf_or _ _ _ x a h with h | ⟨h1, h2⟩
  · exact .inl (Az3G h)
  · exact .inr ⟨h1, h2⟩
theorem Bz9K (c : CompOk X scope Nc Nx) (C : Addr) {x : Str} {a : Addr} (hx : scope.names.lookup x = some .cell) (h : (ccOf scope X.env C).lookup x = some a) : C < a := by
  rcases cf_or _ _ _ x a h with h | ⟨h1, _⟩
  · rcases Bz9I scope.names [] x a h with h | h
    · simp at h
    · have := c.one _ h
      rw [hx] at this
      cases this
  · exact h1
theorem Bz4M (c : CompOk X scope Nc Nx) (C : Addr) {x : Str} {k : NameKind} (hx : scope.names.lookup x = some k) (hk : k ≠ .cell) : (ccOf scope X.env C).lookup x = (clOf scope X.env).lookup x := cf_old _ _ _ x (c.old hx hk)
theorem Bz8P {pins : List (Addr × Obj)} {σ : L2.St} {H : Hp} {s : Shared} {fp : List Addr} {tk : Nat} (c : CompOk X scope Nc Nx) (I : Inv X pins σ H s) (hf : ∀ b ∈ fp, FpOk X pins H b ∧ b < s.heap.objs.size) :
    Inv (compCx X scope Nc Nx s.heap.objs.size fp pins s H) [] (List.replicate Nc.length none ++ σ) H { s with heap := pushCells (s.heap.push { cls := .type "dict", data := .dict #[] }) scope.names, toks := tk } := by
  have hn : (pushCells (s.heap.push { cls := .type "dict", data := .dict #[] }) scope.names).Ns s.heap.objs.size fun _ => none := Bz2W
  have hk : ∀ b o, s.heap.get? b = some o → (pushCells (s.heap.push { cls := .type "dict", data := .dict #[] }) scope.names).get? b = some o := fun b o e => pushCells_keeps _ _ _ _ (Heap.get?_push_of_some _ e)
  have cellLt : ∀ x a, X.env.cells.lookup x = some a → a < s.heap.objs.size := fun x a e => by
    obtain ⟨v, q⟩ := I.cell x a e
    exact q.lt
  have hokind : (compEnvC scope (ccOf scope X.env s.heap.objs.size) s.heap.objs.size X.env).scope.kind = .function := c.kind
  have kinds : ∀ x, ((relabel scope X.env).names.lookup x = some .cell ∨ (relabel scope X.env).names.lookup x = some .free) → scope.names.lookup x = some .cell ∨ scope.names.lookup x = some .free := fun x hx' => by
    rw [Az1W] at hx'
    cases q : scope.names.lookup x with
    | none => rw [q] at hx'; simp at hx'
    | some k =>
      rw [q] at hx'
      by_cases hkf : k = .free
      · rw [hkf]; exact .inr rfl
      · have hb : (k == NameKind.free) = false := by simpa using hkf
        simp only [Option.map_some, hb, Bool.false_and, Bool.false_eq_true, if_false] at hx'
        exact hx'
  refine ⟨⟨I.ok.mod, hokind, I.ok.glob, I.ok.blt, Nat.le_refl _, ?_, fun x hx => ?_, fun x a hx e => ?_, I.ok.hd, I.ok.frames, .inl rfl, fun b hb => ⟨?_, fun x a e => ?_⟩, I.bs, Nat.le_trans I.ok.bsz I.sz, fun b o e hb => ?_, fun b hb => ?_, I.stack, I.stkFree⟩,
    rfl, I.bare, Un.kept hk, ⟨_, hn, fun i x v h1 h2 h3 => ?_⟩, ?_, I.hok.fresh (Nat.le_refl _), fun x a e => ?_, fun p hp => ?_, I.hok.kept hk, ?_⟩
  · exact cf_inj scope.names _ _ (fun x y a h1 h2 => I.ok.inj x y a (Az3G h1) (Az3G h2)) fun x a h => Nat.lt_succ_of_lt (cellLt x a (Az3G h))
  · rcases kinds x hx with hc | hfree
    · exact Option.isSome_iff_exists.mp (PySem.W.cellsFrom_some scope.names _ _ (.inl hc))
    · have hm := PySem.mem_of_lookup hfree
      obtain ⟨a, e⟩ := Bz4H (env := X.env) scope.names [] x (.inr ⟨hm, c.cells I.ok _ hm rfl⟩)
      exact ⟨a, (Bz4M c _ hfree (by decide)).trans e⟩
  · have hx' : (scope.names.lookup x == some NameKind.cell) = true := hx
    exact Nat.le_of_lt (Bz9K c _ (by simpa using hx') e)
  · exact Nat.ne_of_lt (hf b hb).2
  · rcases Bz4L _ e with e | ⟨e, _⟩
    · exact (hf b hb).1.2.2.2.2.1 x a e
    · have := (hf b hb).2
      exact Nat.ne_of_gt (Nat.lt_trans this e)
  · obtain ⟨_, hb2⟩ := I.bs b o e
    rcases (hf b hb).1.2.2.2.1 with z | z
    · exact I.ok.noex b o e z
    · exact absurd (Nat.lt_of_lt_of_le (Heap.lt_size e) (Nat.le_trans I.ok.bsz z)) (Nat.lt_irrefl _)
  · intro z
    rcases List.mem_cons.mp (I.stkSub b z) with q | q
    · exact (hf b hb).1.2.1 q
    · exact (hf b hb).1.2.2.1 q
  · have hi : Nc.length ≤ i := by
      refine Nat.le_of_not_lt fun q => ?_
      rw [List.getElem?_append_left (by simpa using q), List.getElem?_replicate] at h2
      split at h2 <;> cases h2
    have h1' : Nx[i - Nc.length]? = some x := by
      have z : (Nc ++ Nx)[i]? = some x := h1
      rw [List.getElem?_append_right hi] at z; exact z
    have h2' : σ[i - Nc.length]? = some (some v) := by
      rw [List.getElem?_append_right (by simpa using hi), List.length_replicate] at h2; exact h2
    have h3' : (relabel scope X.env).names.lookup x = some .local ∨ (relabel scope X.env).names.lookup x = some .cell ∨ (relabel scope X.env).names.lookup x = some .free := h3
    have hz : i - Nc.length < X.N.length := by
      rw [← c.same]
      refine Nat.lt_of_not_le fun q => ?_
      rw [List.getElem?_eq_none q] at h1'; cases h1'
    have hd2 := c.dis (x, X.N[i - Nc.length]'hz) (List.mem_of_getElem? (i := i - Nc.length) (by
      rw [List.getElem?_zip_eq_some]
      exact ⟨h1', List.getElem?_eq_getElem hz⟩))
    have hd3 : X.N[i - Nc.length]? = some x ∧ scope.names.lookup x ≠ some .local ∧ scope.names.lookup x ≠ some .cell := by
      rcases hd2 with ⟨q1, q2⟩ | q
      · have q1' : x = X.N[i - Nc.length]'hz := q1
        have q2' : scope.names.lookup (X.N[i - Nc.length]'hz) ≠ some .local ∧ scope.names.lookup (X.N[i - Nc.length]'hz) ≠ some .cell := q2
        rw [← q1'] at q2'
        exact ⟨by rw [List.getElem?_eq_getElem hz, ← q1'], q2'⟩
      · exfalso
        have q' : scope.names.lookup x = none := q
        rw [Az1W, q'] at h3'
        simp at h3'
    obtain ⟨h1', hnl, hnc⟩ := hd3
    have hfree : scope.names.lookup x = some .free := by
      rcases h3' with z | z
      · rw [Az1W] at z
        cases q : scope.names.lookup x with
        | none => rw [q] at z; simp at z
        | some k =>
          rw [q] at z
          by_cases hkf : k = .free
          · rw [hkf]
          · have hb : (k == NameKind.free) = false := by simpa using hkf
            simp only [Option.map_some, hb, Bool.false_and, Bool.false_eq_true, if_false] at z
            rw [q] at hnl; exact absurd z hnl
      · rcases kinds x z with z | z
        · exact absurd z hnc
        · exact z
    have hm := PySem.mem_of_lookup hfree
    have hkx := c.free _ hm rfl
    obtain ⟨mX, hnX, hl⟩ := I.loc
    obtain ⟨u, r, l⟩ := hl _ x v h1' h2' (hkx.elim (fun z => .inr (.inl z)) fun z => .inr (.inr z))
    refine ⟨u, r, ?_⟩
    rcases l with ⟨z, _⟩ | ⟨_, a, e, z⟩
    · have z' : X.env.kindOf x = some .local := z
      rcases hkx with q | q <;> · rw [z'] at q; cases q
    · obtain ⟨a', e'⟩ := Bz4H (env := X.env) scope.names [] x (.inr ⟨hm, c.cells I.ok _ hm rfl⟩)
      have ea : a' = a := by
        have := Az3G (X := X) e'
        rw [e] at this
        exact (Option.some.inj this).symm
      subst ea
      refine .inr ⟨?_, a', (Bz4M c _ hfree (by decide)).trans e', ?_⟩
      · show (relabel scope X.env).names.lookup x = some .cell ∨ (relabel scope X.env).names.lookup x = some .free
        rw [Az1W, hfree]
        simp only [Option.map_some]
        split
        · exact .inl rfl
        · exact .inr rfl
      · obtain ⟨o, ho, hd⟩ := z
        exact ⟨o, hk _ _ ho, hd⟩
  · have q := Bz4J scope.names (s.heap.push { cls := .type "dict", data := .dict #[] }) (clOf scope X.env) fun x a e => by
      obtain ⟨v, z⟩ := I.cell x a (Az3G e)
      exact ⟨v, z.keeps fun b o e => Heap.get?_push_of_some _ e⟩
    rw [Heap.size_push] at q
    exact q
  · rcases Bz4L _ e with e | ⟨e, _⟩
    · exact I.freeC x a e
    · exact I.hok.fresh (Nat.le_of_lt e)
  · have hp' : p ∈ X.pn ++ pins := by
      have z : p ∈ (X.pn ++ pins) ++ [] := hp
      rwa [List.append_nil] at z
    obtain ⟨e, n, ne, nf, d⟩ := I.pin p hp'
    refine ⟨hk _ _ e, n, Nat.ne_of_lt (Heap.lt_size e), fun z => ?_, d⟩
    rcases List.mem_cons.mp (I.stkSub p.1 z) with q | q
    · exact ne q
    · exact nf q
  · show _ = (Nc ++ Nx).length
    rw [List.length_append, List.length_append, List.length_replicate, I.len, c.same]
theorem Bz3K {pins : List (Addr × Obj)} {σ σ' : L2.St} {H H' : Hp} {s s' : Shared} {fp : List Addr} {h'' : Heap} (I : Inv X pins σ H s) (hf : ∀ b ∈ fp, FpOk X pins H b)
    (J : Inv (compCx X scope Nc Nx s.heap.objs.size fp pins s H) [] σ' H' s') (hs : Heap.SameBut s.heap.objs.size s'.heap h'') : Inv X pins σ H' { s' with heap := h'' } := by
  have u : Un (frs X.stack) fp H H' s.heap s'.heap := J.base
  have hC : H' s.heap.objs.size = none := J.free
  have keep : ∀ b o, b ≠ s.heap.objs.size → s'.heap.get? b = some o → h''.get? b = some o := fun b o hb e => by rw [hs.2 b hb]; exact e
  have lt : ∀ b o, s.heap.get? b = some o → b ≠ s.heap.objs.size := fun b o e => Nat.ne_of_lt (Heap.lt_size e)
  refine I.call' (s' := { s' with heap := h'' }) (ch := fp) J.os ⟨fun b o e n h1 h2 => keep b o (lt b o e) (u.keep b o e n h1 h2), fun b o e n h1 h2 => ?_, u.free, fun b o e h1 => ?_, u.tups, u.frzs, u.tbls⟩ (fun b o e => ?_) J.bare fun b hb => ?_
  · obtain ⟨sl, q⟩ := u.slot b o e n h1 h2
    exact ⟨sl, keep b _ (lt b o e) q⟩
  · obtain ⟨o', q⟩ := u.there b o e h1
    exact ⟨o', keep b _ (lt b o e) q⟩
  · refine (J.hok b o e).stay (fun c v hc q => keep c v (fun z => ?_) q) (fun _ q => q) fun _ _ q => q
    subst z
    rcases hc with z | z
    · rw [← z, hC] at e; cases e
    · rw [hC] at z; cases z
  · exact ⟨(hf b hb).2.2.2.1, (hf b hb).2.1, (hf b hb).2.2.2.2.1, (hf b hb).2.2.2.2.2⟩
end
end L3
namespace L3
open PySem PySem.Spec PyProof.Rows L2
theorem Bz1T {prog : Program} {w : World} {A : Around} {R : Result → Shared → Prop} {s : Shared} {elt target iter : Expr} {ifs : List Expr} {scope : Scope} {pos : Pos} {it acc : Value} {env : Env} (I : Nat → Shared → Prop)
    (turn : ∀ n s, I n s → wpAny (model prog w) A (pyNext it) (fun r s₁ => match r with
      | none => R (.ok .next) s₁
      | some v => wpAny (model prog w) A (letOwnedTupleGo target it v) (fun _ s₁' => wpAny (model prog w) A (assign target env v) (fun _ s₂ =>
          wpAny (model prog w) A (forIn ifs true fun c r => if r = true then do let ok ← isTrue c env (eval c env); pure (ForInStep.yield ok) else pure (ForInStep.yield r)) (fun ok s₃ =>
            if ok = true then wpAny (model prog w) A (eval elt env) (fun x s₄ =>
              wpAny (model prog w) A (call (.builtin "list.append") [acc, x]) (fun _ s₅ => ∃ m, m < n ∧ I m s₅) (fun _ _ => False) s₄) (fun _ _ => False) s₃
            else ∃ m, m < n ∧ I m s₃) (fun _ _ => False) s₂) (fun _ _ => False) s₁') (fun _ _ => False) s₁) (fun _ _ => False) s)
    (n : Nat) (h : I n s) :
    codeAny (model prog w) A (.compLoop (.ListComp elt [⟨target, iter, ifs, 0⟩] scope pos) 0 it acc env) R s := by
  refine codeAny_loop rfl I (fun n s hI => ?_) n h
  show wpAny _ A ((compTurn (.ListComp elt [⟨target, iter, ifs, 0⟩] scope pos) 0 it acc env).onRaise (fun x => do noteFrame x env; theTreesLotGoes x)) _ _ s
  refine wpAny_noted ?_
  rw [compTurn_list]
  refine wpAny_bind (wpAny_standAt (wpAny_bind (wpAny_mono (turn n s hI) (fun r s₁ h₁ => ?_) fun _ _ h' => h'.elim)))
  cases r with
  | none => exact wpAny_pure h₁
  | some v =>
    refine wpAny_bind (wpAny_mono h₁ (fun _ s₁' h₁' => wpAny_bind (wpAny_mono h₁' (fun _ s₂ h₂ => wpAny_bind (wpAny_mono h₂ (fun ok s₃ h₃ => ?_) fun _ _ h' => h'.elim)) fun _ _ h' => h'.elim)) fun _ _ h' => h'.elim)
    cases ok with
    | false => exact wpAny_pure ⟨rfl, h₃⟩
    | true =>
      exact wpAny_bind (wpAny_bind (wpAny_mono h₃ (fun x s₄ h₄ => wpAny_bind (wpAny_mono h₄ (fun _ s₅ h₅ => wpAny_pure (wpAny_pure ⟨rfl, h₅⟩)) fun _ _ h' => h'.elim)) fun _ _ h' => h'.elim))
noncomputable def PTs (X : Cx) (ifs : List Expr) (t : TT) : Prop :=
  ∀ (pins : List (Addr × Obj)) (s : Shared) (σ : L2.St) (H : Hp) (Q : Bool → Hp → Prop), Inv X pins σ H s → t σ H Q →
    wpAny (model X.prog X.w) X.A (forIn ifs true fun c r => if r = true then do let ok ← isTrue c X.env (eval c X.env); pure (ForInStep.yield ok) else pure (ForInStep.yield r)) (TP X pins σ Q) X.xe s
noncomputable def tYes : TT := fun _ H Q => Q true H
theorem Cz0M {X : Cx} : PTs X [] tYes := fun _ s σ H Q I h => wpAny_tests_nil ⟨H, I, h⟩
theorem Cz0L {X : Cx} {c : Expr} {t : TT} (h : PT X c t) : PTs X [c] t := fun pins s σ H Q I q => wpAny_tests_one (h pins s σ H Q I q)
noncomputable def tComp (n : Nat) (wi : TI) (g : TG) (tt : TT) (te : TE) : TE := fun σ H Q => wi σ H fun J H1 => ∀ a, H1 a = none → ∃ W : Nat → Nat → List V → L2.St → Hp → Prop, (∃ m, W 0 m [] (List.replicate n none ++ σ) (upd H1 a (.lst []))) ∧
  ∀ i m xs σ' H, W i m xs σ' H → H a = some (.lst xs) ∧ ((J.stop i H ∧ Q (.ref a) H) ∨ (J.go i H ∧ ∀ x H', J.yld i H x H' → g x σ' H' fun σ2 H2 => tt σ2 H2 fun b H3 =>
    if b = true then te σ2 H3 fun y H4 => H4 a = some (.lst xs) ∧ xs.length < sizeLine ∧ ∃ m', m' < m ∧ W (i + 1) m' (xs ++ [y]) σ2 (upd H4 a (.lst (xs ++ [y]))) else ∃ m', m' < m ∧ W (i + 1) m' xs σ2 H3))
section
variable {X : Cx} {scope : Scope} {Nc Nx : List Str} {elt tg iter : Expr} {ifs : List Expr} {pos : Pos} {wi : TI} {g : TG} {tt : TT} {te : TE}
theorem Az8D (c : CompOk X scope Nc Nx) (hcalm : X.calm = true)
    (hY : ∀ (C : Addr) (fp : List Addr) (pins : List (Addr × Obj)) (s : Shared) (H : Hp), PG (compCx X scope Nc Nx C fp pins s H) tg g ∧ PTs (compCx X scope Nc Nx C fp pins s H) ifs tt ∧ PE (compCx X scope Nc Nx C fp pins s H) elt te)
    {pins : List (Addr × Obj)} {σ : L2.St} {s2 : Shared} {it : Addr} {fp : List Addr} {tn : Nat → Heap → Prop} {J : It} {H1 : Hp} {Q : V → Hp → Prop} {RR : Value → Addr → Result → Shared → Prop} {E : Value → Shared → Prop}
    (I : Inv X pins σ H1 s2) (T : Turn X.prog X.w X.K tg J fp it tn) (st : tn 0 s2.heap) (hf : ∀ b ∈ fp, FpOk X pins H1 b)
    (h : ∀ a, H1 a = none → ∃ W : Nat → Nat → List V → L2.St → Hp → Prop, (∃ m, W 0 m [] (List.replicate Nc.length none ++ σ) (upd H1 a (.lst []))) ∧
  ∀ i m xs σ' H, W i m xs σ' H → H a = some (.lst xs) ∧ ((J.stop i H ∧ Q (.ref a) H) ∨ (J.go i H ∧ ∀ x H', J.yld i H x H' → g x σ' H' fun σ2 H2 => tt σ2 H2 fun b H3 =>
    if b = true then te σ2 H3 fun y H4 => H4 a = some (.lst xs) ∧ xs.length < sizeLine ∧ ∃ m', m' < m ∧ W (i + 1) m' (xs ++ [y]) σ2 (upd H4 a (.lst (xs ++ [y]))) else ∃ m', m' < m ∧ W (i + 1) m' xs σ2 H3)))
    (hRR : ∀ a H' σ' s' s3, Inv X pins σ (upd H1 a (.lst [])) s3 → (∀ b ∈ fp, FpOk X pins (upd H1 a (.lst [])) b) → Inv (compCx X scope Nc Nx s3.heap.objs.size fp pins s3 (upd H1 a (.lst []))) [] σ' H' s' → Q (.ref a) H' → RR (.ref a) s3.heap.objs.size (.ok .next) s') :
    wpAny (model X.prog X.w) X.A (newList []) (fun acc s₃ => wpAny (model X.prog X.w) X.A (newFunctionEnv scope X.env.globals (clOf scope X.env) [] X.env.qual none .none (some X.env)) (fun cenv s₄ =>
      codeAny (model X.prog X.w) X.A (.compStart (.ListComp elt [⟨tg, iter, ifs, 0⟩] scope pos) 0 (.ref it) acc { cenv with scope := relabel scope X.env }) (RR acc cenv.locals) s₄) E s₃) E s2 := by
  have hfree : H1 s2.heap.objs.size = none := I.hok.fresh (Nat.le_refl _)
  refine wpAny_newObj_type (Az5M ?_)
  dsimp only
  generalize ea : s2.heap.objs.size = a at hfree
  have I3 : Inv X pins σ (upd H1 a (.lst [])) { s2 with heap := s2.heap.push { cls := .type "list", dict := none, data := .seq ([] : List Value).toArray }, toks := s2.toks } := by
    subst ea
    exact I.laid (t' := s2.toks) (fun b u e => Heap.get?_push_of_some _ e) (Nat.le_refl _) ⟨Nat.zero_le _, [], _, .nil, Heap.get?_push_size _ rfl⟩
  generalize eS : ({ s2 with heap := s2.heap.push { cls := .type "list", dict := none, data := .seq ([] : List Value).toArray }, toks := s2.toks } : Shared) = s3 at I3
  have e3h : s3.heap = s2.heap.push { cls := .type "list", dict := none, data := .seq ([] : List Value).toArray } := by rw [← eS]
  have obj0 := T.obj 0 _ st
  have hf3 : ∀ b ∈ fp, FpOk X pins (upd H1 a (.lst [])) b := fun b hb => by
    obtain ⟨o, e, _⟩ := obj0 b hb
    have : b ≠ a := by rw [← ea]; exact Nat.ne_of_lt (Heap.lt_size e)
    exact ⟨by rw [upd_ne this]; exact (hf b hb).1, (hf b hb).2⟩
  have up : ∀ b o, s2.heap.get? b = some o → s3.heap.get? b = some o := fun b o e => by rw [e3h]; exact Heap.get?_push_of_some _ e
  have hf3' : ∀ b ∈ fp, FpOk X pins (upd H1 a (.lst [])) b ∧ b < s3.heap.objs.size := fun b hb => ⟨hf3 b hb, by
    obtain ⟨o, e, _⟩ := obj0 b hb
    exact Heap.lt_size (up b o e)⟩
  have eC : (s2.heap.push { cls := .type "list", dict := none, data := .seq ([] : List Value).toArray }).objs.size = s3.heap.objs.size := by rw [e3h]
  generalize eh : pushCells ((s2.heap.push { cls := .type "list", dict := none, data := .seq ([] : List Value).toArray }).push { cls := .type "dict", data := .dict #[] }) scope.names = h₁
  have hk4 : ∀ b o, s3.heap.get? b = some o → h₁.get? b = some o := fun b o e => by
    rw [← eh, ← e3h]
    exact pushCells_keeps _ _ _ _ (Heap.get?_push_of_some _ e)
  have I4 := Bz8P (tk := s2.toks) c I3 hf3'
  have e4 : ({ s3 with heap := pushCells (s3.heap.push { cls := .type "dict", data := .dict #[] }) scope.names, toks := s2.toks } : Shared) = { s2 with heap := h₁ } := by rw [← eh, ← eS]
  rw [e4] at I4
  obtain ⟨W, ⟨m0, w0⟩, turn⟩ := h a hfree
  obtain ⟨hg, htt, hte⟩ := hY s3.heap.objs.size fp pins s3 (upd H1 a (.lst []))
  have loop : codeAny (model X.prog X.w) X.A (.compLoop (.ListComp elt [⟨tg, iter, ifs, 0⟩] scope pos) 0 (.ref it) (.ref a) (compEnvC scope (ccOf scope X.env s3.heap.objs.size) s3.heap.objs.size X.env)) (RR (.ref a) s3.heap.objs.size) { s2 with heap := h₁ } := by
    refine Bz1T (fun n s' => ∃ i xs σ' H', Inv (compCx X scope Nc Nx s3.heap.objs.size fp pins s3 (upd H1 a (.lst []))) [] σ' H' s' ∧ tn i s'.heap ∧ (∀ b ∈ fp, H' b = none) ∧ W i n xs σ' H') ?_ m0
      ⟨0, [], _, _, I4, T.keep _ _ _ st fun b _ o e => hk4 b o (up b o e), fun b hb => (hf3 b hb).1, w0⟩
    rintro n s5 ⟨i, xs, σ5, H5, I5, st5, fr5, w5⟩
    have stat : ∀ {H' : Hp}, (∀ b ∈ fp, H' b = none) → ∀ b ∈ fp, FpOk (compCx X scope Nc Nx s3.heap.objs.size fp pins s3 (upd H1 a (.lst []))) [] H' b := fun {H'} hn b hb => by
      obtain ⟨_, f1, f2, f3, f4, f5⟩ := hf3 b hb
      refine ⟨hn b hb, Nat.ne_of_lt (hf3' b hb).2, fun z => ?_, .inl hb, fun x cc e => (Bz4L _ e).elim (fun e => f4 x cc e) fun e => Nat.ne_of_gt (Nat.lt_trans (hf3' b hb).2 e.1), fun p hp => f5 p ?_⟩
      · rcases List.mem_cons.mp (I3.stkSub b z) with q | q
        · exact f1 q
        · exact f2 q
      · have z : p ∈ (X.pn ++ pins) ++ [] := hp
        rwa [List.append_nil] at z
    obtain ⟨hxs, alt⟩ := turn i n xs σ5 H5 w5
    rcases alt with ⟨stop, qn⟩ | ⟨go, step⟩
    · refine wpAny_mono (T.done (compCx X scope Nc Nx s3.heap.objs.size fp pins s3 (upd H1 a (.lst []))) rfl rfl rfl hcalm i [] s5 σ5 H5 (fun _ _ => False) I5 (stat fr5) st5 stop) (fun r s6 ⟨hr, I6⟩ => ?_) fun _ _ z => z
      subst hr
      exact hRR a H5 σ5 s6 s3 I3 hf3 I6 qn
    · refine wpAny_mono (T.item (compCx X scope Nc Nx s3.heap.objs.size fp pins s3 (upd H1 a (.lst []))) rfl rfl rfl hcalm i [] s5 σ5 H5 (fun _ _ => False) I5 (stat fr5) st5 go) (fun r s6 ⟨u, hr, h6⟩ => ?_) fun _ _ z => z
      subst hr
      refine wpAny_mono h6 (fun _ s7 ⟨x, H7, I7, r7, y7, st7, fr7⟩ => ?_) fun _ _ z => z
      have I7' := I7.pinned (stat fr7) (T.obj _ _ st7)
      have fin : ∀ {σ9 : L2.St} {H9 : Hp} {s9 : Shared}, Inv (compCx X scope Nc Nx s3.heap.objs.size fp pins s3 (upd H1 a (.lst []))) ([] ++ pinsAt fp s7.heap) σ9 H9 s9 → Inv (compCx X scope Nc Nx s3.heap.objs.size fp pins s3 (upd H1 a (.lst []))) [] σ9 H9 s9 ∧ tn (i + 1) s9.heap ∧ (∀ b ∈ fp, H9 b = none) := fun {σ9 H9 s9} I9 => by
        refine ⟨I9.unpinned, T.keep _ _ _ st7 fun b hb o e => (I9.pin (b, o) (List.mem_append_right _ (List.mem_append_right _ (Az4L hb e)))).1, fun b hb => ?_⟩
        obtain ⟨o, e, d⟩ := T.obj _ _ st7 b hb
        exact (I9.pin (b, o) (List.mem_append_right _ (List.mem_append_right _ (Az4L hb e)))).2.1
      refine wpAny_mono (hg _ s7 σ5 H7 x u _ I7' r7 (step x H7 y7)) (fun _ s8 ⟨σ8, H8, I8, q8⟩ => ?_) fun _ _ z => z
      refine wpAny_mono (htt _ s8 σ8 H8 _ I8 q8) (fun b s9 ⟨H9, I9, q9⟩ => ?_) fun _ _ z => z
      cases b with
      | false =>
        obtain ⟨m', hm, w9⟩ := q9
        obtain ⟨J1, J2, J3⟩ := fin I9
        exact ⟨m', hm, i + 1, xs, σ8, H9, J1, J2, J3, w9⟩
      | true =>
        refine wpAny_mono (hte _ s9 σ8 H9 _ I9 q9) (fun y s10 ⟨v, H10, I10, r10, q10⟩ => ?_) fun _ _ z => z
        obtain ⟨e10, hl10, m', hm, w10⟩ := q10
        refine wpAny_mono (Az9W (X := compCx X scope Nc Nx s3.heap.objs.size fp pins s3 (upd H1 a (.lst []))) _ s10 σ8 H10 (.ref a) [v] (.ref a) [y] (fun _ H' => H' = upd H10 a (.lst (xs ++ [v]))) I10 rfl (.cons r10 .nil) ⟨a, xs, v, rfl, rfl, e10, hl10, rfl⟩) (fun _ s11 ⟨_, H11, I11, _, q11⟩ => ?_) fun _ _ z => z
        subst q11
        obtain ⟨J1, J2, J3⟩ := fin I11
        exact ⟨m', hm, i + 1, xs ++ [v], σ8, _, J1, J2, J3, w10⟩
  have st4 : tn 0 h₁ := T.keep _ _ _ st fun b _ o e => hk4 b o (up b o e)
  rw [e3h] at loop
  subst ea
  exact codeAny_compStart_list loop (T.self _ 0 _ _ _ st4 loop)
theorem Cz0W (c : CompOk X scope Nc Nx) (hcalm : X.calm = true) (hi : PI X tg iter wi)
    (hY : ∀ (C : Addr) (fp : List Addr) (pins : List (Addr × Obj)) (s : Shared) (H : Hp), PG (compCx X scope Nc Nx C fp pins s H) tg g ∧ PTs (compCx X scope Nc Nx C fp pins s H) ifs tt ∧ PE (compCx X scope Nc Nx C fp pins s H) elt te)
    (hs : autoParam (∀ x, foldedSetIterable iter X.env x = pure x) slim2._auto_1) :
    PE X (.ListComp elt [⟨tg, iter, ifs, 0⟩] scope pos) (tComp Nc.length wi g tt te) := by
  intro pins s σ H Q I h
  rw [eval_ListComp]
  refine wpAny_comprehension_free (use := none) rfl hs (Bz7G (c.cells I.ok)) c.kind c.loc (thn (hi pins s σ H _ I h) fun v s1 h1 => thn h1 fun itv s2 h2 => ?_)
  obtain ⟨it, fp, tn, J, H2, rfl, I2, T, st2, f2, q⟩ := h2
  refine Az8D (Q := Q) (RR := fun acc C => compPost (model X.prog X.w) X.A X.xe none (EP X pins σ Q) acc C) c hcalm hY I2 T st2 f2 q ?_
  intro a H' σ' s' s3 I3 hf3 IY qa
  obtain ⟨m, hn, _⟩ := IY.loc
  exact ⟨m, hn, fun h' hs' => ⟨.ref a, H', Bz3K I3 hf3 IY hs', rfl, qa⟩⟩
theorem Cz0N {i : Nat} {y : Str} {py spos : Pos} (c : CompOk X scope Nc Nx) (hcalm : X.calm = true) (hi : PI X tg iter wi)
    (hY : ∀ (C : Addr) (fp : List Addr) (pins : List (Addr × Obj)) (s : Shared) (H : Hp), PG (compCx X scope Nc Nx C fp pins s H) tg g ∧ PTs (compCx X scope Nc Nx C fp pins s H) ifs tt ∧ PE (compCx X scope Nc Nx C fp pins s H) elt te)
    (hN : X.N.Nodup) (hiN : X.N[i]? = some y) (hx : Loc X.env.scope y)
    (hsw : autoParam (swapsWith (.ListComp elt [⟨tg, iter, ifs, 0⟩] scope pos) (some (.Name y py)) spos.line X.env = pure true) slim0._auto_1)
    (hf : autoParam (X.fn y = true ∨ X.env.scope.names.lookup y = some .local) slim5._auto_1)
    (hs : autoParam (∀ x, foldedSetIterable iter X.env x = pure x) slim2._auto_1) :
    PS X (.Assign [.Name y py] (.ListComp elt [⟨tg, iter, ifs, 0⟩] scope pos) spos) (tAsg (tComp Nc.length wi g tt te) (gName i)) := by
  intro pins s σ H Dn I h
  rw [exec_Assign_Name_used _ _ _ _ hsw]
  refine wpAny_bind (wpAny_standAt (wpAny_bind ?_))
  show wpAny _ X.A (do let _ ← comprehension (.ListComp elt [⟨tg, iter, ifs, 0⟩] scope pos) scope X.env _ (newList []) false (eval iter X.env) (some (assign (.Name y py) X.env))) _ _ s
  refine wpAny_bind (wpAny_mono (wpAny_comprehension_free (use := some (assign (.Name y py) X.env)) (Q := fun _ s' => SP X pins Dn .next s') rfl hs (Bz7G (c.cells I.ok)) c.kind c.loc
    (thn (hi pins s σ H _ I h) fun v s1 h1 => thn h1 fun itv s2 h2 => ?_)) (fun _ s' hq => wpAny_pure (wpAny_pure hq)) fun _ _ e => e)
  obtain ⟨it, fp, tn, J, H2, rfl, I2, T, st2, f2, q⟩ := h2
  refine Az8D (Q := fun x H1 => gName i x σ H1 Dn.nx) (RR := fun acc C => compPost (model X.prog X.w) X.A X.xe (some (assign (.Name y py) X.env)) (fun _ s' => SP X pins Dn .next s') acc C) c hcalm hY I2 T st2 f2 q ?_
  intro a H' σ' s' s3 I3 hf3 IY qa
  obtain ⟨m, ⟨o, es, ep, ho, hod, hrest⟩, _⟩ := IY.loc
  have ho' : s'.heap.get? s3.heap.objs.size = some o := ho
  have IX : Inv X pins σ H' s' := Bz3K I3 hf3 IY (h'' := s'.heap) (Heap.SameBut.refl _ _)
  have hC0 : H' s3.heap.objs.size = none := IY.free
  have ncell : ∀ v, o.data ≠ .cell v := fun v z => by rw [hod] at z; cases z
  have hL : s3.heap.objs.size ≠ X.env.locals := Nat.ne_of_gt I3.lt
  have IX' : Inv X (pins ++ [(s3.heap.objs.size, o)]) σ H' s' := IX.pins_of fun p hp => (List.mem_append.mp hp).elim (fun z => IX.pin p (List.mem_append_right _ z)) fun z => by
    have e : p = (s3.heap.objs.size, o) := by simpa using z
    subst e
    exact ⟨ho', hC0, hL, I3.nofs (Nat.le_refl _), ncell⟩
  have hcells : ∀ x cc, X.env.cells.lookup x = some cc → cc ≠ s3.heap.objs.size := fun x cc e z => by
    obtain ⟨v, q⟩ := I3.cell x cc e
    exact absurd q.lt (by rw [z]; exact Nat.lt_irrefl _)
  show wpAny _ X.A (assign (.Name y py) X.env (.ref a)) _ _ s'
  refine wpAny_assign_Name (Az6W IX' hN hiN hx (v := .ref a) rfl (fun s5 I5 => ?_) hf)
  have p5 := I5.pin (s3.heap.objs.size, o) (List.mem_append_right _ (List.mem_append_right _ (by simp)))
  refine ⟨m, ⟨o, es, ep, p5.1, hod, hrest⟩, fun h' hs' => ⟨_, H', ?_, qa⟩⟩
  have I5' := I5.unpinned
  exact I5'.turned (t' := s5.toks) (it := s3.heap.objs.size) (fun b ob hb e => by rw [hs'.2 b hb]; exact e) hC0 hL (.inr I3.sz) hcells fun p hp z => absurd (Heap.lt_size (I3.pin p hp).1) (by rw [z]; exact Nat.lt_irrefl _)
end
end L3
namespace L3
open PySem PySem.Spec PyProof.Rows L2 SeqAt
mutual
noncomputable def eqD : D → D → Bool
  | .non, .non => true
  | .bl a, .bl b => a == b
  | .int a, .int b => a == b
  | .str a, .str b => a == b
  | .bl a, .int b => (if a then 1 else 0) == b
  | .int a, .bl b => a == (if b then 1 else 0)
  | .tup a, .tup b => eqL a b
  | .lst a, .lst b => eqL a b
  | _, _ => false
noncomputable def eqL : List D → List D → Bool
  | [], [] => true
  | a :: as, b :: bs => eqD a b && eqL as bs
  | _, _ => false
end
noncomputable def shal : Nat → D → Bool
  | _, .non => true
  | _, .bl _ => true
  | _, .int _ => true
  | _, .str _ => true
  | n + 1, .tup ds => ds.all (shal n)
  | n + 1, .lst ds => ds.all (shal n)
  | _, _ => false
theorem Az7I : ∀ (as bs : List D), as.length = bs.length → eqL as bs = (List.range as.length).all fun j => eqD (as.getD j .non) (bs.getD j .non)
  | [], [], _ => by simp [eqL]
  | a :: as, b :: bs, h => by
    rw [eqL, List.length_cons, List.range_succ_eq_map, List.all_cons, List.all_map, Az7I as bs (by simpa using h)]
    rfl
  | [], _ :: _, h => by simp at h
  | _ :: _, [], h => by simp at h
theorem Bz4A : ∀ (as bs : List D), as.length ≠ bs.length → eqL as bs = false
  | [], [], h => absurd rfl h
  | a :: as, b :: bs, h => by rw [eqL, Bz4A as bs (by simpa using h), Bool.and_false]
  | [], _ :: _, h => by simp [eqL]
  | _ :: _, [], h => by simp [eqL]
section
variable {X : Cx} {pins : List (Addr × Obj)} {σ : L2.St} {W : WS} {H : Hp} {s : Shared}
theorem Has.notup {W : WS} {H : Hp} {K : PySem.W.Frag} (I : Inv X pins σ H s) {a : Addr} {xs ys : List V} (h1 : SqL X.K H a xs) (h2 : SqT X.K H a ys) : False := by
  obtain ⟨its, _, ⟨o, n, e, c, _⟩, _⟩ := I.list h1
  obtain ⟨its', _, ⟨o', e', c', _⟩, _⟩ := I.tuple h2
  rw [e] at e'; cases e'
  rw [c] at c'
  exact absurd c' (by simp)
theorem HasT.ref {K : PySem.W.Frag} {d : D} {x : V} {n : Nat} (h : HasT K W H d x) (hs : shal n d = true) :
    (d = .non ∧ x = .non) ∨ (∃ b, d = .bl b ∧ x = .bl b) ∨ (∃ b, d = .int b ∧ x = .int b) ∨ (∃ b, d = .str b ∧ x = .str b) ∨
    (∃ ds a xs m, n = m + 1 ∧ d = .tup ds ∧ x = .ref a ∧ SqT K H a xs ∧ HasL K W H ds xs ∧ ∀ y ∈ ds, shal m y = true) ∨
    (∃ ds a xs m, n = m + 1 ∧ d = .lst ds ∧ x = .ref a ∧ SqL K H a xs ∧ HasL K W H ds xs ∧ ∀ y ∈ ds, shal m y = true) := by
  cases d with
  | non => exact .inl ⟨rfl, h.non⟩
  | bl b => exact .inr (.inl ⟨b, rfl, h.bl⟩)
  | int b => exact .inr (.inr (.inl ⟨b, rfl, h.int⟩))
  | str b => exact .inr (.inr (.inr (.inl ⟨b, rfl, h.str⟩)))
  | tup ds =>
    obtain ⟨a, xs, e, q, r⟩ := h.tup
    cases n with
    | zero => simp [shal] at hs
    | succ m =>
      rw [shal, List.all_eq_true] at hs
      exact .inr (.inr (.inr (.inr (.inl ⟨ds, a, xs, m, rfl, rfl, e, q, r, hs⟩))))
  | lst ds =>
    obtain ⟨a, xs, e, q, r⟩ := h.lst
    cases n with
    | zero => simp [shal] at hs
    | succ m =>
      rw [shal, List.all_eq_true] at hs
      exact .inr (.inr (.inr (.inr (.inr ⟨ds, a, xs, m, rfl, rfl, e, q, r, hs⟩))))
  | dct k ds => cases n <;> simp [shal] at hs
  | exc k ds => cases n <;> simp [shal] at hs
  | obj c k ds => cases n <;> simp [shal] at hs
theorem Bz8X (I : Inv X pins σ H s) : ∀ (n : Nat) {d e : D} {x : V}, HasT X.K W H d x → HasT X.K W H e x → shal n d = true → shal n e = true → eqD d e = true := by
  intro n
  induction n with
  | zero =>
    intro d e x h1 h2 s1 s2
    rcases h1.ref s1 with ⟨rfl, rfl⟩ | ⟨b, rfl, rfl⟩ | ⟨b, rfl, rfl⟩ | ⟨b, rfl, rfl⟩ | ⟨_, _, _, m, z, _⟩ | ⟨_, _, _, m, z, _⟩ <;>
    rcases h2.ref s2 with ⟨rfl, e2⟩ | ⟨c, rfl, e2⟩ | ⟨c, rfl, e2⟩ | ⟨c, rfl, e2⟩ | ⟨_, _, _, m', z', _⟩ | ⟨_, _, _, m', z', _⟩ <;> first | (cases z; done) | (cases z'; done) | (cases e2; done) | (cases e2; simp [eqD])
  | succ n ih =>
    have lists : ∀ {ds es : List D} {xs : List V}, HasL X.K W H ds xs → HasL X.K W H es xs → (∀ y ∈ ds, shal n y = true) → (∀ y ∈ es, shal n y = true) → eqL ds es = true := by
      intro ds
      induction ds with
      | nil =>
        intro es xs h1 h2 _ _
        have e1 := h1.length
        have e2 := h2.length
        cases es with
        | nil => simp [eqL]
        | cons => simp at e1 e2; omega
      | cons d ds ih2 =>
        intro es xs h1 h2 g1 g2
        rw [HasL] at h1
        obtain ⟨x, r, rfl, q, t⟩ := h1
        cases es with
        | nil => rw [HasL] at h2; cases h2
        | cons e es =>
          rw [HasL] at h2
          obtain ⟨x', r', ee, q', t'⟩ := h2
          cases ee
          rw [eqL, ih (.inl q) (.inl q') (g1 d List.mem_cons_self) (g2 e List.mem_cons_self), ih2 t t' (fun y hy => g1 y (List.mem_cons_of_mem _ hy)) fun y hy => g2 y (List.mem_cons_of_mem _ hy)]
          rfl
    intro d e x h1 h2 s1 s2
    rcases h1.ref s1 with ⟨rfl, rfl⟩ | ⟨b, rfl, rfl⟩ | ⟨b, rfl, rfl⟩ | ⟨b, rfl, rfl⟩ | ⟨ds, a, xs, m, z, rfl, rfl, q, r, g⟩ | ⟨ds, a, xs, m, z, rfl, rfl, q, r, g⟩ <;>
    rcases h2.ref s2 with ⟨rfl, e2⟩ | ⟨c, rfl, e2⟩ | ⟨c, rfl, e2⟩ | ⟨c, rfl, e2⟩ | ⟨es, a', ys, m', z', rfl, e2, q', r', g'⟩ | ⟨es, a', ys, m', z', rfl, e2, q', r', g'⟩ <;> first | (cases e2; done) | (cases e2; simp [eqD]; done) | skip
    · cases e2
      cases z; cases z'
      have := I.tuple_inj q q'
      subst this
      rw [eqD]; exact lists r r' g g'
    · cases e2
      exact (Has.notup (K := X.K) (W := W) (H := H) I q' q).elim
    · cases e2
      exact (Has.notup (K := X.K) (W := W) (H := H) I q q').elim
    · cases e2
      cases z; cases z'
      have := I.list_inj q q'
      subst this
      rw [eqD]; exact lists r r' g g'
theorem Bz0F {ds : List D} {j : Nat} (h : j < ds.length) : ds[j]? = some (ds.getD j .non) := by
  rw [List.getD_eq_getElem?_getD, List.getElem?_eq_getElem h]; rfl
theorem Bz6L {xs : List V} {its : List Value} (r : Vals xs its) {j : Nat} {x : V} (e : xs[j]? = some x) (h : j < its.toArray.size) : RelV x its.toArray[j] := by
  obtain ⟨u, h1, h2⟩ := r.get e
  have : its.toArray[j]? = some u := by simpa using h1
  rw [Array.getElem?_eq_getElem h] at this
  cases this
  exact h2
theorem Az8A {A : Around} (n : Nat) (ih : ∀ {d e : D} {x y : V} {v u : Value}, HasT X.K W H d x → HasT X.K W H e y → RelV x v → RelV y u → shal n d = true → shal n e = true → EqAt A s v u (eqD d e))
    {ds es : List D} {xs ys : List V} {its its' : List Value} (r : HasL X.K W H ds xs) (r' : HasL X.K W H es ys) (v : Vals xs its) (v' : Vals ys its') (g : ∀ y ∈ ds, shal n y = true) (g' : ∀ y ∈ es, shal n y = true) :
    ∀ j (h1 : j < its.toArray.size) (h2 : j < its'.toArray.size), EqAt A s its.toArray[j] its'.toArray[j] (eqD (ds.getD j .non) (es.getD j .non)) := by
  intro j h1 h2
  have l1 : j < ds.length := by rw [r.length, v.length]; simpa using h1
  have l2 : j < es.length := by rw [r'.length, v'.length]; simpa using h2
  obtain ⟨x, e1, q1⟩ := r.get (Bz0F l1)
  obtain ⟨y, e2, q2⟩ := r'.get (Bz0F l2)
  exact ih (.inl q1) (.inl q2) (Bz6L v e1 h1) (Bz6L v' e2 h2) (g _ (List.mem_of_getElem? (Bz0F l1))) (g' _ (List.mem_of_getElem? (Bz0F l2)))
theorem HasT.view (I : Inv X pins σ H s) {d : D} {x : V} {v : Value} {n : Nat} (h : HasT X.K W H d x) (rx : RelV x v) (hs : shal n d = true) :
    (d = .non ∧ v = .none) ∨ (∃ b, d = .bl b ∧ v = .bool b) ∨ (∃ b t, d = .int b ∧ v = .int b t) ∨ (∃ b t, d = .str b ∧ v = .str b t) ∨
    (∃ ds a xs its m, n = m + 1 ∧ d = .tup ds ∧ x = .ref a ∧ v = .ref a ∧ HasL X.K W H ds xs ∧ Vals xs its ∧ s.heap.IsTuple a its.toArray ∧ ∀ y ∈ ds, shal m y = true) ∨
    (∃ ds a xs its m, n = m + 1 ∧ d = .lst ds ∧ x = .ref a ∧ v = .ref a ∧ HasL X.K W H ds xs ∧ Vals xs its ∧ s.heap.IsList a its.toArray ∧ ∀ y ∈ ds, shal m y = true) := by
  rcases h.ref hs with ⟨rfl, rfl⟩ | ⟨b, rfl, rfl⟩ | ⟨b, rfl, rfl⟩ | ⟨b, rfl, rfl⟩ | ⟨ds, a, xs, m, z, rfl, rfl, q, r, g⟩ | ⟨ds, a, xs, m, z, rfl, rfl, q, r, g⟩
  · exact .inl ⟨rfl, rx⟩
  · exact .inr (.inl ⟨b, rfl, rx⟩)
  · obtain ⟨t, e⟩ := rx
    exact .inr (.inr (.inl ⟨b, t, rfl, e⟩))
  · obtain ⟨t, e⟩ := rx
    exact .inr (.inr (.inr (.inl ⟨b, t, rfl, e⟩)))
  · obtain ⟨its, rv, p, _⟩ := I.tuple q
    exact .inr (.inr (.inr (.inr (.inl ⟨ds, a, xs, its, m, z, rfl, rfl, rx, r, rv, p, g⟩))))
  · obtain ⟨its, rv, p, _⟩ := I.list q
    exact .inr (.inr (.inr (.inr (.inr ⟨ds, a, xs, its, m, z, rfl, rfl, rx, r, rv, p.isList, g⟩))))
theorem eqAt_D (I : Inv X pins σ H s) : ∀ (n : Nat) (A : Around) {d e : D} {x y : V} {v u : Value}, A.units + n < cLine → HasT X.K W H d x → HasT X.K W H e y → RelV x v → RelV y u → shal n d = true → shal n e = true →
    EqAt A s v u (eqD d e) ∧ RcAt A s v u (eqD d e) ∧ RcNeAt A s v u (!eqD d e) := by
  intro n
  induction n with
  | zero =>
    intro A d e x y v u hu h1 h2 rx ry s1 s2
    rcases h1.view I rx s1 with ⟨rfl, rfl⟩ | ⟨b, rfl, rfl⟩ | ⟨b, t, rfl, rfl⟩ | ⟨b, t, rfl, rfl⟩ | ⟨_, _, _, _, m, z, _⟩ | ⟨_, _, _, _, m, z, _⟩ <;>
    rcases h2.view I ry s2 with ⟨rfl, rfl⟩ | ⟨c, rfl, rfl⟩ | ⟨c, t', rfl, rfl⟩ | ⟨c, t', rfl, rfl⟩ | ⟨_, _, _, _, m', z', _⟩ | ⟨_, _, _, _, m', z', _⟩ <;> first | (cases z; done) | (cases z'; done) | skip
    · exact ⟨EqAt.same _, RcAt.none_none, RcNeAt.none_none⟩
    · exact ⟨EqAt.none_bool _, RcAt.none_bool _, RcNeAt.none_bool _⟩
    · exact ⟨EqAt.none_int _ _, RcAt.none_int _ _, RcNeAt.none_int _ _⟩
    · exact ⟨EqAt.none_str _ _, RcAt.none_str _ _, RcNeAt.none_str _ _⟩
    · exact ⟨EqAt.bool_none _, RcAt.bool_none _, RcNeAt.bool_none _⟩
    · exact ⟨EqAt.bool_bool _ _, RcAt.bool_bool _ _, RcNeAt.bool_bool _ _⟩
    · exact ⟨EqAt.bool_int _ _ _, RcAt.bool_int _ _ _, RcNeAt.bool_int _ _ _⟩
    · exact ⟨EqAt.bool_str _ _ _, RcAt.bool_str _ _ _, RcNeAt.bool_str _ _ _⟩
    · exact ⟨EqAt.int_none _ _, RcAt.int_none _ _, RcNeAt.int_none _ _⟩
    · exact ⟨EqAt.int_bool _ _ _, RcAt.int_bool _ _ _, RcNeAt.int_bool _ _ _⟩
    · exact ⟨EqAt.int_int _ _ _ _, RcAt.int_int _ _ _ _, RcNeAt.int_int _ _ _ _⟩
    · exact ⟨EqAt.int_str _ _ _ _, RcAt.int_str _ _ _ _, RcNeAt.int_str _ _ _ _⟩
    · exact ⟨EqAt.str_none _ _, RcAt.str_none _ _, RcNeAt.str_none _ _⟩
    · exact ⟨EqAt.str_bool _ _ _, RcAt.str_bool _ _ _, RcNeAt.str_bool _ _ _⟩
    · exact ⟨EqAt.str_int _ _ _ _, RcAt.str_int _ _ _ _, RcNeAt.str_int _ _ _ _⟩
    · exact ⟨EqAt.str_str _ _ _ _, RcAt.str_str _ _ _ _, RcNeAt.str_str _ _ _ _⟩
  | succ n ih =>
    intro A d e x y v u hu h1 h2 rx ry s1 s2
    have hu0 : A.units < cLine := by omega
    have hu1 : A.in1.units + n < cLine := by show A.units + 1 + n < cLine; omega
    have same := fun (ee : x = y) => Bz8X I (n + 1) h1 (ee ▸ h2) s1 s2
    rcases h1.view I rx s1 with ⟨rfl, rfl⟩ | ⟨b, rfl, rfl⟩ | ⟨b, t, rfl, rfl⟩ | ⟨b, t, rfl, rfl⟩ | ⟨ds, a, xs, its, m, z, rfl, rfl, rfl, r, rv, p, g⟩ | ⟨ds, a, xs, its, m, z, rfl, rfl, rfl, r, rv, p, g⟩ <;>
    rcases h2.view I ry s2 with ⟨rfl, rfl⟩ | ⟨c, rfl, rfl⟩ | ⟨c, t', rfl, rfl⟩ | ⟨c, t', rfl, rfl⟩ | ⟨es, a', ys, its', m', z', rfl, rfl, rfl, r', rv', p2, g'⟩ | ⟨es, a', ys, its', m', z', rfl, rfl, rfl, r', rv', p2, g'⟩
    all_goals first | cases z | skip
    all_goals first | cases z' | skip
    · exact ⟨EqAt.same _, RcAt.none_none, RcNeAt.none_none⟩
    · exact ⟨EqAt.none_bool _, RcAt.none_bool _, RcNeAt.none_bool _⟩
    · exact ⟨EqAt.none_int _ _, RcAt.none_int _ _, RcNeAt.none_int _ _⟩
    · exact ⟨EqAt.none_str _ _, RcAt.none_str _ _, RcNeAt.none_str _ _⟩
    · exact ⟨EqAt.none_tuple p2 hu0, RcAt.none_tuple p2 hu0, RcNeAt.none_tuple p2 hu0⟩
    · exact ⟨EqAt.none_list p2 hu0, RcAt.none_list p2 hu0, RcNeAt.none_list p2 hu0⟩
    · exact ⟨EqAt.bool_none _, RcAt.bool_none _, RcNeAt.bool_none _⟩
    · exact ⟨EqAt.bool_bool _ _, RcAt.bool_bool _ _, RcNeAt.bool_bool _ _⟩
    · exact ⟨EqAt.bool_int _ _ _, RcAt.bool_int _ _ _, RcNeAt.bool_int _ _ _⟩
    · exact ⟨EqAt.bool_str _ _ _, RcAt.bool_str _ _ _, RcNeAt.bool_str _ _ _⟩
    · exact ⟨EqAt.bool_tuple _ p2 hu0, RcAt.bool_tuple _ p2 hu0, RcNeAt.bool_tuple _ p2 hu0⟩
    · exact ⟨EqAt.bool_list _ p2 hu0, RcAt.bool_list _ p2 hu0, RcNeAt.bool_list _ p2 hu0⟩
    · exact ⟨EqAt.int_none _ _, RcAt.int_none _ _, RcNeAt.int_none _ _⟩
    · exact ⟨EqAt.int_bool _ _ _, RcAt.int_bool _ _ _, RcNeAt.int_bool _ _ _⟩
    · exact ⟨EqAt.int_int _ _ _ _, RcAt.int_int _ _ _ _, RcNeAt.int_int _ _ _ _⟩
    · exact ⟨EqAt.int_str _ _ _ _, RcAt.int_str _ _ _ _, RcNeAt.int_str _ _ _ _⟩
    · exact ⟨EqAt.int_tuple _ _ p2 hu0, RcAt.int_tuple _ _ p2 hu0, RcNeAt.int_tuple _ _ p2 hu0⟩
    · exact ⟨EqAt.int_list _ _ p2 hu0, RcAt.int_list _ _ p2 hu0, RcNeAt.int_list _ _ p2 hu0⟩
    · exact ⟨EqAt.str_none _ _, RcAt.str_none _ _, RcNeAt.str_none _ _⟩
    · exact ⟨EqAt.str_bool _ _ _, RcAt.str_bool _ _ _, RcNeAt.str_bool _ _ _⟩
    · exact ⟨EqAt.str_int _ _ _ _, RcAt.str_int _ _ _ _, RcNeAt.str_int _ _ _ _⟩
    · exact ⟨EqAt.str_str _ _ _ _, RcAt.str_str _ _ _ _, RcNeAt.str_str _ _ _ _⟩
    · exact ⟨EqAt.str_tuple _ _ p2 hu0, RcAt.str_tuple _ _ p2 hu0, RcNeAt.str_tuple _ _ p2 hu0⟩
    · exact ⟨EqAt.str_list _ _ p2 hu0, RcAt.str_list _ _ p2 hu0, RcNeAt.str_list _ _ p2 hu0⟩
    · exact ⟨EqAt.tuple_none p hu0, RcAt.tuple_none p hu0, RcNeAt.tuple_none p hu0⟩
    · exact ⟨EqAt.tuple_bool _ p hu0, RcAt.tuple_bool _ p hu0, RcNeAt.tuple_bool _ p hu0⟩
    · exact ⟨EqAt.tuple_int _ _ p hu0, RcAt.tuple_int _ _ p hu0, RcNeAt.tuple_int _ _ p hu0⟩
    · exact ⟨EqAt.tuple_str _ _ p hu0, RcAt.tuple_str _ _ p hu0, RcNeAt.tuple_str _ _ p hu0⟩
    · have he := Az8A (A := A.in1) n (fun h1 h2 rx ry s1 s2 => (ih A.in1 hu1 h1 h2 rx ry s1 s2).1) r r' rv rv' g g'
      have l1 : its.toArray.size = ds.length := by rw [List.size_toArray, ← rv.length, r.length]
      have l2 : its'.toArray.size = es.length := by rw [List.size_toArray, ← rv'.length, r'.length]
      have ee : ((List.range (min its.toArray.size its'.toArray.size)).all (fun j => eqD (ds.getD j .non) (es.getD j .non)) && its.toArray.size == its'.toArray.size) = eqD (.tup ds) (.tup es) := by
        rw [eqD, l1, l2]
        by_cases hl : ds.length = es.length
        · rw [Az7I ds es hl, ← hl]; simp
        · rw [Bz4A ds es hl]; simp [hl]
      have rc := RcAt.tuples p p2 hu0 he
      rw [ee] at rc
      refine ⟨?_, rc, ?_⟩
      · by_cases ha : a = a'
        · subst ha
          rw [same rfl]
          exact EqAt.same _
        · exact EqAt.of_refs ha rc
      · have rn := RcNeAt.tuples p p2 hu0 he
        rw [ee] at rn
        exact rn
    · exact ⟨EqAt.tuple_list p p2 hu0, RcAt.tuple_list p p2 hu0, RcNeAt.tuple_list p p2 hu0⟩
    · exact ⟨EqAt.list_none p hu0, RcAt.list_none p hu0, RcNeAt.list_none p hu0⟩
    · exact ⟨EqAt.list_bool _ p hu0, RcAt.list_bool _ p hu0, RcNeAt.list_bool _ p hu0⟩
    · exact ⟨EqAt.list_int _ _ p hu0, RcAt.list_int _ _ p hu0, RcNeAt.list_int _ _ p hu0⟩
    · exact ⟨EqAt.list_str _ _ p hu0, RcAt.list_str _ _ p hu0, RcNeAt.list_str _ _ p hu0⟩
    · exact ⟨EqAt.list_tuple p p2 hu0, RcAt.list_tuple p p2 hu0, RcNeAt.list_tuple p p2 hu0⟩
    · have he := Az8A (A := A.in1) n (fun h1 h2 rx ry s1 s2 => (ih A.in1 hu1 h1 h2 rx ry s1 s2).1) r r' rv rv' g g'
      have l1 : its.toArray.size = ds.length := by rw [List.size_toArray, ← rv.length, r.length]
      have l2 : its'.toArray.size = es.length := by rw [List.size_toArray, ← rv'.length, r'.length]
      have both : RcAt A s (.ref a) (.ref a') (eqD (.lst ds) (.lst es)) ∧ RcNeAt A s (.ref a) (.ref a') (!eqD (.lst ds) (.lst es)) := by
        by_cases hl : ds.length = es.length
        · have hsz : its.toArray.size = its'.toArray.size := by rw [l1, l2, hl]
          have rc := RcAt.lists p p2 hsz hu0 he
          have rn := RcNeAt.lists p p2 hsz hu0 he
          rw [l1, ← Az7I ds es hl] at rc rn
          rw [eqD]
          exact ⟨rc, rn⟩
        · have hsz : (its.toArray.size != its'.toArray.size) = true := by rw [l1, l2]; simpa using hl
          rw [eqD, Bz4A ds es hl]
          exact ⟨RcAt.lists_lengths p p2 hsz hu0, RcNeAt.lists_lengths p p2 hsz hu0⟩
      refine ⟨?_, both⟩
      by_cases ha : a = a'
      · subst ha
        rw [same rfl]
        exact EqAt.same _
      · exact EqAt.of_refs ha both.1
end
end L3
namespace L3
open PySem PySem.Spec PyProof.Rows L2 SeqAt
section
variable {K : PySem.W.Frag} {xw : XW} {W : WS} {H : Hp} {Q : VK}
theorem RE.int {i : Int} (h : RE K xw W H (.ok (.int i)) Q) : Q (.int i) H := h _ H (Same.refl H) (by rw [Has])
theorem RE.bl {i : Bool} (h : RE K xw W H (.ok (.bl i)) Q) : Q (.bl i) H := h _ H (Same.refl H) (by rw [Has])
theorem RE.str {i : Str} (h : RE K xw W H (.ok (.str i)) Q) : Q (.str i) H := h _ H (Same.refl H) (by rw [Has])
theorem RE.non (h : RE K xw W H (.ok .non) Q) : Q .non H := h _ H (Same.refl H) (by rw [Has])
theorem Az1V {a : Addr} {o : HO} (h : H a = none) : Same H (upd H a o) := fun b u e => by rw [upd_ne (Az0D e h)]; exact e
theorem RE.newT {ds : List D} {xs : List V} {p : Addr} (h : RE K xw W H (.ok (.tup ds)) Q) (w : WL W H) (hp : H p = none) (q : HasL K W H ds xs) : Q (.ref p) (upd H p (.tup xs)) :=
  h _ _ (Az1V hp) (by rw [Has]; exact ⟨p, xs, rfl, .of Az0H, q.same (Az1V hp) w⟩)
theorem Cz1I {a : Addr} (w : WL W H) (h : H a = none) : ¬ W a := fun z => by
  obtain ⟨xs, e, _⟩ := w a z
  rw [h] at e; cases e
end
section
variable {X : Cx} {xw : XW} {a b c e : Expr} {fa fb fc f : DSt → Res D} {pos : Pos}
theorem DE.p (h : DE X xw e f) : DP X xw e f := PE.weak h fun σ H Q ⟨W₀, H₀, W, δ, st, q⟩ => ⟨W₀, H₀, W, δ, st, by
  cases hf : f δ with
  | ok d => rw [hf] at q; exact fun v H' k h => q v H' k (.inl h)
  | ex c fs => rw [hf] at q; exact q
  | stuck => rw [hf] at q; exact q⟩
theorem DF.de {f : DSt → Res (List D)} (h : DF X xw e f) : DE X xw e (fun δ => (f δ).bind fun ds => .ok (.lst ds)) := PE.weak h fun σ H Q ⟨W₀, H₀, W, δ, st, q⟩ => ⟨W₀, H₀, W, δ, st, by
  dsimp only at q
  cases hf : f δ with
  | ok d =>
    rw [hf] at q
    refine fun a xs H1 k n r => q _ _ (k.trans (Az1V n)) ?_
    have w1 := st.fr.wl.same k
    rw [Has]
    exact ⟨a, xs, rfl, .inl ⟨Az0H, Cz1I w1 n⟩, r.same (Az1V n) w1⟩
  | ex c fs => rw [hf] at q; exact q
  | stuck => rw [hf] at q; exact q⟩
noncomputable def slotD (i : Nat) (δ : DSt) : Res D := match δ[i]? with
  | some (some (.d x)) => .ok x
  | _ => .stuck
noncomputable def slotP (i : Nat) (δ : DSt) : Res D := match δ[i]? with
  | some (some (.d x)) => .ok x
  | some (some (.o ds)) => .ok (.lst ds)
  | _ => .stuck
theorem de_var (i : Nat) {x : Str} (hN : autoParam (X.N[i]? = some x) slim0._auto_1) (hv : autoParam (Vis X.env.scope x) slim6._auto_1) (hd : autoParam ((x == ("__debug__" : Str)) = false) slim1._auto_1)
    (hcd : autoParam ((x == ("__classdict__" : Str)) = false) slim1._auto_1) : DE X xw (.Name x pos) (slotD i) := PE.weak (pe_var hN hv hd hcd) fun σ H Q ⟨W₀, H₀, W, δ, st, q⟩ => by
  unfold slotD at q
  split at q
  · rename_i d h
    obtain ⟨v, e, r⟩ := st.at' i _ h
    exact ⟨v, e, q v H (Same.refl H) r⟩
  · exact q.elim
theorem dp_var (i : Nat) {x : Str} (hN : autoParam (X.N[i]? = some x) slim0._auto_1) (hv : autoParam (Vis X.env.scope x) slim6._auto_1) (hd : autoParam ((x == ("__debug__" : Str)) = false) slim1._auto_1)
    (hcd : autoParam ((x == ("__classdict__" : Str)) = false) slim1._auto_1) : DP X xw (.Name x pos) (slotP i) := PE.weak (pe_var hN hv hd hcd) fun σ H Q ⟨W₀, H₀, W, δ, st, q⟩ => by
  unfold slotP at q
  split at q
  · rename_i d h
    obtain ⟨v, e, r⟩ := st.at' i _ h
    exact ⟨v, e, q v H (Same.refl H) (.inl r)⟩
  · rename_i ds h
    obtain ⟨v, e, a, xs, r1, r2, r3, r4, r5⟩ := st.at' i _ h
    exact ⟨v, e, q v H (Same.refl H) (.inr ⟨ds, a, xs, rfl, r1, r4, r5⟩)⟩
  · exact q.elim
theorem de_int {i : Int} {j} : DE X xw (.Constant (.int i) j pos) (fun _ => .ok (.int i)) := PE.weak pe_int fun σ H Q ⟨_, _, _, _, _, q⟩ => q.int
theorem de_bl {i : Bool} {j} : DE X xw (.Constant (.bool i) j pos) (fun _ => .ok (.bl i)) := PE.weak pe_bl fun σ H Q ⟨_, _, _, _, _, q⟩ => q.bl
theorem de_str {i : Str} {j} : DE X xw (.Constant (.str i) j pos) (fun _ => .ok (.str i)) := PE.weak pe_str fun σ H Q ⟨_, _, _, _, _, q⟩ => q.str
theorem de_non {j} : DE X xw (.Constant .none j pos) (fun _ => .ok .non) := PE.weak pe_non fun σ H Q ⟨_, _, _, _, _, q⟩ => q.non
noncomputable def Op2 (X : Cx) (xw : XW) (r : R2) (op : D → D → Res D) : Prop := ∀ (W : WS) (H : Hp) (d e : D) (v u : V) (Q : VK), WL W H → HasT X.K W H d v → HasT X.K W H e u → RE X.K xw W H (op d e) Q → r v u H Q
theorem Az5N {σ : L2.St} {H : Hp} {W₀ W : WS} {H₀ : Hp} {δ : DSt} {op : D → D → Res D} {Q : VK} {R : V → V → Hp → Prop} (st : StHas X.K W₀ H₀ W H σ δ)
    (q : RE X.K xw W H ((fa δ).bind fun x => (fb δ).bind fun y => op x y) Q)
    (h : ∀ H2 d e v u, Same H H2 → WL W H2 → HasT X.K W H2 d v → HasT X.K W H2 e u → fa δ = .ok d → fb δ = .ok e → RE X.K xw W H2 (op d e) Q → R v u H2) :
    tDP X.K xw fa σ H fun x H1 => tDP X.K xw fb σ H1 fun y H2 => R x y H2 := by
  refine ⟨W₀, H₀, W, δ, st, ?_⟩
  cases h1 : fa δ with
  | stuck => rw [h1] at q; exact q
  | ex c fs => rw [h1] at q; exact q
  | ok d =>
    rw [h1] at q
    intro v H1 k1 hv
    refine ⟨W₀, H₀, W, δ, st.same k1, ?_⟩
    have q' : RE X.K xw W H ((fb δ).bind fun y => op d y) Q := q
    cases h2 : fb δ with
    | stuck => rw [h2] at q'; exact q'
    | ex c fs => rw [h2] at q'; exact fun H2 k2 => q' H2 (k1.trans k2)
    | ok e =>
      rw [h2] at q'
      intro u H2 k2 hu
      have q2 : RE X.K xw W H (op d e) Q := q'
      exact h H2 d e v u (k1.trans k2) (st.fr.wl.same (k1.trans k2)) (hv.same k2 (st.fr.wl.same k1)) hu h1 h2 (q2.same (k1.trans k2))
theorem de_op2 {o : Operator} {r : R2} {op : D → D → Res D} (ho : OpR X (binaryOp o) r) (hr : Op2 X xw r op) (ha : DP X xw a fa) (hb : DP X xw b fb) :
    DE X xw (.BinOp a o b pos) (fun δ => (fa δ).bind fun x => (fb δ).bind fun y => op x y) :=
  PE.weak (pe_op ho ha hb) fun σ H Q ⟨W₀, H₀, W, δ, st, q⟩ => Az5N st q fun H2 d e v u k w hv hu _ _ q2 => hr W H2 d e v u Q w hv hu q2
theorem op_catT0 : OpR X (binaryOp .Add) (fun x y H Q => ∃ a b ys, x = .ref a ∧ y = .ref b ∧ SqT X.K H a [] ∧ SqT X.K H b ys ∧ Q (.ref b) H) := by
  intro pins s σ H x y v u Q I rx ry h
  obtain ⟨a, b, ys, rfl, rfl, ha, hb, q⟩ := h
  cases rx
  cases ry
  obtain ⟨its, r1, p1, _⟩ := I.tuple ha
  obtain ⟨its2, r2, p2, _⟩ := I.tuple hb
  have e0 : its = [] := r1.nil_iff.mpr rfl
  subst e0
  obtain ⟨⟨cls, dd, data, sl⟩, ho, hc, n, hd⟩ := id p1
  obtain ⟨⟨cls2, dd2, data2, sl2⟩, ho2, hc2, n2, hd2⟩ := id p2
  simp only at hc hd hc2 hd2
  subst hc hd hc2 hd2
  exact concat_meets ⟨_, ho, rfl⟩ ⟨_, ho2, rfl⟩ noFill_tuple_add seq_tuple_add PySem.F.slot_tuple_add PySem.F.entry_tuple_add (PySem.F.args_tuple_add_2 _ _)
      (tuple_addW0 a b _ its2.toArray n n2 dd dd2 sl sl2 (by simp)) ⟨ho, ho2, ⟨.ref b, H, I, rfl, q⟩⟩
noncomputable def addD : D → D → Res D
  | .int i, .int j => .ok (.int (i + j))
  | .str x, .str y => @ite (Res D) (x.length + y.length ≤ sizeLine) (Classical.propDecidable _) (.ok (.str (x ++ y))) .stuck
  | .tup xs, .tup ys => @ite (Res D) (xs.length + ys.length ≤ sizeLine) (Classical.propDecidable _) (.ok (.tup (xs ++ ys))) .stuck
  | _, _ => .stuck
theorem de_add (ha : DP X xw a fa) (hb : DP X xw b fb) : DE X xw (.BinOp a .Add b pos) (fun δ => (fa δ).bind fun x => (fb δ).bind fun y => addD x y) := by
  refine de_op2 ((op_add.or Bz2U).or (op_catT0.or Cz1D)) (fun W H d e v u Q w hv hu q => ?_) ha hb
  unfold addD at q
  split at q
  · exact .inl (.inl ⟨_, _, hv.int, hu.int, q.int⟩)
  · split at q
    · rename_i hz
      exact .inl (.inr ⟨_, _, hv.str, hu.str, hz, q.str⟩)
    · exact q.elim
  · rename_i ds es
    split at q
    · rename_i hz
      obtain ⟨a1, xs, e1, s1, r1⟩ := hv.tup
      obtain ⟨a2, ys, e2, s2, r2⟩ := hu.tup
      by_cases hx : xs = []
      · subst hx
        have hd : ds = [] := by
          have := r1.length
          exact List.eq_nil_of_length_eq_zero (by simpa using this)
        subst hd
        refine .inr (.inl ⟨a1, a2, ys, e1, e2, s1, s2, q _ H (Same.refl H) ?_⟩)
        rw [Has]; exact ⟨a2, ys, rfl, s2, r2⟩
      · refine .inr (.inr ⟨a1, a2, xs, ys, e1, e2, s1, s2, hx, by rw [← r1.length, ← r2.length]; exact hz, fun hy => ?_, fun _ p hp => q.newT w hp (r1.append r2)⟩)
        subst hy
        have he : es = [] := by
          have := r2.length
          exact List.eq_nil_of_length_eq_zero (by simpa using this)
        subst he
        refine q _ H (Same.refl H) ?_
        rw [Has, List.append_nil]; exact ⟨a1, xs, rfl, s1, r1⟩
    · exact q.elim
  · exact q.elim
noncomputable def subD : D → D → Res D
  | .int i, .int j => .ok (.int (i - j))
  | _, _ => .stuck
theorem de_sub (ha : DP X xw a fa) (hb : DP X xw b fb) : DE X xw (.BinOp a .Sub b pos) (fun δ => (fa δ).bind fun x => (fb δ).bind fun y => subD x y) := by
  refine de_op2 op_sub (fun W H d e v u Q w hv hu q => ?_) ha hb
  unfold subD at q
  split at q
  · exact ⟨_, _, hv.int, hu.int, q.int⟩
  · exact q.elim
noncomputable def modD : D → D → Res D
  | .int i, .int j => @ite (Res D) (0 < j) (Classical.propDecidable _) (.ok (.int (i % j))) .stuck
  | _, _ => .stuck
theorem de_mod (ha : DP X xw a fa) (hb : DP X xw b fb) : DE X xw (.BinOp a .Mod b pos) (fun δ => (fa δ).bind fun x => (fb δ).bind fun y => modD x y) := by
  refine de_op2 op_mod (fun W H d e v u Q w hv hu q => ?_) ha hb
  unfold modD at q
  split at q
  · split at q
    · rename_i hj
      exact ⟨_, _, hv.int, hu.int, hj, q.int⟩
    · exact q.elim
  · exact q.elim
noncomputable def fdivD : D → D → Res D
  | .int i, .int j => @ite (Res D) (0 < j ∧ j < 1073741824) (Classical.propDecidable _) (.ok (.int (i / j))) .stuck
  | _, _ => .stuck
theorem Cz3B (ha : DP X xw a fa) (hb : DP X xw b fb) : DE X xw (.BinOp a .FloorDiv b pos) (fun δ => (fa δ).bind fun x => (fb δ).bind fun y => fdivD x y) := by
  refine de_op2 Cz1C (fun W H d e v u Q w hv hu q => ?_) ha hb
  unfold fdivD at q
  split at q
  · split at q
    · rename_i hj
      exact ⟨_, _, hv.int, hu.int, hj, q.int⟩
    · exact q.elim
  · exact q.elim
noncomputable def powD : D → D → Res D
  | .int i, .int j => @ite (Res D) (0 ≤ j ∧ j ≤ 1000 ∧ i.natAbs < 2 ^ 64) (Classical.propDecidable _) (.ok (.int (i ^ j.toNat))) .stuck
  | _, _ => .stuck
theorem de_pow (ha : DP X xw a fa) (hb : DP X xw b fb) : DE X xw (.BinOp a .Pow b pos) (fun δ => (fa δ).bind fun x => (fb δ).bind fun y => powD x y) := by
  refine de_op2 op_pow (fun W H d e v u Q w hv hu q => ?_) ha hb
  unfold powD at q
  split at q
  · split at q
    · rename_i hj
      exact ⟨_, _, hv.int, hu.int, ⟨hj.1, by omega, hj.2.2⟩, q.int⟩
    · exact q.elim
  · exact q.elim
noncomputable def mulD : D → D → Res D
  | .int i, .int j => @ite (Res D) ((-(2 ^ 64) < i ∧ i < 2 ^ 64) ∨ (-(2 ^ 64) < j ∧ j < 2 ^ 64)) (Classical.propDecidable _) (.ok (.int (i * j))) .stuck
  | _, _ => .stuck
noncomputable def negD : D → Res D
  | .int i => .ok (.int (-i))
  | _ => .stuck
theorem Az4Y {σ : L2.St} {H : Hp} {W₀ W : WS} {H₀ : Hp} {δ : DSt} {op : D → Res D} {Q : VK} {R : V → Hp → Prop} (st : StHas X.K W₀ H₀ W H σ δ)
    (q : RE X.K xw W H ((fa δ).bind op) Q)
    (h : ∀ H2 d v, Same H H2 → WL W H2 → StHas X.K W₀ H₀ W H2 σ δ → HasT X.K W H2 d v → fa δ = .ok d → RE X.K xw W H2 (op d) Q → R v H2) :
    tDP X.K xw fa σ H fun x H1 => R x H1 := by
  refine ⟨W₀, H₀, W, δ, st, ?_⟩
  cases h1 : fa δ with
  | stuck => rw [h1] at q; exact q
  | ex c fs => rw [h1] at q; exact q
  | ok d =>
    rw [h1] at q
    intro v H1 k1 hv
    exact h H1 d v k1 (st.fr.wl.same k1) (st.same k1) hv h1 (RE.same (r := op d) q k1)
theorem de_neg (ha : DP X xw a fa) : DE X xw (.UnaryOp .USub a pos) (fun δ => (fa δ).bind negD) :=
  PE.weak (pe_un un_neg ha) fun σ H Q ⟨W₀, H₀, W, δ, st, q⟩ => Az4Y st q fun H2 d v k w st2 hv _ q2 => by
    unfold negD at q2
    split at q2
    · exact ⟨_, hv.int, q2.int⟩
    · exact q2.elim
noncomputable def eqR (d e : D) : Res D := if (shal 40 d && shal 40 e) = true then .ok (.bl (eqD d e)) else .stuck
noncomputable def neR (d e : D) : Res D := if (shal 40 d && shal 40 e) = true then .ok (.bl (!eqD d e)) else .stuck
noncomputable def ltR : D → D → Res D
  | .int i, .int j => .ok (.bl (decide (i < j)))
  | _, _ => .stuck
noncomputable def leR : D → D → Res D
  | .int i, .int j => .ok (.bl (decide (i ≤ j)))
  | _, _ => .stuck
noncomputable def gtR : D → D → Res D
  | .int i, .int j => .ok (.bl (decide (j < i)))
  | _, _ => .stuck
noncomputable def geR : D → D → Res D
  | .int i, .int j => .ok (.bl (decide (j ≤ i)))
  | _, _ => .stuck
structure CmpR (X : Cx) (xw : XW) (o : CmpOp) (op : D → D → Res D) : Prop where
  ex : ∃ r, OpR X (compareOp o) r ∧ Op2 X xw r op
  bl : ∀ d e z, op d e = .ok z → ∃ k, z = .bl k
  nm : o ≠ .In ∧ o ≠ .NotIn
theorem op_eqD (hu : X.A.units + 40 < cLine) : OpR X (compareOp .Eq) (fun x y H Q => ∃ W d e, HasT X.K W H d x ∧ HasT X.K W H e y ∧ shal 40 d = true ∧ shal 40 e = true ∧ Q (.bl (eqD d e)) H) := by
  intro pins s σ H x y v u Q I rx ry h
  obtain ⟨W, d, e, h1, h2, s1, s2, q⟩ := h
  exact (eqAt_D I 40 X.A hu h1 h2 rx ry s1 s2).2.1 _ _ _ _ ⟨.bl _, H, I, rfl, q⟩
theorem op_neD (hu : X.A.units + 40 < cLine) : OpR X (compareOp .NotEq) (fun x y H Q => ∃ W d e, HasT X.K W H d x ∧ HasT X.K W H e y ∧ shal 40 d = true ∧ shal 40 e = true ∧ Q (.bl (!eqD d e)) H) := by
  intro pins s σ H x y v u Q I rx ry h
  obtain ⟨W, d, e, h1, h2, s1, s2, q⟩ := h
  exact (eqAt_D I 40 X.A hu h1 h2 rx ry s1 s2).2.2 _ _ _ _ ⟨.bl _, H, I, rfl, q⟩
theorem c_eq (hu : X.A.units + 40 < cLine) : CmpR X xw .Eq eqR := ⟨⟨_, op_eqD hu, fun W H d e v u Q w hv hu q => by
    unfold eqR at q
    split at q
    · rename_i hs
      rw [Bool.and_eq_true] at hs
      exact ⟨W, d, e, hv, hu, hs.1, hs.2, q.bl⟩
    · exact q.elim⟩, fun d e z h => by unfold eqR at h; split at h <;> cases h; exact ⟨_, rfl⟩, by decide, by decide⟩
theorem c_ne (hu : X.A.units + 40 < cLine) : CmpR X xw .NotEq neR := ⟨⟨_, op_neD hu, fun W H d e v u Q w hv hu q => by
    unfold neR at q
    split at q
    · rename_i hs
      rw [Bool.and_eq_true] at hs
      exact ⟨W, d, e, hv, hu, hs.1, hs.2, q.bl⟩
    · exact q.elim⟩, fun d e z h => by unfold neR at h; split at h <;> cases h; exact ⟨_, rfl⟩, by decide, by decide⟩
theorem c_lt : CmpR X xw .Lt ltR := ⟨⟨_, op_lt, fun W H d e v u Q w hv hu q => by
    unfold ltR at q
    split at q
    · exact ⟨_, _, hv.int, hu.int, q.bl⟩
    · exact q.elim⟩, fun d e z h => by unfold ltR at h; split at h <;> cases h; exact ⟨_, rfl⟩, by decide, by decide⟩
theorem c_le : CmpR X xw .LtE leR := ⟨⟨_, op_le, fun W H d e v u Q w hv hu q => by
    unfold leR at q
    split at q
    · exact ⟨_, _, hv.int, hu.int, q.bl⟩
    · exact q.elim⟩, fun d e z h => by unfold leR at h; split at h <;> cases h; exact ⟨_, rfl⟩, by decide, by decide⟩
theorem c_gt : CmpR X xw .Gt gtR := ⟨⟨_, op_gt, fun W H d e v u Q w hv hu q => by
    unfold gtR at q
    split at q
    · exact ⟨_, _, hv.int, hu.int, q.bl⟩
    · exact q.elim⟩, fun d e z h => by unfold gtR at h; split at h <;> cases h; exact ⟨_, rfl⟩, by decide, by decide⟩
noncomputable def isNR (d : D) : Res D := match d with
  | .non => .ok (.bl true)
  | _ => .ok (.bl false)
theorem HasT.isN {K : PySem.W.Frag} {W : WS} {H : Hp} {d : D} {v : V} (h : HasT K W H d v) (hd : d ≠ .non) : v ≠ .non := by
  rintro rfl
  rcases h with h | ⟨ds, a, xs, h1, h2, _⟩
  · cases d with
    | non => exact hd rfl
    | bl b => rw [Has] at h; cases h
    | int b => rw [Has] at h; cases h
    | str b => rw [Has] at h; cases h
    | tup b => rw [Has] at h; obtain ⟨_, _, z, _⟩ := h; cases z
    | lst b => rw [Has] at h; obtain ⟨_, _, z, _⟩ := h; cases z
    | dct k b => rw [Has] at h; obtain ⟨_, _, z, _⟩ := h; cases z
    | exc k b => rw [Has] at h; obtain ⟨_, _, _, z, _⟩ := h; cases z
    | obj c k b => rw [Has] at h; obtain ⟨_, _, _, _, z, _⟩ := h; cases z
  · cases h2
theorem de_isN {j pos'} (ha : DP X xw a fa) : DE X xw (.Compare a [.Is] [.Constant .none j pos'] pos) (fun δ => (fa δ).bind isNR) :=
  PE.weak (pe_cmp (pc_isN ha)) fun σ H Q ⟨W₀, H₀, W, δ, st, q⟩ => Az4Y st q fun H2 d v k w st2 hv _ q2 => by
    unfold isNR at q2
    split at q2
    · rw [hv.non]; exact q2.bl
    · rename_i hd
      rw [decide_eq_false (hv.isN hd)]; exact q2.bl
noncomputable def boolR : D → Res Bool
  | .bl k => .ok k
  | _ => .stuck
theorem DE.t_of (ht : PT X e (tB (tDE X.K xw f))) : DT X xw e (fun δ => (f δ).bind boolR) := PT.weak ht fun σ H Q ⟨W₀, H₀, W, δ, st, q⟩ => by
  dsimp only at q
  refine ⟨W₀, H₀, W, δ, st, ?_⟩
  cases h1 : f δ with
  | stuck => rw [h1] at q; exact q
  | ex c fs => rw [h1] at q; exact q
  | ok d =>
    rw [h1] at q
    intro v H1 k1 hv
    have q' : RT xw H (boolR d) Q := q
    unfold boolR at q'
    split at q'
    · rw [Has] at hv
      exact ⟨_, hv, q' H1 k1⟩
    · exact q'.elim
theorem DE.t (h : DE X xw e f) (he : autoParam (∀ whole, isTrue e X.env whole = (do let v ← whole; standAt e.pos; holding [v] (truthy v))) slim2._auto_1) : DT X xw e (fun δ => (f δ).bind boolR) := DE.t_of (pt_val h he)
theorem dt_cmp {o : CmpOp} {op : D → D → Res D} (hc : CmpR X xw o op) (ha : DP X xw a fa) (hb : DP X xw b fb) : DT X xw (.Compare a [o] [b] pos) (fun δ => ((fa δ).bind fun x => (fb δ).bind fun y => op x y).bind boolR) := by
  obtain ⟨⟨r, ho, hr⟩, _, h1, h2⟩ := hc
  refine DE.t_of (f := fun δ => (fa δ).bind fun x => (fb δ).bind fun y => op x y) (PT.weak (Az7R ho ha hb (nomark b h1 h2)) fun σ H Q q => ?_)
  obtain ⟨W₀, H₀, W, δ, st, q⟩ := q
  exact Az5N st q fun H2 d e v u k w hv hu _ _ q2 => hr W H2 d e v u _ w hv hu q2
theorem dt_isN {j pos'} (ha : DP X xw a fa) : DT X xw (.Compare a [.Is] [.Constant .none j pos'] pos) (fun δ => ((fa δ).bind isNR).bind boolR) :=
  DE.t_of (f := fun δ => (fa δ).bind isNR) (PT.weak (pt_cmp (pc_isN ha)) fun σ H Q q => by
    obtain ⟨W₀, H₀, W, δ, st, q⟩ := q
    exact Az4Y st q fun H2 d v k w st2 hv _ q2 => by
      unfold isNR at q2
      split at q2
      · rw [hv.non]; exact q2.bl
      · rename_i hd
        rw [decide_eq_false (hv.isN hd)]; exact q2.bl)
theorem DW.t {g : DSt → Res Bool} (h : DW X xw e g) : DT X xw e g := PW.pt h
noncomputable def chainR (op op' : D → D → Res D) (x y : D) (z : Res D) : Res D := (op x y).bind fun k => match k with
  | .bl true => z.bind fun w => op' y w
  | .bl false => .ok (.bl false)
  | _ => .stuck
noncomputable def andB (x : Res Bool) (y : Res Bool) : Res Bool := x.bind fun k => if k = true then y else .ok false
noncomputable def orB (x : Res Bool) (y : Res Bool) : Res Bool := x.bind fun k => if k = true then .ok true else y
variable {ga gb : DSt → Res Bool} {rest : List Expr}
theorem Az6V {σ : L2.St} {H : Hp} {W₀ W : WS} {H₀ : Hp} {δ : DSt} {k : Bool → Res Bool} {Q : Bool → Hp → Prop} {R : Bool → Hp → Prop} (st : StHas X.K W₀ H₀ W H σ δ) (q : RT xw H ((ga δ).bind k) Q)
    (h : ∀ H2 c, Same H H2 → StHas X.K W₀ H₀ W H2 σ δ → ga δ = .ok c → RT xw H2 (k c) Q → R c H2) : tDT X.K xw ga σ H R := by
  refine ⟨W₀, H₀, W, δ, st, ?_⟩
  cases h1 : ga δ with
  | stuck => rw [h1] at q; exact q
  | ex c fs => rw [h1] at q; exact q
  | ok c =>
    rw [h1] at q
    exact fun H1 k1 => h H1 c k1 (st.same k1) h1 (RT.same (r := k c) q k1)
theorem Cz2L (ha : DT X xw a ga) : DW X xw (.BoolOp .And [a] pos) ga := Cz0J ha
theorem dw_or1 (ha : DT X xw a ga) : DW X xw (.BoolOp .Or [a] pos) ga := pw_or1 ha
theorem dw_and (ha : DT X xw a ga) (hb : DW X xw (.BoolOp .And (b :: rest) pos) gb) : DW X xw (.BoolOp .And (a :: b :: rest) pos) (fun δ => andB (ga δ) (gb δ)) :=
  PW.weak (pw_and ha hb) fun σ H Q ⟨W₀, H₀, W, δ, st, q⟩ => Az6V st q fun H2 c k st2 _ q2 => by
    cases c with
    | true => rw [if_pos rfl] at q2 ⊢; exact ⟨W₀, H₀, W, δ, st2, q2⟩
    | false => rw [if_neg Bool.false_ne_true] at q2 ⊢; exact q2 H2 (Same.refl _)
theorem dw_or (ha : DT X xw a ga) (hb : DW X xw (.BoolOp .Or (b :: rest) pos) gb) : DW X xw (.BoolOp .Or (a :: b :: rest) pos) (fun δ => orB (ga δ) (gb δ)) :=
  PW.weak (pw_or ha hb) fun σ H Q ⟨W₀, H₀, W, δ, st, q⟩ => Az6V st q fun H2 c k st2 _ q2 => by
    cases c with
    | true => rw [if_pos rfl] at q2 ⊢; exact q2 H2 (Same.refl _)
    | false => rw [if_neg Bool.false_ne_true] at q2 ⊢; exact ⟨W₀, H₀, W, δ, st2, q2⟩
theorem dt_not (ha : DT X xw a ga) : DT X xw (.UnaryOp .Not a pos) (fun δ => (ga δ).bind fun k => .ok (!k)) :=
  PT.weak (pt_not ha) fun σ H Q ⟨W₀, H₀, W, δ, st, q⟩ => Az6V st q fun H2 c k st2 _ q2 => q2 H2 (Same.refl _)
noncomputable def andD (x : Res D) (y : Res D) : Res D := x.bind fun k => match k with
  | .bl true => y
  | .bl false => .ok (.bl false)
  | _ => .stuck
noncomputable def orD (x : Res D) (y : Res D) : Res D := x.bind fun k => match k with
  | .bl true => .ok (.bl true)
  | .bl false => y
  | _ => .stuck
noncomputable def notD : D → Res D
  | .bl k => .ok (.bl (!k))
  | _ => .stuck
theorem Bz5I {σ : L2.St} {H : Hp} {W₀ W : WS} {H₀ : Hp} {δ : DSt} {op : D → Res D} {Q : VK} {R : V → Hp → Prop} (st : StHas X.K W₀ H₀ W H σ δ)
    (q : RE X.K xw W H ((fa δ).bind op) Q)
    (h : ∀ H2 d v, Same H H2 → WL W H2 → StHas X.K W₀ H₀ W H2 σ δ → Has X.K W H2 d v → fa δ = .ok d → RE X.K xw W H2 (op d) Q → R v H2) :
    tDE X.K xw fa σ H fun x H1 => R x H1 := by
  refine ⟨W₀, H₀, W, δ, st, ?_⟩
  cases h1 : fa δ with
  | stuck => rw [h1] at q; exact q
  | ex c fs => rw [h1] at q; exact q
  | ok d =>
    rw [h1] at q
    intro v H1 k1 hv
    exact h H1 d v k1 (st.fr.wl.same k1) (st.same k1) hv h1 (RE.same (r := op d) q k1)
variable {es : List Expr} {fs : DSt → Res (List D)}
theorem da_nil : DA X xw [] (fun _ => .ok []) := PA.weak pa_nil fun σ H Q ⟨W₀, H₀, W, δ, st, q⟩ => q [] H (Same.refl H) HasL.nil
noncomputable def consR (x : Res D) (r : Res (List D)) : Res (List D) := x.bind fun d => r.bind fun ds => .ok (d :: ds)
theorem Cz3E (ha : DE X xw a fa) (hr : DA X xw es fs) (hs : autoParam (starEach (a :: es) X.env = (false, eval a X.env) :: starEach es X.env) slim0._auto_1) : DA X xw (a :: es) (fun δ => consR (fa δ) (fs δ)) :=
  PA.weak (Az6I ha hr hs) fun σ H Q ⟨W₀, H₀, W, δ, st, q⟩ => by
    refine ⟨W₀, H₀, W, δ, st, ?_⟩
    unfold consR at q
    dsimp only at q
    cases h1 : fa δ with
    | stuck => rw [h1] at q; exact q
    | ex c fs => rw [h1] at q; exact q
    | ok d =>
      rw [h1] at q
      intro v H1 k1 hv
      refine ⟨W₀, H₀, W, δ, st.same k1, ?_⟩
      have q' : RA X.K xw W H ((fs δ).bind fun ds => .ok (d :: ds)) Q := q
      cases h2 : fs δ with
      | stuck => rw [h2] at q'; exact q'
      | ex c gs => rw [h2] at q'; exact fun H2 k2 => q' H2 (k1.trans k2)
      | ok ds =>
        rw [h2] at q'
        intro vs H2 k2 hvs
        have q2 : RA X.K xw W H (.ok (d :: ds)) Q := q'
        exact q2 (v :: vs) H2 (k1.trans k2) (HasL.cons (hv.same k2 (st.fr.wl.same k1)) hvs)
theorem Az5L {σ : L2.St} {H : Hp} {W₀ W : WS} {H₀ : Hp} {δ : DSt} {op : List D → Res D} {Q : VK} {R : List V → Hp → Prop} (st : StHas X.K W₀ H₀ W H σ δ)
    (q : RE X.K xw W H ((fs δ).bind op) Q)
    (h : ∀ H2 ds vs, Same H H2 → WL W H2 → StHas X.K W₀ H₀ W H2 σ δ → HasL X.K W H2 ds vs → fs δ = .ok ds → RE X.K xw W H2 (op ds) Q → R vs H2) :
    tDA X.K xw fs σ H fun x H1 => R x H1 := by
  refine ⟨W₀, H₀, W, δ, st, ?_⟩
  cases h1 : fs δ with
  | stuck => rw [h1] at q; exact q
  | ex c gs => rw [h1] at q; exact q
  | ok d =>
    rw [h1] at q
    intro v H1 k1 hv
    exact h H1 d v k1 (st.fr.wl.same k1) (st.same k1) hv h1 (RE.same (r := op d) q k1)
noncomputable def tupR (ds : List D) : Res D := @ite (Res D) (ds.length ≤ 1000) (Classical.propDecidable _) (.ok (.tup ds)) .stuck
theorem k1000 : (1000 : Nat) ≤ sizeLine := by rw [sizeLine_eq]; decide
theorem de_tup {x1} (h : DA X xw es fs) : DE X xw (.Tuple es x1 pos) (fun δ => (fs δ).bind tupR) :=
  PE.weak (pe_tup h) fun σ H Q ⟨W₀, H₀, W, δ, st, q⟩ => Az5L st q fun H2 ds vs k w st2 hv _ q2 => by
    unfold tupR at q2
    split at q2
    · rename_i hz
      exact ⟨by rw [← hv.length]; exact Nat.le_trans hz k1000, fun p hp => q2.newT w hp hv⟩
    · exact q2.elim
noncomputable def lstR (ds : List D) : Res (List D) := @ite (Res (List D)) (ds.length ≤ 1000) (Classical.propDecidable _) (.ok ds) .stuck
theorem df_lst (h : DA X xw es fs) : DF X xw (.List es pos) (fun δ => (fs δ).bind lstR) :=
  PE.weak (pe_lst h) fun σ H Q ⟨W₀, H₀, W, δ, st, q⟩ => by
    dsimp only at q
    refine ⟨W₀, H₀, W, δ, st, ?_⟩
    cases h1 : fs δ with
    | stuck => rw [h1] at q; exact q
    | ex c gs => rw [h1] at q; exact q
    | ok ds =>
      rw [h1] at q
      intro vs H1 k1 hv
      have q' : RF X.K xw W H (lstR ds) Q := q
      unfold lstR at q'
      split at q'
      · rename_i hz
        exact ⟨by rw [← hv.length]; exact Nat.le_trans hz k1000, fun p hp => q' p vs H1 k1 hp hv⟩
      · exact q'.elim
noncomputable def ixR : D → D → Res D
  | .tup ds, .int i => match atI ds i with
    | some d => .ok d
    | none => .stuck
  | .lst ds, .int i => match atI ds i with
    | some d => .ok d
    | none => .stuck
  | .str z, .int i => @ite (Res D) (z.length ≤ sizeLine) (Classical.propDecidable _) (match atI z.cps.toList i with
    | some c => .ok (.str ⟨#[c]⟩)
    | none => .stuck) .stuck
  | _, _ => .stuck
theorem Bz7I {K : PySem.W.Frag} {W : WS} {H : Hp} {ds : List D} {xs : List V} {i : Int} {d : D} (r : HasL K W H ds xs) (h : atI ds i = some d) : ∃ x, atI xs i = some x ∧ Has K W H d x := by
  unfold atI at h ⊢
  rw [r.length] at h
  cases e : ixN xs.length i with
  | none => rw [e] at h; cases h
  | some j =>
    rw [e] at h
    obtain ⟨x, h1, h2⟩ := r.get (show ds[j]? = some d from h)
    exact ⟨x, h1, h2⟩
theorem de_ix (ha : DP X xw a fa) (hb : DP X xw b fb) (hs : autoParam (Az8R b) slim3._auto_1) : DE X xw (.Subscript a b pos) (fun δ => (fa δ).bind fun x => (fb δ).bind fun y => ixR x y) :=
  PE.weak (pe_ix ix_seq ha hb hs) fun σ H Q ⟨W₀, H₀, W, δ, st, q⟩ => Az5N st q fun H2 d e v u k w hv hu _ _ q2 => by
    unfold ixR at q2
    split at q2
    · split at q2
      · rename_i d' hd
        obtain ⟨p, xs, e1, sq, r⟩ := hv.tup
        obtain ⟨x, h1, h2⟩ := Bz7I r hd
        exact .inr (.inl ⟨p, xs, _, x, e1, hu.int, sq, h1, q2 x H2 (Same.refl _) h2⟩)
      · exact q2.elim
    · split at q2
      · rename_i d' hd
        obtain ⟨p, xs, e1, sq, r⟩ := hv.lst
        obtain ⟨x, h1, h2⟩ := Bz7I r hd
        exact .inl ⟨p, xs, _, x, e1, hu.int, sq, h1, q2 x H2 (Same.refl _) h2⟩
      · exact q2.elim
    · split at q2
      · rename_i hz
        split at q2
        · rename_i cc hc
          exact .inr (.inr ⟨_, _, cc, hv.str, hu.int, hz, hc, q2.str⟩)
        · exact q2.elim
      · exact q2.elim
    · exact q2.elim
noncomputable def DO (X : Cx) (xw : XW) (e : Option Expr) (f : DSt → Res (Option Int)) : Prop := PO X e (fun σ H Q => ∃ W₀ H₀ W δ, StHas X.K W₀ H₀ W H σ δ ∧ match f δ with
  | .ok o => ∀ H', Same H H' → Q o H'
  | .ex c fs => ∀ H', Same H H' → xw c fs H'
  | .stuck => False)
theorem PO.weak {X : Cx} {e : Option Expr} {t t' : TO} (h : PO X e t) (k : ∀ σ H Q, t' σ H Q → t σ H Q) : PO X e t' := fun pins s σ H Q I q => h pins s σ H Q I (k σ H Q q)
noncomputable def partR : D → Res (Option Int)
  | .int i => .ok (some i)
  | _ => .stuck
theorem Cz2U (h : DE X xw e f) : DO X xw (some e) (fun δ => (f δ).bind partR) := PO.weak (Cz0O h) fun σ H Q ⟨W₀, H₀, W, δ, st, q⟩ => by
  dsimp only at q
  refine ⟨W₀, H₀, W, δ, st, ?_⟩
  cases h1 : f δ with
  | stuck => rw [h1] at q; exact q
  | ex c fs => rw [h1] at q; exact q
  | ok d =>
    rw [h1] at q
    intro v H1 k1 hv
    cases d with
    | int i => rw [Has] at hv; exact ⟨i, hv, q H1 k1⟩
    | _ => exact q.elim
noncomputable def cutD (xs : List D) (lo hi : Option Int) : List D := (xs.drop (HT.sIx xs.length 0 lo)).take (HT.sIx xs.length xs.length hi - HT.sIx xs.length 0 lo)
theorem Cz3G {K : PySem.W.Frag} {W : WS} {H : Hp} {ds : List D} {xs : List V} (r : HasL K W H ds xs) (lo hi : Option Int) : HasL K W H (cutD ds lo hi) (cutV xs lo hi) := by
  unfold cutD cutV
  rw [r.length]
  exact (r.drop _).take _
variable {lo hi : Option Expr} {fl fh : DSt → Res (Option Int)} {p2 : Pos}
noncomputable def whole (n : Nat) (lo hi : Option Int) : Prop := HT.sIx n 0 lo = 0 ∧ HT.sIx n n hi = n
noncomputable instance {n : Nat} {lo hi : Option Int} : Decidable (whole n lo hi) := inferInstanceAs (Decidable (_ ∧ _))
theorem Bz9X {σ : L2.St} {H : Hp} {W₀ W : WS} {H₀ : Hp} {δ : DSt} {α : Type} {op : D → Option Int → Option Int → Res α} {R : V → Option Int → Option Int → Hp → Prop} {G : Hp → Res α → Prop} (st : StHas X.K W₀ H₀ W H σ δ)
    (hex : ∀ H c gs, G H (.ex c gs) → ∀ H', Same H H' → xw c gs H') (hst : ∀ H, G H .stuck → False) (hG : ∀ H H' r, Same H H' → G H r → G H' r)
    (q : G H ((fa δ).bind fun x => (fl δ).bind fun l => (fh δ).bind fun u => op x l u))
    (h : ∀ H2 d v l u, Same H H2 → WL W H2 → HasT X.K W H2 d v → G H2 (op d l u) → R v l u H2) :
    tDP X.K xw fa σ H fun x H1 => (fun σ H Q => ∃ W₀ H₀ W δ, StHas X.K W₀ H₀ W H σ δ ∧ match fl δ with
  | .ok o => ∀ H', Same H H' → Q o H'
  | .ex c fs => ∀ H', Same H H' → xw c fs H'
  | .stuck => False : TO) σ H1 fun l H2 => (fun σ H Q => ∃ W₀ H₀ W δ, StHas X.K W₀ H₀ W H σ δ ∧ match fh δ with
  | .ok o => ∀ H', Same H H' → Q o H'
  | .ex c fs => ∀ H', Same H H' → xw c fs H'
  | .stuck => False : TO) σ H2 fun u H3 => R x l u H3 := by
  refine ⟨W₀, H₀, W, δ, st, ?_⟩
  cases h1 : fa δ with
  | stuck => rw [h1] at q; exact hst _ q
  | ex c fs => rw [h1] at q; exact hex _ _ _ q
  | ok d =>
    rw [h1] at q
    intro v H1 k1 hv
    refine ⟨W₀, H₀, W, δ, st.same k1, ?_⟩
    have q' : G H ((fl δ).bind fun l => (fh δ).bind fun u => op d l u) := q
    cases h2 : fl δ with
    | stuck => rw [h2] at q'; exact hst _ q'
    | ex c fs => rw [h2] at q'; exact fun H2 k2 => hex _ _ _ q' H2 (k1.trans k2)
    | ok l =>
      rw [h2] at q'
      intro H2 k2
      refine ⟨W₀, H₀, W, δ, (st.same k1).same k2, ?_⟩
      have q2 : G H ((fh δ).bind fun u => op d l u) := q'
      cases h3 : fh δ with
      | stuck => rw [h3] at q2; exact hst _ q2
      | ex c fs => rw [h3] at q2; exact fun H3 k3 => hex _ _ _ q2 H3 ((k1.trans k2).trans k3)
      | ok u =>
        rw [h3] at q2
        intro H3 k3
        have w1 := st.fr.wl.same k1
        exact h H3 d v l u ((k1.trans k2).trans k3) (st.fr.wl.same ((k1.trans k2).trans k3)) (hv.same (k2.trans k3) w1) (hG _ _ _ ((k1.trans k2).trans k3) q2)
noncomputable def slL (d : D) (lo hi : Option Int) : Res (List D) := match d with
  | .lst ds => .ok (cutD ds lo hi)
  | _ => .stuck
theorem df_slL (ha : DP X xw a fa) (hl : DO X xw lo fl) (hh : DO X xw hi fh) : DF X xw (.Subscript a (.Slice lo hi none p2) pos) (fun δ => (fa δ).bind fun x => (fl δ).bind fun l => (fh δ).bind fun u => slL x l u) :=
  PE.weak (Bz7Z Bz9Y ha hl hh) fun σ H Q ⟨W₀, H₀, W, δ, st, q⟩ => Bz9X (G := fun H r => RF X.K xw W H r Q) st (fun _ _ _ q => q) (fun _ q => q) (fun _ _ _ k q => RF.same q k) q fun H2 d v l u k w hv q2 => by
    unfold slL at q2
    split at q2
    · obtain ⟨a1, xs, e1, sq, r⟩ := hv.lst
      exact ⟨a1, xs, e1, sq, fun p hp => q2 p _ H2 (Same.refl _) hp (Cz3G r l u)⟩
    · exact q2.elim
end
end L3
namespace L3
open PySem PySem.Spec PyProof.Rows L2 SeqAt
inductive Out where
  | nx (δ : DSt) | rt (d : D) | bk (δ : DSt) | ct (δ : DSt) | ex (c : Str) (fs : List D) | stuck
structure Step (W : WS) (H : Hp) (W' : WS) (H' : Hp) : Prop where
  keep : Keep W H H'
  new : ∀ b, W' b → W b ∨ H b = none
section
variable {W W1 W2 : WS} {H H1 H2 : Hp}
theorem Step.refl : Step W H W H := ⟨fun _ _ e _ => e, fun _ z => .inl z⟩
theorem Step.same (k : Same H H1) : Step W H W H1 := ⟨Same.keep k, fun _ z => .inl z⟩
theorem Step.trans (a : Step W H W1 H1) (b : Step W1 H1 W2 H2) : Step W H W2 H2 := by
  refine ⟨fun c o e n => b.keep c o (a.keep c o e n) fun z => ?_, fun c z => ?_⟩
  · rcases a.new c z with q | q
    · exact n q
    · rw [e] at q; cases q
  · rcases b.new c z with q | q
    · exact a.new c q
    · by_cases hw : W c
      · exact .inl hw
      · right
        cases e : H c with
        | none => rfl
        | some o => rw [a.keep c o e hw] at q; cases q
end
section
variable (K : PySem.W.Frag) (xw : XW)
noncomputable def RS (W₀ : WS) (H₀ : Hp) (W : WS) (H : Hp) (o : Out) (Dn : Ends) : Prop := match o with
  | .nx δ => ∀ W' H' σ, Step W H W' H' → StHas K W₀ H₀ W' H' σ δ → Dn.nx σ H'
  | .bk δ => ∀ W' H' σ, Step W H W' H' → StHas K W₀ H₀ W' H' σ δ → Dn.bk σ H'
  | .ct δ => ∀ W' H' σ, Step W H W' H' → StHas K W₀ H₀ W' H' σ δ → Dn.ct σ H'
  | .rt d => ∀ v H', Same H₀ H' → Has K W₀ H' d v → Dn.rt v H'
  | .ex c fs => ∀ H', Same H₀ H' → xw c fs H'
  | .stuck => False
noncomputable def tDS (g : DSt → Out) : TS := fun Dn σ H => ∃ W₀ H₀ W δ, StHas K W₀ H₀ W H σ δ ∧ RS K xw W₀ H₀ W H (g δ) Dn
end
noncomputable def DS (X : Cx) (xw : XW) (st : Stmt) (g : DSt → Out) : Prop := PS X st (tDS X.K xw g)
noncomputable def DSs (X : Cx) (xw : XW) (sts : List Stmt) (g : DSt → Out) : Prop := PSs X sts (tDS X.K xw g)
theorem PS.weak {X : Cx} {st : Stmt} {t t' : TS} (h : PS X st t) (k : ∀ Dn σ H, t' Dn σ H → t Dn σ H) : PS X st t' := fun pins s σ H Dn I q => h pins s σ H Dn I (k Dn σ H q)
theorem PSs.weak {X : Cx} {st : List Stmt} {t t' : TS} (h : PSs X st t) (k : ∀ Dn σ H, t' Dn σ H → t Dn σ H) : PSs X st t' := fun pins s σ H Dn I q => h pins s σ H Dn I (k Dn σ H q)
section
variable {K : PySem.W.Frag} {xw : XW} {W₀ W W1 : WS} {H₀ H H1 : Hp} {o : Out} {Dn : Ends}
theorem RS.step (h : RS K xw W₀ H₀ W H o Dn) (k : Step W H W1 H1) : RS K xw W₀ H₀ W1 H1 o Dn := by
  cases o with
  | nx δ => exact fun W' H' σ k' st => h W' H' σ (k.trans k') st
  | bk δ => exact fun W' H' σ k' st => h W' H' σ (k.trans k') st
  | ct δ => exact fun W' H' σ k' st => h W' H' σ (k.trans k') st
  | rt d => exact h
  | ex c fs => exact h
  | stuck => exact h
end
noncomputable def ofR {α : Type} (r : Res α) (k : α → Out) : Out := match r with
  | .ok a => k a
  | .ex c fs => .ex c fs
  | .stuck => .stuck
noncomputable def seqO (o : Out) (g : DSt → Out) : Out := match o with
  | .nx δ => g δ
  | o => o
section
variable {X : Cx} {xw : XW} {e : Expr} {f : DSt → Res D} {pos : Pos} {st : Stmt} {sts : List Stmt} {g g1 g2 : DSt → Out}
theorem Cz2P : DSs X xw [] .nx := PSs.weak Bz6R fun Dn σ H ⟨W₀, H₀, W, δ, st, q⟩ => q W H σ Step.refl st
theorem Bz8Y (h1 : DS X xw st g1) (h2 : DSs X xw sts g2) : DSs X xw (st :: sts) (fun δ => seqO (g1 δ) g2) := PSs.weak (Bz2P h1 h2) fun Dn σ H ⟨W₀, H₀, W, δ, st, q⟩ => by
  refine ⟨W₀, H₀, W, δ, st, ?_⟩
  dsimp only at q
  cases h : g1 δ with
  | nx δ' =>
    rw [h] at q
    exact fun W' H' σ' k st' => ⟨W₀, H₀, W', δ', st', RS.step (o := g2 δ') q k⟩
  | bk δ' => rw [h] at q; exact q
  | ct δ' => rw [h] at q; exact q
  | rt d => rw [h] at q; exact q
  | ex c fs => rw [h] at q; exact q
  | stuck => rw [h] at q; exact q
theorem Cz2O (h1 : DS X xw st g1) : DSs X xw [st] g1 := Bz6Q h1
theorem Az4T {σ : L2.St} {H : Hp} {W₀ W : WS} {H₀ : Hp} {δ : DSt} {k : D → Out} {Dn : Ends} {R : V → Hp → Prop} (st : StHas X.K W₀ H₀ W H σ δ) (q : RS X.K xw W₀ H₀ W H (ofR (f δ) k) Dn)
    (h : ∀ H2 d v, StHas X.K W₀ H₀ W H2 σ δ → Has X.K W H2 d v → RS X.K xw W₀ H₀ W H2 (k d) Dn → R v H2) : tDE X.K xw f σ H R := by
  refine ⟨W₀, H₀, W, δ, st, ?_⟩
  cases h1 : f δ with
  | stuck => rw [h1] at q; exact q
  | ex c fs => rw [h1] at q; exact fun H' k' => q H' (st.fr.ext.trans k')
  | ok d =>
    rw [h1] at q
    exact fun v H1 k1 hv => h H1 d v (st.same k1) hv (RS.step (o := k d) q (Step.same k1))
theorem ds_ret (he : DE X xw e f) : DS X xw (.Return (some e) pos) (fun δ => ofR (f δ) fun d => .rt d) := PS.weak (ps_ret he) fun Dn σ H ⟨W₀, H₀, W, δ, st, q⟩ =>
  Az4T st q fun H2 d v st2 hv q2 => q2 v H2 st2.fr.ext (Has.keep (fun _ _ e _ => e) st2.fr.wl (fun b z => .inl (st2.fr.sub b z)) hv)
theorem Cz2Q (i : Nat) {x : Str} {pos' : Pos} (hN : autoParam (X.N[i]? = some x) slim0._auto_1) (hv : autoParam (Vis X.env.scope x) slim6._auto_1) (hd : autoParam ((x == ("__debug__" : Str)) = false) slim1._auto_1)
    (hcd : autoParam ((x == ("__classdict__" : Str)) = false) slim1._auto_1) : DS X xw (.Return (some (.Name x pos')) pos) (fun δ => ofR (slotP i δ) fun d => .rt d) := PS.weak (ps_ret (pe_var hN hv hd hcd)) fun Dn σ H ⟨W₀, H₀, W, δ, st, q⟩ => by
  have up : ∀ b, W₀ b → W b ∨ H b = none := fun b z => .inl (st.fr.sub b z)
  unfold slotP at q
  dsimp only at q
  split at q
  · rename_i d h
    obtain ⟨v, e, r⟩ := st.at' i _ h
    exact ⟨v, e, q v H st.fr.ext (Has.keep (fun _ _ e _ => e) st.fr.wl up r)⟩
  · rename_i ds h
    obtain ⟨v, e, a, xs, r1, r2, r3, r4, r5⟩ := st.at' i _ h
    refine ⟨v, e, q v H st.fr.ext ?_⟩
    rw [Has]
    refine ⟨a, xs, r1, .inl ⟨r4, fun z => ?_⟩, HasL.keep (fun _ _ e _ => e) st.fr.wl up r5⟩
    obtain ⟨ys, z', _⟩ := st.fr.wl0 a z
    rw [r3] at z'; cases z'
  · exact q.elim
theorem ds_set (i : Nat) {x : Str} {pos' : Pos} (hN : X.N.Nodup) (he : DE X xw e f) (hi : autoParam (X.N[i]? = some x) slim0._auto_1) (hx : autoParam (Loc X.env.scope x) slim7._auto_1) (hs : autoParam (swapsWith e (some (.Name x pos')) pos.line X.env = pure false) slim0._auto_1)
    (hf : autoParam (X.fn x = true ∨ X.env.scope.names.lookup x = some .local) slim5._auto_1) : DS X xw (.Assign [.Name x pos'] e pos) (fun δ => ofR (f δ) fun d => .nx (δ.set i (some (.d d)))) :=
  PS.weak (ps_set hN hi hx he hs hf) fun Dn σ H ⟨W₀, H₀, W, δ, st, q⟩ => Az4T st q fun H2 d v st2 hv q2 => q2 W H2 _ Step.refl (st2.set hv)
theorem Bz3B {σ : L2.St} {H : Hp} {W₀ W : WS} {H₀ : Hp} {δ : DSt} {ff : DSt → Res (List D)} {i : Nat} {Dn : Ends} (st : StHas X.K W₀ H₀ W H σ δ) (q : RS X.K xw W₀ H₀ W H (ofR (ff δ) fun ds => .nx (δ.set i (some (.o ds)))) Dn) :
    tDF X.K xw ff σ H fun x H1 => gName i x σ H1 Dn.nx := by
  refine ⟨W₀, H₀, W, δ, st, ?_⟩
  cases h1 : ff δ with
  | stuck => rw [h1] at q; exact q
  | ex c fs => rw [h1] at q; exact fun H' k' => q H' (st.fr.ext.trans k')
  | ok ds =>
    rw [h1] at q
    intro a xs H1 k n r
    have st1 := (st.same k).own (i := i) n r
    refine q _ _ _ ⟨fun b o e nb => ?_, fun b z => z.elim .inl fun z => .inr (by rw [z]; exact Same.free k n)⟩ st1
    rw [upd_ne (Az0D (k b o e) n)]; exact k b o e
theorem ds_own (i : Nat) {x : Str} {pos' : Pos} {ff : DSt → Res (List D)} (hN : X.N.Nodup) (he : DF X xw e ff) (hi : autoParam (X.N[i]? = some x) slim0._auto_1) (hx : autoParam (Loc X.env.scope x) slim7._auto_1) (hs : autoParam (swapsWith e (some (.Name x pos')) pos.line X.env = pure false) slim0._auto_1)
    (hf : autoParam (X.fn x = true ∨ X.env.scope.names.lookup x = some .local) slim5._auto_1) : DS X xw (.Assign [.Name x pos'] e pos) (fun δ => ofR (ff δ) fun ds => .nx (δ.set i (some (.o ds)))) :=
  PS.weak (ps_set hN hi hx he hs hf) fun Dn σ H ⟨W₀, H₀, W, δ, st, q⟩ => Bz3B st q
noncomputable def ifO (c : Res Bool) (a b : Out) : Out := ofR c fun k => if k = true then a else b
variable {c : Expr} {ga : DSt → Res Bool} {as bs : List Stmt}
theorem ds_if (hc : DT X xw c ga) (ha : DSs X xw as g1) (hb : DSs X xw bs g2) : DS X xw (.If c as bs pos) (fun δ => ifO (ga δ) (g1 δ) (g2 δ)) := PS.weak (ps_if hc ha hb) fun Dn σ H ⟨W₀, H₀, W, δ, st, q⟩ => by
  refine ⟨W₀, H₀, W, δ, st, ?_⟩
  unfold ifO at q
  dsimp only at q
  cases h1 : ga δ with
  | stuck => rw [h1] at q; exact q
  | ex c fs => rw [h1] at q; exact fun H' k' => q H' (st.fr.ext.trans k')
  | ok k =>
    rw [h1] at q
    intro H1 k1
    have q' : RS X.K xw W₀ H₀ W H (if k = true then g1 δ else g2 δ) Dn := q
    cases k with
    | true => rw [if_pos rfl] at q' ⊢; exact ⟨W₀, H₀, W, δ, st.same k1, q'.step (Step.same k1)⟩
    | false => rw [if_neg Bool.false_ne_true] at q' ⊢; exact ⟨W₀, H₀, W, δ, st.same k1, q'.step (Step.same k1)⟩
noncomputable def tDG (K : PySem.W.Frag) (t : D → DSt → Res DSt) : TG := fun v σ H Q => ∃ W₀ H₀ W δ d, StHas K W₀ H₀ W H σ δ ∧ Has K W H d v ∧ match t d δ with
  | .ok δ' => ∀ σ', StHas K W₀ H₀ W H σ' δ' → Q σ' H
  | _ => False
noncomputable def DG (X : Cx) (tg : Expr) (t : D → DSt → Res DSt) : Prop := PG X tg (tDG X.K t)
theorem PG.weak {X : Cx} {tg : Expr} {t t' : TG} (h : PG X tg t) (k : ∀ v σ H Q, t' v σ H Q → t v σ H Q) : PG X tg t' := fun pins s σ H v u Q I r q => h pins s σ H v u Q I r (k v σ H Q q)
noncomputable def setI (i : Nat) (d : D) (δ : DSt) : Res DSt := .ok (δ.set i (some (.d d)))
theorem Cz2Y (i : Nat) {x : Str} (hN : X.N.Nodup) (hi : autoParam (X.N[i]? = some x) slim0._auto_1) (hx : autoParam (Loc X.env.scope x) slim7._auto_1) (hf : autoParam (X.fn x = true ∨ X.env.scope.names.lookup x = some .local) slim5._auto_1) :
    DG X (.Name x pos) (setI i) := PG.weak (Cz0R hN hi hx hf) fun v σ H Q ⟨W₀, H₀, W, δ, d, st, hv, q⟩ => q _ (st.set hv)
noncomputable def tDGs (K : PySem.W.Frag) (t : List D → DSt → Res DSt) : TGs := fun vs σ H Q => ∃ W₀ H₀ W δ ds, StHas K W₀ H₀ W H σ δ ∧ HasL K W H ds vs ∧ match t ds δ with
  | .ok δ' => ∀ σ', StHas K W₀ H₀ W H σ' δ' → Q σ' H
  | _ => False
noncomputable def DGs (X : Cx) (tgs : List Expr) (t : List D → DSt → Res DSt) : Prop := PGs X tgs (tDGs X.K t)
theorem PGs.weak {X : Cx} {tg : List Expr} {t t' : TGs} (h : PGs X tg t) (k : ∀ v σ H Q, t' v σ H Q → t v σ H Q) : PGs X tg t' := fun pins s σ H v u Q I r q => h pins s σ H v u Q I r (k v σ H Q q)
noncomputable def unNil (ds : List D) (δ : DSt) : Res DSt := match ds with
  | [] => .ok δ
  | _ => .stuck
noncomputable def unCons (t : D → DSt → Res DSt) (r : List D → DSt → Res DSt) (ds : List D) (δ : DSt) : Res DSt := match ds with
  | d :: ds => (t d δ).bind fun δ' => r ds δ'
  | [] => .stuck
variable {tg : Expr} {tgs : List Expr} {t : D → DSt → Res DSt} {ts : List D → DSt → Res DSt}
theorem Cz2X : DGs X [] unNil := PGs.weak Cz0Q fun vs σ H Q ⟨W₀, H₀, W, δ, ds, st, hv, q⟩ => by
  unfold unNil at q
  cases ds with
  | nil => rw [HasL] at hv; exact ⟨hv, q σ st⟩
  | cons => exact q.elim
theorem Bz9D (h1 : DG X tg t) (h2 : DGs X tgs ts) (hs : autoParam ((assignEach (tg :: tgs) X.env).map (·.2) = assign tg X.env :: (assignEach tgs X.env).map (·.2)) slim0._auto_1) : DGs X (tg :: tgs) (unCons t ts) :=
  PGs.weak (Bz7Y h1 h2 hs) fun vs σ H Q ⟨W₀, H₀, W, δ, ds, st, hv, q⟩ => by
    unfold unCons at q
    cases ds with
    | nil => exact q.elim
    | cons d ds =>
      rw [HasL] at hv
      obtain ⟨x, r, e, h, hr⟩ := hv
      refine ⟨x, r, e, W₀, H₀, W, δ, d, st, h, ?_⟩
      dsimp only at q
      cases h1 : t d δ with
      | stuck => rw [h1] at q; exact q
      | ex c fs => rw [h1] at q; exact q
      | ok δ' =>
        rw [h1] at q
        exact fun σ' st' => ⟨W₀, H₀, W, δ', ds, st', hr, q⟩
noncomputable def unTup (n : Nat) (ts : List D → DSt → Res DSt) (d : D) (δ : DSt) : Res DSt := match d with
  | .tup ds => if ds.length = n then ts ds δ else .stuck
  | _ => .stuck
theorem dg_tup {k : Nat} {n : Nat} (hc : X.calm = true) (h : DGs X tgs ts) (hn : autoParam ((assignEach tgs X.env).length = n) slim0._auto_1) (hst : autoParam ((assignEach tgs X.env).findIdx? (·.1) = none) slim0._auto_1) : DG X (.Tuple tgs k pos) (unTup n ts) :=
  PG.weak (pg_tup hc h hn hst) fun v σ H Q ⟨W₀, H₀, W, δ, d, st, hv, q⟩ => by
    unfold unTup at q
    cases d with
    | tup ds =>
      dsimp only at q
      split at q
      · rename_i hl
        split at hl
        · rename_i hl'
          rw [Has] at hv
          obtain ⟨a, xs, e, sq, r⟩ := hv
          refine ⟨a, xs, e, sq, by rw [← r.length]; exact hl', W₀, H₀, W, δ, ds, st, r, ?_⟩
          rw [hl]
          exact q
        · cases hl
      · exact q.elim
    | _ => exact q.elim
theorem ds_asg (he : DE X xw e f) (hg : DG X tg t) (hs : autoParam (swapsWithSole [tg] e pos.line X.env = pure false) slim0._auto_1) (hw : autoParam (swappedStores [tg] e X.env = pure none) slim0._auto_1)
    (h1 : autoParam ((assignEach [tg] X.env).map (·.2) = [assign tg X.env]) slim0._auto_1) : DS X xw (.Assign [tg] e pos) (fun δ => ofR (f δ) fun d => match t d δ with | .ok δ' => .nx δ' | _ => .stuck) :=
  PS.weak (ps_asg he hg hs hw h1) fun Dn σ H ⟨W₀, H₀, W, δ, st, q⟩ => Az4T st q fun H2 d v st2 hv q2 => by
    refine ⟨W₀, H₀, W, δ, d, st2, hv, ?_⟩
    split at q2
    · exact fun σ' st' => q2 W H2 σ' Step.refl st'
    · exact q2.elim
noncomputable def ItOk (K : PySem.W.Frag) (W : WS) (H : Hp) (J : It) (ds : List D) : Prop := ∀ W' H2, Step W H W' H2 → WL W' H2 →
  (∀ i d, ds[i]? = some d → J.go i H2 ∧ ∀ x H3, J.yld i H2 x H3 → Same H2 H3 ∧ Has K W' H3 d x) ∧ J.stop ds.length H2
noncomputable def tDI (K : PySem.W.Frag) (xw : XW) (f : DSt → Res (List D)) : TI := fun σ H R => ∃ W₀ H₀ W δ, StHas K W₀ H₀ W H σ δ ∧ match f δ with
  | .ok ds => ∀ J H', Same H H' → ItOk K W H' J ds → R J H'
  | .ex c fs => ∀ H', Same H H' → xw c fs H'
  | .stuck => False
noncomputable def DI (X : Cx) (xw : XW) (tg iter : Expr) (f : DSt → Res (List D)) : Prop := PI X tg iter (tDI X.K xw f)
theorem PI.weak {X : Cx} {tg iter : Expr} {t t' : TI} (h : PI X tg iter t) (k : ∀ σ H R, t' σ H R → t σ H R) : PI X tg iter t' := fun pins s σ H R I q => h pins s σ H R I (k σ H R q)
theorem SqL.lr {K : PySem.W.Frag} {W W' : WS} {H H2 : Hp} {a : Addr} {xs : List V} (h : LR K W H a xs) (k : Step W H W' H2) (w : WL W H) : LR K W' H2 a xs := h.keep k.keep w k.new
theorem itl_ok {K : PySem.W.Frag} {W : WS} {H : Hp} {a : Addr} {xs : List V} {ds : List D} (w : WL W H) (h : LR K W H a xs) (r : HasL K W H ds xs) : ItOk K W H (Itl K a) ds := by
  intro W' H2 k w2
  have h2 := (SqL.lr h k w).sq
  refine ⟨fun i d e => ?_, xs, h2, by rw [r.length]; exact Nat.le_refl _⟩
  obtain ⟨x, e1, hx⟩ := r.get e
  refine ⟨⟨xs, x, h2, e1⟩, fun y H3 z => ?_⟩
  obtain ⟨rfl, z⟩ := z
  have : y = x := by
    have q := z xs h2
    rw [e1] at q; exact (Option.some.inj q).symm
  subst this
  exact ⟨Same.refl _, Has.keep k.keep w k.new hx⟩
theorem itt_ok {K : PySem.W.Frag} {W : WS} {H : Hp} {a : Addr} {xs : List V} {ds : List D} (w : WL W H) (h : SqT K H a xs) (r : HasL K W H ds xs) : ItOk K W H (Itt K a) ds := by
  intro W' H2 k w2
  have h2 := Az8S k.keep w h
  refine ⟨fun i d e => ?_, xs, h2, by rw [r.length]; exact Nat.le_refl _⟩
  obtain ⟨x, e1, hx⟩ := r.get e
  refine ⟨⟨xs, x, h2, e1⟩, fun y H3 z => ?_⟩
  obtain ⟨rfl, z⟩ := z
  have : y = x := by
    have q := z xs h2
    rw [e1] at q; exact (Option.some.inj q).symm
  subst this
  exact ⟨Same.refl _, Has.keep k.keep w k.new hx⟩
noncomputable def rngD (lo : Int) (n : Nat) : List D := (List.range n).map fun (i : Nat) => D.int (lo + i)
theorem itr_ok {K : PySem.W.Frag} {W : WS} {H : Hp} (lo : Int) (n : Nat) : ItOk K W H (Itr lo n) (rngD lo n) := by
  intro W' H2 k w2
  unfold rngD
  refine ⟨fun i d e => ?_, by simp [Itr]⟩
  rw [List.getElem?_map] at e
  have hi : i < n := by
    refine Nat.lt_of_not_le fun z => ?_
    rw [List.getElem?_eq_none (by simpa using z)] at e; cases e
  rw [List.getElem?_range hi] at e
  have e' : D.int (lo + (i : Nat)) = d := Option.some.inj e
  subst e'
  refine ⟨hi, fun x H3 z => ?_⟩
  obtain ⟨rfl, rfl⟩ := z
  exact ⟨Same.refl _, by rw [Has]⟩
noncomputable def rng1R (ds : List D) : Res (List D) := match ds with
  | [.int j] => @ite (Res (List D)) (-(2 ^ 62) ≤ j ∧ j < 2 ^ 62) (Classical.propDecidable _) (.ok (rngD 0 j.toNat)) .stuck
  | _ => .stuck
theorem HasL.one {K : PySem.W.Frag} {W : WS} {H : Hp} {i : Int} {vs : List V} (h : HasL K W H [.int i] vs) : vs = [.int i] := by
  rw [HasL] at h
  obtain ⟨x, r, rfl, h1, h2⟩ := h
  rw [HasL] at h2
  rw [Has] at h1
  rw [h1, h2]
theorem HasL.two {K : PySem.W.Frag} {W : WS} {H : Hp} {i j : Int} {vs : List V} (h : HasL K W H [.int i, .int j] vs) : vs = [.int i, .int j] := by
  rw [HasL] at h
  obtain ⟨x, r, rfl, h1, h2⟩ := h
  rw [Has] at h1
  rw [h1, h2.one]
variable {a b : Expr} {fs : DSt → Res (List D)} {p : Pos}
theorem Bz6F (hm : X.mg "range" = none) (ha : DA X xw [a] fs) (hg : autoParam (Gl X "range") slim0._auto_1) (hs : autoParam (starEach [a] X.env = [(false, eval a X.env)]) slim0._auto_1) : DI X xw tg (.Call (.Name "range" p) [a] [] pos) (fun δ => (fs δ).bind rng1R) :=
  PI.weak (Bz5G hg hm ha hs) fun σ H R ⟨W₀, H₀, W, δ, st, q⟩ => by
    refine ⟨W₀, H₀, W, δ, st, ?_⟩
    dsimp only at q
    cases h1 : fs δ with
    | stuck => rw [h1] at q; exact q
    | ex c fs => rw [h1] at q; exact q
    | ok ds =>
      rw [h1] at q
      intro vs H1 k1 hv
      dsimp only [Res.bind] at q
      unfold rng1R at q
      split at q
      · rename_i ds' hq
        split at hq
        · rename_i j
          split at hq
          · rename_i hj
            have e' : rngD 0 j.toNat = ds' := by cases hq; rfl
            subst e'
            exact ⟨j, hv.one, hj.1, hj.2, q _ H1 k1 (itr_ok 0 _)⟩
          · cases hq
        · cases hq
      · rename_i hq
        split at hq
        · split at hq <;> cases hq
        · cases hq
      · exact q.elim
noncomputable def forD (t : D → DSt → Res DSt) (body : DSt → Out) : List D → DSt → Out
  | [], δ => .nx δ
  | d :: ds, δ => match t d δ with
    | .ok δ' => match body δ' with
      | .nx δ2 => forD t body ds δ2
      | .ct δ2 => forD t body ds δ2
      | .bk δ2 => .nx δ2
      | .rt d => .rt d
      | .ex c fs => .ex c fs
      | .stuck => .stuck
    | _ => .stuck
theorem ds_for {iter : Expr} {fi : DSt → Res (List D)} (hp : PassesOwn (model X.prog X.w) X.A X.env X.xe) (hc : X.calm = true) (hi : DI X xw tg iter fi) (hg : DG X tg t) (hb : DSs X xw sts g)
    (hs : autoParam (∀ x, foldedSetIterable iter X.env x = pure x) slim2._auto_1) : DS X xw (.For tg iter sts [] pos) (fun δ => ofR (fi δ) fun ds => forD t g ds δ) :=
  PS.weak (ps_for hp hc hi hg hb hs) fun Dn σ H ⟨W₀, H₀, W, δ, st, q⟩ => by
    refine ⟨W₀, H₀, W, δ, st, ?_⟩
    dsimp only at q
    cases h1 : fi δ with
    | stuck => rw [h1] at q; exact q
    | ex c fs => rw [h1] at q; exact fun H' k' => q H' (st.fr.ext.trans k')
    | ok ds =>
      rw [h1] at q
      intro J H1 k1 it
      have q1 : RS X.K xw W₀ H₀ W H1 (forD t g ds δ) Dn := RS.step (o := forD t g ds δ) q (Step.same k1)
      refine ⟨fun i m σ' H' => ∃ W' δ', m = ds.length - i ∧ i ≤ ds.length ∧ StHas X.K W₀ H₀ W' H' σ' δ' ∧ Step W H1 W' H' ∧ RS X.K xw W₀ H₀ W' H' (forD t g (ds.drop i) δ') Dn,
        ⟨_, W, δ, rfl, Nat.zero_le _, st.same k1, Step.refl, q1⟩, ?_⟩
      rintro i m σ' H' ⟨W', δ', rfl, hi, st', k', q'⟩
      obtain ⟨items, stop⟩ := it W' H' k' st'.fr.wl
      by_cases hl : i < ds.length
      · right
        have e : ds[i]? = some ds[i] := List.getElem?_eq_getElem hl
        obtain ⟨go, yld⟩ := items i _ e
        have ed : ds.drop i = ds[i] :: ds.drop (i + 1) := List.drop_eq_getElem_cons hl
        rw [ed] at q'
        unfold forD at q'
        refine ⟨go, fun σ2 H2 => ∃ W2 δ2, StHas X.K W₀ H₀ W2 H2 σ2 δ2 ∧ Step W H1 W2 H2 ∧ RS X.K xw W₀ H₀ W2 H2 (forD t g (ds.drop (i + 1)) δ2) Dn, fun σ2 H2 ⟨W2, δ2, a1, a2, a3⟩ => ⟨ds.length - (i + 1), by omega, W2, δ2, rfl, hl, a1, a2, a3⟩, fun x H3 z => ?_⟩
        obtain ⟨k3, hx⟩ := yld x H3 z
        refine ⟨W₀, H₀, W', δ', ds[i], st'.same k3, hx, ?_⟩
        cases h2 : t ds[i] δ' with
        | stuck => rw [h2] at q'; exact q'
        | ex c fs => rw [h2] at q'; exact q'
        | ok δ2 =>
          rw [h2] at q'
          intro σ2 st2
          refine ⟨W₀, H₀, W', δ2, st2, ?_⟩
          dsimp only at q'
          have kk : Step W' H' W' H3 := Step.same k3
          cases h3 : g δ2 with
          | nx δ3 => rw [h3] at q'; exact fun W3 H4 σ3 k4 st3 => ⟨W3, δ3, st3, (k'.trans kk).trans k4, RS.step (o := forD t g (ds.drop (i + 1)) δ3) q' (kk.trans k4)⟩
          | ct δ3 => rw [h3] at q'; exact fun W3 H4 σ3 k4 st3 => ⟨W3, δ3, st3, (k'.trans kk).trans k4, RS.step (o := forD t g (ds.drop (i + 1)) δ3) q' (kk.trans k4)⟩
          | bk δ3 => rw [h3] at q'; exact fun W3 H4 σ3 k4 st3 => q' W3 H4 σ3 (kk.trans k4) st3
          | rt d => rw [h3] at q'; exact q'
          | ex c fs => rw [h3] at q'; exact q'
          | stuck => rw [h3] at q'; exact q'
      · left
        have ei : i = ds.length := by omega
        subst ei
        rw [List.drop_length] at q'
        exact ⟨stop, q' W' H' σ' Step.refl st'⟩
noncomputable def whileD (c : DSt → Res Bool) (body : DSt → Out) : Nat → DSt → Out
  | 0, _ => .stuck
  | n + 1, δ => match c δ with
    | .ok true => match body δ with
      | .nx δ2 => whileD c body n δ2
      | .ct δ2 => whileD c body n δ2
      | .bk δ2 => .nx δ2
      | .rt d => .rt d
      | .ex c fs => .ex c fs
      | .stuck => .stuck
    | .ok false => .nx δ
    | .ex c fs => .ex c fs
    | .stuck => .stuck
theorem Bz8Z (n : Nat) (hp : PassesOwn (model X.prog X.w) X.A X.env X.xe) (hc : DT X xw c ga) (hb : DSs X xw sts g) : DS X xw (.While c sts [] pos) (fun δ => whileD ga g n δ) :=
  PS.weak (Bz7W hp hc hb) fun Dn σ H ⟨W₀, H₀, W, δ, st, q⟩ => by
    refine ⟨fun m σ' H' => ∃ W' δ', StHas X.K W₀ H₀ W' H' σ' δ' ∧ RS X.K xw W₀ H₀ W' H' (whileD ga g m δ') Dn, ⟨n, W, δ, st, q⟩, ?_⟩
    rintro m σ' H' ⟨W', δ', st', q'⟩
    cases m with
    | zero => exact q'.elim
    | succ m =>
      unfold whileD at q'
      refine ⟨W₀, H₀, W', δ', st', ?_⟩
      cases h1 : ga δ' with
      | stuck => rw [h1] at q'; exact q'
      | ex c fs => rw [h1] at q'; exact fun H2 k2 => q' H2 (st'.fr.ext.trans k2)
      | ok k =>
        rw [h1] at q'
        intro H2 k2
        cases k with
        | false => rw [if_neg Bool.false_ne_true]; exact q' W' H2 σ' (Step.same k2) (st'.same k2)
        | true =>
          rw [if_pos rfl]
          refine ⟨fun σ3 H3 => ∃ W3 δ3, StHas X.K W₀ H₀ W3 H3 σ3 δ3 ∧ RS X.K xw W₀ H₀ W3 H3 (whileD ga g m δ3) Dn, fun σ3 H3 z => ⟨m, Nat.lt_succ_self m, z⟩, W₀, H₀, W', δ', st'.same k2, ?_⟩
          dsimp only at q'
          have kk : Step W' H' W' H2 := Step.same k2
          cases h3 : g δ' with
          | nx δ3 => rw [h3] at q'; exact fun W3 H4 σ3 k4 st3 => ⟨W3, δ3, st3, RS.step (o := whileD ga g m δ3) q' (kk.trans k4)⟩
          | ct δ3 => rw [h3] at q'; exact fun W3 H4 σ3 k4 st3 => ⟨W3, δ3, st3, RS.step (o := whileD ga g m δ3) q' (kk.trans k4)⟩
          | bk δ3 => rw [h3] at q'; exact fun W3 H4 σ3 k4 st3 => q' W3 H4 σ3 (kk.trans k4) st3
          | rt d => rw [h3] at q'; exact q'
          | ex c fs => rw [h3] at q'; exact q'
          | stuck => rw [h3] at q'; exact q'
end
end L3
namespace L3
open PySem PySem.Spec PyProof.Rows L2 SeqAt
noncomputable def noex {α : Type} : Res α → Res α
  | .ok a => .ok a
  | _ => .stuck
noncomputable def compD (t : D → DSt → Res DSt) (c : DSt → Res Bool) (fe : DSt → Res D) : List D → DSt → Res (List D)
  | [], _ => .ok []
  | d :: ds, δ => match t d δ with
    | .ok δ' => (noex (c δ')).bind fun k => if k = true then (noex (fe δ')).bind fun x => (compD t c fe ds δ').bind fun r => .ok (x :: r) else compD t c fe ds δ'
    | _ => .stuck
noncomputable abbrev xwF : XW := fun _ _ _ => False
section
variable {K : PySem.W.Frag} {W₀ W : WS} {H₀ H : Hp} {σ : L2.St} {δ : DSt} {a : Addr}
theorem StHas.acc {xs ys : List V} (h : StHas K W₀ (upd H₀ a (.lst xs)) W H σ δ) (ha : H a = some (.lst xs)) (hW : W a) : StHas K W₀ (upd H₀ a (.lst ys)) W (upd H a (.lst ys)) σ δ := by
  have kk : Keep W H (upd H a (.lst ys)) := fun b o e n => by
    rw [upd_ne (fun z => n (by rw [z]; exact hW))]; exact e
  have hw : ∀ b, W b → W b ∨ H b = none := fun b z => .inl z
  have fr' : FrOk W₀ (upd H₀ a (.lst ys)) W (upd H a (.lst ys)) := by
    refine ⟨fun b o e => ?_, h.fr.sub, fun b z => ?_, fun b z => ?_⟩
    · by_cases hb : b = a
      · subst hb; rw [Az0H] at e ⊢; exact e
      · rw [upd_ne hb] at e ⊢
        exact h.fr.ext b o (by rw [upd_ne hb]; exact e)
    · by_cases hb : b = a
      · rw [hb]; exact ⟨_, Az0H, trivial⟩
      · rw [upd_ne hb]; exact h.fr.wl b z
    · by_cases hb : b = a
      · rw [hb]; exact ⟨_, Az0H, trivial⟩
      · have := h.fr.wl0 b z
        rw [upd_ne hb] at this ⊢; exact this
  refine ⟨fr', h.len, fun j s e => ?_, h.ap⟩
  obtain ⟨v, h1, h2⟩ := h.at' j s e
  refine ⟨v, h1, ?_⟩
  cases s with
  | d x => exact Has.keep kk h.fr.wl hw h2
  | o ds' =>
    obtain ⟨b, zs, e', g1, g2, g3, g4⟩ := h2
    have hb : b ≠ a := fun z => by
      rw [z, Az0H] at g2; cases g2
    rw [upd_ne hb] at g2
    exact ⟨b, zs, e', g1, by rw [upd_ne hb]; exact g2, by rw [upd_ne hb]; exact g3, HasL.keep kk h.fr.wl hw g4⟩
  | q ks' ds' =>
    obtain ⟨b, zs, e', g1, g2, g3, g4, g5⟩ := h2
    have hb : b ≠ a := fun z => by
      rw [z, Az0H] at g2; cases g2
    rw [upd_ne hb] at g2
    exact ⟨b, zs, e', g1, by rw [upd_ne hb]; exact g2, by rw [upd_ne hb]; exact g3, g4, HasL.keep kk h.fr.wl hw g5⟩
theorem StHas.block (n : Nat) (h : StHas K W₀ H₀ W H σ δ) (ha : H a = none) : StHas K W₀ (upd H₀ a (.lst [])) (fun b => W b ∨ b = a) (upd H a (.lst [])) (List.replicate n none ++ σ) (List.replicate n none ++ δ) := by
  have hw : ∀ b, (W b ∨ b = a) → W b ∨ H b = none := fun b z => z.elim .inl fun z => .inr (by rw [z]; exact ha)
  have k : Same H (upd H a (.lst [])) := Az1V ha
  have kk : Keep W H (upd H a (.lst [])) := Same.keep k
  have ha0 : H₀ a = none := Same.free h.fr.ext ha
  have fr' : FrOk W₀ (upd H₀ a (.lst [])) (fun b => W b ∨ b = a) (upd H a (.lst [])) := by
    refine ⟨fun b o e => ?_, fun b z => .inl (h.fr.sub b z), fun b z => z.elim (h.fr.wl.same k b) fun z => by rw [z]; exact ⟨_, Az0H, trivial⟩, h.fr.wl0.same (Az1V ha0)⟩
    by_cases hb : b = a
    · subst hb; rw [Az0H] at e ⊢; exact e
    · rw [upd_ne hb] at e ⊢
      exact h.fr.ext b o e
  have idx : ∀ {α : Type} (l : List (Option α)) (j : Nat) (x : α), (List.replicate n none ++ l)[j]? = some (some x) → n ≤ j ∧ l[j - n]? = some (some x) := fun l j x e => by
    by_cases hj : j < n
    · rw [List.getElem?_append_left (by simpa using hj), List.getElem?_replicate] at e
      split at e <;> cases e
    · refine ⟨Nat.le_of_not_lt hj, ?_⟩
      rw [List.getElem?_append_right (by simpa using hj), List.length_replicate] at e; exact e
  have back : ∀ {α : Type} (l : List (Option α)) (j : Nat) (x : Option α), n ≤ j → l[j - n]? = some x → (List.replicate n none ++ l)[j]? = some x := fun l j x hj e => by
    rw [List.getElem?_append_right (by simpa using hj), List.length_replicate]; exact e
  refine ⟨fr', by simp [h.len], fun j s e => ?_, fun i j s1 s2 b hij os ot e1 e2 e3 e4 => ?_⟩
  · obtain ⟨hj, e⟩ := idx _ _ _ e
    obtain ⟨v, h1, h2⟩ := h.at' _ s e
    refine ⟨v, back _ _ _ hj h1, ?_⟩
    cases s with
    | d x => exact Has.keep kk h.fr.wl hw h2
    | o ds' =>
      obtain ⟨b, ys, e', g1, g2, g3, g4⟩ := h2
      have hb : b ≠ a := Az0D g3 ha
      exact ⟨b, ys, e', .inl g1, by rw [upd_ne hb]; exact g2, k _ _ g3, HasL.keep kk h.fr.wl hw g4⟩
    | q ks' ds' =>
      obtain ⟨b, ys, e', g1, g2, g3, g4, g5⟩ := h2
      have hb : b ≠ a := Az0D g3 ha
      exact ⟨b, ys, e', .inl g1, by rw [upd_ne hb]; exact g2, k _ _ g3, g4, HasL.keep kk h.fr.wl hw g5⟩
  · obtain ⟨hi, e1⟩ := idx _ _ _ e1
    obtain ⟨hj, e2⟩ := idx _ _ _ e2
    obtain ⟨_, e3⟩ := idx _ _ _ e3
    obtain ⟨_, e4⟩ := idx _ _ _ e4
    exact h.ap (i - n) (j - n) s1 s2 b (by omega) os ot e1 e2 e3 e4
end
section
variable {X : Cx} {xw : XW} {scope : Scope} {elt tg iter e : Expr} {ifs : List Expr} {pos : Pos} {fi : DSt → Res (List D)} {t : D → DSt → Res DSt} {gc : DSt → Res Bool} {fe f : DSt → Res D}
noncomputable def compR (n : Nat) (t : D → DSt → Res DSt) (gc : DSt → Res Bool) (fe : DSt → Res D) (δ : DSt) (ds : List D) : Res (List D) := @ite (Res (List D)) (ds.length ≤ 100000) (Classical.propDecidable _) (noex (compD t gc fe ds (List.replicate n none ++ δ))) .stuck
noncomputable def DTs (X : Cx) (ifs : List Expr) (g : DSt → Res Bool) : Prop := PTs X ifs (tDT X.K xwF g)
theorem Cz2N : DTs X [] (fun _ => .ok true) := fun pins s σ H Q I ⟨_, _, _, _, _, q⟩ => Cz0M pins s σ H Q I (q H (Same.refl H))
theorem Cz2M {c : Expr} (h : DT X xwF c gc) : DTs X [c] gc := Cz0L h
theorem Bz0O {Nc : Nat} {σ : L2.St} {H : Hp} {Q : VK} (q : tDF X.K xw (fun δ => (fi δ).bind fun ds => compR Nc t gc fe δ ds) σ H Q) :
    tComp Nc (tDI X.K xw fi) (tDG X.K t) (tDT X.K xwF gc) (tDE X.K xwF fe) σ H Q := by
  obtain ⟨W₀, H₀, W, δ, st, q⟩ := q
  refine ⟨W₀, H₀, W, δ, st, ?_⟩
  dsimp only at q
  cases h1 : fi δ with
  | stuck => rw [h1] at q; exact q
  | ex c fs => rw [h1] at q; exact q
  | ok ds =>
    rw [h1] at q
    intro J H1 k1 it a ha
    have q1 : RF X.K xw W H (compR Nc t gc fe δ ds) Q := q
    unfold compR at q1
    split at q1
    case isFalse => exact q1.elim
    rename_i hlen
    have st1 := st.same k1
    cases hc : compD t gc fe ds (List.replicate Nc none ++ δ) with
    | stuck => rw [hc] at q1; exact q1.elim
    | ex c fs => rw [hc] at q1; exact q1.elim
    | ok all =>
    rw [hc] at q1
    have q2 : ∀ a xs H1, Same H H1 → H1 a = none → HasL X.K W H1 all xs → Q (.ref a) (upd H1 a (.lst xs)) := q1
    refine ⟨fun i m xs σ' H' => ∃ δ' acc rest, m = ds.length - i ∧ i ≤ ds.length ∧ StHas X.K W₀ (upd H₀ a (.lst xs)) (fun b => W b ∨ b = a) H' σ' δ' ∧ H' a = some (.lst xs) ∧ (∀ b o, H1 b = some o → H' b = some o) ∧
        HasL X.K (fun b => W b ∨ b = a) H' acc xs ∧ compD t gc fe (ds.drop i) δ' = .ok rest ∧ acc ++ rest = all ∧ xs.length ≤ i,
      ⟨_, List.replicate Nc none ++ δ, [], all, rfl, Nat.zero_le _, st1.block Nc ha, Az0H, fun b o e => by rw [upd_ne (Az0D e ha)]; exact e, HasL.nil, hc, rfl, Nat.zero_le _⟩, ?_⟩
    rintro i m xs σ' H' ⟨δ', acc, rest, rfl, hi, st', hxs, ks, hacc, hrest, hall, hxl⟩
    refine ⟨hxs, ?_⟩
    have k' : Step W H1 (fun b => W b ∨ b = a) H' := ⟨fun b o e _ => ks b o e, fun b z => z.elim .inl fun z => .inr (by rw [z]; exact ha)⟩
    obtain ⟨items, stop⟩ := it _ H' k' st'.fr.wl
    by_cases hl : i < ds.length
    · right
      have e : ds[i]? = some ds[i] := List.getElem?_eq_getElem hl
      obtain ⟨go, yld⟩ := items i _ e
      have ed : ds.drop i = ds[i] :: ds.drop (i + 1) := List.drop_eq_getElem_cons hl
      rw [ed] at hrest
      unfold compD at hrest
      refine ⟨go, fun x H3 z => ?_⟩
      obtain ⟨k3, hx⟩ := yld x H3 z
      refine ⟨W₀, _, _, δ', ds[i], st'.same k3, hx, ?_⟩
      cases h2 : t ds[i] δ' with
      | stuck => rw [h2] at hrest; cases hrest
      | ex c fs => rw [h2] at hrest; cases hrest
      | ok δ2 =>
        rw [h2] at hrest
        dsimp only at hrest
        intro σ2 st2
        refine ⟨W₀, _, _, δ2, st2, ?_⟩
        cases h3 : gc δ2 with
        | stuck => rw [h3] at hrest; cases hrest
        | ex c fs => rw [h3] at hrest; cases hrest
        | ok k =>
          rw [h3] at hrest
          intro H4 k4
          cases k with
          | false =>
            rw [if_neg Bool.false_ne_true]
            have hr' : compD t gc fe (ds.drop (i + 1)) δ2 = .ok rest := hrest
            exact ⟨ds.length - (i + 1), by omega, δ2, acc, rest, rfl, hl, st2.same k4, k4 _ _ (k3 _ _ hxs), fun b o e => k4 _ _ (k3 _ _ (ks b o e)), (hacc.same k3 st'.fr.wl).same k4 (st'.fr.wl.same k3), hr', hall, by omega⟩
          | true =>
            rw [if_pos rfl]
            have hr' : (noex (fe δ2)).bind (fun x => (compD t gc fe (ds.drop (i + 1)) δ2).bind fun r => .ok (x :: r)) = .ok rest := hrest
            refine ⟨W₀, _, _, δ2, st2.same k4, ?_⟩
            cases h5 : fe δ2 with
            | stuck => rw [h5] at hr'; cases hr'
            | ex c fs => rw [h5] at hr'; cases hr'
            | ok y =>
              rw [h5] at hr'
              intro v H5 k5 hv
              have hr2 : (compD t gc fe (ds.drop (i + 1)) δ2).bind (fun r => .ok (y :: r)) = .ok rest := hr'
              cases h6 : compD t gc fe (ds.drop (i + 1)) δ2 with
              | stuck => rw [h6] at hr2; cases hr2
              | ex c fs => rw [h6] at hr2; cases hr2
              | ok r =>
                rw [h6] at hr2
                have er : y :: r = rest := by cases hr2; rfl
                have h5a : H5 a = some (.lst xs) := k5 _ _ (k4 _ _ (k3 _ _ hxs))
                have w3 := st'.fr.wl.same k3
                have w4 := w3.same k4
                have w5 := w4.same k5
                have acc5 := ((hacc.same k3 st'.fr.wl).same k4 w3).same k5 w4
                have kk : Keep (fun b => W b ∨ b = a) H5 (upd H5 a (.lst (xs ++ [v]))) := fun b o e n => by
                  rw [upd_ne (fun z => n (.inr z))]; exact e
                have sz : sizeLine = 16777216 := sizeLine_eq
                refine ⟨h5a, by omega, ds.length - (i + 1), by omega, δ2, acc ++ [y], r, rfl, hl, ((st2.same k4).same k5).acc h5a (.inr rfl), Az0H, fun b o e => ?_, HasL.keep kk w5 (fun b z => .inl z) (acc5.snoc hv), h6, ?_, ?_⟩
                · rw [upd_ne (Az0D e ha)]; exact k5 _ _ (k4 _ _ (k3 _ _ (ks b o e)))
                · rw [List.append_assoc]; show acc ++ (y :: r) = all; rw [er]; exact hall
                · rw [List.length_append, List.length_singleton]; omega
    · left
      have ei : i = ds.length := by omega
      subst ei
      rw [List.drop_length] at hrest
      unfold compD at hrest
      have er : rest = [] := by cases hrest; rfl
      subst er
      rw [List.append_nil] at hall
      subst hall
      refine ⟨stop, ?_⟩
      have hm : (fun b => if b = a then none else H' b : Hp) a = none := if_pos rfl
      have eu : upd (fun b => if b = a then none else H' b : Hp) a (.lst xs) = H' := by
        funext b
        by_cases hb : b = a
        · rw [hb, Az0H, hxs]
        · rw [upd_ne hb, if_neg hb]
      have r := q2 a xs (fun b => if b = a then none else H' b) (fun b o e => by
        have e1 := k1 b o e
        show (if b = a then none else H' b) = some o
        rw [if_neg (Az0D e1 ha)]; exact ks b o e1) hm (HasL.keep (W := fun b => W b ∨ b = a) (W' := W) (fun b o e n => by show (if b = a then none else H' b) = some o; rw [if_neg (fun z => n (.inr z))]; exact e) st'.fr.wl (fun b z => .inl (.inl z)) hacc)
      rw [eu] at r
      exact r
theorem Cz2Z (Nc Nx : List Str) (c : CompOk X scope Nc Nx) (hcalm : X.calm = true) (hi : DI X xw tg iter fi)
    (hY : ∀ (C : Addr) (fp : List Addr) (pins : List (Addr × Obj)) (s : Shared) (H : Hp), DG (compCx X scope Nc Nx C fp pins s H) tg t ∧ DTs (compCx X scope Nc Nx C fp pins s H) ifs gc ∧ DE (compCx X scope Nc Nx C fp pins s H) xwF elt fe)
    (hs : autoParam (∀ x, foldedSetIterable iter X.env x = pure x) slim2._auto_1) :
    DF X xw (.ListComp elt [⟨tg, iter, ifs, 0⟩] scope pos) (fun δ => (fi δ).bind fun ds => compR Nc.length t gc fe δ ds) :=
  PE.weak (Cz0W (g := tDG X.K t) (tt := tDT X.K xwF gc) (te := tDE X.K xwF fe) c hcalm hi hY hs) fun σ H Q q => Bz0O q
theorem Cz2R (i : Nat) {x : Str} {py : Pos} (hN : X.N.Nodup) (Nc Nx : List Str) (c : CompOk X scope Nc Nx) (hcalm : X.calm = true) (hi : DI X xw tg iter fi)
    (hY : ∀ (C : Addr) (fp : List Addr) (pins : List (Addr × Obj)) (s : Shared) (H : Hp), DG (compCx X scope Nc Nx C fp pins s H) tg t ∧ DTs (compCx X scope Nc Nx C fp pins s H) ifs gc ∧ DE (compCx X scope Nc Nx C fp pins s H) xwF elt fe)
    {spos : Pos} (hiN : autoParam (X.N[i]? = some x) slim0._auto_1) (hx : autoParam (Loc X.env.scope x) slim7._auto_1)
    (hsw : autoParam (swapsWith (.ListComp elt [⟨tg, iter, ifs, 0⟩] scope pos) (some (.Name x py)) spos.line X.env = pure true) slim0._auto_1)
    (hf : autoParam (X.fn x = true ∨ X.env.scope.names.lookup x = some .local) slim5._auto_1)
    (hs : autoParam (∀ x, foldedSetIterable iter X.env x = pure x) slim2._auto_1) :
    DS X xw (.Assign [.Name x py] (.ListComp elt [⟨tg, iter, ifs, 0⟩] scope pos) spos) (fun δ => ofR ((fi δ).bind fun ds => compR Nc.length t gc fe δ ds) fun ds => .nx (δ.set i (some (.o ds)))) :=
  PS.weak (Cz0N (g := tDG X.K t) (tt := tDT X.K xwF gc) (te := tDE X.K xwF fe) c hcalm hi hY hN hiN hx hsw hf hs) fun Dn σ H ⟨W₀, H₀, W, δ, st, q⟩ => Bz0O (Bz3B st q)
noncomputable def appO (i : Nat) (δ : DSt) (r : Res D) : Out := match δ[i]? with
  | some (some (.o ds)) => @ite Out (ds.length ≤ 100000) (Classical.propDecidable _) (ofR r fun d => .nx (δ.set i (some (.o (ds ++ [d]))))) .stuck
  | _ => .stuck
theorem Bz6E (i : Nat) {x : Str} {p1 p2 p3 : Pos} (he : DE X xw e f) (hN : autoParam (X.N[i]? = some x) slim0._auto_1) (hv : autoParam (Vis X.env.scope x) slim6._auto_1) (hd : autoParam ((x == ("__debug__" : Str)) = false) slim1._auto_1)
    (hcd : autoParam ((x == ("__classdict__" : Str)) = false) slim1._auto_1)
    (hsE : autoParam (starEach [e] X.env = (false, eval e X.env) :: starEach [] X.env) slim0._auto_1)
    (hbase : autoParam (attributeBase (.Name x p1) "append" X.env (eval (.Name x p1) X.env) = eval (.Name x p1) X.env) slim0._auto_1)
    (hfew : autoParam (((backTo p3 (starEach [e] X.env)).all (fun x => !x.1) && (backToKw p3 (keywordEach [] X.env)).all (fun x => x.1.isSome)
      && decide (([e] : List Expr).length + ([] : List Keyword).length + (if ([] : List Keyword).isEmpty then 0 else 1) < 30)) = true) slim0._auto_1)
    (hline : autoParam ((p2.endLine == p3.line) = true) slim0._auto_1) (hplain : autoParam ((backTo p3 (starEach [] X.env)).any (·.1) = false) slim0._auto_1)
    (hsw : autoParam (swapsWith (.Call (.Attribute (.Name x p1) "append" p2) [e] [] p3) none pos.line X.env = pure false) slim0._auto_1) :
    DS X xw (.Expr (.Call (.Attribute (.Name x p1) "append" p2) [e] [] p3) pos) (fun δ => appO i δ (f δ)) :=
  PS.weak (Bz6S (pe_bm PySem.F.plainAttrs_list PySem.F.slot_list_append PySem.F.type_list_append Az9W (pe_var hN hv hd hcd) (Az6I he pa_nil hsE) hbase hfew hline hsE hplain) hsw) fun Dn σ H ⟨W₀, H₀, W, δ, st, q⟩ => by
    unfold appO at q
    dsimp only at q
    split at q
    · rename_i ds h
      split at q
      · rename_i hlen
        obtain ⟨v, e1, a, xs, rfl, r2, r3, r4, r5⟩ := st.at' i _ h
        refine ⟨_, e1, .inl ⟨rfl, xs, .of r4⟩, ?_⟩
        refine Az4T st q fun H2 d u st2 hu q2 => ?_
        obtain ⟨v', e1', a', ys, e', r2', r3', r4', r5'⟩ := st2.at' i _ h
        rw [e1] at e1'
        cases e1'
        cases e'
        have sz : sizeLine = 16777216 := sizeLine_eq
        refine ⟨a, ys, u, rfl, rfl, r4', ?_, ?_⟩
        · rw [← r5'.length]; omega
        · refine q2 W _ σ ⟨fun b o e n => ?_, fun _ z => .inl z⟩ (st2.change h e1 r4' r2' (r5'.snoc hu))
          rw [upd_ne (fun z => n (by rw [z]; exact r2'))]; exact e
      · exact q.elim
    · exact q.elim
noncomputable def spD (K : PySem.W.Frag) (n : Nat) (m : List D → Res D) : Sp := fun vs H Q _ => vs.length = n ∧ ∃ W ds, WL W H ∧ HasL K W H ds vs ∧ match m ds with
  | .ok d => ∀ v H', Same H H' → Has K W H' d v → Q v H'
  | _ => False
structure Fn (P : Program) (w : World) (K : PySem.W.Frag) (mg : Str → Option Value) (base : Heap) (k : Nat) (x : Str) (n : Nat) (m : List D → Res D) : Prop where
  ex : ∃ f fd ps, FnOk P w K mg base CX0 k f fd ps (spD K n m) ∧ mg x = some (.ref f) ∧ PySem.W.keepIn K (.ref f) = true ∧ Binds K fd ps []
theorem Fn.mono {P : Program} {w : World} {K : PySem.W.Frag} {mg : Str → Option Value} {base : Heap} {j k n : Nat} {x : Str} {m : List D → Res D} (F : Fn P w K mg base j x n m) (h : j ≤ k) : Fn P w K mg base k x n m := by
  obtain ⟨f, fd, ps, a, b⟩ := F.ex
  exact ⟨f, fd, ps, a.mono h, b⟩
noncomputable def startD (n : Nat) (ds : List D) : DSt := ds.map (fun d => some (.d d)) ++ List.replicate (n - ds.length) none
noncomputable def runD (n : Nat) (g : DSt → Out) (ds : List D) : Res D := match g (startD n ds) with
  | .rt d => .ok d
  | .nx _ => .ok .non
  | _ => .stuck
theorem Az6X {K : PySem.W.Frag} {W : WS} {H : Hp} {N : List Str} {ds : List D} {vs : List V} (w : WL W H) (r : HasL K W H ds vs) : StHas K W H W H (L2.start N vs) (startD N.length ds) := by
  have hl := r.length
  have idx : ∀ {α : Type} (l : List α) (j : Nat) (x : α) (m : Nat), (l.map some ++ List.replicate m none)[j]? = some (some x) → l[j]? = some x := fun l j x m e => by
    by_cases hj : j < l.length
    · rw [List.getElem?_append_left (by simpa using hj), List.getElem?_map] at e
      cases q : l[j]? with
      | none => rw [q] at e; cases e
      | some z => rw [q] at e; cases e; rfl
    · rw [List.getElem?_append_right (by simpa using hj), List.getElem?_replicate] at e
      split at e <;> cases e
  have eS : startD N.length ds = (ds.map S.d).map some ++ List.replicate (N.length - ds.length) none := by
    unfold startD; rw [List.map_map]; rfl
  refine ⟨⟨Same.refl _, fun _ z => z, w, w⟩, ?_, fun i s e => ?_, fun i j s1 s2 a _ os ot e1 _ _ _ => ?_⟩
  · unfold L2.start startD; simp [hl]
  · rw [eS] at e
    have e' := idx _ _ _ _ e
    rw [List.getElem?_map] at e'
    cases q : ds[i]? with
    | none => rw [q] at e'; cases e'
    | some d =>
      rw [q] at e'
      cases e'
      obtain ⟨x, h1, h2⟩ := r.get q
      refine ⟨x, ?_, h2⟩
      unfold L2.start
      have hi : i < vs.length := (List.getElem?_eq_some_iff.mp h1).1
      rw [List.getElem?_append_left (by simpa using hi), List.getElem?_map, h1]; rfl
  · rw [eS] at e1
    have e' := idx _ _ _ _ e1
    rw [List.getElem?_map] at e'
    cases q : ds[i]? with
    | none => rw [q] at e'; cases e'
    | some d => rw [q] at e'; cases e'; exact os
theorem Cz2F {P : Program} {w : World} {K : PySem.W.Frag} {mg : Str → Option Value} {base : Heap} {k : Nat} {x qual : Str} {st : Stmt} {fa : Addr} {fd : FuncData} {N ps : List Str} {g : DSt → Out} (F : Fun K x qual st fa fd) (S : FnScope N ps (Az0A st))
    (hm : mg x = some (.ref fa)) (hb : Binds K fd ps [])
    (body : ∀ (cdv : Value) (A : Around) (outer : List Env) (s : Shared) (H : Hp) (E : XK), Room k (A.deeper (envOfC qual (Az0A st) s.heap.objs.size fa cdv)) →
      DSs (cxOf CX0 P w K mg base N qual (Az0A st) fa cdv A outer s H E).nox xwF (Az0J st) g) : Fn P w K mg base (k + 1) x ps.length (runD N.length g) := by
  refine ⟨fa, fd, ps, F.ok S (fun vs H Q E h => h.1) (fun cdv A outer s H vs Q E hr h => ?_), hm, F.kp, hb⟩
  obtain ⟨hl, W, ds, hw, hd, q⟩ := h
  refine ⟨_, body cdv A outer s H E hr, W, H, W, startD N.length ds, Az6X hw hd, ?_⟩
  unfold runD at q
  cases h : g (startD N.length ds) with
  | rt d => rw [h] at q; exact fun v H' k hv => q v H' k hv
  | nx δ => rw [h] at q; exact fun W' H' σ' k st' => q .non H' st'.fr.ext (by rw [Has])
  | bk δ => rw [h] at q; exact q.elim
  | ct δ => rw [h] at q; exact q.elim
  | ex c fs => rw [h] at q; exact q.elim
  | stuck => rw [h] at q; exact q.elim
noncomputable def callR (n : Nat) (m : List D → Res D) (ds : List D) : Res D := if ds.length = n then noex (m ds) else .stuck
theorem Cz3C {a : Expr} {es : List Expr} {k n : Nat} {x : Str} {m : List D → Res D} {fs : DSt → Res (List D)} {p : Pos} (F : Fn X.prog X.w X.K X.mg X.base k x n m) (hr : Room k X.A) (ha : DA X xw (a :: es) fs) (hg : autoParam (Gl X x) slim0._auto_1)
    (hdb : autoParam ((x == ("__debug__" : Str)) = false) slim1._auto_1) (he : autoParam (starEach (a :: es) X.env = (false, eval a X.env) :: starEach es X.env) slim0._auto_1) (hpl : autoParam ((backTo pos (starEach es X.env)).any (·.1) = false) slim0._auto_1) :
    DE X xw (.Call (.Name x p) (a :: es) [] pos) (fun δ => (fs δ).bind fun ds => callR n m ds) := by
  obtain ⟨fa, fd, ps, G, hm, hk, hb⟩ := F.ex
  refine PE.weak (Cz0X G hr hg hm hk hb .nil pass0 ha hdb he hpl) fun σ H Q ⟨W₀, H₀, W, δ, st, q⟩ => ?_
  refine Az5L st q fun H2 ds vs k w st2 hv _ q2 => ?_
  unfold callR at q2
  split at q2
  · rename_i hn
    rw [List.append_nil]
    refine ⟨by rw [← hv.length]; exact hn, W, ds, w, hv, ?_⟩
    cases h : m ds with
    | ok d => rw [h] at q2; exact q2
    | ex c fs => rw [h] at q2; exact q2
    | stuck => rw [h] at q2; exact q2
  · exact q2.elim
theorem Bz0M {a : Expr} {fa : DSt → Res D} {x : Str} {id : String} {r : List V → Hp → VK → Prop} {op : D → Res D} {p : Pos} (hc : CallR X (.builtin id) r) (hop : ∀ W H d v Q, WL W H → HasT X.K W H d v → RE X.K xw W H (op d) Q → r [v] H Q)
    (hm : X.mg x = none) (hv : bootBuiltins x = some (.builtin id)) (ha : DP X xw a fa) (hg : Gl X x) (hn : x ≠ "__name__") (hdb : (x == ("__debug__" : Str)) = false)
    (he : starEach [a] X.env = (false, eval a X.env) :: starEach [] X.env) (hpl : (backTo pos (starEach [] X.env)).any (·.1) = false) : DE X xw (.Call (.Name x p) [a] [] pos) (fun δ => (fa δ).bind op) :=
  PE.weak (Bz2S hc hg hm hv (Az6I ha pa_nil he) hn hdb he hpl) fun σ H Q ⟨W₀, H₀, W, δ, st, q⟩ => Az4Y st q fun H2 d v k w st2 hv _ q2 => hop W H2 d v Q w hv q2
theorem Bz0L {a : Expr} {fa : DSt → Res D} {x : Str} {id : String} {r : List V → Hp → VK → Prop} {op : D → Res D} {p : Pos} (hc : CallR X (.type id) r) (hop : ∀ W H d v Q, WL W H → HasT X.K W H d v → RE X.K xw W H (op d) Q → r [v] H Q)
    (hm : X.mg x = none) (hv : bootBuiltins x = some (.type id)) (ha : DP X xw a fa) (hg : Gl X x) (hn : x ≠ "__name__") (hdb : (x == ("__debug__" : Str)) = false)
    (he : starEach [a] X.env = (false, eval a X.env) :: starEach [] X.env) (hpl : (backTo pos (starEach [] X.env)).any (·.1) = false) : DE X xw (.Call (.Name x p) [a] [] pos) (fun δ => (fa δ).bind op) :=
  PE.weak (Az9S hc hg hm hv (Az6I ha pa_nil he) hn hdb he hpl) fun σ H Q ⟨W₀, H₀, W, δ, st, q⟩ => Az4Y st q fun H2 d v k w st2 hv _ q2 => hop W H2 d v Q w hv q2
noncomputable def lenR : D → Res D
  | .tup ds => .ok (.int ds.length)
  | .lst ds => .ok (.int ds.length)
  | .str z => @ite (Res D) (z.length ≤ sizeLine) (Classical.propDecidable _) (.ok (.int z.length)) .stuck
  | _ => .stuck
variable {a b : Expr} {fa fb : DSt → Res D} {p : Pos}
theorem de_len (hm : X.mg "len" = none) (ha : DP X xw a fa) (hg : autoParam (Gl X "len") slim0._auto_1) (he : autoParam (starEach [a] X.env = (false, eval a X.env) :: starEach [] X.env) slim0._auto_1) (hpl : autoParam ((backTo pos (starEach [] X.env)).any (·.1) = false) slim0._auto_1) :
    DE X xw (.Call (.Name "len" p) [a] [] pos) (fun δ => (fa δ).bind lenR) :=
  Bz0M Bz9L (fun W H d v Q w hv q => by
    unfold lenR at q
    split at q
    · obtain ⟨p, xs, e, sq, r⟩ := hv.tup
      rw [e]
      exact ⟨_, xs.length, rfl, .inr ⟨xs, sq, rfl⟩, by rw [← r.length]; exact q.int⟩
    · obtain ⟨p, xs, e, sq, r⟩ := hv.lst
      rw [e]
      exact ⟨_, xs.length, rfl, .inl ⟨xs, sq, rfl⟩, by rw [← r.length]; exact q.int⟩
    · split at q
      · rename_i hz
        rw [hv.str]
        exact ⟨_, _, rfl, ⟨hz, rfl⟩, q.int⟩
      · exact q.elim
    · exact q.elim) hm PySem.boot_len ha hg (by decide) (by decide) he hpl
end
end L3
namespace L3
open PySem PySem.Spec PyProof.Rows L2 SeqAt
noncomputable def kD (d : D) : DSt → Res D := fun _ => .ok d
noncomputable def b1 {α β : Type} (op : α → Res β) (f : DSt → Res α) : DSt → Res β := fun δ => (f δ).bind op
noncomputable def b2 (op : D → D → Res D) (f g : DSt → Res D) : DSt → Res D := fun δ => (f δ).bind fun x => (g δ).bind fun y => op x y
noncomputable def b3 {β : Type} (op : D → Option Int → Option Int → Res β) (f : DSt → Res D) (g h : DSt → Res (Option Int)) : DSt → Res β := fun δ => (f δ).bind fun x => (g δ).bind fun l => (h δ).bind fun u => op x l u
noncomputable def bCh (op op' : D → D → Res D) (fa fb fc : DSt → Res D) : DSt → Res D := fun δ => (fa δ).bind fun x => (fb δ).bind fun y => chainR op op' x y (fc δ)
noncomputable def tR (f : DSt → Res D) : DSt → Res Bool := fun δ => (f δ).bind boolR
noncomputable def tAnd2 (a b : DSt → Res Bool) : DSt → Res Bool := fun δ => andB (a δ) (b δ)
noncomputable def tOr2 (a b : DSt → Res Bool) : DSt → Res Bool := fun δ => orB (a δ) (b δ)
noncomputable def tNot1 (a : DSt → Res Bool) : DSt → Res Bool := fun δ => (a δ).bind fun k => .ok (!k)
noncomputable def vAnd (a b : DSt → Res D) : DSt → Res D := fun δ => andD (a δ) (b δ)
noncomputable def vOr (a b : DSt → Res D) : DSt → Res D := fun δ => orD (a δ) (b δ)
noncomputable def vIf (c : DSt → Res Bool) (a b : DSt → Res D) : DSt → Res D := fun δ => (c δ).bind fun k => if k = true then a δ else b δ
noncomputable def aNil : DSt → Res (List D) := fun _ => .ok []
noncomputable def aCons (f : DSt → Res D) (fs : DSt → Res (List D)) : DSt → Res (List D) := fun δ => consR (f δ) (fs δ)
noncomputable def oNone : DSt → Res (Option Int) := fun _ => .ok none
noncomputable def asD (f : DSt → Res (List D)) : DSt → Res D := fun δ => (f δ).bind fun ds => .ok (.lst ds)
noncomputable def vComp (n : Nat) (t : D → DSt → Res DSt) (gc : DSt → Res Bool) (fe : DSt → Res D) (fi : DSt → Res (List D)) : DSt → Res (List D) := fun δ => (fi δ).bind fun ds => compR n t gc fe δ ds
noncomputable def sSeq (g1 g2 : DSt → Out) : DSt → Out := fun δ => seqO (g1 δ) g2
noncomputable def sSet (i : Nat) (f : DSt → Res D) : DSt → Out := fun δ => ofR (f δ) fun d => .nx (δ.set i (some (.d d)))
noncomputable def sOwn (i : Nat) (f : DSt → Res (List D)) : DSt → Out := fun δ => ofR (f δ) fun ds => .nx (δ.set i (some (.o ds)))
noncomputable def sIf (c : DSt → Res Bool) (a b : DSt → Out) : DSt → Out := fun δ => ifO (c δ) (a δ) (b δ)
noncomputable def sFor (t : D → DSt → Res DSt) (g : DSt → Out) (fi : DSt → Res (List D)) : DSt → Out := fun δ => ofR (fi δ) fun ds => forD t g ds δ
noncomputable def sWhile (n : Nat) (c : DSt → Res Bool) (g : DSt → Out) : DSt → Out := fun δ => whileD c g n δ
noncomputable def sApp (i : Nat) (f : DSt → Res D) : DSt → Out := fun δ => appO i δ (f δ)
noncomputable def sRet (f : DSt → Res D) : DSt → Out := fun δ => ofR (f δ) fun d => .rt d
noncomputable def sRetN : DSt → Out := fun _ => .rt .non
noncomputable def sExpr (f : DSt → Res D) : DSt → Out := fun δ => ofR (f δ) fun _ => .nx δ
noncomputable def asgO (t : D → DSt → Res DSt) (δ : DSt) (d : D) : Out := match t d δ with
  | .ok δ' => .nx δ'
  | _ => .stuck
noncomputable def sAsg (t : D → DSt → Res DSt) (f : DSt → Res D) : DSt → Out := fun δ => ofR (f δ) (asgO t δ)
section
variable {X : Cx} {xw : XW} {e a b c : Expr} {f fa fb : DSt → Res D} {pos p : Pos} {st : Stmt} {tg : Expr} {t : D → DSt → Res DSt} {fs : DSt → Res (List D)}
theorem ds_asg' (he : DE X xw e f) (hg : DG X tg t) (hs : autoParam (swapsWithSole [tg] e pos.line X.env = pure false) slim0._auto_1) (hw : autoParam (swappedStores [tg] e X.env = pure none) slim0._auto_1)
    (h1 : autoParam ((assignEach [tg] X.env).map (·.2) = [assign tg X.env]) slim0._auto_1) : DS X xw (.Assign [tg] e pos) (sAsg t f) :=
  PS.weak (ds_asg he hg hs hw h1) fun Dn σ H ⟨W₀, H₀, W, δ, st, q⟩ => ⟨W₀, H₀, W, δ, st, by
    change RS X.K xw W₀ H₀ W H (ofR (f δ) (asgO t δ)) Dn at q
    dsimp only
    cases hf : f δ with
    | stuck => rw [hf] at q; exact q
    | ex c fs => rw [hf] at q; exact q
    | ok d =>
      rw [hf] at q
      have q' : RS X.K xw W₀ H₀ W H (asgO t δ d) Dn := q
      unfold asgO at q'
      show RS X.K xw W₀ H₀ W H (match t d δ with | .ok δ' => .nx δ' | _ => .stuck) Dn
      cases ht : t d δ with
      | ok δ' => rw [ht] at q'; exact q'
      | ex c fs => rw [ht] at q'; exact q'
      | stuck => rw [ht] at q'; exact q'⟩
theorem ds_no : DS X xw st (fun _ => .stuck) := PS.weak Bz7X fun Dn σ H ⟨W₀, H₀, W, δ, st, q⟩ => q
theorem Az9V {σ : L2.St} {H : Hp} {W₀ W : WS} {H₀ : Hp} {δ : DSt} {op : D → Res (List D)} {Q : VK} {R : V → Hp → Prop} (st : StHas X.K W₀ H₀ W H σ δ)
    (q : RF X.K xw W H ((fa δ).bind op) Q)
    (h : ∀ H2 d v, Same H H2 → WL W H2 → StHas X.K W₀ H₀ W H2 σ δ → HasT X.K W H2 d v → fa δ = .ok d → RF X.K xw W H2 (op d) Q → R v H2) :
    tDP X.K xw fa σ H fun x H1 => R x H1 := by
  refine ⟨W₀, H₀, W, δ, st, ?_⟩
  cases h1 : fa δ with
  | stuck => rw [h1] at q; exact q
  | ex c fs => rw [h1] at q; exact q
  | ok d =>
    rw [h1] at q
    intro v H1 k1 hv
    exact h H1 d v k1 (st.fr.wl.same k1) (st.same k1) hv h1 (RF.same (r := op d) q k1)
noncomputable def seqR : D → Res (List D)
  | .tup ds => .ok ds
  | .lst ds => .ok ds
  | _ => .stuck
theorem Bz6G (hm : X.mg "list" = none) (ha : DP X xw a fa) (hg : autoParam (Gl X "list") slim0._auto_1) (he : autoParam (starEach [a] X.env = (false, eval a X.env) :: starEach [] X.env) slim0._auto_1) (hpl : autoParam ((backTo pos (starEach [] X.env)).any (·.1) = false) slim0._auto_1) :
    DF X xw (.Call (.Name "list" p) [a] [] pos) (b1 seqR fa) :=
  PE.weak (Az9S Az9K hg hm (by decide +kernel) (Az6I ha pa_nil he) (by decide) (by decide) he hpl) fun σ H Q ⟨W₀, H₀, W, δ, st, q⟩ => Az9V st q fun H2 d v k w st2 hv _ q2 => by
    unfold seqR at q2
    split at q2
    · obtain ⟨p, xs, e, sq, r⟩ := hv.tup
      rw [e]
      exact ⟨p, xs, rfl, .inr sq, fun l hl => q2 l xs H2 (Same.refl _) hl r⟩
    · obtain ⟨p, xs, e, sq, r⟩ := hv.lst
      rw [e]
      exact ⟨p, xs, rfl, .inl sq, fun l hl => q2 l xs H2 (Same.refl _) hl r⟩
    · exact q2.elim
noncomputable def tupofR : D → Res D
  | .tup ds => .ok (.tup ds)
  | .lst ds => .ok (.tup ds)
  | _ => .stuck
theorem Bz9E (hm : X.mg "tuple" = none) (ha : DP X xw a fa) (hg : autoParam (Gl X "tuple") slim0._auto_1) (he : autoParam (starEach [a] X.env = (false, eval a X.env) :: starEach [] X.env) slim0._auto_1) (hpl : autoParam ((backTo pos (starEach [] X.env)).any (·.1) = false) slim0._auto_1) :
    DE X xw (.Call (.Name "tuple" p) [a] [] pos) (b1 tupofR fa) :=
  Bz0L Az8F (fun W H d v Q w hv q2 => by
    unfold tupofR at q2
    split at q2
    · obtain ⟨p, xs, e, sq, r⟩ := hv.tup
      rw [e]
      exact ⟨p, xs, rfl, .inr ⟨sq, q2 _ H (Same.refl _) (by rw [Has]; exact ⟨p, xs, rfl, sq, r⟩)⟩⟩
    · obtain ⟨p, xs, e, sq, r⟩ := hv.lst
      rw [e]
      exact ⟨p, xs, rfl, .inl ⟨sq, fun l hl => q2.newT w hl r⟩⟩
    · exact q2.elim) hm (by decide +kernel) ha hg (by decide) (by decide) he hpl
theorem Bz6H {x : Str} {id : String} {r : List V → Hp → VK → Prop} {op : List D → Res D} {es : List Expr} (hc : CallR X (.builtin id) r) (hop : ∀ W H ds vs Q, WL W H → HasL X.K W H ds vs → RE X.K xw W H (op ds) Q → r vs H Q)
    (hm : X.mg x = none) (hv : bootBuiltins x = some (.builtin id)) (ha : DA X xw (a :: es) fs) (hg : Gl X x) (hn : x ≠ "__name__") (hdb : (x == ("__debug__" : Str)) = false)
    (he : starEach (a :: es) X.env = (false, eval a X.env) :: starEach es X.env) (hpl : (backTo pos (starEach es X.env)).any (·.1) = false) : DE X xw (.Call (.Name x p) (a :: es) [] pos) (b1 op fs) :=
  PE.weak (Bz2S hc hg hm hv ha hn hdb he hpl) fun σ H Q ⟨W₀, H₀, W, δ, st, q⟩ => Az5L st q fun H2 ds vs k w st2 hv _ q2 => hop W H2 ds vs Q w hv q2
noncomputable def maxR : List D → Res D
  | [.int i, .int j] => .ok (.int (max i j))
  | _ => .stuck
noncomputable def minR : List D → Res D
  | [.int i, .int j] => .ok (.int (min i j))
  | _ => .stuck
theorem Cz3A {b : Expr} (hc : X.calm = true) (hm : X.mg "min" = none) (ha : DA X xw [a, b] fs) (hg : autoParam (Gl X "min") slim0._auto_1) (he : autoParam (starEach [a, b] X.env = (false, eval a X.env) :: starEach [b] X.env) slim0._auto_1) (hpl : autoParam ((backTo pos (starEach [b] X.env)).any (·.1) = false) slim0._auto_1) :
    DE X xw (.Call (.Name "min" p) [a, b] [] pos) (b1 minR fs) :=
  Bz6H (Bz6J hc) (fun W H ds vs Q w hv q => by
    unfold minR at q
    split at q
    · rename_i i j
      refine ⟨i, j, hv.two, ?_⟩
      have e : (if j < i then j else i) = min i j := by split <;> omega
      rw [e]
      exact q.int
    · exact q.elim) hm (by decide +kernel) ha hg (by decide) (by decide) he hpl
noncomputable def absR : D → Res D
  | .int i => .ok (.int (if i < 0 then -i else i))
  | _ => .stuck
theorem de_abs (hm : X.mg "abs" = none) (ha : DP X xw a fa) (hg : autoParam (Gl X "abs") slim0._auto_1) (he : autoParam (starEach [a] X.env = (false, eval a X.env) :: starEach [] X.env) slim0._auto_1) (hpl : autoParam ((backTo pos (starEach [] X.env)).any (·.1) = false) slim0._auto_1) :
    DE X xw (.Call (.Name "abs" p) [a] [] pos) (b1 absR fa) :=
  Bz0M Bz9M (fun W H d v Q w hv q => by
    unfold absR at q
    split at q
    · exact ⟨_, by rw [hv.int], q.int⟩
    · exact q.elim) hm (by decide +kernel) ha hg (by decide) (by decide) he hpl
variable {lo hi : Option Expr} {fl fh : DSt → Res (Option Int)} {p2 : Pos}
noncomputable def slD (d : D) (lo hi : Option Int) : Res D := match d with
  | .tup ds => if whole ds.length lo hi then .stuck else .ok (.tup (cutD ds lo hi))
  | .lst ds => .ok (.lst (cutD ds lo hi))
  | _ => .stuck
noncomputable def iSeq (K : PySem.W.Frag) (tl : TE) : TI := fun σ H R => tl σ H fun x H1 => ∃ a, x = .ref a ∧ (((∃ xs, SqL K H1 a xs) ∧ R (Itl K a) H1) ∨ ((∃ xs, SqT K H1 a xs) ∧ R (Itt K a) H1))
theorem pi_seq {l : Expr} {tl : TE} (hl : PE X l tl) : PI X tg l (iSeq X.K tl) := by
  intro pins s σ H R I h
  refine thn (hl pins s σ H _ I h) fun v s1 ⟨x, H1, I1, r1, q1⟩ => ?_
  obtain ⟨a, e, q1⟩ := q1
  subst e
  cases r1
  rcases q1 with ⟨⟨xs, hq⟩, q⟩ | ⟨⟨xs, hq⟩, q⟩
  · obtain ⟨its, rv, p, hz⟩ := I1.list hq
    refine wpAny_pyIter_list p.isList ?_
    refine ⟨s1.heap.objs.size, [s1.heap.objs.size], _, _, H1, rfl, I1.kept (t' := s1.toks) fun b o e => Heap.get?_push_of_some _ e, Bz4W a _, ⟨_, Heap.get?_push_size _ rfl, rfl, rfl⟩, fun b hb => ?_, q⟩
    have e : b = s1.heap.objs.size := by simpa using hb
    subst e
    exact I1.fpOk (Nat.le_refl _) (I1.hok.fresh (Nat.le_refl _))
  · obtain ⟨its, rv, p, hz⟩ := I1.tuple hq
    refine wpAny_pyIter_tuple (show s1.heap.IsTuple a its.toArray from p) ?_
    refine ⟨s1.heap.objs.size, [s1.heap.objs.size], _, _, H1, rfl, I1.kept (t' := s1.toks) fun b o e => Heap.get?_push_of_some _ e, Bz2A a _, ⟨_, Heap.get?_push_size _ rfl, rfl, rfl⟩, fun b hb => ?_, q⟩
    have e : b = s1.heap.objs.size := by simpa using hb
    subst e
    exact I1.fpOk (Nat.le_refl _) (I1.hok.fresh (Nat.le_refl _))
theorem di_seq (h : DE X xw e f) : DI X xw tg e (b1 seqR f) := PI.weak (pi_seq h) fun σ H R ⟨W₀, H₀, W, δ, st, q⟩ => by
  refine ⟨W₀, H₀, W, δ, st, ?_⟩
  simp only [b1] at q
  cases h1 : f δ with
  | stuck => rw [h1] at q; exact q
  | ex c fs => rw [h1] at q; exact q
  | ok d =>
    rw [h1] at q
    intro v H1 k1 hv
    cases d with
    | lst ds =>
      rw [Has] at hv
      obtain ⟨a, xs, e, sq, r⟩ := hv
      exact ⟨a, e, .inl ⟨⟨xs, sq.sq⟩, q _ H1 k1 (itl_ok (st.fr.wl.same k1) sq r)⟩⟩
    | tup ds =>
      rw [Has] at hv
      obtain ⟨a, xs, e, sq, r⟩ := hv
      exact ⟨a, e, .inr ⟨⟨xs, sq⟩, q _ H1 k1 (itt_ok (st.fr.wl.same k1) sq r)⟩⟩
    | _ => exact q.elim
theorem Bz9C {P : Program} {w : World} {H : Hp} (h : Heap) (hb : sysModules < h.objs.size) : ObjOk P w H (h.push { cls := .type "dict", data := .dict #[] }) h.objs.size (.dK []) :=
  ⟨Nat.zero_le _, beq_eq_false_iff_ne.mpr (Ne.symm (Nat.ne_of_lt hb)), [], .nil, Heap.DictOf.new h⟩
end
noncomputable def notNR (d : D) : Res D := match d with
  | .non => .ok (.bl false)
  | _ => .ok (.bl true)
section
variable {X : Cx} {xw : XW} {a : Expr} {fa : DSt → Res D} {pos : Pos}
theorem dt_notN' {j pos'} (ha : DP X xw a fa) : DT X xw (.Compare a [.IsNot] [.Constant .none j pos'] pos) (tR (b1 notNR fa)) :=
  DE.t_of (f := b1 notNR fa) (PT.weak (pt_cmp (Cz0Y ha)) fun σ H Q q => by
    obtain ⟨W₀, H₀, W, δ, st, q⟩ := q
    exact Az4Y st q fun H2 d v k w st2 hv _ q2 => by
      unfold notNR at q2
      split at q2
      · rw [hv.non]; exact q2.bl
      · rename_i hd
        rw [decide_eq_false (hv.isN hd)]; exact q2.bl)
end
theorem hu40 {A : Around} {k : Nat} (hr : Room k A) : A.units + 40 < cLine := by have := hr.units; omega
theorem Bz8V {P : Program} {w : World} {K : PySem.W.Frag} {mg : Str → Option Value} {base : Heap} {k : Nat} {x qual : Str} {st : Stmt} {fa : Addr} {fd : FuncData} {N ps : List Str} {g : DSt → Out} (F : Fun K x qual st fa fd) (S : FnScope N ps (Az0A st))
    (body : ∀ (cdv : Value) (A : Around) (outer : List Env) (s : Shared) (H : Hp) (E : XK), Room k (A.deeper (envOfC qual (Az0A st) s.heap.objs.size fa cdv)) →
      DSs (cxOf CX0 P w K mg base N qual (Az0A st) fa cdv A outer s H E).nox xwF (Az0J st) g) : FnOk P w K mg base CX0 (k + 1) fa fd ps (spD K ps.length (runD N.length g)) := by
  refine F.ok S (fun vs H Q E h => h.1) (fun cdv A outer s H vs Q E hr h => ?_)
  obtain ⟨hl, W, ds, hw, hd, q⟩ := h
  refine ⟨_, body cdv A outer s H E hr, W, H, W, startD N.length ds, Az6X hw hd, ?_⟩
  unfold runD at q
  cases h : g (startD N.length ds) with
  | rt d => rw [h] at q; exact fun v H' k hv => q v H' k hv
  | nx δ => rw [h] at q; exact fun W' H' σ' k st' => q .non H' st'.fr.ext (by rw [Has])
  | bk δ => rw [h] at q; exact q.elim
  | ct δ => rw [h] at q; exact q.elim
  | ex c fs => rw [h] at q; exact q.elim
  | stuck => rw [h] at q; exact q.elim
noncomputable def spLaw (K : PySem.W.Frag) : Sp := fun vs H Q _ => ∃ (a : Addr) (ns : List Int), vs = [.ref a] ∧ SqL K H a (ns.map V.int) ∧ ns.length ≤ 63 ∧ ∀ H', Q (.bl true) H'
theorem law_of {P : Program} {w : World} {K : PySem.W.Frag} {mg : Str → Option Value} {base : Heap} {k : Nat} {f : Addr} {fd : FuncData} {ps : List Str} {m : List D → Res D} (G : FnOk P w K mg base CX0 k f fd ps (spD K 1 m))
    (h : ∀ ns : List Int, ns.length ≤ 63 → m [.lst (ns.map D.int)] = .ok (.bl true)) : FnOk P w K mg base CX0 k f fd ps (spLaw K) := by
  refine G.imp fun vs H Q E q => ?_
  obtain ⟨a, ns, rfl, sq, hl, q⟩ := q
  refine ⟨rfl, fun _ => False, [.lst (ns.map D.int)], fun b z => z.elim, HasL.cons ?_ HasL.nil, ?_⟩
  · rw [Has]
    refine ⟨a, _, rfl, ?_, HasL.ints⟩
    rcases sq with (z | z) | z
    · exact .inl ⟨z, fun z => z⟩
    · exact .inr (.inl z)
    · exact .inr (.inr z)
  · rw [h ns hl]
    intro v H' k hv
    rw [Has] at hv
    rw [hv]
    exact q H'
end L3
namespace L3
open PySem
section
variable {prog : Program} {w : World} {A : Around} {E : Value → Shared → Prop} {s : Shared}
theorem Bz3A {it t : Addr} {i : Nat} {items : Array Value} {x : Value} {Q : Value → Shared → Prop} (hi : s.heap.IsTupleIter it t i) (ht : s.heap.IsTuple t items) (hx : items[i]? = some x)
    (hQ : ∀ h', h'.IsTupleIter it t (i + 1) → Heap.SameBut it s.heap h' → Q x { s with heap := h' }) : wpAny (model prog w) A (Builtin.SmallTypes.nextOf (.ref it)) Q E s := by
  obtain ⟨o, h1, h2, h3⟩ := id hi
  obtain ⟨u, g1, g2, m, g3⟩ := ht
  unfold Builtin.SmallTypes.nextOf
  refine wpAny_bind (wpAny_callSpecial?_slot (name := Str.ofString "__next__") hi.typeIs F.slot_tuple_iterator_next (wpAny_call_entry F.slot_tuple_iterator_next hi.typeIs F.entry_tuple_iterator_next ?_ (F.args_tuple_iterator_next_1 _)))
  show wpAny _ _ (field (.ref it) 0 >>= _) _ _ s; refine wpAny_bind (wpAny_field h1 h3 (x := .ref t) rfl ?_)
  show wpAny _ _ (if (Value.ref t == Value.none) = true then _ else _) _ _ s; rw [if_neg (show ¬ ((Value.ref t == Value.none) = true) from Bool.false_ne_true)]
  show wpAny _ _ (field (.ref it) 1 >>= _) _ _ s; refine wpAny_bind (wpAny_field h1 h3 (x := .int i 0) rfl ?_)
  show wpAny _ _ (seqItems? (.ref t) >>= _) _ _ s; refine wpAny_bind (wpAny_seqItems g1 g3 ?_)
  simp only [Int.toNat_natCast, hx]
  refine wpAny_bind (wpAny_setField h1 h3 (by simp) (wpAny_pure ⟨x, rfl, wpAny_pure (hQ _ ⟨_, Heap.get?_update_self _ h1 (Obj.isFreed_of_fields (Obj.data_mapFields h3 _)), (Obj.cls_mapFields ..).trans h2, ?_⟩ (Heap.SameBut.update ..))⟩))
  rw [Obj.data_mapFields h3]; simp [rawInt]
theorem Bz5N {it t : Addr} {i : Nat} {items : Array Value} {Q : Value → Shared → Prop} (hh : A.handled = none) (hi : s.heap.IsTupleIter it t i) (ht : s.heap.IsTuple t items) (hx : items[i]? = none)
    (hE : ∀ h' e, Heap.ExtBut it s.heap h' → (∃ o, h'.get? e = some o ∧ o.cls = .type "StopIteration") → E (.ref e) { s with heap := h' }) : wpAny (model prog w) A (Builtin.SmallTypes.nextOf (.ref it)) Q E s := by
  obtain ⟨o, h1, h2, h3⟩ := id hi
  obtain ⟨u, g1, g2, m, g3⟩ := ht
  unfold Builtin.SmallTypes.nextOf
  refine wpAny_bind (wpAny_callSpecial?_slot (name := Str.ofString "__next__") hi.typeIs F.slot_tuple_iterator_next (wpAny_call_entry F.slot_tuple_iterator_next hi.typeIs F.entry_tuple_iterator_next ?_ (F.args_tuple_iterator_next_1 _)))
  show wpAny _ _ (field (.ref it) 0 >>= _) _ _ s; refine wpAny_bind (wpAny_field h1 h3 (x := .ref t) rfl ?_)
  show wpAny _ _ (if (Value.ref t == Value.none) = true then _ else _) _ _ s; rw [if_neg (show ¬ ((Value.ref t == Value.none) = true) from Bool.false_ne_true)]
  show wpAny _ _ (field (.ref it) 1 >>= _) _ _ s; refine wpAny_bind (wpAny_field h1 h3 (x := .int i 0) rfl ?_)
  show wpAny _ _ (seqItems? (.ref t) >>= _) _ _ s; refine wpAny_bind (wpAny_seqItems g1 g3 ?_)
  simp only [Int.toNat_natCast, hx]
  refine wpAny_bind (wpAny_rule (wpAny_bind (wpAny_setField h1 h3 (by simp) ?_))); show wpAny _ _ (newExc (.type "StopIteration") [] >>= _) _ _ _
  refine wpAny_bind ?_; simp only [newExc, newTuple]
  refine wpAny_bind (wpAny_newObj_type ?_ (by size_fits)); refine wpAny_bind (m := firstArgMember _ _) (wpAny_of_eq (a := Value.none) (by first | rfl | (simp only [firstArgMember]; rfl)) ?_)
  refine wpAny_newObj_type ?_ (by size_fits); simp only [raiseNew]
  refine wpAny_bind (wpAny_handled ?_); first | rw [show A.in1.handled = none from hh] | rw [hh]
  refine wpAny_bind (wpAny_pure (wpAny_throw (hE _ _ (((Heap.SameBut.update ..).extBut.push _).push _) ⟨_, Heap.get?_push_size _ rfl, rfl⟩)))
end
theorem drawsT {prog : Program} {w : World} {A : Around} (hh : A.handled = none) (it t : Addr) (hne : t ≠ it) (items : Array Value) : Draws prog w A it [it, t] items.size (fun i v => items[i]? = some v) (fun i h => h.IsTupleIter it t i ∧ h.IsTuple t items) where
  live := fun _ _ st => let ⟨o, ho, _⟩ := st.1; ⟨o, ho⟩
  frame := fun _ _ _ st hk => ⟨let ⟨o, e, r⟩ := st.1; ⟨o, hk it (by simp) o e, r⟩, let ⟨o, e, r⟩ := st.2; ⟨o, hk t (by simp) o e, r⟩⟩
  item := fun i s Q E hi st hQ => Bz3A st.1 st.2 (x := items[i]) (by simp [hi]) fun h' z hs => hQ _ h' s.toks (by simp [hi]) ⟨z, let ⟨o, e, r⟩ := st.2; ⟨o, hs.extBut _ _ hne e, r⟩⟩ hs
  done := fun s Q E st hE => Bz5N hh st.1 st.2 (by simp) hE
structure ZA (z TI TO i1 i2 : Addr) (f1 f2 : List Addr) : Prop where
  a1 : TI ≠ z
  a2 : TO ≠ z
  a3 : TI ≠ TO
  m1 : i1 ∈ f1
  m2 : i2 ∈ f2
  z1 : z ∉ f1
  z2 : z ∉ f2
  o1 : TO ∉ f1
  o2 : TO ∉ f2
  t1 : TI ∉ f1
  t2 : TI ∉ f2
  x1 : i2 ∉ f1
  x2 : i1 ∉ f2
section
variable {prog : Program} {w : World} {A : Around} {E : Value → Shared → Prop} {s : Shared} {z TI TO i1 i2 : Addr} {f1 f2 : List Addr} {n1 n2 k : Nat} {P1 P2 : Nat → Value → Prop} {S1 S2 : Nat → Heap → Prop} {a b : Value}
end
end L3
namespace L3
open PySem
noncomputable def IsSq (tup : Bool) (h : Heap) (l : Addr) (xs : Array Value) : Prop := match tup with
  | true => h.IsTuple l xs
  | false => h.IsList l xs
noncomputable def itO (tup : Bool) (l : Addr) : Obj := match tup with
  | true => { cls := .type "tuple_iterator", data := .fields #[.ref l, .int 0 0] }
  | false => { cls := .type "list_iterator", data := .fields #[.ref l, .int 0 0] }
noncomputable def SqI (tup : Bool) (h : Heap) (i l : Addr) (k : Nat) : Prop := match tup with
  | true => h.IsTupleIter i l k
  | false => h.IsListIter i l k
theorem IsSq.at' {tup : Bool} {h h' : Heap} {l : Addr} {xs : Array Value} (q : IsSq tup h l xs) (k : ∀ o, h.get? l = some o → h'.get? l = some o) : IsSq tup h' l xs := by
  cases tup with
  | true => obtain ⟨o, e, r⟩ := q; exact ⟨o, k o e, r⟩
  | false => exact Heap.IsList.at q k
theorem SqI.at' {tup : Bool} {h h' : Heap} {i l : Addr} {k : Nat} (q : SqI tup h i l k) (f : ∀ o, h.get? i = some o → h'.get? i = some o) : SqI tup h' i l k := by
  cases tup with
  | true => obtain ⟨o, e, r⟩ := q; exact ⟨o, f o e, r⟩
  | false => obtain ⟨o, e, r⟩ := q; exact ⟨o, f o e, r⟩
theorem SqI.rec {tup : Bool} {h : Heap} {i l : Addr} {k : Nat} (q : SqI tup h i l k) : ∃ o vs, h.get? i = some o ∧ o.data = .fields vs := by
  cases tup with
  | true => obtain ⟨o, e, _, r⟩ := q; exact ⟨o, _, e, r⟩
  | false => obtain ⟨o, e, _, r⟩ := q; exact ⟨o, _, e, r⟩
theorem IsSq.lt {tup : Bool} {h : Heap} {l : Addr} {xs : Array Value} (q : IsSq tup h l xs) : l < h.objs.size := by
  cases tup with
  | true => obtain ⟨o, e, _⟩ := q; exact Heap.lt_size e
  | false => obtain ⟨o, e, _⟩ := q; exact Heap.lt_size e
theorem drawsS {prog : Program} {w : World} {A : Around} (hh : A.handled = none) (tup : Bool) (it l : Addr) (hne : l ≠ it) (xs : Array Value) : Draws prog w A it [it, l] xs.size (fun i v => xs[i]? = some v) (fun i h => SqI tup h it l i ∧ IsSq tup h l xs) := by
  cases tup with
  | true => exact drawsT hh it l hne xs
  | false => exact Draws.list hh it l hne xs
theorem Bz2E {prog : Program} {w : World} {A : Around} {E : Value → Shared → Prop} {s : Shared} {tup : Bool} {l : Addr} {xs : Array Value} {Q : Value → Shared → Prop} (q : IsSq tup s.heap l xs) (h : Q (.ref s.heap.objs.size) { s with heap := s.heap.push (itO tup l) }) :
    wpAny (model prog w) A (pyIter (.ref l)) Q E s := by
  cases tup with
  | true => exact wpAny_pyIter_tuple q h
  | false => exact wpAny_pyIter_list q h
section
variable {prog : Program} {w : World} {A : Around} {E : Value → Shared → Prop} {s : Shared} {z TI TO i1 i2 l1 l2 : Addr} {t1 t2 : Bool} {xs ys : Array Value} {k : Nat} {a b x y : Value}
theorem ZA.of (h1 : TI ≠ z) (h2 : TO ≠ z) (h3 : TI ≠ TO) (h : ∀ c, c = i1 ∨ c = i2 ∨ c = l1 ∨ c = l2 → c ≠ z ∧ c ≠ TO ∧ c ≠ TI) (e1 : i1 ≠ i2) (e2 : l1 ≠ i2) (e3 : l2 ≠ i1) : ZA z TI TO i1 i2 [i1, l1] [i2, l2] := by
  obtain ⟨a1, a2, a3⟩ := h i1 (by simp)
  obtain ⟨b1, b2, b3⟩ := h i2 (by simp)
  obtain ⟨c1, c2, c3⟩ := h l1 (by simp)
  obtain ⟨d1, d2, d3⟩ := h l2 (by simp)
  have no : ∀ {c p q : Addr}, p ≠ c → q ≠ c → c ∉ [p, q] := fun u v m => by
    rcases List.mem_cons.mp m with m | m
    · exact u m.symm
    · exact v (List.mem_singleton.mp m).symm
  exact ⟨h1, h2, h3, by simp, by simp, no a1 c1, no b1 d1, no a2 c2, no b2 d2, no a3 c3, no b3 d3, no e1 e2, no e1.symm e3⟩
end
end L3
namespace L3
open PySem PySem.Spec PyProof.Rows L2
noncomputable def SqK (t : Bool) (K : PySem.W.Frag) (H : Hp) (l : Addr) (xs : List V) : Prop := match t with
  | true => SqT K H l xs
  | false => SqL K H l xs
section
variable {X : Cx} {pins : List (Addr × Obj)} {σ : L2.St} {H : Hp} {s : Shared} {h' : Heap}
theorem inv_sq (I : Inv X pins σ H s) {t : Bool} {l : Addr} {xs : List V} (h : SqK t X.K H l xs) : ∃ its : List Value, Vals xs its ∧ IsSq t s.heap l its.toArray ∧ xs.length ≤ sizeLine := by
  cases t with
  | true => obtain ⟨its, r, p, z⟩ := I.tuple h; exact ⟨its, r, p, z⟩
  | false => obtain ⟨its, r, p, z⟩ := I.list h; exact ⟨its, r, p.isList, z⟩
theorem Bz3I (I : Inv X pins σ H s) {t : Bool} {l : Addr} {xs ys : List V} (h : SqK t X.K H l xs) (h' : SqK t X.K H l ys) : xs = ys := by
  cases t with
  | true => exact I.tuple_inj h h'
  | false => exact I.list_inj h h'
theorem Bz0B {t' : Nat} {ch : List Addr} {n : Addr} {xs : List V} {its : List Value} (I : Inv X pins σ H s) (hf : ∀ b ∈ ch, FpOk X pins H b) (k : ∀ b o, b ∉ ch → s.heap.get? b = some o → h'.get? b = some o)
    (hn : s.heap.objs.size ≤ n) (r : Vals xs its) (hz : xs.length ≤ sizeLine) (new : IsTup h' n its.toArray) : Inv X pins σ (upd H n (.tup xs)) { s with heap := h', toks := t' } := by
  have hfree := I.hok.fresh hn
  have nch : ∀ b u, H b = some u → b ∉ ch := fun b u e m => by rw [(hf b m).1] at e; cases e
  have nn : ∀ b o, s.heap.get? b = some o → b ≠ n := fun b o e => Nat.ne_of_lt (Nat.lt_of_lt_of_le (Heap.lt_size e) hn)
  refine I.step (g' := s.gens) (d' := s.drawn) (ch := ch) (fun b hb => ⟨(hf b hb).2.2.2.1, (hf b hb).2.1, (hf b hb).2.2.2.2.1, (hf b hb).2.2.2.2.2⟩) (fun b o _ _ hc e _ => k b o hc e) (fun b o _ _ hc e _ => ⟨o.slots, k b o hc e⟩)
    (fun b o hc e q => by rw [upd_ne (nn b o e)]; exact q) (fun b o hc e => ⟨o, k b o hc e⟩) (fun b ys e => by rw [upd_ne (Az0D e hfree)]; exact e) (fun b o u e => by rw [upd_ne (Az0D e hfree)]; exact e)
    (fun b ps e => ⟨#[], by rw [upd_ne (Az0D e hfree), e]; simp⟩) (fun m hm => ?_) (fun b u e => ?_) I.bare
  · obtain ⟨o, es, ep, ho, q⟩ := hm
    exact ⟨o, es, ep, k _ o (fun z => (hf _ z).2.1 rfl) ho, q⟩
  · by_cases hb : b = n
    · subst hb
      rw [Az0H] at e; cases e
      exact ⟨hz, its, r, new⟩
    · rw [upd_ne hb] at e
      refine (I.hok b u e).stay (fun c v hc q => k c v ?_ q) (fun c q => by rw [upd_ne (Az0D q hfree)]; exact q) fun c ys q => by rw [upd_ne (Az0D q hfree)]; exact q
      rcases hc with z | z
      · rw [z]; exact nch b u e
      · exact nch c _ z
theorem Bz0A {t' : Nat} {ch : List Addr} (I : Inv X pins σ H s) (hf : ∀ b ∈ ch, FpOk X pins H b) (k : ∀ b o, b ∉ ch → s.heap.get? b = some o → h'.get? b = some o) : Inv X pins σ H { s with heap := h', toks := t' } := by
  have nch : ∀ b u, H b = some u → b ∉ ch := fun b u e m => by rw [(hf b m).1] at e; cases e
  refine I.step (g' := s.gens) (d' := s.drawn) (ch := ch) (fun b hb => ⟨(hf b hb).2.2.2.1, (hf b hb).2.1, (hf b hb).2.2.2.2.1, (hf b hb).2.2.2.2.2⟩) (fun b o _ _ hc e _ => k b o hc e) (fun b o _ _ hc e _ => ⟨o.slots, k b o hc e⟩)
    (fun _ _ _ _ q => q) (fun b o hc e => ⟨o, k b o hc e⟩) (fun _ _ e => e) (fun _ _ _ e => e) (fun b ps e => ⟨#[], by rw [e]; simp⟩) (fun m hm => ?_) (fun b u e => ?_) I.bare
  · obtain ⟨o, es, ep, ho, q⟩ := hm
    exact ⟨o, es, ep, k _ o (fun z => (hf _ z).2.1 rfl) ho, q⟩
  · refine (I.hok b u e).stay (fun c v hc q => k c v ?_ q) (fun _ q => q) fun _ _ q => q
    rcases hc with z | z
    · rw [z]; exact nch b u e
    · exact nch c _ z
end
section
variable {X : Cx} {xw : XW} {elts : List Expr} {kt : Nat} {pt p pos : Pos} {a b : Expr} {fs : DSt → Res (List D)}
noncomputable def itemsD : D → Option (List D)
  | .tup ds => some ds
  | .lst ds => some ds
  | _ => none
theorem sqk_of {K : PySem.W.Frag} {W : WS} {H : Hp} {d : D} {v : V} {ds : List D} (w : WL W H) (h : Has K W H d v) (e : itemsD d = some ds) :
    ∃ t l xs, v = .ref l ∧ HasL K W H ds xs ∧ ∀ W' H2, Step W H W' H2 → SqK t K H2 l xs := by
  cases d with
  | tup es =>
    cases e
    rw [Has] at h
    obtain ⟨a, xs, e1, sq, r⟩ := h
    exact ⟨true, a, xs, e1, r, fun W' H2 k => Az8S k.keep w sq⟩
  | lst es =>
    cases e
    rw [Has] at h
    obtain ⟨a, xs, e1, sq, r⟩ := h
    exact ⟨false, a, xs, e1, r, fun W' H2 k => (sq.keep k.keep w k.new).sq⟩
  | _ => cases e
end
end L3
namespace L3
open PySem PySem.Spec PyProof.Rows L2
section
variable {α β : Type}
theorem ofR_ok (a : α) (k : α → Out) : ofR (.ok a) k = k a := rfl
theorem ofR_ex (c : Str) (fs : List D) (k : α → Out) : ofR (.ex c fs) k = .ex c fs := rfl
theorem Bz5L (k : α → Out) : ofR .stuck k = .stuck := rfl
theorem Az0N (δ : DSt) (g : DSt → Out) : seqO (.nx δ) g = g δ := rfl
theorem Az6G (d : D) (g : DSt → Out) : seqO (.rt d) g = .rt d := rfl
theorem Bz2M (g : DSt → Out) : seqO .stuck g = .stuck := rfl
theorem ifO_ok (c : Bool) (a b : Out) : ifO (.ok c) a b = if c = true then a else b := rfl
theorem Az6S (c : Bool) (y : Res Bool) : andB (.ok c) y = if c = true then y else .ok false := rfl
theorem orB_ok (c : Bool) (y : Res Bool) : orB (.ok c) y = if c = true then .ok true else y := rfl
theorem Cz3K (c : Bool) (y : Res D) : andD (.ok (.bl c)) y = if c = true then y else .ok (.bl false) := by cases c <;> rfl
theorem orD_bl (c : Bool) (y : Res D) : orD (.ok (.bl c)) y = if c = true then .ok (.bl true) else y := by cases c <;> rfl
theorem Az0G (c : Bool) : boolR (.bl c) = .ok c := rfl
theorem Cz1J (c : Bool) : notD (.bl c) = .ok (.bl (!c)) := rfl
theorem eqR_ii (i j : Int) : eqR (.int i) (.int j) = .ok (.bl (i == j)) := by simp [eqR, shal, eqD]
theorem neR_ii (i j : Int) : neR (.int i) (.int j) = .ok (.bl (!(i == j))) := by simp [neR, shal, eqD]
theorem eqR_bb (i j : Bool) : eqR (.bl i) (.bl j) = .ok (.bl (i == j)) := by simp [eqR, shal, eqD]
theorem ltR_ii (i j : Int) : ltR (.int i) (.int j) = .ok (.bl (decide (i < j))) := rfl
theorem leR_ii (i j : Int) : leR (.int i) (.int j) = .ok (.bl (decide (i ≤ j))) := rfl
theorem gtR_ii (i j : Int) : gtR (.int i) (.int j) = .ok (.bl (decide (j < i))) := rfl
theorem geR_ii (i j : Int) : geR (.int i) (.int j) = .ok (.bl (decide (j ≤ i))) := rfl
theorem Az3R (i j : Int) : addD (.int i) (.int j) = .ok (.int (i + j)) := rfl
theorem Cz3M (xs ys : List D) : addD (.tup xs) (.tup ys) = @ite (Res D) (xs.length + ys.length ≤ sizeLine) (Classical.propDecidable _) (.ok (.tup (xs ++ ys))) .stuck := rfl
theorem Bz4U (xs ys : List D) (h : xs.length + ys.length ≤ 1000) : addD (.tup xs) (.tup ys) = .ok (.tup (xs ++ ys)) := by
  rw [Cz3M, if_pos (Nat.le_trans h k1000)]
theorem Bz2D (i j : Int) : subD (.int i) (.int j) = .ok (.int (i - j)) := rfl
theorem negD_i (i : Int) : negD (.int i) = .ok (.int (-i)) := rfl
theorem Bz6W (i j : Int) : modD (.int i) (.int j) = @ite (Res D) (0 < j) (Classical.propDecidable _) (.ok (.int (i % j))) .stuck := rfl
theorem Bz3X (i j : Int) : fdivD (.int i) (.int j) = @ite (Res D) (0 < j ∧ j < 1073741824) (Classical.propDecidable _) (.ok (.int (i / j))) .stuck := rfl
theorem Cz1R (i j : Int) : maxR [.int i, .int j] = .ok (.int (max i j)) := rfl
theorem Bz6X (i j : Int) : minR [.int i, .int j] = .ok (.int (min i j)) := rfl
theorem absR_i (i : Int) : absR (.int i) = .ok (.int (if i < 0 then -i else i)) := rfl
theorem lenR_t (ds : List D) : lenR (.tup ds) = .ok (.int ds.length) := rfl
theorem lenR_l (ds : List D) : lenR (.lst ds) = .ok (.int ds.length) := rfl
theorem seqR_t (ds : List D) : seqR (.tup ds) = .ok ds := rfl
theorem seqR_l (ds : List D) : seqR (.lst ds) = .ok ds := rfl
theorem Bz7J (ds : List D) : tupofR (.tup ds) = .ok (.tup ds) := rfl
theorem Az6U (ds : List D) : tupofR (.lst ds) = .ok (.tup ds) := rfl
theorem Bz6T (i : Int) : partR (.int i) = .ok (some i) := rfl
theorem Az0E (d : D) (ds : List D) : consR (.ok d) (.ok ds) = .ok (d :: ds) := rfl
theorem Az5Q (a : α) : noex (.ok a) = .ok a := rfl
theorem slD_l (ds : List D) (lo hi : Option Int) : slD (.lst ds) lo hi = .ok (.lst (cutD ds lo hi)) := rfl
theorem Az0I (x : D) (l : DSt) : slotD 0 (some (.d x) :: l) = .ok x := rfl
theorem Az0L (n : Nat) (a : Option S) (l : DSt) : slotD (n + 1) (a :: l) = slotD n l := by simp [slotD]
theorem Az0C (x : D) (l : DSt) : slotP 0 (some (.d x) :: l) = .ok x := rfl
theorem Az0P (x : List D) (l : DSt) : slotP 0 (some (.o x) :: l) = .ok (.lst x) := rfl
theorem Az0F (n : Nat) (a : Option S) (l : DSt) : slotP (n + 1) (a :: l) = slotP n l := by simp [slotP]
theorem Az0K (n : Nat) (m : List D → Res D) (ds : List D) (d : D) (h : m ds = .ok d) (hn : ds.length = n) : callR n m ds = .ok d := by
  unfold callR; rw [if_pos hn, h]; rfl
theorem ixR_t (ds : List D) (i : Int) (d : D) (h : atI ds i = some d) : ixR (.tup ds) (.int i) = .ok d := by show (match atI ds i with | some d => Res.ok d | none => Res.stuck) = _; rw [h]
theorem ixR_l (ds : List D) (i : Int) (d : D) (h : atI ds i = some d) : ixR (.lst ds) (.int i) = .ok d := by show (match atI ds i with | some d => Res.ok d | none => Res.stuck) = _; rw [h]
theorem Az6A {xs : List α} {i : Int} {d : α} (h0 : 0 ≤ i) (h : xs[i.toNat]? = some d) : atI xs i = some d := by
  have hl := (List.getElem?_eq_some_iff.mp h).1
  unfold atI ixN
  rw [if_pos h0, if_pos (by omega)]
  exact h
theorem atI_in {xs : List α} {i : Int} (h0 : 0 ≤ i) (h1 : i < xs.length) : ∃ d, atI xs i = some d ∧ d ∈ xs := by
  have hl : i.toNat < xs.length := by omega
  exact ⟨xs[i.toNat], Az6A h0 (List.getElem?_eq_getElem hl), List.getElem_mem hl⟩
end
section
variable {t : D → DSt → Res DSt} {body : DSt → Out}
theorem Bz0G (d : D) (ds : List D) (δ δ' : DSt) (h : t d δ = .ok δ') : forD t body (d :: ds) δ = (match body δ' with
      | .nx δ2 => forD t body ds δ2
      | .ct δ2 => forD t body ds δ2
      | .bk δ2 => .nx δ2
      | .rt d => .rt d
      | .ex c fs => .ex c fs
      | .stuck => .stuck) := by
  rw [forD, h]
  first | done | rfl | dsimp only
end
section
variable {fe : DSt → Res D} {c : DSt → Res Bool}
theorem Az4S (t : D → DSt → Res DSt) (d : D) (ds : List D) (δ δ' : DSt) (h : t d δ = .ok δ') : compD t c fe (d :: ds) δ = ((noex (c δ')).bind fun k => if k = true then (noex (fe δ')).bind fun x => (compD t c fe ds δ').bind fun r => .ok (x :: r) else compD t c fe ds δ') := by
  rw [compD]
  rw [h]
theorem Az5E (p : D → Bool) (f : D → D) (δ : DSt) : ∀ (ds : List D) (x : Option S), (∀ d ∈ ds, c (some (.d d) :: δ) = .ok (p d) ∧ (p d = true → fe (some (.d d) :: δ) = .ok (f d))) → compD (setI 0) c fe ds (x :: δ) = .ok ((ds.filter p).map f)
  | [], _, _ => rfl
  | d :: ds, x, h => by
    obtain ⟨h1, h2⟩ := h d List.mem_cons_self
    rw [Az4S (setI 0) d ds (x :: δ) (some (.d d) :: δ) rfl, h1]
    have ih := Az5E p f δ ds (some (.d d)) fun y hy => h y (List.mem_cons_of_mem _ hy)
    rw [ih]
    cases hp : p d with
    | false => rw [List.filter_cons_of_neg (by rw [hp]; exact Bool.false_ne_true)]; rfl
    | true => rw [List.filter_cons_of_pos hp, h2 hp]; rfl
theorem Bz9G (f : D → D) (δ : DSt) (ds : List D) (x : Option S) (h : ∀ d ∈ ds, fe (some (.d d) :: δ) = .ok (f d)) : compD (setI 0) (fun _ => .ok true) fe ds (x :: δ) = .ok (ds.map f) := by
  rw [Az5E (fun _ => true) f δ ds x fun d hd => ⟨rfl, fun _ => h d hd⟩]
  rw [List.filter_eq_self.mpr fun _ _ => rfl]
end
end L3
namespace L3
open PySem PySem.Spec PyProof.Rows L2
theorem Bz9J (i j k : Int) : chainR leR leR (.int i) (.int j) (.ok (.int k)) = .ok (.bl (decide (i ≤ j ∧ j ≤ k))) := by
  unfold chainR
  rw [leR_ii]
  by_cases h : i ≤ j
  · rw [decide_eq_true h]
    show leR (.int j) (.int k) = _
    rw [leR_ii]; simp [h]
  · rw [decide_eq_false h]
    simp [h, Res.bind]
theorem Bz4I (i j k : Int) : chainR leR ltR (.int i) (.int j) (.ok (.int k)) = .ok (.bl (decide (i ≤ j ∧ j < k))) := by
  unfold chainR
  rw [leR_ii]
  by_cases h : i ≤ j
  · rw [decide_eq_true h]
    show ltR (.int j) (.int k) = _
    rw [ltR_ii]; simp [h]
  · rw [decide_eq_false h]
    simp [h, Res.bind]
noncomputable def finO : Out → Res D
  | .rt d => .ok d
  | .nx _ => .ok .non
  | _ => .stuck
theorem Az0R (n : Nat) (g : DSt → Out) (ds : List D) : runD n g ds = finO (g (startD n ds)) := by
  unfold runD finO
  cases g (startD n ds) <;> rfl
theorem Az0S (d : D) : finO (.rt d) = .ok d := rfl
theorem Cz2I (δ : DSt) : finO (.nx δ) = .ok .non := rfl
theorem Bz4Z (ns : List Int) : shal 40 (.lst (ns.map D.int)) = true := by simp [shal]
theorem Cz2K (ns : List Int) : eqR (.lst (ns.map D.int)) (.lst []) = .ok (.bl (ns.isEmpty)) := by
  unfold eqR
  rw [Bz4Z]
  cases ns <;> simp [shal, eqD, eqL]
end L3
namespace L3
open PySem PySem.Spec PyProof.Rows L2 SeqAt
structure XE (X : Cx) (xw : XW) (e : Expr) (f : DSt → Res D) : Prop where
  h : DE X xw e f
structure XP (X : Cx) (xw : XW) (e : Expr) (f : DSt → Res D) : Prop where
  h : DP X xw e f
structure XF (X : Cx) (xw : XW) (e : Expr) (f : DSt → Res (List D)) : Prop where
  h : DF X xw e f
structure XT (X : Cx) (xw : XW) (e : Expr) (f : DSt → Res Bool) : Prop where
  h : DT X xw e f
structure XW' (X : Cx) (xw : XW) (e : Expr) (f : DSt → Res Bool) : Prop where
  h : DW X xw e f
structure XA (X : Cx) (xw : XW) (e : List Expr) (f : DSt → Res (List D)) : Prop where
  h : DA X xw e f
structure XO (X : Cx) (xw : XW) (e : Option Expr) (f : DSt → Res (Option Int)) : Prop where
  h : DO X xw e f
structure XG (X : Cx) (e : Expr) (f : D → DSt → Res DSt) : Prop where
  h : DG X e f
structure XGs (X : Cx) (e : List Expr) (f : List D → DSt → Res DSt) : Prop where
  h : DGs X e f
structure XTs (X : Cx) (e : List Expr) (f : DSt → Res Bool) : Prop where
  h : DTs X e f
structure XS (X : Cx) (xw : XW) (e : Stmt) (f : DSt → Out) : Prop where
  h : DS X xw e f
structure XSs (X : Cx) (xw : XW) (e : List Stmt) (f : DSt → Out) : Prop where
  h : DSs X xw e f
structure XI (X : Cx) (xw : XW) (tg e : Expr) (f : DSt → Res (List D)) : Prop where
  h : DI X xw tg e f
section
variable {X : Cx} {xw : XW} {e a b c : Expr} {f fa fb fc : DSt → Res D} {pos p p2 : Pos} {st : Stmt} {sts as bs : List Stmt} {tg iter elt : Expr} {t : D → DSt → Res DSt} {fs : DSt → Res (List D)} {es rest : List Expr} {ga gb gc : DSt → Res Bool} {g g1 g2 : DSt → Out}
  {lo hi : Option Expr} {fl fh : DSt → Res (Option Int)} {fi : DSt → Res (List D)} {scope : Scope} {ifs : List Expr} {fe : DSt → Res D}
theorem x_var (i : Nat) {x : Str} (hN : autoParam (X.N[i]? = some x) slim0._auto_1) (hv : autoParam (Vis X.env.scope x) slim6._auto_1) (hd : autoParam ((x == ("__debug__" : Str)) = false) slim1._auto_1)
    (hcd : autoParam ((x == ("__classdict__" : Str)) = false) slim1._auto_1) : XE X xw (.Name x pos) (slotD i) := ⟨de_var i hN hv hd hcd⟩
theorem p_var (i : Nat) {x : Str} (hN : autoParam (X.N[i]? = some x) slim0._auto_1) (hv : autoParam (Vis X.env.scope x) slim6._auto_1) (hd : autoParam ((x == ("__debug__" : Str)) = false) slim1._auto_1)
    (hcd : autoParam ((x == ("__classdict__" : Str)) = false) slim1._auto_1) : XP X xw (.Name x pos) (slotP i) := ⟨dp_var i hN hv hd hcd⟩
theorem p_of (h : XE X xw e f) : XP X xw e f := ⟨DE.p h.h⟩
theorem w_and1 (ha : XT X xw a ga) : XW' X xw (.BoolOp .And [a] pos) ga := ⟨Cz2L ha.h⟩
theorem w_or1 (ha : XT X xw a ga) : XW' X xw (.BoolOp .Or [a] pos) ga := ⟨dw_or1 ha.h⟩
theorem y_w (h : XW' X xw e ga) : XT X xw e ga := ⟨DW.t h.h⟩
theorem y_notN {j pos'} (ha : XP X xw a fa) : XT X xw (.Compare a [.IsNot] [.Constant .none j pos'] pos) (tR (b1 notNR fa)) := ⟨dt_notN' ha.h⟩
theorem Az7H (hm : X.mg "list" = none) (ha : XP X xw a fa) (hg : autoParam (Gl X "list") slim0._auto_1) (he : autoParam (starEach [a] X.env = (false, eval a X.env) :: starEach [] X.env) slim0._auto_1) (hpl : autoParam ((backTo pos (starEach [] X.env)).any (·.1) = false) slim0._auto_1) :
    XF X xw (.Call (.Name "list" p) [a] [] pos) (b1 seqR fa) := ⟨Bz6G hm ha.h hg he hpl⟩
theorem Az7K (hm : X.mg "tuple" = none) (ha : XP X xw a fa) (hg : autoParam (Gl X "tuple") slim0._auto_1) (he : autoParam (starEach [a] X.env = (false, eval a X.env) :: starEach [] X.env) slim0._auto_1) (hpl : autoParam ((backTo pos (starEach [] X.env)).any (·.1) = false) slim0._auto_1) :
    XE X xw (.Call (.Name "tuple" p) [a] [] pos) (b1 tupofR fa) := ⟨Bz9E hm ha.h hg he hpl⟩
theorem x_min (hc : X.calm = true) (hm : X.mg "min" = none) (ha : XA X xw [a, b] fs) (hg : autoParam (Gl X "min") slim0._auto_1) (he : autoParam (starEach [a, b] X.env = (false, eval a X.env) :: starEach [b] X.env) slim0._auto_1) (hpl : autoParam ((backTo pos (starEach [b] X.env)).any (·.1) = false) slim0._auto_1) :
    XE X xw (.Call (.Name "min" p) [a, b] [] pos) (b1 minR fs) := ⟨Cz3A hc hm ha.h hg he hpl⟩
theorem x_abs (hm : X.mg "abs" = none) (ha : XP X xw a fa) (hg : autoParam (Gl X "abs") slim0._auto_1) (he : autoParam (starEach [a] X.env = (false, eval a X.env) :: starEach [] X.env) slim0._auto_1) (hpl : autoParam ((backTo pos (starEach [] X.env)).any (·.1) = false) slim0._auto_1) :
    XE X xw (.Call (.Name "abs" p) [a] [] pos) (b1 absR fa) := ⟨de_abs hm ha.h hg he hpl⟩
theorem i_seq (h : XE X xw e f) : XI X xw tg e (b1 seqR f) := ⟨di_seq h.h⟩
theorem g_name (i : Nat) {x : Str} (hN : X.N.Nodup) (hi : autoParam (X.N[i]? = some x) slim0._auto_1) (hx : autoParam (Loc X.env.scope x) slim7._auto_1) (hf : autoParam (X.fn x = true ∨ X.env.scope.names.lookup x = some .local) slim5._auto_1) :
    XG X (.Name x pos) (setI i) := ⟨Cz2Y i hN hi hx hf⟩
theorem g_nil : XGs X [] unNil := ⟨Cz2X⟩
theorem g_cons {tgs : List Expr} {ts : List D → DSt → Res DSt} (h1 : XG X tg t) (h2 : XGs X tgs ts) (hs : autoParam ((assignEach (tg :: tgs) X.env).map (·.2) = assign tg X.env :: (assignEach tgs X.env).map (·.2)) slim0._auto_1) : XGs X (tg :: tgs) (unCons t ts) := ⟨Bz9D h1.h h2.h hs⟩
theorem g_tup {tgs : List Expr} {ts : List D → DSt → Res DSt} {k : Nat} {n : Nat} (hc : X.calm = true) (h : XGs X tgs ts) (hn : autoParam ((assignEach tgs X.env).length = n) slim0._auto_1) (hst : autoParam ((assignEach tgs X.env).findIdx? (·.1) = none) slim0._auto_1) : XG X (.Tuple tgs k pos) (unTup n ts) := ⟨dg_tup hc h.h hn hst⟩
theorem t_nil : XTs X [] (fun _ => .ok true) := ⟨Cz2N⟩
theorem t_one (h : XT X xwF c gc) : XTs X [c] gc := ⟨Cz2M h.h⟩
theorem s_asg (he : XE X xw e f) (hg : XG X tg t) (hs : autoParam (swapsWithSole [tg] e pos.line X.env = pure false) slim0._auto_1) (hw : autoParam (swappedStores [tg] e X.env = pure none) slim0._auto_1)
    (h1 : autoParam ((assignEach [tg] X.env).map (·.2) = [assign tg X.env]) slim0._auto_1) : XS X xw (.Assign [tg] e pos) (sAsg t f) := ⟨ds_asg' he.h hg.h hs hw h1⟩
theorem s_no : XS X xw st (fun _ => .stuck) := ⟨ds_no⟩
theorem ss_nil : XSs X xw [] .nx := ⟨Cz2P⟩
theorem ss_one (h1 : XS X xw st g1) : XSs X xw [st] g1 := ⟨Cz2O h1.h⟩
theorem x_int {i : Int} {j} : XE X xw (.Constant (.int i) j pos) (kD (.int i)) := ⟨de_int⟩
theorem x_bl {i : Bool} {j} : XE X xw (.Constant (.bool i) j pos) (kD (.bl i)) := ⟨de_bl⟩
theorem x_str {i : Str} {j} : XE X xw (.Constant (.str i) j pos) (kD (.str i)) := ⟨de_str⟩
theorem x_non {j} : XE X xw (.Constant .none j pos) (kD .non) := ⟨de_non⟩
theorem x_add (ha : XP X xw a fa) (hb : XP X xw b fb) : XE X xw (.BinOp a .Add b pos) (b2 addD fa fb) := ⟨de_add ha.h hb.h⟩
theorem x_sub (ha : XP X xw a fa) (hb : XP X xw b fb) : XE X xw (.BinOp a .Sub b pos) (b2 subD fa fb) := ⟨de_sub ha.h hb.h⟩
theorem x_mod (ha : XP X xw a fa) (hb : XP X xw b fb) : XE X xw (.BinOp a .Mod b pos) (b2 modD fa fb) := ⟨de_mod ha.h hb.h⟩
theorem x_fdiv (ha : XP X xw a fa) (hb : XP X xw b fb) : XE X xw (.BinOp a .FloorDiv b pos) (b2 fdivD fa fb) := ⟨Cz3B ha.h hb.h⟩
theorem x_pow (ha : XP X xw a fa) (hb : XP X xw b fb) : XE X xw (.BinOp a .Pow b pos) (b2 powD fa fb) := ⟨de_pow ha.h hb.h⟩
theorem x_neg (ha : XP X xw a fa) : XE X xw (.UnaryOp .USub a pos) (b1 negD fa) := ⟨de_neg ha.h⟩
theorem y_cmp {o : CmpOp} {op : D → D → Res D} (hc : CmpR X xw o op) (ha : XP X xw a fa) (hb : XP X xw b fb) : XT X xw (.Compare a [o] [b] pos) (tR (b2 op fa fb)) := ⟨dt_cmp hc ha.h hb.h⟩
theorem x_isN {j pos'} (ha : XP X xw a fa) : XE X xw (.Compare a [.Is] [.Constant .none j pos'] pos) (b1 isNR fa) := ⟨de_isN ha.h⟩
theorem y_isN {j pos'} (ha : XP X xw a fa) : XT X xw (.Compare a [.Is] [.Constant .none j pos'] pos) (tR (b1 isNR fa)) := ⟨dt_isN ha.h⟩
theorem y_val (h : XE X xw e f) (he : autoParam (∀ whole, isTrue e X.env whole = (do let v ← whole; standAt e.pos; holding [v] (truthy v))) slim2._auto_1) : XT X xw e (tR f) := ⟨DE.t h.h he⟩
theorem y_not (ha : XT X xw a ga) : XT X xw (.UnaryOp .Not a pos) (tNot1 ga) := ⟨dt_not ha.h⟩
theorem w_and (ha : XT X xw a ga) (hb : XW' X xw (.BoolOp .And (b :: rest) pos) gb) : XW' X xw (.BoolOp .And (a :: b :: rest) pos) (tAnd2 ga gb) := ⟨dw_and ha.h hb.h⟩
theorem w_or (ha : XT X xw a ga) (hb : XW' X xw (.BoolOp .Or (b :: rest) pos) gb) : XW' X xw (.BoolOp .Or (a :: b :: rest) pos) (tOr2 ga gb) := ⟨dw_or ha.h hb.h⟩
theorem a_nil : XA X xw [] aNil := ⟨da_nil⟩
theorem a_cons (ha : XE X xw a fa) (hr : XA X xw es fs) (hs : autoParam (starEach (a :: es) X.env = (false, eval a X.env) :: starEach es X.env) slim0._auto_1) : XA X xw (a :: es) (aCons fa fs) := ⟨Cz3E ha.h hr.h hs⟩
theorem x_tup {x1} (h : XA X xw es fs) : XE X xw (.Tuple es x1 pos) (b1 tupR fs) := ⟨de_tup h.h⟩
theorem f_lst (h : XA X xw es fs) : XF X xw (.List es pos) (b1 lstR fs) := ⟨df_lst h.h⟩
theorem x_new (h : XF X xw e fs) : XE X xw e (asD fs) := ⟨DF.de h.h⟩
theorem x_ix (ha : XP X xw a fa) (hb : XP X xw b fb) (hs : autoParam (Az8R b) slim3._auto_1) : XE X xw (.Subscript a b pos) (b2 ixR fa fb) := ⟨de_ix ha.h hb.h hs⟩
theorem o_some (h : XE X xw e f) : XO X xw (some e) (b1 partR f) := ⟨Cz2U h.h⟩
theorem f_slL (ha : XP X xw a fa) (hl : XO X xw lo fl) (hh : XO X xw hi fh) : XF X xw (.Subscript a (.Slice lo hi none p2) pos) (b3 slL fa fl fh) := ⟨df_slL ha.h hl.h hh.h⟩
theorem x_len (hm : X.mg "len" = none) (ha : XP X xw a fa) (hg : autoParam (Gl X "len") slim0._auto_1) (he : autoParam (starEach [a] X.env = (false, eval a X.env) :: starEach [] X.env) slim0._auto_1) (hpl : autoParam ((backTo pos (starEach [] X.env)).any (·.1) = false) slim0._auto_1) :
    XE X xw (.Call (.Name "len" p) [a] [] pos) (b1 lenR fa) := ⟨de_len hm ha.h hg he hpl⟩
theorem x_call {k n : Nat} {x : Str} {m : List D → Res D} (F : Fn X.prog X.w X.K X.mg X.base k x n m) (hr : Room k X.A) (ha : XA X xw (a :: es) fs) (hg : autoParam (Gl X x) slim0._auto_1)
    (hdb : autoParam ((x == ("__debug__" : Str)) = false) slim1._auto_1) (he : autoParam (starEach (a :: es) X.env = (false, eval a X.env) :: starEach es X.env) slim0._auto_1) (hpl : autoParam ((backTo pos (starEach es X.env)).any (·.1) = false) slim0._auto_1) :
    XE X xw (.Call (.Name x p) (a :: es) [] pos) (b1 (callR n m) fs) := ⟨Cz3C F hr ha.h hg hdb he hpl⟩
theorem f_comp (Nc Nx : List Str) (c : CompOk X scope Nc Nx) (hcalm : X.calm = true) (hi : XI X xw tg iter fi)
    (hY : ∀ (C : Addr) (fp : List Addr) (pins : List (Addr × Obj)) (s : Shared) (H : Hp), XG (compCx X scope Nc Nx C fp pins s H) tg t ∧ XTs (compCx X scope Nc Nx C fp pins s H) ifs gc ∧ XE (compCx X scope Nc Nx C fp pins s H) xwF elt fe)
    (hs : autoParam (∀ x, foldedSetIterable iter X.env x = pure x) slim2._auto_1) :
    XF X xw (.ListComp elt [⟨tg, iter, ifs, 0⟩] scope pos) (vComp Nc.length t gc fe fi) := ⟨Cz2Z Nc Nx c hcalm hi.h (fun C fp pins s H => ⟨(hY C fp pins s H).1.h, (hY C fp pins s H).2.1.h, (hY C fp pins s H).2.2.h⟩) hs⟩
theorem s_ownC (i : Nat) {x : Str} {py : Pos} (hN : X.N.Nodup) (Nc Nx : List Str) (c : CompOk X scope Nc Nx) (hcalm : X.calm = true) (hi : XI X xw tg iter fi)
    (hY : ∀ (C : Addr) (fp : List Addr) (pins : List (Addr × Obj)) (s : Shared) (H : Hp), XG (compCx X scope Nc Nx C fp pins s H) tg t ∧ XTs (compCx X scope Nc Nx C fp pins s H) ifs gc ∧ XE (compCx X scope Nc Nx C fp pins s H) xwF elt fe)
    {spos : Pos} (hiN : autoParam (X.N[i]? = some x) slim0._auto_1) (hx : autoParam (Loc X.env.scope x) slim7._auto_1)
    (hsw : autoParam (swapsWith (.ListComp elt [⟨tg, iter, ifs, 0⟩] scope pos) (some (.Name x py)) spos.line X.env = pure true) slim0._auto_1)
    (hf : autoParam (X.fn x = true ∨ X.env.scope.names.lookup x = some .local) slim5._auto_1)
    (hs : autoParam (∀ x, foldedSetIterable iter X.env x = pure x) slim2._auto_1) :
    XS X xw (.Assign [.Name x py] (.ListComp elt [⟨tg, iter, ifs, 0⟩] scope pos) spos) (sOwn i (vComp Nc.length t gc fe fi)) := ⟨Cz2R i hN Nc Nx c hcalm hi.h (fun C fp pins s H => ⟨(hY C fp pins s H).1.h, (hY C fp pins s H).2.1.h, (hY C fp pins s H).2.2.h⟩) hiN hx hsw hf hs⟩
theorem Az5B (hm : X.mg "range" = none) (ha : XA X xw [a] fs) (hg : autoParam (Gl X "range") slim0._auto_1) (hs : autoParam (starEach [a] X.env = [(false, eval a X.env)]) slim0._auto_1) : XI X xw tg (.Call (.Name "range" p) [a] [] pos) (b1 rng1R fs) := ⟨Bz6F hm ha.h hg hs⟩
theorem Az0B (h1 : XS X xw st g1) (h2 : XSs X xw sts g2) : XSs X xw (st :: sts) (sSeq g1 g2) := ⟨Bz8Y h1.h h2.h⟩
theorem s_ret (he : XE X xw e f) : XS X xw (.Return (some e) pos) (sRet f) := ⟨ds_ret he.h⟩
theorem s_retV (i : Nat) {x : Str} {pos' : Pos} (hN : autoParam (X.N[i]? = some x) slim0._auto_1) (hv : autoParam (Vis X.env.scope x) slim6._auto_1) (hd : autoParam ((x == ("__debug__" : Str)) = false) slim1._auto_1)
    (hcd : autoParam ((x == ("__classdict__" : Str)) = false) slim1._auto_1) : XS X xw (.Return (some (.Name x pos')) pos) (sRet (slotP i)) := ⟨Cz2Q i hN hv hd hcd⟩
theorem s_set (i : Nat) {x : Str} {pos' : Pos} (hN : X.N.Nodup) (he : XE X xw e f) (hi : autoParam (X.N[i]? = some x) slim0._auto_1) (hx : autoParam (Loc X.env.scope x) slim7._auto_1) (hs : autoParam (swapsWith e (some (.Name x pos')) pos.line X.env = pure false) slim0._auto_1)
    (hf : autoParam (X.fn x = true ∨ X.env.scope.names.lookup x = some .local) slim5._auto_1) : XS X xw (.Assign [.Name x pos'] e pos) (sSet i f) := ⟨ds_set i hN he.h hi hx hs hf⟩
theorem s_own (i : Nat) {x : Str} {pos' : Pos} {ff : DSt → Res (List D)} (hN : X.N.Nodup) (he : XF X xw e ff) (hi : autoParam (X.N[i]? = some x) slim0._auto_1) (hx : autoParam (Loc X.env.scope x) slim7._auto_1) (hs : autoParam (swapsWith e (some (.Name x pos')) pos.line X.env = pure false) slim0._auto_1)
    (hf : autoParam (X.fn x = true ∨ X.env.scope.names.lookup x = some .local) slim5._auto_1) : XS X xw (.Assign [.Name x pos'] e pos) (sOwn i ff) := ⟨ds_own i hN he.h hi hx hs hf⟩
theorem s_if (hc : XT X xw c ga) (ha : XSs X xw as g1) (hb : XSs X xw bs g2) : XS X xw (.If c as bs pos) (sIf ga g1 g2) := ⟨ds_if hc.h ha.h hb.h⟩
theorem s_for (hp : PassesOwn (model X.prog X.w) X.A X.env X.xe) (hc : X.calm = true) (hi : XI X xw tg iter fi) (hg : XG X tg t) (hb : XSs X xw sts g)
    (hs : autoParam (∀ x, foldedSetIterable iter X.env x = pure x) slim2._auto_1) : XS X xw (.For tg iter sts [] pos) (sFor t g fi) := ⟨ds_for hp hc hi.h hg.h hb.h hs⟩
theorem Cz0E (n : Nat) (hp : PassesOwn (model X.prog X.w) X.A X.env X.xe) (hc : XT X xw c ga) (hb : XSs X xw sts g) : XS X xw (.While c sts [] pos) (sWhile n ga g) := ⟨Bz8Z n hp hc.h hb.h⟩
theorem Az3N (i : Nat) {x : Str} {p1 p2 p3 : Pos} (he : XE X xw e f) (hN : autoParam (X.N[i]? = some x) slim0._auto_1) (hv : autoParam (Vis X.env.scope x) slim6._auto_1) (hd : autoParam ((x == ("__debug__" : Str)) = false) slim1._auto_1)
    (hcd : autoParam ((x == ("__classdict__" : Str)) = false) slim1._auto_1)
    (hsE : autoParam (starEach [e] X.env = (false, eval e X.env) :: starEach [] X.env) slim0._auto_1)
    (hbase : autoParam (attributeBase (.Name x p1) "append" X.env (eval (.Name x p1) X.env) = eval (.Name x p1) X.env) slim0._auto_1)
    (hfew : autoParam (((backTo p3 (starEach [e] X.env)).all (fun x => !x.1) && (backToKw p3 (keywordEach [] X.env)).all (fun x => x.1.isSome)
      && decide (([e] : List Expr).length + ([] : List Keyword).length + (if ([] : List Keyword).isEmpty then 0 else 1) < 30)) = true) slim0._auto_1)
    (hline : autoParam ((p2.endLine == p3.line) = true) slim0._auto_1) (hplain : autoParam ((backTo p3 (starEach [] X.env)).any (·.1) = false) slim0._auto_1)
    (hsw : autoParam (swapsWith (.Call (.Attribute (.Name x p1) "append" p2) [e] [] p3) none pos.line X.env = pure false) slim0._auto_1) :
    XS X xw (.Expr (.Call (.Attribute (.Name x p1) "append" p2) [e] [] p3) pos) (sApp i f) := ⟨Bz6E i he.h hN hv hd hcd hsE hbase hfew hline hplain hsw⟩
end
theorem fn_def {P : Program} {w : World} {K : PySem.W.Frag} {mg : Str → Option Value} {base : Heap} {k : Nat} {x qual : Str} {st : Stmt} {fa : Addr} {fd : FuncData} {N ps : List Str} {g : DSt → Out} (F : Fun K x qual st fa fd) (S : FnScope N ps (Az0A st))
    (hm : mg x = some (.ref fa)) (hb : Binds K fd ps [])
    (body : ∀ (cdv : Value) (A : Around) (outer : List Env) (s : Shared) (H : Hp) (E : XK), Room k (A.deeper (envOfC qual (Az0A st) s.heap.objs.size fa cdv)) →
      XSs (cxOf CX0 P w K mg base N qual (Az0A st) fa cdv A outer s H E).nox xwF (Az0J st) g) : Fn P w K mg base (k + 1) x ps.length (runD N.length g) :=
  Cz2F F S hm hb fun cdv A outer s H E hr => (body cdv A outer s H E hr).h
theorem fn_law {P : Program} {w : World} {K : PySem.W.Frag} {mg : Str → Option Value} {base : Heap} {k : Nat} {x qual : Str} {st : Stmt} {fa : Addr} {fd : FuncData} {N ps : List Str} {g : DSt → Out} (F : Fun K x qual st fa fd) (S : FnScope N ps (Az0A st))
    (body : ∀ (cdv : Value) (A : Around) (outer : List Env) (s : Shared) (H : Hp) (E : XK), Room k (A.deeper (envOfC qual (Az0A st) s.heap.objs.size fa cdv)) →
      XSs (cxOf CX0 P w K mg base N qual (Az0A st) fa cdv A outer s H E).nox xwF (Az0J st) g) : FnOk P w K mg base CX0 (k + 1) fa fd ps (spD K ps.length (runD N.length g)) :=
  Bz8V F S fun cdv A outer s H E hr => (body cdv A outer s H E hr).h
end L3
namespace L3
open PySem PySem.Spec PyProof.Rows L2
section
variable {t : D → DSt → Res DSt} {body : DSt → Out}
theorem Az3L (I : Nat → DSt → Prop) (ds : List D) (δ : DSt) (hb : ∀ i d δ, ds[i]? = some d → I i δ → ∃ δ', t d δ = .ok δ' ∧ ∃ δ2, (body δ' = .nx δ2 ∨ body δ' = .ct δ2) ∧ I (i + 1) δ2) (h : I 0 δ) : ∃ δ2, forD t body ds δ = .nx δ2 ∧ I ds.length δ2 := by
  induction ds generalizing I δ with
  | nil => exact ⟨δ, rfl, h⟩
  | cons d ds ih =>
    obtain ⟨δ', e1, δ2, e2, h2⟩ := hb 0 d δ rfl h
    obtain ⟨δ3, e3, h3⟩ := ih (fun i => I (i + 1)) δ2 (fun i x δ hx hI => hb (i + 1) x δ (by simpa using hx) hI) h2
    refine ⟨δ3, ?_, h3⟩
    rw [Bz0G d ds δ δ' e1]
    rcases e2 with e2 | e2 <;> · rw [e2]; exact e3
end
section
variable {fe : DSt → Res D} {c : DSt → Res Bool}
theorem Az1G {n : Nat} {t : D → DSt → Res DSt} {δ : DSt} {ds r : List D} (h : compD t c fe ds (List.replicate n none ++ δ) = .ok r) (hl : ds.length ≤ 100000) : compR n t c fe δ ds = .ok r := by
  unfold compR
  rw [if_pos hl, h]; rfl
end
theorem Cz0G (n : Nat) (h : n < 100000) : rng1R [.int n] = .ok (rngD 0 n) := by
  unfold rng1R
  simp only
  rw [if_pos (by omega)]
  simp
theorem rng1_i (j : Int) (h0 : 0 ≤ j) (h : j < 100000) : rng1R [.int j] = .ok (rngD 0 j.toNat) := by
  unfold rng1R
  simp only
  rw [if_pos (by omega)]
theorem Az6Y {lo : Int} {n i : Nat} {d : D} (h : (rngD lo n)[i]? = some d) : i < n ∧ d = .int (lo + i) := by
  unfold rngD at h
  rw [List.getElem?_map] at h
  have hi : i < n := by
    refine Nat.lt_of_not_le fun z => ?_
    rw [List.getElem?_eq_none (by simpa using z)] at h; cases h
  rw [List.getElem?_range hi] at h
  exact ⟨hi, (Option.some.inj h).symm⟩
theorem Az5P (lo : Int) (n : Nat) : (rngD lo n).length = n := by simp [rngD]
theorem eqR_nil' (ds : List D) (h : ∀ d ∈ ds, shal 39 d = true) : eqR (.lst ds) (.lst []) = .ok (.bl ds.isEmpty) := by
  have hs : shal 40 (.lst ds) = true := by rw [shal, List.all_eq_true]; exact h
  unfold eqR
  rw [hs]
  cases ds <;> simp [shal, eqD, eqL]
theorem Cz1M (ds : List D) (h : ∀ d ∈ ds, shal 39 d = true) : neR (.lst ds) (.lst []) = .ok (.bl (!ds.isEmpty)) := by
  have hs : shal 40 (.lst ds) = true := by rw [shal, List.all_eq_true]; exact h
  unfold neR
  rw [hs]
  cases ds <;> simp [shal, eqD, eqL]
theorem Bz9O {α : Type} (xs : List α) (v : α) : atI (xs ++ [v]) (-1) = some v := L2.atI_last xs v
theorem Az6B (i : Nat) (δ : DSt) (ds : List D) (d : D) (h : δ[i]? = some (some (.o ds))) (hl : ds.length ≤ 100000) : appO i δ (.ok d) = .nx (δ.set i (some (.o (ds ++ [d])))) := by
  unfold appO
  rw [h]
  show (@ite Out (ds.length ≤ 100000) (Classical.propDecidable _) _ _) = _
  rw [if_pos hl]; rfl
end L3
namespace L3
open PySem
theorem Bz9U : fillsNumberSlot (.type "tuple") "mul" = pure false := fillsNumberSlot_seq (id := "tuple.__mul__") (r := some (.builtin "tuple.__rmul__")) F.slot_tuple_mul.lookup (by decide +kernel) F.slot_tuple_rmul.lookup (by decide +kernel)
theorem tm_rep : seqRepeat? (.type "tuple") = pure (some (.builtin "tuple.__mul__")) := by
  unfold seqRepeat?
  rw [seqSlot_of (T := "tuple") (name := "__mul__") (id := "tuple.__mul__") F.slot_tuple_mul.lookup (by decide +kernel), seqSlot_of (T := "tuple") (name := "__rmul__") (id := "tuple.__rmul__") F.slot_tuple_rmul.lookup (by decide +kernel)]; rfl
theorem tm_no (a : Int) (t : Tok) (l : Addr) (items : Array Value) (n : Nat) (dd : Option Addr) (sl : Array (Option Value)) :
    Meets (Builtin.«int.__rmul__» ⟨[.int a t, .ref l], []⟩) (fun _ R s => s.heap.get? l = some { cls := .type "tuple", dict := dd, data := .seq items n, slots := sl } ∧ R (.ok (.ret Value.notImplemented)) s) :=
  .of_wp fun prog w A R s h => by
    obtain ⟨hp, g, d, tk, os⟩ := s
    obtain ⟨hl, h⟩ := h
    wp_walk
    exact ⟨_, rfl, h⟩
theorem tm_one (l : Addr) (items : Array Value) (n : Nat) (dd : Option Addr) (sl : Array (Option Value)) (u : Tok) :
    Meets (Builtin.«tuple.__mul__» ⟨[.ref l, .int 1 u], []⟩) (fun _ R s => s.heap.get? l = some { cls := .type "tuple", dict := dd, data := .seq items n, slots := sl } ∧ R (.ok (.ret (Value.ref l))) s) :=
  .of_wp fun prog w A R s h => by
    obtain ⟨hp, g, d, tk, os⟩ := s
    obtain ⟨hl, h⟩ := h
    wp_walk
    exact ⟨_, rfl, h⟩
theorem Bz9T (l : Addr) (items : Array Value) (n : Nat) (dd : Option Addr) (sl : Array (Option Value)) (k : Int) (u : Tok) (h0 : (decide (k < -2 ^ 63) || decide (k ≥ 2 ^ 63)) = false) (h1 : (items.isEmpty || k == 1) = false) (h2 : (decide (k ≤ 0) || items.isEmpty) = false) (h3 : ¬ (items.size * k > (2 ^ 63 - 1) / 8)) (h4 : Builtin.Tuple.tupleTooMany (items.size * k) = false) (h5 : ((List.replicate k.toNat items).foldl (· ++ ·) #[]).size ≤ sizeLine) :
    Meets (Builtin.«tuple.__mul__» ⟨[.ref l, .int k u], []⟩) (fun _ R s => s.heap.get? l = some { cls := .type "tuple", dict := dd, data := .seq items n, slots := sl } ∧ R (.ok (.ret (Value.ref s.heap.objs.size))) { s with heap := s.heap.push { cls := .type "tuple", data := .seq ((List.replicate k.toNat items).foldl (· ++ ·) #[]) } }) :=
  .of_wp fun prog w A R s h => by
    obtain ⟨hp, g, d, tk, os⟩ := s
    obtain ⟨hl, h⟩ := h
    wp_walk
    refine wpAny_ite_false (by rw [h0]; rfl) ?_
    wp_walk
    refine wpAny_ite_false (decide_eq_false h3) ?_
    wp_walk
    exact ⟨_, rfl, h⟩
end L3
namespace L3
open PySem PySem.Spec PyProof.Rows L2 SeqAt
section
variable {X : Cx} {xw : XW} {a b : Expr} {fa fb : DSt → Res D} {pos p : Pos}
theorem Cz0Z : OpR X (binaryOp .Mult) (fun x y H Q => ∃ l k xs, x = .ref l ∧ y = .int k ∧ SqT X.K H l xs ∧ xs ≠ [] ∧ 1 ≤ k ∧ k ≤ 1000 ∧ xs.length ≤ 1000 ∧ (k = 1 → Q (.ref l) H) ∧ (k ≠ 1 → ∀ p, H p = none → Q (.ref p) (upd H p (.tup (List.replicate k.toNat xs).flatten)))) := by
  intro pins s σ H x y v u Q I rx ry h
  obtain ⟨l, k, xs, rfl, rfl, sq, hne, h1, h2, hl, q1, q2⟩ := h
  cases rx
  obtain ⟨t, rfl⟩ := ry
  obtain ⟨its, r, ⟨⟨cls, dd, data, sl⟩, ho, hc, n, hd⟩, hz⟩ := I.tuple sq
  simp only at hc hd
  subst hc hd
  have hlen := r.length
  have hi : its ≠ [] := fun e => hne (by rw [e] at hlen; exact List.eq_nil_of_length_eq_zero hlen)
  have he : its.toArray.isEmpty = false := by cases its with
    | nil => exact absurd rfl hi
    | cons => simp
  have hsz : (its.toArray.size : Int) * k ≤ 1000000 := by
    rw [List.size_toArray, ← hlen]
    have h3 : (xs.length : Int) * k ≤ 1000 * 1000 := Int.mul_le_mul (by omega) h2 (by omega) (by decide)
    omega
  have hsz' : (its.length : Int) * k ≤ 1000000 := by simpa using hsz
  refine wpAny_binaryOp_repeat_ref (T := "tuple") (U := "int") (by decide) ⟨_, ho, rfl⟩ (fun s' => typeIs_int s' k t) Bz9U F.fills_int_mul F.slot_int_rmul tm_rep F.slot_int_index.lookup
    (call_meets F.slot_int_rmul (typeIs_int s k t) F.entry_int_rmul (F.args_int_rmul_2 _ _) (tm_no k t l its.toArray n dd sl) ⟨ho, rfl, ⟨_, ho, rfl⟩, ?_⟩)
  by_cases hk : k = 1
  · subst hk
    exact call_meets F.slot_tuple_mul ⟨_, ho, rfl⟩ F.entry_tuple_mul (F.args_tuple_mul_2 _ _) (tm_one l its.toArray n dd sl t) ⟨ho, ⟨.ref l, H, I, rfl, q1 rfl⟩⟩
  · have hfl : (List.replicate k.toNat its.toArray).foldl (fun x1 x2 => x1 ++ x2) #[] = (List.replicate k.toNat its).flatten.toArray := by
      have := Bz0H its k.toNat []
      rw [List.nil_append] at this
      exact this
    have hfz : (List.replicate k.toNat its).flatten.length ≤ sizeLine := by
      rw [Bz6Z, sizeLine_eq]
      have h3 : its.length * k.toNat ≤ 1000 * 1000 := Nat.mul_le_mul (by omega) (by omega)
      rw [Nat.mul_comm]; omega
    refine call_meets F.slot_tuple_mul ⟨_, ho, rfl⟩ F.entry_tuple_mul (F.args_tuple_mul_2 _ _) (Bz9T l its.toArray n dd sl k t ?_ ?_ ?_ ?_ ?_ ?_) ⟨ho, ?_⟩
    · simp only [Bool.or_eq_false_iff, decide_eq_false_iff_not]; omega
    · rw [he]; simpa using hk
    · rw [he]; simp; omega
    · omega
    · unfold Builtin.Tuple.tupleTooMany
      have : ((sizeLine : Nat) : Int) = 16777216 := by rw [sizeLine_eq]; rfl
      rw [this]; simp; omega
    · rw [hfl, List.size_toArray]; exact hfz
    · rw [hfl]
      refine ⟨.ref s.heap.objs.size, _, I.laid (a := s.heap.objs.size) (o := .tup (List.replicate k.toNat xs).flatten) (t' := s.toks) (fun _ _ e => Heap.get?_push_of_some _ e) (Nat.le_refl _) ⟨?_, _, r.rep k.toNat, IsTup.new _ _⟩, rfl, q2 hk _ I.fresh⟩
      rw [Bz6Z, sizeLine_eq]
      have h3 : xs.length * k.toNat ≤ 1000 * 1000 := Nat.mul_le_mul (by omega) (by omega)
      rw [Nat.mul_comm]; omega
noncomputable def mulE : D → D → Res D
  | .int i, .int j => mulD (.int i) (.int j)
  | .tup xs, .int k => @ite (Res D) (xs ≠ [] ∧ 1 ≤ k ∧ k ≤ 1000 ∧ xs.length ≤ 1000) (Classical.propDecidable _) (.ok (.tup (List.replicate k.toNat xs).flatten)) .stuck
  | _, _ => .stuck
theorem Bz6V (i j : Int) : mulE (.int i) (.int j) = @ite (Res D) ((-18446744073709551616 < i ∧ i < 18446744073709551616) ∨ (-18446744073709551616 < j ∧ j < 18446744073709551616)) (Classical.propDecidable _) (.ok (.int (i * j))) .stuck := rfl
theorem HasL.rep {K : PySem.W.Frag} {W : WS} {H : Hp} {ds : List D} {xs : List V} (h : HasL K W H ds xs) : ∀ k : Nat, HasL K W H (List.replicate k ds).flatten (List.replicate k xs).flatten
  | 0 => by simp [HasL]
  | k + 1 => by
    rw [List.replicate_succ, List.flatten_cons, List.replicate_succ, List.flatten_cons]
    exact h.append (HasL.rep h k)
theorem x_mulE (ha : XP X xw a fa) (hb : XP X xw b fb) : XE X xw (.BinOp a .Mult b pos) (b2 mulE fa fb) := ⟨by
  refine de_op2 (op_mul.or Cz0Z) (fun W H d e v u Q w hv hu q => ?_) ha.h hb.h
  unfold mulE at q
  split at q
  · unfold mulD at q
    dsimp only at q
    split at q
    · rename_i hj
      exact .inl ⟨_, _, hv.int, hu.int, hj, q.int⟩
    · exact q.elim
  · split at q
    · rename_i xs k hj
      obtain ⟨l, ys, e, sq, r⟩ := hv.tup
      refine .inr ⟨l, k, ys, e, hu.int, sq, ?_, hj.2.1, hj.2.2.1, by rw [← r.length]; exact hj.2.2.2, fun hk => ?_, fun _ p hp => q.newT w hp (r.rep _)⟩
      · intro z
        subst z
        exact hj.1 (List.eq_nil_of_length_eq_zero (by simpa using r.length))
      · subst hk
        refine q _ H (Same.refl _) ?_
        rw [Has]
        exact ⟨l, ys, rfl, sq, by simpa using r⟩
    · exact q.elim
  · exact q.elim⟩
noncomputable def intsOf : List D → Option (List Int)
  | [] => some []
  | .int i :: r => (intsOf r).map (i :: ·)
  | _ => none
end
end L3
namespace L3
open PySem PySem.Spec PyProof.Rows L2 SeqAt
section
variable {K : PySem.W.Frag} {W₀ W : WS} {H₀ H H' : Hp} {σ : L2.St} {δ : DSt}
theorem StHas.freeze {i : Nat} {ds : List D} {a : Addr} (h : StHas K W₀ H₀ W H σ δ) (hi : δ[i]? = some (some (.o ds))) (hs : σ[i]? = some (some (.ref a))) :
    StHas K W₀ H₀ (fun b => W b ∧ b ≠ a) H σ (δ.set i (some (.d (.lst ds)))) ∧ Has K (fun b => W b ∧ b ≠ a) H (.lst ds) (.ref a) := by
  obtain ⟨v, h1, b, xs, e', hW, h0, h3, h4⟩ := h.at' i _ hi
  rw [hs] at h1
  cases h1
  cases e'
  have hd : Has K (fun b => W b ∧ b ≠ a) H (.lst ds) (.ref a) := by
    rw [Has]
    exact ⟨a, xs, rfl, .inl ⟨h3, fun z => z.2 rfl⟩, HasL.keep (fun _ _ e _ => e) h.fr.wl (fun b z => .inl z.1) h4⟩
  exact ⟨h.freezeG (owo ds) hi hs hd, hd⟩
end
section
variable {X : Cx} {xw : XW} {pos p p2 : Pos} {tg a b c : Expr} {fa fb : DSt → Res D} {fs : DSt → Res (List D)}
noncomputable def b2F (op : D → D → Res (List D)) (f g : DSt → Res D) : DSt → Res (List D) := fun δ => (f δ).bind fun x => (g δ).bind fun y => op x y
noncomputable def catR : D → D → Res (List D)
  | .lst xs, .lst ys => @ite (Res (List D)) (xs.length + ys.length ≤ sizeLine) (Classical.propDecidable _) (.ok (xs ++ ys)) .stuck
  | _, _ => .stuck
theorem Cz1E : OpR X (binaryOp .Add) (fun x y H Q => ∃ l b xs zs, x = .ref l ∧ y = .ref b ∧ SqL X.K H l xs ∧ SqL X.K H b zs ∧ xs.length + zs.length ≤ sizeLine ∧ ∀ p, H p = none → Q (.ref p) (upd H p (.lst (xs ++ zs)))) := by
  intro pins s σ H x y v u Q I rx ry h
  obtain ⟨l, b, xs, zs, rfl, rfl, hH, hB, hz, q⟩ := h
  cases rx
  cases ry
  obtain ⟨its, r, ⟨⟨cls, dd, data, sl⟩, n, e, hc, hd, hs⟩, hz1⟩ := I.list hH
  obtain ⟨its2, r2, ⟨⟨cls2, dd2, data2, sl2⟩, n2, e2, hc2, hd2, hs2⟩, hz2⟩ := I.list hB
  simp only at hc hd hs hc2 hd2 hs2
  subst hc hd hs hc2 hd2 hs2
  have hl := r.length
  have hl2 := r2.length
  refine concat_meets ⟨_, e, rfl⟩ ⟨_, e2, rfl⟩ noFill_list_add seq_list_add PySem.F.slot_list_add PySem.F.entry_list_add (PySem.F.args_list_add_2 _ _) (list_addW l b its.toArray its2.toArray n n2 none none sl sl2 (by rw [List.size_toArray, List.size_toArray]; omega)) ⟨e, e2, ?_⟩
  have ea : its.toArray ++ its2.toArray = (its ++ its2).toArray := by simp
  rw [ea]
  exact ⟨.ref _, _, I.lnew (t' := s.toks) (r.append r2) (by rw [List.length_append]; omega), rfl, q _ I.fresh⟩
theorem Bz4V {σ : L2.St} {H : Hp} {W₀ W : WS} {H₀ : Hp} {δ : DSt} {op : D → D → Res (List D)} {Q : VK} {R : V → V → Hp → Prop} (st : StHas X.K W₀ H₀ W H σ δ)
    (q : RF X.K xw W H ((fa δ).bind fun x => (fb δ).bind fun y => op x y) Q)
    (h : ∀ H2 d e v u, Same H H2 → WL W H2 → HasT X.K W H2 d v → HasT X.K W H2 e u → RF X.K xw W H2 (op d e) Q → R v u H2) :
    tDP X.K xw fa σ H fun x H1 => tDP X.K xw fb σ H1 fun y H2 => R x y H2 := by
  refine ⟨W₀, H₀, W, δ, st, ?_⟩
  cases h1 : fa δ with
  | stuck => rw [h1] at q; exact q
  | ex c fs => rw [h1] at q; exact q
  | ok d =>
    rw [h1] at q
    intro v H1 k1 hv
    refine ⟨W₀, H₀, W, δ, st.same k1, ?_⟩
    have q' : RF X.K xw W H ((fb δ).bind fun y => op d y) Q := q
    cases h2 : fb δ with
    | stuck => rw [h2] at q'; exact q'
    | ex c fs => rw [h2] at q'; exact fun H2 k2 => q' H2 (k1.trans k2)
    | ok e =>
      rw [h2] at q'
      intro u H2 k2 hu
      have q2 : RF X.K xw W H (op d e) Q := q'
      exact h H2 d e v u (k1.trans k2) (st.fr.wl.same (k1.trans k2)) (hv.same k2 (st.fr.wl.same k1)) hu (RF.same q2 (k1.trans k2))
theorem f_cat (ha : XP X xw a fa) (hb : XP X xw b fb) : XF X xw (.BinOp a .Add b pos) (b2F catR fa fb) :=
  ⟨PE.weak (pe_op Cz1E ha.h hb.h) fun σ H Q ⟨W₀, H₀, W, δ, st, q⟩ => Bz4V st q fun H2 d e v u k w hv hu q2 => by
    unfold catR at q2
    split at q2
    · split at q2
      · rename_i hz
        obtain ⟨a1, xs, e1, s1, r1⟩ := hv.lst
        obtain ⟨a2, ys, e2, s2, r2⟩ := hu.lst
        exact ⟨a1, a2, xs, ys, e1, e2, s1, s2, by rw [← r1.length, ← r2.length]; exact hz, fun p hp => q2 p _ H2 (Same.refl _) hp (r1.append r2)⟩
      · exact q2.elim
    · exact q2.elim⟩
end
end L3
namespace L3
open PySem PySem.Spec PyProof.Rows L2 SeqAt
noncomputable def flatD : D → Bool
  | .non => true
  | .bl _ => true
  | .int _ => true
  | .str _ => true
  | _ => false
section
variable {K : PySem.W.Frag} {W : WS} {H : Hp}
theorem Az5T {d : D} {v : V} (h : Has K W H d v) (f : flatD d = true) : flatV v = true := by
  cases d with
  | non => rw [Has] at h; subst h; rfl
  | bl b => rw [Has] at h; subst h; rfl
  | int i => rw [Has] at h; subst h; rfl
  | str x => rw [Has] at h; subst h; rfl
  | _ => cases f
theorem eq_has {d e : D} {v u : V} (h : Has K W H d v) (g : Has K W H e u) (f : flatD d = true) (f2 : flatD e = true) : eqV v u = eqD d e := by
  cases d with
  | non => rw [Has] at h; subst h; cases e <;> first | exact absurd (show false = true from f2) Bool.false_ne_true | (rw [Has] at g; subst g; simp [eqV, eqD])
  | bl b => rw [Has] at h; subst h; cases e <;> first | exact absurd (show false = true from f2) Bool.false_ne_true | (rw [Has] at g; subst g; simp [eqV, eqD])
  | int i => rw [Has] at h; subst h; cases e <;> first | exact absurd (show false = true from f2) Bool.false_ne_true | (rw [Has] at g; subst g; simp [eqV, eqD])
  | str x => rw [Has] at h; subst h; cases e <;> first | exact absurd (show false = true from f2) Bool.false_ne_true | (rw [Has] at g; subst g; simp [eqV, eqD])
  | _ => cases f
theorem in_has {d : D} {v : V} (h : Has K W H d v) (f : flatD d = true) : ∀ {ds : List D} {xs : List V}, HasL K W H ds xs → ds.all flatD = true → xs.all flatV = true ∧ inV v xs = ds.any (fun y => eqD y d)
  | [], _, r, _ => by rw [HasL] at r; subst r; exact ⟨rfl, rfl⟩
  | e :: ds, _, r, fs => by
    rw [HasL] at r
    obtain ⟨x, q, rfl, hx, hq⟩ := r
    rw [List.all_cons, Bool.and_eq_true] at fs
    obtain ⟨h1, h2⟩ := in_has h f hq fs.2
    refine ⟨by rw [List.all_cons, Az5T hx fs.1, h1]; rfl, ?_⟩
    show (eqV x v || inV v q) = (eqD e d || ds.any fun y => eqD y d)
    rw [eq_has hx h fs.1 f, h2]
end
noncomputable def subS (i j : Str) : Bool := !(Builtin.Str.occurrences j i 0 j.length 1).isEmpty
noncomputable def inB (d : D) (ds : List D) : Bool := ds.any fun y => eqD y d
noncomputable def inR : D → D → Res D
  | .str i, .str j => .ok (.bl (subS i j))
  | d, .tup ds => if (flatD d && ds.all flatD) = true then .ok (.bl (inB d ds)) else .stuck
  | d, .lst ds => if (flatD d && ds.all flatD) = true then .ok (.bl (inB d ds)) else .stuck
  | _, _ => .stuck
noncomputable def ninR : D → D → Res D
  | .str i, .str j => .ok (.bl (!subS i j))
  | d, .tup ds => if (flatD d && ds.all flatD) = true then .ok (.bl (!inB d ds)) else .stuck
  | d, .lst ds => if (flatD d && ds.all flatD) = true then .ok (.bl (!inB d ds)) else .stuck
  | _, _ => .stuck
section
variable {X : Cx} {xw : XW} {pos p p2 : Pos} {tg a b c e : Expr} {f fa fb : DSt → Res D} {fs : DSt → Res (List D)}
theorem flatT {K : PySem.W.Frag} {W : WS} {H : Hp} {d : D} {v : V} (h : HasT K W H d v) (f : flatD d = true) : Has K W H d v := by
  rcases h with h | ⟨ds, _, _, rfl, _⟩
  · exact h
  · cases f
theorem op2_in : Op2 X xw (fun x y H Q => (∃ i j, x = .str i ∧ y = .str j ∧ Q (.bl (!(Builtin.Str.occurrences j i 0 j.length 1).isEmpty)) H) ∨ rIn X.K false x y H Q) inR := by
  intro W H d e v u Q w hv hu q
  unfold inR at q
  split at q
  · exact .inl ⟨_, _, hv.str, hu.str, q.bl⟩
  · split at q
    · rename_i hf
      rw [Bool.and_eq_true] at hf
      obtain ⟨a1, xs, e1, sq, r⟩ := hu.tup
      obtain ⟨h1, h2⟩ := in_has (flatT hv hf.1) hf.1 r hf.2
      exact .inr ⟨a1, xs, e1, .inr sq, Az5T (flatT hv hf.1) hf.1, h1, by rw [if_neg Bool.false_ne_true, h2]; exact q.bl⟩
    · exact q.elim
  · split at q
    · rename_i hf
      rw [Bool.and_eq_true] at hf
      obtain ⟨a1, xs, e1, sq, r⟩ := hu.lst
      obtain ⟨h1, h2⟩ := in_has (flatT hv hf.1) hf.1 r hf.2
      exact .inr ⟨a1, xs, e1, .inl sq, Az5T (flatT hv hf.1) hf.1, h1, by rw [if_neg Bool.false_ne_true, h2]; exact q.bl⟩
    · exact q.elim
  · exact q.elim
theorem Cz1F : Op2 X xw (fun x y H Q => (∃ i j, x = .str i ∧ y = .str j ∧ Q (.bl (!(!(Builtin.Str.occurrences j i 0 j.length 1).isEmpty))) H) ∨ rIn X.K true x y H Q) ninR := by
  intro W H d e v u Q w hv hu q
  unfold ninR at q
  split at q
  · exact .inl ⟨_, _, hv.str, hu.str, q.bl⟩
  · split at q
    · rename_i hf
      rw [Bool.and_eq_true] at hf
      obtain ⟨a1, xs, e1, sq, r⟩ := hu.tup
      obtain ⟨h1, h2⟩ := in_has (flatT hv hf.1) hf.1 r hf.2
      exact .inr ⟨a1, xs, e1, .inr sq, Az5T (flatT hv hf.1) hf.1, h1, by rw [if_pos rfl, h2]; exact q.bl⟩
    · exact q.elim
  · split at q
    · rename_i hf
      rw [Bool.and_eq_true] at hf
      obtain ⟨a1, xs, e1, sq, r⟩ := hu.lst
      obtain ⟨h1, h2⟩ := in_has (flatT hv hf.1) hf.1 r hf.2
      exact .inr ⟨a1, xs, e1, .inl sq, Az5T (flatT hv hf.1) hf.1, h1, by rw [if_pos rfl, h2]; exact q.bl⟩
    · exact q.elim
  · exact q.elim
theorem y_in (ha : XP X xw a fa) (hb : XP X xw b fb) (hm : autoParam (behindInMarks .In b = false) slim0._auto_1) : XT X xw (.Compare a [.In] [b] pos) (tR (b2 inR fa fb)) :=
  ⟨DE.t_of (f := b2 inR fa fb) (PT.weak (Az7R (op_in_str.or Bz5H) ha.h hb.h hm) fun σ H Q ⟨W₀, H₀, W, δ, st, q⟩ => Az5N st q fun H2 d e v u k w hv hu _ _ q2 => op2_in W H2 d e v u _ w hv hu q2)⟩
theorem y_nin (ha : XP X xw a fa) (hb : XP X xw b fb) (hm : autoParam (behindInMarks .NotIn b = false) slim0._auto_1) : XT X xw (.Compare a [.NotIn] [b] pos) (tR (b2 ninR fa fb)) :=
  ⟨DE.t_of (f := b2 ninR fa fb) (PT.weak (Az7R (op_notin_str.or Az8Y) ha.h hb.h hm) fun σ H Q ⟨W₀, H₀, W, δ, st, q⟩ => Az5N st q fun H2 d e v u k w hv hu _ _ q2 => Cz1F W H2 d e v u _ w hv hu q2)⟩
variable {lo hi : Option Expr} {fl fh : DSt → Res (Option Int)}
theorem Bz1L {x : Str} {n : Int} (h1 : 1 ≤ n) (h2 : n ≤ 1000) (h3 : x.length ≤ 1000) : MulOk x n := by
  refine ⟨?_, fun _ _ => ?_, fun _ _ => ?_⟩
  · rw [decide_eq_false (by omega), decide_eq_false (by omega)]; rfl
  · have : (1000 : Int) ≤ (2 ^ 63 - 1) / n := by
      rw [Int.le_ediv_iff_mul_le (by omega)]
      omega
    omega
  · have : x.length * n.toNat ≤ 1000 * 1000 := Nat.mul_le_mul h3 (by omega)
    have hz : (1000000 : Nat) ≤ sizeLine := by rw [sizeLine_eq]; decide
    unfold Builtin.Str.tooLong
    simp
    omega
theorem Cz1B : OpR X (binaryOp .Mult) (fun x y H Q => ∃ z n, x = .str z ∧ y = .int n ∧ MulOk z n ∧ Q (.str (PySem.Txt.mul z n)) H) := by
  intro pins s σ H x y v u Q I rx ry h
  obtain ⟨z, n, rfl, rfl, hok, q⟩ := h
  obtain ⟨t, rfl⟩ := rx
  obtain ⟨t', rfl⟩ := ry
  exact PySem.SB.mul hok fun t' k => ⟨.str _, H, I.tok _, ⟨t', rfl⟩, q⟩
structure GlobT (K : PySem.W.Frag) (mg : Str → Option Value) (x : Str) (xs : List Str) : Prop where
  h : ∃ (ad : Addr) (o : Obj) (its : Array Value) (n : Nat), mg x = some (.ref ad) ∧ K.lookup ad = some o ∧ o.cls = .type "tuple" ∧ o.data = .seq its n ∧ its.size ≤ sizeLine ∧ Vals (xs.map V.str) its.toList
theorem Cz0H {P : Program} {w : World} {k : Key} {u : Value} (r : RelV (kV k) u) : (Az2Y P w).is k u = true := by
  cases k with
  | inl i => obtain ⟨t, rfl⟩ := r; exact Bz1N P w i t
  | inr x => obtain ⟨t, rfl⟩ := r; exact Bz1M P w x t
noncomputable def keyD : D → Option Key
  | .str x => some (.inr x)
  | .int i => some (.inl i)
  | _ => none
end
end L3
namespace L3
open PySem PySem.Spec PyProof.Rows L2 SeqAt
open Builtin Builtin.Str
section
variable {X : Cx} {xw : XW} {pos p p2 apos cpos : Pos} {tg a b c e o : Expr} {es : List Expr} {f fa fb : DSt → Res D} {fs : DSt → Res (List D)}
noncomputable def strsOf : List D → Option (List Str)
  | [] => some []
  | .str x :: ds => (strsOf ds).map (x :: ·)
  | _ => none
end
end L3
namespace L3
open PySem PySem.Spec PyProof.Rows L2 SeqAt
section
variable {X : Cx} {xw : XW} {pos p p2 apos cpos : Pos} {tg a b c e o ie : Expr} {es : List Expr} {f fi fa fb : DSt → Res D} {fs : DSt → Res (List D)}
noncomputable def setJ (i : Nat) (δ : DSt) (ds : List D) (d ix : D) : Out := match ix with
  | .int k => match ixN ds.length k with
    | some j => .nx (δ.set i (some (.o (ds.set j d))))
    | none => .stuck
  | _ => .stuck
noncomputable def setO (i : Nat) (fi : DSt → Res D) (δ : DSt) (d : D) : Out := match δ[i]? with
  | some (some (.o ds)) => ofR (fi δ) (setJ i δ ds d)
  | _ => .stuck
noncomputable def sSetI (i : Nat) (fi f : DSt → Res D) : DSt → Out := fun δ => ofR (f δ) (setO i fi δ)
end
end L3
namespace L3
open PySem PySem.Spec PyProof.Rows L2 SeqAt
theorem Bz3M : ∀ {ns : List Int} {us : List Value}, Vals (ns.map V.int) us → IntsAre us ns
  | [], _, .nil => .nil
  | n :: ns, _, .cons ⟨t, h⟩ r => by rw [h]; exact .cons n t (Bz3M r)
section
variable {X : Cx} {xw : XW} {pos p : Pos} {a : Expr} {fa : DSt → Res D}
theorem Az5S {K : PySem.W.Frag} {W : WS} {H : Hp} : ∀ {ds : List D} {ns : List Int} {vs : List V}, intsOf ds = some ns → HasL K W H ds vs → vs = ns.map V.int
  | [], ns, vs, h, r => by cases h; rw [HasL] at r; exact r
  | d :: ds, ns, vs, h, r => by
    cases d with
    | int x =>
      obtain ⟨ys, h1, rfl⟩ := Option.map_eq_some_iff.mp (show (intsOf ds).map (x :: ·) = some ns from h)
      rw [HasL] at r
      obtain ⟨v, q, rfl, hv, hq⟩ := r
      rw [Has] at hv
      rw [hv, Az5S h1 hq]; rfl
    | _ => cases h
end
end L3
namespace HT
open PySem PyProof.Rows
section
open PySem.SeqAt
open PySem.AutoSeq1 (wpAny_loadPart')
open PySem.MeetsSeq PySem.MeetsSeq2 PySem.MeetsSeq3
end
section
variable {prog : Program} {w : World} {A : Around} {E : Value → Shared → Prop} {s : Shared}
end
end HT
namespace L3
open PySem PySem.Spec PyProof.Rows L2 SeqAt
section
variable {X : Cx} {xw : XW}
end
end L3
namespace L3
open PySem
noncomputable def Rise (xs : Array Nat) : Prop := xs.toList.Pairwise (fun a b => a < b)
theorem Rise.lt {xs : Array Nat} (r : Rise xs) {i j : Nat} {a b : Nat} (h : i < j) (ha : xs[i]? = some a) (hb : xs[j]? = some b) : a < b := by
  unfold Rise at r; rw [List.pairwise_iff_getElem] at r
  rw [← Array.getElem?_toList] at ha hb
  obtain ⟨p, e⟩ := List.getElem?_eq_some_iff.mp ha
  obtain ⟨q, f⟩ := List.getElem?_eq_some_iff.mp hb
  have z := r i j p q h
  rw [e, f] at z; exact z
noncomputable def Parts (xs : Array Nat) (j p : Nat) : Prop := p ≤ xs.size ∧ (∀ i a, i < p → xs[i]? = some a → a < j) ∧ ∀ i a, p ≤ i → xs[i]? = some a → j ≤ a
theorem Bz1W {xs : Array Nat} (r : Rise xs) (j : Nat) : ∀ (n lo hi : Nat), hi - lo ≤ n → lo ≤ hi → hi ≤ xs.size → (∀ i a, i < lo → xs[i]? = some a → a < j) → (∀ i a, hi ≤ i → xs[i]? = some a → j ≤ a) →
    Parts xs j (SetTable.below.go xs j n lo hi) := by
  intro n
  induction n with
  | zero =>
    intro lo hi h1 h2 h3 h4 h5
    have : lo = hi := by omega
    subst this
    exact ⟨h3, h4, h5⟩
  | succ n ih =>
    intro lo hi h1 h2 h3 h4 h5
    unfold SetTable.below.go
    by_cases hl : lo < hi
    · rw [if_pos hl]; dsimp only
      have hm : (lo + hi) / 2 < xs.size := by omega
      have hg : xs[(lo + hi) / 2]? = some xs[(lo + hi) / 2] := Array.getElem?_eq_getElem hm
      have hd : xs.getD ((lo + hi) / 2) j = xs[(lo + hi) / 2] := by simp [Array.getD, hm]
      rw [hd]
      by_cases hc : xs[(lo + hi) / 2] < j
      · rw [if_pos hc]
        refine ih _ _ (by omega) (by omega) h3 (fun i a hi' ha => ?_) h5
        rcases Nat.lt_or_ge i ((lo + hi) / 2) with q | q
        · exact Nat.lt_trans (r.lt q ha hg) hc
        · have : i = (lo + hi) / 2 := by omega
          subst this; rw [hg] at ha; cases ha; exact hc
      · rw [if_neg hc]
        refine ih _ _ (by omega) (by omega) (by omega) h4 (fun i a hi' ha => ?_)
        rcases Nat.lt_or_ge ((lo + hi) / 2) i with q | q
        · exact Nat.le_trans (Nat.le_of_not_lt hc) (Nat.le_of_lt (r.lt q hg ha))
        · have : i = (lo + hi) / 2 := by omega
          subst this; rw [hg] at ha; cases ha; exact Nat.le_of_not_lt hc
    · rw [if_neg hl]
      have : lo = hi := by omega
      subst this
      exact ⟨h3, h4, h5⟩
theorem Bz4O {xs : Array Nat} (r : Rise xs) (j : Nat) : Parts xs j (SetTable.below xs j) :=
  Bz1W r j xs.size 0 xs.size (by omega) (Nat.zero_le _) (Nat.le_refl _) (fun _ _ h => absurd h (Nat.not_lt_zero _)) fun i a h e => by
    have := (Array.getElem?_eq_some_iff.mp e).1; omega
theorem Bz1Q {xs : Array Nat} (r : Rise xs) {j : Nat} (hj : xs[SetTable.below xs j]? ≠ some j) : Rise (SetTable.insertAt xs (SetTable.below xs j) j) := by
  obtain ⟨h1, h2, h3⟩ := Bz4O r j
  generalize SetTable.below xs j = p at *
  have strict : ∀ i a, p ≤ i → xs[i]? = some a → j < a := fun i a hi ha => by
    rcases Nat.lt_or_ge j a with q | q
    · exact q
    · have e : a = j := Nat.le_antisymm q (h3 i a hi ha)
      subst e
      rcases Nat.eq_or_lt_of_le hi with z | z
      · subst z; exact absurd ha hj
      · have hp : p < xs.size := Nat.lt_trans z (Array.getElem?_eq_some_iff.mp ha).1
        have hg : xs[p]? = some xs[p] := Array.getElem?_eq_getElem hp
        have := r.lt z hg ha
        have := h3 p _ (Nat.le_refl _) hg
        omega
  unfold Rise at r ⊢
  rw [SetTable.toList_insertAt, List.pairwise_append]
  refine ⟨List.Pairwise.sublist (List.take_sublist _ _) r, List.pairwise_cons.mpr ⟨fun b hb => ?_, List.Pairwise.sublist (List.drop_sublist _ _) r⟩, fun a ha b hb => ?_⟩
  · obtain ⟨i, hi, e⟩ := List.mem_iff_getElem.mp hb
    rw [List.getElem_drop] at e
    refine strict (p + i) b (Nat.le_add_right _ _) ?_
    rw [← Array.getElem?_toList, ← e]; exact List.getElem?_eq_getElem _
  · have hlt : a < j := by
      obtain ⟨i, hi, e⟩ := List.mem_iff_getElem.mp ha
      rw [List.getElem_take] at e
      have hi' : i < p := by rw [List.length_take] at hi; omega
      refine h2 i a hi' ?_
      rw [← Array.getElem?_toList, ← e]; exact List.getElem?_eq_getElem _
    rcases List.mem_cons.mp hb with rfl | hb
    · exact hlt
    · obtain ⟨i, hi, e⟩ := List.mem_iff_getElem.mp hb
      rw [List.getElem_drop] at e
      refine Nat.lt_trans hlt (strict (p + i) b (Nat.le_add_right _ _) ?_)
      rw [← Array.getElem?_toList, ← e]; exact List.getElem?_eq_getElem _
structure TOk (txt : Bool) (t : SetTable) : Prop where
  led : t.led = !txt
  ok : t.plain = true → Rise t.place ∧ t.dummies = #[]
theorem Az4K {txt : Bool} {t : SetTable} (h : TOk txt t) (n : Nat) : TOk txt (t.standIn n) := ⟨h.led, fun e => by cases e⟩
theorem Az8X {txt : Bool} {t : SetTable} (h : TOk txt t) (n : Nat) : TOk txt (t.orStandIn n) := by
  unfold SetTable.orStandIn; split
  · exact h
  · exact Az4K h n
theorem Bz3Q (j : Nat) : SetTable.has #[] j = false := by simp [SetTable.has]
theorem Bz2Q {t : SetTable} (hd : t.dummies = #[]) (h : Int) {j : Nat} {d : Option Nat} : ∀ (n : Nat) (p : SetTable.Probe), p.dummy = none → SetTable.probe.go t (fun _ => h + 1) h n p = some (.empty j d) → t.slot j = .empty ∧ d = none := by
  intro n
  induction n with
  | zero => intro p _ e; cases e
  | succ n ih =>
    intro p hp e
    unfold SetTable.probe.go at e
    split at e
    · rename_i hs
      cases e; exact ⟨hs, hp⟩
    · rename_i hs
      unfold SetTable.slot at hs; dsimp only at hs
      split at hs
      · cases hs
      · rw [hd, Bz3Q] at hs; simp at hs
    · rw [if_neg (by simp; omega)] at e
      refine ih _ ?_ e
      unfold SetTable.advance
      split
      · exact hp
      · exact hp
theorem put_ok {txt : Bool} {t : SetTable} (k : TOk txt t) {h : Int} {j : Nat} {b : Bool} (e : t.freeSlot h = some (j, b)) : TOk txt (t.put j).1 := by
  refine ⟨k.led, fun hp => ?_⟩
  obtain ⟨r, d⟩ := k.ok hp
  unfold SetTable.freeSlot at e
  split at e
  · rename_i j' d' e'
    obtain ⟨z1, z2⟩ := Bz2Q d h _ _ rfl e'
    subst z2
    cases e
    show Rise (SetTable.insertAt t.place (SetTable.below t.place j') j') ∧ (if SetTable.has t.dummies j' = true then _ else t.dummies) = #[]
    refine ⟨Bz1Q r fun q => ?_, ?_⟩
    · unfold SetTable.slot at z1; dsimp only at z1
      rw [if_pos (by rw [q]; simp)] at z1; cases z1
    · rw [d, Bz3Q]; rfl
  · cases e
theorem Bz5R {txt : Bool} {t : SetTable} (k : TOk txt t) (es : Array (Int × Value)) (h : Int) (x : Value) : TOk txt (layNew t es h x).2.1 := by
  unfold layNew
  split
  · rename_i j b e
    exact Az8X (put_ok k e) _
  · exact Az4K k _
theorem Cz1V {m f v : Nat} {l p : Bool} {hs : Array Int} {t : SetTable} {o : Array Nat} (e : SetTable.laid m f v l p hs = some (t, o)) : t.led = l ∧ t.plain = p ∧ Rise t.place ∧ t.dummies = #[] := by
  unfold SetTable.laid at e
  cases hc : SetTable.layClean m hs with
  | none => rw [hc] at e; cases e
  | some ow =>
    rw [hc] at e
    cases e
    refine ⟨rfl, rfl, ?_, rfl⟩
    show List.Pairwise _ (List.map _ (List.filterMap _ (List.range (m + 1)))).toArray.toList
    rw [List.toList_toArray, List.map_filterMap]
    refine List.Pairwise.filterMap _ (R := fun a b => a < b) ?_ List.pairwise_lt_range
    intro a a' h b hb b' hb'
    cases h1 : ow.getD a none with
    | none => rw [h1] at hb; cases hb
    | some z =>
      cases h2 : ow.getD a' none with
      | none => rw [h2] at hb'; cases hb'
      | some z' => rw [h1] at hb; rw [h2] at hb'; cases hb; cases hb'; exact h
theorem Bz7U {txt : Bool} {t : SetTable} (k : TOk txt t) (es : Array (Int × Value)) (n : Nat) : TOk txt (relayAll t es n).2.1 := by
  unfold relayAll
  split
  · rename_i t' o e
    dsimp only
    split
    · obtain ⟨a1, a2, a3, a4⟩ := Cz1V (show SetTable.laid _ _ _ _ _ _ = _ from e)
      exact ⟨a1.trans k.led, fun _ => ⟨a3, a4⟩⟩
    · exact Az4K k _
  · exact Az4K k _
theorem pulled {α : Type} : ∀ (l : List α) (i : Nat) (h : i < l.length), (l[i] :: l.eraseIdx i).Perm l
  | [], _, h => absurd h (Nat.not_lt_zero _)
  | a :: l, 0, _ => List.Perm.refl _
  | a :: l, i + 1, h => by
    have hi : i < l.length := by simpa using h
    rw [List.getElem_cons_succ, List.eraseIdx_cons_succ]
    exact (List.Perm.swap a _ _).trans (List.Perm.cons a (pulled l i hi))
theorem picked {α : Type} (next : Nat → Nat) : ∀ (n k : Nat) (left : List α) (out : Array α), n = left.length → (pickOrder.go next n k left out).toList.Perm (out.toList ++ left) := by
  intro n
  induction n with
  | zero => intro k left out e; have : left = [] := List.length_eq_zero_iff.mp e.symm; subst this; unfold pickOrder.go; simp
  | succ n ih =>
    intro k left out e
    have hl : next k % left.length < left.length := Nat.mod_lt _ (by omega)
    unfold pickOrder.go
    rw [List.getElem?_eq_getElem hl]
    dsimp only
    refine (ih _ _ _ (by rw [List.length_eraseIdx_of_lt hl]; omega)).trans ?_
    rw [Array.toList_push, List.append_assoc]
    exact List.Perm.append_left _ (by simpa using pulled left _ hl)
theorem Az6Z {α : Type} (next : Nat → Nat) (xs : Array α) : (pickOrder next xs).toList.Perm xs.toList := by
  unfold pickOrder; simpa using picked next xs.size 0 xs.toList #[] (by simp)
end L3
namespace L3
open PySem
noncomputable def nv : Value → Int
  | .int n _ => n
  | _ => 0
noncomputable def ddp (σ : List Int) (k : Int) : List Int := if k ∈ σ then σ else σ ++ [k]
section
variable {prog : Program} {w : World} {A : Around} {E : Value → Shared → Prop} {s : Shared}
noncomputable def SI (prog : Program) (w : World) (h : Heap) (a : Addr) (σ : List Int) : Prop :=
  ∃ o es ep t, h.get? a = some o ∧ o.ExactSet ∧ o.data = .set es ep t ∧ ElemsOf (intKind prog w) es.toList ∧ (es.toList.map fun e => nv e.2).Perm σ ∧ es.size < scanBound ∧ t.fits es.size = true ∧ TOk (w.params.followText "set-order") t
theorem SI.at' {h h' : Heap} {a : Addr} {σ : List Int} (x : SI prog w h a σ) (k : ∀ o, h.get? a = some o → h'.get? a = some o) : SI prog w h' a σ := by
  obtain ⟨o, es, ep, t, ho, r⟩ := x; exact ⟨o, es, ep, t, k o ho, r⟩
theorem is_nv {k : Int} {v : Value} (h : (intKind prog w).is k v = true) : nv v = k := by
  obtain ⟨t, rfl⟩ := Value.isInt_shape (show Value.isInt k v = true from h); rfl
theorem is_int (k : Int) (t : Tok) : (intKind prog w).is k (.int k t) = true := by
  show Value.isInt k (.int k t) = true; simp [Value.isInt]
theorem Bz2H {h : Heap} {a : Addr} {o : Obj} {es es' : Array (Int × Value)} {ep : Nat} {t t' : SetTable} {σ : List Int} (ho : h.get? a = some o) (hex : o.ExactSet) (hd : o.data = .set es ep t)
    (hel : ElemsOf (intKind prog w) es'.toList) (hp : (es'.toList.map fun e => nv e.2).Perm σ) (hb : es'.size < scanBound) (hf : t'.fits es'.size = true) (ht : TOk (w.params.followText "set-order") t') :
    (h.update a (Obj.putSet es' t')).get? a = some { o with data := .set es' (ep + 1) t' } ∧ SI prog w (h.update a (Obj.putSet es' t')) a σ := by
  have hg := Heap.get?_update_self (Obj.putSet es' t') ho (by rw [putSet_of es' t' hd]; rfl)
  rw [putSet_of es' t' hd] at hg
  exact ⟨hg, { o with data := .set es' (ep + 1) t' }, es', ep + 1, t', hg, hex, rfl, hel, hp, hb, hf, ht⟩
theorem Bz6O {g : Bool → Sem Unit} (hg : ∀ (b : Bool) (s₁ : Shared) (Q' : Unit → Shared → Prop), Q' () s₁ → wpAny (model prog w) A (g b) Q' E s₁) {a : Addr} {o : Obj} {es es1 : Array (Int × Value)} {ep : Nat} {t t2 : SetTable} {σ : List Int}
    (ho : s.heap.get? a = some o) (hex : o.ExactSet) (hd : o.data = .set es ep t) (hel : ElemsOf (intKind prog w) es1.toList) (hp : (es1.toList.map fun e => nv e.2).Perm σ) (hb : es1.size < scanBound) (hf : t2.fits es1.size = true)
    (ht : TOk (w.params.followText "set-order") t2) {wd : Bool} {R : Option Bool → Shared → Prop} (h : ∀ h', Heap.SameBut a s.heap h' → SI prog w h' a σ → R (some true) { s with heap := h' }) :
    wpAny (model prog w) A (storeSet a es1 t2 >>= fun _ => if (!wd && t2.tooFull) = true then (g (relayAll t2 es1 (SetTable.grown es1.size)).2.2 >>= fun _ =>
      storeSet a (relayAll t2 es1 (SetTable.grown es1.size)).1 (relayAll t2 es1 (SetTable.grown es1.size)).2.1 >>= fun _ => pure (some true)) else pure (some true)) R E s := by
  obtain ⟨ho1, hS1⟩ := Bz2H (prog := prog) (w := w) ho hex hd hel hp hb hf ht
  have sb := Heap.SameBut.update s.heap a (Obj.putSet es1 t2)
  refine wpAny_bind (wpAny_storeSet_of ho hd (wpAny_ite_split (fun _ => ?_) fun _ => wpAny_pure (h _ sb hS1)) (fits_of_scanBound hb))
  have pp := relayAll_perm t2 es1 (SetTable.grown es1.size)
  have ff := relayAll_fits t2 es1 (SetTable.grown es1.size)
  have kk := Bz7U ht es1 (SetTable.grown es1.size)
  generalize relayAll t2 es1 (SetTable.grown es1.size) = R' at pp ff kk ⊢
  obtain ⟨es2, t3, g2⟩ := R'
  dsimp only at pp ff kk ⊢
  have hz : es2.size = es1.size := by rw [← Array.length_toList, pp.length_eq, Array.length_toList]
  have hb2 : es2.size < scanBound := by rw [hz]; exact hb
  refine wpAny_bind (hg _ _ _ (wpAny_bind (wpAny_storeSet_of ho1 rfl (wpAny_pure ?_) (fits_of_scanBound hb2))))
  exact h _ (sb.trans (Heap.SameBut.update _ a _)) (Bz2H (prog := prog) (w := w) ho1 hex rfl (hel.perm pp) ((pp.map _).trans hp) hb2 ff kk).2
theorem si_add {a : Addr} {σ : List Int} {k : Int} {u : Tok} {Q : Bool → Shared → Prop} (hS : SI prog w s.heap a σ) (room : σ.length + 1 < scanBound)
    (h : ∀ h' b, Heap.SameBut a s.heap h' → SI prog w h' a (ddp σ k) → Q b { s with heap := h' }) : wpAny (model prog w) A (setAddHashed a (.int k u) (hashInt k)) Q E s := by
  obtain ⟨o, es, ep, t, ho, hex, hd, hel, hp, hb, hf, ht⟩ := hS
  have hl : es.size = σ.length := by rw [← hp.length_eq, List.length_map, Array.length_toList]
  have hk : (intKind prog w).is k (.int k u) = true := is_int k u
  unfold setAddHashed setAddHashedIn
  refine wpAny_holding (wpAny_bind (wpAny_setState_of ho hd hf ?_)); dsimp only
  rw [byScan_of (knd := intKind prog w) rfl hb hel, if_pos rfl]
  unfold setAddByScan
  refine wpAny_bind (wpAny_bind (wpAny_rule (wpAny_bind (wpAny_setScan_of (knd := intKind prog w) hk ho hd hf hel ?_))))
  cases hr : List.findIdx? (fun e => (intKind prog w).is k e.2) es.toList with
  | some j =>
    obtain ⟨hj, hpj, _⟩ := List.findIdx?_eq_some_iff_getElem.mp hr
    have hm : k ∈ σ := hp.mem_iff.mp (List.mem_map.mpr ⟨es.toList[j], List.getElem_mem hj, is_nv hpj⟩)
    refine wpAny_pure (wpAny_pure (h s.heap _ (Heap.SameBut.refl a s.heap) ?_))
    rw [ddp, if_pos hm]; exact ⟨o, es, ep, t, ho, hex, hd, hel, hp, hb, hf, ht⟩
  | none =>
    have hm : k ∉ σ := fun z => by
      obtain ⟨e, he, q⟩ := List.mem_map.mp (hp.mem_iff.mpr z)
      obtain ⟨⟨k', hk', _⟩, _⟩ := hel e he
      have : k' = k := (is_nv hk').symm.trans q
      subst this
      have := List.findIdx?_eq_none_iff.mp hr e he
      rw [hk'] at this; cases this
    have pp := layNew_perm t es (hashInt k) (.int k u)
    have ff := layNew_fits t es (hashInt k) (.int k u)
    have kk := Bz5R ht es (hashInt k) (.int k u)
    dsimp only
    generalize layNew t es (hashInt k) (.int k u) = L at pp ff kk ⊢
    obtain ⟨es1, t1, wd, gv⟩ := L
    dsimp only at pp ff kk ⊢
    rw [Array.toList_push] at pp
    have hp1 : (es1.toList.map fun e => nv e.2).Perm (ddp σ k) := by
      rw [ddp, if_neg hm]
      refine (pp.map _).trans ?_
      rw [List.map_append]
      exact hp.append_right _
    have hz : es1.size < scanBound := by rw [← Array.length_toList, pp.length_eq, List.length_append, Array.length_toList, hl]; exact room
    have gw : ∀ (b : Bool) (s₁ : Shared) (Q' : Unit → Shared → Prop), Q' () s₁ → wpAny (model prog w) A (match b with | true => rule "set.scan.the-table-gave-way" | false => (pure () : Sem Unit)) Q' E s₁ := fun b s₁ Q' q => by
      cases b
      · exact wpAny_pure q
      · exact wpAny_rule q
    refine wpAny_bind (gw gv _ _ ?_)
    have fin : ∀ h', Heap.SameBut a s.heap h' → SI prog w h' a (ddp σ k) → wpAny (model prog w) A (pure true) Q E { s with heap := h' } := fun h' q1 q2 => wpAny_pure (h h' true q1 q2)
    refine wpAny_ite_split (fun hpl => ?_) (fun hpl => ?_)
    · refine wpAny_bind ?_
      rw [hashByValue_scannable 8 (show (Value.int k u).scannable = true from rfl)]
      refine wpAny_pure ?_
      exact Bz6O gw ho hex hd ((hel.push hk rfl).perm pp) hp1 hz ff kk fin
    · refine wpAny_bind (wpAny_pure ?_)
      exact Bz6O gw ho hex hd ((hel.push hk rfl).perm pp) hp1 hz ff kk fin
end
end L3
namespace L3
open PySem
namespace F
theorem slot_si_next : Slot "set_iterator" "__next__" "set_iterator.__next__" :=
  .of (owner := "set_iterator") (n := "__next__") (by rw [typeLookup_type, builtinLookup_eq_fast]; kernel_rfl) (by decide +kernel) (by decide +kernel) (by decide +kernel) (by first | exact .inl (by decide +kernel) | exact .inr (by decide +kernel)) (by rw [isSubtype_type]; kernel_rfl)
theorem entry_si_next : entryFor table "set_iterator.__next__" = some Builtin.«set_iterator.__next__» := entryFor_of_fast (by kernel_rfl)
theorem args_si_next (a : Value) : argsOk "set_iterator.__next__" ⟨[a], []⟩ := by unfold argsOk; kernel_rfl
theorem entry_set_iter : entryFor table "set.__iter__" = some Builtin.«frozenset.__iter__» := entryFor_alias (id' := "frozenset.__iter__") (by kernel_rfl) rfl (by decide +kernel) (by kernel_rfl)
end F
noncomputable abbrev IsSIt (h : Heap) (I : Addr) (first : Value) (i : Nat) (S : Addr) (n ep : Nat) : Prop :=
  h.get? I = some { cls := .type "set_iterator", dict := none, data := .fields #[first, rawInt i, .ref S, rawInt n, rawInt ep], slots := #[] }
section
variable {prog : Program} {w : World} {A : Around} {E : Value → Shared → Prop} {s : Shared} {S I : Addr} {o : Obj} {es : Array (Int × Value)} {ep : Nat} {t : SetTable}
theorem Cz3I {src : Source} {n : Nat} {Q : Nat → Shared → Prop} (hn : n ≠ 0) (h : ∀ k d, k < n → Q k { s with drawn := d }) : wpAny (model prog w) A (choose src n) Q E s := fun Γ p hΓ => by
  unfold choose
  rw [Sem.wp_choose]
  exact ⟨hn, by rw [Sem.wp_pure]; exact h _ _ (Nat.mod_lt _ (Nat.pos_of_ne_zero hn))⟩
theorem Az8C {α : Type} : ∀ (n : Nat) (xs : List α) (s : Shared) {Q : List α → Shared → Prop}, n = xs.length → (∀ ys d, ys.Perm xs → Q ys { s with drawn := d }) → wpAny (model prog w) A (drawOrder n xs) Q E s
  | 0, xs, s, Q, e, h => by
    have : xs = [] := List.length_eq_zero_iff.mp e.symm
    subst this
    unfold drawOrder
    exact wpAny_pure (h [] s.drawn (List.Perm.refl _))
  | n + 1, [], s, Q, e, h => by simp at e
  | n + 1, x :: xs, s, Q, e, h => by
    unfold drawOrder
    refine wpAny_bind (Cz3I (by simp) fun k d hk => ?_)
    rw [List.getElem?_eq_getElem hk]
    dsimp only
    refine wpAny_bind (Az8C n _ _ (by rw [List.length_eraseIdx_of_lt hk]; omega) fun ys d' hp => wpAny_pure ?_)
    exact h _ d' ((List.Perm.cons _ hp).trans (pulled _ _ hk))
theorem Bz0T {b : Bool} {Q : Bool → Shared → Prop} (e : w.params.followText "set-order" = b) (h : Q b s) : wpAny (model prog w) A setsByText Q E s := by
  unfold setsByText
  refine wpAny_bind (wpAny_askSetting (wpAny_pure ?_))
  show Q (w.params.followText "set-order") s
  rw [e]; exact h
theorem Az8U {slot given : Nat} {Q : Option (Value × Nat) → Shared → Prop} (bt : w.params.followText "set-order" = true) (ho : s.heap.get? S = some o) (hd : o.data = .set es ep t) (hf : t.fits es.size = true)
    (h : Q (((pickOrder (w.params.setOrder S ep) es)[given]?).map fun e => (e.2, slot)) s) : wpAny (model prog w) A (setNext S slot given ep) Q E s := by
  unfold setNext
  refine wpAny_bind (wpAny_setState_of ho hd hf ?_); dsimp only
  refine wpAny_bind (Bz0T bt ?_)
  rw [if_pos rfl]
  rw [if_neg (by simp)]
  refine wpAny_bind ?_
  unfold setWalk
  refine wpAny_bind (wpAny_setState_of ho hd hf ?_); dsimp only
  refine wpAny_bind (Bz0T bt ?_)
  rw [if_pos rfl]
  exact wpAny_bind (wpAny_askSetting (wpAny_pure (wpAny_pure h)))
theorem Az7N {slot given : Nat} {Q : Option (Value × Nat) → Shared → Prop} (bt : w.params.followText "set-order" = false) (ho : s.heap.get? S = some o) (hd : o.data = .set es ep t) (hf : t.fits es.size = true)
    (hl : t.led = true) (hp : t.plain = true ∨ es.size ≤ 1) (h : Q (match es[SetTable.below t.place slot]?, t.place[SetTable.below t.place slot]? with | some (_, x), some j => some (x, j + 1) | _, _ => none) s) :
    wpAny (model prog w) A (setNext S slot given ep) Q E s := by
  unfold setNext
  refine wpAny_bind (wpAny_setState_of ho hd hf ?_); dsimp only
  refine wpAny_bind (Bz0T bt ?_)
  rw [if_neg (by simp)]
  refine wpAny_ite_split (fun hc => ?_) (fun _ => ?_)
  · have hc' : (!t.plain && decide (es.size > 1)) = true := hc
    rcases hp with q | q
    · rw [q] at hc'; cases hc'
    · rw [show decide (es.size > 1) = false from decide_eq_false (by omega), Bool.and_false] at hc'; cases hc'
  · refine wpAny_bind ?_
    refine wpAny_ite_split (fun hc => ?_) (fun _ => wpAny_pure (wpAny_pure h))
    have hc' : (!t.led && !es.isEmpty) = true := hc
    rw [hl] at hc'; cases hc'
theorem Bz2Z {sl : Nat} {i : Nat} {Q : Fin → Shared → Prop} (hi : IsSIt s.heap I (rawInt sl) i S es.size ep) (ho : s.heap.get? S = some o) (hd : o.data = .set es ep t) (hf : t.fits es.size = true)
    (h : wpAny (model prog w) A (setNext S sl i ep >>= fun r => match r with
        | some (x, next) => setField (.ref I) 0 (rawInt next) >>= fun _ => setField (.ref I) 1 (rawInt ((i : Int) + 1)) >>= fun _ => ret x
        | none => setField (.ref I) 2 .none >>= fun _ => newExc (.type "StopIteration") [] >>= fun e => raiseNew e) Q E s) : wpAny (model prog w) A (Builtin.«set_iterator.__next__» ⟨[.ref I], []⟩) Q E s := by
  unfold Builtin.«set_iterator.__next__»
  show wpAny _ _ (fieldsOf (.ref I) >>= _) _ _ s
  refine wpAny_bind (wpAny_fieldsOf hi rfl ?_)
  show wpAny _ _ (setEntries S >>= _) _ _ s
  refine wpAny_bind (wpAny_setEntries_of ho hd hf ?_)
  refine wpAny_ite_split (fun hc => absurd hc (by simp)) (fun _ => ?_)
  exact h
theorem Bz2Y {T : Addr} {i : Nat} {Q : Fin → Shared → Prop} (hi : IsSIt s.heap I (.ref T) i S es.size ep) (ho : s.heap.get? S = some o) (hd : o.data = .set es ep t) (hf : t.fits es.size = true) {ps : Array Value} (hT : s.heap.get? T = some { cls := .type "tuple", data := .seq ps })
    (h : wpAny (model prog w) A (match ps[i]? with
          | some (.int place _) => setNextDrawn S place.toNat ep >>= fun x => setField (.ref I) 1 (rawInt ((i : Int) + 1)) >>= fun _ => ret x
          | some _ => unsupported "internal:set_iterator"
          | none => setField (.ref I) 0 (rawInt 0) >>= fun _ => setField (.ref I) 2 .none >>= fun _ => newExc (.type "StopIteration") [] >>= fun e => raiseNew e) Q E s) : wpAny (model prog w) A (Builtin.«set_iterator.__next__» ⟨[.ref I], []⟩) Q E s := by
  unfold Builtin.«set_iterator.__next__»
  show wpAny _ _ (fieldsOf (.ref I) >>= _) _ _ s
  refine wpAny_bind (wpAny_fieldsOf hi rfl ?_)
  show wpAny _ _ (setEntries S >>= _) _ _ s
  refine wpAny_bind (wpAny_setEntries_of ho hd hf ?_)
  refine wpAny_ite_split (fun hc => absurd hc (by simp)) (fun _ => ?_)
  show wpAny _ _ (seqItems? (.ref T) >>= _) _ _ _
  refine wpAny_bind (wpAny_seqItems hT rfl ?_)
  dsimp only
  simp only [Int.toNat_natCast]
  exact h
end
end L3
namespace L3
open PySem
namespace F
theorem slot_si_iter : Slot "set_iterator" "__iter__" "set_iterator.__iter__" :=
  .of (owner := "set_iterator") (n := "__iter__") (by rw [typeLookup_type, builtinLookup_eq_fast]; kernel_rfl) (by decide +kernel) (by decide +kernel) (by decide +kernel) (by first | exact .inl (by decide +kernel) | exact .inr (by decide +kernel)) (by rw [isSubtype_type]; kernel_rfl)
theorem entry_si_iter : entryFor table "set_iterator.__iter__" = some Builtin.«dict_keyiterator.__iter__» := entryFor_alias (id' := "dict_keyiterator.__iter__") (by kernel_rfl) rfl (by decide +kernel) (by kernel_rfl)
theorem args_si_iter (a : Value) : argsOk "set_iterator.__iter__" ⟨[a], []⟩ := by unfold argsOk; kernel_rfl
end F
section
variable {prog : Program} {w : World} {A : Around} {E : Value → Shared → Prop} {s : Shared} {S I T : Addr} {o : Obj} {es : Array (Int × Value)} {ep : Nat} {t : SetTable} {first : Value} {i : Nat}
theorem Bz6P {n : Nat} {Q : Value → Shared → Prop} (hi : IsSIt s.heap I first i S n ep) (h : Q (.ref I) s) : wpAny (model prog w) A (pyIter (.ref I)) Q E s :=
  wpAny_pyIter_slot ⟨_, hi, rfl⟩ F.slot_si_iter (wpAny_call_entry F.slot_si_iter ⟨_, hi, rfl⟩ F.entry_si_iter (wpAny_pure ⟨_, rfl, "set_iterator", _, ⟨_, hi, rfl⟩, F.slot_si_next.lookup, h⟩) (F.args_si_iter _))
theorem Az9R {n : Nat} {Q : Option Value → Shared → Prop} (hi : IsSIt s.heap I first i S n ep)
    (h : wpAny (model prog w) A.in1 (Builtin.«set_iterator.__next__» ⟨[.ref I], []⟩) (fun f s' => ∃ v, f = .done (.ret v) ∧ Q (some v) s') (fun e s' => (∃ a o, e = .ref a ∧ s'.heap.get? a = some o ∧ o.cls = .type "StopIteration") ∧ Q none s') s) :
    wpAny (model prog w) A (pyNext (.ref I)) Q E s := by
  unfold pyNext
  refine wpAny_bind (wpAny_attempt (wpAny_callSpecial?_slot (name := Str.ofString "__next__") ⟨_, hi, rfl⟩ F.slot_si_next (wpAny_call_entry F.slot_si_next ⟨_, hi, rfl⟩ F.entry_si_next (wpAny_mono h (fun f s' z => ?_) fun e s' z => ?_) (F.args_si_next _))))
  · obtain ⟨v, rfl, q⟩ := z
    exact ⟨v, rfl, wpAny_pure q⟩
  · obtain ⟨⟨a, oe, rfl, ho, hc⟩, q⟩ := z
    exact wpAny_bind (wpAny_isInstance (T := "StopIteration") (b := true) ⟨oe, ho, hc⟩ isSubtype_stop (wpAny_pure q))
theorem stop_ {Q : Fin → Shared → Prop} (hh : A.handled = none) (h : ∀ h' e, (∀ b o, s.heap.get? b = some o → h'.get? b = some o) → (∃ o, h'.get? e = some o ∧ o.cls = .type "StopIteration") → E (.ref e) { s with heap := h' }) :
    wpAny (model prog w) A (newExc (.type "StopIteration") [] >>= fun e => raiseNew e) Q E s := by
  refine wpAny_bind ?_; simp only [newExc, newTuple]
  refine wpAny_bind (wpAny_newObj_type ?_ (by size_fits)); refine wpAny_bind (m := firstArgMember _ _) (wpAny_of_eq (a := Value.none) (by first | rfl | (simp only [firstArgMember]; rfl)) ?_)
  refine wpAny_newObj_type ?_ (by size_fits); simp only [raiseNew]
  refine wpAny_bind (wpAny_handled ?_); rw [hh]
  exact wpAny_bind (wpAny_pure (wpAny_throw (h _ _ (fun b o e => Heap.get?_push_of_some _ (Heap.get?_push_of_some _ e)) ⟨_, Heap.get?_push_size _ rfl, rfl⟩)))
theorem Az7L (hh : A.handled = none) (hne : S ≠ I) (ord : List Value) (hlen : ord.length = es.size) (sl : Nat → Nat) (hd : o.data = .set es ep t) (hf : t.fits es.size = true)
    (hN : ∀ (A' : Around) i (s : Shared) (Q : Option (Value × Nat) → Shared → Prop) (E : Value → Shared → Prop), i ≤ es.size → s.heap.get? S = some o → Q (ord[i]?.map fun x => (x, sl (i + 1))) s → wpAny (model prog w) A' (setNext S (sl i) i ep) Q E s) :
    Walks prog w A I [I, S] [I] es.size (fun i v => ord[i]? = some v) (fun i h => IsSIt h I (rawInt (sl i)) i S es.size ep ∧ h.get? S = some o) where
  sub := fun b hb => by simp at hb; simp [hb]
  frame := fun _ _ _ st hk => ⟨hk I (by simp) _ st.1, hk S (by simp) _ st.2⟩
  item := fun i s Q E hi st hQ => by
    refine Az9R st.1 (Bz2Z st.1 st.2 hd hf ?_)
    refine wpAny_bind (hN _ i s _ _ (Nat.le_of_lt hi) st.2 ?_)
    have hx : ord[i]? = some (ord[i]'(by omega)) := List.getElem?_eq_getElem (by omega)
    rw [hx]
    show wpAny _ _ (setField (.ref I) 0 (rawInt (sl (i + 1))) >>= _) _ _ _
    refine wpAny_bind (wpAny_setField_rec st.1 (by simp) fun h1 a1 c1 => ?_)
    refine wpAny_bind (wpAny_setField_rec (s := { s with heap := h1 }) a1 (by simp) fun h2 a2 c2 => ?_)
    refine wpAny_pure ⟨_, rfl, hQ _ h2 s.toks hx ⟨?_, ?_⟩ fun b ob hb e => ?_⟩
    · show h2.get? I = _
      rw [a2]; rfl
    · exact c2.extBut _ _ hne (c1.extBut _ _ hne st.2)
    · have hb' : b ≠ I := fun z => hb (by simp [z])
      exact c2.extBut _ _ hb' (c1.extBut _ _ hb' e)
  done := fun s Q E st hQ => by
    refine Az9R st.1 (Bz2Z st.1 st.2 hd hf ?_)
    refine wpAny_bind (hN _ _ s _ _ (Nat.le_refl _) st.2 ?_)
    rw [List.getElem?_eq_none (by omega)]
    show wpAny _ _ (setField (.ref I) 2 .none >>= _) _ _ _
    refine wpAny_bind (wpAny_setField_rec st.1 (by simp) fun h1 a1 c1 => ?_)
    refine stop_ (by simpa using hh) fun h2 e k he => ⟨⟨e, he.choose, rfl, he.choose_spec⟩, hQ h2 s.toks fun b ob hb q => k _ _ (c1.extBut _ _ (fun z => hb (by simp [z])) q)⟩
  self := fun _ _ _ _ st hQ => Bz6P st.1 hQ
theorem Bz1Y (hh : A.handled = none) (hne : S ≠ I) (hT : T ≠ I) (ys : List Nat) (hp : ys.Perm (List.range es.size)) (hd : o.data = .set es ep t) (hf : t.fits es.size = true) :
    Walks prog w A I [I, S, T] [I] es.size (fun i v => (ys.map fun j => (es.getD j (0, .none)).2)[i]? = some v)
      (fun i h => IsSIt h I (.ref T) i S es.size ep ∧ h.get? S = some o ∧ h.get? T = some { cls := .type "tuple", data := .seq (ys.map fun (j : Nat) => rawInt (j : Int)).toArray }) := by
  have hl : ys.length = es.size := by rw [hp.length_eq, List.length_range]
  exact {
  sub := fun b hb => by simp at hb; simp [hb]
  frame := fun _ _ _ st hk => ⟨hk I (by simp) _ st.1, hk S (by simp) _ st.2.1, hk T (by simp) _ st.2.2⟩
  item := fun i s Q E hi st hQ => by
    refine Az9R st.1 (Bz2Y st.1 st.2.1 hd hf st.2.2 ?_)
    have hx : ys[i]? = some (ys[i]'(by omega)) := List.getElem?_eq_getElem (by omega)
    have hm : ys[i]'(by omega) < es.size := List.mem_range.mp (hp.mem_iff.mp (List.getElem_mem (by omega)))
    generalize ys[i]'(by omega) = j at hx hm
    rw [show (ys.map fun (j : Nat) => rawInt (j : Int)).toArray[i]? = some (rawInt j) by simp [hx]]
    show wpAny _ _ (setNextDrawn S j ep >>= _) _ _ _
    refine wpAny_bind ?_
    unfold setNextDrawn
    refine wpAny_bind (wpAny_setState_of st.2.1 hd hf ?_); dsimp only
    refine wpAny_ite_split (fun hc => absurd hc (by simp)) (fun _ => ?_)
    rw [Array.getElem?_eq_getElem hm]
    refine wpAny_pure ?_
    refine wpAny_bind (wpAny_setField_rec st.1 (by simp) fun h2 a2 c2 => ?_)
    refine wpAny_pure ⟨_, rfl, hQ _ h2 s.toks ?_ ⟨?_, ?_, ?_⟩ fun b ob hb e => c2.extBut _ _ (fun z => hb (by simp [z])) e⟩
    · rw [List.getElem?_map, hx]; simp [Array.getD, hm]
    · show h2.get? I = _
      rw [a2]; rfl
    · exact c2.extBut _ _ hne st.2.1
    · exact c2.extBut _ _ hT st.2.2
  done := fun s Q E st hQ => by
    refine Az9R st.1 (Bz2Y st.1 st.2.1 hd hf st.2.2 ?_)
    rw [show (ys.map fun (j : Nat) => rawInt (j : Int)).toArray[es.size]? = none by simp [hl]]
    show wpAny _ _ (setField (.ref I) 0 (rawInt 0) >>= _) _ _ _
    refine wpAny_bind (wpAny_setField_rec st.1 (by simp) fun h1 a1 c1 => ?_)
    refine wpAny_bind (wpAny_setField_rec (s := { s with heap := h1 }) a1 (by simp) fun h2 a2 c2 => ?_)
    refine stop_ (by simpa using hh) fun h3 e k he => ⟨⟨e, he.choose, rfl, he.choose_spec⟩, hQ h3 s.toks fun b ob hb q => k _ _ (c2.extBut _ _ (fun z => hb (by simp [z])) (c1.extBut _ _ (fun z => hb (by simp [z])) q))⟩
  self := fun _ _ _ _ st hQ => Bz6P st.1 hQ }
end
structure SW (prog : Program) (w : World) (A : Around) (I : Addr) (fp : List Addr) (ord : List Value) (St : Nat → Heap → Prop) : Prop where
  W : Walks prog w A I fp [I] ord.length (fun i v => ord[i]? = some v) St
  mem : I ∈ fp
noncomputable def slotAt (xs : Array Nat) : Nat → Nat
  | 0 => 0
  | i + 1 => xs.getD i 0 + 1
theorem Bz7O {xs : Array Nat} (r : Rise xs) (i : Nat) (hi : i ≤ xs.size) : SetTable.below xs (slotAt xs i) = i := by
  obtain ⟨h1, h2, h3⟩ := Bz4O r (slotAt xs i)
  generalize SetTable.below xs (slotAt xs i) = p at *
  cases i with
  | zero =>
    cases p with
    | zero => rfl
    | succ p =>
      have hg : xs[p]? = some xs[p] := Array.getElem?_eq_getElem (by omega)
      exact absurd (show xs[p] < 0 from h2 p _ (Nat.lt_succ_self _) hg) (Nat.not_lt_zero _)
  | succ i =>
    simp only [slotAt] at h2 h3
    have hgi : xs[i]? = some xs[i] := Array.getElem?_eq_getElem (by omega)
    have hd : xs.getD i 0 = xs[i] := by simp [Array.getD, show i < xs.size by omega]
    rw [hd] at h2 h3
    rcases Nat.lt_trichotomy p (i + 1) with q | q | q
    · have := h3 i _ (by omega) hgi; omega
    · exact q
    · have hg : xs[i + 1]? = some xs[i + 1] := Array.getElem?_eq_getElem (by omega)
      have a := h2 (i + 1) _ q hg
      have b := r.lt (Nat.lt_succ_self i) hgi hg
      omega
theorem Bz2N {xs : Array Nat} (h : xs.size ≤ 1) : Rise xs := by
  unfold Rise
  match hx : xs.toList with
  | [] => exact List.Pairwise.nil
  | [a] => exact List.pairwise_singleton _ _
  | a :: b :: l => have := congrArg List.length hx; simp at this; omega
end L3
namespace L3
open PySem
section
variable {prog : Program} {w : World} {A : Around} {E : Value → Shared → Prop} {s : Shared} {S I T : Addr} {o : Obj} {es : Array (Int × Value)} {ep : Nat} {t : SetTable} {first : Value} {i : Nat} {σ : List Int}
theorem Bz5A {b : Bool} {Q : Bool → Shared → Prop} (e : w.params.followText "set-order" = b) (ho : s.heap.get? S = some o) (hd : o.data = .set es ep t) (hf : t.fits es.size = true) (h : Q (!b && (!t.plain && decide (es.size > 1))) s) :
    wpAny (model prog w) A (setDrawn S) Q E s := by
  unfold setDrawn
  refine wpAny_bind (wpAny_setState_of ho hd hf ?_); dsimp only
  exact wpAny_bind (Bz0T e (wpAny_pure h))
theorem Bz8C {prog : Program} {w : World} {l : List (Int × Value)} (h : ElemsOf (intKind prog w) l) : ∀ v ∈ l.map (·.2), ∃ n u, v = Value.int n u := by
  intro v hv
  obtain ⟨e, he, rfl⟩ := List.mem_map.mp hv
  obtain ⟨⟨k, hk, _⟩, _⟩ := h e he
  obtain ⟨u, q⟩ := Value.isInt_shape (show Value.isInt k e.2 = true from hk)
  exact ⟨k, u, q⟩
theorem Bz2I {Q : Fin → Shared → Prop} (hz : ∀ (h' : Heap) I, h' = s.heap.push { cls := .type "set_iterator", data := .fields #[first, rawInt 0, .ref S, rawInt es.size, rawInt ep] } → I = s.heap.objs.size →
      IsSIt h' I first 0 S es.size ep → (∀ b o, s.heap.get? b = some o → h'.get? b = some o) → Q (.done (.ret (.ref I))) { s with heap := h' }) (ho : s.heap.get? S = some o) (hd : o.data = .set es ep t) (hf : t.fits es.size = true) :
    wpAny (model prog w) A (setEpoch S >>= fun e => newFields "set_iterator" [first, rawInt 0, .ref S, rawInt es.size, rawInt e] >>= fun v => ret v) Q E s := by
  refine wpAny_bind (wpAny_setEpoch_of ho hd hf ?_)
  exact wpAny_bind (wpAny_newObj_type (wpAny_pure (hz _ _ rfl rfl (Heap.get?_push_size _ rfl) fun b o e => Heap.get?_push_of_some _ e)))
theorem Cz0A {Q : Value → Shared → Prop} (hS : SI prog w s.heap S σ)
    (h : ∀ I fp ord St h' d, (∀ A' : Around, A'.handled = none → SW prog w A' I fp ord St) → (ord.map nv).Perm σ → (∀ v ∈ ord, ∃ n u, v = Value.int n u) → St 0 h' → (∀ b o, s.heap.get? b = some o → h'.get? b = some o) → s.heap.objs.size ≤ I →
      (∀ b ∈ fp, b = S ∨ s.heap.objs.size ≤ b) → Q (.ref I) { s with heap := h', drawn := d }) : wpAny (model prog w) A (pyIter (.ref S)) Q E s := by
  obtain ⟨o, es, ep, t, ho, hex, hd, hel, hp, hb, hf, ht⟩ := hS
  have lS : S < s.heap.objs.size := Heap.lt_size ho
  have hT : s.TypeIs (.ref S) "set" := ⟨o, ho, hex.1⟩
  refine wpAny_pyIter_slot hT PySem.F.slot_set_iter (wpAny_call_entry PySem.F.slot_set_iter hT F.entry_set_iter ?_ (PySem.F.args_set_iter_1 _))
  unfold Builtin.«frozenset.__iter__»
  show wpAny _ _ (Builtin.Frozenset.sizeOf S >>= _) _ _ s
  refine wpAny_bind ?_
  unfold Builtin.Frozenset.sizeOf
  refine wpAny_bind (wpAny_setEntries_of ho hd hf (wpAny_pure ?_))
  refine wpAny_bind (Bz5A rfl ho hd hf ?_)
  have ord1 : ∀ (ord : Array (Int × Value)), ord.toList.Perm es.toList → ((ord.toList.map (·.2)).map nv).Perm σ ∧ ∀ v ∈ ord.toList.map (·.2), ∃ n u, v = Value.int n u := fun ord q =>
    ⟨by rw [List.map_map]; exact (q.map _).trans hp, Bz8C (hel.perm q)⟩
  cases hw : (!w.params.followText "set-order" && (!t.plain && decide (es.size > 1)))
  · rw [if_neg (by simp)]
    refine wpAny_bind (wpAny_pure ?_)
    cases bt : w.params.followText "set-order"
    · have hpl : t.plain = true ∨ es.size ≤ 1 := by
        rw [bt] at hw
        cases hq : t.plain
        · rw [hq] at hw
          exact .inr (by simpa using hw)
        · exact .inl rfl
      have rr : Rise t.place := by
        rcases hpl with q | q
        · exact (ht.ok q).1
        · refine Bz2N ?_
          have hf' := hf
          simp only [SetTable.fits, Bool.and_eq_true, beq_iff_eq] at hf'
          omega
      have hps : t.place.size = es.size := by
        have hf' := hf
        simp only [SetTable.fits, Bool.and_eq_true, beq_iff_eq] at hf'
        exact hf'.1
      have hl : t.led = true := by rw [ht.led, bt]; rfl
      refine Bz2I (first := rawInt 0) (fun h' I eh eI hi k => ⟨_, rfl, "set_iterator", _, ⟨_, hi, rfl⟩, F.slot_si_next.lookup, ?_⟩) ho hd hf
      have hSI : S ≠ I := by rw [eI]; exact Nat.ne_of_lt lS
      have hll : (es.toList.map (·.2)).length = es.size := by simp
      refine h I [I, S] (es.toList.map (·.2)) (fun i h => IsSIt h I (rawInt (slotAt t.place i)) i S es.size ep ∧ h.get? S = some o) h' s.drawn (fun A' hA => ⟨?_, by simp⟩) (ord1 es (List.Perm.refl _)).1 (ord1 es (List.Perm.refl _)).2 ⟨hi, k _ _ ho⟩ k (by rw [eI]; exact Nat.le_refl _) fun b hb => ?_
      · rw [hll]
        refine Az7L hA hSI _ hll (slotAt t.place) hd hf fun A'' i s' Q' E' hi' hs' q => Az7N bt hs' hd hf hl hpl ?_
        rw [Bz7O rr i (by omega)]
        rcases Nat.lt_or_ge i es.size with z | z
        · rw [Array.getElem?_eq_getElem z, Array.getElem?_eq_getElem (show i < t.place.size by omega)]
          have e1 : (es.toList.map (·.2))[i]? = some (es[i]).2 := by simp [z]
          rw [e1] at q
          have e2 : slotAt t.place (i + 1) = t.place[i]'(by omega) + 1 := by simp [slotAt, Array.getD, show i < t.place.size by omega]
          rw [e2] at q
          exact q
        · rw [Array.getElem?_eq_none z]
          rw [List.getElem?_eq_none (by simpa using z)] at q
          exact q
      · simp only [List.mem_cons, List.not_mem_nil, or_false] at hb
        rcases hb with z | z
        · exact .inr (by rw [z, eI]; exact Nat.le_refl _)
        · exact .inl z
    · refine Bz2I (first := rawInt 0) (fun h' I eh eI hi k => ⟨_, rfl, "set_iterator", _, ⟨_, hi, rfl⟩, F.slot_si_next.lookup, ?_⟩) ho hd hf
      have hSI : S ≠ I := by rw [eI]; exact Nat.ne_of_lt lS
      have pk := Az6Z (w.params.setOrder S ep) es
      have hll : ((pickOrder (w.params.setOrder S ep) es).toList.map (·.2)).length = es.size := by rw [List.length_map, pk.length_eq, Array.length_toList]
      refine h I [I, S] ((pickOrder (w.params.setOrder S ep) es).toList.map (·.2)) (fun i h => IsSIt h I (rawInt ((0 : Nat) : Int)) i S es.size ep ∧ h.get? S = some o) h' s.drawn (fun A' hA => ⟨?_, by simp⟩) (ord1 _ pk).1 (ord1 _ pk).2 ⟨hi, k _ _ ho⟩ k (by rw [eI]; exact Nat.le_refl _) fun b hb => ?_
      · rw [hll]
        refine Az7L hA hSI _ hll (fun _ => 0) hd hf fun A'' i s' Q' E' hi' hs' q => Az8U bt hs' hd hf ?_
        have e1 : ((pickOrder (w.params.setOrder S ep) es).toList.map (·.2))[i]? = ((pickOrder (w.params.setOrder S ep) es)[i]?).map (·.2) := by simp
        rw [e1, Option.map_map] at q
        exact q
      · simp only [List.mem_cons, List.not_mem_nil, or_false] at hb
        rcases hb with z | z
        · exact .inr (by rw [z, eI]; exact Nat.le_refl _)
        · exact .inl z
  · rw [if_pos rfl]
    refine wpAny_bind (Az8C _ _ _ (by simp) fun ys d py => ?_)
    have hyl : ys.length = es.size := by rw [py.length_eq, List.length_range]
    refine wpAny_bind (wpAny_newTuple ?_ (by rw [List.length_map, hyl]; exact fits_of_scanBound hb))
    generalize hTd : s.heap.push { cls := .type "tuple", data := .seq (ys.map fun (j : Nat) => rawInt (j : Int)).toArray } = h1
    have hT1 : h1.get? s.heap.objs.size = some { cls := .type "tuple", data := .seq (ys.map fun (j : Nat) => rawInt (j : Int)).toArray } := by rw [← hTd]; exact Heap.get?_push_size _ rfl
    have k1 : ∀ b o, s.heap.get? b = some o → h1.get? b = some o := fun b o e => by rw [← hTd]; exact Heap.get?_push_of_some _ e
    have z1 : h1.objs.size = s.heap.objs.size + 1 := by rw [← hTd, Heap.size_push]
    refine Bz2I (s := { s with heap := h1, drawn := d }) (first := .ref s.heap.objs.size) (fun h' I eh eI hi k => ⟨_, rfl, "set_iterator", _, ⟨_, hi, rfl⟩, F.slot_si_next.lookup, ?_⟩) (k1 _ _ ho) hd hf
    have eI' : I = s.heap.objs.size + 1 := eI.trans z1
    have hSI : S ≠ I := by rw [eI']; exact Nat.ne_of_lt (Nat.lt_succ_of_lt lS)
    have hTI : s.heap.objs.size ≠ I := by rw [eI']; exact Nat.ne_of_lt (Nat.lt_succ_self _)
    have hll : (ys.map fun j => (es.getD j (0, .none)).2).length = es.size := by rw [List.length_map, hyl]
    have hyp : (ys.map fun j => (es.getD j (0, .none)).2).Perm (es.toList.map (·.2)) := by
      refine (py.map _).trans (List.Perm.of_eq ?_)
      apply List.ext_getElem?
      intro j
      rcases Nat.lt_or_ge j es.size with z | z
      · simp [z, Array.getD]
      · rw [List.getElem?_eq_none (by simpa using z), List.getElem?_eq_none (by simpa using z)]
    refine h I [I, S, s.heap.objs.size] (ys.map fun j => (es.getD j (0, .none)).2) (fun i h => IsSIt h I (.ref s.heap.objs.size) i S es.size ep ∧ h.get? S = some o ∧ h.get? s.heap.objs.size = some { cls := .type "tuple", data := .seq (ys.map fun (j : Nat) => rawInt (j : Int)).toArray }) h' d
      (fun A' hA => ⟨?_, by simp⟩) ((hyp.map nv).trans (ord1 es (List.Perm.refl _)).1) (fun v hv => (ord1 es (List.Perm.refl _)).2 v (hyp.mem_iff.mp hv)) ⟨hi, k _ _ (k1 _ _ ho), k _ _ hT1⟩ (fun b o e => k _ _ (k1 _ _ e)) (by rw [eI']; exact Nat.le_succ _) fun b hb => ?_
    · rw [hll]
      exact Bz1Y hA hSI hTI ys py hd hf
    · simp only [List.mem_cons, List.not_mem_nil, or_false] at hb
      rcases hb with z | z | z
      · exact .inr (by rw [z, eI']; exact Nat.le_succ _)
      · exact .inl z
      · exact .inr (by rw [z]; exact Nat.le_refl _)
end
end L3
namespace L3
open PySem
open Sem (wp)
section
variable {prog : Program} {w : World} {A : Around} {E : Value → Shared → Prop} {s : Shared} {S : Addr} {σ : List Int}
theorem Bz8S {Q : Bool → Shared → Prop} (hT : s.TypeIs (.ref S) "set") (h : Q false s) : wpAny (model prog w) A (Builtin.List.listLengthHint (.ref S)) Q E s := by
  unfold Builtin.List.listLengthHint
  refine wpAny_bind (wpAny_specialOf hT PySem.F.slot_set_len.lookup ?_)
  generalize hid : ("set.__len__" : String) = id0
  wp_delta
  rw [show splitId id0 = some ("set", "__len__") from by subst hid; decide +kernel]
  subst hid
  refine wpAny_bind (wpAny_isInstance (T := "set") (b := true) hT (by rw [isSubtype_type]; kernel_rfl) (wpAny_ite_split (fun z => absurd z (by decide)) fun _ => ?_))
  refine wpAny_ite_split (fun _ => wpAny_bind (wpAny_typeOf hT (wpAny_pure h))) fun z => absurd (by decide +kernel) z
theorem Bz2J {Q : List Value → Shared → Prop} (hh : A.handled = none) (hS : SI prog w s.heap S σ) (hz : σ.length ≤ sizeLine)
    (h : ∀ vs h' d tk, (vs.map nv).Perm σ → (∀ v ∈ vs, ∃ n u, v = Value.int n u) → (∀ b o, s.heap.get? b = some o → h'.get? b = some o) → s.heap.objs.size < h'.objs.size → Q vs { s with heap := h', drawn := d, toks := tk }) :
    wpAny (model prog w) A (collect (.ref S)) Q E s := by
  have hT : s.TypeIs (.ref S) "set" := let ⟨o, _, _, _, ho, hex, _⟩ := hS; ⟨o, ho, hex.1⟩
  have lS : S < s.heap.objs.size := let ⟨_, _, _, _, ho, _⟩ := hS; Heap.lt_size ho
  generalize hg : s.heap.push { cls := .type "list", data := .seq ([] : List Value).toArray } = h1
  have k1 : ∀ b o, s.heap.get? b = some o → h1.get? b = some o := fun b o e => by rw [← hg]; exact Heap.get?_push_of_some _ e
  have n1 : h1.get? s.heap.objs.size = some { cls := .type "list", data := .seq ([] : List Value).toArray } := by rw [← hg]; exact Heap.get?_push_size _ rfl
  have z1 : h1.objs.size = s.heap.objs.size + 1 := by rw [← hg, Heap.size_push]
  unfold collect
  refine wpAny_bind (wpAny_runValue (codeAny_builtin PySem.F.entry_proto_collect ?_)); rw [Around.under_plainId PySem.F.plain_proto_collect _]
  show wpAny _ A.in1 (newList [] >>= fun l => again (.builtin "list.__iadd__" ⟨[l, .ref S], []⟩)) _ _ s
  refine wpAny_bind (wpAny_newObj_type (wpAny_pure ⟨plainId_quiet PySem.F.plain_list_iadd _, codeAny_builtin PySem.F.entry_list_iadd ?_⟩)); rw [Around.under_plainId PySem.F.plain_list_iadd _, hg]
  show wpAny _ A.in1 (Builtin.List.listExtendWith (.ref s.heap.objs.size) (.ref S) (.ref s.heap.objs.size)) _ _ { s with heap := h1 }
  unfold Builtin.List.listExtendWith
  have hT1 : Shared.TypeIs { s with heap := h1 } (.ref S) "set" := let ⟨o, ho, c⟩ := hT; ⟨o, k1 _ _ ho, c⟩
  refine wpAny_bind (wpAny_typeOf hT1 ?_)
  have e1 : Builtin.List.listSameRef (.ref s.heap.objs.size) (.ref S) = false := by simp [Builtin.List.listSameRef]; exact Nat.ne_of_gt lS
  rw [if_neg (by rw [e1]; decide)]
  refine wpAny_bind (Cz0A (hS.at' fun o e => k1 _ _ e) fun I fp ord St h2 d sw po nums st k2 hI hfp => ?_)
  have hT2 : Shared.TypeIs { s with heap := h2, drawn := d } (.ref S) "set" := let ⟨o, ho, c⟩ := hT1; ⟨o, k2 _ _ ho, c⟩
  refine wpAny_bind (wpAny_holding (Bz8S hT2 ?_))
  have hI' : s.heap.objs.size + 1 ≤ I := by rw [← z1]; exact hI
  have hnf : s.heap.objs.size ∉ fp := fun z => by
    rcases hfp _ z with q | q
    · rw [q] at lS; exact Nat.lt_irrefl _ lS
    · have q' : s.heap.objs.size + 1 ≤ s.heap.objs.size := by rw [← z1]; exact q
      exact Nat.lt_irrefl _ q'
  show wpAny _ A.in1 (rule "list.extend.makes-room" >>= fun _ => Builtin.List.listTouch (.ref s.heap.objs.size) >>= fun _ => again (.builtin "list.extend.loop" ⟨[.ref s.heap.objs.size, .ref I, .ref s.heap.objs.size], []⟩)) _ _ _
  refine wpAny_bind (wpAny_rule (wpAny_bind ?_))
  have n2 := k2 _ _ n1
  show wpAny _ A.in1 (updateSeq s.heap.objs.size (·.push .none) >>= fun _ => updateSeq s.heap.objs.size (·.pop)) _ _ _
  refine wpAny_bind (wpAny_updateSeq n2 rfl ?_)
  have n3 := Heap.get?_update_self (Obj.mapSeq (·.push Value.none)) n2 rfl
  refine wpAny_updateSeq (s := { s with heap := h2.update s.heap.objs.size (Obj.mapSeq (·.push Value.none)), drawn := d }) n3 rfl ?_
  have n4 := Heap.get?_update_self (Obj.mapSeq (·.pop)) n3 rfl
  have oth : ∀ b o, b ≠ s.heap.objs.size → h2.get? b = some o → ((h2.update s.heap.objs.size (Obj.mapSeq (·.push Value.none))).update s.heap.objs.size (Obj.mapSeq (·.pop))).get? b = some o := fun b o hb e =>
    (Heap.get?_update_other _ _ (Ne.symm hb)).trans ((Heap.get?_update_other _ _ (Ne.symm hb)).trans e)
  have W := (sw A.in1 (by simpa using hh)).W
  have ho : ord.length ≤ sizeLine := by rw [← List.length_map (f := nv), po.length_eq]; exact hz
  refine wpAny_pure ⟨plainId_quiet PySem.F.plain_extend_loop _, codeAny_extend_loopS W.toS ho _ hnf _ ord.length 0 _ _ _ rfl (Nat.zero_le _) (W.frame 0 h2 _ st fun b hb o e => oth b o (fun q => hnf (q ▸ hb)) e) n4 (ItemsOf.nil _) fun s' acc c mv n5 its => ?_⟩
  show wpAny _ A (load s.heap.objs.size >>= _) _ _ s'
  refine wpAny_bind (wpAny_load n5 (wpAny_pure ?_))
  obtain ⟨hp', g', d', tk', os'⟩ := s'
  have e1 : g' = s.gens := mv.gens
  have e2 : d' = d := mv.drawn
  have e3 : os' = s.os := mv.os
  subst e1 e2 e3
  have ea : acc.toList = ord := by
    apply List.ext_getElem?
    intro j
    rw [Array.getElem?_toList]
    cases hj : acc[j]? with
    | some v => exact (its.2 j v hj).symm
    | none =>
      have : acc.size ≤ j := by
        rcases Nat.lt_or_ge j acc.size with q | q
        · rw [Array.getElem?_eq_getElem q] at hj; cases hj
        · exact q
      rw [its.1] at this
      exact (List.getElem?_eq_none this).symm
  rw [ea]
  refine h ord hp' _ tk' po nums (fun b o e => ?_) (Heap.lt_size n5)
  have lb : b < s.heap.objs.size := Heap.lt_size e
  refine mv.heap b o (fun z => ?_) (oth b o (Nat.ne_of_lt lb) (k2 _ _ (k1 _ _ e)))
  simp only [List.mem_cons, List.not_mem_nil, or_false] at z
  rcases z with z | z
  · rw [z] at lb; exact Nat.lt_irrefl _ lb
  · rw [z] at lb; exact absurd (Nat.lt_of_lt_of_le lb (Nat.le_trans (Nat.le_succ _) hI')) (Nat.lt_irrefl _)
end
end L3
namespace L3
open PySem
open Sem (wp)
noncomputable def met (ns : List Int) : List Int := ns.foldl ddp []
theorem Cz3D (σ : List Int) (k : Int) : (ddp σ k).length ≤ σ.length + 1 := by unfold ddp; split <;> simp
theorem Bz3U : ∀ (ns σ : List Int), (ns.foldl ddp σ).length ≤ σ.length + ns.length
  | [], σ => by simp
  | n :: ns, σ => by have := Bz3U ns (ddp σ n); have := Cz3D σ n; rw [List.foldl_cons, List.length_cons]; omega
theorem Bz6Y (ns : List Int) : (met ns).length ≤ ns.length := by have := Bz3U ns []; simpa [met] using this
theorem Bz8G {ns : List Int} {i : Nat} (h : i < ns.length) : met (ns.take (i + 1)) = ddp (met (ns.take i)) (ns.getD i 0) := by
  unfold met
  rw [List.take_add_one, List.foldl_append, List.getElem?_eq_getElem h]
  simp [List.getD, List.getElem?_eq_getElem h]
section
variable {prog : Program} {w : World} {A : Around} {R : Result → Shared → Prop} {I : Addr} {fp wr : List Addr} {G : Array GenState → Array GenState → Prop} {n : Nat} {P : Nat → Value → Prop} {St : Nat → Shared → Prop} {E : Value → Shared → Prop} {s : Shared}
theorem Bz9Z (W : WalksS prog w A.in1 I fp wr G n P St) (S : Addr) (hSf : S ∉ fp) (ns : List Int) (hn : ns.length = n) (hv : ∀ i v, P i v → ∃ u, v = Value.int (ns.getD i 0) u) (hb : n + 1 < scanBound) :
    ∀ (k i : Nat) (s : Shared), n - i = k → i ≤ n → St i s → SI prog w s.heap S (met (ns.take i)) → (∀ s', Moved (S :: wr) G s s' → SI prog w s'.heap S (met ns) → R (.ok (.ret .none)) s') →
      codeAny (model prog w) A (.builtin "set.update.loop" ⟨[.ref S, .ref I], []⟩) R s := by
  have hSw : S ∉ wr := fun h => hSf (W.sub _ h)
  have up : ∀ b ∈ wr, b ∈ S :: wr := fun b hb => List.mem_cons_of_mem _ hb
  intro k
  induction k with
  | zero =>
    intro i s hk hi st hS hR
    have : i = n := by omega
    subst this
    refine codeAny_builtin PyProof.Rows.F.entry_set_update_loop ?_; rw [Around.under_plainId PyProof.Rows.F.plain_set_update_loop _]
    show wpAny _ A.in1 (pyNext (.ref I) >>= _) _ _ s
    refine wpAny_bind (W.done s _ _ st fun s' mv => wpAny_pure (hR s' (mv.mono up) ?_))
    rw [List.take_of_length_le (Nat.le_of_eq hn)] at hS
    exact hS.at' fun o e => mv.heap S o hSw e
  | succ k ih =>
    intro i s hk hi st hS hR
    have lt : i < n := by omega
    refine codeAny_builtin PyProof.Rows.F.entry_set_update_loop ?_; rw [Around.under_plainId PyProof.Rows.F.plain_set_update_loop _]
    show wpAny _ A.in1 (pyNext (.ref I) >>= _) _ _ s
    refine wpAny_bind (W.item i s _ _ lt st fun v s' pv st' mv => ?_)
    obtain ⟨u, rfl⟩ := hv i v pv
    have hS' : SI prog w s'.heap S (met (ns.take i)) := hS.at' fun o e => mv.heap S o hSw e
    have room : (met (ns.take i)).length + 1 < scanBound := by have := Bz6Y (ns.take i); rw [List.length_take] at this; omega
    show wpAny _ A.in1 (holding [Value.int (ns.getD i 0) u] (setAdd S (.int (ns.getD i 0) u)) >>= _) _ _ s'
    refine wpAny_bind (wpAny_holding ?_)
    unfold setAdd
    refine wpAny_holding (wpAny_bind ((intKind prog w).pyHash (k := ns.getD i 0) (is_int _ _) ?_))
    refine si_add (s := { s' with toks := s'.toks + 1 }) hS' room fun h' b sb hS2 => wpAny_pure ⟨plainId_quiet PyProof.Rows.F.plain_set_update_loop _, ?_⟩
    refine ih (i + 1) _ (by omega) lt (W.frame _ s' _ _ st' (Nat.le_succ _) fun b hb o e => sb.extBut _ _ (fun q => hSf (q ▸ hb)) e) (by rw [Bz8G (by omega)]; exact hS2) fun s'' mv2 hS3 => hR s'' ?_ hS3
    exact Moved.trans W.gtrans ((mv.mono up).then_heap (Nat.le_succ _) fun b o hb e => sb.extBut _ _ (fun q => hb (by rw [q]; exact List.mem_cons_self)) e) mv2
noncomputable def Itr (prog : Program) (w : World) (l : Addr) (ol : Obj) (items : Array Value) : Prop := ∀ (A : Around) (s' : Shared) (Q : Value → Shared → Prop) (E : Value → Shared → Prop), s'.heap.get? l = some ol →
  (∀ I St h', (∀ A' : Around, A'.handled = none → Walks prog w A' I [I, l] [I] items.size (fun i v => items[i]? = some v) St) → St 0 h' → I = s'.heap.objs.size → (∀ b o, s'.heap.get? b = some o → h'.get? b = some o) → Q (.ref I) { s' with heap := h' }) →
  wpAny (model prog w) A (pyIter (.ref l)) Q E s'
theorem Bz8O {l : Addr} {ol : Obj} {items : Array Value} {nl : Nat} (hc : ol.cls = .type "list") (hd : ol.data = .seq items nl) : Itr prog w l ol items := fun A s' Q E hl h => by
  have hL : s'.heap.IsList l items := ⟨ol, hl, hc, nl, hd⟩
  have hne : l ≠ s'.heap.objs.size := Nat.ne_of_lt (Heap.lt_size hl)
  exact wpAny_pyIter_list hL (h _ (fun i h => h.IsListIter s'.heap.objs.size l i ∧ h.IsList l items) _ (fun A' hA => Walks.list hA _ l hne items) ⟨⟨_, Heap.get?_push_size _ rfl, rfl, rfl⟩, hL.push _⟩ rfl fun b o e => Heap.get?_push_of_some _ e)
theorem Bz5V {l : Addr} {ol : Obj} {items : Array Value} {nl : Nat} (hc : ol.cls = .type "tuple") (hd : ol.data = .seq items nl) : Itr prog w l ol items := fun A s' Q E hl h => by
  have hL : s'.heap.IsTuple l items := ⟨ol, hl, hc, nl, hd⟩
  have hne : l ≠ s'.heap.objs.size := Nat.ne_of_lt (Heap.lt_size hl)
  exact wpAny_pyIter_tuple hL (h _ (fun i h => h.IsTupleIter s'.heap.objs.size l i ∧ h.IsTuple l items) _ (fun A' hA => Walks.tuple hA _ l hne items) ⟨⟨_, Heap.get?_push_size _ rfl, rfl, rfl⟩, hL.push _⟩ rfl fun b o e => Heap.get?_push_of_some _ e)
theorem Bz7Q (a : Value) {Q₁ : Value → Shared → Prop} (h : ∀ led : Bool, led = (!w.params.followText "set-order") → Q₁ (.ref s.heap.objs.size) { s with heap := s.heap.push { cls := .type "set", dict := none, data := .set #[] 0 (.fresh 0 0 led) } }) :
    codeAny (model prog w) A (.call (.builtin "set.__new__") ⟨[.type "set", a], []⟩) (wants Q₁ E) s := by
  refine codeAny_of_tree ?_
  show wpAny _ A.in1 (checkBuiltinCall "set.__new__" ⟨[.type "set", a], []⟩ >>= fun _ => again (.builtin "set.__new__" ⟨[.type "set", a], []⟩)) _ _ s
  refine wpAny_bind (wpAny_of_eq (PySem.F.newCall_set_1 a) (wpAny_pure ⟨plainId_quiet PySem.F.plain_set_new _, codeAny_builtin PySem.F.entry_set_new ?_⟩)); rw [Around.under_plainId PySem.F.plain_set_new _]
  unfold Builtin.«set.__new__» Builtin.Frozenset.newClass
  have hsub := sub_set_self
  obtain ⟨hp, g, d, tk, os⟩ := s
  dsimp only; wp_walk
  refine wpAny_askSetting (wpAny_pure ?_)
  dsimp only; simp only [newObj]
  exact wpAny_bind (wpAny_alloc (wpAny_pure (wpAny_pure (h _ rfl))))
end
end L3
namespace L3
open PySem
open Sem (wp)
section
variable {prog : Program} {w : World} {A : Around} {E : Value → Shared → Prop} {s : Shared}
theorem Bz7P {h : Heap} {a : Addr} {led : Bool} (e : led = (!w.params.followText "set-order")) (hg : h.get? a = some { cls := .type "set", dict := none, data := .set #[] 0 (.fresh 0 0 led) }) : SI prog w h a [] :=
  ⟨_, #[], 0, _, hg, ⟨rfl, rfl, rfl⟩, rfl, fun e he => by simp at he, by simp, by decide, by rfl, ⟨e, fun _ => ⟨List.Pairwise.nil, rfl⟩⟩⟩
theorem Az5V {T : String} {l : Addr} {ol : Obj} {items : Array Value} {ns : List Int} {Q : Value → Shared → Prop} (hh : A.handled = none) (hol : s.heap.get? l = some ol) (hcl : ol.cls = .type T) (hs1 : isSubtype (.type T) (.type "set") = pure false)
    (hs2 : isSubtype (.type T) (.type "frozenset") = pure false) (hnd : (Value.type T == Value.type "dict") = false) (hit : Itr prog w l ol items) (hn : ns.length = items.size) (hv : ∀ i v, items[i]? = some v → ∃ u, v = Value.int (ns.getD i 0) u) (hb : items.size + 1 < scanBound)
    (h : ∀ h' tk, SI prog w h' s.heap.objs.size (met ns) → (∀ b o, s.heap.get? b = some o → h'.get? b = some o) → Q (.ref s.heap.objs.size) { s with heap := h', toks := tk }) : wpAny (model prog w) A (call (.type "set") [.ref l]) Q E s := by
  obtain ⟨c, tl, hmro⟩ := PySem.F.called_set.mro
  have hmade := PySem.F.called_set.made
  have hsub := PySem.F.called_set.sub
  refine wpAny_call (codeAny_of_tree ?_); show wpAny _ _ (callAny (.type "set") _) _ _ _
  refine wpAny_pure ⟨Code.quiet_builtin _ (by decide +kernel), codeAny_builtin PySem.F.entry_type_call ?_⟩; rw [Around.under_plain (weight_type_call_type "set" [.ref l] []) rfl]
  have q1 := PySem.F.called_set.notType
  have q2 := PySem.F.called_set.canCreate
  have q3 := PySem.F.typeCall_set_1 (.ref l)
  repeat (any_goals (first | assumption | wp_step))
  refine codeAny_mono (Bz7Q (.ref l) (E := E) (Q₁ := fun obj s₁ => ∃ led : Bool, led = (!w.params.followText "set-order") ∧ obj = .ref s.heap.objs.size ∧ s₁ = { s with heap := s.heap.push { cls := .type "set", dict := none, data := .set #[] 0 (.fresh 0 0 led) } }) fun led e => ⟨led, e, rfl, rfl⟩) fun r s₁ hr => ?_
  cases r with
  | error e => exact hr
  | ok fl =>
    cases fl with
    | ret obj =>
      obtain ⟨led, hled, rfl, rfl⟩ := hr
      generalize hg : s.heap.push { cls := .type "set", dict := none, data := .set #[] 0 (.fresh 0 0 led) } = h1
      have k1 : ∀ b o, s.heap.get? b = some o → h1.get? b = some o := fun b o e => by rw [← hg]; exact Heap.get?_push_of_some _ e
      have n1 : h1.get? s.heap.objs.size = some { cls := .type "set", dict := none, data := .set #[] 0 (.fresh 0 0 led) } := by rw [← hg]; exact Heap.get?_push_size _ rfl
      have z1 : h1.objs.size = s.heap.objs.size + 1 := by rw [← hg, Heap.size_push]
      clear hg
      have hT : Shared.TypeIs { s with heap := h1 } (.ref s.heap.objs.size) "set" := ⟨_, n1, rfl⟩
      have q4 := PySem.F.called_set.init.lookup
      have q5 := PySem.F.called_set.init.bind (.ref s.heap.objs.size)
      repeat (any_goals (first | assumption | wp_step))
      refine codeAny_mono (codeAny_call_builtin (R := wants (fun r s₂ => r = .none ∧ ∃ h' tk, s₂ = { s with heap := h', toks := tk } ∧ SI prog w h' s.heap.objs.size (met ns) ∧ ∀ b o, s.heap.get? b = some o → h'.get? b = some o) E)
        PySem.F.called_set.init.plain PySem.F.entry_set_init (check_set_init_1 hT ?_)) fun r₂ s₂ hr₂ => ?_
      · have hol' := k1 _ _ hol
        have hTl : Shared.TypeIs { s with heap := h1 } (.ref l) T := ⟨_, hol', hcl⟩
        unfold Builtin.«set.__init__» noKeywords Builtin.Frozenset.updateFrom
        generalize hPI : pyIter = PI
        wp_walk
        subst hPI
        refine hit _ _ _ _ hol' fun I St h2 W st eI k2 => ?_
        refine wpAny_bind (wpAny_runValue ?_)
        have lS : s.heap.objs.size < I := by rw [eI]; show _ < h1.objs.size; rw [z1]; exact Nat.lt_succ_self _
        have ll : l < s.heap.objs.size := Heap.lt_size hol
        have hSf : s.heap.objs.size ∉ [I, l] := by
          simp only [List.mem_cons, List.not_mem_nil, or_false, not_or]
          exact ⟨Nat.ne_of_lt lS, Nat.ne_of_gt ll⟩
        refine Bz9Z ((W _ (by simp [hh])).toS) s.heap.objs.size hSf ns hn hv hb items.size 0 _ (by omega) (Nat.zero_le _) st (Bz7P hled (k2 _ _ n1)) fun s' mv hS => ?_
        obtain ⟨h', g', d', tk', os'⟩ := s'
        have eg : g' = s.gens := mv.gens
        have ed : d' = s.drawn := mv.drawn
        have eo : os' = s.os := mv.os
        subst eg ed eo
        refine wpAny_pure (wpAny_pure ⟨rfl, h', tk', rfl, hS, fun b o e => ?_⟩)
        have lb : b < s.heap.objs.size := Heap.lt_size e
        refine mv.heap b o (fun z => ?_) (k2 _ _ (k1 _ _ e))
        simp only [List.mem_cons, List.not_mem_nil, or_false] at z
        rcases z with z | z
        · rw [z] at lb; exact Nat.lt_irrefl _ lb
        · rw [z] at lb; exact Nat.lt_irrefl _ (Nat.lt_trans lb lS)
      · cases r₂ with
        | error e => exact hr₂
        | ok fl₂ =>
          cases fl₂ with
          | ret r =>
            obtain ⟨rfl, h', tk, rfl, hS', hk'⟩ := hr₂
            repeat (any_goals (first | assumption | wp_step))
            exact h _ _ hS' hk'
          | _ => exact hr₂.elim
    | _ => exact hr.elim
end
end L3
namespace L3
open PySem PyProof.Rows
section
variable {prog : Program} {w : World} {A : Around} {E : Value → Shared → Prop} {s : Shared}
theorem num_nv {v : Value} (h : ∃ n u, v = Value.int n u) : numOf v = nv v := by obtain ⟨n, u, rfl⟩ := h; rfl
theorem Bz2F {S : Addr} {σ : List Int} {Q : Value → Shared → Prop} (hh : A.handled = none) (hS : SI prog w s.heap S σ) (h64 : σ.length < 64)
    (h : ∀ h' d tk p (out : List Value) (ns : List Int) (e : Nat), IntsAre out ns → ns.Perm σ → ns.Pairwise (· ≤ ·) → h'.get? p = some (seqObj "list" out.toArray e) → s.heap.objs.size ≤ p → (∀ b o, s.heap.get? b = some o → h'.get? b = some o) →
      Q (.ref p) { s with heap := h', drawn := d, toks := tk }) : wpAny (model prog w) A (call (.builtin "sorted") [.ref S]) Q E s := by
  refine Calls.call_function_entry kind_sorted plain_sorted entry_sorted (args_sorted1 _) ?_
  unfold Builtin.«sorted»
  refine wpAny_bind (m := checkCount "sorted" 1 1 _) (wpAny_pure ?_)
  refine wpAny_bind (Bz2J (by simpa using hh) hS (by rw [sizeLine_eq]; omega) fun vs h1 d tk po nums k1 z1 => ?_)
  have hm : vs.map numOf = vs.map nv := List.map_congr_left fun v hv => num_nv (nums v hv)
  have hI : IntsAre vs (vs.map nv) := by rw [← hm]; exact intsAre_map vs nums
  have hl : vs.length < 64 := by rw [← List.length_map (f := nv), po.length_eq]; exact h64
  refine wpAny_bind (wpAny_newList ?_ (by rw [sizeLine_eq]; omega))
  have n1 : (h1.push { cls := .type "list", data := .seq vs.toArray }).get? h1.objs.size = some (seqObj "list" vs.toArray 0) := Heap.get?_push_size _ rfl
  refine wpAny_bind (wpAny_holding (wpAny_call_entry slot_list_sort ⟨_, n1, rfl⟩ entry_list_sort (list_sort_tree n1 hI hl fun out ns' a1 a2 a3 => ⟨_, rfl, wpAny_pure ⟨_, rfl, ?_⟩⟩) (args_list_sort _)))
  obtain ⟨e, he⟩ := sortedHeap_at (out := out) n1
  have old : ∀ b o, s.heap.get? b = some o → b < h1.objs.size ∧ b ≠ h1.objs.size := fun b o q => ⟨Heap.lt_size (k1 _ _ q), Nat.ne_of_lt (Heap.lt_size (k1 _ _ q))⟩
  have hz : s.heap.objs.size ≤ h1.objs.size := Nat.le_of_lt z1
  refine h _ d tk h1.objs.size out.toList ns' e a1 (a2.trans po) a3 (by simpa using he) hz fun b o q => ?_
  rw [sortedHeap_old (old b o q).2 (by rw [size_push']; exact Nat.lt_succ_of_lt (old b o q).1)]
  exact Heap.get?_push_of_some _ (k1 _ _ q)
end
end L3
namespace L3
noncomputable def insI (k : Int) : List Int → List Int
  | [] => [k]
  | x :: xs => if k < x then k :: x :: xs else if k = x then x :: xs else x :: insI k xs
noncomputable def sortI : List Int → List Int
  | [] => []
  | n :: ns => insI n (sortI ns)
noncomputable abbrev Up (l : List Int) : Prop := l.Pairwise (fun a b => a < b)
theorem mem_insI {k a : Int} : ∀ {l : List Int}, a ∈ insI k l ↔ a = k ∨ a ∈ l
  | [] => by simp [insI]
  | x :: xs => by
    unfold insI
    split
    · simp
    · split
      · rename_i h; subst h; simp
      · rw [List.mem_cons, mem_insI (l := xs), List.mem_cons]
        constructor
        · rintro (h | h | h) <;> simp [h]
        · rintro (h | h | h) <;> simp [h]
theorem Bz6M {k : Int} : ∀ {l : List Int}, Up l → Up (insI k l)
  | [], _ => by simp [insI]
  | x :: xs, h => by
    obtain ⟨h1, h2⟩ := List.pairwise_cons.mp h
    unfold insI
    split
    · rename_i hk
      refine List.pairwise_cons.mpr ⟨fun b hb => ?_, h⟩
      rcases List.mem_cons.mp hb with rfl | hb
      · exact hk
      · have := h1 b hb; omega
    · split
      · exact h
      · refine List.pairwise_cons.mpr ⟨fun b hb => ?_, Bz6M h2⟩
        rcases mem_insI.mp hb with rfl | hb
        · omega
        · exact h1 b hb
theorem mem_sortI {a : Int} : ∀ {l : List Int}, a ∈ sortI l ↔ a ∈ l
  | [] => Iff.rfl
  | x :: xs => by rw [sortI, mem_insI, mem_sortI, List.mem_cons]
theorem Az6T : ∀ (l : List Int), Up (sortI l)
  | [] => List.Pairwise.nil
  | x :: xs => Bz6M (Az6T xs)
theorem Az9N : ∀ {a b : List Int}, Up a → Up b → (∀ x, x ∈ a ↔ x ∈ b) → a = b
  | [], [], _, _, _ => rfl
  | [], y :: ys, _, _, h => absurd ((h y).mpr List.mem_cons_self) (by simp)
  | x :: xs, [], _, _, h => absurd ((h x).mp List.mem_cons_self) (by simp)
  | x :: xs, y :: ys, ha, hb, h => by
    obtain ⟨a1, a2⟩ := List.pairwise_cons.mp ha
    obtain ⟨b1, b2⟩ := List.pairwise_cons.mp hb
    have e : x = y := by
      rcases List.mem_cons.mp ((h x).mp List.mem_cons_self) with p | p
      · exact p
      · rcases List.mem_cons.mp ((h y).mpr List.mem_cons_self) with q | q
        · exact q.symm
        · have := b1 x p; have := a1 y q; omega
    subst e
    refine congrArg _ (Az9N a2 b2 fun z => ?_)
    constructor
    · intro hz
      rcases List.mem_cons.mp ((h z).mp (List.mem_cons_of_mem _ hz)) with p | p
      · have := a1 z hz; omega
      · exact p
    · intro hz
      rcases List.mem_cons.mp ((h z).mpr (List.mem_cons_of_mem _ hz)) with p | p
      · have := b1 z hz; omega
      · exact p
theorem up_of {l : List Int} (h : l.Pairwise (fun a b => a ≤ b)) (n : l.Nodup) : Up l := by
  induction l with
  | nil => exact List.Pairwise.nil
  | cons x xs ih =>
    obtain ⟨h1, h2⟩ := List.pairwise_cons.mp h
    obtain ⟨n1, n2⟩ := List.nodup_cons.mp n
    refine List.pairwise_cons.mpr ⟨fun b hb => ?_, ih h2 n2⟩
    have := h1 b hb
    rcases Int.lt_or_eq_of_le this with q | q
    · exact q
    · subst q; exact absurd hb n1
end L3
namespace L3
open PySem PySem.Spec PyProof.Rows L2
noncomputable abbrev eh1 (t : Bool) (h : Heap) (l : Addr) : Heap := h.push (itO t l)
noncomputable abbrev eh2 (t : Bool) (h : Heap) (l : Addr) : Heap := (eh1 t h l).push { cls := .type "enumerate", data := .fields #[.none, .bool false, .ref h.objs.size, rawInt 0, .none, .none] }
theorem Bz6D (t : Bool) (l : Addr) (xs : Array Value) : Meets (Builtin.«enumerate.__new__» ⟨[.type "enumerate", .ref l], []⟩) (fun _ R s => IsSq t s.heap l xs ∧
      R (.ok (.ret (.ref (eh1 t s.heap l).objs.size))) { s with heap := eh2 t s.heap l }) :=
  .of_wp fun prog w A R s h => by
    obtain ⟨hp, g, d, tk, os⟩ := s; obtain ⟨q, h⟩ := h
    have hsub := sub_enumerate
    have e1 : IsSq t (Shared.heap ⟨hp, g, d, tk, os⟩) l xs := q
    wp_walk
    refine wpAny_stack_any fun st => wpAny_pure ?_
    split
    · rename_i c _ _ _ _ _
      cases (c == Value.type "enumerate")
      · wp_walk using Bz2E e1
        exact ⟨_, rfl, h⟩
      · wp_walk using Bz2E e1
        exact ⟨_, rfl, h⟩
    · wp_walk using Bz2E e1
      exact ⟨_, rfl, h⟩
theorem Bz4C {prog : Program} {w : World} {A : Around} {E : Value → Shared → Prop} {s : Shared} {t : Bool} {l : Addr} {xs : Array Value} {Q : Value → Shared → Prop} (q : IsSq t s.heap l xs)
    (h : ∀ n h', n = s.heap.objs.size → IsEnum h' (n + 1) n ((0 : Nat) : Int) .none → SqI t h' n l 0 → (∀ c o, s.heap.get? c = some o → h'.get? c = some o) → Q (.ref (n + 1)) { s with heap := h' }) :
    wpAny (model prog w) A (call (.type "enumerate") [.ref l]) Q E s := by
  refine callType_new F.called_enumerate (by decide) (F.typeCall_enumerate_1 _) (F.newCall_enumerate_1 _) (fun obj => F.args_object_init_2 obj _) F.entry_enumerate_new (Bz6D t l xs) ⟨q, ?_⟩
  have z1 : (eh1 t s.heap l).objs.size = s.heap.objs.size + 1 := Heap.size_push ..
  have g2 : (eh2 t s.heap l).get? (eh1 t s.heap l).objs.size = some _ := Heap.get?_push_size _ rfl
  have f1 : (itO t l).isFreed = false := by cases t <;> rfl
  have g1 : (eh2 t s.heap l).get? s.heap.objs.size = some (itO t l) := Heap.get?_push_of_some _ (Heap.get?_push_size _ f1)
  show _ ∧ _
  rw [z1] at g2 ⊢
  refine ⟨⟨_, g2, rfl⟩, h _ _ rfl g2 ?_ fun c o e => Heap.get?_push_of_some _ (Heap.get?_push_of_some _ e)⟩
  cases t with
  | true => exact ⟨_, g1, rfl, rfl⟩
  | false => exact ⟨_, g1, rfl, rfl⟩
noncomputable def Ite (K : PySem.W.Frag) (t : Bool) (l : Addr) : It :=
  ⟨fun i H => ∃ xs x, SqK t K H l xs ∧ xs[i]? = some x,
   fun i H v H' => ∃ p x, v = .ref p ∧ H p = none ∧ H' = upd H p (.tup [.int i, x]) ∧ ∀ xs, SqK t K H l xs → xs[i]? = some x,
   fun i H => ∃ xs, SqK t K H l xs ∧ i = xs.length⟩
theorem Bz4X {P : Program} {w : World} {K : PySem.W.Frag} {elts : List Expr} {kt : Nat} {pt : Pos} {t : Bool} {e it l : Addr} (n1 : l ≠ it) (n2 : e ≠ it) (n3 : e ≠ l) :
    Turn P w K (.Tuple elts kt pt) (Ite K t l) [e, it] e (fun i h => (∃ old, IsEnum h e it i old) ∧ SqI t h it l i) where
  mem := by simp
  obj := fun i h st b hb => by
    obtain ⟨⟨old, he⟩, s1⟩ := st
    simp only [List.mem_cons, List.not_mem_nil, or_false] at hb
    rcases hb with rfl | rfl
    · exact ⟨_, he, fun v q => nomatch q⟩
    · obtain ⟨o, vs, e, d⟩ := s1.rec
      exact ⟨o, e, fun v q => by rw [d] at q; cases q⟩
  keep := fun i h h' st k => by
    obtain ⟨⟨old, he⟩, s1⟩ := st
    exact ⟨⟨old, k e (by simp) _ he⟩, s1.at' fun o q => k it (by simp) o q⟩
  item := by
    intro X hP hw hK hc i pins s σ H E I hf st hg
    subst hP hw hK
    obtain ⟨⟨old, he⟩, s1⟩ := st
    obtain ⟨xs, x, q1, e1⟩ := hg
    obtain ⟨it1, r1, p1, _⟩ := inv_sq I q1
    obtain ⟨u1, hu1, ru1⟩ := r1.get e1
    have hef : e ∉ [it, l] := by simp only [List.mem_cons, List.not_mem_nil, or_false, not_or]; exact ⟨n2, n3⟩
    have hlt : i < it1.toArray.size := by
      rcases Nat.lt_or_ge i it1.length with z | z
      · simpa using z
      · rw [List.getElem?_eq_none z] at hu1; cases hu1
    refine wpAny_pyNext_enum_itemD (drawsS (show X.A.in1.handled = none from I.ok.hd hc) t it l n1 it1.toArray) he ⟨s1, p1⟩ hlt n2 hef fun x' h1 tk px eo st1 nw sz kk => ⟨_, rfl, ?_⟩
    have px' : it1[i]? = some x' := by simpa using px
    rw [hu1] at px'; cases px'
    refine wpAny_letOwnedTupleGo_enum (s := { s with heap := h1, toks := tk + 1 }) eo fun h2 e2 c2 => ?_
    have le : e < s.heap.objs.size := Heap.lt_size he
    have lit : it < s.heap.objs.size := by obtain ⟨o, _, q, _⟩ := s1.rec; exact Heap.lt_size q
    have up : ∀ b o, b ≠ e → h1.get? b = some o → h2.get? b = some o := fun b o ne q => c2.extBut _ _ ne q
    refine ⟨.ref s.heap.objs.size, upd H s.heap.objs.size (.tup [.int i, x]), ?_, rfl, ⟨_, x, rfl, I.hok.fresh (Nat.le_refl _), rfl, fun zs hs => by rw [Bz3I I hs q1]; exact e1⟩, ⟨⟨_, e2⟩, st1.1.at' fun o q => up _ _ (Ne.symm n2) q⟩, fun b hb => ?_⟩
    · show Inv X pins σ (upd H s.heap.objs.size (.tup [.int i, x])) { s with heap := h2, toks := tk + 1 }
      refine Bz0B (ch := [e, it]) (t' := tk + 1) I hf (fun b o hb q => ?_) (Nat.le_refl _) (.cons (by exact ⟨tk, rfl⟩) (.cons ru1 .nil)) (show (2 : Nat) ≤ sizeLine by rw [sizeLine_eq]; decide) ⟨_, up _ _ (Nat.ne_of_gt le) nw, rfl, _, rfl⟩
      simp only [List.mem_cons, List.not_mem_nil, or_false, not_or] at hb
      exact up _ _ hb.1 (kk b o hb.1 hb.2 q)
    · have hb1 := (hf b hb).1
      have : b < s.heap.objs.size := by
        simp only [List.mem_cons, List.not_mem_nil, or_false] at hb
        rcases hb with rfl | rfl
        · exact le
        · exact lit
      rw [upd_ne (Nat.ne_of_lt this)]; exact hb1
  done := by
    intro X hP hw hK hc i pins s σ H E I hf st hg
    subst hP hw hK
    obtain ⟨⟨old, he⟩, s1⟩ := st
    obtain ⟨xs, q1, rfl⟩ := hg
    obtain ⟨it1, r1, p1, _⟩ := inv_sq I q1
    have hsz : xs.length = it1.toArray.size := by simp [r1.length]
    rw [hsz] at s1 he
    refine wpAny_pyNext_enum_endD (drawsS (show X.A.in1.handled = none from I.ok.hd hc) t it l n1 it1.toArray) he ⟨s1, p1⟩ fun h1 k => ⟨rfl, ?_⟩
    refine Bz0A (ch := [e, it]) (t' := s.toks) I hf fun b o hb q => ?_
    simp only [List.mem_cons, List.not_mem_nil, or_false, not_or] at hb
    exact k b o hb.2 q
  self := fun _ _ _ _ _ st h => let ⟨⟨_, he⟩, _⟩ := st; wpAny_pyIter_enum he h
section
variable {X : Cx} {xw : XW} {elts : List Expr} {kt : Nat} {pt p pos : Pos} {a b : Expr} {fs : DSt → Res (List D)}
noncomputable def iEnum (K : PySem.W.Frag) (ta : TA) : TI := fun σ H R => ta σ H fun vs H1 => ∃ t l xs, vs = [.ref l] ∧ SqK t K H1 l xs ∧ R (Ite K t l) H1
theorem Cz0P {ta : TA} (hg : Gl X "enumerate") (hm : X.mg "enumerate" = none) (ha : PA X [a] ta) (hs : starEach [a] X.env = [(false, eval a X.env)]) :
    PI X (.Tuple elts kt pt) (.Call (.Name "enumerate" p) [a] [] pos) (iEnum X.K ta) := by
  intro pins s σ H R I h
  refine Call_ (ld_blt I hg hm (show bootBuiltins "enumerate" = some (.type "enumerate") by decide +kernel) (PyProof.Rows.callWith_type1 (thn (ha pos pins s σ H _ I h) fun us s1 ⟨vs, H1, I1, r1, q1⟩ => ?_) (by rw [hs]; rfl) (by rfl)))
  obtain ⟨t, l, xs, e, q1, q⟩ := q1
  subst e
  obtain ⟨u1, rfl, ru1⟩ := r1.one
  cases (show u1 = Value.ref l from ru1)
  obtain ⟨it1, v1, p1, _⟩ := inv_sq I1 q1
  have a1 := p1.lt
  refine Bz4C p1 fun n h' hn he s1' kk => wpAny_pyIter_enum he ?_
  subst hn
  have J : Inv X pins σ H1 { s1 with heap := h' } := I1.kept (t' := s1.toks) fun c o e => kk c o e
  refine ⟨s1.heap.objs.size + 1, [s1.heap.objs.size + 1, s1.heap.objs.size], _, _, H1, rfl, J, Bz4X (t := t) (Nat.ne_of_lt a1) (Nat.ne_of_gt (Nat.lt_succ_self _)) (Nat.ne_of_gt (Nat.lt_succ_of_lt a1)), ⟨⟨_, he⟩, s1'⟩, fun c hc => ?_, q⟩
  have hcs : s1.heap.objs.size ≤ c := by
    simp only [List.mem_cons, List.not_mem_nil, or_false] at hc
    rcases hc with rfl | rfl
    · exact Nat.le_succ _
    · exact Nat.le_refl _
  exact I1.fpOk hcs (I1.hok.fresh hcs)
noncomputable def enumD : Nat → List D → List D
  | _, [] => []
  | k, x :: xs => .tup [.int k, x] :: enumD (k + 1) xs
theorem Az2L : ∀ {xs : List D} {k i : Nat} {d : D}, (enumD k xs)[i]? = some d → ∃ x, xs[i]? = some x ∧ d = .tup [.int ((k + i : Nat) : Int), x]
  | [], _, _, _, e => by simp [enumD] at e
  | x :: xs, k, 0, d, e => by
    rw [enumD] at e
    simp at e
    exact ⟨x, rfl, by simp [← e]⟩
  | x :: xs, k, i + 1, d, e => by
    rw [enumD] at e
    obtain ⟨u, h1, h2⟩ := Az2L (xs := xs) (k := k + 1) (i := i) (by simpa using e)
    exact ⟨u, by simpa using h1, by rw [h2, show k + 1 + i = k + (i + 1) by omega]⟩
theorem Az3U : ∀ (k : Nat) (xs : List D), (enumD k xs).length = xs.length
  | _, [] => rfl
  | k, x :: xs => by rw [enumD, List.length_cons, Az3U, List.length_cons]
noncomputable def enumR (ds : List D) : Res (List D) := match ds with
  | [x] => match itemsD x with
    | some xs => .ok (enumD 0 xs)
    | _ => .stuck
  | _ => .stuck
theorem Cz2W (hm : X.mg "enumerate" = none) (ha : DA X xw [a] fs) (hg : autoParam (Gl X "enumerate") slim0._auto_1) (hs : autoParam (starEach [a] X.env = [(false, eval a X.env)]) slim0._auto_1) :
    DI X xw (.Tuple elts kt pt) (.Call (.Name "enumerate" p) [a] [] pos) (b1 enumR fs) :=
  PI.weak (Cz0P hg hm ha hs) fun σ H R ⟨W₀, H₀, W, δ, st, q⟩ => by
    refine ⟨W₀, H₀, W, δ, st, ?_⟩
    simp only [b1] at q
    cases h1 : fs δ with
    | stuck => rw [h1] at q; exact q
    | ex c gs => rw [h1] at q; exact q
    | ok ds =>
      rw [h1] at q
      intro vs H1 k1 hv
      dsimp only [Res.bind] at q
      unfold enumR at q
      split at q
      · rename_i ds' hq
        split at hq
        · rename_i x
          split at hq
          · rename_i xs ex
            have e' : enumD 0 xs = ds' := by cases hq; rfl
            subst e'
            rw [HasL] at hv
            obtain ⟨v1, r1, rfl, g1, hv⟩ := hv
            rw [HasL] at hv
            subst hv
            have w1 := st.fr.wl.same k1
            obtain ⟨t1, l1, xs1, rfl, r1, f1⟩ := sqk_of w1 g1 ex
            refine ⟨t1, l1, xs1, rfl, f1 W H1 Step.refl, q _ H1 k1 ?_⟩
            intro W' H2 k2 w2
            have c1 := f1 W' H2 k2
            refine ⟨fun i d e => ?_, xs1, c1, ?_⟩
            · obtain ⟨x0, e1, rfl⟩ := Az2L e
              obtain ⟨x1, o1, hx1⟩ := r1.get e1
              refine ⟨⟨xs1, x1, c1, o1⟩, fun u H3 z => ?_⟩
              obtain ⟨p0, x2, rfl, hp, rfl, z1⟩ := z
              have := z1 xs1 c1
              rw [o1] at this; cases this
              refine ⟨Az1V hp, ?_⟩
              rw [Has]
              have hx2 := (Has.keep k2.keep w1 k2.new hx1).same (Az1V (o := .tup [.int i, x1]) hp) w2
              refine ⟨p0, [.int i, x1], rfl, .of Az0H, HasL.cons ?_ (HasL.cons hx2 HasL.nil)⟩
              rw [Has, Nat.zero_add]
            · rw [Az3U, r1.length]
          · cases hq
        · cases hq
      · rename_i hq
        split at hq
        · split at hq <;> cases hq
        · cases hq
      · exact q.elim
end
end L3
namespace L3
open PySem PySem.Spec PyProof.Rows L2 SeqAt
theorem Cz1Q {σ : List Int} {k a : Int} : a ∈ ddp σ k ↔ a ∈ σ ∨ a = k := by
  unfold ddp
  split
  · rename_i h
    exact ⟨.inl, fun q => q.elim id fun e => e ▸ h⟩
  · simp
theorem Bz5M {σ : List Int} {k : Int} (h : σ.Nodup) : (ddp σ k).Nodup := by
  unfold ddp
  split
  · exact h
  · rename_i hk
    rw [List.nodup_append]
    exact ⟨h, by simp, fun a ha b hb => by simp at hb; subst hb; exact fun e => hk (e ▸ ha)⟩
theorem Bz3V : ∀ (ns σ : List Int), σ.Nodup → (ns.foldl ddp σ).Nodup ∧ ∀ a, a ∈ ns.foldl ddp σ ↔ a ∈ σ ∨ a ∈ ns
  | [], σ, h => ⟨h, fun a => by simp⟩
  | n :: ns, σ, h => by
    obtain ⟨h1, h2⟩ := Bz3V ns (ddp σ n) (Bz5M h)
    refine ⟨h1, fun a => ?_⟩
    rw [List.foldl_cons, h2, Cz1Q, List.mem_cons, or_assoc]
theorem Bz2G {ns out : List Int} (hp : out.Perm (met ns)) (hs : out.Pairwise (fun a b => a ≤ b)) : out = sortI ns := by
  obtain ⟨h1, h2⟩ := Bz3V ns [] List.nodup_nil
  refine Az9N (up_of hs (hp.nodup_iff.mpr h1)) (Az6T ns) fun x => ?_
  rw [hp.mem_iff, mem_sortI]
  exact (h2 x).trans (by simp)
theorem vals_ints : ∀ {us : List Value} {ns : List Int}, IntsAre us ns → Vals (ns.map V.int) us
  | _, _, .nil => .nil
  | _, _, .cons n t r => .cons ⟨t, rfl⟩ (vals_ints r)
theorem Cz1Z {us : List Value} {ns : List Int} (h : IntsAre us ns) : ns.length = us.length ∧ ∀ i v, us[i]? = some v → ∃ t, v = Value.int (ns.getD i 0) t :=
  ⟨h.length.symm, fun i v e => h.int_at i v e⟩
section
variable {X : Cx} {xw : XW} {pos p pos2 p2 : Pos} {a : Expr} {fa : DSt → Res D} {pins : List (Addr × Obj)} {σ : L2.St} {H : Hp} {s : Shared}
theorem Bz1P {d : Drawn} {t : Nat} (I : Inv X pins σ H s) : Inv X pins σ H { s with drawn := d, toks := t } :=
  I.step (g' := s.gens) (d' := d) (t' := t) (h' := s.heap) (ch := []) (fun _ z => nomatch z) (fun _ _ _ _ _ e _ => e) (fun b o _ _ _ e _ => ⟨o.slots, e⟩) (fun _ _ _ _ n => n) (fun b o _ e => ⟨o, e⟩) (fun _ _ e => e) (fun _ _ _ e => e) (fun b ps e => ⟨#[], by rw [e]; simp⟩) (fun _ h => h) I.hok I.bare
noncomputable def tSS (K : PySem.W.Frag) (ta : TE) : TE := fun σ H Q => ta σ H fun v H1 => ∃ t l ns, v = .ref l ∧ SqK t K H1 l (ns.map V.int) ∧ ns.length < 64 ∧ ∀ p, H1 p = none → Q (.ref p) (upd H1 p (.lst ((sortI ns).map V.int)))
theorem Az9Q (ns : List Int) : (sortI ns).length ≤ ns.length := by
  induction ns with
  | nil => exact Nat.le_refl _
  | cons n ns ih =>
    have : ∀ (k : Int) (l : List Int), (insI k l).length ≤ l.length + 1 := fun k l => by
      induction l with
      | nil => exact Nat.le_refl _
      | cons x xs ih => unfold insI; split; · simp
                        split <;> simp; exact ih
    have := this n (sortI ns)
    rw [sortI, List.length_cons]; omega
theorem Bz2R {ta : TE} (hc : X.calm = true) (hg1 : Gl X "sorted") (hm1 : X.mg "sorted" = none) (hg2 : Gl X "set") (hm2 : X.mg "set" = none) (ha : PE X a ta)
    (h1 : starEach [.Call (.Name "set" p2) [a] [] pos2] X.env = (false, eval (.Call (.Name "set" p2) [a] [] pos2) X.env) :: starEach [] X.env) (h2 : starEach [a] X.env = (false, eval a X.env) :: starEach [] X.env)
    (h3 : (backTo pos (starEach [] X.env)).any (·.1) = false) (h4 : (backTo pos2 (starEach [] X.env)).any (·.1) = false) : PE X (.Call (.Name "sorted" p) [.Call (.Name "set" p2) [a] [] pos2] [] pos) (tSS X.K ta) := by
  intro pins s σ H Q I h
  refine wpAny_Call_Name_kw (ld_blt I hg1 hm1 (show bootBuiltins "sorted" = some (.builtin "sorted") by decide +kernel) ?_)
  refine PyProof.Rows.callWith_builtin1 ?_ h1 h3
  rw [h1]
  show wpAny _ _ (spliced ((false, eval (.Call (.Name "set" p2) [a] [] pos2) X.env) :: backTo pos (starEach [] X.env))) _ _ s
  refine Calls.spliced_cons ?_
  refine wpAny_Call_Name_kw (ld_blt I hg2 hm2 (show bootBuiltins "set" = some (.type "set") by decide +kernel) ?_)
  refine PyProof.Rows.callWith_type1 ?_ h2 h4
  rw [h2]
  show wpAny _ _ (spliced ((false, eval a X.env) :: backTo pos2 (starEach [] X.env))) _ _ s
  refine Calls.spliced_cons (thn (ha pins s σ H _ I h) fun u s1 ⟨x, H1, I1, r1, q1⟩ => ?_)
  refine Calls.spliced_nil ?_
  obtain ⟨t, l, ns, rfl, sq, hl, q⟩ := q1
  cases (show u = Value.ref l from r1)
  obtain ⟨its, rv, ps, _⟩ := inv_sq I1 sq
  obtain ⟨el, hat⟩ := Cz1Z (Bz3M rv)
  have fin : ∀ h' tk, SI X.prog X.w h' s1.heap.objs.size (met ns) → (∀ b o, s1.heap.get? b = some o → h'.get? b = some o) →
      wpAny (model X.prog X.w) X.A (spliced (backTo pos (starEach [] X.env))) (fun vs s' => wpAny (model X.prog X.w) X.A (call (.builtin "sorted") (Value.ref s1.heap.objs.size :: vs)) (EP X pins σ Q) X.xe s') X.xe { s1 with heap := h', toks := tk } := fun h' tk hS k => by
    refine Calls.spliced_nil ?_
    have hm := Bz6Y ns
    refine Bz2F (s := { s1 with heap := h', toks := tk }) (I1.ok.hd hc) hS (by omega) fun h2 d tk2 p out os e a1 a2 a3 ho hz k2 => ?_
    have eo := Bz2G a2 a3
    subst eo
    have hsl := Az9Q ns
    have lz : s1.heap.objs.size < h'.objs.size := let ⟨_, _, _, _, ho, _⟩ := hS; Heap.lt_size ho
    have hp : s1.heap.objs.size ≤ p := Nat.le_trans (Nat.le_of_lt lz) hz
    refine ⟨.ref p, upd H1 p (.lst ((sortI ns).map V.int)), ?_, rfl, q p (I1.hok.fresh hp)⟩
    exact Bz1P (d := d) (t := tk2) (I1.laid (o := .lst ((sortI ns).map V.int)) (h' := h2) (t' := tk2) (fun b o e => k2 _ _ (k _ _ e)) hp ⟨by rw [List.length_map, sizeLine_eq]; omega, out, e, vals_ints a1, ho⟩)
  have hb : its.toArray.size + 1 < scanBound := by rw [List.size_toArray, ← el]; unfold scanBound; omega
  cases t with
  | true =>
    obtain ⟨ol, hol, hcl, nl, hd⟩ := ps
    exact Az5V (I1.ok.hd hc) hol hcl (by rw [isSubtype_type]; kernel_rfl) (by rw [isSubtype_type]; kernel_rfl) (by decide) (Bz5V hcl hd) (by rw [List.size_toArray]; exact el) (fun i v e => hat i v (by simpa using e)) hb fin
  | false =>
    obtain ⟨ol, hol, hcl, nl, hd⟩ := ps
    exact Az5V (I1.ok.hd hc) hol hcl (by rw [isSubtype_type]; kernel_rfl) (by rw [isSubtype_type]; kernel_rfl) (by decide) (Bz8O hcl hd) (by rw [List.size_toArray]; exact el) (fun i v e => hat i v (by simpa using e)) hb fin
theorem i_enum {elts : List Expr} {kt : Nat} {pt : Pos} {fs : DSt → Res (List D)} (hm : X.mg "enumerate" = none) (ha : XA X xw [a] fs) (hg : autoParam (Gl X "enumerate") slim0._auto_1) (hs : autoParam (starEach [a] X.env = [(false, eval a X.env)]) slim0._auto_1) :
    XI X xw (.Tuple elts kt pt) (.Call (.Name "enumerate" p) [a] [] pos) (b1 enumR fs) := ⟨Cz2W hm ha.h hg hs⟩
noncomputable def sortR : D → Res (List D)
  | .tup ds => match intsOf ds with
    | some ns => @ite _ (ns.length < 64) (Classical.propDecidable _) (.ok ((sortI ns).map D.int)) .stuck
    | none => .stuck
  | .lst ds => match intsOf ds with
    | some ns => @ite _ (ns.length < 64) (Classical.propDecidable _) (.ok ((sortI ns).map D.int)) .stuck
    | none => .stuck
  | _ => .stuck
theorem Bz0J (hc : X.calm = true) (hm1 : X.mg "sorted" = none) (hm2 : X.mg "set" = none) (ha : XP X xw a fa) (hg1 : autoParam (Gl X "sorted") slim0._auto_1) (hg2 : autoParam (Gl X "set") slim0._auto_1)
    (h1 : autoParam (starEach [.Call (.Name "set" p2) [a] [] pos2] X.env = (false, eval (.Call (.Name "set" p2) [a] [] pos2) X.env) :: starEach [] X.env) slim0._auto_1) (h2 : autoParam (starEach [a] X.env = (false, eval a X.env) :: starEach [] X.env) slim0._auto_1)
    (h3 : autoParam ((backTo pos (starEach [] X.env)).any (·.1) = false) slim0._auto_1) (h4 : autoParam ((backTo pos2 (starEach [] X.env)).any (·.1) = false) slim0._auto_1) :
    XF X xw (.Call (.Name "sorted" p) [.Call (.Name "set" p2) [a] [] pos2] [] pos) (b1 sortR fa) :=
  ⟨PE.weak (Bz2R hc hg1 hm1 hg2 hm2 ha.h h1 h2 h3 h4) fun σ H Q ⟨W₀, H₀, W, δ, st, q⟩ => Az9V st q fun H2 d v k w st2 hv _ q2 => by
    unfold sortR at q2
    split at q2
    · split at q2
      · rename_i ns hn
        split at q2
        · rename_i hl
          obtain ⟨p, xs, e, sq, r⟩ := hv.tup
          have := Az5S hn r
          subst this
          exact ⟨true, p, ns, e, sq, hl, fun l hl' => q2 l _ H2 (Same.refl _) hl' HasL.ints⟩
        · exact q2.elim
      · exact q2.elim
    · split at q2
      · rename_i ns hn
        split at q2
        · rename_i hl
          obtain ⟨p, xs, e, sq, r⟩ := hv.lst
          have := Az5S hn r
          subst this
          exact ⟨false, p, ns, e, sq, hl, fun l hl' => q2 l _ H2 (Same.refl _) hl' HasL.ints⟩
        · exact q2.elim
      · exact q2.elim
    · exact q2.elim⟩
end
end L3
namespace HT
open PySem PyProof.Rows
section
variable {prog : Program} {w : World} {A : Around} {E : Value → Shared → Prop} {s : Shared}
end
end HT
namespace L3
open PySem PySem.Spec PyProof.Rows L2 SeqAt
section
variable {X : Cx} {xw : XW} {a : Expr} {lo hi : Option Expr} {fa : DSt → Res D} {fl fh : DSt → Res (Option Int)} {pos p2 : Pos}
noncomputable def slW (d : D) (lo hi : Option Int) : Res D := match d with
  | .tup ds => .ok (.tup (cutD ds lo hi))
  | .lst ds => .ok (.lst (cutD ds lo hi))
  | _ => .stuck
end
theorem slW_l (ds : List D) (lo hi : Option Int) : slW (.lst ds) lo hi = .ok (.lst (cutD ds lo hi)) := rfl
end L3
namespace HT
open PySem PyProof.Rows
section
variable {prog : Program} {w : World} {A : Around} {E : Value → Shared → Prop} {s : Shared}
end
end HT
namespace L3
open PySem PySem.Spec PyProof.Rows L2 SeqAt
section
variable {X : Cx} {xw : XW} {a st : Expr} {fa : DSt → Res D} {pos p2 : Pos}
end
end L3
namespace L3
open PySem PySem.Spec PyProof.Rows L2
section
variable {K : PySem.W.Frag} {xw : XW} {W₀ W W1 : WS} {H₀ H H1 : Hp} {Dn : Ends}
noncomputable def RSO (K : PySem.W.Frag) (xw : XW) (W₀ : WS) (H₀ : Hp) (W : WS) (H : Hp) (o : Out) (Dn : Ends) : Prop := match o with
  | .rt (.lst ds) => ∀ a xs H', Same H₀ H' → H₀ a = none → H' a = some (.lst xs) → HasL K (fun b => W₀ b ∨ b = a) H' ds xs → Dn.rt (.ref a) H'
  | o => RS K xw W₀ H₀ W H o Dn
theorem RSO.step {o : Out} (h : RSO K xw W₀ H₀ W H o Dn) (k : Step W H W1 H1) : RSO K xw W₀ H₀ W1 H1 o Dn := by
  cases o with
  | rt d => cases d <;> exact h
  | nx δ => exact RS.step (xw := xw) (o := .nx δ) h k
  | bk δ => exact RS.step (xw := xw) (o := .bk δ) h k
  | ct δ => exact RS.step (xw := xw) (o := .ct δ) h k
  | ex c fs => exact h
  | stuck => exact h
noncomputable def tDSO (K : PySem.W.Frag) (xw : XW) (g : DSt → Out) : TS := fun Dn σ H => ∃ W₀ H₀ W δ, StHas K W₀ H₀ W H σ δ ∧ RSO K xw W₀ H₀ W H (g δ) Dn
end
structure NoL (g : DSt → Out) : Prop where
  h : ∀ δ ds, g δ ≠ .rt (.lst ds)
theorem NoL.seq {a b : DSt → Out} (ha : NoL a) (hb : NoL b) : NoL (sSeq a b) := ⟨fun δ ds => by
  show seqO (a δ) b ≠ _
  cases h : a δ with
  | nx δ' => exact hb.h δ' ds
  | rt d => intro e; exact ha.h δ ds (by rw [h]; exact e)
  | bk δ' => intro e; cases e
  | ct δ' => intro e; cases e
  | ex c fs => intro e; cases e
  | stuck => intro e; cases e⟩
theorem ofR_no {α : Type} {r : Res α} {k : α → Out} {ds : List D} (h : ∀ a, k a ≠ .rt (.lst ds)) : ofR r k ≠ .rt (.lst ds) := by
  cases r with
  | ok a => exact h a
  | ex c fs => intro e; cases e
  | stuck => intro e; cases e
theorem NoL.nx : NoL Out.nx := ⟨fun δ ds e => by cases e⟩
theorem NoL.own {i : Nat} {f : DSt → Res (List D)} : NoL (sOwn i f) := ⟨fun δ ds => ofR_no fun k e => by cases e⟩
theorem NoL.set {i : Nat} {f : DSt → Res D} : NoL (sSet i f) := ⟨fun δ ds => ofR_no fun k e => by cases e⟩
section
variable {X : Cx} {xw : XW} {st : Stmt} {sts : List Stmt} {g1 g2 : DSt → Out} {pos p : Pos} {a : Expr} {es : List Expr}
structure XSO (X : Cx) (xw : XW) (sts : List Stmt) (g : DSt → Out) : Prop where
  h : PSs X sts (tDSO X.K xw g)
noncomputable def spO (K : PySem.W.Frag) (n : Nat) (m : List D → Res D) : Sp := fun vs H Q _ => vs.length = n ∧ ∃ W ds, WL W H ∧ HasL K W H ds vs ∧ match m ds with
  | .ok (.lst fs) => ∀ a xs H', Same H H' → H a = none → H' a = some (.lst xs) → HasL K (fun b => W b ∨ b = a) H' fs xs → Q (.ref a) H'
  | .ok d => ∀ v H', Same H H' → Has K W H' d v → Q v H'
  | _ => False
structure FnO (P : Program) (w : World) (K : PySem.W.Frag) (mg : Str → Option Value) (base : Heap) (k : Nat) (x : Str) (n : Nat) (m : List D → Res D) : Prop where
  ex : ∃ f fd ps, FnOk P w K mg base CX0 k f fd ps (spO K n m) ∧ mg x = some (.ref f) ∧ PySem.W.keepIn K (.ref f) = true ∧ Binds K fd ps []
theorem FnO.mono {P : Program} {w : World} {K : PySem.W.Frag} {mg : Str → Option Value} {base : Heap} {j k n : Nat} {x : Str} {m : List D → Res D} (F : FnO P w K mg base j x n m) (h : j ≤ k) : FnO P w K mg base k x n m := by
  obtain ⟨f, fd, ps, a, b⟩ := F.ex
  exact ⟨f, fd, ps, a.mono h, b⟩
theorem FnO.fn {P : Program} {w : World} {K : PySem.W.Frag} {mg : Str → Option Value} {base : Heap} {k n : Nat} {x : Str} {m : List D → Res D} (F : FnO P w K mg base k x n m) : Fn P w K mg base k x n m := by
  obtain ⟨f, fd, ps, a, b⟩ := F.ex
  refine ⟨f, fd, ps, a.imp fun vs H Q E ⟨hl, W, ds, hw, hd, q⟩ => ⟨hl, W, ds, hw, hd, ?_⟩, b⟩
  cases h : m ds with
  | ex c fs => rw [h] at q; exact q
  | stuck => rw [h] at q; exact q
  | ok d =>
    rw [h] at q
    cases d with
    | lst fs =>
      intro a xs H' k hn ha hx
      refine q (.ref a) H' k ?_
      rw [Has]
      refine ⟨a, xs, rfl, .inl ⟨ha, fun z => ?_⟩, HasL.keep (fun _ _ e _ => e) (fun b z => z.elim (hw.same k b) fun z => by rw [z]; exact ⟨_, ha, trivial⟩) (fun b z => .inl (.inl z)) hx⟩
      obtain ⟨ys, e, _⟩ := hw a z
      rw [hn] at e; cases e
    | _ => exact q
noncomputable def ownO (i : Nat) (δ : DSt) : D → Out
  | .lst ds => .nx (δ.set i (some (.o ds)))
  | d => .nx (δ.set i (some (.d d)))
noncomputable def sOwnR (i : Nat) (f : DSt → Res D) : DSt → Out := fun δ => ofR (f δ) (ownO i δ)
noncomputable def HasTL (K : PySem.W.Frag) (W : WS) (H : Hp) : List D → List V → Prop
  | [], xs => xs = []
  | d :: ds, xs => ∃ x r, xs = x :: r ∧ HasT K W H d x ∧ HasTL K W H ds r
noncomputable def RAP (K : PySem.W.Frag) (xw : XW) (W : WS) (H : Hp) (r : Res (List D)) (Q : List V → Hp → Prop) : Prop := match r with
  | .ok ds => ∀ vs H', Same H H' → HasTL K W H' ds vs → Q vs H'
  | .ex c fs => ∀ H', Same H H' → xw c fs H'
  | .stuck => False
structure XAP (X : Cx) (xw : XW) (es : List Expr) (f : DSt → Res (List D)) : Prop where
  h : PA X es fun σ H Q => ∃ W₀ H₀ W δ, StHas X.K W₀ H₀ W H σ δ ∧ RAP X.K xw W H (f δ) Q
end
end L3
namespace L3
open PySem PySem.Spec PyProof.Rows L2 SeqAt
section
variable {α β : Type}
noncomputable def tGet (l : List (Key × α)) (k : Key) : Option α := (l.find? fun p => decide (p.1 = k)).map (·.2)
noncomputable def tHas (l : List (Key × α)) (k : Key) : Bool := l.any fun p => decide (p.1 = k)
noncomputable def tPut (l : List (Key × α)) (k : Key) (y : α) : List (Key × α) := if tHas l k = true then l.map (fun p => if p.1 = k then (p.1, y) else p) else l ++ [(k, y)]
theorem Az4V {p : Key × α} {r : List (Key × α)} {k : Key} (e : p.1 = k) : tGet (p :: r) k = some p.2 := by simp [tGet, List.find?_cons, e]
theorem Az3Y {p : Key × α} {r : List (Key × α)} {k : Key} (e : ¬ p.1 = k) : tGet (p :: r) k = tGet r k := by simp [tGet, List.find?_cons, e]
theorem Az4U (k : Key) : ∀ l : List (Key × α), tHas l k = (tGet l k).isSome
  | [] => rfl
  | p :: r => by
    by_cases e : p.1 = k
    · rw [Az4V e]; simp [tHas, e]
    · rw [Az3Y e, ← Az4U k r]; simp [tHas, e]
theorem Bz2C (l : List (Key × α)) (k : Key) (y : α) : (tPut l k y).length ≤ l.length + 1 := by
  unfold tPut; split
  · rw [List.length_map]; omega
  · simp
end
theorem kv_get {kvs : List (Key × V)} {vs : List (Key × Value)} (r : KV kvs vs) (k : Key) : (∀ v, tGet kvs k = some v → ∃ u, valueAt vs k = some u ∧ RelV v u) ∧ (tGet kvs k = none → valueAt vs k = none) := by
  unfold KV at r
  induction r with
  | nil => exact ⟨(fun v e => by cases e), fun _ => rfl⟩
  | @cons p q ps qs h t ih =>
    obtain ⟨h1, h2⟩ := h
    by_cases e : p.1 = k
    · have b : valueAt (q :: qs) k = some q.2 := by simp [valueAt, List.find?_cons, h1.symm.trans e]
      rw [Az4V e, b]
      exact ⟨fun v z => by cases z; exact ⟨_, rfl, h2⟩, fun z => by cases z⟩
    · have e' : ¬ q.1 = k := fun z => e (h1.trans z)
      have b : valueAt (q :: qs) k = valueAt qs k := by simp [valueAt, List.find?_cons, e']
      rw [Az3Y e, b]; exact ih
theorem kv_has {kvs : List (Key × V)} {vs : List (Key × Value)} (r : KV kvs vs) (k : Key) : tHas kvs k = vs.any fun p => decide (p.1 = k) := by
  unfold KV at r
  induction r with
  | nil => rfl
  | cons h t ih => unfold tHas at ih ⊢; rw [List.any_cons, List.any_cons, ih, h.1]
theorem kv_put {kvs : List (Key × V)} {vs : List (Key × Value)} (r : KV kvs vs) (k : Key) {y : V} {u : Value} (ry : RelV y u) : KV (tPut kvs k y) (stored vs k u) := by
  unfold tPut stored
  rw [kv_has r k]
  by_cases e : (vs.any fun p => decide (p.1 = k)) = true
  · rw [if_pos e, if_pos e]
    unfold KV at r ⊢
    clear e
    induction r with
    | nil => exact .nil
    | @cons p q ps qs h t ih =>
      rw [List.map_cons, List.map_cons]
      refine .cons ?_ ih
      obtain ⟨h1, h2⟩ := h
      by_cases e : p.1 = k
      · rw [if_pos e, if_pos (h1.symm.trans e)]; exact ⟨h1, ry⟩
      · rw [if_neg e, if_neg (fun z => e (h1.trans z))]; exact ⟨h1, h2⟩
  · rw [if_neg e, if_neg e]
    unfold KV at r ⊢
    clear e
    induction r with
    | nil => exact .cons ⟨rfl, ry⟩ .nil
    | cons h t ih => exact .cons h ih
theorem kv_len {kvs : List (Key × V)} {vs : List (Key × Value)} (r : KV kvs vs) : kvs.length = vs.length := by
  unfold KV at r
  induction r with
  | nil => rfl
  | cons h t ih => rw [List.length_cons, List.length_cons, ih]
section
variable {K : PySem.W.Frag} {W : WS} {H : Hp}
noncomputable def HasP (K : PySem.W.Frag) (W : WS) (H : Hp) (l : List (Key × D)) (kvs : List (Key × V)) : Prop := kvs.map (·.1) = l.map (·.1) ∧ HasL K W H (l.map (·.2)) (kvs.map (·.2))
theorem HasP.nil : HasP K W H [] [] := ⟨rfl, HasL.nil⟩
theorem HasP.cons {p : Key × D} {l : List (Key × D)} {kvs : List (Key × V)} (h : HasP K W H (p :: l) kvs) : ∃ v r, kvs = (p.1, v) :: r ∧ Has K W H p.2 v ∧ HasP K W H l r := by
  obtain ⟨h1, h2⟩ := h
  cases kvs with
  | nil => cases h1
  | cons q r =>
    rw [List.map_cons, List.map_cons] at h1 h2
    rw [HasL] at h2
    obtain ⟨x, t, e, g1, g2⟩ := h2
    cases e
    have h3 := List.cons.inj h1
    exact ⟨q.2, r, by rw [← h3.1], g1, h3.2, g2⟩
theorem HasP.mk {k : Key} {d : D} {v : V} {l : List (Key × D)} {kvs : List (Key × V)} (h : Has K W H d v) (t : HasP K W H l kvs) : HasP K W H ((k, d) :: l) ((k, v) :: kvs) := ⟨by rw [List.map_cons, List.map_cons, t.1], by rw [List.map_cons, List.map_cons]; exact HasL.cons h t.2⟩
theorem HasP.len {l : List (Key × D)} {kvs : List (Key × V)} (h : HasP K W H l kvs) : l.length = kvs.length := by
  have := congrArg List.length h.1
  simpa using this.symm
theorem HasP.of {ks : List Key} {ds : List D} {kvs : List (Key × V)} (h1 : kvs.map (·.1) = ks) (h2 : HasL K W H ds (kvs.map (·.2))) : HasP K W H (ks.zip ds) kvs ∧ (ks.zip ds).map (·.1) = ks ∧ (ks.zip ds).map (·.2) = ds := by
  have hl : ks.length = ds.length := by rw [← h1, h2.length, List.length_map, List.length_map]
  have e1 : (ks.zip ds).map (·.1) = ks := by rw [← List.unzip_fst, List.unzip_zip hl]
  have e2 : (ks.zip ds).map (·.2) = ds := by rw [← List.unzip_snd, List.unzip_zip hl]
  exact ⟨⟨by rw [e1, h1], by rw [e2]; exact h2⟩, e1, e2⟩
theorem HasP.keep {W' : WS} {H' : Hp} {l : List (Key × D)} {kvs : List (Key × V)} (k : Keep W H H') (w : WL W H) (hw : ∀ b, W' b → W b ∨ H b = none) (h : HasP K W H l kvs) : HasP K W' H' l kvs := ⟨h.1, HasL.keep k w hw h.2⟩
theorem HasP.same {H' : Hp} {l : List (Key × D)} {kvs : List (Key × V)} (h : HasP K W H l kvs) (k : Same H H') (w : WL W H) : HasP K W H' l kvs := ⟨h.1, h.2.same k w⟩
theorem HasP.get : ∀ {l : List (Key × D)} {kvs : List (Key × V)}, HasP K W H l kvs → ∀ (k : Key), (∀ d, tGet l k = some d → ∃ v, tGet kvs k = some v ∧ Has K W H d v) ∧ (tGet l k = none → tGet kvs k = none)
  | [], kvs, h, k => by
    obtain ⟨h1, _⟩ := h
    cases kvs with
    | nil => exact ⟨(fun d e => by cases e), fun _ => rfl⟩
    | cons _ _ => cases h1
  | p :: l, kvs, h, k => by
    obtain ⟨v, r, rfl, h1, h2⟩ := h.cons
    by_cases e : p.1 = k
    · rw [Az4V e, Az4V (p := (p.1, v)) e]
      exact ⟨fun d z => by cases z; exact ⟨v, rfl, h1⟩, fun z => by cases z⟩
    · rw [Az3Y e, Az3Y (p := (p.1, v)) e]; exact h2.get k
theorem HasP.has {l : List (Key × D)} {kvs : List (Key × V)} (h : HasP K W H l kvs) (k : Key) : tHas kvs k = tHas l k := by
  have := h.1
  unfold tHas
  rw [show (kvs.any fun p => decide (p.1 = k)) = (kvs.map (·.1)).any (fun z => decide (z = k)) by rw [List.any_map]; rfl, this, List.any_map]; rfl
theorem HasP.put {l : List (Key × D)} {kvs : List (Key × V)} {d : D} {v : V} (h : HasP K W H l kvs) (k : Key) (hd : Has K W H d v) : HasP K W H (tPut l k d) (tPut kvs k v) := by
  unfold tPut
  rw [h.has k]
  split
  · rename_i hh; clear hh
    induction l generalizing kvs with
    | nil =>
      obtain ⟨h1, _⟩ := h
      cases kvs with
      | nil => exact HasP.nil
      | cons _ _ => cases h1
    | cons p l ih =>
      obtain ⟨u, r, rfl, h1, h2⟩ := h.cons
      rw [List.map_cons, List.map_cons]
      by_cases e : p.1 = k
      · rw [if_pos e, if_pos e]; exact HasP.mk hd (ih h2)
      · rw [if_neg e, if_neg e]; exact HasP.mk h1 (ih h2)
  · rename_i hh; clear hh
    induction l generalizing kvs with
    | nil =>
      obtain ⟨h1, _⟩ := h
      cases kvs with
      | nil => exact HasP.mk hd HasP.nil
      | cons _ _ => cases h1
    | cons p l ih =>
      obtain ⟨u, r, rfl, h1, h2⟩ := h.cons
      exact HasP.mk h1 (ih h2)
end
section
variable {X : Cx} {xw : XW} {a b e ie : Expr} {pos p p1 p2 : Pos} {fa fb f fi : DSt → Res D}
theorem key_is {P : Program} {w : World} {k : Key} {u : Value} (r : RelV (kV k) u) : (Az2Y P w).is k u = true := Cz0H r
theorem rd_dk {P : Program} {w : World} {H : Hp} {h : Heap} {a : Addr} {kvs : List (Key × V)} (ok : HOk P w H h) (e : Rd H a (.dK kvs)) : kvs.length ≤ sizeLine ∧ (a == sysModules) = false ∧ ∃ vs, KV kvs vs ∧ h.DictOf (Az2Y P w) a vs := by
  rcases e with e | ⟨o, e⟩
  · exact ok a _ e
  · exact (show _ ∧ _ from ok a _ e).2
theorem Rd.same {H H' : Hp} {a : Addr} {u : HO} (h : Rd H a u) (k : Same H H') : Rd H' a u := h.imp (k _ _) fun ⟨o, e⟩ => ⟨o, k _ _ e⟩
noncomputable def rIxQ : R2 := fun x y H Q => ∃ a kvs k v, x = .ref a ∧ Rd H a (.dK kvs) ∧ y = kV k ∧ tGet kvs k = some v ∧ Q v H
theorem Cz0V {ta tb : TE} (ha : PE X a ta) (hb : PE X b tb) (hs : Az8R b) : PE X (.Subscript a b pos) (tOp rIxQ ta tb) := by
  intro pins s σ H Q I h
  refine Subscript_ (binT ha hb I h fun v u s2 x y H2 I2 rx ry q => ?_)
  obtain ⟨d, kvs, k, z, rfl, hd, rfl, hg, q⟩ := q
  cases rx
  obtain ⟨_, hS, vs, rel, dd⟩ := rd_dk I2.hok hd
  obtain ⟨w', hw, rw'⟩ := (kv_get rel k).1 z hg
  unfold subscriptTail
  refine wpAny_bind ?_
  rw [getitemInPython_of_ne dd.typeIs.not_modules]
  refine wpAny_bind (wpAny_specialOf dd.typeIs PySem.F.slot_dict_getitem.lookup ?_)
  have fin : wpAny (model X.prog X.w) X.A (subscripted b false (.ref d) u) (fun r s₃ => wpAny (model X.prog X.w) X.A (letTemporaryGo a (.ref d) r >>= fun _ => pure r) (EP X pins σ Q) X.xe s₃) X.xe s2 := by
    rw [hs (.ref d) u]
    exact wpAny_operating (wpAny_getItem_of (key_is ry) dd.mapOf hw (wpAny_bind (wpAny_letTemporaryGo (wpAny_pure ⟨z, H2, I2.tok _, rw', q⟩))))
  first
    | exact wpAny_pure (wpAny_bind fin)
    | exact wpAny_bind (wpAny_pure (wpAny_bind fin))
    | exact wpAny_bind fin
noncomputable def rSetQ : V → V → V → Hp → (Hp → Prop) → Prop := fun o i v H Q => ∃ a kvs k, o = .ref a ∧ i = kV k ∧ H a = some (.dK kvs) ∧ kvs.length < sizeLine ∧ Q (upd H a (.dK (tPut kvs k v)))
theorem Bz7R : PSet X rSetQ := by
  intro pins s σ H o i v ov iv u Q I ro ri rv h
  obtain ⟨a, kvs, k, rfl, rfl, ha, hl, q⟩ := h
  cases ro
  obtain ⟨z, hS, vs, rel, dd⟩ := I.hok _ _ ha
  refine wpAny_setItem_pairs (hsz := by rw [← kv_len rel]; exact z) (key_is ri) dd fun h' dd' hs => ⟨_, ?_, q⟩
  refine I.write (x := a) (e := a) (by rw [ha]; exact trivial) (.inl rfl) (fun b' w hb hw => (hs.2 b' hb).trans hw) ?_ ?_
  · obtain ⟨ob, _, _, hq, _⟩ := dd'; exact ⟨ob, hq⟩
  · exact ⟨by have := Bz2C kvs k v; omega, hS, _, kv_put rel k rv, dd'⟩
noncomputable def RQ (K : PySem.W.Frag) (xw : XW) (W : WS) (H : Hp) (r : Res (List (Key × D))) (Q : VK) : Prop := match r with
  | .ok l => ∀ a kvs H', Same H H' → Rd H' a (.dK kvs) → HasP K W H' l kvs → Q (.ref a) H'
  | .ex c fs => ∀ H', Same H H' → xw c fs H'
  | .stuck => False
noncomputable def tDQ (K : PySem.W.Frag) (xw : XW) (f : DSt → Res (List (Key × D))) : TE := fun σ H Q => ∃ W₀ H₀ W δ, StHas K W₀ H₀ W H σ δ ∧ RQ K xw W H (f δ) Q
structure XQ (X : Cx) (xw : XW) (e : Expr) (f : DSt → Res (List (Key × D))) : Prop where
  h : PE X e (tDQ X.K xw f)
noncomputable def slotQ (i : Nat) : DSt → Res (List (Key × D)) := fun δ => match δ[i]? with
  | some (some (.q ks ds)) => .ok (ks.zip ds)
  | some (some (.d (.dct ks ds))) => .ok (ks.zip ds)
  | _ => .stuck
theorem q_var (i : Nat) {x : Str} (hN : autoParam (X.N[i]? = some x) slim0._auto_1) (hv : autoParam (Vis X.env.scope x) slim6._auto_1) (hd : autoParam ((x == ("__debug__" : Str)) = false) slim1._auto_1)
    (hcd : autoParam ((x == ("__classdict__" : Str)) = false) slim1._auto_1) : XQ X xw (.Name x pos) (slotQ i) :=
  ⟨PE.weak (pe_var hN hv hd hcd) fun σ H Q ⟨W₀, H₀, W, δ, st, q⟩ => by
    unfold slotQ at q
    split at q
    · rename_i ks ds h
      obtain ⟨v, e1, a, kvs, rfl, r2, r3, r4, r5, r6⟩ := st.at' i _ h
      exact ⟨_, e1, q a kvs H (Same.refl H) (.inl r4) (HasP.of r5 r6).1⟩
    · rename_i ks ds h
      obtain ⟨v, e1, r⟩ := st.at' i _ h
      have r' : Has X.K W H (.dct ks ds) v := r
      rw [Has] at r'
      obtain ⟨a, kvs, rfl, r4, r5, r6⟩ := r'
      exact ⟨_, e1, q a kvs H (Same.refl H) (.inr r4) (HasP.of r5 r6).1⟩
    · exact q.elim⟩
theorem HasT.dct {K : PySem.W.Frag} {W : WS} {H : Hp} {ks : List Key} {ds : List D} {v : V} (h : HasT K W H (.dct ks ds) v) : Has K W H (.dct ks ds) v := by
  rcases h with h | ⟨_, _, _, h1, _⟩
  · exact h
  · cases h1
noncomputable def b1Q {α : Type} (op : D → Res α) (f : DSt → Res D) : DSt → Res α := fun δ => (f δ).bind op
noncomputable def dgetR (l : List (Key × D)) (d : D) : Res D := match keyD d with
  | some k => match tGet l k with
    | some x => .ok x
    | none => .stuck
  | none => .stuck
noncomputable def b2Q {α : Type} (op : List (Key × D) → D → Res α) (f : DSt → Res (List (Key × D))) (g : DSt → Res D) : DSt → Res α := fun δ => (f δ).bind fun l => (g δ).bind fun d => op l d
theorem Az5A {K : PySem.W.Frag} {W : WS} {H : Hp} {d : D} {v : V} {k : Key} (h : HasT K W H d v) (e : keyD d = some k) : v = kV k := by
  cases d with
  | int i => cases e; exact h.int
  | str x => cases e; exact h.str
  | _ => cases e
theorem x_dget {fq : DSt → Res (List (Key × D))} (ha : XQ X xw a fq) (hb : XP X xw b fb) (hs : autoParam (Az8R b) slim3._auto_1) : XE X xw (.Subscript a b pos) (b2Q dgetR fq fb) :=
  ⟨PE.weak (Cz0V ha.h hb.h hs) fun σ H Q ⟨W₀, H₀, W, δ, st, q⟩ => by
    refine ⟨W₀, H₀, W, δ, st, ?_⟩
    unfold b2Q at q
    cases h1 : fq δ with
    | stuck => rw [h1] at q; exact q
    | ex c fs => rw [h1] at q; exact q
    | ok l =>
      rw [h1] at q
      intro ad kvs H1 k1 hd hp
      refine ⟨W₀, H₀, W, δ, st.same k1, ?_⟩
      have q' : RE X.K xw W H ((fb δ).bind fun d => dgetR l d) Q := q
      cases h2 : fb δ with
      | stuck => rw [h2] at q'; exact q'
      | ex c fs => rw [h2] at q'; exact fun H2 k2 => q' H2 (k1.trans k2)
      | ok d =>
        rw [h2] at q'
        intro v H2 k2 hv
        have q2 : RE X.K xw W H (dgetR l d) Q := q'
        unfold dgetR at q2
        split at q2
        · rename_i k hk
          split at q2
          · rename_i x hx
            have hp2 := hp.same k2 (st.fr.wl.same k1)
            obtain ⟨z, hz, hh⟩ := (hp2.get k).1 x hx
            exact ⟨ad, kvs, k, z, rfl, Rd.same hd k2, Az5A hv hk, hz, q2 z H2 (k1.trans k2) hh⟩
          · exact q2.elim
        · exact q2.elim⟩
noncomputable def sOwnQ (i : Nat) : DSt → Out := fun δ => .nx (δ.set i (some (.q [] [])))
theorem Cz0U {t : TE} (ht : ∀ σ H Q, t σ H Q → ∀ a, H a = none → Q (.ref a) (upd H a (.dK []))) : PE X (.Dict [] [] pos) t := by
  intro pins s σ H Q I q
  have big : sysModules < s.heap.objs.size := by
    have h : mainGlobals < s.heap.objs.size := (I.mod.glob.keeps I.bk).lt
    exact Nat.lt_trans (by decide) h
  exact wpAny_Dict_empty ⟨.ref s.heap.objs.size, _, I.laid (a := s.heap.objs.size) (o := .dK []) (t' := s.toks) (fun _ _ q => Heap.get?_push_of_some _ q) (Nat.le_refl _) (Bz9C s.heap big), rfl, ht σ H Q q _ (I.hok.fresh (Nat.le_refl s.heap.objs.size))⟩
theorem s_ownQ (i : Nat) {x : Str} {pos' pos'' : Pos} (hN : X.N.Nodup) (hi : autoParam (X.N[i]? = some x) slim0._auto_1) (hx : autoParam (Loc X.env.scope x) slim7._auto_1) (hs : autoParam (swapsWith (.Dict [] [] pos'') (some (.Name x pos')) pos.line X.env = pure false) slim0._auto_1)
    (hf : autoParam (X.fn x = true ∨ X.env.scope.names.lookup x = some .local) slim5._auto_1) : XS X xw (.Assign [.Name x pos'] (.Dict [] [] pos'') pos) (sOwnQ i) :=
  ⟨PS.weak (ps_set hN hi hx (Cz0U (t := fun _ H Q => ∀ a, H a = none → Q (.ref a) (upd H a (.dK []))) fun _ _ _ q => q) hs hf) fun Dn σ H ⟨W₀, H₀, W, δ, st, q⟩ => by
    intro a ha
    have st1 := st.ownQ (i := i) (ks := []) (ds := []) (kvs := []) ha rfl HasL.nil
    have q' : RS X.K xw W₀ H₀ W H (.nx (δ.set i (some (.q [] [])))) Dn := q
    refine q' _ _ _ ⟨fun b o e nb => ?_, fun b z => z.elim .inl fun z => .inr (by rw [z]; exact ha)⟩ st1
    rw [upd_ne (Az0D e ha)]; exact e⟩
noncomputable def putJ (i : Nat) (δ : DSt) (l : List (Key × D)) (d ix : D) : Out := match keyD ix with
  | some k => if l.length ≤ 1000 then .nx (δ.set i (some (.q ((tPut l k d).map (·.1)) ((tPut l k d).map (·.2))))) else .stuck
  | none => .stuck
noncomputable def putO (i : Nat) (fi : DSt → Res D) (δ : DSt) (d : D) : Out := match δ[i]? with
  | some (some (.q ks ds)) => ofR (fi δ) (putJ i δ (ks.zip ds) d)
  | _ => .stuck
noncomputable def sPutI (i : Nat) (fi f : DSt → Res D) : DSt → Out := fun δ => ofR (f δ) (putO i fi δ)
theorem s_puti (i : Nat) {x : Str} (he : XE X xw e f) (hi : XE X xw ie fi) (hN : autoParam (X.N[i]? = some x) slim0._auto_1) (hv : autoParam (Vis X.env.scope x) slim6._auto_1) (hd : autoParam ((x == ("__debug__" : Str)) = false) slim1._auto_1)
    (hcd : autoParam ((x == ("__classdict__" : Str)) = false) slim1._auto_1)
    (ha : autoParam (∀ v, assign (.Subscript (.Name x p1) ie p2) X.env v = (do
      let ov ← holding [v] (eval (.Name x p1) X.env)
      let iv ← holding [v, ov] (eval ie X.env)
      standAt p2
      holding [v, ov, iv] (setItem ov iv v)
      release [v, ov, iv] [])) slim2._auto_1)
    (hs : autoParam (swapsWithSole [.Subscript (.Name x p1) ie p2] e pos.line X.env = pure false) slim0._auto_1) (hw : autoParam (swappedStores [.Subscript (.Name x p1) ie p2] e X.env = pure none) slim0._auto_1)
    (h1 : autoParam ((assignEach [.Subscript (.Name x p1) ie p2] X.env).map (·.2) = [assign (.Subscript (.Name x p1) ie p2) X.env]) slim0._auto_1) :
    XS X xw (.Assign [.Subscript (.Name x p1) ie p2] e pos) (sPutI i fi f) :=
  ⟨PS.weak (ps_asg he.h (pg_sub (pe_var hN hv hd hcd) hi.h Bz7R ha) hs hw h1) fun Dn σ H ⟨W₀, H₀, W, δ, st, q⟩ => by
    unfold sPutI at q
    refine Az4T st q fun H2 d v st2 hv q2 => ?_
    unfold putO at q2
    split at q2
    · rename_i ks ds h
      obtain ⟨v0, e1, a, kvs, rfl, r2, r3, r4, r5, r6⟩ := st2.at' i _ h
      refine ⟨_, e1, W₀, H₀, W, δ, st2, ?_⟩
      cases hf : fi δ with
      | stuck => rw [hf] at q2; exact q2.elim
      | ex c gs => rw [hf] at q2; exact fun H3 k3 => q2 H3 (st2.fr.ext.trans k3)
      | ok ix =>
        rw [hf] at q2
        have q3 : RS X.K xw W₀ H₀ W H2 (putJ i δ (ks.zip ds) d ix) Dn := q2
        unfold putJ at q3
        split at q3
        · rename_i k hk
          split at q3
          · rename_i hlen
            intro vi H3 k3 hvi
            have hkk := Az5A (.inl hvi) hk
            subst hkk
            have st3 := st2.same k3
            obtain ⟨v', e1', a', kvs', e', r2', r3', r4', r5', r6'⟩ := st3.at' i _ h
            rw [e1] at e1'
            cases e1'
            cases e'
            have hp := (HasP.of r5' r6').1
            have hp2 := hp.put k (hv.same k3 st2.fr.wl)
            refine ⟨a, kvs', k, rfl, rfl, r4', by have := hp.len; rw [sizeLine_eq]; omega, ?_⟩
            refine q3 W _ σ ⟨fun b o e n => ?_, fun _ z => .inl z⟩ ?_
            · rw [upd_ne (fun z => n (by rw [z]; exact r2'))]; exact k3 _ _ e
            · exact st3.changeQ h e1 r2' hp2.1 hp2.2
          · exact q3.elim
        · exact q3.elim
    · exact q2.elim⟩
noncomputable def frzD (i : Nat) (δ : DSt) : DSt := match δ[i]? with
  | some (some (.q ks ds)) => δ.set i (some (.d (.dct ks ds)))
  | some (some (.o ds)) => δ.set i (some (.d (.lst ds)))
  | _ => δ
theorem StHas.frzQ {K : PySem.W.Frag} {W₀ W : WS} {H₀ H : Hp} {σ : L2.St} {δ : DSt} {i : Nat} {ks : List Key} {ds : List D} {a : Addr} {kvs : List (Key × V)} (o : Obj) (h : StHas K W₀ H₀ W H σ δ) (hi : δ[i]? = some (some (.q ks ds))) (hs : σ[i]? = some (some (.ref a)))
    (hW : W a) (h4 : kvs.map (·.1) = ks) (h5 : HasL K W H ds (kvs.map (·.2))) : StHas K W₀ H₀ (fun b => W b ∧ b ≠ a) (upd H a (.frz o (.dK kvs))) σ (δ.set i (some (.d (.dct ks ds)))) := by
  have kk : Keep W H (upd H a (.frz o (.dK kvs))) := fun b u e n => by rw [upd_ne (fun z => n (by rw [z]; exact hW))]; exact e
  refine h.freezeH (owq ks ds) hi hs ?_
  rw [Has]
  exact ⟨a, kvs, rfl, ⟨o, Az0H⟩, h4, HasL.keep kk h.fr.wl (fun b z => .inl z.1) h5⟩
theorem Step.less {W W1 W2 : WS} {H H2 : Hp} (hw : ∀ b, W1 b → W b) (k : Step W1 H W2 H2) : Step W H W2 H2 := ⟨fun b o e n => k.keep b o e fun z => n (hw b z), fun b z => (k.new b z).imp (hw b) id⟩
theorem RS.less {K : PySem.W.Frag} {xw : XW} {W₀ W W1 : WS} {H₀ H : Hp} {o : Out} {Dn : Ends} (hw : ∀ b, W1 b → W b) (q : RS K xw W₀ H₀ W H o Dn) : RS K xw W₀ H₀ W1 H o Dn := by
  cases o with
  | nx δ => exact fun W' H' σ k s => q W' H' σ (k.less hw) s
  | bk δ => exact fun W' H' σ k s => q W' H' σ (k.less hw) s
  | ct δ => exact fun W' H' σ k s => q W' H' σ (k.less hw) s
  | rt d => exact q
  | ex c fs => exact q
  | stuck => exact q
noncomputable def sFrz (i : Nat) (g : DSt → Out) : DSt → Out := fun δ => g (frzD i δ)
theorem RS.note {K : PySem.W.Frag} {xw : XW} {W₀ W : WS} {H₀ H : Hp} {o : Out} {Dn : Ends} {a : Addr} {ob : HO} (hW : W a) (q : RS K xw W₀ H₀ W H o Dn) : RS K xw W₀ H₀ (fun b => W b ∧ b ≠ a) (upd H a ob) o Dn := by
  have st : ∀ W' H', Step (fun b => W b ∧ b ≠ a) (upd H a ob) W' H' → Step W H W' H' := fun W' H' k => ⟨fun b u e n => by
      have hb : b ≠ a := fun z => n (by rw [z]; exact hW)
      exact k.keep b u (by rw [upd_ne hb]; exact e) fun z => n z.1, fun b z => by
      rcases k.new b z with z | z
      · exact .inl z.1
      · by_cases hb : b = a
        · rw [hb, Az0H] at z; cases z
        · rw [upd_ne hb] at z; exact .inr z⟩
  cases o with
  | nx δ => exact fun W' H' σ k s => q W' H' σ (st _ _ k) s
  | bk δ => exact fun W' H' σ k s => q W' H' σ (st _ _ k) s
  | ct δ => exact fun W' H' σ k s => q W' H' σ (st _ _ k) s
  | rt d => exact q
  | ex c fs => exact q
  | stuck => exact q
theorem Bz8U {i : Nat} {g : DSt → Out} {Dn : Ends} {σ : L2.St} {H : Hp} {pins : List (Addr × Obj)} {s : Shared} (I : Inv X pins σ H s) (h : tDS X.K xw (sFrz i g) Dn σ H) : ∃ H', Inv X pins σ H' s ∧ tDS X.K xw g Dn σ H' := by
  obtain ⟨W₀, H₀, W, δ, st, q⟩ := h
  have q' : RS X.K xw W₀ H₀ W H (g (frzD i δ)) Dn := q
  unfold frzD at q'
  split at q'
  · rename_i ks ds h
    obtain ⟨v, e, a, kvs, rfl, r2, r3, r4, r5, r6⟩ := st.at' i _ h
    have ok := I.hok _ _ r4
    obtain ⟨z, hS, vs, rel, dd⟩ := id ok
    obtain ⟨o, es, ep, ho, _⟩ := dd
    refine ⟨_, I.write (x := a) (e := a) (o := .frz o (.dK kvs)) (h' := s.heap) (t' := s.toks) (by rw [r4]; exact trivial) (.inl rfl) (fun b' u hb hu => hu) ⟨_, ho⟩ ⟨ho, ok⟩, W₀, H₀, _, _, st.frzQ o h e r2 r5 r6, RS.note r2 q'⟩
  · rename_i ds h
    obtain ⟨v, e, a, xs, rfl, _⟩ := st.at' i _ h
    exact ⟨H, I, W₀, H₀, _, _, (st.freeze h e).1, RS.less (fun b z => z.1) q'⟩
  · exact ⟨H, I, W₀, H₀, W, δ, st, q'⟩
theorem s_frz (i : Nat) {st : Stmt} {g : DSt → Out} (h : XS X xw st g) : XS X xw st (sFrz i g) := ⟨fun pins s σ H Dn I q => let ⟨H', I', q'⟩ := Bz8U I q; h.h pins s σ H' Dn I' q'⟩
end
end L3
namespace L3
open PySem PySem.Spec PyProof.Rows L2 SeqAt
theorem is_key {P : Program} {w : World} {k : Key} {u : Value} (h : (Az2Y P w).is k u = true) : RelV (kV k) u := by
  rcases Az0U h with ⟨i, t, rfl, rfl⟩ | ⟨x, t, rfl, rfl⟩
  · exact ⟨t, rfl⟩
  · exact ⟨t, rfl⟩
theorem frz_at {P : Program} {w : World} {H : Hp} {h : Heap} {a : Addr} {o : Obj} {kvs : List (Key × V)} {es : Array DictEntry} {ep : Nat} (ok : HOk P w H h) (e : H a = some (.frz o (.dK kvs))) (hd : o.data = .dict es ep) :
    (a == sysModules) = false ∧ ∃ vs, KV kvs vs ∧ h.DictAt (Az2Y P w) a vs ep := by
  obtain ⟨h1, _, h2, vs, r, o', es', ep', g1, g2, g3, g4⟩ := (show _ ∧ _ from ok a _ e)
  rw [h1] at g1; cases g1
  rw [hd] at g3; cases g3
  exact ⟨h2, vs, r, o, es, h1, g2, hd, g4⟩
theorem kv_at {kvs : List (Key × V)} {vs : List (Key × Value)} (r : KV kvs vs) {i : Nat} {p : Key × V} (h : kvs[i]? = some p) : ∃ u, vs[i]? = some (p.1, u) ∧ RelV p.2 u := by
  unfold KV at r
  induction r generalizing i with
  | nil => cases h
  | @cons p' q ps qs hh t ih =>
    cases i with
    | zero => cases h; exact ⟨q.2, by rw [List.getElem?_cons_zero, hh.1], hh.2⟩
    | succ i => exact ih (by simpa using h)
noncomputable def Itk (a : Addr) (o : Obj) (kvs : List (Key × V)) : It :=
  ⟨fun i H => H a = some (.frz o (.dK kvs)) ∧ i < kvs.length, fun i H x H' => H' = H ∧ ∃ p, kvs[i]? = some p ∧ x = kV p.1, fun i H => H a = some (.frz o (.dK kvs)) ∧ i = kvs.length⟩
theorem Bz9R {P : Program} {w : World} {K : PySem.W.Frag} {tg : Expr} {a it : Addr} {o : Obj} {kvs : List (Key × V)} {es : Array DictEntry} {ep : Nat} (hdat : o.data = .dict es ep) : Turn P w K tg (Itk a o kvs) [it] it (fun i h => h.IsKeyIter it a i kvs.length ep) where
  mem := by simp
  obj := fun i h st b hb => by
    have e : b = it := by simpa using hb
    subst e
    obtain ⟨o, e, c, d⟩ := st
    exact ⟨o, e, fun v z => by rw [d] at z; cases z⟩
  keep := fun i h h' st k => st.at fun o e => k it (by simp) o e
  item := by
    intro X hP hw hK hc i pins s σ H E I hf st hg
    subst hP hw hK
    obtain ⟨hq, hi⟩ := hg
    obtain ⟨_, vs, rel, dat⟩ := frz_at I.hok hq hdat
    obtain ⟨u, hu, ru⟩ := kv_at rel (List.getElem?_eq_getElem hi)
    obtain ⟨f0, f1, f2, f3, f4, f5⟩ := hf it (by simp)
    rw [kv_len rel] at st
    refine wpAny_pyNext_dict_item st dat hu fun key h' hkey st' sb => ?_
    have I1 : Inv X pins σ H { s with heap := h' } := I.turned (t' := s.toks) (fun b o hb e => (sb.2 b hb).trans e) f0 f1 f3 f4 f5
    obtain ⟨o1, e, c, d⟩ := id st'
    rw [← kv_len rel] at st'
    exact ⟨key, rfl, go_of (s := { s with heap := h' }) e c d (by decide) ⟨kV (kvs[i]).1, H, I1, is_key hkey, ⟨rfl, _, List.getElem?_eq_getElem hi, rfl⟩, st', fun b hb => (hf b hb).1⟩⟩
  done := by
    intro X hP hw hK hc i pins s σ H E I hf st hg
    subst hP hw hK
    obtain ⟨hq, rfl⟩ := hg
    obtain ⟨_, vs, rel, dat⟩ := frz_at I.hok hq hdat
    obtain ⟨f0, f1, f2, f3, f4, f5⟩ := hf it (by simp)
    rw [kv_len rel] at st
    exact wpAny_pyNext_dict_end (I.ok.hd hc) st dat (by simp) fun h' eb => ⟨rfl, I.turned (t' := s.toks) (fun b o hb e => eb b o hb e) f0 f1 f3 f4 f5⟩
  self := fun _ _ _ _ _ st h => wpAny_pyIter_keyiter st h
section
variable {X : Cx} {xw : XW} {e b tg : Expr} {f : DSt → Res D} {pos apos : Pos}
noncomputable def iQk (te : TE) : TI := fun σ H R => te σ H fun x H1 => ∃ a o kvs, x = .ref a ∧ H1 a = some (.frz o (.dK kvs)) ∧ R (Itk a o kvs) H1
theorem pi_qk {te : TE} (h : PE X e te) : PI X tg e (iQk te) := by
  intro pins s σ H R I h1
  refine thn (h pins s σ H _ I h1) fun v s1 ⟨x, H1, I1, r1, q1⟩ => ?_
  obtain ⟨a, o, kvs, rfl, hq, q⟩ := q1
  cases r1
  obtain ⟨h1', _, hS, vs', r', o', es, ep, g1, g2, g3, g4⟩ := (show _ ∧ _ from I1.hok a _ hq)
  rw [h1'] at g1; cases g1
  obtain ⟨hs, vs, rel, dat⟩ := frz_at I1.hok hq g3
  refine wpAny_pyIter_dict hs dat ?_
  refine ⟨s1.heap.objs.size, [s1.heap.objs.size], _, _, H1, rfl, I1.kept (t' := s1.toks) fun b o e => Heap.get?_push_of_some _ e, Bz9R g3, ⟨_, Heap.get?_push_size _ rfl, rfl, by rw [kv_len rel]; rfl⟩, fun b hb => ?_, q⟩
  have e : b = s1.heap.objs.size := by simpa using hb
  subst e
  exact I1.fpOk (Nat.le_refl _) (I1.hok.fresh (Nat.le_refl _))
noncomputable def keyOf : Key → D
  | .inl i => .int i
  | .inr x => .str x
theorem Az9Z {K : PySem.W.Frag} {W : WS} {H : Hp} (k : Key) : Has K W H (keyOf k) (kV k) := by
  cases k with
  | inl i => show Has K W H (.int i) (.int i); rw [Has]
  | inr x => show Has K W H (.str x) (.str x); rw [Has]
theorem Bz3S {W W' : WS} {H H2 : Hp} {a : Addr} {o : Obj} {u : HO} (w : WL W H) (k : Step W H W' H2) (h : H a = some (.frz o u)) : H2 a = some (.frz o u) := k.keep _ _ h fun z => by
  obtain ⟨o', e', m⟩ := w a z
  rw [h] at e'; cases e'; exact m
theorem itk_ok {K : PySem.W.Frag} {W : WS} {H : Hp} {a : Addr} {o : Obj} {kvs : List (Key × V)} {ks : List Key} (w : WL W H) (h : H a = some (.frz o (.dK kvs))) (e : kvs.map (·.1) = ks) : ItOk K W H (Itk a o kvs) (ks.map keyOf) := by
  intro W' H2 k w2
  have h2 := Bz3S w k h
  have hl : ks.length = kvs.length := by rw [← e, List.length_map]
  refine ⟨fun i d ed => ?_, h2, by rw [List.length_map, hl]⟩
  have hi : i < kvs.length := by
    have := (List.getElem?_eq_some_iff.mp ed).1
    rw [List.length_map, hl] at this; exact this
  refine ⟨⟨h2, hi⟩, fun x H3 z => ?_⟩
  obtain ⟨rfl, p, hp, rfl⟩ := z
  refine ⟨Same.refl _, ?_⟩
  rw [← e, List.getElem?_map, List.getElem?_map, hp] at ed
  cases ed
  exact Az9Z _
noncomputable def keysR : D → Res (List D)
  | .dct ks _ => .ok (ks.map keyOf)
  | _ => .stuck
theorem i_keys (h : XE X xw e f) : XI X xw tg e (b1Q keysR f) := ⟨PI.weak (pi_qk h.h) fun σ H R ⟨W₀, H₀, W, δ, st, q⟩ => by
  refine ⟨W₀, H₀, W, δ, st, ?_⟩
  unfold b1Q at q
  cases h1 : f δ with
  | stuck => rw [h1] at q; exact q
  | ex c fs => rw [h1] at q; exact q
  | ok d =>
    rw [h1] at q
    intro v H1 k1 hv
    cases d with
    | dct ks ds =>
      rw [Has] at hv
      obtain ⟨a, kvs, rfl, ⟨o, ea⟩, r5, r6⟩ := hv
      exact ⟨a, o, kvs, rfl, ea, q _ H1 k1 (itk_ok (st.fr.wl.same k1) ea r5)⟩
    | _ => exact q.elim⟩
noncomputable def Iti (a : Addr) (o : Obj) (kvs : List (Key × V)) : It :=
  ⟨fun i H => H a = some (.frz o (.dK kvs)) ∧ i < kvs.length, fun i H x H' => ∃ n p, x = .ref n ∧ H n = none ∧ kvs[i]? = some p ∧ H' = upd H n (.tup [kV p.1, p.2]), fun i H => H a = some (.frz o (.dK kvs)) ∧ i = kvs.length⟩
theorem Az4Q : entryFor table "dict_itemiterator.__iter__" = some Builtin.«dict_keyiterator.__iter__» :=
  entryFor_alias (id' := "dict_keyiterator.__iter__") (by kernel_rfl) rfl (by decide +kernel) (by kernel_rfl)
theorem Az6C {prog : Program} {w : World} {A : Around} {E : Value → Shared → Prop} {s : Shared} {it d : Addr} {i n ep : Nat} {ok ov : Value} {Q : Value → Shared → Prop} (hit : IsItemIter s.heap it d i n ep ok ov) (h : Q (.ref it) s) : wpAny (model prog w) A (pyIter (.ref it)) Q E s := by
  have hT : s.TypeIs (.ref it) "dict_itemiterator" := ⟨_, hit, rfl⟩
  refine wpAny_pyIter_slot hT F.slot_dict_itemiterator_iter (wpAny_call_entry F.slot_dict_itemiterator_iter hT Az4Q ?_ (F.args_dict_itemiterator_iter_1 _))
  show wpAny _ _ (ret (.ref it)) _ _ s
  exact wpAny_pure ⟨_, rfl, "dict_itemiterator", _, hT, F.slot_dict_itemiterator_next.lookup, h⟩
theorem Bz9S {P : Program} {w : World} {K : PySem.W.Frag} {elts : List Expr} {kt : Nat} {pt : Pos} {a it : Addr} {o : Obj} {kvs : List (Key × V)} {es : Array DictEntry} {ep : Nat} (hdat : o.data = .dict es ep) :
    Turn P w K (.Tuple elts kt pt) (Iti a o kvs) [it] it (fun i h => ∃ ok ov, IsItemIter h it a i kvs.length ep ok ov) where
  mem := by simp
  obj := fun i h st b hb => by
    have e : b = it := by simpa using hb
    subst e
    obtain ⟨ok, ov, e⟩ := st
    exact ⟨_, e, fun v z => nomatch z⟩
  keep := fun i h h' st k => by
    obtain ⟨ok, ov, e⟩ := st
    exact ⟨ok, ov, k it (by simp) _ e⟩
  item := by
    intro X hP hw hK hc i pins s σ H E I hf st hg
    subst hP hw hK
    obtain ⟨hq, hi⟩ := hg
    obtain ⟨ok, ov, st⟩ := st
    obtain ⟨_, vs, rel, dat⟩ := frz_at I.hok hq hdat
    obtain ⟨u, hu, ru⟩ := kv_at rel (List.getElem?_eq_getElem hi)
    rw [kv_len rel] at st
    refine wpAny_pyNext_items_item st dat hu fun key h1 hkey eo nw sz kk => ⟨_, rfl, ?_⟩
    refine wpAny_letOwnedTupleGo_items (s := { s with heap := h1 }) eo fun h2 e2 c2 => ?_
    have li : it < s.heap.objs.size := Heap.lt_size st
    have up : ∀ b o, b ≠ it → h1.get? b = some o → h2.get? b = some o := fun b o ne q => c2.extBut _ _ ne q
    rw [← kv_len rel] at e2
    refine ⟨.ref s.heap.objs.size, upd H s.heap.objs.size (.tup [kV (kvs[i]).1, (kvs[i]).2]), ?_, rfl, ⟨_, _, rfl, I.hok.fresh (Nat.le_refl _), List.getElem?_eq_getElem hi, rfl⟩, ⟨_, _, e2⟩, fun b hb => ?_⟩
    · show Inv X pins σ (upd H s.heap.objs.size (.tup [kV (kvs[i]).1, (kvs[i]).2])) { s with heap := h2, toks := s.toks }
      refine Bz0B (ch := [it]) (t' := s.toks) I hf (fun b o hb q => ?_) (Nat.le_refl _) (.cons (is_key hkey) (.cons ru .nil)) (show (2 : Nat) ≤ sizeLine by rw [sizeLine_eq]; decide) ⟨_, up _ _ (Nat.ne_of_gt li) nw, rfl, _, rfl⟩
      simp only [List.mem_cons, List.not_mem_nil, or_false] at hb
      exact up _ _ hb (kk b o hb q)
    · have hb1 := (hf b hb).1
      have : b = it := by simpa using hb
      subst this
      rw [upd_ne (Nat.ne_of_lt li)]; exact hb1
  done := by
    intro X hP hw hK hc i pins s σ H E I hf st hg
    subst hP hw hK
    obtain ⟨hq, rfl⟩ := hg
    obtain ⟨ok, ov, st⟩ := st
    obtain ⟨_, vs, rel, dat⟩ := frz_at I.hok hq hdat
    rw [kv_len rel] at st
    refine wpAny_pyNext_items_end (I.ok.hd hc) st dat (by simp) fun h' eb => ⟨rfl, Bz0A (ch := [it]) (t' := s.toks) I hf fun b o hb q => ?_⟩
    exact eb b o (by simpa using hb) q
  self := fun _ _ _ _ _ st h => let ⟨_, _, e⟩ := st; Az6C e h
variable {elts : List Expr} {kt : Nat} {pt : Pos}
noncomputable def iQi (te : TE) : TI := fun σ H R => te σ H fun x H1 => ∃ a o kvs, x = .ref a ∧ H1 a = some (.frz o (.dK kvs)) ∧ R (Iti a o kvs) H1
theorem pi_qi {te : TE} (h : PE X e te) (hbase : attributeBase e "items" X.env (eval e X.env) = eval e X.env) (hline : (apos.endLine == pos.line) = true) : PI X (.Tuple elts kt pt) (.Call (.Attribute e "items" apos) [] [] pos) (iQi te) := by
  intro pins s σ H R I h1
  refine wpAny_Call_method0_late hbase hline (thn (h pins s σ H _ I h1) fun v s1 ⟨x, H1, I1, r1, q1⟩ => ?_)
  obtain ⟨a, o, kvs, rfl, hq, q⟩ := q1
  cases r1
  obtain ⟨h1', _, hS, vs', r', o', es, ep, g1, g2, g3, g4⟩ := (show _ ∧ _ from I1.hok a _ hq)
  rw [h1'] at g1; cases g1
  obtain ⟨hs, vs, rel, dat⟩ := frz_at I1.hok hq g3
  refine ⟨"dict", "dict.items", F.plainAttrs_dict, F.slot_dict_items, F.type_dict_items, dat.dictOf.typeIs, fun b z => by cases z; exact ⟨o, h1', g2.2.1⟩, Calls.callWith_builtin rfl (PySem.evalArgs_none ?_)⟩
  refine call_meetsIn F.slot_dict_items dat.dictOf.typeIs F.entry_dict_items (F.args_dict_items_1 _) (meets_dict_items (Az2Y X.prog X.w) a hs) ⟨⟨vs, dat.dictOf⟩, ?_⟩
  have v1 : Heap.IsItemsView (s1.heap.push { cls := .type "dict_items", data := .fields #[.ref a] }) s1.heap.objs.size a := ⟨_, Heap.get?_push_size _ rfl, rfl, rfl⟩
  refine wpAny_pyIter_items (s := { s1 with heap := s1.heap.push { cls := .type "dict_items", data := .fields #[.ref a] } }) v1 (dat.push _) ?_
  have sz : (s1.heap.push { cls := .type "dict_items", data := .fields #[.ref a] }).objs.size = s1.heap.objs.size + 1 := Heap.size_push ..
  refine ⟨_, [s1.heap.objs.size + 1], _, _, H1, by rw [← sz], I1.kept (t' := s1.toks) fun b o e => Heap.get?_push_of_some _ (Heap.get?_push_of_some _ e), Bz9S g3, ⟨.none, .none, ?_⟩, fun b hb => ?_, q⟩
  · rw [kv_len rel, ← sz]; exact Heap.get?_push_size _ rfl
  · have e : b = s1.heap.objs.size + 1 := by simpa using hb
    subst e
    exact I1.fpOk (Nat.le_succ _) (I1.hok.fresh (Nat.le_succ _))
noncomputable def pairsR : D → Res (List D)
  | .dct ks ds => .ok ((ks.zip ds).map fun p => .tup [keyOf p.1, p.2])
  | _ => .stuck
theorem iti_ok {K : PySem.W.Frag} {W : WS} {H : Hp} {a : Addr} {o : Obj} {kvs : List (Key × V)} {l : List (Key × D)} (w : WL W H) (h : H a = some (.frz o (.dK kvs))) (hp : HasP K W H l kvs) : ItOk K W H (Iti a o kvs) (l.map fun p => .tup [keyOf p.1, p.2]) := by
  intro W' H2 k w2
  have h2 := Bz3S w k h
  have hl := hp.len
  refine ⟨fun i d ed => ?_, h2, by rw [List.length_map, hl]⟩
  have hi : i < l.length := by
    have := (List.getElem?_eq_some_iff.mp ed).1
    rw [List.length_map] at this; exact this
  refine ⟨⟨h2, by omega⟩, fun x H3 z => ?_⟩
  obtain ⟨n, p, rfl, hn, hpi, rfl⟩ := z
  refine ⟨Az1V hn, ?_⟩
  rw [List.getElem?_map, List.getElem?_eq_getElem hi] at ed
  cases ed
  have e1 : p.1 = (l[i]).1 := by
    have := congrArg (fun z => z[i]?) hp.1
    simp only [List.getElem?_map, hpi, List.getElem?_eq_getElem hi] at this
    exact Option.some.inj this
  obtain ⟨v, g1, g2⟩ := hp.2.get (i := i) (d := (l[i]).2) (by rw [List.getElem?_map, List.getElem?_eq_getElem hi]; rfl)
  rw [List.getElem?_map, hpi] at g1
  cases g1
  rw [Has]
  have g3 := (Has.keep k.keep w k.new g2).same (Az1V (o := .tup [kV p.1, p.2]) hn) w2
  refine ⟨n, [kV p.1, p.2], rfl, .of Az0H, HasL.cons ?_ (HasL.cons g3 HasL.nil)⟩
  rw [e1]; exact Az9Z _
theorem Bz3P (h : XE X xw e f) (hbase : autoParam (attributeBase e "items" X.env (eval e X.env) = eval e X.env) slim0._auto_1) (hline : autoParam ((apos.endLine == pos.line) = true) slim0._auto_1) : XI X xw (.Tuple elts kt pt) (.Call (.Attribute e "items" apos) [] [] pos) (b1Q pairsR f) := ⟨PI.weak (pi_qi h.h hbase hline) fun σ H R ⟨W₀, H₀, W, δ, st, q⟩ => by
  refine ⟨W₀, H₀, W, δ, st, ?_⟩
  unfold b1Q at q
  cases h1 : f δ with
  | stuck => rw [h1] at q; exact q
  | ex c fs => rw [h1] at q; exact q
  | ok d =>
    rw [h1] at q
    intro v H1 k1 hv
    cases d with
    | dct ks ds =>
      rw [Has] at hv
      obtain ⟨a, kvs, rfl, ⟨o, ea⟩, r5, r6⟩ := hv
      exact ⟨a, o, kvs, rfl, ea, q _ H1 k1 (iti_ok (st.fr.wl.same k1) ea (HasP.of r5 r6).1)⟩
    | _ => exact q.elim⟩
end
end L3
namespace L3
open PySem PySem.Spec PyProof.Rows L2 SeqAt
section
variable {X : Cx} {xw : XW} {pos p pos2 apos : Pos} {a e : Expr} {fa f : DSt → Res D}
end
end L3
namespace L3
open PySem PySem.Spec PyProof.Rows L2 SeqAt
noncomputable def IsRv (h : Heap) (a l : Addr) (i : Int) : Prop := ∃ o, h.get? a = some o ∧ o.cls = .type "reversed" ∧ o.data = .fields #[.ref l, rawInt i]
theorem IsRv.typeIs {s : Shared} {a l : Addr} {i : Int} (x : IsRv s.heap a l i) : s.TypeIs (.ref a) "reversed" := let ⟨o, ho, hc, _⟩ := x; ⟨o, ho, hc⟩
theorem IsRv.at {h h' : Heap} {a l : Addr} {i : Int} (x : IsRv h a l i) (e : ∀ o, h.get? a = some o → h'.get? a = some o) : IsRv h' a l i := let ⟨o, ho, r⟩ := x; ⟨o, e _ ho, r⟩
section
variable {prog : Program} {w : World} {A : Around} {E : Value → Shared → Prop} {s : Shared}
end
section
variable {X : Cx} {xw : XW} {tg a : Expr} {p pos : Pos} {fs : DSt → Res (List D)}
end
end L3
namespace L3
open PySem PySem.Spec PyProof.Rows L2 SeqAt
theorem Az6N : entryFor table "dict.update.loop" = some Builtin.«dict.update.loop» := entryFor_of_tree (by kernel_rfl)
theorem Az3T : plainId "dict.update.loop" = true := by decide +kernel
section
variable {prog : Program} {w : World} {KK : Type} [DecidableEq KK] {knd : KeyKind prog w KK} {A : Around} {R : Result → Shared → Prop} {I : Addr} {fp wr : List Addr} {G : Array GenState → Array GenState → Prop} {n : Nat} {P : Nat → Value → Prop} {St : Nat → Shared → Prop} {E : Value → Shared → Prop} {s : Shared}
theorem Cz2V (W : WalksS prog w A.in1 I fp wr G n P St) (S : Addr) (hSf : S ∉ fp) (base : Heap) (hnew : ∀ b ∈ S :: wr, base.objs.size ≤ b) (kvs : List (KK × Value)) (hn : kvs.length = n) (hsz : n ≤ sizeLine)
    (hv : ∀ i v, P i v → ∃ t key k val, v = .ref t ∧ kvs[i]? = some (k, val) ∧ knd.is k key = true ∧ IsTup base t #[key, val]) :
    ∀ (j i : Nat) (s : Shared), n - i = j → i ≤ n → St i s → (∀ b o, base.get? b = some o → s.heap.get? b = some o) → s.heap.DictOf knd S (merged [] (kvs.take i)) → (∀ s', Moved (S :: wr) G s s' → s'.heap.DictOf knd S (merged [] kvs) → R (.ok (.ret .none)) s') →
      codeAny (model prog w) A (.builtin "dict.update.loop" ⟨[.ref S, .ref I, rawInt (i : Int), .none], []⟩) R s := by
  have hSw : S ∉ wr := fun h => hSf (W.sub _ h)
  have up : ∀ b ∈ wr, b ∈ S :: wr := fun b hb => List.mem_cons_of_mem _ hb
  have old : ∀ b o, base.get? b = some o → b ∉ S :: wr := fun b o e m => absurd (Heap.lt_size e) (Nat.not_lt.mpr (hnew b m))
  intro j
  induction j with
  | zero =>
    intro i s hk hi st hb hS hR
    have : i = n := by omega
    subst this
    refine codeAny_builtin Az6N ?_; rw [Around.under_plainId Az3T _]
    show wpAny _ A.in1 (pyNext (.ref I) >>= _) _ _ s
    refine wpAny_bind (W.done s _ _ st fun s' mv => ?_)
    show wpAny _ _ (Builtin.Dict.addKeywords S [] >>= _) _ _ s'
    refine wpAny_bind (wpAny_pure (wpAny_pure (hR s' (mv.mono up) ?_)))
    rw [List.take_of_length_le (Nat.le_of_eq hn)] at hS
    obtain ⟨o, es, ep, ho, r⟩ := hS
    exact ⟨o, es, ep, mv.heap S o hSw ho, r⟩
  | succ j ih =>
    intro i s hk hi st hb hS hR
    have lt : i < n := by omega
    refine codeAny_builtin Az6N ?_; rw [Around.under_plainId Az3T _]
    show wpAny _ A.in1 (pyNext (.ref I) >>= _) _ _ s
    refine wpAny_bind (W.item i s _ _ lt st fun v s' pv st' mv => ?_)
    obtain ⟨t, key, k, val, rfl, hkv, hkey, ht⟩ := hv i v pv
    have hS' : s'.heap.DictOf knd S (merged [] (kvs.take i)) := by
      obtain ⟨o, es, ep, ho, r⟩ := hS
      exact ⟨o, es, ep, mv.heap S o hSw ho, r⟩
    obtain ⟨ot, e1, e2, e3⟩ := ht
    obtain ⟨m, e3⟩ := e3
    have et := mv.heap t ot (fun z => old t ot e1 (up _ z)) (hb t ot e1)
    have hT : s'.TypeIs (.ref t) "tuple" := ⟨ot, et, e2⟩
    show wpAny _ A.in1 (holding [Value.ref t] _ >>= _) _ _ s'
    refine wpAny_bind (wpAny_holding ?_)
    refine wpAny_bind (wpAny_tryCatch ?_)
    unfold Builtin.Dict.pairItems
    refine wpAny_bind (wpAny_typeOf hT ?_)
    rw [if_pos (by decide)]
    refine wpAny_bind (wpAny_seqItems et e3 (wpAny_pure ?_))
    show wpAny _ _ (holding [key, val] (dictSet S key val)) _ _ _
    have hs0 : (merged ([] : List (KK × Value)) (kvs.take i)).length ≤ sizeLine := by
      have := merged_length_le ([] : List (KK × Value)) (kvs.take i)
      rw [List.length_take, List.length_nil, Nat.zero_add] at this
      have h2 : min i kvs.length ≤ i := Nat.min_le_left _ _
      exact Nat.le_trans this (Nat.le_trans h2 (Nat.le_trans hi hsz))
    refine wpAny_holding (wpAny_dictSet_pairs (hsz := hs0) hkey hS' fun h' hS2 sb => ?_)
    refine wpAny_pure (show _ ∧ codeAny (model prog w) A (.builtin "dict.update.loop" ⟨[.ref S, .ref I, rawInt ((i : Int) + 1), .none], []⟩) R { s' with heap := h', toks := s'.toks + 1 } from ⟨plainId_quiet Az3T _, ?_⟩)
    have e5 : rawInt ((i : Int) + 1) = rawInt ((i + 1 : Nat) : Int) := by congr 1
    rw [e5]
    refine ih (i + 1) _ (by omega) lt (W.frame _ s' _ _ st' (Nat.le_succ _) fun b hb o e => sb.extBut _ _ (fun q => hSf (q ▸ hb)) e) (fun b o e => sb.extBut _ _ (fun q => old b o e (by rw [q]; exact List.mem_cons_self)) (mv.heap b o (fun z => old b o e (up _ z)) (hb b o e))) (by rw [merged_take_succ _ _ i _ hkv]; exact hS2) fun s'' mv2 hS3 => hR s'' ?_ hS3
    exact Moved.trans W.gtrans ((mv.mono up).then_heap (Nat.le_succ _) fun b o hb e => sb.extBut _ _ (fun q => hb (by rw [q]; exact List.mem_cons_self)) e) mv2
theorem Bz1O : typeLookup (.type "list") "keys" = pure none := by rw [typeLookup_type, builtinLookup_eq_fast]; kernel_rfl
theorem Bz5S {a : Addr} {o : Obj} {xs : Array Value} {k : Nat} {Q : Option Value → Shared → Prop} (hx : s.heap.get? a = some o) (hc : o.cls = .type "list") (hdat : o.data = .seq xs k) (hd : o.dict = none) (hA : A.handled = none)
    (h : ∀ h' tk, (∀ b ob, s.heap.get? b = some ob → h'.get? b = some ob) → Q none { s with heap := h', toks := tk }) :
    wpAny (model prog w) A (getAttr? (.ref a) "keys") Q E s := by
  obtain ⟨c, dct, dat, sl⟩ := o
  simp only at hc hdat hd
  subst hc hdat hd
  obtain ⟨hp, g, d, tk, os⟩ := s
  have hT : ∀ tk', (⟨hp, g, d, tk', os⟩ : Shared).TypeIs (.ref a) "list" := fun _ => ⟨_, hx, rfl⟩
  have f1 := sub_AttributeError
  have f3 := F.slot_list_getattribute.lookup
  have f4 := F.slot_list_getattribute.bind (.ref a)
  have f5 := am_list_getattr_none
  unfold getAttr? getAttrBy? getAttrBy
  repeat (any_goals (first | assumption | exact hT _ | ((with_reducible show wpAny _ _ (call (Value.builtin "list.__getattribute__") _ _) _ _ _); refine call_meets F.slot_list_getattribute (hT _) am_entry_list_getattribute (F.args_list_getattribute_2 _ _) (meets_getattribute_miss_list a xs k sl "keys" _ Bz1O (by decide) (by rw [sizeLine_eq]; decide)) ⟨hx, hA, fun h' tk' e hx' => ?_⟩) | wp_step))
  obtain ⟨t', u', he⟩ := hx'.there
  show wpAny _ _ (getattributeRaised _ _ _ _ _ _ _) _ _ _
  unfold getattributeRaised
  repeat (any_goals (first | assumption | wp_step))
  exact h h' tk' hx'.keeps
theorem Az7J {l : Addr} {o : Obj} {items : Array Value} {n0 : Nat} {kvs : List (KK × Value)} {Q : Value → Shared → Prop} (hh : A.handled = none) (hx : s.heap.get? l = some o) (hc : o.cls = .type "list") (hdat : o.data = .seq items n0) (hd : o.dict = none) (hn : kvs.length = items.size) (hsz : items.size ≤ sizeLine)
    (hv : ∀ (i : Nat) (v : Value), items[i]? = some v → ∃ t key k val, v = Value.ref t ∧ kvs[i]? = some (k, val) ∧ knd.is k key = true ∧ IsTup s.heap t #[key, val])
    (h : ∀ h' tk, h'.DictOf knd s.heap.objs.size (merged [] kvs) → (∀ b o, s.heap.get? b = some o → h'.get? b = some o) → Q (.ref s.heap.objs.size) { s with heap := h', toks := tk }) :
    wpAny (model prog w) A (call (.type "dict") [.ref l]) Q E s := by
  refine callType_codes (Q₁ := fun obj s₁ => obj = .ref s.heap.objs.size ∧ s₁ = { s with heap := s.heap.push { cls := .type "dict", data := .dict #[] } }) F.kt_called_dict (F.kt_typeCall_dict_1 _) F.entry_dict_init (kt_code_dict_new _ ⟨rfl, rfl⟩) ?_
  rintro obj s₁ ⟨rfl, rfl⟩
  have hnew : (s.heap.push { cls := .type "dict", data := .dict #[] }).DictOf knd s.heap.objs.size [] := Heap.DictOf.new s.heap
  have hx' := Heap.get?_push_of_some { cls := .type "dict", data := .dict #[] } hx
  have z1 : (s.heap.push { cls := .type "dict", data := .dict #[] }).objs.size = s.heap.objs.size + 1 := Heap.size_push ..
  have k1 : ∀ b o, s.heap.get? b = some o → (s.heap.push { cls := .type "dict", data := .dict #[] }).get? b = some o := fun b o e => Heap.get?_push_of_some _ e
  generalize (s.heap.push { cls := .type "dict", data := .dict #[] }) = h1 at hnew hx' z1 k1 ⊢
  refine ⟨hnew.typeIs, F.args_dict_init_2 _ _, ?_⟩
  unfold Builtin.«dict.__init__»
  refine wpAny_bind ?_
  unfold Builtin.Dict.selfAndRest
  refine wpAny_bind (wpAny_notOrdered_dict hnew.typeIs ?_)
  show wpAny _ _ (pure (s.heap.objs.size, [Value.ref l])) _ _ _
  refine wpAny_pure ?_
  show wpAny _ _ (Builtin.Dict.updateFrom "dict.__init__" s.heap.objs.size (.ref l) [] .none) _ _ _
  unfold Builtin.Dict.updateFrom
  have hT : Shared.TypeIs { s with heap := h1 } (.ref l) "list" := ⟨_, hx', hc⟩
  refine wpAny_bind (wpAny_typeOf hT ?_)
  rw [if_pos (by decide)]
  refine wpAny_bind (Bz5S (s := { s with heap := h1 }) hx' hc hdat hd hh fun h2 tk2 k2 => ?_)
  rw [if_pos (show (none : Option Value).isNone = true from rfl)]
  refine wpAny_bind (wpAny_rule ?_)
  have hl2 : h2.IsList l items := ⟨o, k2 _ _ hx', hc, n0, hdat⟩
  refine wpAny_bind (wpAny_pyIter_list (s := { s with heap := h2, toks := tk2 }) hl2 ?_)
  have lS : s.heap.objs.size < h2.objs.size := by
    obtain ⟨ob, _, _, hg, _⟩ := hnew
    exact Heap.lt_size (k2 _ _ hg)
  have ll : l < s.heap.objs.size := Heap.lt_size hx
  have hS2 : h2.DictOf knd s.heap.objs.size [] := by
    obtain ⟨ob, es, ep, hg, r⟩ := hnew
    exact ⟨ob, es, ep, k2 _ _ hg, r⟩
  have hlI : l ≠ h2.objs.size := Nat.ne_of_lt (Nat.lt_trans ll lS)
  have W := (Walks.list (prog := prog) (w := w) (A := A.in1.in1) (show A.in1.in1.handled = none from hh) h2.objs.size l hlI items).toS
  refine wpAny_pure ⟨plainId_quiet Az3T _, ?_⟩
  refine Cz2V (knd := knd) (A := A.in1) W s.heap.objs.size ?_ s.heap ?_ kvs hn hsz (fun i v pv => hv i v pv) items.size 0 _ (by omega) (Nat.zero_le _) ?_ ?_ ?_ ?_
  · simp only [List.mem_cons, List.not_mem_nil, or_false, not_or]
    exact ⟨Nat.ne_of_lt lS, Nat.ne_of_gt ll⟩
  · intro b hb
    simp only [List.mem_cons, List.not_mem_nil, or_false] at hb
    rcases hb with rfl | rfl
    · exact Nat.le_refl _
    · exact Nat.le_of_lt lS
  · exact ⟨⟨_, Heap.get?_push_size _ rfl, rfl, rfl⟩, ⟨o, Heap.get?_push_of_some _ (k2 _ _ hx'), hc, n0, hdat⟩⟩
  · exact fun b o e => Heap.get?_push_of_some _ (k2 _ _ (k1 _ _ e))
  · obtain ⟨ob, es, ep, hg, r⟩ := hS2
    exact ⟨ob, es, ep, Heap.get?_push_of_some _ hg, r⟩
  · intro s' mv hS
    obtain ⟨h', g', d', tk', os'⟩ := s'
    have eg : g' = s.gens := mv.gens
    have ed : d' = s.drawn := mv.drawn
    have eo : os' = s.os := mv.os
    subst eg ed eo
    refine ⟨rfl, h h' tk' hS fun b ob e => mv.heap b ob ?_ (Heap.get?_push_of_some _ (k2 _ _ (k1 _ _ e)))⟩
    have hb := Heap.lt_size e
    simp only [List.mem_cons, List.not_mem_nil, or_false, not_or]
    exact ⟨Nat.ne_of_lt hb, Nat.ne_of_lt (Nat.lt_trans hb lS)⟩
end
noncomputable def mergeT {α : Type} (l : List (Key × α)) : List (Key × α) := l.foldl (fun acc p => tPut acc p.1 p.2) []
theorem Bz8L {kvs : List (Key × V)} {vs : List (Key × Value)} (r : KV kvs vs) : KV (mergeT kvs) (merged [] vs) := by
  have go : ∀ {kvs : List (Key × V)} {vs : List (Key × Value)}, KV kvs vs → ∀ {a : List (Key × V)} {b : List (Key × Value)}, KV a b → KV (kvs.foldl (fun acc p => tPut acc p.1 p.2) a) (vs.foldl (fun acc kv => stored acc kv.1 kv.2) b) := by
    intro kvs vs r
    unfold KV at r
    induction r with
    | nil => intro a b h; exact h
    | @cons p q ps qs h t ih =>
      intro a b hab
      obtain ⟨h1, h2⟩ := h
      rw [List.foldl_cons, List.foldl_cons, ← h1]
      exact ih (kv_put hab p.1 h2)
  exact go r .nil
theorem HasP.merge {K : PySem.W.Frag} {W : WS} {H : Hp} {l : List (Key × D)} {kvs : List (Key × V)} (h : HasP K W H l kvs) : HasP K W H (mergeT l) (mergeT kvs) := by
  have go : ∀ (l : List (Key × D)) (kvs : List (Key × V)), HasP K W H l kvs → ∀ (a : List (Key × D)) (b : List (Key × V)), HasP K W H a b → HasP K W H (l.foldl (fun acc p => tPut acc p.1 p.2) a) (kvs.foldl (fun acc p => tPut acc p.1 p.2) b) := by
    intro l
    induction l with
    | nil =>
      intro kvs h a b hab
      obtain ⟨h1, _⟩ := h
      cases kvs with
      | nil => exact hab
      | cons _ _ => cases h1
    | cons p l ih =>
      intro kvs h a b hab
      obtain ⟨v, r, rfl, h1, h2⟩ := h.cons
      exact ih r h2 _ _ (hab.put p.1 h1)
  exact go l kvs h [] [] HasP.nil
theorem Bz3F {α : Type} (l : List (Key × α)) : (mergeT l).length ≤ l.length := by
  have go : ∀ (l a : List (Key × α)), (l.foldl (fun acc p => tPut acc p.1 p.2) a).length ≤ a.length + l.length := by
    intro l
    induction l with
    | nil => intro a; simp
    | cons p l ih =>
      intro a
      have h1 := ih (tPut a p.1 p.2)
      have h2 := Bz2C a p.1 p.2
      rw [List.foldl_cons, List.length_cons]; omega
  have := go l []; simpa [mergeT] using this
section
variable {X : Cx} {xw : XW} {pos p : Pos} {a : Expr} {fa : DSt → Res D}
noncomputable def PairsAt (K : PySem.W.Frag) (H : Hp) : List V → List (Key × V) → Prop
  | [], kvs => kvs = []
  | x :: xs, kvs => ∃ t k v r, x = .ref t ∧ kvs = (k, v) :: r ∧ SqT K H t [kV k, v] ∧ PairsAt K H xs r
theorem PairsAt.len {K : PySem.W.Frag} {H : Hp} : ∀ {xs : List V} {kvs : List (Key × V)}, PairsAt K H xs kvs → xs.length = kvs.length
  | [], _, h => by rw [show _ = [] from h]; rfl
  | x :: xs, _, h => by
    obtain ⟨t, k, v, r, _, rfl, _, h⟩ := h
    rw [List.length_cons, List.length_cons, h.len]
theorem Az9T {pins : List (Addr × Obj)} {σ : L2.St} {H : Hp} {s : Shared} (I : Inv X pins σ H s) : ∀ {xs : List V} {its : List Value} {kvs : List (Key × V)}, PairsAt X.K H xs kvs → Vals xs its →
    ∃ vs : List (Key × Value), KV kvs vs ∧ ∀ (i : Nat) (v : Value), its[i]? = some v → ∃ t key k val, v = Value.ref t ∧ vs[i]? = some (k, val) ∧ (Az2Y X.prog X.w).is k key = true ∧ IsTup s.heap t #[key, val]
  | [], its, kvs, h, r => by
    cases r
    rw [show kvs = [] from h]
    exact ⟨[], .nil, fun i v e => by simp at e⟩
  | x :: xs, its, kvs, h, r => by
    obtain ⟨t, k, v, rr, rfl, rfl, sq, h⟩ := h
    cases r with
    | @cons _ u _ us r1 r2 =>
      cases (show u = Value.ref t from r1)
      obtain ⟨vs, e1, e2⟩ := Az9T I h r2
      obtain ⟨ys, ry, py, _⟩ := I.tuple sq
      cases ry with
      | @cons _ key _ _ q1 q2 =>
        cases q2 with
        | @cons _ val _ _ q3 q4 =>
          cases q4
          refine ⟨(k, val) :: vs, .cons ⟨rfl, q3⟩ e1, fun i w hw => ?_⟩
          cases i with
          | zero => cases hw; exact ⟨t, key, k, val, rfl, rfl, key_is q1, py⟩
          | succ i => exact e2 i w (by simpa using hw)
theorem Bz4N (hc : X.calm = true) : CallR X (.type "dict") (fun xs H Q => ∃ (l : Addr) (ys : List V) (kvs : List (Key × V)), xs = [.ref l] ∧ SqL X.K H l ys ∧ PairsAt X.K H ys kvs ∧ ∀ n o, H n = none → Q (.ref n) (upd H n (.frz o (.dK (mergeT kvs))))) := by
  intro pins s σ H xs us Q I r h
  obtain ⟨l, ys, kvs, rfl, hq, hp, q⟩ := h
  obtain ⟨u, rfl, ru⟩ := vals1 r
  cases ru
  obtain ⟨its, rv, ⟨ob, n0, e, hcl, hd, hs⟩, hz⟩ := I.list hq
  obtain ⟨vs, kv, hv⟩ := Az9T I hp rv
  have hl1 := hp.len
  have hl2 := rv.length
  have hl3 := kv_len kv
  have big : sysModules < s.heap.objs.size := by
    have h : mainGlobals < s.heap.objs.size := (I.mod.glob.keeps I.bk).lt
    exact Nat.lt_trans (by decide) h
  refine Az7J (knd := Az2Y X.prog X.w) (kvs := vs) (I.ok.hd hc) e hcl hs hd (by simp; omega) (by simp; omega) (fun i v hw => hv i v (by simpa using hw)) fun h' tk dd kk => ?_
  obtain ⟨ob', es, ep, ho', rr⟩ := id dd
  refine ⟨.ref s.heap.objs.size, _, I.laid (a := s.heap.objs.size) (o := .frz ob' (.dK (mergeT kvs))) (t' := tk) kk (Nat.le_refl _) ⟨ho', ?_, beq_eq_false_iff_ne.mpr (Ne.symm (Nat.ne_of_lt big)), _, Bz8L kv, dd⟩, rfl, q _ ob' I.fresh⟩
  have := Bz3F kvs
  omega
noncomputable def Az4X : List D → Option (List (Key × D))
  | [] => some []
  | .tup [k, v] :: ds => match keyD k, Az4X ds with
    | some kk, some l => some ((kk, v) :: l)
    | _, _ => none
  | _ => none
theorem Az9U {K : PySem.W.Frag} {W : WS} {H : Hp} : ∀ {ds : List D} {l : List (Key × D)} {xs : List V}, Az4X ds = some l → HasL K W H ds xs → ∃ kvs, PairsAt K H xs kvs ∧ HasP K W H l kvs
  | [], l, xs, e, h => by
    cases e
    rw [HasL] at h
    subst h
    exact ⟨[], rfl, HasP.nil⟩
  | d :: ds, l, xs, e, h => by
    unfold Az4X at e
    split at e
    · rename_i h1; cases h1
    · rename_i k v ds' h1
      cases h1
      split at e
      · rename_i kk l' e1 e2
        cases e
        rw [HasL] at h
        obtain ⟨x, r, rfl, g1, g2⟩ := h
        obtain ⟨kvs, p1, p2⟩ := Az9U e2 g2
        rw [Has] at g1
        obtain ⟨t, ys, rfl, sq, hy⟩ := g1
        rw [HasL] at hy
        obtain ⟨y1, r1, rfl, hk, hy⟩ := hy
        rw [HasL] at hy
        obtain ⟨y2, r2, rfl, hv, hy⟩ := hy
        rw [HasL] at hy
        subst hy
        have := Az5A (.inl hk) e1
        subst this
        exact ⟨(kk, y2) :: kvs, ⟨t, kk, y2, kvs, rfl, rfl, sq, p1⟩, HasP.mk hv p2⟩
      · cases e
    · cases e
noncomputable def dictLR : D → Res D
  | .lst ds => match Az4X ds with
    | some l => .ok (.dct ((mergeT l).map (·.1)) ((mergeT l).map (·.2)))
    | none => .stuck
  | _ => .stuck
theorem Bz1X (hc : X.calm = true) (hm : X.mg "dict" = none) (ha : XP X xw a fa) (hg : autoParam (Gl X "dict") slim0._auto_1) (he : autoParam (starEach [a] X.env = (false, eval a X.env) :: starEach [] X.env) slim0._auto_1) (hpl : autoParam ((backTo pos (starEach [] X.env)).any (·.1) = false) slim0._auto_1) :
    XE X xw (.Call (.Name "dict" p) [a] [] pos) (b1 dictLR fa) :=
  ⟨Bz0L (Bz4N hc) (fun W H d v Q w hv q => by
    unfold dictLR at q
    split at q
    · split at q
      · rename_i l hl
        obtain ⟨ad, xs, e1, sq, r⟩ := hv.lst
        obtain ⟨kvs, p1, p2⟩ := Az9U hl r
        refine ⟨ad, xs, kvs, by rw [e1], sq, p1, fun n o hn => q _ _ (Az1V hn) ?_⟩
        have m := (p2.merge).same (Az1V (o := .frz o (.dK (mergeT kvs))) hn) w
        rw [Has]
        exact ⟨n, mergeT kvs, rfl, ⟨o, Az0H⟩, m.1, m.2⟩
      · exact q.elim
    · exact q.elim) hm (by decide +kernel) ha.h hg (by decide) (by decide) he hpl⟩
end
end L3
namespace L3
open PySem PySem.Spec PyProof.Rows L2 SeqAt
section
variable {X : Cx} {xw : XW} {a b e : Expr} {pos : Pos} {fa f : DSt → Res D} {fq : DSt → Res (List (Key × D))}
theorem Bz1Z {kvs : List (Key × V)} {vs : List (Key × Value)} (r : KV kvs vs) (k : Key) : (valueAt vs k).isSome = (tGet kvs k).isSome := by
  cases h : tGet kvs k with
  | none => rw [(kv_get r k).2 h]; rfl
  | some v => obtain ⟨u, e, _⟩ := (kv_get r k).1 v h; rw [e]; rfl
theorem op_inQ : OpR X (compareOp .In) (fun y x H Q => ∃ ad kvs k, x = .ref ad ∧ Rd H ad (.dK kvs) ∧ y = kV k ∧ Q (.bl (tGet kvs k).isSome) H) := by
  intro pins s σ H y x u v Q I ry rx h
  obtain ⟨ad, kvs, k, rfl, hd, rfl, q⟩ := h
  cases rx
  obtain ⟨_, hS, vs, rel, dd⟩ := rd_dk I.hok hd
  refine wpAny_in_of (key_is ry) hS dd.mapOf ?_
  exact ⟨.bl (tGet kvs k).isSome, H, I.tok _, by rw [← Bz1Z rel k]; rfl, q⟩
theorem Cz1A : OpR X (compareOp .NotIn) (fun y x H Q => ∃ ad kvs k, x = .ref ad ∧ Rd H ad (.dK kvs) ∧ y = kV k ∧ Q (.bl (!(tGet kvs k).isSome)) H) := by
  intro pins s σ H y x u v Q I ry rx h
  obtain ⟨ad, kvs, k, rfl, hd, rfl, q⟩ := h
  cases rx
  obtain ⟨_, hS, vs, rel, dd⟩ := rd_dk I.hok hd
  refine wpAny_notIn_of (key_is ry) hS dd.mapOf ?_
  exact ⟨.bl (!(tGet kvs k).isSome), H, I.tok _, by rw [← Bz1Z rel k]; rfl, q⟩
noncomputable def inQR (d : D) (l : List (Key × D)) : Res D := match keyD d with
  | some k => .ok (.bl (tGet l k).isSome)
  | none => .stuck
noncomputable def ninQR (d : D) (l : List (Key × D)) : Res D := match keyD d with
  | some k => .ok (.bl (!(tGet l k).isSome))
  | none => .stuck
noncomputable def b2R (op : D → List (Key × D) → Res D) (f : DSt → Res D) (g : DSt → Res (List (Key × D))) : DSt → Res D := fun δ => (f δ).bind fun d => (g δ).bind fun l => op d l
theorem Bz3N {σ : L2.St} {H : Hp} {W₀ W : WS} {H₀ : Hp} {δ : DSt} {op : D → List (Key × D) → Res D} {Q : VK} {R : V → V → Hp → Prop} (st : StHas X.K W₀ H₀ W H σ δ) (q : RE X.K xw W H (b2R op fa fq δ) Q)
    (h : ∀ H2 d l v ad kvs, Same H H2 → HasT X.K W H2 d v → Rd H2 ad (.dK kvs) → HasP X.K W H2 l kvs → RE X.K xw W H2 (op d l) Q → R v (.ref ad) H2) :
    tDP X.K xw fa σ H fun x H1 => tDQ X.K xw fq σ H1 fun y H2 => R x y H2 := by
  refine ⟨W₀, H₀, W, δ, st, ?_⟩
  unfold b2R at q
  cases h1 : fa δ with
  | stuck => rw [h1] at q; exact q
  | ex c fs => rw [h1] at q; exact q
  | ok d =>
    rw [h1] at q
    intro v H1 k1 hv
    refine ⟨W₀, H₀, W, δ, st.same k1, ?_⟩
    have q' : RE X.K xw W H ((fq δ).bind fun l => op d l) Q := q
    cases h2 : fq δ with
    | stuck => rw [h2] at q'; exact q'
    | ex c fs => rw [h2] at q'; exact fun H2 k2 => q' H2 (k1.trans k2)
    | ok l =>
      rw [h2] at q'
      intro ad kvs H2 k2 hd hp
      exact h H2 d l v ad kvs (k1.trans k2) (hv.same k2 (st.fr.wl.same k1)) hd hp (RE.same q' (k1.trans k2))
theorem Az9O {K : PySem.W.Frag} {W : WS} {H : Hp} {l : List (Key × D)} {kvs : List (Key × V)} (h : HasP K W H l kvs) (k : Key) : (tGet kvs k).isSome = (tGet l k).isSome := by
  rw [← Az4U, ← Az4U, h.has k]
theorem Cz2A {H : Hp} {W : WS} {d : D} {l : List (Key × D)} {v : V} {ad : Addr} {kvs : List (Key × V)} {Q : VK} (hv : HasT X.K W H d v) (hd : Rd H ad (.dK kvs)) (hp : HasP X.K W H l kvs) (q : RE X.K xw W H (inQR d l) Q) :
    ∃ ad' kvs' k, V.ref ad = .ref ad' ∧ Rd H ad' (.dK kvs') ∧ v = kV k ∧ Q (.bl (tGet kvs' k).isSome) H := by
  unfold inQR at q
  split at q
  · rename_i k hk
    exact ⟨ad, kvs, k, rfl, hd, Az5A hv hk, by rw [Az9O hp k]; exact q.bl⟩
  · exact q.elim
theorem Bz8E {H : Hp} {W : WS} {d : D} {l : List (Key × D)} {v : V} {ad : Addr} {kvs : List (Key × V)} {Q : VK} (hv : HasT X.K W H d v) (hd : Rd H ad (.dK kvs)) (hp : HasP X.K W H l kvs) (q : RE X.K xw W H (ninQR d l) Q) :
    ∃ ad' kvs' k, V.ref ad = .ref ad' ∧ Rd H ad' (.dK kvs') ∧ v = kV k ∧ Q (.bl (!(tGet kvs' k).isSome)) H := by
  unfold ninQR at q
  split at q
  · rename_i k hk
    exact ⟨ad, kvs, k, rfl, hd, Az5A hv hk, by rw [Az9O hp k]; exact q.bl⟩
  · exact q.elim
theorem y_inQ (ha : XP X xw a fa) (hb : XQ X xw b fq) (hm : autoParam (behindInMarks .In b = false) slim0._auto_1) : XT X xw (.Compare a [.In] [b] pos) (tR (b2R inQR fa fq)) :=
  ⟨DE.t_of (f := b2R inQR fa fq) (PT.weak (Az7R op_inQ ha.h hb.h hm) fun σ H Q ⟨W₀, H₀, W, δ, st, q⟩ => Bz3N st q fun H2 d l v ad kvs k hv hd hp q2 => Cz2A hv hd hp q2)⟩
theorem y_ninQ (ha : XP X xw a fa) (hb : XQ X xw b fq) (hm : autoParam (behindInMarks .NotIn b = false) slim0._auto_1) : XT X xw (.Compare a [.NotIn] [b] pos) (tR (b2R ninQR fa fq)) :=
  ⟨DE.t_of (f := b2R ninQR fa fq) (PT.weak (Az7R Cz1A ha.h hb.h hm) fun σ H Q ⟨W₀, H₀, W, δ, st, q⟩ => Bz3N st q fun H2 d l v ad kvs k hv hd hp q2 => Bz8E hv hd hp q2)⟩
end
end L3
namespace L3
open PySem PySem.Spec PyProof.Rows L2 SeqAt
structure FunD (K : PySem.W.Frag) (x qual : Str) (st : Stmt) (f : Addr) (fd : FuncData) (dV : Value) : Prop where
  ex : ∃ (oc : Value) (od : Option Addr) (kV doc pm : Value) (an : Option Addr) (cdv ct : Value) (osl : Array (Option Value)),
    fd = PySem.W.fnOf x qual (Az0M st) (Az0J st) (Az0A st) dV kV doc pm an cdv ct ∧ K.lookup f = some ⟨oc, od, .func fd, osl⟩ ∧ PySem.W.codeIn K cdv qual = true
  kp : PySem.W.keepIn K (.ref f) = true
section
variable {P : Program} {w : World} {K : PySem.W.Frag} {mg : Str → Option Value} {base : Heap}
theorem FunD.ok {x qual : Str} {st : Stmt} {f : Addr} {fd : FuncData} {dV : Value} {N ps : List Str} {k : Nat} {sp : Sp} (F : FunD K x qual st f fd dV) (S : FnScope N ps (Az0A st)) (len : ∀ vs H Q E, sp vs H Q E → vs.length = ps.length)
    (hbody : ∀ (cdv : Value) (A : Around) (outer : List Env) (s : Shared) (H : Hp) (vs : List V) (Q : VK) (E : XK), Room k (A.deeper (envOfC qual (Az0A st) s.heap.objs.size f cdv)) → sp vs H Q E →
      ∃ t, PSs (cxOf CX0 P w K mg base N qual (Az0A st) f cdv A outer s H E).nox (Az0J st) t ∧ t { nx := fun _ H' => Q .non H', rt := Q } (start N vs) H) : FnOk P w K mg base CX0 (k + 1) f fd ps sp := by
  obtain ⟨oc, od, kV, doc, pm, an, cdv, ct, osl, rfl, lk, hcd⟩ := F.ex
  refine fn_of lk hcd S len fun A outer s H vs Q E hr hsp => ?_
  obtain ⟨t, h, q⟩ := hbody cdv A outer s H vs Q E hr hsp
  exact ⟨t, h.nox, q⟩
theorem FunD.binds {x qual : Str} {st : Stmt} {f : Addr} {fd : FuncData} {dV : Value} {ps : List Str} (F : FunD K x qual st f fd dV)
    (h : ∀ (kV doc pm : Value) (an : Option Addr) (cdv ct : Value) (us : List Value), us.length = ps.length → bindArgs (PySem.W.fnOf x qual (Az0M st) (Az0J st) (Az0A st) dV kV doc pm an cdv ct) ⟨us, []⟩ = pure (ps.zip us)) : Binds K fd ps [] := by
  obtain ⟨oc, od, kV, doc, pm, an, cdv, ct, osl, rfl, lk, hcd⟩ := F.ex
  exact .all (h kV doc pm an cdv ct)
end
end L3
namespace L3
open PySem PySem.Spec PyProof.Rows L2 SeqAt
section
variable {X : Cx} {xw : XW} {a b : Expr} {fa fb : DSt → Res D} {pos p : Pos}
end
structure FnL (P : Program) (w : World) (K : PySem.W.Frag) (mg : Str → Option Value) (base : Heap) (k : Nat) (x : Str) (n : Nat) (m : List D → Res D) (i : Int) : Prop where
  ex : ∃ (fa : Addr) (fd : FuncData) (ps : List Str) (v0 : Value), FnOk P w K mg base CX0 k fa fd ps (spD K n m) ∧ mg x = some (.ref fa) ∧ PySem.W.keepIn K (.ref fa) = true ∧ Binds K fd ps [v0] ∧ RelV (.int i) v0
theorem FnL.mono {P : Program} {w : World} {K : PySem.W.Frag} {mg : Str → Option Value} {base : Heap} {j k n : Nat} {x : Str} {m : List D → Res D} {i : Int} (F : FnL P w K mg base j x n m i) (h : j ≤ k) : FnL P w K mg base k x n m i :=
  let ⟨fa, fd, ps, v0, G, hm, hk, hb, hv⟩ := F.ex
  ⟨fa, fd, ps, v0, G.mono h, hm, hk, hb, hv⟩
end L3
namespace L3
open PySem PySem.Spec PyProof.Rows L2 SeqAt
structure Fly (P : Program) (w : World) (l : List Env) (H : Hp) (s : Shared) (H' : Hp) (a : Addr) (cls : Value) (h : Heap) : Prop where
  un : Un (frs l) [] H H' s.heap h
  hok : HOk P w H' h
  frf : ∀ b ∈ frs l, H' b = none
  new : s.heap.get? a = none
  nh : H' a = none
  fl : ∃ B a0, Heap.FlyingW B l a cls a0 h ∧ ∀ b, b ∉ frs l → ((H' b).isSome = true ∨ (s.heap.get? b).isSome = true) → (B.get? b).isSome = true
section
variable {P : Program} {w : World} {l : List Env} {H H' : Hp} {s : Shared} {a : Addr} {cls a0 : Value} {h h' B : Heap}
theorem Az7G (cov : ∀ b, b ∉ frs l → ((H' b).isSome = true ∨ (s.heap.get? b).isSome = true) → (B.get? b).isSome = true) (s1 : B.StaysIn h) (s2 : B.StaysIn h') {b : Addr} (hb : b ∉ frs l)
    (q : (H' b).isSome = true ∨ (s.heap.get? b).isSome = true) : h'.get? b = h.get? b := by
  obtain ⟨o, e⟩ := Option.isSome_iff_exists.mp (cov b hb q)
  rw [s1 b o e, s2 b o e]
theorem Bz0I (f : Heap.FlyingW B l a cls a0 h) (up : h.UpToSlots h') {b : Addr} (hb : b ∈ frs l) {o : Obj} (e : h.get? b = some o) : ∃ sl, h'.get? b = some { o with slots := sl } := by
  obtain ⟨_, o', e', nf⟩ := f.2.2.1.mem hb
  rw [e] at e'
  cases e'
  exact up b o e nf
theorem fly_un (un : Un (frs l) [] H H' s.heap h) (cov : ∀ b, b ∉ frs l → ((H' b).isSome = true ∨ (s.heap.get? b).isSome = true) → (B.get? b).isSome = true) (f : Heap.FlyingW B l a cls a0 h) (s2 : B.StaysIn h') (up : h.UpToSlots h') : Un (frs l) [] H H' s.heap h' where
  keep := fun b o e n hb hx => (Az7G cov f.1 s2 hb (.inr (by rw [e]; rfl))).trans (un.keep b o e n hb hx)
  slot := fun b o e n hb hx => by
    obtain ⟨sl, e1⟩ := un.slot b o e n hb hx
    obtain ⟨sl', e2⟩ := Bz0I f up hb e1
    exact ⟨sl', e2⟩
  free := un.free
  there := fun b o e hx => by
    obtain ⟨o', e1⟩ := un.there b o e hx
    by_cases hb : b ∈ frs l
    · obtain ⟨sl, e2⟩ := Bz0I f up hb e1
      exact ⟨_, e2⟩
    · exact ⟨o', (Az7G cov f.1 s2 hb (.inr (by rw [e]; rfl))).trans e1⟩
  tups := un.tups
  frzs := un.frzs
  tbls := un.tbls
theorem Cz2G (hok : HOk P w H' h) (frf : ∀ b ∈ frs l, H' b = none) (cov : ∀ b, b ∉ frs l → ((H' b).isSome = true ∨ (s.heap.get? b).isSome = true) → (B.get? b).isSome = true) (s1 : B.StaysIn h) (s2 : B.StaysIn h') : HOk P w H' h' := fun b u e => by
  have tr : ∀ c v, H' c = some v → c ∉ frs l := fun c v q z => by rw [frf c z] at q; cases q
  refine (hok b u e).stay (fun c v hc q => ?_) (fun _ q => q) fun _ _ q => q
  rcases hc with rfl | hc
  · exact (Az7G cov s1 s2 (tr c u e) (.inl (by rw [e]; rfl))).trans q
  · exact (Az7G cov s1 s2 (tr c _ hc) (.inl (by rw [hc]; rfl))).trans q
end
noncomputable def CXD (P : Program) (w : World) : CXT := fun l H s E e s' => ∃ a cls H', e = .ref a ∧ s'.os = s.os ∧ AllBare s'.gens ∧ Fly P w l H s H' a cls s'.heap ∧ E cls none H'
section
variable {X : Cx} {pins : List (Addr × Obj)} {σ : L2.St} {H H' : Hp} {s s' : Shared} {a : Addr} {cls : Value} {M : Model} {Ex : Value → Shared → Prop}
theorem Bz0C (I : Inv X pins σ H s) (os : s'.os = s.os) (bare : AllBare s'.gens) (x : Fly X.prog X.w X.stack H s H' a cls s'.heap) : Inv X pins σ H' s' :=
  I.call' (ch := []) os x.un x.hok bare fun b z => absurd z (by simp)
end
end L3
namespace L3
open PySem PySem.Spec PyProof.Rows L2 SeqAt
noncomputable def spX (K : PySem.W.Frag) (n : Nat) (m : List D → Res D) : Sp := fun vs H Q E => vs.length = n ∧ ∃ W ds, WL W H ∧ HasL K W H ds vs ∧ match m ds with
  | .ok d => ∀ v H', Same H H' → Has K W H' d v → Q v H'
  | .ex c _ => ∀ cls H', PySem.W.nsIn K mainGlobals c = some (some cls) → Same H H' → E cls none H'
  | .stuck => False
structure FnX (P : Program) (w : World) (K : PySem.W.Frag) (mg : Str → Option Value) (base : Heap) (k : Nat) (x : Str) (n : Nat) (m : List D → Res D) : Prop where
  ex : ∃ f fd ps, FnOk P w K mg base (CXD P w) k f fd ps (spX K n m) ∧ mg x = some (.ref f) ∧ PySem.W.keepIn K (.ref f) = true ∧ Binds K fd ps []
theorem FnX.mono {P : Program} {w : World} {K : PySem.W.Frag} {mg : Str → Option Value} {base : Heap} {j k n : Nat} {x : Str} {m : List D → Res D} (F : FnX P w K mg base j x n m) (h : j ≤ k) : FnX P w K mg base k x n m := by
  obtain ⟨f, fd, ps, a, b⟩ := F.ex
  exact ⟨f, fd, ps, a.mono h, b⟩
structure FnXL (P : Program) (w : World) (K : PySem.W.Frag) (mg : Str → Option Value) (base : Heap) (k : Nat) (x : Str) (n : Nat) (m : List D → Res D) (i : Int) : Prop where
  ex : ∃ (fa : Addr) (fd : FuncData) (ps : List Str) (v0 : Value), FnOk P w K mg base (CXD P w) k fa fd ps (spX K n m) ∧ mg x = some (.ref fa) ∧ PySem.W.keepIn K (.ref fa) = true ∧ Binds K fd ps [v0] ∧ RelV (.int i) v0
theorem FnXL.mono {P : Program} {w : World} {K : PySem.W.Frag} {mg : Str → Option Value} {base : Heap} {j k n : Nat} {x : Str} {m : List D → Res D} {i : Int} (F : FnXL P w K mg base j x n m i) (h : j ≤ k) : FnXL P w K mg base k x n m i :=
  let ⟨fa, fd, ps, v0, G, hm, hk, hb, hv⟩ := F.ex
  ⟨fa, fd, ps, v0, G.mono h, hm, hk, hb, hv⟩
section
variable {P : Program} {w : World} {K : PySem.W.Frag} {mg : Str → Option Value} {base : Heap}
end
section
variable {X : Cx} {xw : XW} {e a : Expr} {es : List Expr} {f : DSt → Res D} {ga : DSt → Res Bool} {fs : DSt → Res (List D)} {pos p : Pos} {st : Stmt} {sts : List Stmt} {g : DSt → Out}
theorem PS.nox {st : Stmt} {t : TS} (h : PS X.nox st t) : PS X st t := fun pins s σ H D I hw =>
  wpAny_mono (h pins s σ H D (I.wish _) hw) (fun _ _ q => q.unwish) fun _ _ z => False.elim z
theorem PA.nox {t : TA} (h : PA X.nox es t) : PA X es t := fun ps pins s σ H Q I hw =>
  wpAny_mono (h ps pins s σ H Q (I.wish _) hw) (fun _ _ ⟨v, H', I', r, q⟩ => ⟨v, H', I'.unwish, r, q⟩) fun _ _ z => False.elim z
noncomputable def callX (n : Nat) (m : List D → Res D) (ds : List D) : Res D := if ds.length = n then m ds else .stuck
end
noncomputable abbrev bmV : List Value := [.type "ValueError", .type "Exception", .type "BaseException", .type "object"]
structure ClsX (K : PySem.W.Frag) (c : Str) : Prop where
  ex : ∃ C, PySem.W.nsIn K mainGlobals c = some (some (.ref C)) ∧ PySem.W.excIn K C bmV "ValueError.__new__" = true
section
variable {X : Cx} {xw : XW} {a : Expr} {es : List Expr} {fs : DSt → Res (List D)} {pos np cpos : Pos} {c : Str}
end
end L3
namespace L3
open PySem PySem.Spec PyProof.Rows L2 SeqAt
noncomputable abbrev markX (X : Cx) (a : Addr) : Cx := { X with A := X.A.mark (some (.ref a)), calm := false, xe := fun _ _ => False }
noncomputable abbrev tryX (X : Cx) (pins : List (Addr × Obj)) (E : Value → Shared → Prop) : Cx := { X with pn := X.pn ++ pins, xe := E }
section
variable {X : Cx} {pins : List (Addr × Obj)} {σ : L2.St} {H H' : Hp} {s s' : Shared} {a : Addr} {cls : Value} {Ex : Value → Shared → Prop}
theorem Cz1G (ok : X.Ok) (a : Addr) : (markX X a).Ok :=
  ⟨ok.mod, ok.kind, ok.glob, ok.blt, ok.above, ok.inj, ok.has, ok.cab, fun z => absurd (show false = true from z) (by decide), ok.frames, ok.stk, ok.exf, ok.bs, ok.bsz, ok.noex, ok.exfs, ok.funs, ok.frf⟩
theorem Bz3J (I : Inv X pins σ H s) (a : Addr) : Inv (markX X a) pins σ H s := ⟨Cz1G I.ok a, I.os, I.bare, I.base, I.loc, I.cell, I.free, I.freeC, I.pin, I.hok, I.len⟩
theorem Az4P (ok : X.Ok) (I : Inv (markX X a) pins σ H s) : Inv X pins σ H s := ⟨ok, I.os, I.bare, I.base, I.loc, I.cell, I.free, I.freeC, I.pin, I.hok, I.len⟩
theorem ok_try (ok : X.Ok) : (tryX X pins Ex).Ok :=
  ⟨ok.mod, ok.kind, ok.glob, ok.blt, ok.above, ok.inj, ok.has, ok.cab, ok.hd, ok.frames, ok.stk, ok.exf, ok.bs, ok.bsz, ok.noex, ok.exfs, ok.funs, ok.frf⟩
theorem Cz1Y (I : Inv X pins σ H s) : Inv (tryX X pins Ex) [] σ H s := ⟨ok_try I.ok, I.os, I.bare, I.base, I.loc, I.cell, I.free, I.freeC, fun p hp => I.pin p (by simpa using hp), I.hok, I.len⟩
theorem Az4O {more : List (Addr × Obj)} (ok : X.Ok) (I : Inv (tryX X pins Ex) more σ H s) : Inv X pins σ H s := ⟨ok, I.os, I.bare, I.base, I.loc, I.cell, I.free, I.freeC, fun p hp => I.pin p (List.mem_append_left _ hp), I.hok, I.len⟩
theorem Bz5X {φ : Heap → Prop} (I : Inv X pins σ H s) (I' : Inv X pins σ H' s') (hex : X.ex = []) (new : s.heap.get? a = none) (nh : H' a = none) (x : ObjOk X.prog X.w (upd H' a (.ext φ)) s'.heap a (.ext φ)) : Inv X pins σ (upd H' a (.ext φ)) s' := by
  have ne : ∀ b o, s.heap.get? b = some o → b ≠ a := fun b o e z => by rw [z, new] at e; cases e
  have ne0 : ∀ b o, X.s₀.heap.get? b = some o → b ≠ a := fun b o e => by
    obtain ⟨o', e'⟩ := I.base.there b o e (by rw [hex]; simp)
    exact ne b o' e'
  have up : ∀ b o, H' b = some o → upd H' a (.ext φ) b = some o := fun b o e => by rw [upd_ne (Az0D e nh)]; exact e
  refine ⟨I'.ok, I'.os, I'.bare, ⟨I'.base.keep, I'.base.slot, fun b o e n hx => ?_, I'.base.there, fun b xs e => up _ _ (I'.base.tups b xs e), fun b o u e => up _ _ (I'.base.frzs b o u e), fun b ps e => ?_⟩, I'.loc, I'.cell, ?_, fun y c e => ?_, fun p hp => ?_, fun b u e => ?_, I'.len⟩
  · rw [upd_ne (ne0 b o e)]; exact I'.base.free b o e n hx
  · obtain ⟨m, e1⟩ := I'.base.tbls b ps e
    exact ⟨m, up _ _ e1⟩
  · obtain ⟨m, ⟨o, _, _, ho, _⟩, _⟩ := I.loc
    rw [upd_ne (ne _ o ho)]; exact I'.free
  · obtain ⟨v, o, ho, _⟩ := I.cell y c e
    rw [upd_ne (ne c o ho)]; exact I'.freeC y c e
  · obtain ⟨e, n, r⟩ := I'.pin p hp
    refine ⟨e, ?_, r⟩
    rw [upd_ne (ne p.1 _ (I.pin p hp).1)]; exact n
  · by_cases hb : b = a
    · subst hb
      rw [Az0H] at e
      cases e
      exact x
    · rw [upd_ne hb] at e
      exact (I'.hok b u e).stay (fun _ _ _ q => q) (fun c q => up _ _ q) fun c xs q => up _ _ q
theorem Bz5W {i : Nat} {n : Str} {h' : Heap} {t : Nat} {v : Option Value} {m : Str → Option Value} (I : Inv X pins σ H s) (hN : X.N.Nodup) (hi : X.N[i]? = some n)
    (hm : s.heap.Ns X.env.locals m) (hl : ∀ (j : Nat) (x : Str) (w : V), X.N[j]? = some x → σ[j]? = some (some w) → Vis X.env.scope x → ∃ u, RelV w u ∧ Look X.env s.heap m x u)
    (hn : h'.Ns X.env.locals (fun x => if x = n then v else m x)) (hs : Heap.SameBut X.env.locals s.heap h') : Inv X pins (σ.set i none) H { s with heap := h', toks := t } := by
  obtain ⟨oL, _, _, hoL, _⟩ := id hm
  have cne := I.cne
  refine ⟨I.ok, I.os, I.bare, ⟨fun b o e n hb hx => ?_, fun b o e n hb hx => ?_, I.base.free, fun b o e hx => ?_, I.base.tups, I.base.frzs, I.base.tbls⟩, ⟨_, hn, fun j y w e1 e2 e3 => ?_⟩, fun y c e => ?_, I.free, I.freeC, fun p hp => ?_, fun b u e => ?_, by simpa using I.len⟩
  · exact (hs.2 b (Nat.ne_of_lt (Nat.lt_of_lt_of_le (Heap.lt_size e) I.ok.above))).trans (I.base.keep b o e n hb hx)
  · obtain ⟨sl, e1⟩ := I.base.slot b o e n hb hx
    exact ⟨sl, (hs.2 b (Nat.ne_of_lt (Nat.lt_of_lt_of_le (Heap.lt_size e) I.ok.above))).trans e1⟩
  · obtain ⟨o', e1⟩ := I.base.there b o e hx
    exact ⟨o', (hs.2 b (Nat.ne_of_lt (Nat.lt_of_lt_of_le (Heap.lt_size e) I.ok.above))).trans e1⟩
  · have hj : j ≠ i := by
      rintro rfl
      rw [List.getElem?_set_self'] at e2
      cases q : σ[j]? with
      | none => rw [q] at e2; cases e2
      | some z => rw [q] at e2; cases e2
    rw [List.getElem?_set_ne (Ne.symm hj)] at e2
    obtain ⟨u, r, q⟩ := hl j y w e1 e2 e3
    refine ⟨u, r, ?_⟩
    rcases q with ⟨k, e⟩ | ⟨k, c, e, z⟩
    · have : y ≠ n := fun e => hj (Az9E hN e1 (e ▸ hi))
      exact .inl ⟨k, by simp [this, e]⟩
    · exact .inr ⟨k, c, e, z.sameBut hs (cne y c e)⟩
  · obtain ⟨w, z⟩ := I.cell y c e
    exact ⟨w, z.sameBut hs (cne y c e)⟩
  · obtain ⟨e, n, ne, nf, d⟩ := I.pin p hp
    exact ⟨(hs.2 p.1 ne).trans e, n, ne, nf, d⟩
  · refine (I.hok b u e).stay (fun c w' hc q => (hs.2 c ?_).trans q) (fun _ q => q) fun _ _ q => q
    rintro rfl
    rcases hc with rfl | hc
    · rw [I.free] at e; cases e
    · rw [I.free] at hc; cases hc
theorem Bz0E {A : Around} {M : Model} {i : Nat} {n : Str} {pos : Pos} {Q : Unit → Shared → Prop} (I : Inv X pins σ H s) (hN : X.N.Nodup) (hi : X.N[i]? = some n) (hk : X.env.kindOf n = some .local)
    (h : ∀ s', Inv X pins (σ.set i none) H s' → Q () s') : wpAny M A (do bindName X.env n .none; unbindBehindTheSuite X.env n pos) Q Ex s := by
  obtain ⟨m, hm, hl⟩ := id I.loc
  have hp : (X.env.scope.kind == .class || (X.env.scope.kind == .module && X.env.locals != X.env.globals)) = false := by rw [I.ok.kind]; rfl
  exact wpAny_nameGoes_keeps hk hm hp fun h' v hn hs => h _ (Bz5W I hN hi hm hl hn hs)
end
structure MatchX (K : PySem.W.Frag) (C c : Str) : Prop where
  ex : ∃ vc vC, PySem.W.nsIn K mainGlobals c = some (some vc) ∧ PySem.W.nsIn K mainGlobals C = some (some vC) ∧ PySem.W.exmOne K vc vC = some true
section
variable {X : Cx} {pins : List (Addr × Obj)} {σ : L2.St} {H H' : Hp} {s s' : Shared} {a : Addr} {cls vC : Value} {Ex : Value → Shared → Prop} {C n : Str} {np pos : Pos} {b₀ : Stmt} {suite : List Stmt} {rest : List ExceptHandler} {Q : Flow → Shared → Prop}
theorem Bz1U {R : Result → Shared → Prop} (I : Inv X pins σ H s) (hst : X.stack = X.env :: X.outer) (hfr : X.env.frame = some X.env.locals) (os : s'.os = s.os) (bare : AllBare s'.gens) (x : Fly X.prog X.w X.stack H s H' a cls s'.heap)
    (hC : Gl X C) (hm : PySem.W.nsIn X.K mainGlobals C = some (some vC)) (he : PySem.W.exmOne X.K cls vC = some true) (hdb : (C == ("__debug__" : Str)) = false)
    (k : ∀ h', Fly X.prog X.w X.stack H s H' a cls h' → R (.ok .brk) { s' with heap := h' }) :
    codeAny (model X.prog X.w) (X.A.mark (some (.ref a))) (.handlers (.ref a) [.ExceptHandler (some (.Name C np)) none [] pos] X.env) R s' := by
  have I' := Bz3J (Bz0C I os bare x) a
  refine codeAny_handlers_test (Az9Y I' hC (PySem.W.mg_of I.ok.mod.kin I.ok.mod.glob hm) ?_ hdb)
  obtain ⟨B, a0, f, cov⟩ := x.fl
  obtain ⟨ob, hob, hc⟩ := f.there
  have LT : PySem.W.Looks (model X.prog X.w) s'.heap (typeOf (.ref a)) cls := by
    subst hc
    exact (PySem.W.Looks.ld hob).andThen .now
  exact (PySem.W.exm_one I'.kIn LT he).here (k s'.heap x)
theorem Bz3W {h' : Heap} {B : Heap} {a0 : Value} (x : Fly X.prog X.w X.stack H s H' a cls s'.heap) (f : Heap.FlyingW B X.stack a cls a0 s'.heap) (cov : ∀ b, b ∉ frs X.stack → ((H' b).isSome = true ∨ (s.heap.get? b).isSome = true) → (B.get? b).isSome = true)
    (f' : Heap.FlyingW B X.stack a cls a0 h') (up : s'.heap.UpToSlots h') : Fly X.prog X.w X.stack H s H' a cls h' :=
  ⟨fly_un x.un cov f f'.1 up, Cz2G x.hok x.frf cov f.1 f'.1, x.frf, x.new, x.nh, B, a0, f', cov⟩
theorem Bz1V {hs : List ExceptHandler} (I : Inv X pins σ H s) (hst : X.stack = X.env :: X.outer) (hfr : X.env.frame = some X.env.locals) (x : Fly X.prog X.w X.stack H s H' a cls s'.heap)
    (k : ∀ h', Fly X.prog X.w X.stack H s H' a cls h' → wpAny (model X.prog X.w) X.A (handleBy (.ref a) X.env hs) Q Ex { s' with heap := h' }) :
    wpAny (model X.prog X.w) X.A (noteFrame (.ref a) X.env) (fun _ s₂ => wpAny (model X.prog X.w) X.A (setFlight (.ref a) none) (fun _ s₃ => wpAny (model X.prog X.w) X.A (handleBy (.ref a) X.env hs) Q Ex s₃) Ex s₂) Ex s' := by
  obtain ⟨B, a0, f, cov⟩ := x.fl
  have f2 : Heap.FlyingW B (X.env :: X.outer) a cls a0 s'.heap := by rw [← hst]; exact f
  refine wpAny_looks_onW (by rw [← hst]; exact I.ok.frames) hfr f2 fun h₄ held up₄ => ?_
  refine wpAny_landsW held fun h₅ f₅ up₅ => k h₅ (Bz3W x f cov (by rw [hst]; exact f₅) (up₄.trans up₅))
theorem exc_ok {P : Program} {w : World} {H : Hp} {h : Heap} (x : ExcAt a cls h) : ObjOk P w H h a (.ext (ExcAt a cls)) := by
  obtain ⟨o, vs, e, hc, hd⟩ := x
  exact ⟨⟨o, vs, e, hc, hd⟩, ⟨o, e⟩, fun h1 h2 ⟨o1, vs1, e1, hc1, hd1⟩ k => ⟨o1, vs1, k _ e1, hc1, hd1⟩⟩
theorem Cz2H {h : Heap} (x : Fly X.prog X.w X.stack H s H' a cls h) : ExcAt a cls h := by
  obtain ⟨B, a0, f, cov⟩ := x.fl
  obtain ⟨oe, vs, he, hc, hd, _⟩ := f.first
  exact ⟨oe, vs, he, hc, hd⟩
theorem Bz6I {i : Nat} {D : Ends} {t : TS} (I : Inv X pins σ H s) (hex : X.ex = []) (hst : X.stack = X.env :: X.outer) (hfr : X.env.frame = some X.env.locals) (os : s'.os = s.os) (bare : AllBare s'.gens) (x : Fly X.prog X.w X.stack H s H' a cls s'.heap)
    (hC : Gl X C) (hm : PySem.W.nsIn X.K mainGlobals C = some (some vC)) (he : PySem.W.exmOne X.K cls vC = some true) (hdb : (C == ("__debug__" : Str)) = false)
    (hN : X.N.Nodup) (hi : X.N[i]? = some n) (hk : X.env.kindOf n = some .local)
    (hsu : ∀ a, PSs (markX X a) (b₀ :: suite) t) (ht : t { nx := fun σ' H' => D.nx (σ'.set i none) H', rt := D.rt, bk := fun σ' H' => D.bk (σ'.set i none) H', ct := fun σ' H' => D.ct (σ'.set i none) H' } (σ.set i (some (.ref a))) (upd H' a (.ext (ExcAt a cls)))) :
    wpAny (model X.prog X.w) X.A (noteFrame (.ref a) X.env) (fun _ s₂ => wpAny (model X.prog X.w) X.A (setFlight (.ref a) none) (fun _ s₃ =>
      wpAny (model X.prog X.w) X.A (handleBy (.ref a) X.env (.ExceptHandler (some (.Name C np)) (some n) (b₀ :: suite) pos :: rest)) (SP X pins D) Ex s₃) Ex s₂) Ex s' := by
  refine Bz1V I hst hfr x fun h5 x5 => ?_
  refine wpAny_handleBy_cons (Bz1U (s' := { s' with heap := h5 }) I hst hfr os bare x5 hC hm he hdb fun h6 x6 => codeAny_handlers_suite_as ?_) (by intro q; cases q)
  obtain ⟨B, a0, f, cov⟩ := x6.fl
  refine lands_againW f fun h7 f7 up7 => ?_
  have x7 := Bz3W (s' := { s' with heap := h6 }) x6 f cov f7 up7
  have I7 : Inv X pins σ H' { s' with heap := h7 } := Bz0C (s' := { s' with heap := h7 }) I os bare x7
  have I8 := Bz5X I I7 hex x7.new x7.nh (exc_ok (Cz2H x7))
  have hloc : Loc X.env.scope n := .inl hk
  refine Az6W I8 hN hi hloc (v := .ref a) rfl (fun s8 I9 => ?_) (.inr hk)
  refine wpAny_mono (hsu a pins _ _ _ _ (Bz3J I9 a) ht) (fun fl s9 q => ?_) fun _ _ z => False.elim z
  cases fl with
  | next => obtain ⟨σ', H9, J, q⟩ := q; exact Bz0E (Az4P I.ok J) hN hi hk fun s10 K => ⟨_, H9, K, q⟩
  | brk => obtain ⟨σ', H9, J, q⟩ := q; exact Bz0E (Az4P I.ok J) hN hi hk fun s10 K => ⟨_, H9, K, q⟩
  | cont => obtain ⟨σ', H9, J, q⟩ := q; exact Bz0E (Az4P I.ok J) hN hi hk fun s10 K => ⟨_, H9, K, q⟩
  | ret u => obtain ⟨v, σ', H9, J, r, q⟩ := q; exact Bz0E (Az4P I.ok J) hN hi hk fun s10 K => ⟨v, _, H9, K, r, q⟩
end
end L3
namespace L3
open PySem PySem.Spec PyProof.Rows L2 SeqAt
section
variable {X : Cx} {CX : CXT} {k : Nat} {f : Addr} {fd : FuncData} {ps : List Str} {sp : Sp} {dvs : List V} {ds : List Value} {E : L2.St → XK} {x : Str} {p pos : Pos} {e : Expr} {es : List Expr} {t : TA}
theorem Bz8A (F : FnOk X.prog X.w X.K X.mg X.base CX k f fd ps sp) (hr : Room k X.A) (hg : Gl X x) (hm : X.mg x = some (.ref f)) (hk : PySem.W.keepIn X.K (.ref f) = true) (hb : Binds X.K fd ps ds) (hd : Vals dvs ds)
    (hx : ∀ (pins : List (Addr × Obj)) (σ : L2.St) (H : Hp) (s : Shared) (e : Value) (s' : Shared), Inv X pins σ H s → CX X.stack H s (E σ) e s' → X.xe e s')
    (ha : PA X (e :: es) t) (hdb : (x == ("__debug__" : Str)) = false) (he : starEach (e :: es) X.env = (false, eval e X.env) :: starEach es X.env) (hpl : (backTo pos (starEach es X.env)).any (·.1) = false) :
    PE X (.Call (.Name x p) (e :: es) [] pos) (fun σ H Q => t σ H fun vs H1 => sp (vs ++ dvs) H1 Q (E σ)) := by
  intro pins s σ H Q I h
  refine wpAny_Call_Name_kw (Az9Y I hg hm ?_ hdb)
  refine PySem.W.callWith_K (h₀ := X.base) I.ok.mod.kin hk (thn (ha pos pins s σ H _ I h) fun us s1 ⟨vs, H1, I1, r, q⟩ => ⟨I1.kIn, ?_⟩) he hpl
  have r2 : Vals (vs ++ dvs) (us ++ ds) := r.append hd
  have hl : (us ++ ds).length = ps.length := by rw [← r2.length]; exact F.len _ _ _ _ q
  refine wpAny_call (codeAny_mono (F.run X.A X.stack s1 H1 ⟨us, []⟩ (us ++ ds) (vs ++ dvs) Q (E σ) hr I1.env0 (hb s1 us I1.kIn hl) r2 q) fun r s' hq => ?_)
  cases r with
  | error e => exact hx pins σ H1 s1 e s' I1 hq
  | ok fl =>
    cases fl with
    | ret u => exact I1.after hq
    | next => exact False.elim hq
    | brk => exact False.elim hq
    | cont => exact False.elim hq
theorem pa_try {pins : List (Addr × Obj)} {Ex : Value → Shared → Prop} (h : PA X.nox es t) : PA (tryX X pins Ex) es t := fun q more s σ H Q I hw => by
  have ok : X.Ok := ⟨I.ok.mod, I.ok.kind, I.ok.glob, I.ok.blt, I.ok.above, I.ok.inj, I.ok.has, I.ok.cab, I.ok.hd, I.ok.frames, I.ok.stk, I.ok.exf, I.ok.bs, I.ok.bsz, I.ok.noex, I.ok.exfs, I.ok.funs, I.ok.frf⟩
  have I' : Inv X.nox (pins ++ more) σ H s := ⟨ok.wish _, I.os, I.bare, I.base, I.loc, I.cell, I.free, I.freeC, fun z hz => I.pin z (by show z ∈ (X.pn ++ pins) ++ more; rw [List.append_assoc]; exact hz), I.hok, I.len⟩
  refine wpAny_mono (h q _ s σ H Q I' hw) (fun us s1 ⟨v, H', J, r, z⟩ => ⟨v, H', ?_, r, z⟩) fun _ _ z => False.elim z
  exact ⟨I.ok, J.os, J.bare, J.base, J.loc, J.cell, J.free, J.freeC, fun z hz => J.pin z (by show z ∈ X.pn ++ (pins ++ more); rw [← List.append_assoc]; exact hz), J.hok, J.len⟩
end
structure KindX (X : Cx) (e : Expr) (st : Stmt) (gK : D → DSt → Out) : Prop where
  ex : ∃ cont : Ends → L2.St → VK, (∀ (pins : List (Addr × Obj)) (Ex : Value → Shared → Prop) (te : TE), PE (tryX X pins Ex) e te → PS (tryX X pins Ex) st (fun Dn σ H => te σ H (cont Dn σ))) ∧
    ∀ (xw : XW) (W₀ : WS) (H₀ : Hp) (W : WS) (H : Hp) (d : D) (v : V) (σ : L2.St) (δ : DSt) (Dn : Ends), StHas X.K W₀ H₀ W H σ δ → Has X.K W H d v → RS X.K xw W₀ H₀ W H (gK d δ) Dn → cont Dn σ v H
section
variable {X : Cx} {e : Expr} {pos : Pos}
theorem kd_ret : KindX X e (.Return (some e) pos) (fun d _ => .rt d) :=
  ⟨fun Dn _ v H => Dn.rt v H, fun pins Ex te h => ps_ret h, fun xw W₀ H₀ W H d v σ δ Dn st hv q => q v H st.fr.ext (Has.keep (fun _ _ e _ => e) st.fr.wl (fun b z => .inl (st.fr.sub b z)) hv)⟩
end
noncomputable def unsetO (i : Nat) : Out → Out
  | .nx δ => .nx (δ.set i none)
  | .bk δ => .bk (δ.set i none)
  | .ct δ => .ct (δ.set i none)
  | .rt d => .rt d
  | _ => .stuck
noncomputable def sTry (cs : List Str) (f : DSt → Res D) (gK : D → DSt → Out) (go : DSt → Out) (gs : Str → DSt → Out) : DSt → Out := fun δ => match f δ with
  | .ok d => seqO (gK d δ) go
  | .ex c _ => if c ∈ cs then gs c δ else .stuck
  | .stuck => .stuck
theorem StHas.unset {K : PySem.W.Frag} {W₀ W : WS} {H₀ H : Hp} {σ : L2.St} {δ : DSt} (h : StHas K W₀ H₀ W H σ δ) (i : Nat) : StHas K W₀ H₀ W H (σ.set i none) (δ.set i none) := by
  have ne : ∀ (j : Nat) (t : S), (δ.set i none)[j]? = some (some t) → i ≠ j ∧ δ[j]? = some (some t) := fun j t e => by
    have hj : i ≠ j := by
      rintro rfl
      rw [List.getElem?_set_self'] at e
      cases q : δ[i]? with
      | none => rw [q] at e; cases e
      | some z => rw [q] at e; cases e
    rw [List.getElem?_set_ne hj] at e
    exact ⟨hj, e⟩
  refine ⟨h.fr, by simp [h.len], fun j s e => ?_, fun j l s1 s2 a hjl os ot e1 e2 e3 e4 => ?_⟩
  · obtain ⟨hj, e'⟩ := ne j s e
    rw [List.getElem?_set_ne hj]
    exact h.at' j s e'
  · obtain ⟨hj, g1⟩ := ne j s1 e1
    obtain ⟨hl, g2⟩ := ne l s2 e2
    rw [List.getElem?_set_ne hj] at e3
    rw [List.getElem?_set_ne hl] at e4
    exact h.ap j l s1 s2 a hjl os ot g1 g2 e3 e4
section
variable {X : Cx} {xw : XW} {a : Expr} {es : List Expr} {fs : DSt → Res (List D)} {p pos cpos hpos tpos np : Pos} {st b₀ : Stmt} {suite orelse : List Stmt} {k nn : Nat} {x C n : Str} {m : List D → Res D} {gK : D → DSt → Out} {go gsu : DSt → Out}
theorem Bz7K {hd : ExceptHandler} {fa : Addr} {fd : FuncData} {ps : List Str} {vs0 : List V} {ds0 : List Value} {d0 : List D} {gs : Str → DSt → Out} (cs : List Str) (G : FnOk X.prog X.w X.K X.mg X.base (CXD X.prog X.w) k fa fd ps (spX X.K nn m)) (hm : X.mg x = some (.ref fa)) (hk : PySem.W.keepIn X.K (.ref fa) = true) (hb : Binds X.K fd ps ds0) (hd0 : Vals vs0 ds0)
    (h0 : ∀ W H, HasL X.K W H d0 vs0) (hr : Room k X.A) (ha : XA X.nox xwF (a :: es) fs) (kd : KindX X (.Call (.Name x p) (a :: es) [] cpos) st gK) (hor : XSs X xw orelse go)
    (hcat : ∀ (pins : List (Addr × Obj)) (σ : L2.St) (H H0 H' : Hp) (s s' : Shared) (ar : Addr) (cls : Value) (c : Str) (W₀ : WS) (H₀ : Hp) (W : WS) (δ : DSt) (Dn : Ends), Inv X pins σ H s → s'.os = s.os → AllBare s'.gens → Fly X.prog X.w X.stack H s H' ar cls s'.heap →
      PySem.W.nsIn X.K mainGlobals c = some (some cls) → c ∈ cs → StHas X.K W₀ H₀ W H0 σ δ → Same H0 H' → RS X.K xw W₀ H₀ W H0 (gs c δ) Dn →
      wpAny (model X.prog X.w) X.A (noteFrame (.ref ar) X.env) (fun _ s₂ => wpAny (model X.prog X.w) X.A (setFlight (.ref ar) none) (fun _ s₃ =>
        wpAny (model X.prog X.w) X.A (handleBy (.ref ar) X.env [hd]) (SP X pins Dn) X.xe s₃) X.xe s₂) X.xe s')
    (hg : Gl X x) (hdb : (x == ("__debug__" : Str)) = false) (he : starEach (a :: es) X.env = (false, eval a X.env) :: starEach es X.env) (hpl : (backTo cpos (starEach es X.env)).any (·.1) = false) :
    XS X xw (.Try [st] [hd] orelse [] tpos) (sTry cs (fun δ => (noex (fs δ)).bind fun ds => callX nn m (ds ++ d0)) gK go gs) := ⟨by
  intro pins s σ H Dn I ⟨W₀, H₀, W, δ, sth, q⟩
  obtain ⟨cont, kp, kr⟩ := kd.ex
  refine wpAny_Try_except ?_
  generalize hEx : (fun (e : Value) (s₁ : Shared) => wpAny (model X.prog X.w) X.A (noteFrame e X.env) (fun _ s₂ => wpAny (model X.prog X.w) X.A (setFlight e none) (fun _ s₃ => wpAny (model X.prog X.w) X.A (handleBy e X.env [hd]) (SP X pins Dn) X.xe s₃) X.xe s₂) X.xe s₁) = Ex
  have D1nx : ∀ σ' H', tDS X.K xw go Dn σ' H' → ∀ s', Inv X pins σ' H' s' → wpAny (model X.prog X.w) X.A (execs orelse X.env) (SP X pins Dn) X.xe s' := fun σ' H' h s' J => hor.h pins s' σ' H' Dn J h
  have pe := Bz8A (X := tryX X pins Ex) (p := p) (pos := cpos) (E := fun σ' cls _ H' => σ' = σ ∧ Same H H' ∧ ∃ c fs', PySem.W.nsIn X.K mainGlobals c = some (some cls) ∧ ((noex (fs δ)).bind fun ds => callX nn m (ds ++ d0)) = .ex c fs') G hr hg hm hk hb hd0 (fun more σ' H1 s1 e s' J h => by
    obtain ⟨ar, cls, H', rfl, os, bare, fl, rfl, sm, c, fs', hn, hf⟩ := h
    have J' := Az4O I.ok J
    show Ex (.ref ar) s'
    subst hEx
    unfold sTry at q
    dsimp only at q
    rw [hf] at q
    have q' : RS X.K xw W₀ H₀ W H (if c ∈ cs then gs c δ else .stuck) Dn := q
    split at q'
    · rename_i hc
      exact hcat pins σ' H1 H H' s1 s' ar cls c W₀ H₀ W δ Dn J' os bare fl hn hc sth sm q'
    · exact q'.elim) (pa_try ha.h) hdb he hpl
  refine wpAny_mono (Bz6Q (kp pins Ex _ pe) [] s σ H { nx := tDS X.K xw go Dn, rt := Dn.rt, bk := Dn.bk, ct := Dn.ct } (Cz1Y I) ?_) (fun fl s1 h1 => ?_) fun e s1 h1 => h1
  · refine ⟨W₀, H₀, W, δ, sth, ?_⟩
    unfold sTry at q
    dsimp only at q
    cases hf : fs δ with
    | stuck => rw [hf] at q; exact q
    | ex c gs' => rw [hf] at q; exact False.elim q
    | ok ds =>
      rw [hf] at q
      intro vs H1 k1 hv
      have hv' : HasL X.K W H1 (ds ++ d0) (vs ++ vs0) := hv.append (h0 W H1)
      have q1 : RS X.K xw W₀ H₀ W H (match callX nn m (ds ++ d0) with | .ok d => seqO (gK d δ) go | .ex c _ => if c ∈ cs then gs c δ else .stuck | .stuck => .stuck) Dn := q
      have ec : ((noex (Res.ok ds)).bind fun ds => callX nn m (ds ++ d0)) = callX nn m (ds ++ d0) := rfl
      by_cases hl : (ds ++ d0).length = nn
      · have em : callX nn m (ds ++ d0) = m (ds ++ d0) := if_pos hl
        rw [em] at q1
        refine ⟨by rw [← hv'.length]; exact hl, W, ds ++ d0, sth.fr.wl.same k1, hv', ?_⟩
        cases h : m (ds ++ d0) with
        | ok d =>
          rw [h] at q1
          intro v H2 k2 hd2
          refine kr xw W₀ H₀ W H2 d v σ δ _ (sth.same (k1.trans k2)) hd2 ?_
          have q2 : RS X.K xw W₀ H₀ W H (seqO (gK d δ) go) Dn := q1
          have q3 := RS.step q2 (Step.same (W := W) (k1.trans k2))
          cases hgk : gK d δ with
          | nx δ' =>
            rw [hgk] at q3
            exact fun W' H' σ' kk st' => ⟨W₀, H₀, W', δ', st', RS.step (o := go δ') q3 kk⟩
          | bk δ' => rw [hgk] at q3; exact q3
          | ct δ' => rw [hgk] at q3; exact q3
          | rt d' => rw [hgk] at q3; exact q3
          | ex c' fs' => rw [hgk] at q3; exact q3
          | stuck => rw [hgk] at q3; exact q3
        | ex c fs' =>
          exact fun cls H2 hn k2 => ⟨rfl, k1.trans k2, c, fs', hn, by rw [ec, em, h]⟩
        | stuck => rw [h] at q1; exact q1
      · have em : callX nn m (ds ++ d0) = .stuck := if_neg hl
        rw [em] at q1
        exact q1.elim
  · cases fl with
    | next => obtain ⟨σ', H', J, z⟩ := h1; exact D1nx σ' H' z s1 (Az4O I.ok J)
    | brk => obtain ⟨σ', H', J, z⟩ := h1; exact ⟨σ', H', Az4O I.ok J, z⟩
    | cont => obtain ⟨σ', H', J, z⟩ := h1; exact ⟨σ', H', Az4O I.ok J, z⟩
    | ret u => obtain ⟨v, σ', H', J, r, z⟩ := h1; exact ⟨v, σ', H', Az4O I.ok J, r, z⟩⟩
end
end L3
namespace L3
open PySem PySem.Spec PyProof.Rows L2 SeqAt
noncomputable def tryF (fs : DSt → Res (List D)) (nn : Nat) (m : List D → Res D) (d0 : List D) : DSt → Res D := fun δ => (noex (fs δ)).bind fun ds => callX nn m (ds ++ d0)
noncomputable def gsAs (i : Nat) (gsu : DSt → Out) : Str → DSt → Out := fun c δ => unsetO i (gsu (δ.set i (some (.d (.exc c [])))))
section
variable {X : Cx} {xw : XW} {a : Expr} {es : List Expr} {fs : DSt → Res (List D)} {p pos cpos hpos tpos np : Pos} {st b₀ : Stmt} {suite orelse : List Stmt} {k nn : Nat} {x C n : Str} {m : List D → Res D} {gK : D → DSt → Out} {go gsu : DSt → Out}
theorem cat_as (i : Nat) (cs : List Str) (hcs : ∀ c ∈ cs, MatchX X.K C c) (hex : X.ex = []) (hst : X.stack = X.env :: X.outer) (hfr : X.env.frame = some X.env.locals) (hN : X.N.Nodup) (hi : X.N[i]? = some n) (hk : X.env.kindOf n = some .local) (hgC : Gl X C) (hdC : (C == ("__debug__" : Str)) = false)
    (hsu : ∀ a, XSs (markX X a) xwF (b₀ :: suite) gsu) (pins : List (Addr × Obj)) (σ : L2.St) (H H0 H' : Hp) (s s' : Shared) (ar : Addr) (cls : Value) (c : Str) (W₀ : WS) (H₀ : Hp) (W : WS) (δ : DSt) (Dn : Ends) (I : Inv X pins σ H s) (os : s'.os = s.os) (bare : AllBare s'.gens) (fl : Fly X.prog X.w X.stack H s H' ar cls s'.heap)
    (hn : PySem.W.nsIn X.K mainGlobals c = some (some cls)) (hc : c ∈ cs) (sth : StHas X.K W₀ H₀ W H0 σ δ) (sm : Same H0 H') (q : RS X.K xw W₀ H₀ W H0 (gsAs i gsu c δ) Dn) :
    wpAny (model X.prog X.w) X.A (noteFrame (.ref ar) X.env) (fun _ s₂ => wpAny (model X.prog X.w) X.A (setFlight (.ref ar) none) (fun _ s₃ =>
      wpAny (model X.prog X.w) X.A (handleBy (.ref ar) X.env [.ExceptHandler (some (.Name C np)) (some n) (b₀ :: suite) hpos]) (SP X pins Dn) X.xe s₃) X.xe s₂) X.xe s' := by
  obtain ⟨vc, vC, e1, e2, e3⟩ := (hcs c hc).ex
  rw [hn] at e1
  cases e1
  have k2 : Same H0 (upd H' ar (.ext (ExcAt ar cls))) := fun b o e => by rw [upd_ne (Az0D (sm b o e) fl.nh)]; exact sm b o e
  refine Bz6I (t := tDS X.K xwF gsu) I hex hst hfr os bare fl hgC e2 e3 hdC hN hi hk (fun a => (hsu a).h) ⟨W₀, H₀, W, δ.set i (some (.d (.exc c []))), (sth.same k2).set (x := .exc c []) (v := .ref ar) (by rw [Has]; exact ⟨rfl, ar, cls, rfl, hn, Az0H⟩), ?_⟩
  unfold gsAs at q
  cases hq : gsu (δ.set i (some (.d (.exc c [])))) with
  | nx δ' => rw [hq] at q; exact fun W' H2 σ2 stp st2 => q W' H2 _ ((Step.same k2).trans stp) (st2.unset i)
  | bk δ' => rw [hq] at q; exact fun W' H2 σ2 stp st2 => q W' H2 _ ((Step.same k2).trans stp) (st2.unset i)
  | ct δ' => rw [hq] at q; exact fun W' H2 σ2 stp st2 => q W' H2 _ ((Step.same k2).trans stp) (st2.unset i)
  | rt d => rw [hq] at q; exact q
  | ex c' fs' => rw [hq] at q; exact q.elim
  | stuck => rw [hq] at q; exact q.elim
theorem Cz0F (i : Nat) (cs : List Str) (F : FnX X.prog X.w X.K X.mg X.base k x nn m) (hcs : ∀ c ∈ cs, MatchX X.K C c) (hN : X.N.Nodup) (hr : Room k X.A) (ha : XA X.nox xwF (a :: es) fs) (kd : KindX X (.Call (.Name x p) (a :: es) [] cpos) st gK) (hor : XSs X xw orelse go)
    (hsu : ∀ a, XSs (markX X a) xwF (b₀ :: suite) gsu) (hi : autoParam (X.N[i]? = some n) slim0._auto_1) (hk : autoParam (X.env.kindOf n = some .local) slim0._auto_1) (hex : autoParam (X.ex = []) slim0._auto_1) (hst : autoParam (X.stack = X.env :: X.outer) slim0._auto_1) (hfr : autoParam (X.env.frame = some X.env.locals) slim0._auto_1)
    (hgC : autoParam (Gl X C) slim0._auto_1) (hdC : autoParam ((C == ("__debug__" : Str)) = false) slim1._auto_1) (hg : autoParam (Gl X x) slim0._auto_1) (hdb : autoParam ((x == ("__debug__" : Str)) = false) slim1._auto_1) (he : autoParam (starEach (a :: es) X.env = (false, eval a X.env) :: starEach es X.env) slim0._auto_1) (hpl : autoParam ((backTo cpos (starEach es X.env)).any (·.1) = false) slim0._auto_1) :
    XS X xw (.Try [st] [.ExceptHandler (some (.Name C np)) (some n) (b₀ :: suite) hpos] orelse [] tpos) (sTry cs (tryF fs nn m []) gK go (gsAs i gsu)) := by
  obtain ⟨fa, fd, ps, G, hm, hkp, hb⟩ := F.ex
  exact Bz7K cs G hm hkp hb .nil (fun W H => HasL.nil) hr ha kd hor (cat_as i cs hcs hex hst hfr hN hi hk hgC hdC hsu) hg hdb he hpl
end
end L3
namespace L3
open PySem PySem.Spec PySem.Calls PyProof.Rows PySem.W Builtin Builtin.ObjectAttr Builtin.Getset_descriptor
structure ExcK (K : Frag) (C : Addr) : Prop where
  ga : findIn K (.ref C) "__getattribute__" = some (some (.builtin "BaseException.__getattribute__"))
  gt : findIn K (.ref C) "__getattr__" = some none
  cl : findIn K (.ref C) "__class__" = some (some (.builtin "object.__class__"))
  ob : mroIn K C (.type "object") = some true
  be : mroIn K C (.type "BaseException") = some true
section
variable {prog : Program} {w : World} {A : Around} {E : Value → Shared → Prop} {h : Heap} {g : Array GenState} {d : Drawn} {t : Nat} {os : OsState} {K : Frag} {a C : Addr} {o : Obj}
end
end L3
namespace L3
open PySem PySem.Spec PyProof.Rows L2 SeqAt
section
variable {X : Cx} {xw : XW} {a : Expr} {es : List Expr} {fa : DSt → Res D} {fs : DSt → Res (List D)} {pos p p2 : Pos} {c : Str}
inductive IsC (K : PySem.W.Frag) (mg : Str → Option Value) : Str → V → Prop
  | own {c : Str} {C : Addr} : mg c = some (.ref C) → IsC K mg c (.ref C)
  | blt {c : Str} {T : String} : mg c = none → bootBuiltins c = some (.type T) → c ≠ "__name__" → IsC K mg c (.ty T)
structure XC (X : Cx) (e : Expr) (v : V) : Prop where
  h : PE X e (tC v)
structure XCs (X : Cx) (es : List Expr) (vs : List V) : Prop where
  h : PA X es (fun _ H Q => Q vs H)
noncomputable def valC : V → Value
  | .ref a => .ref a
  | .ty T => .type T
  | _ => .none
structure IsiX (K : PySem.W.Frag) (tb : List (Str × Bool)) (vs : List V) : Prop where
  cls : ∀ v ∈ vs, (∃ a, v = .ref a) ∨ ∃ T, v = .ty T
  ok : ∀ c b, tb.lookup c = some b → ∃ C, PySem.W.nsIn K mainGlobals c = some (some (.ref C)) ∧ ExcK K C ∧ PySem.W.kitAny K (.ref C) (vs.map valC) = some b
end
end L3
namespace L3
open PySem PySem.Spec PyProof.Rows L2 SeqAt
section
variable {X : Cx} {xw : XW} {a b c tg : Expr} {pos p : Pos}
end
section
variable {X : Cx} {xw : XW} {a : Expr} {lo : Option Expr} {st : Expr} {fa : DSt → Res D} {fl fh : DSt → Res (Option Int)} {pos p2 : Pos}
end
end L3
namespace L3
open PySem PySem.Spec PyProof.Rows L2 SeqAt
section
variable {X : Cx} {xw : XW}
noncomputable def frzL (i : Nat) (δ : DSt) : DSt := match δ[i]? with
  | some (some (.o ds)) => δ.set i (some (.d (.lst ds)))
  | _ => δ
noncomputable def sFrzL (i : Nat) (g : DSt → Out) : DSt → Out := fun δ => g (frzL i δ)
theorem Bz6B {i : Nat} {g : DSt → Out} {Dn : Ends} {σ : L2.St} {H : Hp} (h : tDS X.K xw (sFrzL i g) Dn σ H) : tDS X.K xw g Dn σ H := by
  obtain ⟨W₀, H₀, W, δ, st, q⟩ := h
  have q' : RS X.K xw W₀ H₀ W H (g (frzL i δ)) Dn := q
  unfold frzL at q'
  split at q'
  · rename_i ds h
    obtain ⟨v, e, a, xs, r1, r2, r3, r4, r5⟩ := st.at' i _ h
    subst r1
    obtain ⟨st2, hd⟩ := st.freeze h e
    exact ⟨W₀, H₀, _, _, st2, RS.less (fun b z => z.1) q'⟩
  · exact ⟨W₀, H₀, W, δ, st, q'⟩
theorem s_frzL (i : Nat) {st : Stmt} {g : DSt → Out} (h : XS X xw st g) : XS X xw st (sFrzL i g) := ⟨fun pins s σ H Dn I q => h.h pins s σ H Dn I (Bz6B q)⟩
end
end L3
namespace L3
open PySem PySem.Spec PyProof.Rows L2 SeqAt
theorem us1 {P : List Value → Prop} (h : ∀ a0 : Value, P [a0]) : ∀ us : List Value, us.length = 1 → P us
  | [a0], _ => h a0
theorem us2 {P : List Value → Prop} (h : ∀ a0 a1 : Value, P [a0, a1]) : ∀ us : List Value, us.length = 2 → P us
  | [a0, a1], _ => h a0 a1
theorem us3 {P : List Value → Prop} (h : ∀ a0 a1 a2 : Value, P [a0, a1, a2]) : ∀ us : List Value, us.length = 3 → P us
  | [a0, a1, a2], _ => h a0 a1 a2
theorem us4 {P : List Value → Prop} (h : ∀ a0 a1 a2 a3 : Value, P [a0, a1, a2, a3]) : ∀ us : List Value, us.length = 4 → P us
  | [a0, a1, a2, a3], _ => h a0 a1 a2 a3
theorem us5 {P : List Value → Prop} (h : ∀ a0 a1 a2 a3 a4 : Value, P [a0, a1, a2, a3, a4]) : ∀ us : List Value, us.length = 5 → P us
  | [a0, a1, a2, a3, a4], _ => h a0 a1 a2 a3 a4
theorem Bz2O (f : Str) (v : V) : ∀ fs : List (Str × V), f ∉ fs.map (·.1) → putF f v fs = fs ++ [(f, v)]
  | [], _ => rfl
  | (g, x) :: r, h => by
    rw [List.map_cons] at h
    have h1 : ¬ g = f := fun z => h (by rw [← z]; exact List.mem_cons_self)
    have h2 : f ∉ r.map (·.1) := fun z => h (List.mem_cons_of_mem _ z)
    show (if g = f then (g, v) :: r else (g, x) :: putF f v r) = _
    rw [if_neg h1, Bz2O f v r h2]; rfl
section
variable {K : PySem.W.Frag} {W₀ W : WS} {H₀ H H' : Hp} {σ : L2.St} {δ : DSt}
theorem StHas.poke {C dx x : Addr} {fl fl' : List (Str × V)} (h : StHas K W₀ H₀ W H σ δ) (hW : W x) (h0 : H₀ x = none) (hx : H x = some (.ins C dx fl)) : StHas K W₀ H₀ W (upd H x (.ins C dx fl')) σ δ := by
  have kk : Keep W H (upd H x (.ins C dx fl')) := fun b o e n => by rw [upd_ne (fun z => n (by rw [z]; exact hW))]; exact e
  have hw : ∀ b, W b → W b ∨ H b = none := fun b z => .inl z
  refine ⟨⟨fun b o e => by rw [upd_ne (Az0D e h0)]; exact h.fr.ext _ _ e, h.fr.sub, fun b z => ?_, h.fr.wl0⟩, h.len, fun i s e => ?_, h.ap⟩
  · by_cases hb : b = x
    · rw [hb]; exact ⟨_, Az0H, trivial⟩
    · rw [upd_ne hb]; exact h.fr.wl b z
  · obtain ⟨v, h1, h2⟩ := h.at' i s e
    refine ⟨v, h1, ?_⟩
    cases s with
    | d y => exact Has.keep kk h.fr.wl hw h2
    | o ds =>
      obtain ⟨a, xs, e, g1, g2, g3, g4⟩ := h2
      have hb : a ≠ x := fun z => by rw [z, hx] at g3; cases g3
      exact ⟨a, xs, e, g1, g2, by rw [upd_ne hb]; exact g3, HasL.keep kk h.fr.wl hw g4⟩
    | q ks ds =>
      obtain ⟨a, xs, e, g1, g2, g3, g4, g5⟩ := h2
      have hb : a ≠ x := fun z => by rw [z, hx] at g3; cases g3
      exact ⟨a, xs, e, g1, g2, by rw [upd_ne hb]; exact g3, g4, HasL.keep kk h.fr.wl hw g5⟩
theorem StHas.born {C dx x : Addr} (h : StHas K W₀ H₀ W H σ δ) (hx : H x = none) (hd : H dx = none) (ne : dx ≠ x) :
    StHas K W₀ H₀ (fun b => W b ∨ b = x) (upd (upd H dx (.own x)) x (.ins C dx [])) σ δ := by
  have sm : Same H (upd (upd H dx (.own x)) x (.ins C dx [])) := fun b o e => by rw [upd_ne (Az0D e hx), upd_ne (Az0D e hd)]; exact e
  have hw : ∀ b, (W b ∨ b = x) → W b ∨ H b = none := fun b z => z.elim .inl fun z => .inr (by rw [z]; exact hx)
  refine ⟨⟨h.fr.ext.trans sm, fun b z => .inl (h.fr.sub b z), fun b z => ?_, h.fr.wl0⟩, h.len, fun i s e => ?_, h.ap⟩
  · rcases z with z | z
    · exact h.fr.wl.same sm b z
    · rw [z]; exact ⟨_, Az0H, trivial⟩
  · obtain ⟨v, h1, h2⟩ := h.at' i s e
    exact ⟨v, h1, h2.mv h.fr.wl (Same.keep sm) hw fun b o _ h1' _ h3' _ => ⟨.inl h1', sm _ _ h3'⟩⟩
theorem StHas.front {v : Option V} (h : StHas K W₀ H₀ W H σ δ) : StHas K W₀ H₀ W H (v :: σ) (none :: δ) := by
  refine ⟨h.fr, by simp [h.len], fun i s e => ?_, fun i j s t a hij os ot e1 e2 e3 => ?_⟩
  · cases i with
    | zero => cases e
    | succ i => exact h.at' i s e
  · cases i with
    | zero => cases e1
    | succ i =>
      cases j with
      | zero => cases e2
      | succ j => exact h.ap i j s t a (fun z => hij (by rw [z])) os ot e1 e2 e3
end
noncomputable def fldsR : List (Str × (DSt → Res D)) → DSt → Res (List D)
  | [], _ => .ok []
  | p :: r, δ => (p.2 δ).bind fun d => (fldsR r δ).bind fun ds => .ok (d :: ds)
noncomputable def makeR (n : Nat) (c : Str) (fs : List (Str × (DSt → Res D))) (ds : List D) : Res D := (fldsR fs (none :: startD n ds)).bind fun es => .ok (.obj c (fs.map (·.1)) es)
noncomputable def RI (K : PySem.W.Frag) (W₀ : WS) (H₀ : Hp) (W : WS) (δ : DSt) (σ : L2.St) (C dx x : Addr) (ks : List Str) (ds : List D) (r : Res (List D)) (Dn : Ends) : Prop := match r with
  | .ok es => ∀ H' fl', StHas K W₀ H₀ W H' σ δ → H' x = some (.ins C dx fl') → fl'.map (·.1) = ks → HasL K W H' (ds ++ es) (fl'.map (·.2)) → Dn.nx σ H'
  | _ => False
noncomputable def tInit (K : PySem.W.Frag) (C : Addr) (fs : List (Str × (DSt → Res D))) : TS := fun Dn σ H => ∃ W₀ H₀ W δ x dx fl ds, StHas K W₀ H₀ W H σ δ ∧ σ[0]? = some (some (.ref x)) ∧ W x ∧ H₀ x = none ∧ H x = some (.ins C dx fl) ∧
  HasL K W H ds (fl.map (·.2)) ∧ (fl.map (·.1) ++ fs.map (·.1)).Nodup ∧ fl.length + fs.length < 1000 ∧ RI K W₀ H₀ W δ σ C dx x (fl.map (·.1) ++ fs.map (·.1)) ds (fldsR fs δ) Dn
structure XIn (X : Cx) (C : Addr) (sts : List Stmt) (fs : List (Str × (DSt → Res D))) : Prop where
  h : PSs X sts (tInit X.K C fs)
section
variable {X : Cx} {xw : XW} {C : Addr} {e a : Expr} {es : List Expr} {f fa fb : DSt → Res D} {fs : List (Str × (DSt → Res D))} {sts : List Stmt} {pos p p1 p2 p3 : Pos} {fld c : Str}
theorem in_nil : XIn X C [] [] := ⟨PSs.weak Bz6R fun Dn σ H ⟨W₀, H₀, W, δ, x, dx, fl, ds, st, _, _, _, hx, hds, _, _, q⟩ => q H fl st hx (by simp) (by rw [List.append_nil]; exact hds)⟩
theorem Bz0D (cl : Cls X.K C) (hn : NoAttr X.K C fld) (he : XE X xwF e f) (hr : XIn X C sts fs) {self : Str} (hN : autoParam (X.N[0]? = some self) slim0._auto_1) (hv : autoParam (Vis X.env.scope self) slim6._auto_1)
    (hd : autoParam ((self == ("__debug__" : Str)) = false) slim1._auto_1) (hcd : autoParam ((self == ("__classdict__" : Str)) = false) slim1._auto_1) (hs : autoParam (swapsWith e (some (.Attribute (.Name self p1) fld p2)) pos.line X.env = pure false) slim0._auto_1) :
    XIn X C (.Assign [.Attribute (.Name self p1) fld p2] e pos :: sts) ((fld, f) :: fs) := ⟨by
  refine PSs.weak (Bz2P (ps_fld (pe_var hN hv hd hcd) he.h hs) hr.h) fun Dn σ H ⟨W₀, H₀, W, δ, x, dx, fl, ds, st, e0, hW, h0, hx, hds, nd, ln, q⟩ => ?_
  rw [List.length_cons] at ln
  show tDE X.K xwF f σ H _
  refine ⟨W₀, H₀, W, δ, st, ?_⟩
  have eq1 : fldsR ((fld, f) :: fs) δ = (f δ).bind fun d => (fldsR fs δ).bind fun ds => .ok (d :: ds) := rfl
  rw [eq1] at q
  cases h1 : f δ with
  | stuck => rw [h1] at q; exact q.elim
  | ex c fs => rw [h1] at q; exact q.elim
  | ok d =>
    rw [h1] at q
    intro v H1 k hv
    have hx1 := k _ _ hx
    have st1 := st.same k
    refine ⟨.ref x, e0, x, C, dx, fl, rfl, hx1, cl, hn, by omega, ?_⟩
    have hf : fld ∉ fl.map (·.1) := fun z => by
      rw [List.map_cons, List.nodup_append] at nd
      exact nd.2.2 _ z _ List.mem_cons_self rfl
    rw [Bz2O _ _ _ hf]
    have kk : Keep W H1 (upd H1 x (.ins C dx (fl ++ [(fld, v)]))) := fun b o e n => by rw [upd_ne (fun z => n (by rw [z]; exact hW))]; exact e
    have ek : (fl ++ [(fld, v)]).map (·.1) ++ fs.map (·.1) = fl.map (·.1) ++ ((fld, f) :: fs).map (·.1) := by simp
    refine ⟨W₀, H₀, W, δ, x, dx, fl ++ [(fld, v)], ds ++ [d], st1.poke hW h0 hx1, e0, hW, h0, Az0H, ?_, by rw [ek]; exact nd, by rw [List.length_append, List.length_singleton]; omega, ?_⟩
    · rw [List.map_append]
      exact HasL.keep kk st1.fr.wl (fun b z => .inl z) ((hds.same k st.fr.wl).snoc hv)
    · rw [ek]
      cases h2 : fldsR fs δ with
      | stuck => rw [h2] at q; exact q.elim
      | ex c gs => rw [h2] at q; exact q.elim
      | ok es =>
        rw [h2] at q
        intro H' fl' g1 g2 g3 g4
        rw [List.append_assoc] at g4
        exact q H' fl' g1 g2 g3 g4⟩
end
noncomputable def spI (K : PySem.W.Frag) (C : Addr) (n : Nat) (nl : Nat) (c : Str) (fs : List (Str × (DSt → Res D))) : Sp := fun vs H Q _ => ∃ x dx vs' H1 W ds, vs = V.ref x :: vs' ∧ vs'.length = n ∧ H = upd (upd H1 dx (.own x)) x (.ins C dx []) ∧ H1 x = none ∧ H1 dx = none ∧ dx ≠ x ∧
  WL W H1 ∧ HasL K W H1 ds vs' ∧ match fldsR fs (none :: startD nl ds) with
    | .ok es => ∀ H' fl, Same H1 H' → H' x = some (.ins C dx fl) → fl.map (·.1) = fs.map (·.1) → HasL K W H' es (fl.map (·.2)) → Q .non H'
    | _ => False
structure FnI (P : Program) (w : World) (K : PySem.W.Frag) (mg : Str → Option Value) (base : Heap) (k : Nat) (c : Str) (n nl : Nat) (fs : List (Str × (DSt → Res D))) : Prop where
  ex : ∃ j C f fd ps, j + 1 ≤ k ∧ FnOk P w K mg base CX0 j f fd ps (spI K C n nl c fs) ∧ Mk K C f ∧ mg c = some (.ref C) ∧ PySem.W.nsIn K mainGlobals c = some (some (.ref C)) ∧ Binds K fd ps []
theorem FnI.mono {P : Program} {w : World} {K : PySem.W.Frag} {mg : Str → Option Value} {base : Heap} {j k n nl : Nat} {c : Str} {fs : List (Str × (DSt → Res D))} (F : FnI P w K mg base j c n nl fs) (h : j ≤ k) : FnI P w K mg base k c n nl fs := by
  obtain ⟨i, C, f, fd, ps, a, b⟩ := F.ex
  exact ⟨i, C, f, fd, ps, Nat.le_trans a h, b⟩
theorem Cz2E {P : Program} {w : World} {K : PySem.W.Frag} {mg : Str → Option Value} {base : Heap} {k n nl : Nat} {c qual : Str} {st : Stmt} {C fa : Addr} {fd : FuncData} {N ps : List Str} {fs : List (Str × (DSt → Res D))} (F : Fun K "__init__" qual st fa fd) (S : FnScope N ps (Az0A st))
    (M : Mk K C fa) (hm : mg c = some (.ref C)) (hc : PySem.W.nsIn K mainGlobals c = some (some (.ref C))) (hb : Binds K fd ps [])
    (body : ∀ (cdv : Value) (A : Around) (outer : List Env) (s : Shared) (H : Hp) (E : XK), Room k (A.deeper (envOfC qual (Az0A st) s.heap.objs.size fa cdv)) →
      XIn (cxOf CX0 P w K mg base N qual (Az0A st) fa cdv A outer s H E).nox C (Az0J st) fs) (hps : autoParam (ps.length = n + 1) slim0._auto_1) (hN : autoParam (N.length = nl + 1) slim0._auto_1) (hnd : autoParam ((fs.map (·.1)).Nodup) slim4._auto_1) (hl : autoParam (fs.length < 1000) slim1._auto_1) : FnI P w K mg base (k + 1 + 1) c n nl fs := by
  refine ⟨k + 1, C, fa, fd, ps, Nat.le_refl _, F.ok S (fun vs H Q E h => ?_) (fun cdv A outer s H vs Q E hr h => ?_), M, hm, hc, hb⟩
  · obtain ⟨x, dx, vs', H1, W, ds, rfl, h1, _⟩ := h
    rw [List.length_cons, h1, hps]
  · obtain ⟨x, dx, vs', H1, W, ds, rfl, h1, rfl, hx, hdx, ne, wl, hd, q⟩ := h
    have s0 := Az6X (N := List.replicate nl ("" : Str)) wl hd
    rw [List.length_replicate] at s0
    have es : L2.start N (V.ref x :: vs') = some (V.ref x) :: L2.start (List.replicate nl ("" : Str)) vs' := by
      unfold L2.start
      rw [List.length_replicate, hN, List.length_cons, List.map_cons, List.cons_append, Nat.add_sub_add_right]
    refine ⟨_, (body cdv A outer s _ E hr).h, W, H1, (fun b => W b ∨ b = x), none :: startD nl ds, x, dx, [], [], ?_, by rw [es]; rfl, .inr rfl, hx, Az0H, HasL.nil, by simpa using hnd, by simpa using hl, ?_⟩
    · rw [es]
      exact (s0.born hx hdx ne).front
    · cases h2 : fldsR fs (none :: startD nl ds) with
      | stuck => rw [h2] at q; exact q.elim
      | ex c gs => rw [h2] at q; exact q.elim
      | ok es =>
        rw [h2] at q
        exact fun H' fl' st' g2 g3 g4 => q H' fl' st'.fr.ext g2 (by simpa using g3) (HasL.keep (fun _ _ e _ => e) st'.fr.wl (fun b z => .inl (.inl z)) (show HasL K (fun b => W b ∨ b = x) H' es (fl'.map (·.2)) from g4))
section
variable {X : Cx} {xw : XW} {e a b : Expr} {es : List Expr} {f fa fb : DSt → Res D} {gs : DSt → Res (List D)} {fs : List (Str × (DSt → Res D))} {pos p p1 p2 p3 : Pos} {fld c : Str}
theorem x_make {k n nl : Nat} (F : FnI X.prog X.w X.K X.mg X.base k c n nl fs) (hr : Room k X.A) (ha : XA X xw (a :: es) gs) (hg : autoParam (Gl X c) slim0._auto_1)
    (hdb : autoParam ((c == ("__debug__" : Str)) = false) slim1._auto_1) (he : autoParam (starEach (a :: es) X.env = (false, eval a X.env) :: starEach es X.env) slim0._auto_1) (hpl : autoParam ((backTo pos (starEach es X.env)).any (·.1) = false) slim0._auto_1) :
    XE X xw (.Call (.Name c p) (a :: es) [] pos) (b1 (callR n (makeR nl c fs)) gs) := ⟨by
  obtain ⟨j, C, fi, fd, ps, hj, G, M, hm, hn, hb⟩ := F.ex
  refine PE.weak (Cz0S M G (hr.mono hj) hg hm hb .nil pass0 ha.h hdb he hpl) fun σ H Q ⟨W₀, H₀, W, δ, st, q⟩ => ?_
  refine Az5L st q fun H2 ds vs k w st2 hv _ q2 => ?_
  unfold callR at q2
  split at q2
  · rename_i hl
    intro x dx hx hdx ne
    rw [List.append_nil]
    refine ⟨x, dx, vs, H2, W, ds, rfl, by rw [← hv.length]; exact hl, rfl, hx, hdx, ne, w, hv, ?_⟩
    unfold makeR at q2
    cases h : fldsR fs (none :: startD nl ds) with
    | stuck => rw [h] at q2; exact q2.elim
    | ex c gs => rw [h] at q2; exact q2.elim
    | ok es =>
      rw [h] at q2
      exact fun H' fl k' g1 g2 g3 => ⟨rfl, q2 _ _ k' (by
        rw [Has]
        exact ⟨x, C, dx, fl, rfl, hn, g1, (fun z => by obtain ⟨o, e, _⟩ := w x z; rw [hx] at e; cases e), g2, g3⟩)⟩
  · exact q2.elim⟩
noncomputable def fldR (c fld : Str) : D → Res D
  | .obj c' ks ds => if c' = c then (match (ks.zip ds).lookup fld with | some d => .ok d | none => .stuck) else .stuck
  | _ => .stuck
structure FldK (K : PySem.W.Frag) (c fld : Str) : Prop where
  ex : ∃ C, PySem.W.nsIn K mainGlobals c = some (some (.ref C)) ∧ Cls K C ∧ NoAttr K C fld
theorem Bz7C {K : PySem.W.Frag} {W : WS} {H : Hp} {g : Str} {d : D} : ∀ {fl : List (Str × V)} {ds : List D}, HasL K W H ds (fl.map (·.2)) → ((fl.map (·.1)).zip ds).lookup g = some d → ∃ v, fl.lookup g = some v ∧ Has K W H d v
  | [], ds, _, e => by simp at e
  | (k, v) :: r, [], h, e => by simp at e
  | (k, v) :: r, d' :: ds, h, e => by
    rw [HasL] at h
    obtain ⟨x, r', e1, h1, h2⟩ := h
    rw [List.map_cons] at e1
    cases e1
    rw [List.map_cons, List.zip_cons_cons, List.lookup_cons] at e
    rw [List.lookup_cons]
    cases hk : g == k with
    | true => rw [hk] at e; cases e; exact ⟨_, rfl, h1⟩
    | false => rw [hk] at e; exact Bz7C h2 e
theorem x_fld (T : FldK X.K c fld) (he : XE X xw e f) (hb : autoParam (attributeBase e fld X.env (eval e X.env) = eval e X.env) slim0._auto_1) : XE X xw (.Attribute e fld pos) (b1 (fldR c fld) f) :=
  ⟨PE.weak (pe_fld he.h hb) fun σ H Q ⟨W₀, H₀, W, δ, st, q⟩ => Bz5I st q fun H2 d v k w st2 hv _ q2 => by
    unfold fldR at q2
    cases d with
    | obj c' ks ds =>
      dsimp only at q2
      split at q2
      · rename_i hc
        subst hc
        split at q2
        · rename_i d' hd
          rw [Has] at hv
          obtain ⟨ar, C, dx, fl, rfl, hn, hH, _, rfl, hL⟩ := hv
          obtain ⟨C', hn', cl, na⟩ := T.ex
          rw [hn] at hn'
          cases hn'
          obtain ⟨u, hu, hh⟩ := Bz7C hL hd
          exact ⟨ar, C, dx, fl, u, rfl, hH, cl, na, hu, q2 u H2 (Same.refl _) hh⟩
        · exact q2.elim
      · exact q2.elim
    | _ => exact q2.elim⟩
noncomputable def EntT (w : World) (e : DictEntry) (p : Str × Str) : Prop := e.hash = keyH w (.inr p.1) ∧ (∃ t, e.key = .str p.1 t) ∧ ∃ t, e.val = .str p.2 t
structure GlobQ (w : World) (K : PySem.W.Frag) (mg : Str → Option Value) (x : Str) (l : List (Str × Str)) : Prop where
  h : ∃ (ad : Addr) (o : Obj) (es : Array DictEntry) (n : Nat), mg x = some (.ref ad) ∧ K.lookup ad = some o ∧ o.ExactDict ∧ o.data = .dict es n ∧ Paired (EntT w) es.toList l ∧ (l.map (·.1)).Nodup
end
end L3
namespace L3
open PySem PySem.Spec PyProof.Rows L2 SeqAt
section
variable {X : Cx} {xw : XW} {e a b : Expr} {f fa fb : DSt → Res D} {pos pos' p p1 p2 p3 : Pos}
noncomputable def sPopV (j i : Nat) : DSt → Out := fun δ => match δ[i]? with
  | some (some (.o ds)) => match ds[ds.length - 1]? with
    | some d => .nx ((δ.set i (some (.o ds.dropLast))).set j (some (.d d)))
    | none => .stuck
  | _ => .stuck
theorem HasL.dropLast {K : PySem.W.Frag} {W : WS} {H : Hp} {ds : List D} {xs : List V} (h : HasL K W H ds xs) : HasL K W H ds.dropLast xs.dropLast := by
  rw [List.dropLast_eq_take, List.dropLast_eq_take, h.length]
  exact HasL.take _ h
theorem s_popV (j i : Nat) {x y : Str} (hNd : X.N.Nodup) (hN : autoParam (X.N[i]? = some x) slim0._auto_1) (hNj : autoParam (X.N[j]? = some y) slim0._auto_1) (hv : autoParam (Vis X.env.scope x) slim6._auto_1) (hd : autoParam ((x == ("__debug__" : Str)) = false) slim1._auto_1)
    (hcd : autoParam ((x == ("__classdict__" : Str)) = false) slim1._auto_1) (hx : autoParam (Loc X.env.scope y) slim7._auto_1)
    (hbase : autoParam (attributeBase (.Name x p1) "pop" X.env (eval (.Name x p1) X.env) = eval (.Name x p1) X.env) slim0._auto_1) (hline : autoParam ((p2.endLine == p3.line) = true) slim0._auto_1)
    (hsw : autoParam (swapsWith (.Call (.Attribute (.Name x p1) "pop" p2) [] [] p3) (some (.Name y pos')) pos.line X.env = pure false) slim0._auto_1)
    (hf : autoParam (X.fn y = true ∨ X.env.scope.names.lookup y = some .local) slim5._auto_1) :
    XS X xw (.Assign [.Name y pos'] (.Call (.Attribute (.Name x p1) "pop" p2) [] [] p3) pos) (sPopV j i) := ⟨
  PS.weak (ps_set hNd hNj hx (pe_bm0 PySem.F.plainAttrs_list PySem.F.slot_list_pop PySem.F.type_list_pop mt_pop (pe_var hN hv hd hcd) hbase hline) hsw hf) fun Dn σ H h => by
    obtain ⟨W₀, H₀, W, δ, st, q⟩ := h
    unfold sPopV at q
    split at q
    · rename_i ds h
      split at q
      · rename_i d hd
        obtain ⟨v, e1, a, xs, rfl, r2, r3, r4, r5⟩ := st.at' i _ h
        rw [r5.length] at hd
        obtain ⟨u, hu, hh⟩ := r5.get hd
        have kk : Keep W H (upd H a (.lst xs.dropLast)) := fun b o e n => by rw [upd_ne (fun z => n (by rw [z]; exact r2))]; exact e
        have st2 := st.change h e1 r4 r2 r5.dropLast
        exact ⟨_, e1, .inl ⟨rfl, xs, .of r4⟩, a, xs, u, rfl, rfl, r4, hu, q W _ _ ⟨kk, fun _ z => .inl z⟩ (st2.set (Has.keep kk st.fr.wl (fun b z => .inl z) hh))⟩
      · exact q.elim
    · exact q.elim⟩
theorem Az9G (l b : Addr) (xs ys : Array Value) (n m : Nat) (sl : Array (Option Value)) (g0 : ¬(!xs.isEmpty && Builtin.List.listTooLong (xs.size + ys.size)) = true) (g1 : xs.size ≤ sizeLine) (g2 : xs.size + ys.size ≤ sizeLine + 1) :
    Meets (Builtin.«list.extend» ⟨[.ref l, .ref b], []⟩) (fun _ R s => s.heap.get? l = some { cls := .type "list", data := .seq xs n } ∧ s.heap.get? b = some { cls := .type "list", data := .seq ys m, slots := sl } ∧
      R (.ok (.ret .none)) { s with heap := s.heap.update l (Obj.mapSeq (· ++ ys)) }) :=
  .of_wp fun _ _ _ _ s h => by
    obtain ⟨h0, h1, h2, h3, h4⟩ := s
    obtain ⟨el, eb, r⟩ := h
    have g3 : (xs ++ ys).size ≤ sizeLine + 1 := by rw [Array.size_append]; exact g2
    wp_walk using (wpAny_updateSeq el rfl (hz := g1) (_hz' := g3)), wpAny_loadPart' el, wpAny_loadPart' eb
    exact ⟨_, rfl, r⟩
noncomputable def rExtS (K : PySem.W.Frag) : V → List V → Hp → VK → Prop := fun x vs H Q => ∃ l b xs zs, x = .ref l ∧ vs = [.ref b] ∧ H l = some (.lst xs) ∧ SqL K H b zs ∧ xs.length + zs.length ≤ sizeLine ∧ Q .non (upd H l (.lst (xs ++ zs)))
theorem Cz1P : MtR X "list.extend" (rExtS X.K) := by
  intro pins s σ H x vs v us Q I rx rv h
  obtain ⟨l, b, xs, zs, rfl, rfl, hH, hB, hz, q⟩ := h
  cases rx
  obtain ⟨u, rfl, ru⟩ := rv.one
  cases ru
  obtain ⟨z, its, n, r, hl, e⟩ := I.lstM hH
  obtain ⟨its2, r2, ⟨⟨cls2, dd2, data2, sl2⟩, n2, e2, hc2, hd2, hs2⟩, hz2⟩ := I.list hB
  simp only at hc2 hd2 hs2
  subst hc2 hd2 hs2
  have k1 := r.length
  have k2 := r2.length
  have hsz : its.toArray.size + its2.toArray.size ≤ sizeLine := by rw [List.size_toArray, List.size_toArray]; omega
  have hlong : ¬ (!its.toArray.isEmpty && Builtin.List.listTooLong (its.toArray.size + its2.toArray.size)) = true := by rw [Bz8D hsz, Bool.and_false]; exact Bool.false_ne_true
  refine call_meets F.slot_list_extend ⟨_, e, rfl⟩ F.entry_list_extend (F.args_list_extend_2 _ _) (Az9G l b its.toArray its2.toArray n n2 sl2 hlong (by rw [List.size_toArray]; omega) (by omega)) ⟨e, e2, ?_⟩
  refine ⟨.non, _, I.lset (its' := its ++ its2) hH e (by simp) (r.append r2) ?_, rfl, q⟩
  rw [List.length_append]
  omega
noncomputable def extDO (i : Nat) (δ : DSt) (r : Res D) : Out := match δ[i]? with
  | some (some (.o ds)) => ofR r fun x => match x with
    | .lst es => @ite Out (ds.length + es.length ≤ 100000) (Classical.propDecidable _) (.nx (δ.set i (some (.o (ds ++ es))))) .stuck
    | _ => .stuck
  | _ => .stuck
noncomputable def sExtD (i : Nat) (f : DSt → Res D) : DSt → Out := fun δ => extDO i δ (f δ)
theorem s_extD (i : Nat) {x : Str} (he : XE X xw e f) (hN : autoParam (X.N[i]? = some x) slim0._auto_1) (hv : autoParam (Vis X.env.scope x) slim6._auto_1) (hd : autoParam ((x == ("__debug__" : Str)) = false) slim1._auto_1)
    (hcd : autoParam ((x == ("__classdict__" : Str)) = false) slim1._auto_1)
    (hsE : autoParam (starEach [e] X.env = (false, eval e X.env) :: starEach [] X.env) slim0._auto_1)
    (hbase : autoParam (attributeBase (.Name x p1) "extend" X.env (eval (.Name x p1) X.env) = eval (.Name x p1) X.env) slim0._auto_1)
    (hfew : autoParam (((backTo p3 (starEach [e] X.env)).all (fun x => !x.1) && (backToKw p3 (keywordEach [] X.env)).all (fun x => x.1.isSome)
      && decide (([e] : List Expr).length + ([] : List Keyword).length + (if ([] : List Keyword).isEmpty then 0 else 1) < 30)) = true) slim0._auto_1)
    (hline : autoParam ((p2.endLine == p3.line) = true) slim0._auto_1) (hplain : autoParam ((backTo p3 (starEach [] X.env)).any (·.1) = false) slim0._auto_1)
    (hsw : autoParam (swapsWith (.Call (.Attribute (.Name x p1) "extend" p2) [e] [] p3) none pos.line X.env = pure false) slim0._auto_1) :
    XS X xw (.Expr (.Call (.Attribute (.Name x p1) "extend" p2) [e] [] p3) pos) (sExtD i f) := ⟨
  PS.weak (Bz6S (pe_bm PySem.F.plainAttrs_list PySem.F.slot_list_extend PySem.F.type_list_extend Cz1P (pe_var hN hv hd hcd) (Az6I he.h pa_nil hsE) hbase hfew hline hsE hplain) hsw) fun Dn σ H h => by
    obtain ⟨W₀, H₀, W, δ, st, q⟩ := h
    unfold sExtD extDO at q
    split at q
    · rename_i ds h
      obtain ⟨v, e1, a, xs, rfl, r2, r3, r4, r5⟩ := st.at' i _ h
      refine ⟨_, e1, .inl ⟨rfl, xs, .of r4⟩, ?_⟩
      refine Az4T st q fun H2 d u st2 hu q2 => ?_
      cases d with
      | lst es =>
        dsimp only at q2
        split at q2
        · rename_i hlen
          obtain ⟨v', e1', a', ys, e', r2', r3', r4', r5'⟩ := st2.at' i _ h
          rw [e1] at e1'
          cases e1'
          cases e'
          rw [Has] at hu
          obtain ⟨b, zs, rfl, lr, hz⟩ := hu
          have sz : sizeLine = 16777216 := sizeLine_eq
          refine ⟨a, b, ys, zs, rfl, rfl, r4', lr.sq, ?_, ?_⟩
          · have := r5'.length; have := hz.length; omega
          · refine q2 W _ σ ⟨fun c o e n => ?_, fun _ z => .inl z⟩ (st2.change h e1 r4' r2' (r5'.append hz))
            rw [upd_ne (fun z => n (by rw [z]; exact r2'))]; exact e
        · exact q2.elim
      | _ => exact q2.elim
    · exact q.elim⟩
noncomputable def rGetL : V → List V → Hp → VK → Prop := fun x vs H Q => ∃ a kvs k d, x = .ref a ∧ vs = [kV k, d] ∧ Rd H a (.dK kvs) ∧ Q ((tGet kvs k).getD d) H
theorem Cz1O : MtR X "dict.get" rGetL := by
  intro pins s σ H x vs v us Q I rx rv h
  obtain ⟨a, kvs, k, d, rfl, rfl, hr, q⟩ := h
  cases rx
  cases rv with
  | cons ry rv =>
    obtain ⟨u, rfl, ru⟩ := (show Vals [d] _ from rv).one
    obtain ⟨_, hS, ws, rel, dd⟩ := rd_dk I.hok hr
    refine call_meetsIn PySem.F.slot_dict_get dd.typeIs PySem.F.entry_dict_get (PySem.F.args_dict_get_3 _ _ _) (meets_dict_get_default (Az2Y X.prog X.w) a (key_is ry) hS u) ⟨_, dd.mapOf, ?_⟩
    refine ⟨_, H, I.tok _, ?_, q⟩
    obtain ⟨g1, g2⟩ := kv_get rel k
    cases h : tGet kvs k with
    | some z =>
      obtain ⟨w', hw, rw'⟩ := g1 z h
      rw [hw]; exact rw'
    | none => rw [g2 h]; exact ru
noncomputable def getLR (l : List (Key × D)) (d e : D) : Res D := match keyD d with
  | some k => .ok ((tGet l k).getD e)
  | none => .stuck
noncomputable def bGet (f : DSt → Res (List (Key × D))) (g : DSt → Res (List D)) : DSt → Res D := fun δ => (f δ).bind fun l => (g δ).bind fun ds => match ds with
  | [d, e] => getLR l d e
  | _ => .stuck
theorem Cz0T {o : Expr} {es : List Expr} {to : TE} {t : TA} {apos cpos : Pos} (ho : PE X o to) (ha : PA X (e :: es) t)
    (hbase : autoParam (attributeBase o "get" X.env (eval o X.env) = eval o X.env) slim0._auto_1)
    (hfew : autoParam (((backTo cpos (starEach (e :: es) X.env)).all (fun x => !x.1) && (backToKw cpos (keywordEach [] X.env)).all (fun x => x.1.isSome)
      && decide ((e :: es).length + ([] : List Keyword).length + (if ([] : List Keyword).isEmpty then 0 else 1) < 30)) = true) slim0._auto_1)
    (hline : autoParam ((apos.endLine == cpos.line) = true) slim0._auto_1) (hs : autoParam (starEach (e :: es) X.env = (false, eval e X.env) :: starEach es X.env) slim0._auto_1) (hplain : autoParam ((backTo cpos (starEach es X.env)).any (·.1) = false) slim0._auto_1) :
    PE X (.Call (.Attribute o "get" apos) (e :: es) [] cpos) (fun σ H Q => to σ H fun x H1 => (∃ a kvs, x = .ref a ∧ Rd H1 a (.dK kvs)) ∧ t σ H1 fun xs H2 => rGetL x xs H2 Q) := by
  intro pins s σ H Q I h
  refine wpAny_Call_method_late hbase hfew hline rfl (thn (ho pins s σ H _ I h) fun v s1 ⟨x, H1, I1, r1, ty, q1⟩ => ?_)
  obtain ⟨a, kvs, rfl, hr⟩ := ty
  have r2 := r1
  cases r2
  obtain ⟨_, hS, ws, rel, dd⟩ := rd_dk I1.hok hr
  refine ⟨"dict", "dict.get", PySem.F.plainAttrs_dict, PySem.F.slot_dict_get, PySem.F.type_dict_get, dd.typeIs, dd.mapOf.noDict, ?_⟩
  have hA := ha cpos pins s1 σ H1 _ I1 q1
  rw [hs] at hA ⊢
  refine Calls.callWith_builtin (by show (false || (backTo cpos (starEach es X.env)).any (·.1)) = false; rw [hplain] <;> rfl) (Calls.evalArgs_plain ?_)
  exact thn hA fun us s2 ⟨vs, H2, I2, r3, q2⟩ => Cz1O pins s2 σ H2 _ vs _ us Q I2 r1 r3 q2
theorem x_getL {es : List Expr} {apos cpos : Pos} {fq : DSt → Res (List (Key × D))} {gs : DSt → Res (List D)} (ho : XQ X xw a fq) (ha : XA X xw (e :: es) gs)
    (hbase : autoParam (attributeBase a "get" X.env (eval a X.env) = eval a X.env) slim0._auto_1)
    (hfew : autoParam (((backTo cpos (starEach (e :: es) X.env)).all (fun x => !x.1) && (backToKw cpos (keywordEach [] X.env)).all (fun x => x.1.isSome)
      && decide ((e :: es).length + ([] : List Keyword).length + (if ([] : List Keyword).isEmpty then 0 else 1) < 30)) = true) slim0._auto_1)
    (hline : autoParam ((apos.endLine == cpos.line) = true) slim0._auto_1) (hs : autoParam (starEach (e :: es) X.env = (false, eval e X.env) :: starEach es X.env) slim0._auto_1) (hplain : autoParam ((backTo cpos (starEach es X.env)).any (·.1) = false) slim0._auto_1) :
    XE X xw (.Call (.Attribute a "get" apos) (e :: es) [] cpos) (bGet fq gs) := ⟨
  PE.weak (Cz0T ho.h ha.h hbase hfew hline hs hplain) fun σ H Q h => by
    obtain ⟨W₀, H₀, W, δ, st, q⟩ := h
    unfold bGet at q
    refine ⟨W₀, H₀, W, δ, st, ?_⟩
    cases h1 : fq δ with
    | stuck => rw [h1] at q; exact q
    | ex c fs => rw [h1] at q; exact q
    | ok l =>
      rw [h1] at q
      intro ar kvs H1 k1 hr hp
      refine ⟨⟨ar, kvs, rfl, hr⟩, W₀, H₀, W, δ, st.same k1, ?_⟩
      simp only [Res.bind_ok] at q
      cases h2 : gs δ with
      | stuck => rw [h2] at q; exact q
      | ex c fs => rw [h2] at q; exact fun H2 k2 => q H2 (k1.trans k2)
      | ok ds =>
        rw [h2, Res.bind_ok] at q
        intro vs H2 k2 hvs
        split at q
        · rename_i d e'
          unfold getLR at q
          split at q
          · rename_i k hk
            rw [HasL] at hvs
            obtain ⟨x1, r1, rfl, g1, hvs⟩ := hvs
            rw [HasL] at hvs
            obtain ⟨x2, r2, rfl, g2, hvs⟩ := hvs
            rw [HasL] at hvs
            subst hvs
            have e1 := Az5A g1.top hk
            have hp2 := hp.same k2 (st.same k1).fr.wl
            obtain ⟨p1, p2⟩ := hp2.get k
            refine ⟨ar, kvs, k, x2, rfl, by rw [e1], Rd.same hr k2, q _ H2 (k1.trans k2) ?_⟩
            cases hg : tGet l k with
            | some d' =>
              obtain ⟨v, hv, hh⟩ := p1 d' hg
              rw [hv]; exact hh
            | none => rw [p2 hg]; exact g2
          · exact q.elim
        · exact q.elim⟩
end
end L3
namespace L3
open PySem PySem.Spec PyProof.Rows L2 SeqAt
theorem Bz5D (n : Nat) (g : DSt → Out) (ds : List D) (c : Str) (fs : List D) : runD n g ds ≠ .ex c fs := by
  rw [Az0R]
  cases g (startD n ds) <;> (intro z; cases z)
theorem Fn.toX {P : Program} {w : World} {K : PySem.W.Frag} {mg : Str → Option Value} {base : Heap} {k n j : Nat} {x : Str} {g : DSt → Out} (F : Fn P w K mg base k x n (runD j g)) : FnX P w K mg base k x n (runD j g) := by
  obtain ⟨f, fd, ps, a, b⟩ := F.ex
  have sp : ∀ vs H Q E, spX K n (runD j g) vs H Q E → spD K n (runD j g) vs H Q E := fun vs H Q E h => by
    obtain ⟨h1, W, ds, h2, h3, q⟩ := h
    refine ⟨h1, W, ds, h2, h3, ?_⟩
    cases h : runD j g ds with
    | ok d => rw [h] at q; exact q
    | ex c fs => exact absurd h (Bz5D j g ds c fs)
    | stuck => rw [h] at q; exact q
  refine ⟨f, fd, ps, ⟨fun vs H Q E h => a.len vs H Q E (sp vs H Q E h), fun A outer s H args us vs Q E hr h0 hb hv h => codeAny_mono (a.run A outer s H args us vs Q E hr h0 hb hv (sp vs H Q E h)) fun r s' q => ?_⟩, b⟩
  cases r with
  | error e => exact (show False from q).elim
  | ok fl => cases fl <;> exact q
section
variable {X : Cx} {xw : XW} {e : Expr} {ff : DSt → Res (List D)} {pos : Pos}
end
end L3
namespace L3
open PySem PySem.Spec PyProof.Rows L2 SeqAt
section
variable {X : Cx} {xw : XW} {a b : Expr} {fa fb : DSt → Res D} {pos : Pos}
noncomputable def mulZ : D → D → Res D
  | .str x, .int n => @ite (Res D) (0 ≤ n ∧ n ≤ 1000 ∧ x.length ≤ 1000) (Classical.propDecidable _) (.ok (.str (PySem.Txt.mul x n))) .stuck
  | _, _ => .stuck
theorem Bz3D {x : Str} : MulOk x 0 := by
  refine ⟨?_, fun _ h => ?_, fun h => ?_⟩ <;> first | rfl | omega | simp_all | decide
theorem x_mulZ (ha : XP X xw a fa) (hb : XP X xw b fb) : XE X xw (.BinOp a .Mult b pos) (b2 mulZ fa fb) := ⟨by
  refine de_op2 Cz1B (fun W H d e v u Q w hv hu q => ?_) ha.h hb.h
  unfold mulZ at q
  split at q
  · split at q
    · rename_i n hj
      refine ⟨_, _, hv.str, hu.int, ?_, q.str⟩
      by_cases h : 1 ≤ n
      · exact Bz1L h hj.2.1 hj.2.2
      · have : n = 0 := by omega
        rw [this]; exact Bz3D
    · exact q.elim
  · exact q.elim⟩
end
end L3
namespace G
open PySem PySem.Spec PyProof.Rows L2 L3
noncomputable def Az4R : DSt → Res D := (b1 tupR (aCons (slotD 0) (aCons (asD (b1 seqR (slotP 1))) aNil)))
noncomputable def Bz4R : DSt → Out := (sRet (asD (vComp 2 (unTup 2 (unCons (setI 0) (unCons (setI 1) unNil))) (fun _ => .ok true) Az4R (b1 seqR (slotD 0)))))
noncomputable def Az3Z : List D → Res D := runD 1 Bz4R
noncomputable def Az4E : List (Str × (DSt → Res D)) := [("rules", (slotD 1)), ("doors", (asD (b1 seqR (slotP 2)))), ("wings", (b1 (callR 1 Az3Z) (aCons (slotD 3) aNil))), ("grants", (b1 (callR 1 Az3Z) (aCons (slotD 4) aNil)))]
noncomputable def Az3X : DSt → Out := (sSeq (sIf (tR (b2 ltR (slotP 1) (b1 lenR (slotP 0)))) (sRet (b2 ixR (slotP 0) (slotP 1))) Out.nx)
    (sSeq (sSet 2 (b2 addD (b2 mulE (slotP 1) (kD (.int 48271))) (kD (.int 11))))
    (sSeq (sIf (tR (b2 gtR (b1 lenR (slotP 0)) (kD (.int 0)))) (sSet 2 (b2 addD (slotP 2) (b2 mulE (b2 modD (b2 ixR (slotP 0) (b2 modD (b2 mulE (slotP 1) (kD (.int 7))) (b1 lenR (slotP 0)))) (kD (.int 2147483647))) (kD (.int 69621))))) Out.nx)
    (sRet (b2 modD (b2 mulE (slotP 2) (slotP 2)) (kD (.int 2147483629)))))))
noncomputable def Az0O : List D → Res D := runD 3 Az3X
noncomputable def Az4D : DSt → Out := (sSeq (sSet 0 (b2 addD (b2 modD (b2 mulE (slotP 0) (kD (.int 48271))) (kD (.int 1000000000000000003))) (slotP 4)))
    (sApp 3 (b2 modD (b2 fdivD (slotP 0) (kD (.int 7))) (slotP 1))))
noncomputable def Az8P : DSt → Out := (sSeq (sOwn 3 (b1 lstR aNil))
    (sSeq (sFor (setI 4) Az4D (b1 rng1R (aCons (b2 addD (kD (.int 1)) (b2 modD (slotP 0) (b1 minR (aCons (kD (.int 4)) (aCons (slotD 2) aNil))))) aNil)))
    (sRet (b1 tupofR (asD (b1 sortR (slotP 3)))))))
noncomputable def Az3E : List D → Res D := runD 5 Az8P
noncomputable def Az2O : DSt → Out := (sSeq (sSet 0 (b2 addD (b2 modD (b2 mulE (slotP 0) (kD (.int 69621))) (kD (.int 1000000000000000009))) (slotP 3)))
    (sApp 2 (b1 (callR 3 Az3E) (aCons (slotD 0) (aCons (b2 ixR (slotP 1) (kD (.int 1))) (aCons (b2 ixR (slotP 1) (kD (.int 2))) aNil))))))
noncomputable def Az5K : DSt → Out := (sSeq (sOwn 2 (b1 lstR aNil))
    (sSeq (sFor (setI 3) Az2O (b1 rng1R (aCons (b2 ixR (slotP 1) (kD (.int 0))) aNil)))
    (sRet (b1 tupofR (slotP 2)))))
noncomputable def Az1C : List D → Res D := runD 4 Az5K
noncomputable def Az5H : DSt → Res D := (slotD 0)
noncomputable def Az5I : DSt → Res Bool := (tOr2 (tR (b2 eqR (slotP 4) (asD (b1 lstR aNil)))) (tR (b2 leR (b1 absR (b2 subD (slotP 0) (b2 ixR (slotP 4) (b1 negD (kD (.int 1)))))) (b2 ixR (slotP 2) (kD (.int 3))))))
noncomputable def Az3O : DSt → Res D := (slotD 0)
noncomputable def Az3Q : DSt → Res Bool := (tOr2 (tR (b2 eqR (slotP 4) (asD (b1 lstR aNil)))) (tR (b2 leR (b1 absR (b2 subD (slotP 0) (b2 ixR (slotP 4) (b1 negD (kD (.int 1)))))) (b2 ixR (slotP 2) (kD (.int 3))))))
noncomputable def Az1U : DSt → Out := (sSeq (sSet 0 (b2 addD (b2 modD (b2 mulE (slotP 0) (kD (.int 48271))) (kD (.int 1000000000000000003))) (slotP 4)))
    (sSeq (sOwn 5 (vComp 1 (setI 0) Az5I Az5H (b1 seqR (b2 ixR (slotP 2) (slotP 4)))))
    (sSeq (sIf (tOr2 (tR (b2 eqR (slotP 5) (asD (b1 lstR aNil)))) (tR (b2 eqR (b2 modD (slotP 0) (kD (.int 29))) (kD (.int 0))))) (sOwn 5 (vComp 1 (setI 0) Az3Q Az3O (b1 rng1R (aCons (b2 ixR (slotP 1) (kD (.int 1))) aNil)))) Out.nx)
    (sApp 3 (b2 ixR (slotP 5) (b2 modD (b2 fdivD (slotP 0) (kD (.int 29))) (b1 lenR (slotP 5))))))))
noncomputable def Az6R : DSt → Out := (sSeq (sOwn 3 (b1 lstR aNil))
    (sSeq (sFor (setI 4) Az1U (b1 rng1R (aCons (b2 ixR (slotP 1) (kD (.int 0))) aNil)))
    (sRet (b1 tupofR (slotP 3)))))
noncomputable def Az2H : List D → Res D := runD 6 Az6R
noncomputable def Az1D : DSt → Out := (sSeq (sSet 5 (b2 addD (b2 modD (slotP 5) (b2 powD (kD (.int 10)) (kD (.int 60)))) (b2 mulE (kD (.int 7919)) (slotP 4))))
    (sIf (tOr2 (tR (b2 eqR (slotP 2) (asD (b1 lstR aNil)))) (tAnd2 (tR (b2 eqR (b2 modD (slotP 5) (kD (.int 3))) (kD (.int 0)))) (tR (b2 ltR (b1 lenR (slotP 2)) (kD (.int 8)))))) (sApp 2 (b1 (callR 2 Az1C) (aCons (b2 fdivD (slotP 5) (kD (.int 3))) (aCons (slotD 1) aNil)))) (sIf (tR (b2 ltR (b1 lenR (slotP 3)) (kD (.int 16)))) (sApp 3 (b1 (callR 3 Az2H) (aCons (b2 fdivD (slotP 5) (kD (.int 3))) (aCons (slotD 1) (aCons (b2 ixR (slotP 2) (b2 modD (b2 fdivD (slotP 5) (kD (.int 5))) (b1 lenR (slotP 2)))) aNil))))) Out.nx)))
noncomputable def Az6Q : DSt → Out := (sSeq (sOwn 2 (b1 lstR aNil))
    (sSeq (sOwn 3 (b1 lstR aNil))
    (sSeq (sFor (unTup 2 (unCons (setI 4) (unCons (setI 5) unNil))) Az1D (b1 enumR (aCons (asD (b2F catR (asD (b1 lstR (aCons (kD (.int 0)) aNil))) (asD (b3 slL (slotP 0) (b1 partR (kD (.int 4))) (b1 partR (kD (.int 40))))))) aNil)))
    (sFrzL 3 (sFrzL 2 (sRet (b1 tupR (aCons (slotD 2) (aCons (slotD 3) aNil)))))))))
noncomputable def Az2G : List D → Res D := runD 6 Az6Q
noncomputable def Az6P : DSt → Out := (sSeq (sSet 2 (kD (.str "abcdefghijklmnopqrstuvwxyz")))
    (sSeq (sSet 3 (b1 (callR 2 Az0O) (aCons (slotD 0) (aCons (kD (.int 0)) aNil))))
    (sRet (b2 addD (b2 addD (b2 addD (b2 mulZ (kD (.str "x")) (b2 modD (slotP 3) (kD (.int 4)))) (b2 ixR (slotP 2) (b2 modD (slotP 1) (kD (.int 26))))) (b2 ixR (slotP 2) (b2 modD (b2 fdivD (slotP 1) (kD (.int 26))) (kD (.int 26))))) (b2 mulZ (kD (.str "q")) (b2 modD (b2 fdivD (slotP 3) (kD (.int 4))) (kD (.int 5))))))))
noncomputable def Az0Q : List D → Res D := runD 4 Az6P
noncomputable def Az1Y : DSt → Out := (sIf (tR (b2 ninR (slotP 3) (b2 ixR (slotP 0) (slotP 2)))) (sRet (kD (.bl false))) Out.nx)
noncomputable def Az4J : DSt → Out := (sSeq (sFor (unTup 2 (unCons (setI 2) (unCons (setI 3) unNil))) Az1Y (b1 enumR (aCons (slotD 1) aNil)))
    (sRet (kD (.bl true))))
noncomputable def Az0X : List D → Res D := runD 4 Az4J
noncomputable def Az2N : DSt → Out := (sIf (tR (b2 ninR (slotP 4) (slotP 3))) (sRet (kD (.bl false))) Out.nx)
noncomputable def Az2M : DSt → Out := (sFor (setI 4) Az2N (b1 seqR (b2 ixR (slotP 0) (slotP 2))))
noncomputable def Az5J : DSt → Out := (sSeq (sFor (unTup 2 (unCons (setI 2) (unCons (setI 3) unNil))) Az2M (b1 enumR (aCons (slotD 1) aNil)))
    (sRet (kD (.bl true))))
noncomputable def Az1B : List D → Res D := runD 5 Az5J
noncomputable def Az5X : DSt → Out := (sRet (b2 ixR (slotP 0) (kD (.int 2))))
noncomputable def Az1Q : List D → Res D := runD 1 Az5X
noncomputable def Az6O : DSt → Out := (sRet (b2 ixR (slotP 0) (kD (.int 0))))
noncomputable def Az2F : List D → Res D := runD 1 Az6O
noncomputable def Az3I : DSt → Res D := (b2 ixR (slotP 0) (slotP 4))
noncomputable def Az4A : DSt → Out := (sSeq (sSet 4 (b1 tupofR (asD (b1 sortR (asD (vComp 1 (setI 0) (fun _ => .ok true) Az3I (b1 seqR (slotD 1))))))))
    (sSeq (sIf (tR (b2 gtR (b1 lenR (slotP 4)) (b1 (callR 1 Az1Q) (aCons (slotD 0) aNil)))) (fun _ => .stuck) Out.nx)
    (sApp 2 (slotD 4))))
noncomputable def Az8L : DSt → Out := (sSeq (sOwn 2 (b1 lstR aNil))
    (sSeq (sFor (setI 3) Az4A (b1 rng1R (aCons (b1 (callR 1 Az2F) (aCons (slotD 0) aNil)) aNil)))
    (sRet (b1 tupofR (slotP 2)))))
noncomputable def Az3A : List D → Res D := runD 5 Az8L
noncomputable def Az7E : DSt → Out := (fun _ => .stuck)
noncomputable def Az4I : DSt → Out := (sSeq (sIf (tR (b2 eqR (b1 lenR (slotP 2)) (kD (.int 0)))) (sRet (kD .non)) Out.nx)
    (sTry [] (tryF (aCons (slotD 0) (aCons (slotD 2) aNil)) 2 Az3A []) (fun d _ => .rt d) Out.nx (gsAs 3 Az7E)))
noncomputable def Az0T : List D → Res D := runD 4 Az4I
noncomputable def Az1F : DSt → Res D := (b2Q dgetR (slotQ 3) (slotP 0))
noncomputable def Az1H : DSt → Res Bool := (tR (b2R inQR (slotP 0) (slotQ 3)))
noncomputable def Az4N : DSt → Out := (sPutI 3 (slotD 4) (b1 (callR 3 Az0T) (aCons (slotD 0) (aCons (slotD 4) (aCons (asD (vComp 1 (setI 0) Az1H Az1F (b1 seqR (slotD 5)))) aNil)))))
noncomputable def Az5Z : DSt → Out := (sSeq (sOwnQ 3)
    (sSeq (sFor (unTup 2 (unCons (setI 4) (unCons (setI 5) unNil))) Az4N (b1Q pairsR (slotD 1)))
    (sFrz 3 (sRet (slotP 3)))))
noncomputable def Az0W : List D → Res D := runD 6 Az5Z
noncomputable def Az1S : DSt → Out := (sSeq (sPopV 5 4)
    (sIf (tR (b2R ninQR (slotP 5) (slotQ 3))) (sSeq (sPutI 3 (slotD 5) (kD (.bl true)))
    (sExtD 4 (bGet (slotQ 2) (aCons (slotD 5) (aCons (asD (b1 lstR aNil)) aNil))))) Out.nx))
noncomputable def Az1T : DSt → Res Bool := (tR (b2 gtR (b1 lenR (slotP 4)) (kD (.int 0))))
noncomputable def Az4G : DSt → Res D := (slotD 0)
noncomputable def Az3K : DSt → Res Bool := (tR (b2R inQR (slotP 0) (slotQ 4)))
noncomputable def Az8O : DSt → Out := (sSeq (sSet 2 (b1 dictLR (asD (b2F catR (b1 (fldR "House" "wings") (slotD 0)) (b1 (fldR "House" "grants") (slotD 0))))))
    (sSeq (sOwnQ 3)
    (sSeq (sOwn 4 (b1 lstR (aCons (slotD 1) aNil)))
    (sSeq (sWhile 100000 Az1T Az1S)
    (sFrz 3 (sRet (asD (vComp 1 (setI 0) Az3K Az4G (b1 seqR (b1 (fldR "House" "doors") (slotD 0)))))))))))
noncomputable def Az3D : List D → Res D := runD 6 Az8O
noncomputable def Az4F : DSt → Res D := (slotD 0)
noncomputable def Az8J : DSt → Out := (sRet (asD (vComp 2 (unTup 2 (unCons (setI 0) (unCons (setI 1) unNil))) (fun _ => .ok true) Az4F (b1 seqR (slotD 0)))))
noncomputable def Az1E : List D → Res D := runD 1 Az8J
noncomputable def Az3H : DSt → Res D := (b1 tupR (aCons (slotD 0) (aCons (b1 (callR 2 Az3D) (aCons (slotD 1) (aCons (slotD 0) aNil))) aNil)))
noncomputable def Az8H : DSt → Out := (sRet (b1 dictLR (asD (vComp 1 (setI 0) (fun _ => .ok true) Az3H (b1 seqR (b1 (callR 1 Az1E) (aCons (b1 (fldR "House" "grants") (slotD 0)) aNil)))))))
noncomputable def Az2Z : List D → Res D := runD 1 Az8H
noncomputable def Az5D : DSt → Res D := (slotD 0)
noncomputable def Az3W : DSt → Res Bool := (tR (b2 inR (slotP 2) (slotP 1)))
noncomputable def Az3V : DSt → Res D := (b1 tupR (aCons (slotD 0) (aCons (asD (vComp 2 (unTup 2 (unCons (setI 0) (unCons (setI 1) unNil))) Az3W Az5D (b1Q pairsR (slotD 2)))) aNil)))
noncomputable def Bz0Y : DSt → Out := (sSeq (sSet 1 (b1 (callR 1 Az2Z) (aCons (slotD 0) aNil)))
    (sRet (b1 dictLR (asD (vComp 1 (setI 0) (fun _ => .ok true) Az3V (b1 seqR (b1 (fldR "House" "doors") (slotD 0))))))))
noncomputable def Az2K : List D → Res D := runD 2 Bz0Y
noncomputable def Az5Y : DSt → Out := (sRet (b1 (callR 3 Az0W) (aCons (b1 (fldR "House" "rules") (slotD 0)) (aCons (b1 (callR 1 Az2K) (aCons (slotD 0) aNil)) (aCons (slotD 1) aNil)))))
noncomputable def Az1R : List D → Res D := runD 2 Az5Y
noncomputable def Az9J : DSt → Res D := (slotD 0)
noncomputable def Az9M : DSt → Res Bool := (tR (b2 eqR (b2 ixR (slotP 1) (slotP 5)) (slotP 6)))
noncomputable def Az9H : DSt → Out := (sSeq (sOwn 5 (vComp 2 (unTup 2 (unCons (setI 0) (unCons (setI 1) unNil))) Az9M Az9J (b1 enumR (aCons (slotD 0) aNil))))
    (sSeq (sIf (tR (b2 eqR (b1 lenR (slotP 5)) (kD (.int 0)))) (sRet (kD .non)) Out.nx)
    (sApp 2 (b2 ixR (slotP 5) (kD (.int 0))))))
noncomputable def Bz4Q : DSt → Out := (sSeq (sOwn 2 (b1 lstR aNil))
    (sSeq (sFor (unTup 2 (unCons (setI 3) (unCons (setI 4) unNil))) Az9H (b1 enumR (aCons (slotD 1) aNil)))
    (sRet (slotP 2))))
noncomputable def Az4M : List D → Res D := runD 6 Bz4Q
noncomputable def Az6F : DSt → Res D := (b2Q dgetR (slotQ 3) (slotP 0))
noncomputable def Az6E : DSt → Res D := (b2 ixR (slotP 1) (slotP 0))
noncomputable def Az8K : DSt → Out := (sSeq (sSet 3 (b1 (callR 2 Az4M) (aCons (asD (vComp 1 (setI 0) (fun _ => .ok true) Az6F (b1 seqR (slotD 0)))) (aCons (b2Q dgetR (slotQ 2) (slotP 1)) aNil))))
    (sRet (asD (vComp 1 (setI 0) (fun _ => .ok true) Az6E (b1 seqR (slotD 3))))))
noncomputable def Az2J : List D → Res D := runD 4 Az8K
noncomputable def Az1X : DSt → Out := (sIf (tR (b2 ninR (b2 ixR (slotP 1) (slotP 2)) (slotP 3))) (sRet (slotD 2)) Out.nx)
noncomputable def Az4H : DSt → Out := (sSeq (sFor (unTup 2 (unCons (setI 2) (unCons (setI 3) unNil))) Az1X (b1 enumR (aCons (slotD 0) aNil)))
    (sRet (kD .non)))
noncomputable def Az0V : List D → Res D := runD 4 Az4H
noncomputable def Az8I : DSt → Out := (sRet (b1 isNR (b1 (callR 2 Az0V) (aCons (slotD 0) (aCons (slotD 1) aNil)))))
noncomputable def Az2I : List D → Res D := runD 2 Az8I
noncomputable def Az9I : DSt → Res D := (slotD 0)
noncomputable def Az9L : DSt → Res Bool := (tR (b2R inQR (slotP 0) (slotQ 4)))
noncomputable def Az4C : DSt → Out := (sIf (tAnd2 (tR (b1 notNR (slotP 5))) (tAnd2 (tR (b2 ninR (slotP 6) (b2Q dgetR (slotQ 0) (slotP 4)))) (tR (b1 (callR 2 Az2I) (aCons (slotD 5) (aCons (b2Q dgetR (slotQ 3) (slotP 6)) aNil)))))) (sRet (b1 tupR (aCons (slotD 4) (aCons (slotD 6) (aCons (b1 (callR 3 Az2J) (aCons (asD (vComp 1 (setI 0) Az9L Az9I (b1 seqR (b2Q dgetR (slotQ 0) (slotP 4))))) (aCons (slotD 6) (aCons (slotD 3) aNil)))) aNil))))) Out.nx)
noncomputable def Az4B : DSt → Out := (sFor (setI 6) Az4C (b1 seqR (slotD 2)))
noncomputable def Az8N : DSt → Out := (sSeq (sFor (unTup 2 (unCons (setI 4) (unCons (setI 5) unNil))) Az4B (b1Q pairsR (slotD 1)))
    (sRet (kD .non)))
noncomputable def Az3C : List D → Res D := runD 7 Az8N
noncomputable def Az3J : DSt → Res D := (slotD 0)
noncomputable def Az1Z : DSt → Res Bool := (tR (b2R inQR (slotP 0) (slotQ 2)))
noncomputable def Az5W : DSt → Out := (sRet (asD (vComp 1 (setI 0) Az1Z Az3J (b1 seqR (b1 (callR 1 Az1E) (aCons (b1 (fldR "House" "grants") (slotD 0)) aNil))))))
noncomputable def Az1P : List D → Res D := runD 2 Az5W
noncomputable def Az8M : DSt → Out := (sSeq (sSet 2 (b1 (callR 1 Az2K) (aCons (slotD 0) aNil)))
    (sRet (b1 (callR 4 Az3C) (aCons (slotD 2) (aCons (b1 (callR 3 Az0W) (aCons (b1 (fldR "House" "rules") (slotD 0)) (aCons (slotD 2) (aCons (slotD 1) aNil)))) (aCons (b1 (callR 2 Az1P) (aCons (slotD 0) (aCons (slotD 1) aNil))) (aCons (slotD 1) aNil)))))))
noncomputable def Az3B : List D → Res D := runD 3 Az8M
noncomputable def Bz0K : DSt → Res D := (b1 (callR 2 Az0Q) (aCons (slotD 1) (aCons (slotD 0) aNil)))
noncomputable def Bz4F : DSt → Res D := (slotD 1)
noncomputable def Bz0S : DSt → Res Bool := (tR (b1 (callR 2 Az0X) (aCons (b2 ixR (slotP 6) (slotP 0)) (aCons (slotD 12) aNil))))
noncomputable def Az6M : DSt → Out := (sSeq (sFrzL 6 (sOwn 11 (vComp 2 (unTup 2 (unCons (setI 0) (unCons (setI 1) unNil))) Bz0S Bz4F (b1 enumR (aCons (slotD 6) aNil)))))
    (sIf (tR (b2 neR (slotP 11) (asD (b1 lstR aNil)))) (sSeq (sFrzL 11 (sApp 7 (b1 tupR (aCons (b1 (callR 2 Az0Q) (aCons (slotD 0) (aCons (b2 addD (kD (.int 26)) (slotP 9)) aNil))) (aCons (slotD 11) aNil)))))
    (sPutI 8 (b1 (callR 2 Az0Q) (aCons (slotD 0) (aCons (b2 addD (kD (.int 26)) (slotP 9)) aNil))) (slotD 10))) Out.nx))
noncomputable def Bz4E : DSt → Res D := (slotD 0)
noncomputable def Bz0R : DSt → Res Bool := (tR (b2 inR (slotP 17) (slotP 1)))
noncomputable def Bz4D : DSt → Res D := (slotD 0)
noncomputable def Bz0Q : DSt → Res Bool := (tR (b1 (callR 2 Az0X) (aCons (b2Q dgetR (slotQ 14) (slotP 16)) (aCons (b2Q dgetR (slotQ 9) (slotP 0)) aNil))))
noncomputable def Az6L : DSt → Out := (sSeq (sFrzL 7 (sOwn 11 (vComp 2 (unTup 2 (unCons (setI 0) (unCons (setI 1) unNil))) Bz0R Bz4E (b1 seqR (slotD 7)))))
    (sIf (tOr2 (tR (b2 eqR (slotP 11) (asD (b1 lstR aNil)))) (tR (b1 isNR (b2Q dgetR (slotQ 13) (slotP 15))))) (sIf (tOr2 (tR (b2 neR (slotP 11) (asD (b1 lstR aNil)))) (tR (b1 notNR (b2Q dgetR (slotQ 13) (slotP 15))))) (sRet (kD (.bl false))) Out.nx) (sIf (tNot1 (tR (b1 (callR 2 Az1B) (aCons (b2Q dgetR (slotQ 13) (slotP 15)) (aCons (b2 ixR (slotP 4) (slotP 14)) aNil))))) (sRet (kD (.bl false))) (sFrz 8 (sIf (tR (b2 neR (asD (vComp 1 (setI 0) Bz0Q Bz4D (b1Q keysR (slotD 8)))) (slotP 11))) (sRet (kD (.bl false))) Out.nx)))))
noncomputable def b_law : DSt → Out := (sSeq (sSet 1 (b2 addD (kD (.int 2)) (b2 modD (b1 (callR 2 Az0O) (aCons (slotD 0) (aCons (kD (.int 1)) aNil))) (kD (.int 19)))))
    (sSeq (sSet 2 (b2 addD (kD (.int 1)) (b2 modD (b1 (callR 2 Az0O) (aCons (slotD 0) (aCons (kD (.int 0)) aNil))) (b2 subD (slotP 1) (kD (.int 1))))))
    (sSeq (sSet 3 (b1 tupR (aCons (b2 addD (kD (.int 1)) (b2 modD (b1 (callR 2 Az0O) (aCons (slotD 0) (aCons (kD (.int 2)) aNil))) (kD (.int 24)))) (aCons (slotD 1) (aCons (b2 addD (kD (.int 1)) (b2 modD (b1 (callR 2 Az0O) (aCons (slotD 0) (aCons (kD (.int 3)) aNil))) (slotP 1))) (aCons (slotD 2) aNil))))))
    (sSeq (sAsg (unTup 2 (unCons (setI 4) (unCons (setI 5) unNil))) (b1 (callR 2 Az2G) (aCons (slotD 0) (aCons (slotD 3) aNil))))
    (sSeq (sOwn 6 (vComp 1 (setI 0) (fun _ => .ok true) Bz0K (b1 rng1R (aCons (b1 lenR (slotP 4)) aNil))))
    (sSeq (sOwn 7 (b1 lstR aNil))
    (sSeq (sOwnQ 8)
    (sSeq (sFor (unTup 2 (unCons (setI 9) (unCons (setI 10) unNil))) Az6M (b1 enumR (aCons (slotD 5) aNil)))
    (sSeq (sSet 12 (b1 (callR 4 (makeR 4 "House" Az4E)) (aCons (slotD 3) (aCons (asD (b1 seqR (slotP 6))) (aCons (asD (b1 lstR aNil)) (aCons (asD (b1 seqR (slotP 7))) aNil))))))
    (sSeq (sFrz 8 (sIf (tR (b1 notNR (b1 (callR 2 Az3B) (aCons (slotD 12) (aCons (slotD 8) aNil))))) (sRet (kD (.bl false))) Out.nx))
    (sSeq (sFrz 8 (sSet 13 (b1 (callR 2 Az1R) (aCons (slotD 12) (aCons (slotD 8) aNil)))))
    (sSeq (sFrzL 7 (sFrzL 6 (sFor (unTup 2 (unCons (setI 14) (unCons (setI 15) unNil))) Az6L (b1 enumR (aCons (slotD 6) aNil)))))
    (sRet (kD (.bl true)))))))))))))))
noncomputable def m_law : List D → Res D := runD 16 b_law
end G
namespace G
open PySem PySem.Spec PyProof.Rows L2 L3
local macro_rules | `(tactic| walk_at "ev*") => `(tactic| simp only [Az0R, startD, List.map_cons, List.map_nil, List.length_cons, List.length_nil, List.cons_append, List.nil_append, Nat.reduceAdd, Nat.reduceSub, List.replicate,
  kD, b1, b2, b3, bCh, tR, tAnd2, tOr2, tNot1, vAnd, vOr, vIf, aNil, aCons, oNone, asD, vComp, sSeq, sSet, sOwn, sIf, sFor, sWhile, b2F, sApp, sRet, sRetN, sExpr, sAsg, sSetI, sOwnR, sOwnQ, sPutI, b1Q, b2Q,
  Az0I, Az0L, Az0C, Az0P, Az0F, Res.bind_ok, Res.bind_ex, Res.bind_stuck, ofR_ok, ofR_ex, Bz5L, Az0N, Az6G, Bz2M, ifO_ok, Az6S, orB_ok, Cz3K, orD_bl, Az0G, Cz1J,
  eqR_ii, neR_ii, eqR_bb, ltR_ii, leR_ii, gtR_ii, geR_ii, Az3R, Bz4U, Bz2D, negD_i, Bz6W, Bz3X, Bz6V, Cz1R, Bz6X, absR_i, lenR_t, lenR_l, seqR_t, seqR_l, Bz7J, Az6U, Bz6T, Az0E, Az5Q, slD_l, slW_l, Az0S, Cz2I, Bz9J, Bz4I,
  List.set_cons_zero, List.set_cons_succ, lstR, tupR, if_true, if_false, reduceIte, Bool.not_true, Bool.not_false, Bool.false_eq_true, Nat.zero_le, Nat.reduceLeDiff, Nat.zero_add, Int.reduceLT, true_and, and_true, and_self, *])
noncomputable def pD (p : List Int) : D := .tup (p.map D.int)
noncomputable def bD (B : List (List Int)) : D := .tup (B.map pD)
theorem Bz3L : ∀ (ns : List Int), intsOf (ns.map D.int) = some ns
  | [] => rfl
  | n :: ns => by show (intsOf (ns.map D.int)).map (n :: ·) = _; rw [Bz3L ns]; rfl
theorem Bz6N (ns : List Int) (h : ns.length < 64) : sortR (.lst (ns.map D.int)) = .ok ((sortI ns).map D.int) := by
  unfold sortR; dsimp only; rw [Bz3L]; dsimp only; rw [if_pos h]
theorem z1000 {n : Nat} (h : n ≤ 1000) : n ≤ sizeLine := Nat.le_trans h k1000
theorem addD_s (x y : Str) (h : x.length + y.length ≤ 1000) : addD (.str x) (.str y) = .ok (.str (x ++ y)) := if_pos (z1000 h)
theorem Bz4T (x y : Str) : (x ++ y).length = x.length + y.length := Array.size_append ..
theorem modI (i j : Int) (h : 0 < j) : modD (.int i) (.int j) = .ok (.int (i % j)) := by rw [Bz6W, if_pos h]
theorem divI (i j : Int) (h : 0 < j) (h2 : j < 1073741824) : fdivD (.int i) (.int j) = .ok (.int (i / j)) := by rw [Bz3X, if_pos ⟨h, h2⟩]
theorem mulI (i j : Int) (h : -18446744073709551616 < j ∧ j < 18446744073709551616) : mulE (.int i) (.int j) = .ok (.int (i * j)) := by rw [Bz6V]; exact if_pos (.inr h)
theorem Az8E (ns : List Int) (k : Int) (h0 : 0 ≤ k) (h1 : k ≤ 1000) : ∃ v, callR 2 Az0O [.lst (ns.map D.int), .int k] = .ok (.int v) := by
  by_cases h : k < (ns.length : Int)
  · obtain ⟨d, e, hd⟩ := atI_in (xs := ns.map D.int) (i := k) h0 (by rw [List.length_map]; exact h)
    obtain ⟨v, _, rfl⟩ := List.mem_map.mp hd
    have e' := ixR_l _ _ _ e
    have dt : decide (k < ((ns.map D.int).length : Int)) = true := decide_eq_true (by rw [List.length_map]; exact h)
    refine ⟨v, Az0K _ _ _ _ ?_ rfl⟩
    clear h
    generalize ns.map D.int = ds at *
    unfold Az0O Az3X
    simp only [Az0R, startD, List.map_cons, List.map_nil, List.length_cons, List.length_nil, List.cons_append, List.nil_append, Nat.reduceAdd, Nat.reduceSub, List.replicate, tR, b1, b2, sSeq, sIf, sRet, Az0C, Az0F, Res.bind_ok, lenR_l, ltR_ii, dt, Az0G, ifO_ok, if_true, reduceIte, e', ofR_ok, Az6G, Az0S]
  · have dt : decide (k < ((ns.map D.int).length : Int)) = false := decide_eq_false (by rw [List.length_map]; exact h)
    have x1 := mulI k 48271 (by decide)
    have x2 := mulI k 7 (by decide)
    by_cases hn : 0 < (ns.length : Int)
    · have dn : decide (0 < ((ns.map D.int).length : Int)) = true := decide_eq_true (by rw [List.length_map]; exact hn)
      have m1 := modI (k * 7) ((ns.map D.int).length : Int) (by rw [List.length_map]; exact hn)
      obtain ⟨d, e, hd⟩ := atI_in (xs := ns.map D.int) (i := k * 7 % ((ns.map D.int).length : Int)) (Int.emod_nonneg _ (by rw [List.length_map]; omega)) (Int.emod_lt_of_pos _ (by rw [List.length_map]; exact hn))
      obtain ⟨v, _, rfl⟩ := List.mem_map.mp hd
      have e' := ixR_l _ _ _ e
      have m2 := modI v 2147483647 (by decide)
      have b0 := Int.emod_nonneg v (show (2147483647 : Int) ≠ 0 by decide)
      have b1' := Int.emod_lt_of_pos v (show (0 : Int) < 2147483647 by decide)
      generalize v % 2147483647 = r at *
      have x3 := mulI r 69621 (by decide)
      have x4 := mulI (k * 48271 + 11 + r * 69621) (k * 48271 + 11 + r * 69621) (by omega)
      have m3 := modI ((k * 48271 + 11 + r * 69621) * (k * 48271 + 11 + r * 69621)) 2147483629 (by decide)
      refine ⟨(k * 48271 + 11 + r * 69621) * (k * 48271 + 11 + r * 69621) % 2147483629, Az0K _ _ _ _ ?_ rfl⟩
      clear h hn b0 b1' hd e
      generalize ns.map D.int = ds at *
      unfold Az0O Az3X
      simp only [Az0R, startD, List.map_cons, List.map_nil, List.length_cons, List.length_nil, List.cons_append, List.nil_append, Nat.reduceAdd, Nat.reduceSub, List.replicate, tR, kD, b1, b2, sSeq, sIf, sSet, sRet, Az0C, Az0F, Res.bind_ok, lenR_l, ltR_ii, gtR_ii, dt, dn, Az0G, ifO_ok, if_true, if_false, Bool.false_eq_true, reduceIte, Az3R, x1, x2, m1, e', m2, x3, x4, m3, ofR_ok, Az0N, Az6G, Az0S, List.set_cons_zero, List.set_cons_succ]
    · have dn : decide (0 < ((ns.map D.int).length : Int)) = false := decide_eq_false (by rw [List.length_map]; exact hn)
      have x4 := mulI (k * 48271 + 11) (k * 48271 + 11) (by omega)
      have m3 := modI ((k * 48271 + 11) * (k * 48271 + 11)) 2147483629 (by decide)
      refine ⟨(k * 48271 + 11) * (k * 48271 + 11) % 2147483629, Az0K _ _ _ _ ?_ rfl⟩
      clear h hn
      generalize ns.map D.int = ds at *
      unfold Az0O Az3X
      simp only [Az0R, startD, List.map_cons, List.map_nil, List.length_cons, List.length_nil, List.cons_append, List.nil_append, Nat.reduceAdd, Nat.reduceSub, List.replicate, tR, kD, b1, b2, sSeq, sIf, sSet, sRet, Az0C, Az0F, Res.bind_ok, lenR_l, ltR_ii, gtR_ii, dt, dn, Az0G, ifO_ok, if_true, if_false, Bool.false_eq_true, reduceIte, Az3R, x1, x4, m3, ofR_ok, Az0N, Az0S, List.set_cons_zero, List.set_cons_succ]
noncomputable def abc : Str := "abcdefghijklmnopqrstuvwxyz"
theorem abc_at : ∀ k : Nat, k < 26 → ixR (.str abc) (.int (k : Int)) = .ok (.str ⟨#[97 + k]⟩) := by
  intro k hk
  have : ∀ k : Nat, k < 26 → atI abc.cps.toList (k : Int) = some (97 + k) := by decide +kernel
  show (@ite (Res D) (abc.length ≤ sizeLine) (Classical.propDecidable _) (match atI abc.cps.toList (k : Int) with | some c => Res.ok (D.str ⟨#[c]⟩) | none => .stuck) .stuck) = _
  rw [if_pos (z1000 (by decide)), this k hk]
noncomputable def nm (X Q : Str) (k : Nat) : Str := X ++ ⟨#[97 + k % 26]⟩ ++ ⟨#[97 + k / 26 % 26]⟩ ++ Q
theorem nm_inj {X Q : Str} {j k : Nat} (hj : j < 600) (hk : k < 600) (h : nm X Q j = nm X Q k) : j = k := by
  have h2 := congrArg (fun s : Str => s.cps.toList) h
  simp only [nm, Str.cps_append, Array.toList_append, List.append_assoc, List.append_cancel_left_eq] at h2
  simp only [List.cons_append, List.nil_append, List.cons.injEq] at h2
  omega
theorem mul_le (x : Str) (n : Int) (h : n ≤ 10) (hx : x.length = 1) : (PySem.Txt.mul x n).length ≤ 10 := by
  unfold PySem.Txt.mul
  split
  · decide
  · split
    · omega
    · show ((List.replicate n.toNat x.cps).foldl (· ++ ·) #[]).size ≤ 10
      have f : ∀ (k : Nat) (b : Array Nat), ((List.replicate k x.cps).foldl (· ++ ·) b).size = b.size + k * x.cps.size := by
        intro k
        induction k with
        | zero => intro b; simp
        | succ k ih => intro b; rw [List.replicate_succ, List.foldl_cons, ih, Array.size_append, Nat.succ_mul]; omega
      rw [f, show x.cps.size = 1 from hx]
      simp
      omega
theorem Cz1N (ns : List Int) : ∃ X Q : Str, X.length ≤ 10 ∧ Q.length ≤ 10 ∧ ∀ k : Nat, k < 600 → callR 2 Az0Q [.lst (ns.map D.int), .int (k : Int)] = .ok (.str (nm X Q k)) := by
  obtain ⟨p, e0⟩ := Az8E ns 0 (by decide) (by decide)
  have m1 := modI p 4 (by decide)
  have a1 := Int.emod_nonneg p (show (4 : Int) ≠ 0 by decide)
  have a2 := Int.emod_lt_of_pos p (show (0 : Int) < 4 by decide)
  have d1 := divI p 4 (by decide) (by decide)
  have m2 := modI (p / 4) 5 (by decide)
  have a3 := Int.emod_nonneg (p / 4) (show (5 : Int) ≠ 0 by decide)
  have a4 := Int.emod_lt_of_pos (p / 4) (show (0 : Int) < 5 by decide)
  generalize p % 4 = q1 at *
  generalize p / 4 % 5 = q2 at *
  have s1 : mulZ (.str "x") (.int q1) = .ok (.str (PySem.Txt.mul "x" q1)) := if_pos ⟨a1, by omega, by decide⟩
  have s2 : mulZ (.str "q") (.int q2) = .ok (.str (PySem.Txt.mul "q" q2)) := if_pos ⟨a3, by omega, by decide⟩
  have l1 := mul_le "x" q1 (by omega) rfl
  have l2 := mul_le "q" q2 (by omega) rfl
  generalize PySem.Txt.mul "x" q1 = X at *
  generalize PySem.Txt.mul "q" q2 = Q at *
  refine ⟨X, Q, l1, l2, fun k hk => ?_⟩
  have m3 := modI (k : Int) 26 (by decide)
  have d3 := divI (k : Int) 26 (by decide) (by decide)
  have m4 := modI ((k : Int) / 26) 26 (by decide)
  have t1 := abc_at (k % 26) (by omega)
  have t2 := abc_at (k / 26 % 26) (by omega)
  rw [show ((k % 26 : Nat) : Int) = (k : Int) % 26 by omega] at t1
  rw [show ((k / 26 % 26 : Nat) : Int) = (k : Int) / 26 % 26 by omega] at t2
  have g1 := addD_s X ⟨#[97 + k % 26]⟩ (by show X.length + 1 ≤ 1000; omega)
  have g2 := addD_s (X ++ ⟨#[97 + k % 26]⟩) ⟨#[97 + k / 26 % 26]⟩ (by rw [Bz4T]; show X.length + 1 + 1 ≤ 1000; omega)
  have g3 := addD_s (X ++ ⟨#[97 + k % 26]⟩ ++ ⟨#[97 + k / 26 % 26]⟩) Q (by rw [Bz4T, Bz4T]; show X.length + 1 + 1 + Q.length ≤ 1000; omega)
  refine Az0K _ _ _ _ ?_ rfl
  unfold nm
  clear hk l1 l2 a1 a2 a3 a4
  generalize (k : Int) % 26 = r1 at *
  generalize (k : Int) / 26 % 26 = r2 at *
  unfold abc at *
  unfold Az0Q Az6P
  simp only [Az0R, startD, List.map_cons, List.map_nil, List.length_cons, List.length_nil, List.cons_append, List.nil_append, Nat.reduceAdd, Nat.reduceSub, List.replicate, kD, b1, b2, aCons, aNil, Az0E, sSeq, sSet, sRet, Az0I, Az0L, Az0C, Az0F, Res.bind_ok, e0, m1, d1, m2, s1, s2, m3, d3, m4, t1, t2, g1, g2, g3, ofR_ok, Az0N, Az0S, List.set_cons_zero, List.set_cons_succ]
structure PinOk (d h : Int) (p : List Int) : Prop where
  up : Up p
  bd : ∀ c ∈ p, 0 ≤ c ∧ c < d
  ne : p ≠ []
  le : (p.length : Int) ≤ h
theorem pin_ex (c d h : Int) (hd : 0 < d) (hd2 : d < 1000) (hh : 1 ≤ h) : ∃ p : List Int, callR 3 Az3E [.int c, .int d, .int h] = .ok (pD p) ∧ PinOk d h p := by
  have mn := Bz6X 4 h
  have m1 := modI c (min 4 h) (by omega)
  have a1 := Int.emod_nonneg c (show min 4 h ≠ 0 by omega)
  have a2 := Int.emod_lt_of_pos c (show 0 < min 4 h by omega)
  generalize c % min 4 h = q at *
  have rg := rng1_i (1 + q) (by omega) (by omega)
  have hn1 : 1 ≤ (1 + q).toNat := by omega
  have hn2 : ((1 + q).toNat : Int) ≤ h ∧ (1 + q).toNat ≤ 4 := by omega
  generalize (1 + q).toNat = n at *
  obtain ⟨δ2, f, c2, ms, x, rfl, hl, hb⟩ := Az3L (t := setI 4) (body := Az4D) (fun i δ => ∃ (c2 : Int) (ms : List Int) (x : Option S), δ = [some (.d (.int c2)), some (.d (.int d)), some (.d (.int h)), some (.o (ms.map D.int)), x] ∧ ms.length = i ∧ ∀ m ∈ ms, 0 ≤ m ∧ m < d)
    (rngD 0 n) [some (.d (.int c)), some (.d (.int d)), some (.d (.int h)), some (.o []), none] (fun i e δ he hI => by
      obtain ⟨c2, ms, x, rfl, hl, hb⟩ := hI
      obtain ⟨hi, rfl⟩ := Az6Y he
      have x1 := mulI c2 48271 (by decide)
      have y1 := modI (c2 * 48271) 1000000000000000003 (by decide)
      have y2 := divI (c2 * 48271 % 1000000000000000003 + (0 + (i : Int))) 7 (by decide) (by decide)
      have y3 := modI ((c2 * 48271 % 1000000000000000003 + (0 + (i : Int))) / 7) d hd
      have b0 := Int.emod_nonneg ((c2 * 48271 % 1000000000000000003 + (0 + (i : Int))) / 7) (show d ≠ 0 by omega)
      have b1' := Int.emod_lt_of_pos ((c2 * 48271 % 1000000000000000003 + (0 + (i : Int))) / 7) hd
      have ap := Az6B 3 [some (.d (.int (c2 * 48271 % 1000000000000000003 + (0 + (i : Int))))), some (.d (.int d)), some (.d (.int h)), some (.o (ms.map D.int)), some (.d (.int (0 + (i : Int))))] (ms.map D.int) (.int ((c2 * 48271 % 1000000000000000003 + (0 + (i : Int))) / 7 % d)) rfl (by rw [List.length_map]; omega)
      refine ⟨_, rfl, [some (.d (.int (c2 * 48271 % 1000000000000000003 + (0 + (i : Int))))), some (.d (.int d)), some (.d (.int h)), some (.o ((ms ++ [(c2 * 48271 % 1000000000000000003 + (0 + (i : Int))) / 7 % d]).map D.int)), some (.d (.int (0 + (i : Int))))], .inl ?_, _, _, _, rfl, by rw [List.length_append, hl]; rfl, fun m hm => ?_⟩
      · rw [List.map_append, List.map_singleton]
        clear b0 b1' hl hb hn1 hn2
        unfold Az4D
        simp only [List.set_cons_zero, List.set_cons_succ, kD, b2, sSeq, sSet, sApp, Az0C, Az0F, Res.bind_ok, x1, y1, Az3R, ofR_ok, Az0N, y2, y3, ap]
      · rcases List.mem_append.mp hm with hm | hm
        · exact hb m hm
        · rw [List.mem_singleton.mp hm]; exact ⟨b0, b1'⟩) ⟨c, [], none, rfl, rfl, fun m hm => by simp at hm⟩
  rw [Az5P] at hl
  have so := Bz6N ms (by omega)
  refine ⟨sortI ms, Az0K _ _ _ _ ?_ rfl, Az6T ms, fun z hz => hb z (mem_sortI.mp hz), fun z => ?_, by have := Az9Q ms; omega⟩
  · clear hb hl a1 a2 hn1 hn2
    generalize ms.map D.int = V at *
    unfold Az3E Az8P pD
    simp only [Az0R, startD, List.map_cons, List.map_nil, List.length_cons, List.length_nil, List.cons_append, List.nil_append, Nat.reduceAdd, Nat.reduceSub, List.replicate, kD, b1, b2, asD, lstR, aCons, aNil, Az0E, sSeq, sOwn, sFor, sRet, Az0I, Az0L, Az0C, Az0P, Az0F, Res.bind_ok, mn, m1, Az3R, rg, f, so, Az6U, ofR_ok, Az0N, Az0S, List.set_cons_zero, List.set_cons_succ, Nat.zero_le, if_true, reduceIte]
  · cases ms with
    | nil => simp at hl; omega
    | cons m ms =>
      have : m ∈ sortI (m :: ms) := mem_sortI.mpr List.mem_cons_self
      rw [z] at this; simp at this
noncomputable abbrev ruD (p d h s : Int) : D := .tup [.int p, .int d, .int h, .int s]
theorem Bz6K (c p d h s : Int) (hp : 0 ≤ p) (hp2 : p ≤ 100) (hd : 0 < d) (hd2 : d < 1000) (hh : 1 ≤ h) : ∃ B : List (List Int), callR 2 Az1C [.int c, ruD p d h s] = .ok (bD B) ∧ B.length = p.toNat ∧ ∀ q ∈ B, PinOk d h q := by
  have i0 : ixR (ruD p d h s) (.int 0) = .ok (.int p) := rfl
  have i1 : ixR (ruD p d h s) (.int 1) = .ok (.int d) := rfl
  have i2 : ixR (ruD p d h s) (.int 2) = .ok (.int h) := rfl
  have rg := rng1_i p hp (by omega)
  have hn : p.toNat ≤ 100 := by omega
  generalize p.toNat = n at *
  generalize ruD p d h s = RU at *
  obtain ⟨δ2, f, c2, B, x, rfl, hl, hb⟩ := Az3L (t := setI 3) (body := Az2O) (fun i δ => ∃ (c2 : Int) (B : List (List Int)) (x : Option S), δ = [some (.d (.int c2)), some (.d RU), some (.o (B.map pD)), x] ∧ B.length = i ∧ ∀ q ∈ B, PinOk d h q)
    (rngD 0 n) [some (.d (.int c)), some (.d RU), some (.o []), none] (fun i e δ he hI => by
      obtain ⟨c2, B, x, rfl, hl, hb⟩ := hI
      obtain ⟨hi, rfl⟩ := Az6Y he
      have x1 := mulI c2 69621 (by decide)
      have y1 := modI (c2 * 69621) 1000000000000000009 (by decide)
      obtain ⟨q, e1, hq⟩ := pin_ex (c2 * 69621 % 1000000000000000009 + (0 + (i : Int))) d h hd hd2 hh
      generalize c2 * 69621 % 1000000000000000009 = r at *
      have ap := Az6B 2 [some (.d (.int (r + (0 + (i : Int))))), some (.d RU), some (.o (B.map pD)), some (.d (.int (0 + (i : Int))))] (B.map pD) (pD q) rfl (by rw [List.length_map]; omega)
      refine ⟨_, rfl, [some (.d (.int (r + (0 + (i : Int))))), some (.d RU), some (.o ((B ++ [q]).map pD)), some (.d (.int (0 + (i : Int))))], .inl ?_, _, _, _, rfl, by rw [List.length_append, hl]; rfl, fun m hm => ?_⟩
      · rw [List.map_append, List.map_singleton]
        clear hl hb hq
        unfold Az2O
        simp only [List.set_cons_zero, List.set_cons_succ, kD, b1, b2, aCons, aNil, Az0E, sSeq, sSet, sApp, Az0I, Az0L, Az0C, Az0F, Res.bind_ok, x1, y1, Az3R, ofR_ok, Az0N, i1, i2, e1, ap]
      · rcases List.mem_append.mp hm with hm | hm
        · exact hb m hm
        · rw [List.mem_singleton.mp hm]; exact hq) ⟨c, [], none, rfl, rfl, fun m hm => by simp at hm⟩
  rw [Az5P] at hl
  refine ⟨B, Az0K _ _ _ _ ?_ rfl, hl, hb⟩
  clear hb hl
  unfold bD
  generalize B.map pD = V at *
  unfold Az1C Az5K
  simp only [Az0R, startD, List.map_cons, List.map_nil, List.length_cons, List.length_nil, List.cons_append, List.nil_append, Nat.reduceAdd, Nat.reduceSub, List.replicate, kD, b1, b2, lstR, aCons, aNil, Az0E, sSeq, sOwn, sFor, sRet, Az0I, Az0L, Az0C, Az0P, Az0F, Res.bind_ok, i0, rg, f, Az6U, ofR_ok, Az0N, Az0S, List.set_cons_zero, List.set_cons_succ, Nat.zero_le, if_true, reduceIte]
theorem pD_at (cs : List Int) (i : Nat) (h : i < cs.length) : ixR (pD cs) (.int (i : Int)) = .ok (.int (cs.getD i 0)) := by
  refine ixR_t _ _ _ (Az6A (by omega) ?_)
  rw [show ((i : Int)).toNat = i by omega, List.getElem?_map, List.getElem?_eq_getElem h, List.getD_eq_getElem?_getD, List.getElem?_eq_getElem h]
  rfl
theorem bD_at (A : List (List Int)) (i : Nat) (h : i < A.length) : ixR (bD A) (.int (i : Int)) = .ok (pD (A.getD i [])) := by
  refine ixR_t _ _ _ (Az6A (by omega) ?_)
  rw [show ((i : Int)).toNat = i by omega, List.getElem?_map, List.getElem?_eq_getElem h, List.getD_eq_getElem?_getD, List.getElem?_eq_getElem h]
  rfl
theorem eq_nil (cs : List Int) : eqR (.lst (cs.map D.int)) (.lst []) = .ok (.bl cs.isEmpty) := Cz2K cs
noncomputable def nearB (s : Int) (cs : List Int) (x : Int) : Bool := cs.isEmpty || decide ((if x - cs.getLast?.getD 0 < 0 then -(x - cs.getLast?.getD 0) else x - cs.getLast?.getD 0) ≤ s)
theorem near_c {gc : DSt → Res Bool} (hg : gc = (tOr2 (tR (b2 eqR (slotP 4) (asD (b1 lstR aNil)))) (tR (b2 leR (b1 absR (b2 subD (slotP 0) (b2 ixR (slotP 4) (b1 negD (kD (.int 1)))))) (b2 ixR (slotP 2) (kD (.int 3)))))))
    (x : Int) (A B : D) (p d h s : Int) (cs : List Int) (E F : Option S) : gc [some (.d (.int x)), some (.d A), some (.d (ruD p d h s)), some (.d B), some (.o (cs.map D.int)), E, F] = .ok (nearB s cs x) := by
  subst hg
  have i3 : ixR (ruD p d h s) (.int 3) = .ok (.int s) := rfl
  have e1 := eq_nil cs
  unfold nearB
  cases cs with
  | nil =>
    simp only [tOr2, tR, b2, b1, asD, lstR, aNil, kD, Az0F, Az0C, Az0P, Res.bind_ok, e1, Az0G, orB_ok, List.isEmpty_nil, List.length_nil, Nat.zero_le, if_true, reduceIte, Bool.true_or]
  | cons c r =>
    obtain ⟨v, z, e⟩ : ∃ v z, (c :: r : List Int) = v ++ [z] := ⟨(c :: r).dropLast, (c :: r).getLast (by simp), (List.dropLast_concat_getLast (by simp)).symm⟩
    rw [e] at e1 ⊢
    have l1 : ixR (.lst ((v ++ [z]).map D.int)) (.int (-1)) = .ok (.int z) := by
      rw [List.map_append, List.map_singleton]
      exact ixR_l _ _ _ (Bz9O _ _)
    have ie : (v ++ [z]).isEmpty = false := by cases v <;> rfl
    rw [ie] at e1 ⊢
    have gl : (v ++ [z]).getLast?.getD 0 = z := by simp
    rw [gl]
    generalize (v ++ [z]).map D.int = V at *
    simp only [tOr2, tR, b2, b1, asD, lstR, aNil, kD, Az0F, Az0C, Az0P, Res.bind_ok, e1, Az0G, orB_ok, negD_i, l1, Bz2D, absR_i, i3, leR_ii, List.length_nil, Nat.zero_le, if_true, if_false, Bool.false_eq_true, reduceIte, Bool.false_or]
theorem Bz0P {gc : DSt → Res Bool} {fe : DSt → Res D} (hg : gc = (tOr2 (tR (b2 eqR (slotP 4) (asD (b1 lstR aNil)))) (tR (b2 leR (b1 absR (b2 subD (slotP 0) (b2 ixR (slotP 4) (b1 negD (kD (.int 1)))))) (b2 ixR (slotP 2) (kD (.int 3))))))) (hf : fe = slotD 0)
    (A B : D) (p d h s : Int) (cs xs : List Int) (E F : Option S) (hx : xs.length ≤ 1000) : compR 1 (setI 0) gc fe [some (.d A), some (.d (ruD p d h s)), some (.d B), some (.o (cs.map D.int)), E, F] (xs.map D.int) = .ok ((xs.filter (nearB s cs)).map D.int) := by
  refine Az1G ?_ (by rw [List.length_map]; omega)
  have := Az5E (c := gc) (fe := fe) (fun d => match d with | .int x => nearB s cs x | _ => false) id [some (.d A), some (.d (ruD p d h s)), some (.d B), some (.o (cs.map D.int)), E, F] (xs.map D.int) none (fun y hy => by
    obtain ⟨x, _, rfl⟩ := List.mem_map.mp hy
    refine ⟨near_c hg x A B p d h s cs E F, fun _ => ?_⟩
    subst hf; rfl)
  refine this.trans (congrArg Res.ok ?_)
  rw [List.map_id, List.filter_map]
  rfl
theorem Bz5O (s : Int) (cs : List Int) (hs : 0 ≤ s) : nearB s cs (cs.getLast?.getD 0) = true := by
  unfold nearB
  rw [Bool.or_eq_true]
  right
  rw [decide_eq_true_eq]
  omega
theorem Cz3F (c p d h s : Int) (B : List (List Int)) (hp : 0 ≤ p) (hp2 : p ≤ 100) (hB : B.length = p.toNat) (hd : 0 < d) (hd2 : d < 1000) (hs : 0 ≤ s) (hq : ∀ q ∈ B, PinOk d h q) (hh : h < 1000) :
    ∃ cs : List Int, callR 3 Az2H [.int c, ruD p d h s, bD B] = .ok (pD cs) ∧ cs.length = p.toNat := by
  have i0 : ixR (ruD p d h s) (.int 0) = .ok (.int p) := rfl
  have i1 : ixR (ruD p d h s) (.int 1) = .ok (.int d) := rfl
  have rg := rng1_i p hp (by omega)
  have rd := rng1_i d (by omega) (by omega)
  have hn : p.toNat ≤ 100 := by omega
  have rD : rngD 0 d.toNat = ((List.range d.toNat).map fun i : Nat => (0 : Int) + i).map D.int := by unfold rngD; rw [List.map_map]; rfl
  rw [rD] at rd
  have rl : ((List.range d.toNat).map fun i : Nat => (0 : Int) + i).length ≤ 1000 := by rw [List.length_map, List.length_range]; omega
  have rm : ∀ x : Int, 0 ≤ x → x < d → x ∈ (List.range d.toNat).map fun i : Nat => (0 : Int) + i := fun x h0 h1 => List.mem_map.mpr ⟨x.toNat, List.mem_range.mpr (by omega), by omega⟩
  have rb : ∀ x ∈ (List.range d.toNat).map (fun i : Nat => (0 : Int) + i), 0 ≤ x ∧ x < d := fun x hx => by
    obtain ⟨i, hi, rfl⟩ := List.mem_map.mp hx
    have := List.mem_range.mp hi
    omega
  generalize (List.range d.toNat).map (fun i : Nat => (0 : Int) + i) = RD at *
  obtain ⟨δ2, f, c2, cs, x, y, rfl, hl, hb⟩ := Az3L (t := setI 4) (body := Az1U) (fun i δ => ∃ (c2 : Int) (cs : List Int) (x y : Option S), δ = [some (.d (.int c2)), some (.d (ruD p d h s)), some (.d (bD B)), some (.o (cs.map D.int)), x, y] ∧ cs.length = i ∧ ∀ m ∈ cs, 0 ≤ m ∧ m < d)
    (rngD 0 p.toNat) [some (.d (.int c)), some (.d (ruD p d h s)), some (.d (bD B)), some (.o []), none, none] (fun i e δ he hI => by
      obtain ⟨c2, cs, x, y, rfl, hl, hb⟩ := hI
      obtain ⟨hi, rfl⟩ := Az6Y he
      rw [Int.zero_add]
      have x1 := mulI c2 48271 (by decide)
      have y1 := modI (c2 * 48271) 1000000000000000003 (by decide)
      generalize c2 * 48271 % 1000000000000000003 = r at *
      have at1 := bD_at B i (by omega)
      have mem1 : B.getD i [] ∈ B := by
        rw [List.getD_eq_getElem?_getD, List.getElem?_eq_getElem (show i < B.length by omega)]
        exact List.getElem_mem _
      have pk := hq _ mem1
      generalize B.getD i [] = q at *
      have sq : seqR (pD q) = .ok (q.map D.int) := rfl
      have lq : q.length ≤ 1000 := by have := pk.le; omega
      have y2 := modI (r + (i : Int)) 29 (by decide)
      have y3 := divI (r + (i : Int)) 29 (by decide) (by decide)
      have k1 := Bz0P (gc := Az5I) (fe := Az5H) rfl rfl (.int (r + (i : Int))) (bD B) p d h s cs q (some (.d (.int (i : Int)))) y lq
      have k2 : ∀ Z, compR 1 (setI 0) Az3Q Az3O [some (.d (.int (r + (i : Int)))), some (.d (ruD p d h s)), some (.d (bD B)), some (.o (cs.map D.int)), some (.d (.int (i : Int))), Z] (RD.map D.int) = .ok ((RD.filter (nearB s cs)).map D.int) := fun Z => Bz0P (gc := Az3Q) (fe := Az3O) rfl rfl (.int (r + (i : Int))) (bD B) p d h s cs RD (some (.d (.int (i : Int)))) Z rl
      have ne2 : RD.filter (nearB s cs) ≠ [] := fun z => by
        have : cs.getLast?.getD 0 ∈ RD.filter (nearB s cs) := List.mem_filter.mpr ⟨rm _ (by
          cases hc : cs.getLast? with
          | none => simp
          | some v => exact (hb v (List.mem_of_getLast? hc)).1) (by
          cases hc : cs.getLast? with
          | none => simpa using hd
          | some v => exact (hb v (List.mem_of_getLast? hc)).2), Bz5O s cs hs⟩
        rw [z] at this; simp at this
      have fin : ∀ ys : List Int, ys ≠ [] → (∀ m ∈ ys, 0 ≤ m ∧ m < d) → ∃ v, (0 ≤ v ∧ v < d) ∧ modD (.int ((r + (i : Int)) / 29)) (.int ((ys.map D.int).length : Int)) = .ok (.int ((r + (i : Int)) / 29 % ((ys.map D.int).length : Int))) ∧ ixR (.lst (ys.map D.int)) (.int ((r + (i : Int)) / 29 % ((ys.map D.int).length : Int))) = .ok (.int v) := fun ys h1 h2 => by
        have hp : 0 < ((ys.map D.int).length : Int) := by rw [List.length_map]; have := List.length_pos_iff.mpr h1; omega
        obtain ⟨dd, e, hdd⟩ := atI_in (xs := ys.map D.int) (i := (r + (i : Int)) / 29 % ((ys.map D.int).length : Int)) (Int.emod_nonneg _ (by omega)) (Int.emod_lt_of_pos _ hp)
        obtain ⟨v, hv, rfl⟩ := List.mem_map.mp hdd
        exact ⟨v, h2 v hv, modI _ _ hp, ixR_l _ _ _ e⟩
      have q1 := eq_nil (q.filter (nearB s cs))
      have done : ∀ (ys : List Int) (v : Int), (0 ≤ v ∧ v < d) → sApp 3 (b2 ixR (slotP 5) (b2 modD (b2 fdivD (slotP 0) (kD (.int 29))) (b1 lenR (slotP 5)))) [some (.d (.int (r + (i : Int)))), some (.d (ruD p d h s)), some (.d (bD B)), some (.o (cs.map D.int)), some (.d (.int (i : Int))), some (.o (ys.map D.int))] = .nx [some (.d (.int (r + (i : Int)))), some (.d (ruD p d h s)), some (.d (bD B)), some (.o ((cs ++ [v]).map D.int)), some (.d (.int (i : Int))), some (.o (ys.map D.int))] →
          ∃ δ2, (sApp 3 (b2 ixR (slotP 5) (b2 modD (b2 fdivD (slotP 0) (kD (.int 29))) (b1 lenR (slotP 5)))) [some (.d (.int (r + (i : Int)))), some (.d (ruD p d h s)), some (.d (bD B)), some (.o (cs.map D.int)), some (.d (.int (i : Int))), some (.o (ys.map D.int))] = .nx δ2) ∧ ∃ (c2 : Int) (cs' : List Int) (x y : Option S), δ2 = [some (.d (.int c2)), some (.d (ruD p d h s)), some (.d (bD B)), some (.o (cs'.map D.int)), x, y] ∧ cs'.length = i + 1 ∧ ∀ m ∈ cs', 0 ≤ m ∧ m < d := fun ys v hv e => by
        refine ⟨_, e, _, cs ++ [v], _, _, rfl, by rw [List.length_append, hl]; rfl, fun m hm => ?_⟩
        rcases List.mem_append.mp hm with hm | hm
        · exact hb m hm
        · rw [List.mem_singleton.mp hm]; exact hv
      have app : ∀ ys : List Int, ys ≠ [] → (∀ m ∈ ys, 0 ≤ m ∧ m < d) → ∃ v, (0 ≤ v ∧ v < d) ∧ sApp 3 (b2 ixR (slotP 5) (b2 modD (b2 fdivD (slotP 0) (kD (.int 29))) (b1 lenR (slotP 5)))) [some (.d (.int (r + (i : Int)))), some (.d (ruD p d h s)), some (.d (bD B)), some (.o (cs.map D.int)), some (.d (.int (i : Int))), some (.o (ys.map D.int))] = .nx [some (.d (.int (r + (i : Int)))), some (.d (ruD p d h s)), some (.d (bD B)), some (.o ((cs ++ [v]).map D.int)), some (.d (.int (i : Int))), some (.o (ys.map D.int))] := fun ys h1 h2 => by
        obtain ⟨v, hv, m1, m2⟩ := fin ys h1 h2
        refine ⟨v, hv, ?_⟩
        have ap := Az6B 3 [some (.d (.int (r + (i : Int)))), some (.d (ruD p d h s)), some (.d (bD B)), some (.o (cs.map D.int)), some (.d (.int (i : Int))), some (.o (ys.map D.int))] (cs.map D.int) (.int v) rfl (by rw [List.length_map]; omega)
        rw [List.map_append, List.map_singleton]
        generalize ys.map D.int = Y at *
        generalize cs.map D.int = C at *
        simp only [sApp, b2, b1, kD, Az0C, Az0F, Az0P, Res.bind_ok, y3, lenR_l, m1, m2, ap, List.set_cons_zero, List.set_cons_succ]
      have bq : ∀ m ∈ q.filter (nearB s cs), 0 ≤ m ∧ m < d := fun m hm => pk.bd m (List.mem_filter.mp hm).1
      have bR : ∀ m ∈ RD.filter (nearB s cs), 0 ≤ m ∧ m < d := fun m hm => rb m (List.mem_filter.mp hm).1
      have go : ∃ δ2, Az1U [some (.d (.int c2)), some (.d (ruD p d h s)), some (.d (bD B)), some (.o (cs.map D.int)), some (.d (.int (i : Int))), y] = .nx δ2 ∧ ∃ (c2 : Int) (cs' : List Int) (x y : Option S), δ2 = [some (.d (.int c2)), some (.d (ruD p d h s)), some (.d (bD B)), some (.o (cs'.map D.int)), x, y] ∧ cs'.length = i + 1 ∧ ∀ m ∈ cs', 0 ≤ m ∧ m < d := by
        by_cases hc : (q.filter (nearB s cs)).isEmpty = true ∨ (r + (i : Int)) % 29 = 0
        · obtain ⟨v, hv, e⟩ := app _ ne2 bR
          obtain ⟨δ2, e2, h2⟩ := done _ v hv e
          refine ⟨δ2, ?_, h2⟩
          rw [← e2]
          have tst : (tOr2 (tR (b2 eqR (slotP 5) (asD (b1 lstR aNil)))) (tR (b2 eqR (b2 modD (slotP 0) (kD (.int 29))) (kD (.int 0))))) [some (.d (.int (r + (i : Int)))), some (.d (ruD p d h s)), some (.d (bD B)), some (.o (cs.map D.int)), some (.d (.int (i : Int))), some (.o ((q.filter (nearB s cs)).map D.int))] = .ok true := by
            simp only [tOr2, tR, b2, b1, asD, lstR, aNil, kD, Az0F, Az0C, Az0P, Res.bind_ok, q1, Az0G, orB_ok, y2, eqR_ii, List.length_nil, Nat.zero_le, if_true, reduceIte]
            rcases hc with hc | hc
            · rw [hc]; rfl
            · rw [hc]; simp
          unfold Az1U
          simp only [sSeq, sSet, sOwn, sIf, vComp, b2, b1, kD, aCons, aNil, Az0E, Az0C, Az0F, Az0P, Az0I, Res.bind_ok, x1, y1, Az3R, ofR_ok, Az0N, at1, sq, k1, k2, i1, rd, List.set_cons_zero, List.set_cons_succ] at tst ⊢
          rw [tst]
          rfl
        · obtain ⟨v, hv, e⟩ := app (q.filter (nearB s cs)) (fun z => hc (.inl (by rw [z]; rfl))) bq
          obtain ⟨δ2, e2, h2⟩ := done _ v hv e
          refine ⟨δ2, ?_, h2⟩
          rw [← e2]
          have h1 : (q.filter (nearB s cs)).isEmpty = false := by cases hz : (q.filter (nearB s cs)).isEmpty with | true => exact absurd (.inl hz) hc | false => rfl
          have h2 : ((r + (i : Int)) % 29 == 0) = false := by
            rw [beq_eq_false_iff_ne]; exact fun z => hc (.inr z)
          rw [h1] at q1
          unfold Az1U
          simp only [sSeq, sSet, sOwn, sIf, tOr2, tR, asD, lstR, vComp, b2, b1, kD, aCons, aNil, Az0E, Az0C, Az0F, Az0P, Az0I, Res.bind_ok, x1, y1, y2, h2, eqR_ii, Az3R, ofR_ok, Az0N, at1, sq, k1, q1, Az0G, orB_ok, ifO_ok, List.length_nil, Nat.zero_le, if_true, if_false, Bool.false_eq_true, reduceIte, List.set_cons_zero, List.set_cons_succ]
      obtain ⟨δ2, e2, h2⟩ := go
      exact ⟨_, rfl, δ2, .inl e2, h2⟩) ⟨c, [], none, none, rfl, rfl, fun m hm => by simp at hm⟩
  rw [Az5P] at hl
  refine ⟨cs, Az0K _ _ _ _ ?_ rfl, hl⟩
  clear hb hl
  unfold pD
  generalize cs.map D.int = V at *
  unfold Az2H Az6R
  simp only [Az0R, startD, List.map_cons, List.map_nil, List.length_cons, List.length_nil, List.cons_append, List.nil_append, Nat.reduceAdd, Nat.reduceSub, List.replicate, kD, b1, b2, lstR, aCons, aNil, Az0E, sSeq, sOwn, sFor, sRet, Az0I, Az0L, Az0C, Az0P, Az0F, Res.bind_ok, i0, rg, f, Az6U, ofR_ok, Az0N, Az0S, List.set_cons_zero, List.set_cons_succ, Nat.zero_le, if_true, reduceIte]
noncomputable def First (ok : Nat → Bool) (n : Nat) (x : D) : Prop := (x = .non ∧ ∀ i, i < n → ok i = true) ∨ ∃ i, i < n ∧ ok i = false ∧ (∀ j, j < i → ok j = true) ∧ x = .int i
theorem Az8B {t : D → DSt → Res DSt} {body : DSt → Out} (I : Nat → DSt → Prop) (ok : Nat → Bool) (r : Nat → D) (ds : List D) (δ : DSt)
    (hb : ∀ i d δ, ds[i]? = some d → I i δ → ∃ δ', t d δ = .ok δ' ∧ ((ok i = true ∧ ∃ δ2, (body δ' = .nx δ2 ∨ body δ' = .ct δ2) ∧ I (i + 1) δ2) ∨ (ok i = false ∧ body δ' = .rt (r i)))) (h : I 0 δ) :
    (∃ δ2, forD t body ds δ = .nx δ2 ∧ I ds.length δ2 ∧ ∀ i, i < ds.length → ok i = true) ∨ ∃ i, i < ds.length ∧ ok i = false ∧ (∀ j, j < i → ok j = true) ∧ forD t body ds δ = .rt (r i) := by
  induction ds generalizing I δ ok r with
  | nil => exact .inl ⟨δ, rfl, h, fun i hi => absurd hi (Nat.not_lt_zero _)⟩
  | cons d ds ih =>
    obtain ⟨δ', e1, hh⟩ := hb 0 d δ rfl h
    rw [Bz0G d ds δ δ' e1]
    rcases hh with ⟨o0, δ2, e2, h2⟩ | ⟨o0, e2⟩
    · have h3 := ih (fun i => I (i + 1)) (fun i => ok (i + 1)) (fun i => r (i + 1)) δ2 (fun i x δ hx hI => hb (i + 1) x δ (by simpa using hx) hI) h2
      have h4 : (∃ δ2', forD t body ds δ2 = .nx δ2' ∧ I (ds.length + 1) δ2' ∧ ∀ i, i < ds.length + 1 → ok i = true) ∨ ∃ i, i < ds.length + 1 ∧ ok i = false ∧ (∀ j, j < i → ok j = true) ∧ forD t body ds δ2 = .rt (r i) := by
        rcases h3 with ⟨δ3, a, b, c⟩ | ⟨i, a, b, c, e⟩
        · refine .inl ⟨δ3, a, b, fun i hi => ?_⟩
          cases i with
          | zero => exact o0
          | succ i => exact c i (by omega)
        · refine .inr ⟨i + 1, by omega, b, fun j hj => ?_, e⟩
          cases j with
          | zero => exact o0
          | succ j => exact c j (by omega)
      rcases e2 with e2 | e2 <;> · rw [e2]; exact h4
    · rw [e2]
      exact .inr ⟨0, Nat.succ_pos _, o0, fun j hj => absurd hj (Nat.not_lt_zero _), rfl⟩
namespace O13
theorem Bz3O (x : Int) : ∀ q : List Int, inB (.int x) (q.map D.int) = decide (x ∈ q)
  | [] => rfl
  | y :: q => by
    have ih := Bz3O x q
    unfold inB at ih ⊢
    rw [List.map_cons, List.any_cons, ih]
    by_cases e : y = x
    · subst e; simp [eqD]
    · have : x ≠ y := fun z => e z.symm
      simp [eqD, e, this]
theorem Bz6C (q : List Int) : (q.map D.int).all flatD = true := by
  rw [List.all_eq_true]; intro d hd; obtain ⟨i, _, rfl⟩ := List.mem_map.mp hd; rfl
theorem ninR_ints (x : Int) (q : List Int) : ninR (.int x) (pD q) = .ok (.bl (!decide (x ∈ q))) := by
  show (if (flatD (.int x) && (q.map D.int).all flatD) = true then _ else _) = _
  rw [Bz6C, Bz3O]; rfl
theorem pD_at (cs : List Int) (i : Nat) (h : i < cs.length) : ixR (pD cs) (.int (i : Int)) = .ok (.int (cs.getD i 0)) := by
  refine ixR_t _ _ _ (Az6A (by omega) ?_)
  rw [show ((i : Int)).toNat = i by omega, List.getElem?_map, List.getElem?_eq_getElem h, List.getD_eq_getElem?_getD, List.getElem?_eq_getElem h]
  rfl
theorem bD_at (A : List (List Int)) (i : Nat) (h : i < A.length) : ixR (bD A) (.int (i : Int)) = .ok (pD (A.getD i [])) := by
  refine ixR_t _ _ _ (Az6A (by omega) ?_)
  rw [show ((i : Int)).toNat = i by omega, List.getElem?_map, List.getElem?_eq_getElem h, List.getD_eq_getElem?_getD, List.getElem?_eq_getElem h]
  rfl
noncomputable def okAt (B : List (List Int)) (cs : List Int) (i : Nat) : Bool := decide (cs.getD i 0 ∈ B.getD i [])
theorem stopped_eq (B : List (List Int)) (cs : List Int) (hl : cs.length = B.length) (hB : B.length ≤ 1000) : ∃ x, callR 2 Az0V [bD B, pD cs] = .ok x ∧ First (okAt B cs) B.length x := by
  have he : enumR [bD B] = .ok (enumD 0 (B.map pD)) := rfl
  have hs := Az8B (t := unTup 2 (unCons (setI 2) (unCons (setI 3) unNil))) (body := Az1X) (fun _ δ => ∃ y z, δ = [some (.d (bD B)), some (.d (pD cs)), y, z]) (okAt B cs) (fun i => .int i) (enumD 0 (B.map pD)) [some (.d (bD B)), some (.d (pD cs)), none, none] (fun i d δ hd hI => by
    obtain ⟨y, z, rfl⟩ := hI
    obtain ⟨x, hx, rfl⟩ := Az2L hd
    rw [List.getElem?_map] at hx
    obtain ⟨q, hq, rfl⟩ := Option.map_eq_some_iff.mp hx
    have hi := (List.getElem?_eq_some_iff.mp hq).1
    have eq : B.getD i [] = q := by rw [List.getD_eq_getElem?_getD, hq]; rfl
    have e1 := pD_at cs i (by omega)
    have e2 := ninR_ints (cs.getD i 0) q
    rw [Nat.zero_add]
    refine ⟨_, rfl, ?_⟩
    simp only [List.set_cons_zero, List.set_cons_succ]
    unfold okAt
    rw [eq]
    cases hm : decide (cs.getD i 0 ∈ q) with
    | true =>
      rw [hm] at e2
      refine .inl ⟨rfl, [some (.d (bD B)), some (.d (pD cs)), some (.d (.int (i : Int))), some (.d (pD q))], .inl ?_, _, _, rfl⟩
      clear hm
      unfold Az1X
      walk_at "ev*"
    | false =>
      rw [hm] at e2
      refine .inr ⟨rfl, ?_⟩
      clear hm
      unfold Az1X
      walk_at "ev*") ⟨none, none, rfl⟩
  rw [Az3U, List.length_map] at hs
  rcases hs with ⟨δ2, f, ⟨y, z, rfl⟩, ho⟩ | ⟨i, hi, oi, bi, f⟩
  · refine ⟨.non, Az0K _ _ _ _ ?_ rfl, .inl ⟨rfl, ho⟩⟩
    clear ho
    unfold Az0V Az4H
    walk_at "ev*"
  · refine ⟨.int i, Az0K _ _ _ _ ?_ rfl, .inr ⟨i, hi, oi, bi, rfl⟩⟩
    clear oi bi hi
    unfold Az0V Az4H
    walk_at "ev*"
theorem opens_eq (b c x : D) (h : callR 2 Az0V [b, c] = .ok x) : callR 2 Az2I [b, c] = isNR x := by
  have e : ∃ k, isNR x = .ok (.bl k) := by cases x <;> exact ⟨_, rfl⟩
  obtain ⟨k, hk⟩ := e
  rw [hk]
  refine Az0K _ _ _ _ ?_ rfl
  unfold Az2I Az8I
  walk_at "ev*"
end O13
theorem Bz9N (n : Nat) (m : List D → Res D) (ds : List D) (d : D) (h : callR n m ds = .ok d) : callX n m ds = .ok d := by
  unfold callR at h
  unfold callX
  split at h
  · rename_i hn
    rw [if_pos hn]
    cases hm : m ds with
    | ok x => rw [hm] at h; exact h
    | ex c fs => rw [hm] at h; cases h
    | stuck => rw [hm] at h; cases h
  · cases h
noncomputable def opB (B : List (List Int)) (cs : List Int) : Bool := (List.range B.length).all fun i => decide (cs.getD i 0 ∈ B.getD i [])
theorem opB_iff {B : List (List Int)} {cs : List Int} : opB B cs = true ↔ ∀ i, i < B.length → cs.getD i 0 ∈ B.getD i [] := by
  unfold opB
  rw [List.all_eq_true]
  constructor
  · intro h i hi
    exact of_decide_eq_true (h i (List.mem_range.mpr hi))
  · intro h i hi
    exact decide_eq_true (h i (List.mem_range.mp hi))
theorem Az9X (B : List (List Int)) (cs : List Int) (hl : cs.length = B.length) : callR 2 Az0X [bD B, pD cs] = .ok (.bl (opB B cs)) := by
  have he : enumR [pD cs] = .ok (enumD 0 (cs.map D.int)) := rfl
  have hs := Az8B (t := unTup 2 (unCons (setI 2) (unCons (setI 3) unNil))) (body := Az1Y) (fun _ δ => ∃ y z, δ = [some (.d (bD B)), some (.d (pD cs)), y, z]) (O13.okAt B cs) (fun _ => .bl false) (enumD 0 (cs.map D.int)) [some (.d (bD B)), some (.d (pD cs)), none, none] (fun i d δ hd hI => by
    obtain ⟨y, z, rfl⟩ := hI
    obtain ⟨x, hx, rfl⟩ := Az2L hd
    rw [List.getElem?_map] at hx
    obtain ⟨c, hc, rfl⟩ := Option.map_eq_some_iff.mp hx
    have hi := (List.getElem?_eq_some_iff.mp hc).1
    have eq : cs.getD i 0 = c := by rw [List.getD_eq_getElem?_getD, hc]; rfl
    have e1 := bD_at B i (by omega)
    have e2 := O13.ninR_ints c (B.getD i [])
    rw [Nat.zero_add]
    refine ⟨[some (.d (bD B)), some (.d (pD cs)), some (.d (.int (i : Int))), some (.d (.int c))], rfl, ?_⟩
    unfold O13.okAt
    rw [eq]
    cases hm : decide (c ∈ B.getD i []) with
    | true =>
      rw [hm] at e2
      refine .inl ⟨rfl, [some (.d (bD B)), some (.d (pD cs)), some (.d (.int (i : Int))), some (.d (.int c))], .inl ?_, _, _, rfl⟩
      unfold Az1Y
      simp only [sIf, tR, b2, Az0C, Az0F, Res.bind_ok, e1, e2, Az0G, ifO_ok, Bool.not_true, Bool.false_eq_true, if_false, reduceIte]
    | false =>
      rw [hm] at e2
      refine .inr ⟨rfl, ?_⟩
      unfold Az1Y
      simp only [sIf, tR, b2, kD, sRet, Az0C, Az0F, Res.bind_ok, e1, e2, Az0G, ifO_ok, ofR_ok, Bool.not_false, if_true, reduceIte]) ⟨none, none, rfl⟩
  rw [Az3U, List.length_map, hl] at hs
  refine Az0K _ _ _ _ ?_ rfl
  rcases hs with ⟨δ2, f, ⟨y, z, rfl⟩, ho⟩ | ⟨i, hi, oi, bi, f⟩
  · have : opB B cs = true := opB_iff.mpr fun i hi => of_decide_eq_true (ho i hi)
    rw [this]
    unfold Az0X Az4J
    simp only [Az0R, startD, List.map_cons, List.map_nil, List.length_cons, List.length_nil, List.cons_append, List.nil_append, Nat.reduceAdd, Nat.reduceSub, List.replicate, kD, b1, aCons, aNil, Az0E, sSeq, sFor, sRet, Az0I, Az0L, Res.bind_ok, he, f, ofR_ok, Az0N, Az0S]
  · have : opB B cs = false := by
      cases h : opB B cs with
      | false => rfl
      | true =>
        have := opB_iff.mp h i hi
        unfold O13.okAt at oi
        exact absurd this (of_decide_eq_false oi)
    rw [this]
    unfold Az0X Az4J
    simp only [Az0R, startD, List.map_cons, List.map_nil, List.length_cons, List.length_nil, List.cons_append, List.nil_append, Nat.reduceAdd, Nat.reduceSub, List.replicate, kD, b1, aCons, aNil, Az0E, sSeq, sFor, sRet, Az0I, Az0L, Res.bind_ok, he, f, ofR_ok, Az6G, Az0S]
theorem Bz5F (B : List (List Int)) (cs : List Int) (hl : cs.length = B.length) (hB : B.length ≤ 1000) : callR 2 Az2I [bD B, pD cs] = .ok (.bl (opB B cs)) := by
  obtain ⟨x, e, hf⟩ := O13.stopped_eq B cs hl hB
  rw [O13.opens_eq _ _ x e]
  rcases hf with ⟨rfl, h⟩ | ⟨i, hi, oi, _, rfl⟩
  · have : opB B cs = true := opB_iff.mpr fun i hi => of_decide_eq_true (h i hi)
    rw [this]; rfl
  · have : opB B cs = false := by
      cases h : opB B cs with
      | false => rfl
      | true =>
        have := opB_iff.mp h i hi
        unfold O13.okAt at oi
        exact absurd this (of_decide_eq_false oi)
    rw [this]; rfl
theorem Az9F (A B : List (List Int)) (hl : A.length = B.length) (h : ∀ i, i < B.length → ∀ x ∈ A.getD i [], x ∈ B.getD i []) : callR 2 Az1B [bD A, bD B] = .ok (.bl true) := by
  have he : enumR [bD B] = .ok (enumD 0 (B.map pD)) := rfl
  obtain ⟨δ2, f, x, y, z, rfl⟩ := Az3L (t := unTup 2 (unCons (setI 2) (unCons (setI 3) unNil))) (body := Az2M) (fun _ δ => ∃ x y z, δ = [some (.d (bD A)), some (.d (bD B)), x, y, z]) (enumD 0 (B.map pD)) [some (.d (bD A)), some (.d (bD B)), none, none, none] (fun i d δ hd hI => by
    obtain ⟨x, y, z, rfl⟩ := hI
    obtain ⟨w, hx, rfl⟩ := Az2L hd
    rw [List.getElem?_map] at hx
    obtain ⟨q, hq, rfl⟩ := Option.map_eq_some_iff.mp hx
    have hi := (List.getElem?_eq_some_iff.mp hq).1
    have eq : B.getD i [] = q := by rw [List.getD_eq_getElem?_getD, hq]; rfl
    have e1 := bD_at A i (by omega)
    have hm := h i hi
    rw [eq] at hm
    have sq : seqR (pD (A.getD i [])) = .ok ((A.getD i []).map D.int) := rfl
    rw [Nat.zero_add]
    obtain ⟨δ3, f3, z3, rfl⟩ := Az3L (t := setI 4) (body := Az2N) (fun _ δ => ∃ z, δ = [some (.d (bD A)), some (.d (bD B)), some (.d (.int (i : Int))), some (.d (pD q)), z]) ((A.getD i []).map D.int) [some (.d (bD A)), some (.d (bD B)), some (.d (.int (i : Int))), some (.d (pD q)), z] (fun j d δ hd hI => by
      obtain ⟨z, rfl⟩ := hI
      rw [List.getElem?_map] at hd
      obtain ⟨c, hc, rfl⟩ := Option.map_eq_some_iff.mp hd
      have e2 := O13.ninR_ints c q
      rw [decide_eq_true (hm c (List.mem_of_getElem? hc))] at e2
      refine ⟨[some (.d (bD A)), some (.d (bD B)), some (.d (.int (i : Int))), some (.d (pD q)), some (.d (.int c))], rfl, [some (.d (bD A)), some (.d (bD B)), some (.d (.int (i : Int))), some (.d (pD q)), some (.d (.int c))], .inl ?_, _, rfl⟩
      unfold Az2N
      simp only [sIf, tR, b2, Az0C, Az0F, Res.bind_ok, e2, Az0G, ifO_ok, Bool.not_true, Bool.false_eq_true, if_false, reduceIte]) ⟨_, rfl⟩
    refine ⟨[some (.d (bD A)), some (.d (bD B)), some (.d (.int (i : Int))), some (.d (pD q)), z], rfl, [some (.d (bD A)), some (.d (bD B)), some (.d (.int (i : Int))), some (.d (pD q)), z3], .inl ?_, _, _, _, rfl⟩
    · unfold Az2M
      simp only [sFor, b1, b2, Az0C, Az0F, Res.bind_ok, e1, sq, ofR_ok, f3]) ⟨none, none, none, rfl⟩
  refine Az0K _ _ _ _ ?_ rfl
  unfold Az1B Az5J
  simp only [Az0R, startD, List.map_cons, List.map_nil, List.length_cons, List.length_nil, List.cons_append, List.nil_append, Nat.reduceAdd, Nat.reduceSub, List.replicate, kD, b1, aCons, aNil, Az0E, sSeq, sFor, sRet, Az0I, Az0L, Res.bind_ok, he, f, ofR_ok, Az0N, Az0S]
noncomputable def lstB (n : Nat) (cs : List (List Int)) : List (List Int) := (List.range n).map fun i => sortI (cs.map fun c => c.getD i 0)
theorem Cz1U (n : Nat) (cs : List (List Int)) (i : Nat) (h : i < n) : (lstB n cs).getD i [] = sortI (cs.map fun c => c.getD i 0) := by
  unfold lstB
  rw [List.getD_eq_getElem?_getD, List.getElem?_map, List.getElem?_range h]; rfl
theorem Az4Z (n : Nat) (cs : List (List Int)) : (lstB n cs).length = n := by unfold lstB; rw [List.length_map, List.length_range]
theorem Bz8J (p d h s : Int) (cs : List (List Int)) (hp : 0 ≤ p) (hp2 : p ≤ 100) (hc : ∀ c ∈ cs, c.length = p.toNat) (hn : cs.length < 64) (hf : ∀ i, i < p.toNat → ((sortI (cs.map fun c => c.getD i 0)).length : Int) ≤ h) :
    callR 2 Az3A [ruD p d h s, .lst (cs.map pD)] = .ok (bD (lstB p.toNat cs)) := by
  have pl : callR 1 Az2F [ruD p d h s] = .ok (.int p) := by
    refine Az0K _ _ _ _ ?_ rfl
    unfold Az2F Az6O
    simp only [Az0R, startD, List.map_cons, List.map_nil, List.length_cons, List.length_nil, List.cons_append, List.nil_append, Nat.reduceAdd, Nat.reduceSub, List.replicate, kD, b2, sRet, Az0C, Res.bind_ok, show ixR (ruD p d h s) (.int 0) = .ok (.int p) from rfl, ofR_ok, Az0S]
  have hg : callR 1 Az1Q [ruD p d h s] = .ok (.int h) := by
    refine Az0K _ _ _ _ ?_ rfl
    unfold Az1Q Az5X
    simp only [Az0R, startD, List.map_cons, List.map_nil, List.length_cons, List.length_nil, List.cons_append, List.nil_append, Nat.reduceAdd, Nat.reduceSub, List.replicate, kD, b2, sRet, Az0C, Res.bind_ok, show ixR (ruD p d h s) (.int 2) = .ok (.int h) from rfl, ofR_ok, Az0S]
  have rg := rng1_i p hp (by omega)
  have hn2 : p.toNat ≤ 100 := by omega
  generalize p.toNat = n at *
  generalize ruD p d h s = RU at *
  obtain ⟨δ2, f, x, y, rfl⟩ := Az3L (t := setI 3) (body := Az4A) (fun i δ => ∃ (x y : Option S), δ = [some (.d RU), some (.d (.lst (cs.map pD))), some (.o ((lstB i cs).map pD)), x, y]) (rngD 0 n) [some (.d RU), some (.d (.lst (cs.map pD))), some (.o []), none, none] (fun i e δ he hI => by
    obtain ⟨x, y, rfl⟩ := hI
    obtain ⟨hi, rfl⟩ := Az6Y he
    rw [Int.zero_add]
    have cm := Az1G (n := 1) (c := fun _ => .ok true) (fe := Az3I) (δ := [some (.d RU), some (.d (.lst (cs.map pD))), some (.o ((lstB i cs).map pD)), some (.d (.int (i : Int))), y]) (Bz9G (fe := Az3I) (fun d => match d with | .tup ds => ds.getD i .non | _ => .non) [some (.d RU), some (.d (.lst (cs.map pD))), some (.o ((lstB i cs).map pD)), some (.d (.int (i : Int))), y] (cs.map pD) none (fun d hd => by
      obtain ⟨c, hc1, rfl⟩ := List.mem_map.mp hd
      have e1 := pD_at c i (by rw [hc c hc1]; exact hi)
      unfold Az3I
      simp only [b2, Az0C, Az0F, Res.bind_ok, e1]
      unfold pD
      dsimp only
      rw [List.getD_eq_getElem?_getD, List.getD_eq_getElem?_getD, List.getElem?_map, List.getElem?_eq_getElem (show i < c.length by rw [hc c hc1]; exact hi)]
      rfl)) (by rw [List.length_map]; omega)
    have em : (cs.map pD).map (fun d => match d with | .tup ds => ds.getD i .non | _ => .non) = (cs.map fun c => c.getD i 0).map D.int := by
      rw [List.map_map, List.map_map]
      refine List.map_congr_left fun c hc1 => ?_
      show (c.map D.int).getD i .non = .int (c.getD i 0)
      rw [List.getD_eq_getElem?_getD, List.getD_eq_getElem?_getD, List.getElem?_map, List.getElem?_eq_getElem (show i < c.length by rw [hc c hc1]; exact hi)]
      rfl
    rw [em] at cm
    have so := Bz6N (cs.map fun c => c.getD i 0) (by rw [List.length_map]; exact hn)
    have hfi := hf i hi
    have dt : decide (h < (((sortI (cs.map fun c => c.getD i 0)).map D.int).length : Int)) = false := decide_eq_false (by rw [List.length_map]; omega)
    have ap := Az6B 2 [some (.d RU), some (.d (.lst (cs.map pD))), some (.o ((lstB i cs).map pD)), some (.d (.int (i : Int))), some (.d (pD (sortI (cs.map fun c => c.getD i 0))))] ((lstB i cs).map pD) (pD (sortI (cs.map fun c => c.getD i 0))) rfl (by rw [List.length_map, Az4Z]; omega)
    have es : (lstB (i + 1) cs).map pD = (lstB i cs).map pD ++ [pD (sortI (cs.map fun c => c.getD i 0))] := by
      unfold lstB
      rw [List.range_succ, List.map_append, List.map_append, List.map_singleton, List.map_singleton]
    refine ⟨_, rfl, [some (.d RU), some (.d (.lst (cs.map pD))), some (.o ((lstB (i + 1) cs).map pD)), some (.d (.int (i : Int))), some (.d (pD (sortI (cs.map fun c => c.getD i 0))))], .inl ?_, _, _, rfl⟩
    rw [es]
    have tp : tupofR (.lst ((sortI (cs.map fun c => c.getD i 0)).map D.int)) = .ok (pD (sortI (cs.map fun c => c.getD i 0))) := rfl
    have ln : lenR (pD (sortI (cs.map fun c => c.getD i 0))) = .ok (.int ((sortI (cs.map fun c => c.getD i 0)).map D.int).length) := rfl
    clear es em hfi
    generalize pD (sortI (cs.map fun c => c.getD i 0)) = PV at *
    generalize (sortI (cs.map fun c => c.getD i 0)).map D.int = V at *
    generalize (cs.map fun c => c.getD i 0).map D.int = V0 at *
    unfold Az4A
    simp only [List.set_cons_zero, List.set_cons_succ, sSeq, sSet, sIf, sApp, tR, b1, b2, asD, vComp, aCons, aNil, Az0E, Az0I, Az0L, Az0C, Az0F, Res.bind_ok, seqR_l, cm, so, tp, ln, ofR_ok, Az0N, hg, gtR_ii, dt, Az0G, ifO_ok, Bool.false_eq_true, if_false, reduceIte, ap]
    ) ⟨none, none, rfl⟩
  rw [Az5P] at f
  refine Az0K _ _ _ _ ?_ rfl
  have tp : tupofR (.lst ((lstB n cs).map pD)) = .ok (bD (lstB n cs)) := rfl
  clear hf hc
  generalize bD (lstB n cs) = OUT at *
  generalize (lstB n cs).map pD = V at *
  generalize cs.map pD = C at *
  unfold Az3A Az8L
  simp only [Az0R, startD, List.map_cons, List.map_nil, List.length_cons, List.length_nil, List.cons_append, List.nil_append, Nat.reduceAdd, Nat.reduceSub, List.replicate, kD, b1, lstR, aCons, aNil, Az0E, sSeq, sOwn, sFor, sRet, Az0I, Az0L, Az0C, Az0P, Az0F, Res.bind_ok, pl, rg, f, tp, ofR_ok, Az0N, Az0S, List.set_cons_zero, List.set_cons_succ, Nat.zero_le, if_true, reduceIte]
theorem Az8G (p d h s : Int) (door : Str) (cs : List (List Int)) (hp : 0 ≤ p) (hp2 : p ≤ 100) (hc : ∀ c ∈ cs, c.length = p.toNat) (hn : cs.length < 64) (hf : ∀ i, i < p.toNat → ((sortI (cs.map fun c => c.getD i 0)).length : Int) ≤ h) :
    callR 3 Az0T [ruD p d h s, .str door, .lst (cs.map pD)] = .ok (if cs = [] then .non else bD (lstB p.toNat cs)) := by
  have e1 := Bz9N _ _ _ _ (Bz8J p d h s cs hp hp2 hc hn hf)
  have e0 : decide (((cs.map pD).length : Int) = 0) = decide (cs = []) := by
    rw [List.length_map]
    cases cs with
    | nil => rfl
    | cons c r =>
      rw [decide_eq_false (by simp : ¬ (c :: r : List (List Int)) = [])]
      exact decide_eq_false (by simp only [List.length_cons]; omega)
  refine Az0K _ _ _ _ ?_ rfl
  generalize ruD p d h s = RU at *
  have e0' : (((cs.map pD).length : Int) == 0) = decide (cs = []) := by rw [← e0]; rfl
  by_cases hz : cs = []
  · rw [decide_eq_true hz] at e0'
    rw [if_pos hz]
    clear hz e0
    generalize cs.map pD = C at *
    unfold Az0T Az4I
    simp only [Az0R, startD, List.map_cons, List.map_nil, List.length_cons, List.length_nil, List.cons_append, List.nil_append, Nat.reduceAdd, Nat.reduceSub, List.replicate, kD, tR, b1, b2, sSeq, sIf, sRet, Az0C, Az0F, Res.bind_ok, lenR_l, eqR_ii, e0', Az0G, ifO_ok, ofR_ok, Az6G, Az0S, if_true, reduceIte]
  · rw [decide_eq_false hz] at e0'
    rw [if_neg hz]
    clear hz e0
    generalize bD (lstB p.toNat cs) = OUT at *
    generalize cs.map pD = C at *
    unfold Az0T Az4I
    simp only [Az0R, startD, List.map_cons, List.map_nil, List.length_cons, List.length_nil, List.cons_append, List.nil_append, Nat.reduceAdd, Nat.reduceSub, List.replicate, kD, tR, b1, b2, aCons, aNil, Az0E, sSeq, sIf, sTry, tryF, Az5Q, sRet, Az0I, Az0L, Az0C, Az0F, Res.bind_ok, lenR_l, eqR_ii, e0', Az0G, ifO_ok, e1, ofR_ok, Az0N, Az6G, Az0S, Bool.false_eq_true, if_false, reduceIte]
theorem slL_l (ds : List D) (lo hi : Option Int) : slL (.lst ds) lo hi = .ok (L3.cutD ds lo hi) := rfl
theorem catR_l (xs ys : List D) (h : xs.length + ys.length ≤ 1000) : catR (.lst xs) (.lst ys) = .ok (xs ++ ys) := if_pos (Nat.le_trans h k1000)
noncomputable def prD (p : Str × List Str) : D := .tup [.str p.1, .lst (p.2.map D.str)]
theorem Bz7F {fe : DSt → Res D} (f : Str × List Str → D) (δ : DSt) : ∀ (ps : List (Str × List Str)) (x y : Option S), (∀ p ∈ ps, fe (some (.d (.str p.1)) :: some (.d (.lst (p.2.map D.str))) :: δ) = .ok (f p)) →
    compD (unTup 2 (unCons (setI 0) (unCons (setI 1) unNil))) (fun _ => .ok true) fe (ps.map prD) (x :: y :: δ) = .ok (ps.map f)
  | [], _, _, _ => rfl
  | p :: ps, x, y, h => by
    rw [List.map_cons, Az4S (δ' := some (.d (.str p.1)) :: some (.d (.lst (p.2.map D.str))) :: δ) _ _ _ _ rfl]
    simp only [Az5Q, Res.bind_ok, if_true, h p List.mem_cons_self, Bz7F f δ ps _ _ (fun q hq => h q (List.mem_cons_of_mem _ hq)), List.map_cons]
theorem Bz0N (ps : List (Str × List Str)) (hl : ps.length ≤ 1000) : callR 1 Az3Z [.lst (ps.map prD)] = .ok (.lst (ps.map prD)) := by
  have c := Az1G (n := 2) (c := fun _ => .ok true) (fe := Az4R) (δ := [some (.d (.lst (ps.map prD)))]) (Bz7F (fe := Az4R) prD [some (.d (.lst (ps.map prD)))] ps none none (fun p _ => by
    unfold Az4R prD
    simp only [b1, asD, tupR, aCons, aNil, Az0E, Az0I, Az0L, Az0C, Az0F, Res.bind_ok, seqR_l, List.length_cons, List.length_nil, Nat.reduceAdd, Nat.reduceLeDiff, if_true, reduceIte])) (by rw [List.length_map]; omega)
  refine Az0K _ _ _ _ ?_ rfl
  generalize ps.map prD = P at *
  unfold Az3Z Bz4R
  simp only [Az0R, startD, List.map_cons, List.map_nil, List.length_cons, List.length_nil, List.cons_append, List.nil_append, Nat.reduceAdd, Nat.reduceSub, List.replicate, b1, asD, vComp, sRet, Az0I, Res.bind_ok, ofR_ok, seqR_l, c, Az0S]
noncomputable abbrev HsD (R A B C : D) : D := .obj "House" ["rules", "doors", "wings", "grants"] [R, A, B, C]
theorem Cz1S (R : D) (ds : List D) (ps qs : List (Str × List Str)) (hp : ps.length ≤ 1000) (hq : qs.length ≤ 1000) : callR 4 (makeR 4 "House" Az4E) [R, .lst ds, .lst (ps.map prD), .lst (qs.map prD)] = .ok (HsD R (.lst ds) (.lst (ps.map prD)) (.lst (qs.map prD))) := by
  have e1 := Bz0N ps hp
  have e2 := Bz0N qs hq
  refine Az0K _ _ _ _ ?_ rfl
  generalize ps.map prD = P at *
  generalize qs.map prD = Q at *
  unfold makeR Az4E
  simp only [fldsR, startD, List.map_cons, List.map_nil, List.length_cons, List.length_nil, List.cons_append, List.nil_append, Nat.reduceAdd, Nat.reduceSub, List.replicate, b1, asD, aCons, aNil, Az0E, Az0I, Az0L, Az0C, Az0F, Res.bind_ok, seqR_l, e1, e2]
theorem fld1 (R A B C : D) : fldR "House" "rules" (HsD R A B C) = .ok R := rfl
theorem fld2 (R A B C : D) : fldR "House" "doors" (HsD R A B C) = .ok A := rfl
theorem fld3 (R A B C : D) : fldR "House" "wings" (HsD R A B C) = .ok B := rfl
theorem fld4 (R A B C : D) : fldR "House" "grants" (HsD R A B C) = .ok C := rfl
theorem Az5O : ∀ xs : List Str, strsOf (xs.map D.str) = some xs
  | [] => rfl
  | x :: xs => by show (strsOf (xs.map D.str)).map (x :: ·) = _; rw [Az5O xs]; rfl
noncomputable def memT (l : List (Key × D)) (x : Str) : List Str := match tGet l (.inr x) with
  | some (.lst ds) => (strsOf ds).getD []
  | _ => []
noncomputable def StrT (l : List (Key × D)) : Prop := ∀ p ∈ l, ∃ ws : List Str, p.2 = .lst (ws.map D.str)
theorem Bz7M {α : Type} {l : List (Key × α)} {k : Key} {y : α} (h : tGet l k = some y) : (k, y) ∈ l := by
  unfold tGet at h
  obtain ⟨p, h1, h2⟩ := Option.map_eq_some_iff.mp h
  have h3 := List.find?_some h1
  have h4 := List.mem_of_find?_eq_some h1
  rw [← of_decide_eq_true h3, ← h2]
  exact h4
theorem Cz2D (l : List (Key × D)) (h : StrT l) (x : Str) : getLR l (.str x) (.lst []) = .ok (.lst ((memT l x).map D.str)) := by
  unfold getLR memT
  show Res.ok ((tGet l (.inr x)).getD (.lst [])) = _
  cases hg : tGet l (.inr x) with
  | none => rfl
  | some y =>
    obtain ⟨ws, e⟩ := h _ (Bz7M hg)
    have e' : y = .lst (ws.map D.str) := e
    subst e'
    show Res.ok (D.lst (ws.map D.str)) = .ok (.lst (((strsOf (ws.map D.str)).getD []).map D.str))
    rw [Az5O]; rfl
noncomputable def rK (R : List Str) : List (Key × D) := R.map fun x => (.inr x, .bl true)
theorem rK_get (x : Str) : ∀ R : List Str, (tGet (rK R) (.inr x)).isSome = decide (x ∈ R)
  | [] => by simp [rK, tGet]
  | y :: R => by
    show (tGet ((Sum.inr y, D.bl true) :: rK R) (.inr x)).isSome = _
    by_cases h : y = x
    · subst h
      rw [Az4V rfl]; simp
    · rw [Az3Y (show ¬ (Sum.inr y : Key) = Sum.inr x from fun z => h (Sum.inr.inj z)), rK_get x R]
      have : ¬ x = y := fun z => h z.symm
      simp [this]
theorem rK_put (x : Str) (R : List Str) (h : x ∉ R) : tPut (rK R) (.inr x) (.bl true) = rK (R ++ [x]) := by
  unfold tPut
  rw [Az4U, rK_get, decide_eq_false h]
  simp [rK]
theorem rK_zip (R : List Str) : (R.map fun x => (Sum.inr x : Key)).zip (R.map fun _ => D.bl true) = rK R := by
  unfold rK
  rw [List.zip_map']
theorem rK_fst (R : List Str) : (rK R).map (·.1) = R.map fun x => (Sum.inr x : Key) := by unfold rK; rw [List.map_map]; rfl
theorem rK_snd (R : List Str) : (rK R).map (·.2) = R.map fun _ => D.bl true := by unfold rK; rw [List.map_map]; rfl
noncomputable abbrev dofS (A B M : D) (R W : List Str) (y : Option S) : DSt := [some (.d A), some (.d B), some (.d M), some (.q (R.map fun x => (Sum.inr x : Key)) (R.map fun _ => D.bl true)), some (.o (W.map D.str)), y]
theorem dof_c (A B M : D) (R W : List Str) (y : Option S) : Az1T (dofS A B M R W y) = .ok (decide (W ≠ [])) := by
  have e : decide (0 < ((W.map D.str).length : Int)) = decide (W ≠ []) := by
    rw [List.length_map]
    cases W with
    | nil => simp
    | cons x r =>
      rw [decide_eq_true (by simp : (x :: r : List Str) ≠ [])]
      exact decide_eq_true (by simp only [List.length_cons]; omega)
  unfold Az1T dofS
  simp only [tR, b2, b1, kD, Az0F, Az0C, Az0P, Res.bind_ok, lenR_l, gtR_ii, Az0G, e]
theorem Cz2T (A B M : D) (R W : List Str) (x : Str) (y : Option S) : sPopV 5 4 (dofS A B M R (W ++ [x]) y) = .nx (dofS A B M R W (some (.d (.str x)))) := by
  have e1 : ((W ++ [x]).map D.str)[((W ++ [x]).map D.str).length - 1]? = some (.str x) := by
    rw [List.map_append, List.map_singleton, List.length_append, List.length_singleton, Nat.add_sub_cancel, List.getElem?_concat_length]
  have e2 : ((W ++ [x]).map D.str).dropLast = W.map D.str := by rw [List.map_append, List.map_singleton, List.dropLast_concat]
  show (match ((W ++ [x]).map D.str)[((W ++ [x]).map D.str).length - 1]? with
    | some d => Out.nx (((dofS A B M R (W ++ [x]) y).set 4 (some (.o ((W ++ [x]).map D.str).dropLast))).set 5 (some (.d d)))
    | none => .stuck) = _
  rw [e1, e2]; rfl
theorem Cz2S (A B M : D) (R W : List Str) (x : Str) (hR : R.length ≤ 900) (h : x ∉ R) : sPutI 3 (slotD 5) (kD (.bl true)) (dofS A B M R W (some (.d (.str x)))) = .nx (dofS A B M (R ++ [x]) W (some (.d (.str x)))) := by
  show (if ((R.map fun x => (Sum.inr x : Key)).zip (R.map fun _ => D.bl true)).length ≤ 1000 then Out.nx ((dofS A B M R W (some (.d (.str x)))).set 3 (some (.q ((tPut ((R.map fun x => (Sum.inr x : Key)).zip (R.map fun _ => D.bl true)) (.inr x) (.bl true)).map (·.1)) ((tPut ((R.map fun x => (Sum.inr x : Key)).zip (R.map fun _ => D.bl true)) (.inr x) (.bl true)).map (·.2))))) else .stuck) = _
  rw [rK_zip, rK_put x R h, rK_fst, rK_snd, if_pos (by unfold rK; rw [List.length_map]; omega)]
  rfl
theorem dof_t (A B : D) (l : List (Key × D)) (hl : StrT l) (R W : List Str) (x : Str) (y : Option S) (hR : R.length ≤ 900) (hW : W.length ≤ 40000) (hm : (memT l x).length ≤ 40000) :
    Az1S (dofS A B (.dct (l.map (·.1)) (l.map (·.2))) R (W ++ [x]) y) = .nx (if x ∈ R then dofS A B (.dct (l.map (·.1)) (l.map (·.2))) R W (some (.d (.str x))) else dofS A B (.dct (l.map (·.1)) (l.map (·.2))) (R ++ [x]) (W ++ memT l x) (some (.d (.str x)))) := by
  have p1 := Cz2T A B (.dct (l.map (·.1)) (l.map (·.2))) R W x y
  have zz : (l.map (·.1)).zip (l.map (·.2)) = l := by
    rw [List.zip_map']
    exact List.map_id _
  have g := Cz2D l hl x
  have n1 : ninQR (.str x) ((R.map fun x => (Sum.inr x : Key)).zip (R.map fun _ => D.bl true)) = .ok (.bl (!decide (x ∈ R))) := by
    rw [rK_zip]
    show Res.ok (D.bl (!(tGet (rK R) (.inr x)).isSome)) = _
    rw [rK_get]
  by_cases h : x ∈ R
  · rw [decide_eq_true h] at n1
    rw [if_pos h]
    unfold Az1S
    show seqO (sPopV 5 4 _) _ = _
    rw [p1]
    simp only [Az0N, sIf, tR, b2R, Az0F, Az0C, Res.bind_ok, dofS, show ∀ (a b c : Option S) (ks : List Key) (ds : List D) (r : DSt), slotQ 3 (a :: b :: c :: some (.q ks ds) :: r) = .ok (ks.zip ds) from fun _ _ _ _ _ _ => rfl, n1, Az0G, ifO_ok, Bool.not_true, Bool.false_eq_true, if_false, reduceIte]
  · rw [decide_eq_false h] at n1
    rw [if_neg h]
    have q1 := Cz2S A B (.dct (l.map (·.1)) (l.map (·.2))) R W x hR h
    have q2 : sExtD 4 (bGet (slotQ 2) (aCons (slotD 5) (aCons (asD (b1 lstR aNil)) aNil))) (dofS A B (.dct (l.map (·.1)) (l.map (·.2))) (R ++ [x]) W (some (.d (.str x)))) = .nx (dofS A B (.dct (l.map (·.1)) (l.map (·.2))) (R ++ [x]) (W ++ memT l x) (some (.d (.str x)))) := by
      have g2 : bGet (slotQ 2) (aCons (slotD 5) (aCons (asD (b1 lstR aNil)) aNil)) (dofS A B (.dct (l.map (·.1)) (l.map (·.2))) (R ++ [x]) W (some (.d (.str x)))) = .ok (.lst ((memT l x).map D.str)) := by
        rw [← g, ← zz]
        simp only [bGet, aCons, aNil, asD, b1, lstR, Az0E, dofS, Az0L, Az0I, Res.bind_ok, List.length_nil, Nat.zero_le, if_true, reduceIte, zz, show ∀ (a b : Option S) (ks : List Key) (ds : List D) (r : DSt), slotQ 2 (a :: b :: some (.d (.dct ks ds)) :: r) = .ok (ks.zip ds) from fun _ _ _ _ _ => rfl]
      unfold sExtD extDO
      rw [g2]
      show (@ite Out ((W.map D.str).length + ((memT l x).map D.str).length ≤ 100000) (Classical.propDecidable _) _ _) = _
      rw [if_pos (by rw [List.length_map, List.length_map]; omega), ← List.map_append]
      rfl
    unfold Az1S
    show seqO (sPopV 5 4 _) _ = _
    rw [p1]
    simp only [Az0N, sIf, tR, b2R, Az0F, Az0C, Res.bind_ok, show ∀ (a b c : Option S) (ks : List Key) (ds : List D) (r : DSt), slotQ 3 (a :: b :: c :: some (.q ks ds) :: r) = .ok (ks.zip ds) from fun _ _ _ _ _ _ => rfl, n1, Az0G, ifO_ok, Bool.not_false, if_true, reduceIte]
    show seqO (sPutI 3 _ _ _) _ = _
    rw [q1]
    exact q2
theorem Bz9P {c : DSt → Res Bool} {b : DSt → Out} {δ : DSt} (n : Nat) (h : c δ = .ok false) : whileD c b (n + 1) δ = .nx δ := by rw [whileD, h]
theorem Bz9Q {c : DSt → Res Bool} {b : DSt → Out} {δ δ2 : DSt} (n : Nat) (h : c δ = .ok true) (h2 : b δ = .nx δ2) : whileD c b (n + 1) δ = whileD c b n δ2 := by rw [whileD, h]; simp only [h2]
theorem Bz7E {p q : Str → Bool} {x : Str} : ∀ {U : List Str}, x ∈ U → p x = true → q x = false → (∀ y, q y = true → p y = true) → (U.filter q).length < (U.filter p).length
  | [], h, _, _, _ => by simp at h
  | u :: U, h, hp, hq, hs => by
    have le : ∀ V : List Str, (V.filter q).length ≤ (V.filter p).length := fun V => by
      induction V with
      | nil => simp
      | cons v V ih =>
        cases h1 : q v with
        | true => rw [List.filter_cons_of_pos h1, List.filter_cons_of_pos (hs v h1), List.length_cons, List.length_cons]; omega
        | false =>
          rw [List.filter_cons_of_neg (by rw [h1]; simp)]
          cases h2 : p v with
          | true => rw [List.filter_cons_of_pos h2, List.length_cons]; omega
          | false => rw [List.filter_cons_of_neg (by rw [h2]; simp)]; exact ih
    rcases List.mem_cons.mp h with rfl | h
    · rw [List.filter_cons_of_pos hp, List.filter_cons_of_neg (by rw [hq]; simp), List.length_cons]
      have := le U
      omega
    · have ih := Bz7E h hp hq hs
      cases h1 : q u with
      | true => rw [List.filter_cons_of_pos h1, List.filter_cons_of_pos (hs u h1), List.length_cons, List.length_cons]; omega
      | false =>
        rw [List.filter_cons_of_neg (by rw [h1]; simp)]
        cases h2 : p u with
        | true => rw [List.filter_cons_of_pos h2, List.length_cons]; omega
        | false => rw [List.filter_cons_of_neg (by rw [h2]; simp)]; exact ih
noncomputable def lft (U R : List Str) : Nat := (U.filter fun y => !decide (y ∈ R)).length
theorem Bz9B (A B : D) (l : List (Key × D)) (hl : StrT l) (U : List Str) (M : Nat) (hM : ∀ x ∈ U, (memT l x).length ≤ M ∧ ∀ z ∈ memT l x, z ∈ U) (hMb : M ≤ 100) (hU : U.length ≤ 300) :
    ∀ (n : Nat) (W R : List Str) (y : Option S), W.length + M * lft U R < n → (∀ x ∈ W, x ∈ U) → R.length + lft U R ≤ 600 → W.length ≤ 40000 - M * lft U R →
    ∃ (R' : List Str) (y' : Option S), whileD Az1T Az1S n (dofS A B (.dct (l.map (·.1)) (l.map (·.2))) R W y) = .nx (dofS A B (.dct (l.map (·.1)) (l.map (·.2))) R' [] y') ∧
      (∀ x, x ∈ R ∨ x ∈ W → x ∈ R') ∧ ((∀ x ∈ R, ∀ z ∈ memT l x, z ∈ R ∨ z ∈ W) → ∀ x ∈ R', ∀ z ∈ memT l x, z ∈ R') ∧ ∀ P : Str → Prop, (∀ x, P x → ∀ z ∈ memT l x, P z) → (∀ x, x ∈ R ∨ x ∈ W → P x) → ∀ x ∈ R', P x := by
  intro n
  induction n with
  | zero => intro W R y h; omega
  | succ n ih =>
    intro W R y h hW hR hWl
    by_cases hw : W = []
    · subst hw
      refine ⟨R, y, Bz9P n (by rw [dof_c]; rfl), fun x hx => hx.elim id fun z => by simp at z, fun hc x hx z hz => (hc x hx z hz).elim id fun z => by simp at z, fun P _ hP x hx => hP x (.inl hx)⟩
    · obtain ⟨V, x, rfl⟩ : ∃ V x, W = V ++ [x] := ⟨W.dropLast, W.getLast hw, (List.dropLast_concat_getLast hw).symm⟩
      have hx : x ∈ U := hW x (by simp)
      have hV : ∀ z ∈ V, z ∈ U := fun z hz => hW z (by simp [hz])
      rw [List.length_append, List.length_singleton] at h hWl
      have cd : Az1T (dofS A B (.dct (l.map (·.1)) (l.map (·.2))) R (V ++ [x]) y) = .ok true := by rw [dof_c, decide_eq_true hw]
      have st := dof_t A B l hl R V x y (by omega) (by omega) (by have := (hM x hx).1; omega)
      rw [Bz9Q n cd st]
      by_cases hxR : x ∈ R
      · rw [if_pos hxR]
        obtain ⟨R', y', e, a1, a2, a3⟩ := ih V R (some (.d (.str x))) (by omega) hV hR (by omega)
        refine ⟨R', y', e, fun z hz => ?_, fun hc => a2 fun u hu z hz => ?_, fun P hP h0 => a3 P hP fun z hz => ?_⟩
        · rcases hz with hz | hz
          · exact a1 z (.inl hz)
          · rcases List.mem_append.mp hz with hz | hz
            · exact a1 z (.inr hz)
            · rw [List.mem_singleton.mp hz]; exact a1 x (.inl hxR)
        · rcases hc u hu z hz with hz | hz
          · exact .inl hz
          · rcases List.mem_append.mp hz with hz | hz
            · exact .inr hz
            · rw [List.mem_singleton.mp hz]; exact .inl hxR
        · rcases hz with hz | hz
          · exact h0 z (.inl hz)
          · exact h0 z (.inr (by simp [hz]))
      · rw [if_neg hxR]
        have lt : lft U (R ++ [x]) < lft U R := Bz7E hx (by simp [hxR]) (by simp) fun y hy => by
          simp only [List.mem_append, List.mem_singleton, Bool.not_eq_true', decide_eq_false_iff_not, not_or] at hy ⊢
          exact hy.1
        obtain ⟨m1, m2⟩ := hM x hx
        have mul : M * lft U (R ++ [x]) + M ≤ M * lft U R := by
          have : lft U (R ++ [x]) + 1 ≤ lft U R := lt
          have := Nat.mul_le_mul_left M this
          rw [Nat.mul_add, Nat.mul_one] at this
          exact this
        obtain ⟨R', y', e, a1, a2, a3⟩ := ih (V ++ memT l x) (R ++ [x]) (some (.d (.str x))) (by rw [List.length_append]; omega) (fun z hz => (List.mem_append.mp hz).elim (hV z) (m2 z)) (by rw [List.length_append, List.length_singleton]; omega) (by rw [List.length_append]; omega)
        refine ⟨R', y', e, fun z hz => ?_, fun hc => a2 fun u hu z hz => ?_, fun P hP h0 => a3 P hP fun z hz => ?_⟩
        · rcases hz with hz | hz
          · exact a1 z (.inl (by simp [hz]))
          · rcases List.mem_append.mp hz with hz | hz
            · exact a1 z (.inr (by simp [hz]))
            · exact a1 z (.inl (by rw [List.mem_singleton.mp hz]; simp))
        · rcases List.mem_append.mp hu with hu | hu
          · rcases hc u hu z hz with hz | hz
            · exact .inl (by simp [hz])
            · rcases List.mem_append.mp hz with hz | hz
              · exact .inr (by simp [hz])
              · exact .inl (by simp [List.mem_singleton.mp hz])
          · rw [List.mem_singleton.mp hu] at hz
            exact .inr (by simp [hz])
        · rcases hz with hz | hz
          · rcases List.mem_append.mp hz with hz | hz
            · exact h0 z (.inl hz)
            · rw [List.mem_singleton.mp hz]; exact h0 x (.inr (by simp))
          · rcases List.mem_append.mp hz with hz | hz
            · exact h0 z (.inr (by simp [hz]))
            · exact hP x (h0 x (.inr (by simp))) z hz
theorem Bz3E : ∀ (l acc : List (Key × D)), ((acc ++ l).map (·.1)).Nodup → l.foldl (fun a p => tPut a p.1 p.2) acc = acc ++ l
  | [], acc, _ => by rw [List.foldl_nil, List.append_nil]
  | p :: l, acc, h => by
    have h1 : tHas acc p.1 = false := by
      cases hh : tHas acc p.1 with
      | false => rfl
      | true =>
        unfold tHas at hh
        obtain ⟨q, hq, e⟩ := List.any_eq_true.mp hh
        rw [List.map_append, List.map_cons, List.nodup_append] at h
        exact absurd (of_decide_eq_true e) (h.2.2 q.1 (List.mem_map_of_mem hq) p.1 List.mem_cons_self)
    have h2 : tPut acc p.1 p.2 = acc ++ [p] := by
      unfold tPut
      rw [h1]; rfl
    rw [List.foldl_cons, h2, Bz3E l (acc ++ [p]) (by rw [List.append_assoc]; exact h), List.append_assoc]
    rfl
theorem Bz8H (l : List (Key × D)) (h : (l.map (·.1)).Nodup) : mergeT l = l := (Bz3E l [] h).trans (List.nil_append l)
noncomputable def tK (ks : List Nat) (f : Nat → Str) (g : Nat → D) : List (Key × D) := ks.map fun k => (.inr (f k), g k)
noncomputable def InjOn (ks : List Nat) (f : Nat → Str) : Prop := ∀ a ∈ ks, ∀ b ∈ ks, f a = f b → a = b
theorem Bz7L {ks : List Nat} {f : Nat → Str} {g : Nat → D} (hi : InjOn ks f) (hn : ks.Nodup) : ((tK ks f g).map (·.1)).Nodup := by
  unfold tK
  rw [List.map_map]
  refine List.Pairwise.map _ (R := fun a b => a ∈ ks ∧ b ∈ ks ∧ a ≠ b) (fun a b h z => h.2.2 (hi a h.1 b h.2.1 (Sum.inr.inj z))) ?_
  exact List.Pairwise.imp_of_mem (fun ha hb h => ⟨ha, hb, h⟩) hn
theorem tK_get {f : Nat → Str} {g : Nat → D} : ∀ {ks : List Nat}, InjOn ks f → ∀ {k : Nat}, k ∈ ks → tGet (tK ks f g) (.inr (f k)) = some (g k)
  | [], _, _, h => by simp at h
  | a :: ks, hi, k, h => by
    show tGet ((Sum.inr (f a), g a) :: tK ks f g) (.inr (f k)) = _
    by_cases e : f a = f k
    · have : a = k := hi a List.mem_cons_self k h e
      subst this
      exact Az4V rfl
    · rw [Az3Y (fun z => e (Sum.inr.inj z))]
      rcases List.mem_cons.mp h with rfl | h
      · exact absurd rfl e
      · exact tK_get (fun a ha b hb => hi a (List.mem_cons_of_mem _ ha) b (List.mem_cons_of_mem _ hb)) h
theorem Az9P {f : Nat → Str} {g : Nat → D} {x : Str} : ∀ {ks : List Nat}, (∀ k ∈ ks, f k ≠ x) → tGet (tK ks f g) (.inr x) = none
  | [], _ => rfl
  | a :: ks, h => by
    show tGet ((Sum.inr (f a), g a) :: tK ks f g) (.inr x) = _
    rw [Az3Y (fun z => h a List.mem_cons_self (Sum.inr.inj z))]
    exact Az9P fun k hk => h k (List.mem_cons_of_mem _ hk)
noncomputable def dK (l : List (Key × D)) : D := .dct (l.map (·.1)) (l.map (·.2))
theorem dK_zip (l : List (Key × D)) : (l.map (·.1)).zip (l.map (·.2)) = l := by
  rw [List.zip_map']
  exact List.map_id _
theorem Az7S (f : Nat → Str) (g : Nat → D) : ∀ ks : List Nat, Az4X (ks.map fun k => D.tup [.str (f k), g k]) = some (tK ks f g)
  | [] => rfl
  | k :: ks => by
    rw [List.map_cons]
    show (match keyD (.str (f k)), Az4X (ks.map fun k => D.tup [.str (f k), g k]) with
      | some kk, some l => some ((kk, g k) :: l)
      | _, _ => none) = _
    rw [Az7S f g ks]; rfl
theorem Bz4G {ks : List Nat} {f : Nat → Str} {g : Nat → D} (hi : InjOn ks f) (hn : ks.Nodup) : dictLR (.lst (ks.map fun k => D.tup [.str (f k), g k])) = .ok (dK (tK ks f g)) := by
  unfold dictLR
  dsimp only
  rw [Az7S]
  dsimp only
  rw [Bz8H _ (Bz7L hi hn)]; rfl
theorem Az8W (f : Nat → Str) (g : Nat → D) (ks : List Nat) : pairsR (dK (tK ks f g)) = .ok (ks.map fun k => D.tup [.str (f k), g k]) := by
  show Res.ok ((((tK ks f g).map (·.1)).zip ((tK ks f g).map (·.2))).map fun p => D.tup [keyOf p.1, p.2]) = _
  rw [dK_zip]
  unfold tK
  rw [List.map_map]; rfl
theorem Cz1W (f : Nat → Str) (g : Nat → D) (ks : List Nat) : keysR (dK (tK ks f g)) = .ok (ks.map fun k => D.str (f k)) := by
  show Res.ok (((tK ks f g).map (·.1)).map keyOf) = _
  unfold tK
  rw [List.map_map, List.map_map]; rfl
theorem Az3M (l : List (Key × D)) (r : DSt) : slotQ 0 (some (.d (dK l)) :: r) = .ok l := by
  show Res.ok ((l.map (·.1)).zip (l.map (·.2))) = _
  rw [dK_zip]
theorem Az5F (n : Nat) (a : Option S) (r : DSt) : slotQ (n + 1) (a :: r) = slotQ n r := by simp [slotQ]
theorem in_tK {f : Nat → Str} {g : Nat → D} {ks : List Nat} (hi : InjOn ks f) {k : Nat} (h : k ∈ ks) : inQR (.str (f k)) (tK ks f g) = .ok (.bl true) := by
  show Res.ok (D.bl (tGet (tK ks f g) (.inr (f k))).isSome) = _
  rw [tK_get hi h]; rfl
theorem get_tK {f : Nat → Str} {g : Nat → D} {ks : List Nat} (hi : InjOn ks f) {k : Nat} (h : k ∈ ks) : dgetR (tK ks f g) (.str (f k)) = .ok (g k) := by
  show (match tGet (tK ks f g) (.inr (f k)) with | some d => Res.ok d | none => .stuck) = _
  rw [tK_get hi h]
noncomputable def sL (ks : List Nat) (f : Nat → Str) : D := .lst (ks.map fun k => D.str (f k))
theorem inB_sL {f : Nat → Str} {U : List Nat} (hi : InjOn U f) : ∀ {ks : List Nat} {k : Nat}, (∀ a ∈ ks, a ∈ U) → k ∈ U → inB (.str (f k)) (ks.map fun k => D.str (f k)) = decide (k ∈ ks)
  | [], k, _, _ => rfl
  | a :: ks, k, h, hk => by
    have ih := inB_sL hi (ks := ks) (fun a ha => h a (List.mem_cons_of_mem _ ha)) hk
    unfold inB at ih ⊢
    rw [List.map_cons, List.any_cons, ih]
    by_cases e : a = k
    · subst e; simp [eqD]
    · have e1 : ¬ f a = f k := fun z => e (hi a (h a List.mem_cons_self) k hk z)
      have e2 : ¬ k = a := fun z => e z.symm
      simp [eqD, e1, e2]
theorem Bz7D (f : Nat → Str) (ks : List Nat) : (ks.map fun k => D.str (f k)).all flatD = true := by
  rw [List.all_eq_true]; intro d hd; obtain ⟨i, _, rfl⟩ := List.mem_map.mp hd; rfl
theorem inR_sL {f : Nat → Str} {U : List Nat} (hi : InjOn U f) {ks : List Nat} {k : Nat} (h : ∀ a ∈ ks, a ∈ U) (hk : k ∈ U) : inR (.str (f k)) (sL ks f) = .ok (.bl (decide (k ∈ ks))) := by
  show (if (flatD (.str (f k)) && (ks.map fun k => D.str (f k)).all flatD) = true then _ else _) = _
  rw [Bz7D, inB_sL hi h hk]; rfl
theorem Cz1K {f : Nat → Str} {U : List Nat} (hi : InjOn U f) {ks : List Nat} {k : Nat} (h : ∀ a ∈ ks, a ∈ U) (hk : k ∈ U) : ninR (.str (f k)) (sL ks f) = .ok (.bl (!decide (k ∈ ks))) := by
  show (if (flatD (.str (f k)) && (ks.map fun k => D.str (f k)).all flatD) = true then _ else _) = _
  rw [Bz7D, inB_sL hi h hk]; rfl
theorem Az5U {gc : DSt → Res Bool} {fe : DSt → Res D} (pr : Nat → Bool) (u v : Nat → D) (F : Nat → D) (δ : DSt) : ∀ (ks : List Nat) (x y : Option S), (∀ k ∈ ks, gc (some (.d (u k)) :: some (.d (v k)) :: δ) = .ok (pr k) ∧ (pr k = true → fe (some (.d (u k)) :: some (.d (v k)) :: δ) = .ok (F k))) →
    compD (unTup 2 (unCons (setI 0) (unCons (setI 1) unNil))) gc fe (ks.map fun k => D.tup [u k, v k]) (x :: y :: δ) = .ok ((ks.filter pr).map F)
  | [], _, _, _ => rfl
  | k :: ks, x, y, h => by
    obtain ⟨h1, h2⟩ := h k List.mem_cons_self
    have ih := Az5U pr u v F δ ks (some (.d (u k))) (some (.d (v k))) (fun q hq => h q (List.mem_cons_of_mem _ hq))
    rw [List.map_cons, Az4S (δ' := some (.d (u k)) :: some (.d (v k)) :: δ) _ _ _ _ rfl, h1]
    cases hp : pr k with
    | true =>
      rw [List.filter_cons_of_pos hp]
      simp only [Az5Q, Res.bind_ok, if_true, h2 hp, ih, List.map_cons]
    | false =>
      rw [List.filter_cons_of_neg (by rw [hp]; simp)]
      simp only [Az5Q, Res.bind_ok, Bool.false_eq_true, if_false, ih]
theorem Az3P {gc : DSt → Res Bool} {fe : DSt → Res D} (pr : Nat → Bool) (u F : Nat → D) (δ : DSt) : ∀ (ks : List Nat) (x : Option S), (∀ k ∈ ks, gc (some (.d (u k)) :: δ) = .ok (pr k) ∧ (pr k = true → fe (some (.d (u k)) :: δ) = .ok (F k))) →
    compD (setI 0) gc fe (ks.map u) (x :: δ) = .ok ((ks.filter pr).map F)
  | [], _, _ => rfl
  | k :: ks, x, h => by
    obtain ⟨h1, h2⟩ := h k List.mem_cons_self
    have ih := Az3P pr u F δ ks (some (.d (u k))) (fun q hq => h q (List.mem_cons_of_mem _ hq))
    rw [List.map_cons, Az4S (δ' := some (.d (u k)) :: δ) _ _ _ _ rfl, h1]
    cases hp : pr k with
    | true =>
      rw [List.filter_cons_of_pos hp]
      simp only [Az5Q, Res.bind_ok, if_true, h2 hp, ih, List.map_cons]
    | false =>
      rw [List.filter_cons_of_neg (by rw [hp]; simp)]
      simp only [Az5Q, Res.bind_ok, Bool.false_eq_true, if_false, ih]
theorem Az3F {ks : List Nat} : ks.filter (fun _ => true) = ks := by simp
structure Hs where
  X : Str
  Q : Str
  p : Int
  d : Int
  h : Int
  s : Int
  m : Nat
  ks : List Nat
  own : Nat → List Nat
  cut : Nat → List Int
  bar : Nat → List (List Int)
noncomputable def Hs.dn (H : Hs) (j : Nat) : Str := nm H.X H.Q j
noncomputable def Hs.kn (H : Hs) (k : Nat) : Str := nm H.X H.Q (26 + k)
noncomputable def Hs.drs (H : Hs) : List Nat := List.range H.m
noncomputable def Hs.ru (H : Hs) : D := ruD H.p H.d H.h H.s
noncomputable def Hs.hold (H : Hs) (j : Nat) : List Nat := H.ks.filter fun k => decide (j ∈ H.own k)
noncomputable def Hs.grD (H : Hs) : D := .lst (H.ks.map fun k => D.tup [.str (H.kn k), sL (H.own k) H.dn])
noncomputable def Hs.hsD (H : Hs) : D := HsD H.ru (sL H.drs H.dn) (.lst []) H.grD
noncomputable def Hs.spT (H : Hs) : List (Key × D) := tK H.ks H.kn fun k => sL (H.own k) H.dn
noncomputable def Hs.heT (H : Hs) : List (Key × D) := tK H.drs H.dn fun j => sL (H.hold j) H.kn
noncomputable def Hs.plT (H : Hs) : List (Key × D) := tK H.ks H.kn fun k => pD (H.cut k)
noncomputable def Hs.lb (H : Hs) (j : Nat) : List (List Int) := lstB H.p.toNat ((H.hold j).map H.cut)
noncomputable def Hs.baT (H : Hs) : List (Key × D) := tK H.drs H.dn fun j => if H.hold j = [] then .non else bD (H.lb j)
structure Hs.Ok (H : Hs) : Prop where
  xl : H.X.length ≤ 10
  ql : H.Q.length ≤ 10
  hp : 1 ≤ H.p
  hp2 : H.p ≤ 100
  hm : H.m ≤ 8
  nk : H.ks.Nodup
  kl : H.ks.length ≤ 16
  kb : ∀ k ∈ H.ks, k < 16
  ob : ∀ k ∈ H.ks, ∀ j, j ∈ H.own k ↔ j < H.m ∧ opB (H.bar j) (H.cut k) = true
  on : ∀ k ∈ H.ks, (H.own k).Nodup
  os : ∀ k ∈ H.ks, H.own k = H.drs.filter fun j => opB (H.bar j) (H.cut k)
  ol : ∀ k ∈ H.ks, (H.own k).length ≤ 8
  cl : ∀ k ∈ H.ks, (H.cut k).length = H.p.toNat
  bl : ∀ j, j < H.m → (H.bar j).length = H.p.toNat ∧ ∀ q ∈ H.bar j, PinOk H.d H.h q
theorem dn_inj (H : Hs) (hm : H.m ≤ 8) : InjOn H.drs H.dn := fun a ha b hb e => nm_inj (by have := List.mem_range.mp ha; omega) (by have := List.mem_range.mp hb; omega) e
theorem kn_inj (H : Hs) (o : H.Ok) : InjOn H.ks H.kn := fun a ha b hb e => by
  have h1 := o.kb a ha
  have h2 := o.kb b hb
  have := nm_inj (X := H.X) (Q := H.Q) (j := 26 + a) (k := 26 + b) (by omega) (by omega) e
  omega
theorem kd_ne (H : Hs) (o : H.Ok) {k j : Nat} (hk : k ∈ H.ks) (hj : j < H.m) : H.kn k ≠ H.dn j := fun e => by
  have h1 := o.kb k hk
  have h2 := o.hm
  have := nm_inj (X := H.X) (Q := H.Q) (j := 26 + k) (k := j) (by omega) (by omega) e
  omega
theorem Bz2T (H : Hs) (o : H.Ok) {k : Nat} (hk : k ∈ H.ks) : ∀ a ∈ H.own k, a ∈ H.drs := fun a ha => List.mem_range.mpr ((o.ob k hk a).mp ha).1
theorem memT_k (H : Hs) (o : H.Ok) {k : Nat} (hk : k ∈ H.ks) : memT H.spT (H.kn k) = (H.own k).map H.dn := by
  unfold memT Hs.spT
  rw [tK_get (kn_inj H o) hk]
  show (strsOf ((H.own k).map fun k => D.str (H.dn k))).getD [] = _
  have : ((H.own k).map fun k => D.str (H.dn k)) = ((H.own k).map H.dn).map D.str := by rw [List.map_map]; rfl
  rw [this, Az5O]; rfl
theorem memT_d (H : Hs) (o : H.Ok) {j : Nat} (hj : j < H.m) : memT H.spT (H.dn j) = [] := by
  unfold memT Hs.spT
  rw [Az9P fun k hk => kd_ne H o hk hj]
theorem Bz9W (H : Hs) : StrT H.spT := fun p hp => by
  unfold Hs.spT tK at hp
  obtain ⟨k, _, rfl⟩ := List.mem_map.mp hp
  exact ⟨(H.own k).map H.dn, by show sL (H.own k) H.dn = _; unfold sL; rw [List.map_map]; rfl⟩
theorem Bz9A (H : Hs) (o : H.Ok) {k : Nat} (hk : k ∈ H.ks) : callR 2 Az3D [H.hsD, .str (H.kn k)] = .ok (sL (H.own k) H.dn) := by
  have f2 := fld2 H.ru (sL H.drs H.dn) (.lst []) H.grD
  have f3 := fld3 H.ru (sL H.drs H.dn) (.lst []) H.grD
  have f4 := fld4 H.ru (sL H.drs H.dn) (.lst []) H.grD
  have c1 : catR (.lst []) H.grD = .ok (H.ks.map fun k => D.tup [.str (H.kn k), sL (H.own k) H.dn]) := catR_l [] _ (by
    rw [List.length_map, List.length_nil]
    have := o.kl
    omega)
  have dc := Bz4G (g := fun k => sL (H.own k) H.dn) (kn_inj H o) o.nk
  have hol := o.ol k hk
  obtain ⟨R, y, wh, a1, a2, a3⟩ := Bz9B H.hsD (.str (H.kn k)) H.spT (Bz9W H) (H.kn k :: (H.own k).map H.dn) 8 (fun x hx => by
    rcases List.mem_cons.mp hx with rfl | hx
    · rw [memT_k H o hk]
      exact ⟨by rw [List.length_map]; exact hol, fun z hz => List.mem_cons_of_mem _ hz⟩
    · obtain ⟨j, hj, rfl⟩ := List.mem_map.mp hx
      rw [memT_d H o ((o.ob k hk j).mp hj).1]
      exact ⟨by simp, fun z hz => by simp at hz⟩) (by decide) (by rw [List.length_cons, List.length_map]; omega) 100000 [H.kn k] [] none (by
        have : lft (H.kn k :: (H.own k).map H.dn) [] ≤ 9 := Nat.le_trans (List.length_filter_le _ _) (by rw [List.length_cons, List.length_map]; omega)
        rw [List.length_singleton]; omega) (fun x hx => by rw [List.mem_singleton.mp hx]; exact List.mem_cons_self) (by
        have : lft (H.kn k :: (H.own k).map H.dn) [] ≤ 9 := Nat.le_trans (List.length_filter_le _ _) (by rw [List.length_cons, List.length_map]; omega)
        simp only [List.length_nil]; omega) (by
        have : lft (H.kn k :: (H.own k).map H.dn) [] ≤ 9 := Nat.le_trans (List.length_filter_le _ _) (by rw [List.length_cons, List.length_map]; omega)
        rw [List.length_singleton]; omega)
  have inR' : ∀ j, j < H.m → (H.dn j ∈ R ↔ j ∈ H.own k) := fun j hj => by
    constructor
    · intro hx
      have := a3 (fun x => x = H.kn k ∨ x ∈ (H.own k).map H.dn) (fun x hx z hz => by
        rcases hx with rfl | hx
        · rw [memT_k H o hk] at hz; exact .inr hz
        · obtain ⟨i, hi, rfl⟩ := List.mem_map.mp hx
          rw [memT_d H o ((o.ob k hk i).mp hi).1] at hz
          simp at hz) (fun x hx => by
        rcases hx with hx | hx
        · simp at hx
        · exact .inl (List.mem_singleton.mp hx)) _ hx
      rcases this with e | e
      · exact absurd e.symm (kd_ne H o hk hj)
      · obtain ⟨i, hi, e⟩ := List.mem_map.mp e
        have := dn_inj H o.hm i (Bz2T H o hk i hi) j (List.mem_range.mpr hj) e
        rw [← this]; exact hi
    · intro hx
      have k0 : H.kn k ∈ R := a1 _ (.inr (List.mem_singleton.mpr rfl))
      exact a2 (fun x hx => by simp at hx) _ k0 _ (by rw [memT_k H o hk]; exact List.mem_map_of_mem hx)
  have cm : ∀ δ, compR 1 (setI 0) Az3K Az4G (some (.d H.hsD) :: some (.d (.str (H.kn k))) :: some (.d (dK H.spT)) :: some (.d (.dct (R.map fun x => (Sum.inr x : Key)) (R.map fun _ => D.bl true))) :: δ) (H.drs.map fun j => D.str (H.dn j)) = .ok ((H.own k).map fun j => D.str (H.dn j)) := fun δ => by
    refine Az1G ?_ (by rw [List.length_map]; unfold Hs.drs; rw [List.length_range]; have := o.hm; omega)
    have := Az3P (gc := Az3K) (fe := Az4G) (fun j => opB (H.bar j) (H.cut k)) (fun j => D.str (H.dn j)) (fun j => D.str (H.dn j)) (some (.d H.hsD) :: some (.d (.str (H.kn k))) :: some (.d (dK H.spT)) :: some (.d (.dct (R.map fun x => (Sum.inr x : Key)) (R.map fun _ => D.bl true))) :: δ) H.drs none (fun j hj => by
      have hj' := List.mem_range.mp hj
      refine ⟨?_, fun _ => rfl⟩
      have q1 : slotQ 4 (some (.d (.str (H.dn j))) :: some (.d H.hsD) :: some (.d (.str (H.kn k))) :: some (.d (dK H.spT)) :: some (.d (.dct (R.map fun x => (Sum.inr x : Key)) (R.map fun _ => D.bl true))) :: δ) = .ok (rK R) := by
        rw [← rK_zip]; rfl
      have q2 : inQR (.str (H.dn j)) (rK R) = .ok (.bl (opB (H.bar j) (H.cut k))) := by
        show Res.ok (D.bl (tGet (rK R) (.inr (H.dn j))).isSome) = _
        rw [rK_get]
        congr 2
        rw [Bool.eq_iff_iff, decide_eq_true_eq, inR' j hj', o.ob k hk j]
        exact ⟨fun z => z.2, fun z => ⟨hj', z⟩⟩
      unfold Az3K
      simp only [tR, b2R, Az0C, Res.bind_ok, q1, q2, Az0G])
    rw [← o.os k hk] at this
    exact this
  refine Az0K _ _ _ _ ?_ rfl
  have dof0 : ([some (.d H.hsD), some (.d (.str (H.kn k))), some (.d (dK H.spT)), some (.q [] []), some (.o [.str (H.kn k)]), none] : DSt) = dofS H.hsD (.str (H.kn k)) (.dct (H.spT.map (·.1)) (H.spT.map (·.2))) [] [H.kn k] none := rfl
  have sq : seqR (sL H.drs H.dn) = .ok (H.drs.map fun j => D.str (H.dn j)) := rfl
  have fz : frzD 3 (dofS H.hsD (.str (H.kn k)) (.dct (H.spT.map (·.1)) (H.spT.map (·.2))) R [] y) = [some (.d H.hsD), some (.d (.str (H.kn k))), some (.d (dK H.spT)), some (.d (.dct (R.map fun x => (Sum.inr x : Key)) (R.map fun _ => D.bl true))), some (.o []), y] := rfl
  change fldR "House" "doors" H.hsD = _ at f2
  change fldR "House" "wings" H.hsD = _ at f3
  change fldR "House" "grants" H.hsD = _ at f4
  unfold Az3D Az8O
  simp only [Az0R, startD, List.map_cons, List.map_nil, List.length_cons, List.length_nil, List.cons_append, List.nil_append, Nat.reduceAdd, Nat.reduceSub, List.replicate, b1, b2F, asD, lstR, aCons, aNil, Az0E, sSeq, sSet, sOwn, sOwnQ, sWhile, Az0I, Az0L, Res.bind_ok, f2, f3, f4, c1, dc, ofR_ok, Az0N, List.set_cons_zero, List.set_cons_succ, Nat.reduceLeDiff, if_true, reduceIte]
  change finO (seqO (whileD Az1T Az1S 100000 (dofS H.hsD (.str (H.kn k)) (.dct (H.spT.map (·.1)) (H.spT.map (·.2))) [] [H.kn k] none)) _) = _
  rw [wh, Az0N]
  unfold sFrz
  rw [fz]
  simp only [sRet, asD, vComp, b1, Az0I, Res.bind_ok, f2, sq, cm, ofR_ok, Az0S]
  rfl
theorem Bz8F (H : Hs) : callR 1 Az1E [H.grD] = .ok (sL H.ks H.kn) ∨ 1000 < H.ks.length := by
  by_cases hl : H.ks.length ≤ 1000
  · left
    have cm : compR 2 (unTup 2 (unCons (setI 0) (unCons (setI 1) unNil))) (fun _ => .ok true) Az4F [some (.d H.grD)] (H.ks.map fun k => D.tup [.str (H.kn k), sL (H.own k) H.dn]) = .ok (H.ks.map fun k => D.str (H.kn k)) := by
      refine Az1G ?_ (by rw [List.length_map]; omega)
      have := Az5U (gc := fun _ => .ok true) (fe := Az4F) (fun _ => true) (fun k => D.str (H.kn k)) (fun k => sL (H.own k) H.dn) (fun k => D.str (H.kn k)) [some (.d H.grD)] H.ks none none (fun k _ => ⟨rfl, fun _ => rfl⟩)
      rw [Az3F] at this
      exact this
    have sq : seqR H.grD = .ok (H.ks.map fun k => D.tup [.str (H.kn k), sL (H.own k) H.dn]) := rfl
    refine Az0K _ _ _ _ ?_ rfl
    unfold Az1E Az8J
    simp only [Az0R, startD, List.map_cons, List.map_nil, List.length_cons, List.length_nil, List.cons_append, List.nil_append, Nat.reduceAdd, Nat.reduceSub, List.replicate, b1, asD, vComp, sRet, Az0I, Res.bind_ok, sq, cm, ofR_ok, Az0S]
    rfl
  · right; omega
theorem Bz3C (H : Hs) (o : H.Ok) : callR 1 Az1E [H.grD] = .ok (sL H.ks H.kn) := (Bz8F H).elim id fun z => by have := o.kl; omega
theorem Bz7N (H : Hs) (o : H.Ok) : callR 1 Az2Z [H.hsD] = .ok (dK H.spT) := by
  have f4 : fldR "House" "grants" H.hsD = .ok H.grD := fld4 H.ru (sL H.drs H.dn) (.lst []) H.grD
  have nms := Bz3C H o
  have cm : compR 1 (setI 0) (fun _ => .ok true) Az3H [some (.d H.hsD)] (H.ks.map fun k => D.str (H.kn k)) = .ok (H.ks.map fun k => D.tup [.str (H.kn k), sL (H.own k) H.dn]) := by
    refine Az1G ?_ (by rw [List.length_map]; have := o.kl; omega)
    have := Az3P (gc := fun _ => .ok true) (fe := Az3H) (fun _ => true) (fun k => D.str (H.kn k)) (fun k => D.tup [.str (H.kn k), sL (H.own k) H.dn]) [some (.d H.hsD)] H.ks none (fun k hk => ⟨rfl, fun _ => by
      have e := Bz9A H o hk
      unfold Az3H
      simp only [b1, tupR, aCons, aNil, Az0E, Az0I, Az0L, Res.bind_ok, e, List.length_cons, List.length_nil, Nat.reduceAdd, Nat.reduceLeDiff, if_true, reduceIte]⟩)
    rw [Az3F] at this
    exact this
  have dc := Bz4G (g := fun k => sL (H.own k) H.dn) (kn_inj H o) o.nk
  have sq : seqR (sL H.ks H.kn) = .ok (H.ks.map fun k => D.str (H.kn k)) := rfl
  refine Az0K _ _ _ _ ?_ rfl
  unfold Az2Z Az8H
  simp only [Az0R, startD, List.map_cons, List.map_nil, List.length_cons, List.length_nil, List.cons_append, List.nil_append, Nat.reduceAdd, Nat.reduceSub, List.replicate, b1, asD, vComp, aCons, aNil, Az0E, sRet, Az0I, Res.bind_ok, f4, nms, sq, cm, dc, ofR_ok, Az0S]
  rfl
theorem Bz7B (H : Hs) (o : H.Ok) : callR 1 Az2K [H.hsD] = .ok (dK H.heT) := by
  have f2 : fldR "House" "doors" H.hsD = .ok (sL H.drs H.dn) := fld2 H.ru (sL H.drs H.dn) (.lst []) H.grD
  have sp := Bz7N H o
  have pr := Az8W H.kn (fun k => sL (H.own k) H.dn) H.ks
  have cm : compR 1 (setI 0) (fun _ => .ok true) Az3V [some (.d H.hsD), some (.d (dK H.spT))] (H.drs.map fun j => D.str (H.dn j)) = .ok (H.drs.map fun j => D.tup [.str (H.dn j), sL (H.hold j) H.kn]) := by
    refine Az1G ?_ (by rw [List.length_map]; unfold Hs.drs; rw [List.length_range]; have := o.hm; omega)
    have := Az3P (gc := fun _ => .ok true) (fe := Az3V) (fun _ => true) (fun j => D.str (H.dn j)) (fun j => D.tup [.str (H.dn j), sL (H.hold j) H.kn]) [some (.d H.hsD), some (.d (dK H.spT))] H.drs none (fun j hj => ⟨rfl, fun _ => by
      have cm2 : compR 2 (unTup 2 (unCons (setI 0) (unCons (setI 1) unNil))) Az3W Az5D [some (.d (.str (H.dn j))), some (.d H.hsD), some (.d (dK H.spT))] (H.ks.map fun k => D.tup [.str (H.kn k), sL (H.own k) H.dn]) = .ok ((H.hold j).map fun k => D.str (H.kn k)) := by
        refine Az1G ?_ (by rw [List.length_map]; have := o.kl; omega)
        exact Az5U (gc := Az3W) (fe := Az5D) (fun k => decide (j ∈ H.own k)) (fun k => D.str (H.kn k)) (fun k => sL (H.own k) H.dn) (fun k => D.str (H.kn k)) [some (.d (.str (H.dn j))), some (.d H.hsD), some (.d (dK H.spT))] H.ks none none (fun k hk => ⟨by
          have e := inR_sL (dn_inj H o.hm) (Bz2T H o hk) hj
          unfold Az3W
          simp only [tR, b2, Az0C, Az0F, Res.bind_ok, e, Az0G], fun _ => rfl⟩)
      unfold Az3V
      simp only [b1, b1Q, asD, vComp, tupR, aCons, aNil, Az0E, Az0I, Az0L, Res.bind_ok, Hs.spT, pr, cm2, List.length_cons, List.length_nil, Nat.reduceAdd, Nat.reduceLeDiff, if_true, reduceIte]
      rw [show dK (tK H.ks H.kn fun k => sL (H.own k) H.dn) = dK H.spT from rfl, cm2]
      simp only [Res.bind_ok, Az0E, tupR, List.length_cons, List.length_nil, Nat.reduceAdd, Nat.reduceLeDiff, if_true, reduceIte]
      rfl⟩)
    rw [Az3F] at this
    exact this
  have dc := Bz4G (g := fun j => sL (H.hold j) H.kn) (dn_inj H o.hm) (List.nodup_range (n := H.m))
  have sq : seqR (sL H.drs H.dn) = .ok (H.drs.map fun j => D.str (H.dn j)) := rfl
  refine Az0K _ _ _ _ ?_ rfl
  unfold Az2K Bz0Y
  simp only [Az0R, startD, List.map_cons, List.map_nil, List.length_cons, List.length_nil, List.cons_append, List.nil_append, Nat.reduceAdd, Nat.reduceSub, List.replicate, b1, asD, vComp, aCons, aNil, Az0E, sSeq, sSet, sRet, Az0I, Res.bind_ok, sp, f2, sq, cm, ofR_ok, Az0N, Az0S, List.set_cons_zero, List.set_cons_succ]
  change finO (ofR (dictLR (.lst (H.drs.map fun j => D.tup [.str (H.dn j), sL (H.hold j) H.kn]))) _) = _
  rw [dc]
  rfl
theorem up_le : ∀ {b a : List Int}, Up a → Up b → (∀ x ∈ a, x ∈ b) → a.length ≤ b.length
  | [], [], _, _, _ => Nat.le_refl _
  | [], x :: a, _, _, h => by have := h x List.mem_cons_self; simp at this
  | y :: b, [], _, _, _ => by simp
  | y :: b, x :: a, ha, hb, h => by
    have ha1 : ∀ z ∈ a, x < z := fun z hz => (List.pairwise_cons.mp ha).1 z hz
    have hb1 : ∀ z ∈ b, y < z := fun z hz => (List.pairwise_cons.mp hb).1 z hz
    have ha2 : Up a := (List.pairwise_cons.mp ha).2
    have hb2 : Up b := (List.pairwise_cons.mp hb).2
    rcases List.mem_cons.mp (h x List.mem_cons_self) with e | e
    · subst e
      have := up_le ha2 hb2 fun z hz => by
        rcases List.mem_cons.mp (h z (List.mem_cons_of_mem _ hz)) with e | e
        · have := ha1 z hz; omega
        · exact e
      rw [List.length_cons, List.length_cons]; omega
    · have hxy := hb1 x e
      have := up_le ha hb2 fun z hz => by
        rcases List.mem_cons.mp (h z hz) with e2 | e2
        · rcases List.mem_cons.mp hz with e3 | e3
          · omega
          · have := ha1 z e3; omega
        · exact e2
      simp only [List.length_cons] at this ⊢
      omega
theorem Az5C (H : Hs) {k j : Nat} : k ∈ H.hold j ↔ k ∈ H.ks ∧ j ∈ H.own k := by
  unfold Hs.hold
  rw [List.mem_filter, decide_eq_true_eq]
theorem lb_at (H : Hs) (j i : Nat) (hi : i < H.p.toNat) : (H.lb j).getD i [] = sortI ((H.hold j).map fun k => (H.cut k).getD i 0) := by
  unfold Hs.lb
  rw [Cz1U _ _ _ hi, List.map_map]; rfl
theorem lb_in (H : Hs) (o : H.Ok) {j i : Nat} (hj : j < H.m) (hi : i < H.p.toNat) : ∀ x ∈ (H.lb j).getD i [], x ∈ (H.bar j).getD i [] := fun x hx => by
  rw [lb_at H j i hi] at hx
  obtain ⟨k, hk, rfl⟩ := List.mem_map.mp (mem_sortI.mp hx)
  obtain ⟨h1, h2⟩ := (Az5C H).mp hk
  have := opB_iff.mp ((o.ob k h1 j).mp h2).2 i (by rw [(o.bl j hj).1]; exact hi)
  exact this
theorem lb_fit (H : Hs) (o : H.Ok) {j : Nat} (hj : j < H.m) : ∀ i, i < H.p.toNat → ((sortI (((H.hold j).map H.cut).map fun c => c.getD i 0)).length : Int) ≤ H.h := fun i hi => by
  have e : ((H.hold j).map H.cut).map (fun c => c.getD i 0) = (H.hold j).map fun k => (H.cut k).getD i 0 := by rw [List.map_map]; rfl
  rw [e, ← lb_at H j i hi]
  obtain ⟨bl, bp⟩ := o.bl j hj
  have mem : (H.bar j).getD i [] ∈ H.bar j := by
    rw [List.getD_eq_getElem?_getD, List.getElem?_eq_getElem (show i < (H.bar j).length by omega)]
    exact List.getElem_mem _
  have pk := bp _ mem
  have := up_le (a := (H.lb j).getD i []) (b := (H.bar j).getD i []) (by rw [lb_at H j i hi]; exact Az6T _) pk.up (lb_in H o hj hi)
  have := pk.le
  omega
theorem lb_op (H : Hs) (o : H.Ok) {j k : Nat} (hj : j < H.m) (hk : k ∈ H.ks) : opB (H.lb j) (H.cut k) = true ↔ H.p.toNat = 0 ∨ k ∈ H.hold j := by
  have ll : (H.lb j).length = H.p.toNat := Az4Z _ _
  rw [opB_iff, ll]
  constructor
  · intro h
    by_cases hp : H.p.toNat = 0
    · exact .inl hp
    · right
      rw [Az5C, o.ob k hk j]
      refine ⟨hk, hj, opB_iff.mpr fun i hi => ?_⟩
      rw [(o.bl j hj).1] at hi
      exact lb_in H o hj hi _ (h i hi)
  · rintro (h | h) i hi
    · omega
    · rw [lb_at H j i hi]
      exact mem_sortI.mpr (List.mem_map.mpr ⟨k, h, rfl⟩)
theorem tK_put {f : Nat → Str} {g : Nat → D} (n : Nat) (hi : ∀ k, k < n → f k ≠ f n) : tPut (tK (List.range n) f g) (.inr (f n)) (g n) = tK (List.range (n + 1)) f g := by
  unfold tPut
  rw [Az4U, Az9P fun k hk => hi k (List.mem_range.mp hk)]
  unfold tK
  rw [List.range_succ, List.map_append]; rfl
theorem put_q (l : List (Key × D)) (a b c x y : Option S) (k : Str) (d : D) (hl : l.length ≤ 1000) (fi f : DSt → Res D) (e1 : f [a, b, c, some (.q (l.map (·.1)) (l.map (·.2))), x, y] = .ok d) (e2 : fi [a, b, c, some (.q (l.map (·.1)) (l.map (·.2))), x, y] = .ok (.str k)) :
    sPutI 3 fi f [a, b, c, some (.q (l.map (·.1)) (l.map (·.2))), x, y] = .nx [a, b, c, some (.q ((tPut l (.inr k) d).map (·.1)) ((tPut l (.inr k) d).map (·.2))), x, y] := by
  unfold sPutI
  rw [e1]
  show ofR (fi _) (putJ 3 _ ((l.map (·.1)).zip (l.map (·.2))) d) = _
  rw [e2, dK_zip]
  show (if l.length ≤ 1000 then _ else _) = _
  rw [if_pos hl]
  rfl
theorem Bz7H (H : Hs) (o : H.Ok) : callR 3 Az0W [H.ru, dK H.heT, dK H.plT] = .ok (dK H.baT) := by
  have pr := Az8W H.dn (fun j => sL (H.hold j) H.kn) H.drs
  have hm := o.hm
  obtain ⟨δ2, f, x, y, rfl⟩ := Az3L (t := unTup 2 (unCons (setI 4) (unCons (setI 5) unNil))) (body := Az4N) (fun i δ => ∃ x y : Option S, δ = [some (.d H.ru), some (.d (dK H.heT)), some (.d (dK H.plT)), some (.q ((tK (List.range i) H.dn fun j => if H.hold j = [] then .non else bD (H.lb j)).map (·.1)) ((tK (List.range i) H.dn fun j => if H.hold j = [] then .non else bD (H.lb j)).map (·.2))), x, y])
    (H.drs.map fun j => D.tup [.str (H.dn j), sL (H.hold j) H.kn]) [some (.d H.ru), some (.d (dK H.heT)), some (.d (dK H.plT)), some (.q [] []), none, none] (fun i d δ hd hI => by
      obtain ⟨x, y, rfl⟩ := hI
      rw [List.getElem?_map] at hd
      obtain ⟨j, hj, rfl⟩ := Option.map_eq_some_iff.mp hd
      have e2 : (List.range H.m)[i]? = some j := hj
      have hi' : i < H.m := by have := (List.getElem?_eq_some_iff.mp e2).1; rw [List.length_range] at this; exact this
      rw [List.getElem?_range hi'] at e2
      have this : j = i := (Option.some.inj e2).symm
      subst this
      have cm : compR 1 (setI 0) Az1H Az1F [some (.d H.ru), some (.d (dK H.heT)), some (.d (dK H.plT)), some (.q ((tK (List.range j) H.dn fun j => if H.hold j = [] then .non else bD (H.lb j)).map (·.1)) ((tK (List.range j) H.dn fun j => if H.hold j = [] then .non else bD (H.lb j)).map (·.2))), some (.d (.str (H.dn j))), some (.d (sL (H.hold j) H.kn))] ((H.hold j).map fun k => D.str (H.kn k)) = .ok ((H.hold j).map fun k => pD (H.cut k)) := by
        refine Az1G ?_ (by rw [List.length_map]; have := List.length_filter_le (fun k => decide (j ∈ H.own k)) H.ks; have := o.kl; unfold Hs.hold; omega)
        have := Az3P (gc := Az1H) (fe := Az1F) (fun _ => true) (fun k => D.str (H.kn k)) (fun k => pD (H.cut k)) [some (.d H.ru), some (.d (dK H.heT)), some (.d (dK H.plT)), some (.q ((tK (List.range j) H.dn fun j => if H.hold j = [] then .non else bD (H.lb j)).map (·.1)) ((tK (List.range j) H.dn fun j => if H.hold j = [] then .non else bD (H.lb j)).map (·.2))), some (.d (.str (H.dn j))), some (.d (sL (H.hold j) H.kn))] (H.hold j) none (fun k hk => by
          have hk' := ((Az5C H).mp hk).1
          have e1 := in_tK (g := fun k => pD (H.cut k)) (kn_inj H o) hk'
          have e2 := get_tK (g := fun k => pD (H.cut k)) (kn_inj H o) hk'
          refine ⟨?_, fun _ => ?_⟩
          · unfold Az1H
            simp only [tR, b2R, Az0C, Az5F, Az3M, Res.bind_ok, Hs.plT, e1, Az0G]
          · unfold Az1F
            simp only [b2Q, Az0C, Az5F, Az3M, Res.bind_ok, Hs.plT, e2])
        rw [Az3F] at this
        exact this
      have sq : seqR (sL (H.hold j) H.kn) = .ok ((H.hold j).map fun k => D.str (H.kn k)) := rfl
      have mm : ((H.hold j).map fun k => pD (H.cut k)) = ((H.hold j).map H.cut).map pD := by rw [List.map_map]; rfl
      have bf := Az8G H.p H.d H.h H.s (H.dn j) ((H.hold j).map H.cut) (by have := o.hp; omega) o.hp2 (fun c hc => by
        obtain ⟨k, hk, rfl⟩ := List.mem_map.mp hc
        exact o.cl k ((Az5C H).mp hk).1) (by rw [List.length_map]; have := List.length_filter_le (fun k => decide (j ∈ H.own k)) H.ks; have := o.kl; unfold Hs.hold; omega) (lb_fit H o hi')
      rw [← mm] at bf
      have nn : (if (H.hold j).map H.cut = [] then D.non else bD (lstB H.p.toNat ((H.hold j).map H.cut))) = if H.hold j = [] then D.non else bD (H.lb j) := by
        by_cases hz : H.hold j = []
        · rw [if_pos hz, if_pos (by rw [hz]; rfl)]
        · rw [if_neg hz, if_neg (fun z => hz (List.map_eq_nil_iff.mp z))]; rfl
      rw [nn] at bf
      have bf' : callR 3 Az0T [H.ru, .str (H.dn j), .lst ((H.hold j).map fun k => pD (H.cut k))] = _ := bf
      have pt := put_q (tK (List.range j) H.dn fun j => if H.hold j = [] then .non else bD (H.lb j)) (some (.d H.ru)) (some (.d (dK H.heT))) (some (.d (dK H.plT))) (some (.d (.str (H.dn j)))) (some (.d (sL (H.hold j) H.kn))) (H.dn j) (if H.hold j = [] then .non else bD (H.lb j)) (by unfold tK; rw [List.length_map, List.length_range]; omega) (slotD 4) (b1 (callR 3 Az0T) (aCons (slotD 0) (aCons (slotD 4) (aCons (asD (vComp 1 (setI 0) Az1H Az1F (b1 seqR (slotD 5)))) aNil)))) (by
        simp only [b1, asD, vComp, aCons, aNil, Az0E, Az0I, Az0L, Res.bind_ok, sq, cm, bf']) rfl
      rw [tK_put j fun k hk => fun e => by
        have := nm_inj (X := H.X) (Q := H.Q) (j := k) (k := j) (by omega) (by omega) e
        omega] at pt
      exact ⟨_, rfl, _, .inl pt, _, _, rfl⟩) ⟨none, none, rfl⟩
  rw [List.length_map, show H.drs.length = H.m from List.length_range] at f
  refine Az0K _ _ _ _ ?_ rfl
  have fz : frzD 3 [some (.d H.ru), some (.d (dK H.heT)), some (.d (dK H.plT)), some (.q ((tK (List.range H.m) H.dn fun j => if H.hold j = [] then .non else bD (H.lb j)).map (·.1)) ((tK (List.range H.m) H.dn fun j => if H.hold j = [] then .non else bD (H.lb j)).map (·.2))), x, y] = [some (.d H.ru), some (.d (dK H.heT)), some (.d (dK H.plT)), some (.d (dK H.baT)), x, y] := rfl
  change pairsR (dK H.heT) = _ at pr
  unfold Az0W Az5Z
  simp only [Az0R, startD, List.map_cons, List.map_nil, List.length_cons, List.length_nil, List.cons_append, List.nil_append, Nat.reduceAdd, Nat.reduceSub, List.replicate, b1Q, sSeq, sOwnQ, sFor, sFrz, sRet, Az0I, Az0L, Res.bind_ok, pr, f, fz, Az0C, Az0F, ofR_ok, Az0N, Az0S, List.set_cons_zero, List.set_cons_succ]
theorem Bz8N (H : Hs) (o : H.Ok) : callR 2 Az1P [H.hsD, dK H.plT] = .ok (sL H.ks H.kn) := by
  have f4 : fldR "House" "grants" H.hsD = .ok H.grD := fld4 H.ru (sL H.drs H.dn) (.lst []) H.grD
  have nms := Bz3C H o
  have cm : compR 1 (setI 0) Az1Z Az3J [some (.d H.hsD), some (.d (dK H.plT))] (H.ks.map fun k => D.str (H.kn k)) = .ok (H.ks.map fun k => D.str (H.kn k)) := by
    refine Az1G ?_ (by rw [List.length_map]; have := o.kl; omega)
    have := Az3P (gc := Az1Z) (fe := Az3J) (fun _ => true) (fun k => D.str (H.kn k)) (fun k => D.str (H.kn k)) [some (.d H.hsD), some (.d (dK H.plT))] H.ks none (fun k hk => by
      have e1 := in_tK (g := fun k => pD (H.cut k)) (kn_inj H o) hk
      refine ⟨?_, fun _ => rfl⟩
      unfold Az1Z
      simp only [tR, b2R, Az0C, Az5F, Az3M, Res.bind_ok, Hs.plT, e1, Az0G])
    rw [Az3F] at this
    exact this
  have sq : seqR (sL H.ks H.kn) = .ok (H.ks.map fun k => D.str (H.kn k)) := rfl
  refine Az0K _ _ _ _ ?_ rfl
  unfold Az1P Az5W
  simp only [Az0R, startD, List.map_cons, List.map_nil, List.length_cons, List.length_nil, List.cons_append, List.nil_append, Nat.reduceAdd, Nat.reduceSub, List.replicate, b1, asD, vComp, aCons, aNil, Az0E, sRet, Az0I, Res.bind_ok, f4, nms, sq, cm, ofR_ok, Az0S]
  rfl
theorem op_lb (H : Hs) (o : H.Ok) {j k : Nat} (hj : j < H.m) (hk : k ∈ H.ks) : opB (H.lb j) (H.cut k) = decide (k ∈ H.hold j) := by
  rw [Bool.eq_iff_iff, lb_op H o hj hk, decide_eq_true_eq]
  have := o.hp
  exact ⟨fun z => z.elim (fun z => by omega) id, .inr⟩
theorem Bz8R (H : Hs) (j : Nat) : ∀ a ∈ H.hold j, a ∈ H.ks := fun a ha => ((Az5C H).mp ha).1
theorem Bz1R (H : Hs) (o : H.Ok) : callR 4 Az3C [dK H.heT, dK H.baT, sL H.ks H.kn, dK H.plT] = .ok .non := by
  have pr := Az8W H.dn (fun j => if H.hold j = [] then D.non else bD (H.lb j)) H.drs
  have hm := o.hm
  obtain ⟨δ2, f, x, y, z, rfl⟩ := Az3L (t := unTup 2 (unCons (setI 4) (unCons (setI 5) unNil))) (body := Az4B) (fun _ δ => ∃ x y z : Option S, δ = [some (.d (dK H.heT)), some (.d (dK H.baT)), some (.d (sL H.ks H.kn)), some (.d (dK H.plT)), x, y, z])
    (H.drs.map fun j => D.tup [.str (H.dn j), if H.hold j = [] then D.non else bD (H.lb j)]) [some (.d (dK H.heT)), some (.d (dK H.baT)), some (.d (sL H.ks H.kn)), some (.d (dK H.plT)), none, none, none] (fun i d δ hd hI => by
      obtain ⟨x, y, z, rfl⟩ := hI
      rw [List.getElem?_map] at hd
      obtain ⟨j, hj, rfl⟩ := Option.map_eq_some_iff.mp hd
      have hjm : j ∈ H.drs := List.mem_of_getElem? hj
      have hj' := List.mem_range.mp hjm
      obtain ⟨δ3, f3, z3, rfl⟩ := Az3L (t := setI 6) (body := Az4C) (fun _ δ => ∃ z : Option S, δ = [some (.d (dK H.heT)), some (.d (dK H.baT)), some (.d (sL H.ks H.kn)), some (.d (dK H.plT)), some (.d (.str (H.dn j))), some (.d (if H.hold j = [] then D.non else bD (H.lb j))), z])
        (H.ks.map fun k => D.str (H.kn k)) [some (.d (dK H.heT)), some (.d (dK H.baT)), some (.d (sL H.ks H.kn)), some (.d (dK H.plT)), some (.d (.str (H.dn j))), some (.d (if H.hold j = [] then D.non else bD (H.lb j))), z] (fun i2 d2 δ hd hI => by
          obtain ⟨z, rfl⟩ := hI
          rw [List.getElem?_map] at hd
          obtain ⟨k, hk2, rfl⟩ := Option.map_eq_some_iff.mp hd
          have hk : k ∈ H.ks := List.mem_of_getElem? hk2
          refine ⟨_, rfl, [some (.d (dK H.heT)), some (.d (dK H.baT)), some (.d (sL H.ks H.kn)), some (.d (dK H.plT)), some (.d (.str (H.dn j))), some (.d (if H.hold j = [] then D.non else bD (H.lb j))), some (.d (.str (H.kn k)))], .inl ?_, _, rfl⟩
          simp only [List.set_cons_zero, List.set_cons_succ]
          have g1 := get_tK (g := fun j => sL (H.hold j) H.kn) (dn_inj H o.hm) hjm
          have g2 := get_tK (g := fun k => pD (H.cut k)) (kn_inj H o) hk
          have g3 := Cz1K (kn_inj H o) (Bz8R H j) hk
          unfold Az4C
          by_cases hz : H.hold j = []
          · rw [if_pos hz]
            simp only [sIf, tAnd2, tR, b1, Az0C, Az0F, Res.bind_ok, show notNR .non = .ok (.bl false) from rfl, Az0G, Az6S, ifO_ok, Bool.false_eq_true, if_false, reduceIte]
          · rw [if_neg hz]
            have nb : notNR (bD (H.lb j)) = .ok (.bl true) := rfl
            by_cases hkj : k ∈ H.hold j
            · rw [decide_eq_true hkj] at g3
              simp only [sIf, tAnd2, tR, b1, b2, b2Q, Az0C, Az0F, Az5F, Az3M, Res.bind_ok, nb, Hs.heT, g1, g3, Az0G, Az6S, ifO_ok, Bool.not_true, Bool.false_eq_true, if_true, if_false, reduceIte]
            · rw [decide_eq_false hkj] at g3
              have op := Bz5F (H.lb j) (H.cut k) (by rw [o.cl k hk]; exact (Az4Z _ _).symm) (by rw [show (H.lb j).length = H.p.toNat from Az4Z _ _]; have := o.hp2; omega)
              rw [op_lb H o hj' hk, decide_eq_false hkj] at op
              simp only [sIf, tAnd2, tR, b1, b2, b2Q, aCons, aNil, Az0E, Az0I, Az0L, Az0C, Az0F, Az5F, Az3M, Res.bind_ok, nb, Hs.heT, Hs.plT, g1, g2, g3, op, Az0G, Az6S, ifO_ok, Bool.not_false, Bool.false_eq_true, if_true, if_false, reduceIte]) ⟨_, rfl⟩
      have sq : seqR (sL H.ks H.kn) = .ok (H.ks.map fun k => D.str (H.kn k)) := rfl
      refine ⟨[some (.d (dK H.heT)), some (.d (dK H.baT)), some (.d (sL H.ks H.kn)), some (.d (dK H.plT)), some (.d (.str (H.dn j))), some (.d (if H.hold j = [] then D.non else bD (H.lb j))), z], rfl, [some (.d (dK H.heT)), some (.d (dK H.baT)), some (.d (sL H.ks H.kn)), some (.d (dK H.plT)), some (.d (.str (H.dn j))), some (.d (if H.hold j = [] then D.non else bD (H.lb j))), z3], .inl ?_, _, _, _, rfl⟩
      unfold Az4B
      simp only [sFor, b1, Az0I, Az0L, Res.bind_ok, sq, ofR_ok]
      exact f3) ⟨none, none, none, rfl⟩
  refine Az0K _ _ _ _ ?_ rfl
  change pairsR (dK H.baT) = _ at pr
  unfold Az3C Az8N
  simp only [Az0R, startD, List.map_cons, List.map_nil, List.length_cons, List.length_nil, List.cons_append, List.nil_append, Nat.reduceAdd, Nat.reduceSub, List.replicate, kD, b1Q, sSeq, sFor, sRet, Az0I, Az0L, Res.bind_ok, pr, f, ofR_ok, Az0N, Az0S]
theorem Bz8W (H : Hs) (o : H.Ok) : callR 2 Az3B [H.hsD, dK H.plT] = .ok .non := by
  have f1 : fldR "House" "rules" H.hsD = .ok H.ru := fld1 H.ru (sL H.drs H.dn) (.lst []) H.grD
  have e1 := Bz7B H o
  have e2 := Bz7H H o
  have e3 := Bz8N H o
  have e4 := Bz1R H o
  refine Az0K _ _ _ _ ?_ rfl
  unfold Az3B Az8M
  simp only [Az0R, startD, List.map_cons, List.map_nil, List.length_cons, List.length_nil, List.cons_append, List.nil_append, Nat.reduceAdd, Nat.reduceSub, List.replicate, b1, aCons, aNil, Az0E, sSeq, sSet, sRet, Az0I, Az0L, Res.bind_ok, f1, e1, e2, e3, e4, ofR_ok, Az0N, Az0S, List.set_cons_zero, List.set_cons_succ]
theorem Bz4P (H : Hs) (o : H.Ok) : callR 2 Az1R [H.hsD, dK H.plT] = .ok (dK H.baT) := by
  have f1 : fldR "House" "rules" H.hsD = .ok H.ru := fld1 H.ru (sL H.drs H.dn) (.lst []) H.grD
  have e1 := Bz7B H o
  have e2 := Bz7H H o
  refine Az0K _ _ _ _ ?_ rfl
  unfold Az1R Az5Y
  simp only [Az0R, startD, List.map_cons, List.map_nil, List.length_cons, List.length_nil, List.cons_append, List.nil_append, Nat.reduceAdd, Nat.reduceSub, List.replicate, b1, aCons, aNil, Az0E, sRet, Az0I, Az0L, Res.bind_ok, f1, e1, e2, ofR_ok, Az0S]
theorem Cz0B (n : Nat) (c : List Int) : shal (n + 1) (pD c) = true := by
  show (c.map D.int).all (shal n) = true
  rw [List.all_eq_true]
  intro d hd
  obtain ⟨i, _, rfl⟩ := List.mem_map.mp hd
  cases n <;> rfl
theorem Cz0C (n : Nat) (B : List (List Int)) : shal (n + 2) (bD B) = true := by
  show (B.map pD).all (shal (n + 1)) = true
  rw [List.all_eq_true]
  intro d hd
  obtain ⟨i, _, rfl⟩ := List.mem_map.mp hd
  exact Cz0B n i
theorem Bz9F (ns : List Int) (lo hi : Option Int) : ∃ zs : List Int, L3.cutD (ns.map D.int) lo hi = zs.map D.int ∧ zs.length ≤ ns.length := by
  refine ⟨(ns.drop (HT.sIx ns.length 0 lo)).take (HT.sIx ns.length ns.length hi - HT.sIx ns.length 0 lo), ?_, ?_⟩
  · unfold L3.cutD
    rw [List.length_map, List.map_take, List.map_drop]
  · rw [List.length_take, List.length_drop]; omega
structure MadeOk (p d h : Int) (Bs : List (List (List Int))) (cs : List (List Int)) : Prop where
  b8 : Bs.length ≤ 8
  c16 : cs.length ≤ 16
  bo : ∀ B ∈ Bs, B.length = p.toNat ∧ ∀ q ∈ B, PinOk d h q
  co : ∀ c ∈ cs, c.length = p.toNat
theorem Bz5P (A : D) (p d h s : Int) (Bs : List (List (List Int))) (cs : List (List Int)) (k : Nat) (z : Int) (hk : k ≤ 1000) (hp : 0 ≤ p) (hp2 : p ≤ 100) (hd : 0 < d) (hd2 : d < 1000) (hh : 1 ≤ h) (hh2 : h < 1000) (hs : 0 ≤ s) (o : MadeOk p d h Bs cs) :
    ∃ (Bs' : List (List (List Int))) (cs' : List (List Int)) (w : Option S), Az1D [some (.d A), some (.d (ruD p d h s)), some (.o (Bs.map bD)), some (.o (cs.map pD)), some (.d (.int (k : Int))), some (.d (.int z))] = .nx [some (.d A), some (.d (ruD p d h s)), some (.o (Bs'.map bD)), some (.o (cs'.map pD)), some (.d (.int (k : Int))), w] ∧ MadeOk p d h Bs' cs' := by
  have ep : powD (.int 10) (.int 60) = .ok (.int (10 ^ 60)) := if_pos ⟨by decide, by decide, by decide⟩
  have m1 := modI z (10 ^ 60) (by decide)
  have x1 := mulI 7919 (k : Int) (by omega)
  generalize z % 10 ^ 60 = r at *
  generalize hc : r + 7919 * (k : Int) = c at *
  have a1 : addD (.int r) (.int (7919 * (k : Int))) = .ok (.int c) := by rw [← hc]; rfl
  have m2 := modI c 3 (by decide)
  have d2 := divI c 3 (by decide) (by decide)
  have d5 := divI c 5 (by decide) (by decide)
  have e1 := eqR_nil' (Bs.map bD) (fun x hx => by obtain ⟨B, _, rfl⟩ := List.mem_map.mp hx; exact Cz0C 37 B)
  have ie : (Bs.map bD).isEmpty = Bs.isEmpty := by cases Bs <;> rfl
  rw [ie] at e1
  have l8 : decide (((Bs.map bD).length : Int) < 8) = decide (Bs.length < 8) := by rw [List.length_map, Bool.eq_iff_iff, decide_eq_true_eq, decide_eq_true_eq]; omega
  have l16 : decide (((cs.map pD).length : Int) < 16) = decide (cs.length < 16) := by rw [List.length_map, Bool.eq_iff_iff, decide_eq_true_eq, decide_eq_true_eq]; omega
  by_cases g : Bs.isEmpty = true ∨ (c % 3 = 0 ∧ Bs.length < 8)
  · obtain ⟨B, eB, hB1, hB2⟩ := Bz6K (c / 3) p d h s hp hp2 hd hd2 hh
    have ap := Az6B 2 [some (.d A), some (.d (ruD p d h s)), some (.o (Bs.map bD)), some (.o (cs.map pD)), some (.d (.int (k : Int))), some (.d (.int c))] (Bs.map bD) (bD B) rfl (by rw [List.length_map]; have := o.b8; omega)
    have tst : (tOr2 (tR (b2 eqR (slotP 2) (asD (b1 lstR aNil)))) (tAnd2 (tR (b2 eqR (b2 modD (slotP 5) (kD (.int 3))) (kD (.int 0)))) (tR (b2 ltR (b1 lenR (slotP 2)) (kD (.int 8)))))) [some (.d A), some (.d (ruD p d h s)), some (.o (Bs.map bD)), some (.o (cs.map pD)), some (.d (.int (k : Int))), some (.d (.int c))] = .ok true := by
      simp only [tOr2, tAnd2, tR, b2, b1, asD, lstR, aNil, kD, Az0F, Az0C, Az0P, Res.bind_ok, e1, Az0G, orB_ok, Az6S, m2, eqR_ii, lenR_l, ltR_ii, l8, List.length_nil, Nat.zero_le, if_true, reduceIte]
      rcases g with g | ⟨g1, g2⟩
      · rw [g]; rfl
      · rw [g1, decide_eq_true g2]; cases Bs.isEmpty <;> rfl
    refine ⟨Bs ++ [B], cs, some (.d (.int c)), ?_, ⟨?_, o.c16, fun X hX => ?_, o.co⟩⟩
    · rw [List.map_append, List.map_singleton]
      generalize Bs.map bD = BB at *
      generalize cs.map pD = CC at *
      unfold Az1D
      simp only [sSeq, sSet, sIf, sApp, kD, b1, b2, aCons, aNil, Az0E, Az0I, Az0L, Az0C, Az0F, Az0P, Res.bind_ok, ep, m1, x1, a1, d2, eB, ofR_ok, Az0N, ap, List.set_cons_zero, List.set_cons_succ] at tst ⊢
      rw [tst]; rfl
    · rw [List.length_append, List.length_singleton]
      rcases g with g | ⟨_, g2⟩
      · rw [List.isEmpty_iff.mp g]; decide
      · omega
    · rcases List.mem_append.mp hX with hX | hX
      · exact o.bo X hX
      · rw [List.mem_singleton.mp hX]; exact ⟨hB1, hB2⟩
  · have ne : Bs ≠ [] := fun z => g (.inl (by rw [z]; rfl))
    have ib : Bs.isEmpty = false := by cases h : Bs.isEmpty with | false => rfl | true => exact absurd (.inl h) g
    rw [ib] at e1
    have pos : 0 < ((Bs.map bD).length : Int) := by rw [List.length_map]; have := List.length_pos_iff.mpr ne; omega
    have m5 := modI (c / 5) ((Bs.map bD).length : Int) pos
    obtain ⟨bd, eb, hbd⟩ := atI_in (xs := Bs.map bD) (i := c / 5 % ((Bs.map bD).length : Int)) (Int.emod_nonneg _ (by omega)) (Int.emod_lt_of_pos _ pos)
    obtain ⟨B, hB, rfl⟩ := List.mem_map.mp hbd
    have eb' := ixR_l _ _ _ eb
    obtain ⟨hB1, hB2⟩ := o.bo B hB
    have tst : (tOr2 (tR (b2 eqR (slotP 2) (asD (b1 lstR aNil)))) (tAnd2 (tR (b2 eqR (b2 modD (slotP 5) (kD (.int 3))) (kD (.int 0)))) (tR (b2 ltR (b1 lenR (slotP 2)) (kD (.int 8)))))) [some (.d A), some (.d (ruD p d h s)), some (.o (Bs.map bD)), some (.o (cs.map pD)), some (.d (.int (k : Int))), some (.d (.int c))] = .ok false := by
      simp only [tOr2, tAnd2, tR, b2, b1, asD, lstR, aNil, kD, Az0F, Az0C, Az0P, Res.bind_ok, e1, Az0G, orB_ok, Az6S, m2, eqR_ii, lenR_l, ltR_ii, l8, List.length_nil, Nat.zero_le, if_true, if_false, Bool.false_eq_true, reduceIte]
      by_cases q1 : c % 3 = 0
      · rw [q1, decide_eq_false fun z => g (.inr ⟨q1, z⟩)]; rfl
      · rw [beq_eq_false_iff_ne.mpr q1]; rfl
    by_cases q : cs.length < 16
    · obtain ⟨c1, ec, hc1⟩ := Cz3F (c / 3) p d h s B hp hp2 hB1 hd hd2 hs hB2 hh2
      have ap := Az6B 3 [some (.d A), some (.d (ruD p d h s)), some (.o (Bs.map bD)), some (.o (cs.map pD)), some (.d (.int (k : Int))), some (.d (.int c))] (cs.map pD) (pD c1) rfl (by rw [List.length_map]; omega)
      rw [decide_eq_true q] at l16
      refine ⟨Bs, cs ++ [c1], some (.d (.int c)), ?_, ⟨o.b8, by rw [List.length_append, List.length_singleton]; omega, o.bo, fun X hX => ?_⟩⟩
      · rw [List.map_append, List.map_singleton]
        generalize Bs.map bD = BB at *
        generalize cs.map pD = CC at *
        unfold Az1D
        simp only [sSeq, sSet, sIf, sApp, tR, kD, b1, b2, aCons, aNil, Az0E, Az0I, Az0L, Az0C, Az0F, Az0P, Res.bind_ok, ep, m1, x1, a1, d2, d5, lenR_l, m5, eb', ec, ltR_ii, l16, Az0G, ofR_ok, Az0N, ap, List.set_cons_zero, List.set_cons_succ] at tst ⊢
        rw [tst]; rfl
      · rcases List.mem_append.mp hX with hX | hX
        · exact o.co X hX
        · rw [List.mem_singleton.mp hX]; exact hc1
    · rw [decide_eq_false q] at l16
      refine ⟨Bs, cs, some (.d (.int c)), ?_, o⟩
      generalize Bs.map bD = BB at *
      generalize cs.map pD = CC at *
      unfold Az1D
      simp only [sSeq, sSet, sIf, tR, kD, b1, b2, Az0C, Az0F, Az0P, Res.bind_ok, ep, m1, x1, a1, lenR_l, ltR_ii, l16, Az0G, ofR_ok, Az0N, List.set_cons_zero, List.set_cons_succ] at tst ⊢
      rw [tst]; rfl
theorem Bz3T (i : Nat) (δ : DSt) (ds : List D) (h : δ[i]? = some (some (.o ds))) : frzL i δ = δ.set i (some (.d (.lst ds))) := by
  unfold frzL
  rw [h]
theorem Cz1T (ns : List Int) (hn : ns.length ≤ 63) (p d h s : Int) (hp : 0 ≤ p) (hp2 : p ≤ 100) (hd : 0 < d) (hd2 : d < 1000) (hh : 1 ≤ h) (hh2 : h < 1000) (hs : 0 ≤ s) :
    ∃ (Bs : List (List (List Int))) (cs : List (List Int)), callR 2 Az2G [.lst (ns.map D.int), ruD p d h s] = .ok (.tup [.lst (Bs.map bD), .lst (cs.map pD)]) ∧ MadeOk p d h Bs cs := by
  obtain ⟨zs, ez, hz⟩ := Bz9F ns (some 4) (some 40)
  have ct : catR (.lst [D.int 0]) (.lst (zs.map D.int)) = .ok (D.int 0 :: zs.map D.int) := catR_l [.int 0] (zs.map D.int) (by rw [List.length_map]; simp only [List.length_cons, List.length_nil]; omega)
  have en : enumR [.lst (D.int 0 :: zs.map D.int)] = .ok (enumD 0 ((0 :: zs).map D.int)) := rfl
  obtain ⟨δ2, f, Bs, cs, x, y, rfl, ho⟩ := Az3L (t := unTup 2 (unCons (setI 4) (unCons (setI 5) unNil))) (body := Az1D) (fun _ δ => ∃ (Bs : List (List (List Int))) (cs : List (List Int)) (x y : Option S), δ = [some (.d (.lst (ns.map D.int))), some (.d (ruD p d h s)), some (.o (Bs.map bD)), some (.o (cs.map pD)), x, y] ∧ MadeOk p d h Bs cs)
    (enumD 0 ((0 :: zs).map D.int)) [some (.d (.lst (ns.map D.int))), some (.d (ruD p d h s)), some (.o []), some (.o []), none, none] (fun i e δ he hI => by
      obtain ⟨Bs, cs, x, y, rfl, o⟩ := hI
      obtain ⟨w, hw, rfl⟩ := Az2L he
      rw [List.getElem?_map] at hw
      obtain ⟨z, hz2, rfl⟩ := Option.map_eq_some_iff.mp hw
      have hi := (List.getElem?_eq_some_iff.mp hz2).1
      rw [List.length_cons] at hi
      rw [Nat.zero_add]
      obtain ⟨Bs', cs', w, e, o'⟩ := Bz5P (.lst (ns.map D.int)) p d h s Bs cs i z (by omega) hp hp2 hd hd2 hh hh2 hs o
      exact ⟨_, rfl, _, .inl e, Bs', cs', _, _, rfl, o'⟩) ⟨[], [], none, none, rfl, ⟨by decide, by decide, fun B hB => by simp at hB, fun c hc => by simp at hc⟩⟩
  refine ⟨Bs, cs, Az0K _ _ _ _ ?_ rfl, ho⟩
  have z1 := Bz3T 3 [some (.d (.lst (ns.map D.int))), some (.d (ruD p d h s)), some (.o (Bs.map bD)), some (.o (cs.map pD)), x, y] _ rfl
  have z2 := Bz3T 2 [some (.d (.lst (ns.map D.int))), some (.d (ruD p d h s)), some (.o (Bs.map bD)), some (.d (.lst (cs.map pD))), x, y] _ rfl
  simp only [List.set_cons_zero, List.set_cons_succ] at z1 z2
  clear ho
  generalize Bs.map bD = BB at *
  generalize cs.map pD = CC at *
  generalize ruD p d h s = RU at *
  generalize enumD 0 ((0 :: zs).map D.int) = EN at *
  generalize zs.map D.int = ZZ at *
  generalize ns.map D.int = NN at *
  unfold Az2G Az6Q
  simp only [Az0R, startD, List.map_cons, List.map_nil, List.length_cons, List.length_nil, List.cons_append, List.nil_append, Nat.reduceAdd, Nat.reduceSub, List.replicate, kD, b1, b3, b2F, asD, lstR, tupR, aCons, aNil, Az0E, sSeq, sOwn, sFor, sFrzL, sRet, Az0I, Az0L, Az0C, Az0F, Res.bind_ok, Bz6T, slL_l, ez, ct, en, f, ofR_ok, Az0N, z1, z2, Az0S, List.set_cons_zero, List.set_cons_succ, Nat.zero_le, Nat.reduceLeDiff, if_true, reduceIte]
theorem Cz0K (i : Nat) (δ : DSt) (l : List (Key × D)) (k : Str) (d : D) (fi f : DSt → Res D) (h : δ[i]? = some (some (.q (l.map (·.1)) (l.map (·.2))))) (hl : l.length ≤ 1000) (e1 : f δ = .ok d) (e2 : fi δ = .ok (.str k)) :
    sPutI i fi f δ = .nx (δ.set i (some (.q ((tPut l (.inr k) d).map (·.1)) ((tPut l (.inr k) d).map (·.2))))) := by
  unfold sPutI
  rw [e1]
  show putO i fi δ d = _
  unfold putO
  rw [h]
  show ofR (fi δ) (putJ i δ ((l.map (·.1)).zip (l.map (·.2))) d) = _
  rw [e2, dK_zip]
  show (if l.length ≤ 1000 then _ else _) = _
  rw [if_pos hl]
theorem Bz9V {f : Nat → Str} {g : Nat → D} (n : Nat) (ks : List Nat) (hi : ∀ k ∈ ks, f k ≠ f n) : tPut (tK ks f g) (.inr (f n)) (g n) = tK (ks ++ [n]) f g := by
  unfold tPut
  rw [Az4U, Az9P hi]
  unfold tK
  rw [List.map_append]; rfl
theorem Bz4B (g : Nat → D) (n : Nat) : enumR [.lst ((List.range n).map g)] = .ok ((List.range n).map fun (j : Nat) => D.tup [.int (j : Int), g j]) := by
  show Res.ok (enumD 0 ((List.range n).map g)) = _
  congr 1
  refine List.ext_getElem? fun i => ?_
  cases h : (enumD 0 ((List.range n).map g))[i]? with
  | none =>
    rw [List.getElem?_eq_none_iff, Az3U, List.length_map, List.length_range] at h
    rw [eq_comm, List.getElem?_eq_none_iff, List.length_map, List.length_range]; exact h
  | some d =>
    obtain ⟨x, hx, rfl⟩ := Az2L h
    rw [List.getElem?_map] at hx ⊢
    obtain ⟨j, hj, rfl⟩ := Option.map_eq_some_iff.mp hx
    rw [hj]
    have hi := (List.getElem?_eq_some_iff.mp hj).1
    rw [List.length_range] at hi
    rw [List.getElem?_range hi] at hj
    have := Option.some.inj hj
    subst this
    simp
theorem Bz3Z (f : Nat → Str) : ∀ ks : List Nat, eqL (ks.map fun k => D.str (f k)) (ks.map fun k => D.str (f k)) = true
  | [] => by simp [eqL]
  | c :: cs => by rw [List.map_cons, eqL, Bz3Z f cs]; simp [eqD]
theorem Bz2K (f : Nat → Str) (ks : List Nat) (n : Nat) : ∀ d ∈ (ks.map fun k => D.str (f k)), shal n d = true := fun d hd => by
  obtain ⟨k, _, rfl⟩ := List.mem_map.mp hd
  cases n <;> rfl
theorem Cz1L (f : Nat → Str) (ks : List Nat) : neR (sL ks f) (sL ks f) = .ok (.bl false) := by
  have h : shal 40 (sL ks f) = true := by
    show (ks.map fun k => D.str (f k)).all (shal 39) = true
    rw [List.all_eq_true]; exact Bz2K f ks 39
  unfold neR
  rw [h]
  show Res.ok (D.bl (!eqD (sL ks f) (sL ks f))) = _
  rw [show eqD (sL ks f) (sL ks f) = eqL (ks.map fun k => D.str (f k)) (ks.map fun k => D.str (f k)) from by unfold sL; rw [eqD], Bz3Z]; rfl
theorem Cz2J (f : Nat → Str) (ks : List Nat) : eqR (sL ks f) (.lst []) = .ok (.bl ks.isEmpty) := by
  have := eqR_nil' (ks.map fun k => D.str (f k)) (Bz2K f ks 39)
  rw [show (ks.map fun k => D.str (f k)).isEmpty = ks.isEmpty by cases ks <;> rfl] at this
  exact this
theorem Bz6U (f : Nat → Str) (ks : List Nat) : neR (sL ks f) (.lst []) = .ok (.bl (!ks.isEmpty)) := by
  have := Cz1M (ks.map fun k => D.str (f k)) (Bz2K f ks 39)
  rw [show (ks.map fun k => D.str (f k)).isEmpty = ks.isEmpty by cases ks <;> rfl] at this
  exact this
noncomputable def ownI (Bs : List (List (List Int))) (cs : List (List Int)) (k : Nat) : List Nat := (List.range Bs.length).filter fun j => opB (Bs.getD j []) (cs.getD k [])
noncomputable def ksI (Bs : List (List (List Int))) (cs : List (List Int)) (n : Nat) : List Nat := (List.range n).filter fun k => !(ownI Bs cs k).isEmpty
noncomputable def mkH (X Q : Str) (p d h s : Int) (Bs : List (List (List Int))) (cs : List (List Int)) : Hs := ⟨X, Q, p, d, h, s, Bs.length, ksI Bs cs cs.length, ownI Bs cs, fun k => cs.getD k [], fun j => Bs.getD j []⟩
theorem Az7F {α : Type} {l : List α} {i : Nat} (d : α) (h : i < l.length) : l.getD i d ∈ l := by
  rw [List.getD_eq_getElem?_getD, List.getElem?_eq_getElem h]
  exact List.getElem_mem _
theorem mkH_ok {X Q : Str} {p d h s : Int} {Bs : List (List (List Int))} {cs : List (List Int)} (hx : X.length ≤ 10) (hq : Q.length ≤ 10) (hp : 1 ≤ p) (hp2 : p ≤ 100) (o : MadeOk p d h Bs cs) : (mkH X Q p d h s Bs cs).Ok := by
  have kr : ∀ k ∈ ksI Bs cs cs.length, k < cs.length := fun k hk => List.mem_range.mp (List.mem_filter.mp hk).1
  refine ⟨hx, hq, hp, hp2, o.b8, List.Nodup.sublist List.filter_sublist List.nodup_range, ?_, fun k hk => ?_, fun k hk j => ?_, fun k hk => List.Nodup.sublist List.filter_sublist List.nodup_range, fun k hk => rfl, fun k hk => ?_, fun k hk => o.co _ (Az7F _ (kr k hk)), fun j hj => o.bo _ (Az7F _ hj)⟩
  · have := List.length_filter_le (fun k => !(ownI Bs cs k).isEmpty) (List.range cs.length)
    rw [List.length_range] at this
    exact Nat.le_trans this o.c16
  · have := kr k hk
    have := o.c16
    omega
  · show j ∈ ownI Bs cs k ↔ _
    unfold ownI
    rw [List.mem_filter, List.mem_range]
    exact Iff.rfl
  · have := List.length_filter_le (fun j => opB (Bs.getD j []) (cs.getD k [])) (List.range Bs.length)
    rw [List.length_range] at this
    exact Nat.le_trans this o.b8
theorem turn1 (H : Hs) (ns : List Int) (Bs : List (List (List Int))) (cs : List (List Int)) (b c : D) (i : Nat) (ks : List Nat) (s6 x11 : Option S) (h6 : s6 = some (.o (H.drs.map fun j => D.str (H.dn j))) ∨ s6 = some (.d (sL H.drs H.dn))) (hi : i < 16) (hks : ∀ k ∈ ks, k < i) (hkl : ks.length ≤ 16)
    (hm : H.m = Bs.length) (hm8 : H.m ≤ 8) (hb : ∀ j, H.bar j = Bs.getD j []) (hbl : ∀ j, j < H.m → (H.cut i).length = (H.bar j).length) (ho : H.own i = H.drs.filter fun j => opB (H.bar j) (H.cut i))
    (hnm : callR 2 Az0Q [.lst (ns.map D.int), .int (26 + (i : Int))] = .ok (.str (H.kn i))) (hkn : ∀ k ∈ ks, H.kn k ≠ H.kn i) :
    ∃ x11' : Option S, Az6M [some (.d (.lst (ns.map D.int))), some (.d b), some (.d c), some (.d H.ru), some (.d (.lst (Bs.map bD))), some (.d (.lst (cs.map pD))), s6, some (.o (ks.map fun k => D.tup [.str (H.kn k), sL (H.own k) H.dn])), some (.q ((tK ks H.kn fun k => pD (H.cut k)).map (·.1)) ((tK ks H.kn fun k => pD (H.cut k)).map (·.2))), some (.d (.int (i : Int))), some (.d (pD (H.cut i))), x11, none, none, none, none]
      = .nx [some (.d (.lst (ns.map D.int))), some (.d b), some (.d c), some (.d H.ru), some (.d (.lst (Bs.map bD))), some (.d (.lst (cs.map pD))), some (.d (sL H.drs H.dn)), some (.o ((if H.own i = [] then ks else ks ++ [i]).map fun k => D.tup [.str (H.kn k), sL (H.own k) H.dn])), some (.q ((tK (if H.own i = [] then ks else ks ++ [i]) H.kn fun k => pD (H.cut k)).map (·.1)) ((tK (if H.own i = [] then ks else ks ++ [i]) H.kn fun k => pD (H.cut k)).map (·.2))), some (.d (.int (i : Int))), some (.d (pD (H.cut i))), x11', none, none, none, none] := by
  have f6 : ∀ r : DSt, ∀ a0 a1 a2 a3 a4 a5 : Option S, frzL 6 (a0 :: a1 :: a2 :: a3 :: a4 :: a5 :: s6 :: r) = a0 :: a1 :: a2 :: a3 :: a4 :: a5 :: some (.d (sL H.drs H.dn)) :: r := fun r a0 a1 a2 a3 a4 a5 => by
    rcases h6 with rfl | rfl <;> rfl
  have en : enumR [sL H.drs H.dn] = .ok (H.drs.map fun (j : Nat) => D.tup [.int (j : Int), .str (H.dn j)]) := Bz4B (fun j => D.str (H.dn j)) H.m
  have cm : ∀ r : DSt, compR 2 (unTup 2 (unCons (setI 0) (unCons (setI 1) unNil))) Bz0S Bz4F (some (.d (.lst (ns.map D.int))) :: some (.d b) :: some (.d c) :: some (.d H.ru) :: some (.d (.lst (Bs.map bD))) :: some (.d (.lst (cs.map pD))) :: some (.d (sL H.drs H.dn)) :: some (.o (ks.map fun k => D.tup [.str (H.kn k), sL (H.own k) H.dn])) :: some (.q ((tK ks H.kn fun k => pD (H.cut k)).map (·.1)) ((tK ks H.kn fun k => pD (H.cut k)).map (·.2))) :: some (.d (.int (i : Int))) :: some (.d (pD (H.cut i))) :: r) (H.drs.map fun (j : Nat) => D.tup [.int (j : Int), .str (H.dn j)]) = .ok ((H.own i).map fun j => D.str (H.dn j)) := fun r => by
    refine Az1G ?_ (by rw [List.length_map]; unfold Hs.drs; rw [List.length_range]; omega)
    rw [ho]
    refine Az5U (gc := Bz0S) (fe := Bz4F) (fun j => opB (H.bar j) (H.cut i)) (fun (j : Nat) => D.int (j : Int)) (fun j => D.str (H.dn j)) (fun j => D.str (H.dn j)) _ H.drs none none ?_
    · intro j hj
      have hj' : j < Bs.length := by rw [← hm]; exact List.mem_range.mp hj
      have a1 : ixR (.lst (Bs.map bD)) (.int (j : Int)) = .ok (bD (H.bar j)) := by
        refine ixR_l _ _ _ (Az6A (by omega) ?_)
        rw [show ((j : Int)).toNat = j by omega, List.getElem?_map, List.getElem?_eq_getElem hj', hb, List.getD_eq_getElem?_getD, List.getElem?_eq_getElem hj']
        rfl
      have a2 := Az9X (H.bar j) (H.cut i) (hbl j (List.mem_range.mp hj))
      refine ⟨?_, fun _ => rfl⟩
      unfold Bz0S
      simp only [tR, b1, b2, aCons, aNil, Az0E, Az0I, Az0L, Az0C, Az0F, Res.bind_ok, List.replicate_zero, List.append_eq, List.nil_append, a1, a2, Az0G]
  have nn := Bz6U H.dn (H.own i)
  change neR (.lst ((H.own i).map fun j => D.str (H.dn j))) (.lst []) = _ at nn
  have pa := Az6B 7 [some (.d (.lst (ns.map D.int))), some (.d b), some (.d c), some (.d H.ru), some (.d (.lst (Bs.map bD))), some (.d (.lst (cs.map pD))), some (.d (sL H.drs H.dn)), some (.o (ks.map fun k => D.tup [.str (H.kn k), sL (H.own k) H.dn])), some (.q ((tK ks H.kn fun k => pD (H.cut k)).map (·.1)) ((tK ks H.kn fun k => pD (H.cut k)).map (·.2))), some (.d (.int (i : Int))), some (.d (pD (H.cut i))), some (.d (sL (H.own i) H.dn)), none, none, none, none] (ks.map fun k => D.tup [.str (H.kn k), sL (H.own k) H.dn]) (.tup [.str (H.kn i), sL (H.own i) H.dn]) rfl (by rw [List.length_map]; omega)
  have pq := Cz0K 8 [some (.d (.lst (ns.map D.int))), some (.d b), some (.d c), some (.d H.ru), some (.d (.lst (Bs.map bD))), some (.d (.lst (cs.map pD))), some (.d (sL H.drs H.dn)), some (.o ((ks.map fun k => D.tup [.str (H.kn k), sL (H.own k) H.dn]) ++ [.tup [.str (H.kn i), sL (H.own i) H.dn]])), some (.q ((tK ks H.kn fun k => pD (H.cut k)).map (·.1)) ((tK ks H.kn fun k => pD (H.cut k)).map (·.2))), some (.d (.int (i : Int))), some (.d (pD (H.cut i))), some (.d (sL (H.own i) H.dn)), none, none, none, none] (tK ks H.kn fun k => pD (H.cut k)) (H.kn i) (pD (H.cut i)) (b1 (callR 2 Az0Q) (aCons (slotD 0) (aCons (b2 addD (kD (.int 26)) (slotP 9)) aNil))) (slotD 10) rfl (by unfold tK; rw [List.length_map]; omega) rfl (by
    simp only [b1, b2, kD, aCons, aNil, Az0E, Az0I, Az0C, Az0F, Res.bind_ok, Az3R, hnm])
  rw [Bz9V (g := fun k => pD (H.cut k)) i ks hkn] at pq
  have f11 := Bz3T 11 [some (.d (.lst (ns.map D.int))), some (.d b), some (.d c), some (.d H.ru), some (.d (.lst (Bs.map bD))), some (.d (.lst (cs.map pD))), some (.d (sL H.drs H.dn)), some (.o (ks.map fun k => D.tup [.str (H.kn k), sL (H.own k) H.dn])), some (.q ((tK ks H.kn fun k => pD (H.cut k)).map (·.1)) ((tK ks H.kn fun k => pD (H.cut k)).map (·.2))), some (.d (.int (i : Int))), some (.d (pD (H.cut i))), some (.o ((H.own i).map fun j => D.str (H.dn j))), none, none, none, none] _ rfl
  simp only [List.set_cons_zero, List.set_cons_succ] at pa pq f11
  by_cases hz : H.own i = []
  · refine ⟨some (.o ((H.own i).map fun j => D.str (H.dn j))), ?_⟩
    rw [if_pos hz]
    rw [show (H.own i).isEmpty = true by rw [hz]; rfl] at nn
    unfold Az6M
    simp only [sSeq, sFrzL, f6, sOwn, vComp, sIf, tR, b1, b2, asD, lstR, aCons, aNil, Az0E, Az0I, Az0L, Az0C, Az0F, Az0P, Res.bind_ok, en, cm, ofR_ok, Az0N, nn, Az0G, ifO_ok, Bool.not_true, Bool.false_eq_true, if_false, reduceIte, List.set_cons_zero, List.set_cons_succ, List.length_nil, Nat.zero_le]
  · refine ⟨some (.d (sL (H.own i) H.dn)), ?_⟩
    rw [if_neg hz]
    rw [show (H.own i).isEmpty = false by cases h : H.own i with | nil => exact absurd h hz | cons a r => rfl] at nn
    rw [List.map_append, List.map_singleton]
    change frzL 11 _ = (some (.d (.lst (ns.map D.int))) :: some (.d b) :: some (.d c) :: some (.d H.ru) :: some (.d (.lst (Bs.map bD))) :: some (.d (.lst (cs.map pD))) :: some (.d (sL H.drs H.dn)) :: some (.o (ks.map fun k => D.tup [.str (H.kn k), sL (H.own k) H.dn])) :: some (.q ((tK ks H.kn fun k => pD (H.cut k)).map (·.1)) ((tK ks H.kn fun k => pD (H.cut k)).map (·.2))) :: some (.d (.int (i : Int))) :: some (.d (pD (H.cut i))) :: some (.d (sL (H.own i) H.dn)) :: [none, none, none, none]) at f11
    unfold Az6M
    simp only [sSeq, sFrzL, f6, sOwn, vComp, sIf, sApp, tR, b1, b2, kD, asD, lstR, tupR, aCons, aNil, Az0E, Az0I, Az0L, Az0C, Az0F, Az0P, Res.bind_ok, en, cm, ofR_ok, Az0N, nn, Az0G, ifO_ok, f11, Az3R, hnm, pa, Bool.not_false, if_true, reduceIte, List.set_cons_zero, List.set_cons_succ, List.length_cons, List.length_nil, Nat.reduceAdd, Nat.reduceLeDiff, Nat.zero_le]
    exact pq
theorem Bz8M (Bs : List (List (List Int))) (cs : List (List Int)) (n : Nat) : ksI Bs cs (n + 1) = if ownI Bs cs n = [] then ksI Bs cs n else ksI Bs cs n ++ [n] := by
  unfold ksI
  rw [List.range_succ, List.filter_append]
  by_cases h : ownI Bs cs n = []
  · rw [if_pos h, List.filter_cons_of_neg (by rw [h]; simp), List.filter_nil, List.append_nil]
  · rw [if_neg h, List.filter_cons_of_pos (by cases e : ownI Bs cs n with | nil => exact absurd e h | cons a r => rfl), List.filter_nil]
theorem loop1 (X Q : Str) (p d h s : Int) (ns : List Int) (Bs : List (List (List Int))) (cs : List (List Int)) (b c : D) (o : MadeOk p d h Bs cs)
    (hnm : ∀ k : Nat, k < 600 → callR 2 Az0Q [.lst (ns.map D.int), .int (k : Int)] = .ok (.str (nm X Q k))) :
    ∃ (s6 x9 x10 x11 : Option S), (s6 = some (.o ((mkH X Q p d h s Bs cs).drs.map fun j => D.str ((mkH X Q p d h s Bs cs).dn j))) ∨ s6 = some (.d (sL (mkH X Q p d h s Bs cs).drs (mkH X Q p d h s Bs cs).dn))) ∧
      forD (unTup 2 (unCons (setI 9) (unCons (setI 10) unNil))) Az6M (enumD 0 (cs.map pD)) [some (.d (.lst (ns.map D.int))), some (.d b), some (.d c), some (.d (ruD p d h s)), some (.d (.lst (Bs.map bD))), some (.d (.lst (cs.map pD))), some (.o ((mkH X Q p d h s Bs cs).drs.map fun j => D.str ((mkH X Q p d h s Bs cs).dn j))), some (.o []), some (.q [] []), none, none, none, none, none, none, none]
      = .nx [some (.d (.lst (ns.map D.int))), some (.d b), some (.d c), some (.d (ruD p d h s)), some (.d (.lst (Bs.map bD))), some (.d (.lst (cs.map pD))), s6, some (.o ((mkH X Q p d h s Bs cs).ks.map fun k => D.tup [.str ((mkH X Q p d h s Bs cs).kn k), sL ((mkH X Q p d h s Bs cs).own k) (mkH X Q p d h s Bs cs).dn])), some (.q ((mkH X Q p d h s Bs cs).plT.map (·.1)) ((mkH X Q p d h s Bs cs).plT.map (·.2))), x9, x10, x11, none, none, none, none] := by
  have eH : ∃ H, H = mkH X Q p d h s Bs cs := ⟨_, rfl⟩
  obtain ⟨H, eH⟩ := eH
  have hru : H.ru = ruD p d h s := by rw [eH]; rfl
  obtain ⟨δ2, f, s6, x9, x10, x11, h6, rfl⟩ := Az3L (t := unTup 2 (unCons (setI 9) (unCons (setI 10) unNil))) (body := Az6M) (fun i δ => ∃ (s6 x9 x10 x11 : Option S), (s6 = some (.o (H.drs.map fun j => D.str (H.dn j))) ∨ s6 = some (.d (sL H.drs H.dn))) ∧ δ = [some (.d (.lst (ns.map D.int))), some (.d b), some (.d c), some (.d H.ru), some (.d (.lst (Bs.map bD))), some (.d (.lst (cs.map pD))), s6, some (.o ((ksI Bs cs i).map fun k => D.tup [.str (H.kn k), sL (H.own k) H.dn])), some (.q ((tK (ksI Bs cs i) H.kn fun k => pD (H.cut k)).map (·.1)) ((tK (ksI Bs cs i) H.kn fun k => pD (H.cut k)).map (·.2))), x9, x10, x11, none, none, none, none])
    (enumD 0 (cs.map pD)) [some (.d (.lst (ns.map D.int))), some (.d b), some (.d c), some (.d H.ru), some (.d (.lst (Bs.map bD))), some (.d (.lst (cs.map pD))), some (.o (H.drs.map fun j => D.str (H.dn j))), some (.o []), some (.q [] []), none, none, none, none, none, none, none] (fun i e δ he hI => by
      obtain ⟨s6, x9, x10, x11, h6, rfl⟩ := hI
      obtain ⟨w, hw, rfl⟩ := Az2L he
      rw [List.getElem?_map] at hw
      obtain ⟨cc, hcc, rfl⟩ := Option.map_eq_some_iff.mp hw
      have hi := (List.getElem?_eq_some_iff.mp hcc).1
      have c16 := o.c16
      have ec : H.cut i = cc := by rw [eH]; show cs.getD i [] = cc; rw [List.getD_eq_getElem?_getD, hcc]; rfl
      rw [Nat.zero_add, ← ec]
      have kr : ∀ k ∈ ksI Bs cs i, k < i := fun k hk => List.mem_range.mp (List.mem_filter.mp hk).1
      have kl : (ksI Bs cs i).length ≤ 16 := by
        have := List.length_filter_le (fun k => !(ownI Bs cs k).isEmpty) (List.range i)
        rw [List.length_range] at this
        unfold ksI
        omega
      have nk := hnm (26 + i) (by omega)
      rw [show ((26 + i : Nat) : Int) = 26 + (i : Int) by omega] at nk
      obtain ⟨y11, tn⟩ := turn1 H ns Bs cs b c i (ksI Bs cs i) s6 x11 h6 (by omega) kr kl (by rw [eH]; rfl) (by rw [eH]; exact o.b8) (fun j => by rw [eH]; rfl) (fun j hj => by
        rw [eH] at hj ⊢
        show (cs.getD i []).length = (Bs.getD j []).length
        rw [o.co _ (Az7F _ hi), (o.bo _ (Az7F _ hj)).1]) (by rw [eH]; rfl) (by rw [nk, eH]; rfl) (fun k hk e => by
        have := kr k hk
        rw [eH] at e
        have := nm_inj (X := X) (Q := Q) (j := 26 + k) (k := 26 + i) (by omega) (by omega) e
        omega)
      rw [show H.own i = ownI Bs cs i by rw [eH]; rfl, ← Bz8M] at tn
      exact ⟨_, rfl, _, .inl tn, _, _, _, _, .inr rfl, rfl⟩) ⟨_, none, none, none, .inl rfl, rfl⟩
  rw [Az3U, List.length_map] at f
  refine ⟨s6, x9, x10, x11, by rw [← eH]; exact h6, ?_⟩
  rw [← eH, ← hru, f]
  rw [show H.ks = ksI Bs cs cs.length by rw [eH]; rfl]
  unfold Hs.plT
  rw [show H.ks = ksI Bs cs cs.length by rw [eH]; rfl]
theorem turn2 (H : Hs) (o : H.Ok) (Bs : List (List (List Int))) (hb : ∀ j, H.bar j = Bs.getD j []) (hm : H.m = Bs.length) (a b c f : D) (j : Nat) (hj : j < H.m) (x9 x10 x11 : Option S) :
    ∃ y11 : Option S, Az6L [some (.d a), some (.d b), some (.d c), some (.d H.ru), some (.d (.lst (Bs.map bD))), some (.d f), some (.d (sL H.drs H.dn)), some (.d H.grD), some (.d (dK H.plT)), x9, x10, x11, some (.d H.hsD), some (.d (dK H.baT)), some (.d (.int (j : Int))), some (.d (.str (H.dn j)))]
      = .nx [some (.d a), some (.d b), some (.d c), some (.d H.ru), some (.d (.lst (Bs.map bD))), some (.d f), some (.d (sL H.drs H.dn)), some (.d H.grD), some (.d (dK H.plT)), x9, x10, y11, some (.d H.hsD), some (.d (dK H.baT)), some (.d (.int (j : Int))), some (.d (.str (H.dn j)))] := by
  have hjm : j ∈ H.drs := List.mem_range.mpr hj
  have cm : compR 2 (unTup 2 (unCons (setI 0) (unCons (setI 1) unNil))) Bz0R Bz4E [some (.d a), some (.d b), some (.d c), some (.d H.ru), some (.d (.lst (Bs.map bD))), some (.d f), some (.d (sL H.drs H.dn)), some (.d H.grD), some (.d (dK H.plT)), x9, x10, x11, some (.d H.hsD), some (.d (dK H.baT)), some (.d (.int (j : Int))), some (.d (.str (H.dn j)))] (H.ks.map fun k => D.tup [.str (H.kn k), sL (H.own k) H.dn]) = .ok ((H.hold j).map fun k => D.str (H.kn k)) := by
    refine Az1G ?_ (by rw [List.length_map]; have := o.kl; omega)
    refine Az5U (gc := Bz0R) (fe := Bz4E) (fun k => decide (j ∈ H.own k)) (fun k => D.str (H.kn k)) (fun k => sL (H.own k) H.dn) (fun k => D.str (H.kn k)) _ H.ks none none ?_
    intro k hk
    have e := inR_sL (dn_inj H o.hm) (Bz2T H o hk) hjm
    refine ⟨?_, fun _ => rfl⟩
    unfold Bz0R
    simp only [tR, b2, Az0C, Az0F, Res.bind_ok, List.replicate_zero, List.append_eq, List.nil_append, e, Az0G]
  have sq : seqR H.grD = .ok (H.ks.map fun k => D.tup [.str (H.kn k), sL (H.own k) H.dn]) := rfl
  have e1 := Cz2J H.kn (H.hold j)
  have e2 := Bz6U H.kn (H.hold j)
  have g1 := get_tK (g := fun j => if H.hold j = [] then D.non else bD (H.lb j)) (dn_inj H o.hm) hjm
  change eqR (.lst ((H.hold j).map fun k => D.str (H.kn k))) (.lst []) = _ at e1
  change neR (.lst ((H.hold j).map fun k => D.str (H.kn k))) (.lst []) = _ at e2
  change dgetR H.baT (.str (H.dn j)) = .ok (if H.hold j = [] then D.non else bD (H.lb j)) at g1
  have f7 : ∀ r : DSt, ∀ a0 a1 a2 a3 a4 a5 a6 : Option S, frzL 7 (a0 :: a1 :: a2 :: a3 :: a4 :: a5 :: a6 :: some (.d H.grD) :: r) = a0 :: a1 :: a2 :: a3 :: a4 :: a5 :: a6 :: some (.d H.grD) :: r := fun _ _ _ _ _ _ _ _ => rfl
  refine ⟨some (.o ((H.hold j).map fun k => D.str (H.kn k))), ?_⟩
  by_cases hz : H.hold j = []
  · rw [if_pos hz] at g1
    rw [show (H.hold j).isEmpty = true by rw [hz]; rfl] at e1 e2
    unfold Az6L
    simp only [sSeq, sFrzL, f7, sOwn, vComp, sIf, tOr2, tR, b1, b2, b2Q, asD, lstR, aNil, Az0I, Az0L, Az0C, Az0F, Az0P, Az5F, Az3M, Res.bind_ok, sq, cm, ofR_ok, Az0N, e1, e2, g1, show notNR .non = .ok (.bl false) from rfl, Az0G, orB_ok, ifO_ok, Bool.not_true, Bool.false_eq_true, if_true, if_false, reduceIte, List.set_cons_zero, List.set_cons_succ, List.length_nil, Nat.zero_le]
  · rw [if_neg hz] at g1
    rw [show (H.hold j).isEmpty = false by cases h : H.hold j with | nil => exact absurd h hz | cons a r => rfl] at e1 e2
    have isn : isNR (bD (H.lb j)) = .ok (.bl false) := rfl
    have hj' : j < Bs.length := by rw [← hm]; exact hj
    have a1 : ixR (.lst (Bs.map bD)) (.int (j : Int)) = .ok (bD (H.bar j)) := by
      refine ixR_l _ _ _ (Az6A (by omega) ?_)
      rw [show ((j : Int)).toNat = j by omega, List.getElem?_map, List.getElem?_eq_getElem hj', hb, List.getD_eq_getElem?_getD, List.getElem?_eq_getElem hj']
      rfl
    have wi := Az9F (H.lb j) (H.bar j) (by rw [(o.bl j hj).1]; exact Az4Z _ _) (fun i hi => lb_in H o hj (by rw [← (o.bl j hj).1]; exact hi))
    have ky := Cz1W H.kn (fun k => pD (H.cut k)) H.ks
    change keysR (dK H.plT) = _ at ky
    have f8 : ∀ r : DSt, ∀ a0 a1 a2 a3 a4 a5 a6 a7 : Option S, frzD 8 (a0 :: a1 :: a2 :: a3 :: a4 :: a5 :: a6 :: a7 :: some (.d (dK H.plT)) :: r) = a0 :: a1 :: a2 :: a3 :: a4 :: a5 :: a6 :: a7 :: some (.d (dK H.plT)) :: r := fun _ _ _ _ _ _ _ _ _ => rfl
    have cm3 : compR 1 (setI 0) Bz0Q Bz4D [some (.d a), some (.d b), some (.d c), some (.d H.ru), some (.d (.lst (Bs.map bD))), some (.d f), some (.d (sL H.drs H.dn)), some (.d H.grD), some (.d (dK H.plT)), x9, x10, some (.o ((H.hold j).map fun k => D.str (H.kn k))), some (.d H.hsD), some (.d (dK H.baT)), some (.d (.int (j : Int))), some (.d (.str (H.dn j)))] (H.ks.map fun k => D.str (H.kn k)) = .ok ((H.hold j).map fun k => D.str (H.kn k)) := by
      refine Az1G ?_ (by rw [List.length_map]; have := o.kl; omega)
      refine Az3P (gc := Bz0Q) (fe := Bz4D) (fun k => decide (j ∈ H.own k)) (fun k => D.str (H.kn k)) (fun k => D.str (H.kn k)) _ H.ks none ?_
      intro k hk
      have g2 := get_tK (g := fun k => pD (H.cut k)) (kn_inj H o) hk
      change dgetR H.plT (.str (H.kn k)) = .ok (pD (H.cut k)) at g2
      have op := Az9X (H.lb j) (H.cut k) (by rw [o.cl k hk]; exact (Az4Z _ _).symm)
      rw [op_lb H o hj hk, show decide (k ∈ H.hold j) = decide (j ∈ H.own k) by rw [Bool.eq_iff_iff, decide_eq_true_eq, decide_eq_true_eq, Az5C]; exact ⟨fun z => z.2, fun z => ⟨hk, z⟩⟩] at op
      refine ⟨?_, fun _ => rfl⟩
      unfold Bz0Q
      simp only [tR, b1, b2Q, aCons, aNil, Az0E, Az0C, Az0F, Az5F, Az3M, Res.bind_ok, List.replicate_zero, List.append_eq, List.nil_append, g1, g2, op, Az0G]
    have ns2 := Cz1L H.kn (H.hold j)
    change neR (.lst ((H.hold j).map fun k => D.str (H.kn k))) (.lst ((H.hold j).map fun k => D.str (H.kn k))) = _ at ns2
    unfold Az6L
    simp only [sSeq, sFrzL, f7, sOwn, vComp, sIf, sFrz, f8, tOr2, tNot1, tR, b1, b1Q, b2, b2Q, asD, lstR, aCons, aNil, Az0E, Az0I, Az0L, Az0C, Az0F, Az0P, Az5F, Az3M, Res.bind_ok, sq, cm, ofR_ok, Az0N, e1, g1, isn, a1, wi, ky, cm3, ns2, Az0G, orB_ok, ifO_ok, Bool.not_true, Bool.false_eq_true, if_true, if_false, reduceIte, List.set_cons_zero, List.set_cons_succ, List.length_nil, Nat.zero_le]
theorem loop2 (H : Hs) (o : H.Ok) (Bs : List (List (List Int))) (hb : ∀ j, H.bar j = Bs.getD j []) (hm : H.m = Bs.length) (a b c f : D) (x9 x10 x11 : Option S) :
    ∃ x11' x14 x15 : Option S, forD (unTup 2 (unCons (setI 14) (unCons (setI 15) unNil))) Az6L (H.drs.map fun (j : Nat) => D.tup [.int (j : Int), .str (H.dn j)]) [some (.d a), some (.d b), some (.d c), some (.d H.ru), some (.d (.lst (Bs.map bD))), some (.d f), some (.d (sL H.drs H.dn)), some (.d H.grD), some (.d (dK H.plT)), x9, x10, x11, some (.d H.hsD), some (.d (dK H.baT)), none, none]
      = .nx [some (.d a), some (.d b), some (.d c), some (.d H.ru), some (.d (.lst (Bs.map bD))), some (.d f), some (.d (sL H.drs H.dn)), some (.d H.grD), some (.d (dK H.plT)), x9, x10, x11', some (.d H.hsD), some (.d (dK H.baT)), x14, x15] := by
  obtain ⟨δ2, g, x11', x14, x15, rfl⟩ := Az3L (t := unTup 2 (unCons (setI 14) (unCons (setI 15) unNil))) (body := Az6L) (fun _ δ => ∃ x11 x14 x15 : Option S, δ = [some (.d a), some (.d b), some (.d c), some (.d H.ru), some (.d (.lst (Bs.map bD))), some (.d f), some (.d (sL H.drs H.dn)), some (.d H.grD), some (.d (dK H.plT)), x9, x10, x11, some (.d H.hsD), some (.d (dK H.baT)), x14, x15])
    (H.drs.map fun (j : Nat) => D.tup [.int (j : Int), .str (H.dn j)]) [some (.d a), some (.d b), some (.d c), some (.d H.ru), some (.d (.lst (Bs.map bD))), some (.d f), some (.d (sL H.drs H.dn)), some (.d H.grD), some (.d (dK H.plT)), x9, x10, x11, some (.d H.hsD), some (.d (dK H.baT)), none, none] (fun i e δ he hI => by
      obtain ⟨y11, y14, y15, rfl⟩ := hI
      rw [List.getElem?_map] at he
      obtain ⟨j, hj, rfl⟩ := Option.map_eq_some_iff.mp he
      have hj' := List.mem_range.mp (List.mem_of_getElem? hj)
      obtain ⟨z11, tn⟩ := turn2 H o Bs hb hm a b c f j hj' x9 x10 y11
      exact ⟨_, rfl, _, .inl tn, _, _, _, rfl⟩) ⟨_, _, _, rfl⟩
  exact ⟨x11', x14, x15, g⟩
theorem gr_eq (H : Hs) : H.grD = .lst ((H.ks.map fun k => (H.kn k, (H.own k).map H.dn)).map prD) := by
  unfold Hs.grD
  rw [List.map_map]
  congr 1
  refine List.map_congr_left fun k _ => ?_
  show D.tup [.str (H.kn k), sL (H.own k) H.dn] = D.tup [.str (H.kn k), .lst (((H.own k).map H.dn).map D.str)]
  unfold sL
  rw [List.map_map]; rfl
theorem Bz8Q (H : Hs) (o : H.Ok) : callR 4 (makeR 4 "House" Az4E) [H.ru, .lst (H.drs.map fun j => D.str (H.dn j)), .lst [], .lst (H.ks.map fun k => D.tup [.str (H.kn k), sL (H.own k) H.dn])] = .ok H.hsD := by
  have := Cz1S H.ru (H.drs.map fun j => D.str (H.dn j)) [] (H.ks.map fun k => (H.kn k, (H.own k).map H.dn)) (by decide) (by rw [List.length_map]; have := o.kl; omega)
  rw [← gr_eq] at this
  exact this
theorem law_true (ns : List Int) (hn : ns.length ≤ 63) : m_law [.lst (ns.map D.int)] = .ok (.bl true) := by
  obtain ⟨v0, e0⟩ := Az8E ns 0 (by decide) (by decide)
  obtain ⟨v1, e1⟩ := Az8E ns 1 (by decide) (by decide)
  obtain ⟨v2, e2⟩ := Az8E ns 2 (by decide) (by decide)
  obtain ⟨v3, e3⟩ := Az8E ns 3 (by decide) (by decide)
  have m1 := modI v1 19 (by decide)
  have a1 := Int.emod_nonneg v1 (show (19 : Int) ≠ 0 by decide)
  have a2 := Int.emod_lt_of_pos v1 (show (0 : Int) < 19 by decide)
  generalize v1 % 19 = q1 at *
  generalize hd : 2 + q1 = d at *
  have ad : addD (.int 2) (.int q1) = .ok (.int d) := by rw [← hd]; rfl
  have m0 := modI v0 (d - 1) (by omega)
  have a3 := Int.emod_nonneg v0 (show d - 1 ≠ 0 by omega)
  generalize v0 % (d - 1) = q0 at *
  have m2 := modI v2 24 (by decide)
  have a5 := Int.emod_nonneg v2 (show (24 : Int) ≠ 0 by decide)
  have a6 := Int.emod_lt_of_pos v2 (show (0 : Int) < 24 by decide)
  generalize v2 % 24 = q2 at *
  have m3 := modI v3 d (by omega)
  have a7 := Int.emod_nonneg v3 (show d ≠ 0 by omega)
  have a8 := Int.emod_lt_of_pos v3 (show 0 < d by omega)
  generalize v3 % d = q3 at *
  obtain ⟨X, Q, hx, hq, hnm⟩ := Cz1N ns
  obtain ⟨Bs, cs, em, mo⟩ := Cz1T ns hn (1 + q2) d (1 + q3) (1 + q0) (by omega) (by omega) (by omega) (by omega) (by omega) (by omega) (by omega)
  have o := mkH_ok (s := 1 + q0) hx hq (by omega) (by omega) mo
  obtain ⟨s6, x9, x10, x11, h6, l1⟩ := loop1 X Q (1 + q2) d (1 + q3) (1 + q0) ns Bs cs (.int d) (.int (1 + q0)) mo hnm
  have hb : ∀ j, (mkH X Q (1 + q2) d (1 + q3) (1 + q0) Bs cs).bar j = Bs.getD j [] := fun _ => rfl
  have hm : (mkH X Q (1 + q2) d (1 + q3) (1 + q0) Bs cs).m = Bs.length := rfl
  have hdn : ∀ j : Nat, j < Bs.length → callR 2 Az0Q [.lst (ns.map D.int), .int (j : Int)] = .ok (.str ((mkH X Q (1 + q2) d (1 + q3) (1 + q0) Bs cs).dn j)) := fun j hj => hnm j (by have := mo.b8; omega)
  have hru : (mkH X Q (1 + q2) d (1 + q3) (1 + q0) Bs cs).ru = ruD (1 + q2) d (1 + q3) (1 + q0) := rfl
  generalize mkH X Q (1 + q2) d (1 + q3) (1 + q0) Bs cs = H at *
  rw [← hru] at l1 em
  have hru2 : (D.tup [.int (1 + q2), .int d, .int (1 + q3), .int (1 + q0)]) = H.ru := hru.symm
  have ln : lenR (.lst (Bs.map bD)) = .ok (.int (Bs.length : Int)) := by rw [lenR_l, List.length_map]
  have rg := Cz0G Bs.length (by have := mo.b8; omega)
  have cm : ∀ r : DSt, compR 1 (setI 0) (fun _ => .ok true) Bz0K (some (.d (.lst (ns.map D.int))) :: r) (rngD 0 Bs.length) = .ok (H.drs.map fun j => D.str (H.dn j)) := fun r => by
    refine Az1G ?_ (by rw [Az5P]; have := mo.b8; omega)
    have er : rngD 0 Bs.length = H.drs.map fun (j : Nat) => D.int (j : Int) := by
      unfold rngD Hs.drs
      rw [hm]
      exact List.map_congr_left fun j _ => by rw [Int.zero_add]
    rw [er]
    have := Az3P (gc := fun _ => .ok true) (fe := Bz0K) (fun _ => true) (fun (j : Nat) => D.int (j : Int)) (fun j => D.str (H.dn j)) (some (.d (.lst (ns.map D.int))) :: r) H.drs none (fun j hj => ⟨rfl, fun _ => by
      have e := hdn j (by rw [← hm]; exact List.mem_range.mp hj)
      unfold Bz0K
      simp only [b1, aCons, aNil, Az0E, Az0I, Az0L, Res.bind_ok, e]⟩)
    rw [Az3F] at this
    exact this
  have en1 : enumR [.lst (cs.map pD)] = .ok (enumD 0 (cs.map pD)) := rfl
  have en2 : enumR [sL H.drs H.dn] = .ok (H.drs.map fun (j : Nat) => D.tup [.int (j : Int), .str (H.dn j)]) := Bz4B (fun j => D.str (H.dn j)) H.m
  have mk := Bz8Q H o
  have fa := Bz8W H o
  have ba := Bz4P H o
  have nn : notNR .non = .ok (.bl false) := rfl
  obtain ⟨y11, y14, y15, l2⟩ := loop2 H o Bs hb hm (.lst (ns.map D.int)) (.int d) (.int (1 + q0)) (.lst (cs.map pD)) x9 x10 x11
  have asg : ∀ (a0 a1 a2 a3 a4 a5 : Option S) (A B : D) (r : DSt), asgO (unTup 2 (unCons (setI 4) (unCons (setI 5) unNil))) (a0 :: a1 :: a2 :: a3 :: a4 :: a5 :: r) (.tup [A, B]) = .nx (a0 :: a1 :: a2 :: a3 :: some (.d A) :: some (.d B) :: r) := fun _ _ _ _ _ _ _ _ _ => rfl
  have p6 : ∀ (a0 a1 a2 a3 a4 a5 : Option S) (r : DSt), slotP 6 (a0 :: a1 :: a2 :: a3 :: a4 :: a5 :: s6 :: r) = .ok (.lst (H.drs.map fun j => D.str (H.dn j))) := fun _ _ _ _ _ _ _ => by rcases h6 with rfl | rfl <;> rfl
  have z6 : ∀ (a0 a1 a2 a3 a4 a5 : Option S) (r : DSt), frzL 6 (a0 :: a1 :: a2 :: a3 :: a4 :: a5 :: s6 :: r) = a0 :: a1 :: a2 :: a3 :: a4 :: a5 :: some (.d (sL H.drs H.dn)) :: r := fun _ _ _ _ _ _ _ => by rcases h6 with rfl | rfl <;> rfl
  have z7 : ∀ (a0 a1 a2 a3 a4 a5 a6 : Option S) (r : DSt), frzL 7 (a0 :: a1 :: a2 :: a3 :: a4 :: a5 :: a6 :: some (.o (H.ks.map fun k => D.tup [.str (H.kn k), sL (H.own k) H.dn])) :: r) = a0 :: a1 :: a2 :: a3 :: a4 :: a5 :: a6 :: some (.d H.grD) :: r := fun _ _ _ _ _ _ _ _ => rfl
  have z8 : ∀ (a0 a1 a2 a3 a4 a5 a6 a7 : Option S) (r : DSt), frzD 8 (a0 :: a1 :: a2 :: a3 :: a4 :: a5 :: a6 :: a7 :: some (.q (H.plT.map (·.1)) (H.plT.map (·.2))) :: r) = a0 :: a1 :: a2 :: a3 :: a4 :: a5 :: a6 :: a7 :: some (.d (dK H.plT)) :: r := fun _ _ _ _ _ _ _ _ _ => rfl
  have w8 : ∀ (a0 a1 a2 a3 a4 a5 a6 a7 : Option S) (r : DSt), frzD 8 (a0 :: a1 :: a2 :: a3 :: a4 :: a5 :: a6 :: a7 :: some (.d (dK H.plT)) :: r) = a0 :: a1 :: a2 :: a3 :: a4 :: a5 :: a6 :: a7 :: some (.d (dK H.plT)) :: r := fun _ _ _ _ _ _ _ _ _ => rfl
  clear hn h6 mo o hb hm hdn hnm a1 a2 a3 a5 a6 a7 a8 hx hq hru
  generalize H.hsD = HD at *
  generalize H.baT = BT at *
  generalize (H.drs.map fun (j : Nat) => D.tup [.int (j : Int), .str (H.dn j)]) = EN at *
  generalize enumD 0 (cs.map pD) = EC at *
  generalize (Bs.length : Int) = NB at *
  generalize rngD 0 Bs.length = RB at *
  generalize Bs.map bD = BB at *
  generalize cs.map pD = CC at *
  generalize ns.map D.int = NN at *
  unfold m_law b_law
  simp -implicitDefEqProofs only [Az0R, startD, List.map_cons, List.map_nil, List.length_cons, List.length_nil, List.cons_append, List.nil_append, Nat.reduceAdd, Nat.reduceSub, List.replicate, kD, b1, b2, asD, lstR, tupR, tR, vComp, aCons, aNil, Az0E, sSeq, sSet, sOwn, sOwnQ, sAsg, sIf, sFor, sFrz, sFrzL, sRet, Az0I, Az0L, Az0C, Az0P, Az0F, Res.bind_ok, ofR_ok, Az0N, seqR_l, ifO_ok, Az0G, Az3R, Bz2D, e0, e1, e2, e3, m1, ad, m0, m2, m3, hru2, em, asg, ln, rg, cm, en1, l1, p6, mk, z8, w8, fa, nn, ba, z7, z6, en2, l2, Az0S, List.set_cons_zero, List.set_cons_succ, Bool.false_eq_true, Nat.reduceLeDiff, Nat.zero_le, if_true, if_false, reduceIte]
end G
local macro_rules | `(tactic| walk_at "memfree") => `(tactic| first | exact List.forall_mem_nil _ | exact List.forall_mem_cons.mpr ⟨(by intro h; first | exact absurd h (by decide) | exact Or.inl rfl | exact Or.inr rfl), by walk_at "memfree"⟩)
local macro_rules | `(tactic| walk_at "memdis") => `(tactic| first | exact List.forall_mem_nil _ | exact List.forall_mem_cons.mpr ⟨by decide +kernel, by walk_at "memdis"⟩)
local macro_rules | `(tactic| walk_at "compok") => `(tactic| exact ⟨rfl, by decide +kernel, by walk_at "memfree", rfl, by walk_at "memdis"⟩)
namespace G
open PySem PySem.Spec PyProof.Rows L2 L3
noncomputable def top (i : Nat) : Stmt := PySem.Challenge.pw_wardsmith_k45_whole_least_barrels_do.main.body.getD i (.Pass ⟨0, 0, 0, 0⟩)
noncomputable abbrev Az4W : Stmt := top 27
noncomputable abbrev Az6H : Stmt := Cz2B (top 26) 0
noncomputable abbrev Az2E : Stmt := top 29
noncomputable abbrev Az2X : Stmt := top 31
noncomputable abbrev Az1A : Stmt := top 32
noncomputable abbrev Az2D : Stmt := top 33
noncomputable abbrev Az2C : Stmt := top 36
noncomputable abbrev Az2B : Stmt := top 30
noncomputable abbrev Az1O : Stmt := top 34
noncomputable abbrev Az0Z : Stmt := top 35
noncomputable abbrev Az1K : Stmt := top 6
noncomputable abbrev Az2A : Stmt := top 5
noncomputable abbrev Az2S : Stmt := top 10
noncomputable abbrev Az1N : Stmt := top 22
noncomputable abbrev Az1M : Stmt := top 21
noncomputable abbrev Az2V : Stmt := top 14
noncomputable abbrev Az2R : Stmt := top 13
noncomputable abbrev Az2P : Stmt := top 15
noncomputable abbrev Az3S : Stmt := top 19
noncomputable abbrev Az1L : Stmt := top 17
noncomputable abbrev Az2W : Stmt := top 11
noncomputable abbrev Az0Y : Stmt := top 24
noncomputable abbrev Az1I : Stmt := top 9
noncomputable abbrev Az2Q : Stmt := top 8
noncomputable abbrev Az2U : Stmt := top 23
noncomputable abbrev Az1J : Stmt := top 20
noncomputable abbrev Az2T : Stmt := top 18
noncomputable abbrev s_law : Stmt := top 37
structure Txt (K : PySem.W.Frag) (mg : Str → Option Value) : Prop where
  n_abs : mg "abs" = none
  n_dict : mg "dict" = none
  n_enumerate : mg "enumerate" = none
  n_len : mg "len" = none
  n_list : mg "list" = none
  n_min : mg "min" = none
  n_range : mg "range" = none
  n_set : mg "set" = none
  n_sorted : mg "sorted" = none
  n_tuple : mg "tuple" = none
  o_House_doors : FldK K "House" "doors"
  o_House_grants : FldK K "House" "grants"
  o_House_rules : FldK K "House" "rules"
  o_House_wings : FldK K "House" "wings"
section
variable {P : Program} {w : World} {K : PySem.W.Frag} {mg : Str → Option Value} {base : Heap}
theorem Bz5C : FnScope ["things"] ["things"] (Az0A Az4W) := ⟨rfl, rfl, rfl, by decide +kernel, rfl, by decide +kernel, by decide +kernel⟩
theorem Bz5J {f : Addr} {fd : FuncData} (F : Fun K "copied" "copied" Az4W f fd) (hm : mg "copied" = some (.ref f)) (T : Txt K mg)  : Fn P w K mg base 1 "copied" 1 Az3Z :=
  fn_def (k := 0) F Bz5C hm (F.binds (ps := ["things"]) fun _ _ _ _ _ _ => us1 fun _ => rfl) fun cdv A outer s H E hr =>
    (ss_one (s_ret (x_new (f_comp ["name", "names"] ["things"] (by walk_at "compok") rfl (i_seq (x_var 0)) (fun C fp pins s H => ⟨(g_tup rfl (g_cons (g_name 0 (show List.Nodup (["name", "names", "things"] : List Str) by decide +kernel)) (g_cons (g_name 1 (show List.Nodup (["name", "names", "things"] : List Str) by decide +kernel)) g_nil))), t_nil, (x_tup (a_cons (x_var 0) (a_cons (x_new (Az7H T.n_list (p_var 1))) a_nil)))⟩)))))
theorem Bz7S : FnScope ["self", "rules", "doors", "wings", "grants"] ["self", "rules", "doors", "wings", "grants"] (Az0A Az6H) := ⟨rfl, rfl, rfl, by decide +kernel, rfl, by decide +kernel, by decide +kernel⟩
theorem Bz8B {f C : Addr} {fd : FuncData} (F : Fun K "__init__" "House.__init__" Az6H f fd) (M : Mk K C f) (hm : mg "House" = some (.ref C)) (hc : PySem.W.nsIn K mainGlobals "House" = some (some (.ref C))) (cl : Cls K C) (na_rules : NoAttr K C "rules") (na_doors : NoAttr K C "doors") (na_wings : NoAttr K C "wings") (na_grants : NoAttr K C "grants") (T : Txt K mg) (F_copied : Fn P w K mg base 1 "copied" 1 Az3Z) : FnI P w K mg base 3 "House" 4 4 Az4E :=
  Cz2E (k := 1) F Bz7S M hm hc (F.binds (ps := ["self", "rules", "doors", "wings", "grants"]) fun _ _ _ _ _ _ => us5 fun _ _ _ _ _ => rfl) fun cdv A outer s H E hr =>
    (Bz0D cl na_rules (x_var 1)
    (Bz0D cl na_doors (x_new (Az7H T.n_list (p_var 2)))
    (Bz0D cl na_wings (x_call (F_copied.mono (by decide)) hr (a_cons (x_var 3) a_nil))
    (Bz0D cl na_grants (x_call (F_copied.mono (by decide)) hr (a_cons (x_var 4) a_nil))
    in_nil))))
theorem sc__law_cell : FnScope ["_law_script", "_law_k", "_law_number"] ["_law_script", "_law_k"] (Az0A Az2E) := ⟨rfl, rfl, rfl, by decide +kernel, rfl, by decide +kernel, by decide +kernel⟩
theorem Az9D {f : Addr} {fd : FuncData} (F : Fun K "_law_cell" "_law_cell" Az2E f fd) (hm : mg "_law_cell" = some (.ref f)) (T : Txt K mg)  : Fn P w K mg base 1 "_law_cell" 2 Az0O :=
  fn_def (k := 0) F sc__law_cell hm (F.binds (ps := ["_law_script", "_law_k"]) fun _ _ _ _ _ _ => us2 fun _ _ => rfl) fun cdv A outer s H E hr =>
    (Az0B (s_if (y_cmp c_lt (p_var 1) (p_of (x_len T.n_len (p_var 0)))) (ss_one (s_ret (x_ix (p_var 0) (p_var 1)))) ss_nil)
    (Az0B (s_set 2 sc__law_cell.nd (x_add (p_of (x_mulE (p_var 1) (p_of x_int))) (p_of x_int)))
    (Az0B (s_if (y_cmp c_gt (p_of (x_len T.n_len (p_var 0))) (p_of x_int)) (ss_one (s_set 2 sc__law_cell.nd (x_add (p_var 2) (p_of (x_mulE (p_of (x_mod (p_of (x_ix (p_var 0) (p_of (x_mod (p_of (x_mulE (p_var 1) (p_of x_int))) (p_of (x_len T.n_len (p_var 0))))))) (p_of x_int))) (p_of x_int)))))) ss_nil)
    (ss_one (s_ret (x_mod (p_of (x_mulE (p_var 2) (p_var 2))) (p_of x_int)))))))
theorem sc__law_pin : FnScope ["_law_cell_here", "_law_depths", "_law_heights", "_law_pin_here", "_law_k"] ["_law_cell_here", "_law_depths", "_law_heights"] (Az0A Az2X) := ⟨rfl, rfl, rfl, by decide +kernel, rfl, by decide +kernel, by decide +kernel⟩
theorem Bz1K {f : Addr} {fd : FuncData} (F : Fun K "_law_pin" "_law_pin" Az2X f fd) (hm : mg "_law_pin" = some (.ref f)) (T : Txt K mg)  : Fn P w K mg base 1 "_law_pin" 3 Az3E :=
  fn_def (k := 0) F sc__law_pin hm (F.binds (ps := ["_law_cell_here", "_law_depths", "_law_heights"]) fun _ _ _ _ _ _ => us3 fun _ _ _ => rfl) fun cdv A outer s H E hr =>
    (Az0B (s_own 3 sc__law_pin.nd (f_lst a_nil))
    (Az0B (s_for PassesOwn.never rfl (Az5B T.n_range (a_cons (x_add (p_of x_int) (p_of (x_mod (p_var 0) (p_of (x_min rfl T.n_min (a_cons x_int (a_cons (x_var 2) a_nil))))))) a_nil)) (g_name 4 sc__law_pin.nd) (Az0B (s_set 0 sc__law_pin.nd (x_add (p_of (x_mod (p_of (x_mulE (p_var 0) (p_of x_int))) (p_of x_int))) (p_var 4)))
    (ss_one (Az3N 3 (x_mod (p_of (x_fdiv (p_var 0) (p_of x_int))) (p_var 1))))))
    (ss_one (s_ret (Az7K T.n_tuple (p_of (x_new (Bz0J rfl T.n_sorted T.n_set (p_var 3)))))))))
theorem sc__law_barrel : FnScope ["_law_cell_here", "_law_rules", "_law_pins", "_law_place"] ["_law_cell_here", "_law_rules"] (Az0A Az1A) := ⟨rfl, rfl, rfl, by decide +kernel, rfl, by decide +kernel, by decide +kernel⟩
theorem Az7C {f : Addr} {fd : FuncData} (F : Fun K "_law_barrel" "_law_barrel" Az1A f fd) (hm : mg "_law_barrel" = some (.ref f)) (T : Txt K mg) (F__law_pin : Fn P w K mg base 1 "_law_pin" 3 Az3E) : Fn P w K mg base 2 "_law_barrel" 2 Az1C :=
  fn_def (k := 1) F sc__law_barrel hm (F.binds (ps := ["_law_cell_here", "_law_rules"]) fun _ _ _ _ _ _ => us2 fun _ _ => rfl) fun cdv A outer s H E hr =>
    (Az0B (s_own 2 sc__law_barrel.nd (f_lst a_nil))
    (Az0B (s_for PassesOwn.never rfl (Az5B T.n_range (a_cons (x_ix (p_var 1) (p_of x_int)) a_nil)) (g_name 3 sc__law_barrel.nd) (Az0B (s_set 0 sc__law_barrel.nd (x_add (p_of (x_mod (p_of (x_mulE (p_var 0) (p_of x_int))) (p_of x_int))) (p_var 3)))
    (ss_one (Az3N 2 (x_call (F__law_pin.mono (by decide)) hr (a_cons (x_var 0) (a_cons (x_ix (p_var 1) (p_of x_int)) (a_cons (x_ix (p_var 1) (p_of x_int)) a_nil))))))))
    (ss_one (s_ret (Az7K T.n_tuple (p_var 2))))))
theorem sc__law_cuts : FnScope ["_law_cell_here", "_law_rules", "_law_barrel_here", "_law_found", "_law_place", "_law_some"] ["_law_cell_here", "_law_rules", "_law_barrel_here"] (Az0A Az2D) := ⟨rfl, rfl, rfl, by decide +kernel, rfl, by decide +kernel, by decide +kernel⟩
theorem Az9C {f : Addr} {fd : FuncData} (F : Fun K "_law_cuts" "_law_cuts" Az2D f fd) (hm : mg "_law_cuts" = some (.ref f)) (T : Txt K mg)  : Fn P w K mg base 1 "_law_cuts" 3 Az2H :=
  fn_def (k := 0) F sc__law_cuts hm (F.binds (ps := ["_law_cell_here", "_law_rules", "_law_barrel_here"]) fun _ _ _ _ _ _ => us3 fun _ _ _ => rfl) fun cdv A outer s H E hr =>
    (Az0B (s_own 3 sc__law_cuts.nd (f_lst a_nil))
    (Az0B (s_for PassesOwn.never rfl (Az5B T.n_range (a_cons (x_ix (p_var 1) (p_of x_int)) a_nil)) (g_name 4 sc__law_cuts.nd) (Az0B (s_set 0 sc__law_cuts.nd (x_add (p_of (x_mod (p_of (x_mulE (p_var 0) (p_of x_int))) (p_of x_int))) (p_var 4)))
    (Az0B (by refine s_ownC 5 sc__law_cuts.nd ["_law_depth"] ["_law_cell_here", "_law_rules", "_law_barrel_here", "_law_found", "_law_place", "_law_some"] (by walk_at "compok") rfl (i_seq (x_ix (p_var 2) (p_var 4)))  ?_; exact (fun C fp pins s H => ⟨(g_name 0 (show List.Nodup (["_law_depth", "_law_cell_here", "_law_rules", "_law_barrel_here", "_law_found", "_law_place", "_law_some"] : List Str) by decide +kernel)), (t_one (y_w (w_or (y_cmp (c_eq (hu40 hr)) (p_var 4) (p_of (x_new (f_lst a_nil)))) (w_or1 (y_cmp c_le (p_of (x_abs T.n_abs (p_of (x_sub (p_var 0) (p_of (x_ix (p_var 4) (p_of (x_neg (p_of x_int))))))))) (p_of (x_ix (p_var 2) (p_of x_int)))))))), (x_var 0)⟩))
    (Az0B (s_if (y_w (w_or (y_cmp (c_eq (hu40 hr)) (p_var 5) (p_of (x_new (f_lst a_nil)))) (w_or1 (y_cmp (c_eq (hu40 hr)) (p_of (x_mod (p_var 0) (p_of x_int))) (p_of x_int))))) (ss_one (by refine s_ownC 5 sc__law_cuts.nd ["_law_depth"] ["_law_cell_here", "_law_rules", "_law_barrel_here", "_law_found", "_law_place", "_law_some"] (by walk_at "compok") rfl (Az5B T.n_range (a_cons (x_ix (p_var 1) (p_of x_int)) a_nil))  ?_; exact (fun C fp pins s H => ⟨(g_name 0 (show List.Nodup (["_law_depth", "_law_cell_here", "_law_rules", "_law_barrel_here", "_law_found", "_law_place", "_law_some"] : List Str) by decide +kernel)), (t_one (y_w (w_or (y_cmp (c_eq (hu40 hr)) (p_var 4) (p_of (x_new (f_lst a_nil)))) (w_or1 (y_cmp c_le (p_of (x_abs T.n_abs (p_of (x_sub (p_var 0) (p_of (x_ix (p_var 4) (p_of (x_neg (p_of x_int))))))))) (p_of (x_ix (p_var 2) (p_of x_int)))))))), (x_var 0)⟩))) ss_nil)
    (ss_one (Az3N 3 (x_ix (p_var 5) (p_of (x_mod (p_of (x_fdiv (p_var 0) (p_of x_int))) (p_of (x_len T.n_len (p_var 5))))))))))))
    (ss_one (s_ret (Az7K T.n_tuple (p_var 3))))))
theorem sc__law_made : FnScope ["_law_script", "_law_rules", "_law_drawn", "_law_some", "_law_k", "_law_cell_here"] ["_law_script", "_law_rules"] (Az0A Az2C) := ⟨rfl, rfl, rfl, by decide +kernel, rfl, by decide +kernel, by decide +kernel⟩
theorem Az9B {f : Addr} {fd : FuncData} (F : Fun K "_law_made" "_law_made" Az2C f fd) (hm : mg "_law_made" = some (.ref f)) (T : Txt K mg) (F__law_barrel : Fn P w K mg base 2 "_law_barrel" 2 Az1C) (F__law_cuts : Fn P w K mg base 1 "_law_cuts" 3 Az2H) : Fn P w K mg base 3 "_law_made" 2 Az2G :=
  fn_def (k := 2) F sc__law_made hm (F.binds (ps := ["_law_script", "_law_rules"]) fun _ _ _ _ _ _ => us2 fun _ _ => rfl) fun cdv A outer s H E hr =>
    (Az0B (s_own 2 sc__law_made.nd (f_lst a_nil))
    (Az0B (s_own 3 sc__law_made.nd (f_lst a_nil))
    (Az0B (s_for PassesOwn.never rfl (i_enum T.n_enumerate (a_cons (x_new (f_cat (p_of (x_new (f_lst (a_cons x_int a_nil)))) (p_of (x_new (f_slL (p_var 0) (o_some x_int) (o_some x_int)))))) a_nil)) (g_tup rfl (g_cons (g_name 4 sc__law_made.nd) (g_cons (g_name 5 sc__law_made.nd) g_nil))) (Az0B (s_set 5 sc__law_made.nd (x_add (p_of (x_mod (p_var 5) (p_of (x_pow (p_of x_int) (p_of x_int))))) (p_of (x_mulE (p_of x_int) (p_var 4)))))
    (ss_one (s_if (y_w (w_or (y_cmp (c_eq (hu40 hr)) (p_var 2) (p_of (x_new (f_lst a_nil)))) (w_or1 (y_w (w_and (y_cmp (c_eq (hu40 hr)) (p_of (x_mod (p_var 5) (p_of x_int))) (p_of x_int)) (w_and1 (y_cmp c_lt (p_of (x_len T.n_len (p_var 2))) (p_of x_int)))))))) (ss_one (Az3N 2 (x_call (F__law_barrel.mono (by decide)) hr (a_cons (x_fdiv (p_var 5) (p_of x_int)) (a_cons (x_var 1) a_nil))))) (ss_one (s_if (y_cmp c_lt (p_of (x_len T.n_len (p_var 3))) (p_of x_int)) (ss_one (Az3N 3 (x_call (F__law_cuts.mono (by decide)) hr (a_cons (x_fdiv (p_var 5) (p_of x_int)) (a_cons (x_var 1) (a_cons (x_ix (p_var 2) (p_of (x_mod (p_of (x_fdiv (p_var 5) (p_of x_int))) (p_of (x_len T.n_len (p_var 2)))))) a_nil)))))) ss_nil))))))
    (ss_one (s_frzL 3 (s_frzL 2 (s_ret (x_tup (a_cons (x_var 2) (a_cons (x_var 3) a_nil))))))))))
theorem sc__law_name : FnScope ["_law_script", "_law_k", "_law_some", "_law_pad"] ["_law_script", "_law_k"] (Az0A Az2B) := ⟨rfl, rfl, rfl, by decide +kernel, rfl, by decide +kernel, by decide +kernel⟩
theorem Az9A {f : Addr} {fd : FuncData} (F : Fun K "_law_name" "_law_name" Az2B f fd) (hm : mg "_law_name" = some (.ref f)) (T : Txt K mg) (F__law_cell : Fn P w K mg base 1 "_law_cell" 2 Az0O) : Fn P w K mg base 2 "_law_name" 2 Az0Q :=
  fn_def (k := 1) F sc__law_name hm (F.binds (ps := ["_law_script", "_law_k"]) fun _ _ _ _ _ _ => us2 fun _ _ => rfl) fun cdv A outer s H E hr =>
    (Az0B (s_set 2 sc__law_name.nd x_str)
    (Az0B (s_set 3 sc__law_name.nd (x_call (F__law_cell.mono (by decide)) hr (a_cons (x_var 0) (a_cons x_int a_nil))))
    (ss_one (s_ret (x_add (p_of (x_add (p_of (x_add (p_of (x_mulZ (p_of x_str) (p_of (x_mod (p_var 3) (p_of x_int))))) (p_of (x_ix (p_var 2) (p_of (x_mod (p_var 1) (p_of x_int))))))) (p_of (x_ix (p_var 2) (p_of (x_mod (p_of (x_fdiv (p_var 1) (p_of x_int))) (p_of x_int))))))) (p_of (x_mulZ (p_of x_str) (p_of (x_mod (p_of (x_fdiv (p_var 3) (p_of x_int))) (p_of x_int))))))))))
theorem sc__law_opens : FnScope ["_law_barrel_here", "_law_cuts_here", "_law_place", "_law_cut"] ["_law_barrel_here", "_law_cuts_here"] (Az0A Az1O) := ⟨rfl, rfl, rfl, by decide +kernel, rfl, by decide +kernel, by decide +kernel⟩
theorem Az7Z {f : Addr} {fd : FuncData} (F : Fun K "_law_opens" "_law_opens" Az1O f fd) (hm : mg "_law_opens" = some (.ref f)) (T : Txt K mg)  : Fn P w K mg base 1 "_law_opens" 2 Az0X :=
  fn_def (k := 0) F sc__law_opens hm (F.binds (ps := ["_law_barrel_here", "_law_cuts_here"]) fun _ _ _ _ _ _ => us2 fun _ _ => rfl) fun cdv A outer s H E hr =>
    (Az0B (s_for PassesOwn.never rfl (i_enum T.n_enumerate (a_cons (x_var 1) a_nil)) (g_tup rfl (g_cons (g_name 2 sc__law_opens.nd) (g_cons (g_name 3 sc__law_opens.nd) g_nil))) (ss_one (s_if (y_nin (p_var 3) (p_of (x_ix (p_var 0) (p_var 2)))) (ss_one (s_ret x_bl)) ss_nil)))
    (ss_one (s_ret x_bl)))
theorem sc__law_within : FnScope ["_law_found", "_law_barrel_here", "_law_place", "_law_pin_here", "_law_height"] ["_law_found", "_law_barrel_here"] (Az0A Az0Z) := ⟨rfl, rfl, rfl, by decide +kernel, rfl, by decide +kernel, by decide +kernel⟩
theorem Az7B {f : Addr} {fd : FuncData} (F : Fun K "_law_within" "_law_within" Az0Z f fd) (hm : mg "_law_within" = some (.ref f)) (T : Txt K mg)  : Fn P w K mg base 1 "_law_within" 2 Az1B :=
  fn_def (k := 0) F sc__law_within hm (F.binds (ps := ["_law_found", "_law_barrel_here"]) fun _ _ _ _ _ _ => us2 fun _ _ => rfl) fun cdv A outer s H E hr =>
    (Az0B (s_for PassesOwn.never rfl (i_enum T.n_enumerate (a_cons (x_var 1) a_nil)) (g_tup rfl (g_cons (g_name 2 sc__law_within.nd) (g_cons (g_name 3 sc__law_within.nd) g_nil))) (ss_one (s_for PassesOwn.never rfl (i_seq (x_ix (p_var 0) (p_var 2))) (g_name 4 sc__law_within.nd) (ss_one (s_if (y_nin (p_var 4) (p_var 3)) (ss_one (s_ret x_bl)) ss_nil)))))
    (ss_one (s_ret x_bl)))
theorem Az7P : FnScope ["rules"] ["rules"] (Az0A Az1K) := ⟨rfl, rfl, rfl, by decide +kernel, rfl, by decide +kernel, by decide +kernel⟩
theorem Az7V {f : Addr} {fd : FuncData} (F : Fun K "heights_of" "heights_of" Az1K f fd) (hm : mg "heights_of" = some (.ref f)) (T : Txt K mg)  : Fn P w K mg base 1 "heights_of" 1 Az1Q :=
  fn_def (k := 0) F Az7P hm (F.binds (ps := ["rules"]) fun _ _ _ _ _ _ => us1 fun _ => rfl) fun cdv A outer s H E hr =>
    (ss_one (s_ret (x_ix (p_var 0) (p_of x_int))))
theorem Az8V : FnScope ["rules"] ["rules"] (Az0A Az2A) := ⟨rfl, rfl, rfl, by decide +kernel, rfl, by decide +kernel, by decide +kernel⟩
theorem Az8Z {f : Addr} {fd : FuncData} (F : Fun K "places_of" "places_of" Az2A f fd) (hm : mg "places_of" = some (.ref f)) (T : Txt K mg)  : Fn P w K mg base 1 "places_of" 1 Az2F :=
  fn_def (k := 0) F Az8V hm (F.binds (ps := ["rules"]) fun _ _ _ _ _ _ => us1 fun _ => rfl) fun cdv A outer s H E hr =>
    (ss_one (s_ret (x_ix (p_var 0) (p_of x_int))))
theorem sc_least_of : FnScope ["rules", "some", "barrel", "place", "pin"] ["rules", "some"] (Az0A Az2S) := ⟨rfl, rfl, rfl, by decide +kernel, rfl, by decide +kernel, by decide +kernel⟩
theorem Bz1F {f : Addr} {fd : FuncData} (F : Fun K "least_of" "least_of" Az2S f fd) (hm : mg "least_of" = some (.ref f)) (T : Txt K mg) (F_heights_of : Fn P w K mg base 1 "heights_of" 1 Az1Q) (F_places_of : Fn P w K mg base 1 "places_of" 1 Az2F) : Fn P w K mg base 2 "least_of" 2 Az3A :=
  fn_def (k := 1) F sc_least_of hm (F.binds (ps := ["rules", "some"]) fun _ _ _ _ _ _ => us2 fun _ _ => rfl) fun cdv A outer s H E hr =>
    (Az0B (s_own 2 sc_least_of.nd (f_lst a_nil))
    (Az0B (s_for PassesOwn.never rfl (Az5B T.n_range (a_cons (x_call (F_places_of.mono (by decide)) hr (a_cons (x_var 0) a_nil)) a_nil)) (g_name 3 sc_least_of.nd) (Az0B (s_set 4 sc_least_of.nd (Az7K T.n_tuple (p_of (x_new (Bz0J rfl T.n_sorted T.n_set (p_of (x_new (f_comp ["one"] ["rules", "some", "barrel", "place", "pin"] (by walk_at "compok") rfl (i_seq (x_var 1)) (fun C fp pins s H => ⟨(g_name 0 (show List.Nodup (["one", "rules", "some", "barrel", "place", "pin"] : List Str) by decide +kernel)), t_nil, (x_ix (p_var 0) (p_var 4))⟩)))))))))
    (Az0B (s_if (y_cmp c_gt (p_of (x_len T.n_len (p_var 4))) (p_of (x_call (F_heights_of.mono (by decide)) hr (a_cons (x_var 0) a_nil)))) (ss_one s_no) ss_nil)
    (ss_one (Az3N 2 (x_var 4))))))
    (ss_one (s_ret (Az7K T.n_tuple (p_var 2))))))
theorem sc_barrel_for : FnScope ["rules", "door", "some", "refusal"] ["rules", "door", "some"] (Az0A Az1N) := ⟨rfl, rfl, rfl, by decide +kernel, rfl, by decide +kernel, by decide +kernel⟩
theorem Az7Y {f : Addr} {fd : FuncData} (F : Fun K "barrel_for" "barrel_for" Az1N f fd) (hm : mg "barrel_for" = some (.ref f)) (T : Txt K mg) (F_least_of : Fn P w K mg base 2 "least_of" 2 Az3A) : Fn P w K mg base 3 "barrel_for" 3 Az0T :=
  fn_def (k := 2) F sc_barrel_for hm (F.binds (ps := ["rules", "door", "some"]) fun _ _ _ _ _ _ => us3 fun _ _ _ => rfl) fun cdv A outer s H E hr =>
    (Az0B (s_if (y_cmp (c_eq (hu40 hr)) (p_of (x_len T.n_len (p_var 2))) (p_of x_int)) (ss_one (s_ret x_non)) ss_nil)
    (ss_one (Cz0F 3 [] (F_least_of.toX.mono (by decide)) (List.forall_mem_nil _) sc_barrel_for.nd hr (a_cons (x_var 0) (a_cons (x_var 2) a_nil)) kd_ret ss_nil (fun _ => (ss_one s_no)))))
theorem sc_barrels_in : FnScope ["rules", "held", "plan", "barrels", "door", "names"] ["rules", "held", "plan"] (Az0A Az1M) := ⟨rfl, rfl, rfl, by decide +kernel, rfl, by decide +kernel, by decide +kernel⟩
theorem Az7X {f : Addr} {fd : FuncData} (F : Fun K "barrels_in" "barrels_in" Az1M f fd) (hm : mg "barrels_in" = some (.ref f)) (T : Txt K mg) (F_barrel_for : Fn P w K mg base 3 "barrel_for" 3 Az0T) : Fn P w K mg base 4 "barrels_in" 3 Az0W :=
  fn_def (k := 3) F sc_barrels_in hm (F.binds (ps := ["rules", "held", "plan"]) fun _ _ _ _ _ _ => us3 fun _ _ _ => rfl) fun cdv A outer s H E hr =>
    (Az0B (s_ownQ 3 sc_barrels_in.nd)
    (Az0B (s_for PassesOwn.never rfl (Bz3P (x_var 1)) (g_tup rfl (g_cons (g_name 4 sc_barrels_in.nd) (g_cons (g_name 5 sc_barrels_in.nd) g_nil))) (ss_one (s_puti 3 (x_call (F_barrel_for.mono (by decide)) hr (a_cons (x_var 0) (a_cons (x_var 4) (a_cons (x_new (f_comp ["name"] ["rules", "held", "plan", "barrels", "door", "names"] (by walk_at "compok") rfl (i_seq (x_var 5)) (fun C fp pins s H => ⟨(g_name 0 (show List.Nodup (["name", "rules", "held", "plan", "barrels", "door", "names"] : List Str) by decide +kernel)), (t_one (y_inQ (p_var 0) (q_var 3))), (x_dget (q_var 3) (p_var 0))⟩))) a_nil)))) (x_var 4))))
    (ss_one (s_frz 3 (s_retV 3)))))
theorem sc_doors_of : FnScope ["house", "name", "members", "reached", "waiting", "thing"] ["house", "name"] (Az0A Az2V) := ⟨rfl, rfl, rfl, by decide +kernel, rfl, by decide +kernel, by decide +kernel⟩
theorem Bz1I {f : Addr} {fd : FuncData} (F : Fun K "doors_of" "doors_of" Az2V f fd) (hm : mg "doors_of" = some (.ref f)) (T : Txt K mg)  : Fn P w K mg base 1 "doors_of" 2 Az3D :=
  fn_def (k := 0) F sc_doors_of hm (F.binds (ps := ["house", "name"]) fun _ _ _ _ _ _ => us2 fun _ _ => rfl) fun cdv A outer s H E hr =>
    (Az0B (s_set 2 sc_doors_of.nd (Bz1X rfl T.n_dict (p_of (x_new (f_cat (p_of (x_fld T.o_House_wings (x_var 0))) (p_of (x_fld T.o_House_grants (x_var 0))))))))
    (Az0B (s_ownQ 3 sc_doors_of.nd)
    (Az0B (s_own 4 sc_doors_of.nd (f_lst (a_cons (x_var 1) a_nil)))
    (Az0B (Cz0E 100000 PassesOwn.never (y_cmp c_gt (p_of (x_len T.n_len (p_var 4))) (p_of x_int)) (Az0B (s_popV 5 4 sc_doors_of.nd)
    (ss_one (s_if (y_ninQ (p_var 5) (q_var 3)) (Az0B (s_puti 3 x_bl (x_var 5))
    (ss_one (s_extD 4 (x_getL (q_var 2) (a_cons (x_var 5) (a_cons (x_new (f_lst a_nil)) a_nil)))))) ss_nil))))
    (ss_one (s_frz 3 (s_ret (x_new (f_comp ["door"] ["house", "name", "members", "reached", "waiting", "thing"] (by walk_at "compok") rfl (i_seq (x_fld T.o_House_doors (x_var 0))) (fun C fp pins s H => ⟨(g_name 0 (show List.Nodup (["door", "house", "name", "members", "reached", "waiting", "thing"] : List Str) by decide +kernel)), (t_one (y_inQ (p_var 0) (q_var 4))), (x_var 0)⟩))))))))))
theorem Bz1B : FnScope ["things"] ["things"] (Az0A Az2R) := ⟨rfl, rfl, rfl, by decide +kernel, rfl, by decide +kernel, by decide +kernel⟩
theorem Bz1E {f : Addr} {fd : FuncData} (F : Fun K "names_of" "names_of" Az2R f fd) (hm : mg "names_of" = some (.ref f)) (T : Txt K mg)  : Fn P w K mg base 1 "names_of" 1 Az1E :=
  fn_def (k := 0) F Bz1B hm (F.binds (ps := ["things"]) fun _ _ _ _ _ _ => us1 fun _ => rfl) fun cdv A outer s H E hr =>
    (ss_one (s_ret (x_new (f_comp ["name", "names"] ["things"] (by walk_at "compok") rfl (i_seq (x_var 0)) (fun C fp pins s H => ⟨(g_tup rfl (g_cons (g_name 0 (show List.Nodup (["name", "names", "things"] : List Str) by decide +kernel)) (g_cons (g_name 1 (show List.Nodup (["name", "names", "things"] : List Str) by decide +kernel)) g_nil))), t_nil, (x_var 0)⟩)))))
theorem Bz0Z : FnScope ["house"] ["house"] (Az0A Az2P) := ⟨rfl, rfl, rfl, by decide +kernel, rfl, by decide +kernel, by decide +kernel⟩
theorem Bz1C {f : Addr} {fd : FuncData} (F : Fun K "spans_of" "spans_of" Az2P f fd) (hm : mg "spans_of" = some (.ref f)) (T : Txt K mg) (F_doors_of : Fn P w K mg base 1 "doors_of" 2 Az3D) (F_names_of : Fn P w K mg base 1 "names_of" 1 Az1E) : Fn P w K mg base 2 "spans_of" 1 Az2Z :=
  fn_def (k := 1) F Bz0Z hm (F.binds (ps := ["house"]) fun _ _ _ _ _ _ => us1 fun _ => rfl) fun cdv A outer s H E hr =>
    (ss_one (s_ret (Bz1X rfl T.n_dict (p_of (x_new (f_comp ["name"] ["house"] (by walk_at "compok") rfl (i_seq (x_call (F_names_of.mono (by decide)) hr (a_cons (x_fld T.o_House_grants (x_var 0)) a_nil))) (fun C fp pins s H => ⟨(g_name 0 (show List.Nodup (["name", "house"] : List Str) by decide +kernel)), t_nil, (x_tup (a_cons (x_var 0) (a_cons (x_call (F_doors_of.mono (by decide)) hr (a_cons (x_var 1) (a_cons (x_var 0) a_nil))) a_nil)))⟩)))))))
theorem sc_held_by : FnScope ["house", "spans"] ["house"] (Az0A Az3S) := ⟨rfl, rfl, rfl, by decide +kernel, rfl, by decide +kernel, by decide +kernel⟩
theorem Bz2V {f : Addr} {fd : FuncData} (F : Fun K "held_by" "held_by" Az3S f fd) (hm : mg "held_by" = some (.ref f)) (T : Txt K mg) (F_spans_of : Fn P w K mg base 2 "spans_of" 1 Az2Z) : Fn P w K mg base 3 "held_by" 1 Az2K :=
  fn_def (k := 2) F sc_held_by hm (F.binds (ps := ["house"]) fun _ _ _ _ _ _ => us1 fun _ => rfl) fun cdv A outer s H E hr =>
    (Az0B (s_set 1 sc_held_by.nd (x_call (F_spans_of.mono (by decide)) hr (a_cons (x_var 0) a_nil)))
    (ss_one (s_ret (Bz1X rfl T.n_dict (p_of (x_new (f_comp ["door"] ["house", "spans"] (by walk_at "compok") rfl (i_seq (x_fld T.o_House_doors (x_var 0))) (fun C fp pins s H => ⟨(g_name 0 (show List.Nodup (["door", "house", "spans"] : List Str) by decide +kernel)), t_nil, (x_tup (a_cons (x_var 0) (a_cons (x_new (f_comp ["name", "doors"] ["door", "house", "spans"] (by walk_at "compok") rfl (Bz3P (x_var 2)) (fun C fp pins s H => ⟨(g_tup rfl (g_cons (g_name 0 (show List.Nodup (["name", "doors", "door", "house", "spans"] : List Str) by decide +kernel)) (g_cons (g_name 1 (show List.Nodup (["name", "doors", "door", "house", "spans"] : List Str) by decide +kernel)) g_nil))), (t_one (y_in (p_var 2) (p_var 1))), (x_var 0)⟩))) a_nil)))⟩))))))))
theorem Az7Q : FnScope ["house", "plan"] ["house", "plan"] (Az0A Az1L) := ⟨rfl, rfl, rfl, by decide +kernel, rfl, by decide +kernel, by decide +kernel⟩
theorem Az7W {f : Addr} {fd : FuncData} (F : Fun K "barrels_of" "barrels_of" Az1L f fd) (hm : mg "barrels_of" = some (.ref f)) (T : Txt K mg) (F_barrels_in : Fn P w K mg base 4 "barrels_in" 3 Az0W) (F_held_by : Fn P w K mg base 3 "held_by" 1 Az2K) : Fn P w K mg base 5 "barrels_of" 2 Az1R :=
  fn_def (k := 4) F Az7Q hm (F.binds (ps := ["house", "plan"]) fun _ _ _ _ _ _ => us2 fun _ _ => rfl) fun cdv A outer s H E hr =>
    (ss_one (s_ret (x_call (F_barrels_in.mono (by decide)) hr (a_cons (x_fld T.o_House_rules (x_var 0)) (a_cons (x_call (F_held_by.mono (by decide)) hr (a_cons (x_var 0) a_nil)) (a_cons (x_var 1) a_nil))))))
theorem sc_cross_of : FnScope ["some", "one", "cross", "place", "cut", "alike"] ["some", "one"] (Az0A Az2W) := ⟨rfl, rfl, rfl, by decide +kernel, rfl, by decide +kernel, by decide +kernel⟩
theorem Bz1J {f : Addr} {fd : FuncData} (F : Fun K "cross_of" "cross_of" Az2W f fd) (hm : mg "cross_of" = some (.ref f)) (T : Txt K mg)  : Fn P w K mg base 1 "cross_of" 2 Az4M :=
  fn_def (k := 0) F sc_cross_of hm (F.binds (ps := ["some", "one"]) fun _ _ _ _ _ _ => us2 fun _ _ => rfl) fun cdv A outer s H E hr =>
    (Az0B (s_own 2 sc_cross_of.nd (f_lst a_nil))
    (Az0B (s_for PassesOwn.never rfl (i_enum T.n_enumerate (a_cons (x_var 1) a_nil)) (g_tup rfl (g_cons (g_name 3 sc_cross_of.nd) (g_cons (g_name 4 sc_cross_of.nd) g_nil))) (Az0B (by refine s_ownC 5 sc_cross_of.nd ["number", "other"] ["some", "one", "cross", "place", "cut", "alike"] (by walk_at "compok") rfl (i_enum T.n_enumerate (a_cons (x_var 0) a_nil))  ?_; exact (fun C fp pins s H => ⟨(g_tup rfl (g_cons (g_name 0 (show List.Nodup (["number", "other", "some", "one", "cross", "place", "cut", "alike"] : List Str) by decide +kernel)) (g_cons (g_name 1 (show List.Nodup (["number", "other", "some", "one", "cross", "place", "cut", "alike"] : List Str) by decide +kernel)) g_nil))), (t_one (y_cmp (c_eq (hu40 hr)) (p_of (x_ix (p_var 1) (p_var 5))) (p_var 6))), (x_var 0)⟩))
    (Az0B (s_if (y_cmp (c_eq (hu40 hr)) (p_of (x_len T.n_len (p_var 5))) (p_of x_int)) (ss_one (s_ret x_non)) ss_nil)
    (ss_one (Az3N 2 (x_ix (p_var 5) (p_of x_int)))))))
    (ss_one (s_retV 2))))
theorem sc_named_cross : FnScope ["names", "key", "plan", "cross"] ["names", "key", "plan"] (Az0A Az0Y) := ⟨rfl, rfl, rfl, by decide +kernel, rfl, by decide +kernel, by decide +kernel⟩
theorem Az7A {f : Addr} {fd : FuncData} (F : Fun K "named_cross" "named_cross" Az0Y f fd) (hm : mg "named_cross" = some (.ref f)) (T : Txt K mg) (F_cross_of : Fn P w K mg base 1 "cross_of" 2 Az4M) : Fn P w K mg base 2 "named_cross" 3 Az2J :=
  fn_def (k := 1) F sc_named_cross hm (F.binds (ps := ["names", "key", "plan"]) fun _ _ _ _ _ _ => us3 fun _ _ _ => rfl) fun cdv A outer s H E hr =>
    (Az0B (s_set 3 sc_named_cross.nd (x_call (F_cross_of.mono (by decide)) hr (a_cons (x_new (f_comp ["name"] ["names", "key", "plan", "cross"] (by walk_at "compok") rfl (i_seq (x_var 0)) (fun C fp pins s H => ⟨(g_name 0 (show List.Nodup (["name", "names", "key", "plan", "cross"] : List Str) by decide +kernel)), t_nil, (x_dget (q_var 3) (p_var 0))⟩))) (a_cons (x_dget (q_var 2) (p_var 1)) a_nil))))
    (ss_one (s_ret (x_new (f_comp ["number"] ["names", "key", "plan", "cross"] (by walk_at "compok") rfl (i_seq (x_var 3)) (fun C fp pins s H => ⟨(g_name 0 (show List.Nodup (["number", "names", "key", "plan", "cross"] : List Str) by decide +kernel)), t_nil, (x_ix (p_var 1) (p_var 0))⟩))))))
theorem sc_stopped_at : FnScope ["barrel", "one", "place", "pin"] ["barrel", "one"] (Az0A Az1I) := ⟨rfl, rfl, rfl, by decide +kernel, rfl, by decide +kernel, by decide +kernel⟩
theorem Az7T {f : Addr} {fd : FuncData} (F : Fun K "stopped_at" "stopped_at" Az1I f fd) (hm : mg "stopped_at" = some (.ref f)) (T : Txt K mg)  : Fn P w K mg base 1 "stopped_at" 2 Az0V :=
  fn_def (k := 0) F sc_stopped_at hm (F.binds (ps := ["barrel", "one"]) fun _ _ _ _ _ _ => us2 fun _ _ => rfl) fun cdv A outer s H E hr =>
    (Az0B (s_for PassesOwn.never rfl (i_enum T.n_enumerate (a_cons (x_var 0) a_nil)) (g_tup rfl (g_cons (g_name 2 sc_stopped_at.nd) (g_cons (g_name 3 sc_stopped_at.nd) g_nil))) (ss_one (s_if (y_nin (p_of (x_ix (p_var 1) (p_var 2))) (p_var 3)) (ss_one (s_ret (x_var 2))) ss_nil)))
    (ss_one (s_ret x_non)))
theorem Bz1A : FnScope ["barrel", "one"] ["barrel", "one"] (Az0A Az2Q) := ⟨rfl, rfl, rfl, by decide +kernel, rfl, by decide +kernel, by decide +kernel⟩
theorem Bz1D {f : Addr} {fd : FuncData} (F : Fun K "opens_at" "opens_at" Az2Q f fd) (hm : mg "opens_at" = some (.ref f)) (T : Txt K mg) (F_stopped_at : Fn P w K mg base 1 "stopped_at" 2 Az0V) : Fn P w K mg base 2 "opens_at" 2 Az2I :=
  fn_def (k := 1) F Bz1A hm (F.binds (ps := ["barrel", "one"]) fun _ _ _ _ _ _ => us2 fun _ _ => rfl) fun cdv A outer s H E hr =>
    (ss_one (s_ret (x_isN (p_of (x_call (F_stopped_at.mono (by decide)) hr (a_cons (x_var 0) (a_cons (x_var 1) a_nil)))))))
theorem sc_fault_in : FnScope ["held", "barrels", "keys", "plan", "door", "barrel", "key"] ["held", "barrels", "keys", "plan"] (Az0A Az2U) := ⟨rfl, rfl, rfl, by decide +kernel, rfl, by decide +kernel, by decide +kernel⟩
theorem Bz1H {f : Addr} {fd : FuncData} (F : Fun K "fault_in" "fault_in" Az2U f fd) (hm : mg "fault_in" = some (.ref f)) (T : Txt K mg) (F_named_cross : Fn P w K mg base 2 "named_cross" 3 Az2J) (F_opens_at : Fn P w K mg base 2 "opens_at" 2 Az2I) : Fn P w K mg base 3 "fault_in" 4 Az3C :=
  fn_def (k := 2) F sc_fault_in hm (F.binds (ps := ["held", "barrels", "keys", "plan"]) fun _ _ _ _ _ _ => us4 fun _ _ _ _ => rfl) fun cdv A outer s H E hr =>
    (Az0B (s_for PassesOwn.never rfl (Bz3P (x_var 1)) (g_tup rfl (g_cons (g_name 4 sc_fault_in.nd) (g_cons (g_name 5 sc_fault_in.nd) g_nil))) (ss_one (s_for PassesOwn.never rfl (i_seq (x_var 2)) (g_name 6 sc_fault_in.nd) (ss_one (s_if (y_w (w_and (y_notN (p_var 5)) (w_and (y_nin (p_var 6) (p_of (x_dget (q_var 0) (p_var 4)))) (w_and1 (y_val (x_call (F_opens_at.mono (by decide)) hr (a_cons (x_var 5) (a_cons (x_dget (q_var 3) (p_var 6)) a_nil)))))))) (ss_one (s_ret (x_tup (a_cons (x_var 4) (a_cons (x_var 6) (a_cons (x_call (F_named_cross.mono (by decide)) hr (a_cons (x_new (f_comp ["name"] ["held", "barrels", "keys", "plan", "door", "barrel", "key"] (by walk_at "compok") rfl (i_seq (x_dget (q_var 0) (p_var 4))) (fun C fp pins s H => ⟨(g_name 0 (show List.Nodup (["name", "held", "barrels", "keys", "plan", "door", "barrel", "key"] : List Str) by decide +kernel)), (t_one (y_inQ (p_var 0) (q_var 4))), (x_var 0)⟩))) (a_cons (x_var 6) (a_cons (x_var 3) a_nil)))) a_nil)))))) ss_nil)))))
    (ss_one (s_ret x_non)))
theorem Az7O : FnScope ["house", "plan"] ["house", "plan"] (Az0A Az1J) := ⟨rfl, rfl, rfl, by decide +kernel, rfl, by decide +kernel, by decide +kernel⟩
theorem Az7U {f : Addr} {fd : FuncData} (F : Fun K "known_keys" "known_keys" Az1J f fd) (hm : mg "known_keys" = some (.ref f)) (T : Txt K mg) (F_names_of : Fn P w K mg base 1 "names_of" 1 Az1E) : Fn P w K mg base 2 "known_keys" 2 Az1P :=
  fn_def (k := 1) F Az7O hm (F.binds (ps := ["house", "plan"]) fun _ _ _ _ _ _ => us2 fun _ _ => rfl) fun cdv A outer s H E hr =>
    (ss_one (s_ret (x_new (f_comp ["name"] ["house", "plan"] (by walk_at "compok") rfl (i_seq (x_call (F_names_of.mono (by decide)) hr (a_cons (x_fld T.o_House_grants (x_var 0)) a_nil))) (fun C fp pins s H => ⟨(g_name 0 (show List.Nodup (["name", "house", "plan"] : List Str) by decide +kernel)), (t_one (y_inQ (p_var 0) (q_var 2))), (x_var 0)⟩)))))
theorem sc_fault_of : FnScope ["house", "plan", "held"] ["house", "plan"] (Az0A Az2T) := ⟨rfl, rfl, rfl, by decide +kernel, rfl, by decide +kernel, by decide +kernel⟩
theorem Bz1G {f : Addr} {fd : FuncData} (F : Fun K "fault_of" "fault_of" Az2T f fd) (hm : mg "fault_of" = some (.ref f)) (T : Txt K mg) (F_barrels_in : Fn P w K mg base 4 "barrels_in" 3 Az0W) (F_fault_in : Fn P w K mg base 3 "fault_in" 4 Az3C) (F_held_by : Fn P w K mg base 3 "held_by" 1 Az2K) (F_known_keys : Fn P w K mg base 2 "known_keys" 2 Az1P) : Fn P w K mg base 5 "fault_of" 2 Az3B :=
  fn_def (k := 4) F sc_fault_of hm (F.binds (ps := ["house", "plan"]) fun _ _ _ _ _ _ => us2 fun _ _ => rfl) fun cdv A outer s H E hr =>
    (Az0B (s_set 2 sc_fault_of.nd (x_call (F_held_by.mono (by decide)) hr (a_cons (x_var 0) a_nil)))
    (ss_one (s_ret (x_call (F_fault_in.mono (by decide)) hr (a_cons (x_var 2) (a_cons (x_call (F_barrels_in.mono (by decide)) hr (a_cons (x_fld T.o_House_rules (x_var 0)) (a_cons (x_var 2) (a_cons (x_var 1) a_nil)))) (a_cons (x_call (F_known_keys.mono (by decide)) hr (a_cons (x_var 0) (a_cons (x_var 1) a_nil))) (a_cons (x_var 1) a_nil))))))))
theorem sc_law : FnScope ["_law_script", "_law_depths", "_law_step", "_law_rules", "_law_drawn", "_law_some", "_law_doors", "_law_grants", "_law_plan", "_law_k", "_law_cuts_here", "_law_own", "_law_house", "_law_built", "_law_j", "_law_door"] ["_law_script"] (Az0A s_law) := ⟨rfl, rfl, rfl, by decide +kernel, rfl, by decide +kernel, by decide +kernel⟩
theorem ok_law {f : Addr} {fd : FuncData} (F : Fun K "law" "law" s_law f fd) (T : Txt K mg) (F_House : FnI P w K mg base 3 "House" 4 4 Az4E) (F__law_cell : Fn P w K mg base 1 "_law_cell" 2 Az0O) (F__law_made : Fn P w K mg base 3 "_law_made" 2 Az2G) (F__law_name : Fn P w K mg base 2 "_law_name" 2 Az0Q) (F__law_opens : Fn P w K mg base 1 "_law_opens" 2 Az0X) (F__law_within : Fn P w K mg base 1 "_law_within" 2 Az1B) (F_barrels_of : Fn P w K mg base 5 "barrels_of" 2 Az1R) (F_fault_of : Fn P w K mg base 5 "fault_of" 2 Az3B) : FnOk P w K mg base CX0 6 f fd ["_law_script"] (spD K 1 m_law) :=
  fn_law (k := 5) F sc_law fun cdv A outer s H E hr =>
    (Az0B (s_set 1 sc_law.nd (x_add (p_of x_int) (p_of (x_mod (p_of (x_call (F__law_cell.mono (by decide)) hr (a_cons (x_var 0) (a_cons x_int a_nil)))) (p_of x_int)))))
    (Az0B (s_set 2 sc_law.nd (x_add (p_of x_int) (p_of (x_mod (p_of (x_call (F__law_cell.mono (by decide)) hr (a_cons (x_var 0) (a_cons x_int a_nil)))) (p_of (x_sub (p_var 1) (p_of x_int)))))))
    (Az0B (s_set 3 sc_law.nd (x_tup (a_cons (x_add (p_of x_int) (p_of (x_mod (p_of (x_call (F__law_cell.mono (by decide)) hr (a_cons (x_var 0) (a_cons x_int a_nil)))) (p_of x_int)))) (a_cons (x_var 1) (a_cons (x_add (p_of x_int) (p_of (x_mod (p_of (x_call (F__law_cell.mono (by decide)) hr (a_cons (x_var 0) (a_cons x_int a_nil)))) (p_var 1)))) (a_cons (x_var 2) a_nil))))))
    (Az0B (s_asg (x_call (F__law_made.mono (by decide)) hr (a_cons (x_var 0) (a_cons (x_var 3) a_nil))) (g_tup rfl (g_cons (g_name 4 sc_law.nd) (g_cons (g_name 5 sc_law.nd) g_nil))))
    (Az0B (by refine s_ownC 6 sc_law.nd ["_law_k"] ["_law_script", "_law_depths", "_law_step", "_law_rules", "_law_drawn", "_law_some", "_law_doors", "_law_grants", "_law_plan", "?", "_law_cuts_here", "_law_own", "_law_house", "_law_built", "_law_j", "_law_door"] (by walk_at "compok") rfl (Az5B T.n_range (a_cons (x_len T.n_len (p_var 4)) a_nil))  ?_; exact (fun C fp pins s H => ⟨(g_name 0 (show List.Nodup (["_law_k", "_law_script", "_law_depths", "_law_step", "_law_rules", "_law_drawn", "_law_some", "_law_doors", "_law_grants", "_law_plan", "?", "_law_cuts_here", "_law_own", "_law_house", "_law_built", "_law_j", "_law_door"] : List Str) by decide +kernel)), t_nil, (x_call (F__law_name.mono (by decide)) hr (a_cons (x_var 1) (a_cons (x_var 0) a_nil)))⟩))
    (Az0B (s_own 7 sc_law.nd (f_lst a_nil))
    (Az0B (s_ownQ 8 sc_law.nd)
    (Az0B (s_for PassesOwn.never rfl (i_enum T.n_enumerate (a_cons (x_var 5) a_nil)) (g_tup rfl (g_cons (g_name 9 sc_law.nd) (g_cons (g_name 10 sc_law.nd) g_nil))) (Az0B (s_frzL 6 (by refine s_ownC 11 sc_law.nd ["_law_j", "_law_door"] ["_law_script", "_law_depths", "_law_step", "_law_rules", "_law_drawn", "_law_some", "_law_doors", "_law_grants", "_law_plan", "_law_k", "_law_cuts_here", "_law_own", "_law_house", "_law_built", "?14", "?15"] (by walk_at "compok") rfl (i_enum T.n_enumerate (a_cons (x_var 6) a_nil))  ?_; exact (fun C fp pins s H => ⟨(g_tup rfl (g_cons (g_name 0 (show List.Nodup (["_law_j", "_law_door", "_law_script", "_law_depths", "_law_step", "_law_rules", "_law_drawn", "_law_some", "_law_doors", "_law_grants", "_law_plan", "_law_k", "_law_cuts_here", "_law_own", "_law_house", "_law_built", "?14", "?15"] : List Str) by decide +kernel)) (g_cons (g_name 1 (show List.Nodup (["_law_j", "_law_door", "_law_script", "_law_depths", "_law_step", "_law_rules", "_law_drawn", "_law_some", "_law_doors", "_law_grants", "_law_plan", "_law_k", "_law_cuts_here", "_law_own", "_law_house", "_law_built", "?14", "?15"] : List Str) by decide +kernel)) g_nil))), (t_one (y_val (x_call (F__law_opens.mono (by decide)) hr (a_cons (x_ix (p_var 6) (p_var 0)) (a_cons (x_var 12) a_nil))))), (x_var 1)⟩)))
    (ss_one (s_if (y_cmp (c_ne (hu40 hr)) (p_var 11) (p_of (x_new (f_lst a_nil)))) (Az0B (s_frzL 11 (Az3N 7 (x_tup (a_cons (x_call (F__law_name.mono (by decide)) hr (a_cons (x_var 0) (a_cons (x_add (p_of x_int) (p_var 9)) a_nil))) (a_cons (x_var 11) a_nil)))))
    (ss_one (s_puti 8 (x_var 10) (x_call (F__law_name.mono (by decide)) hr (a_cons (x_var 0) (a_cons (x_add (p_of x_int) (p_var 9)) a_nil)))))) ss_nil))))
    (Az0B (s_set 12 sc_law.nd (x_make (F_House.mono (by decide)) hr (a_cons (x_var 3) (a_cons (x_new (Az7H T.n_list (p_var 6))) (a_cons (x_new (f_lst a_nil)) (a_cons (x_new (Az7H T.n_list (p_var 7))) a_nil))))))
    (Az0B (s_frz 8 (s_if (y_notN (p_of (x_call (F_fault_of.mono (by decide)) hr (a_cons (x_var 12) (a_cons (x_var 8) a_nil))))) (ss_one (s_ret x_bl)) ss_nil))
    (Az0B (s_frz 8 (s_set 13 sc_law.nd (x_call (F_barrels_of.mono (by decide)) hr (a_cons (x_var 12) (a_cons (x_var 8) a_nil)))))
    (Az0B (s_frzL 7 (s_frzL 6 (s_for PassesOwn.never rfl (i_enum T.n_enumerate (a_cons (x_var 6) a_nil)) (g_tup rfl (g_cons (g_name 14 sc_law.nd) (g_cons (g_name 15 sc_law.nd) g_nil))) (Az0B (s_frzL 7 (by refine s_ownC 11 sc_law.nd ["_law_name_here", "_law_things"] ["_law_script", "_law_depths", "_law_step", "_law_rules", "_law_drawn", "_law_some", "_law_doors", "_law_grants", "_law_plan", "_law_k", "_law_cuts_here", "_law_own", "_law_house", "_law_built", "_law_j", "_law_door"] (by walk_at "compok") rfl (i_seq (x_var 7))  ?_; exact (fun C fp pins s H => ⟨(g_tup rfl (g_cons (g_name 0 (show List.Nodup (["_law_name_here", "_law_things", "_law_script", "_law_depths", "_law_step", "_law_rules", "_law_drawn", "_law_some", "_law_doors", "_law_grants", "_law_plan", "_law_k", "_law_cuts_here", "_law_own", "_law_house", "_law_built", "_law_j", "_law_door"] : List Str) by decide +kernel)) (g_cons (g_name 1 (show List.Nodup (["_law_name_here", "_law_things", "_law_script", "_law_depths", "_law_step", "_law_rules", "_law_drawn", "_law_some", "_law_doors", "_law_grants", "_law_plan", "_law_k", "_law_cuts_here", "_law_own", "_law_house", "_law_built", "_law_j", "_law_door"] : List Str) by decide +kernel)) g_nil))), (t_one (y_in (p_var 17) (p_var 1))), (x_var 0)⟩)))
    (ss_one (s_if (y_w (w_or (y_cmp (c_eq (hu40 hr)) (p_var 11) (p_of (x_new (f_lst a_nil)))) (w_or1 (y_isN (p_of (x_dget (q_var 13) (p_var 15))))))) (ss_one (s_if (y_w (w_or (y_cmp (c_ne (hu40 hr)) (p_var 11) (p_of (x_new (f_lst a_nil)))) (w_or1 (y_notN (p_of (x_dget (q_var 13) (p_var 15))))))) (ss_one (s_ret x_bl)) ss_nil)) (ss_one (s_if (y_not (y_val (x_call (F__law_within.mono (by decide)) hr (a_cons (x_dget (q_var 13) (p_var 15)) (a_cons (x_ix (p_var 4) (p_var 14)) a_nil))))) (ss_one (s_ret x_bl)) (ss_one (s_frz 8 (s_if (y_cmp (c_ne (hu40 hr)) (p_of (x_new (f_comp ["_law_name_here"] ["_law_script", "_law_depths", "_law_step", "_law_rules", "_law_drawn", "_law_some", "_law_doors", "_law_grants", "_law_plan", "_law_k", "_law_cuts_here", "_law_own", "_law_house", "_law_built", "_law_j", "_law_door"] (by walk_at "compok") rfl (i_keys (x_var 8)) (fun C fp pins s H => ⟨(g_name 0 (show List.Nodup (["_law_name_here", "_law_script", "_law_depths", "_law_step", "_law_rules", "_law_drawn", "_law_some", "_law_doors", "_law_grants", "_law_plan", "_law_k", "_law_cuts_here", "_law_own", "_law_house", "_law_built", "_law_j", "_law_door"] : List Str) by decide +kernel)), (t_one (y_val (x_call (F__law_opens.mono (by decide)) hr (a_cons (x_dget (q_var 14) (p_var 16)) (a_cons (x_dget (q_var 9) (p_var 0)) a_nil))))), (x_var 0)⟩)))) (p_var 11)) (ss_one (s_ret x_bl)) ss_nil)))))))))))
    (ss_one (s_ret x_bl))))))))))))))
end
end G
namespace G
open PySem PySem.Spec PyProof.Rows L2 L3
theorem all_mk {l : PySem.W.OpenLaw} {w : World} {K : PySem.W.Frag} {h : Heap} {mg : Str → Option Value} {fa : Addr} (X : K.In h) (G : h.Ns mainGlobals mg) (hfa : mg "law" = some (.ref fa))
    {f0 : Addr} {od0 an0 : Option Addr} {sl0 : Array (Option Value)} {oc0 kV0 dc0 pm0 cd0 ct0 : Value} {f1 : Addr} {od1 an1 : Option Addr} {sl1 : Array (Option Value)} {oc1 kV1 dc1 pm1 cd1 ct1 : Value} {C1 : Addr} {f2 : Addr} {od2 an2 : Option Addr} {sl2 : Array (Option Value)} {oc2 kV2 dc2 pm2 cd2 ct2 : Value} {f3 : Addr} {od3 an3 : Option Addr} {sl3 : Array (Option Value)} {oc3 kV3 dc3 pm3 cd3 ct3 : Value} {f4 : Addr} {od4 an4 : Option Addr} {sl4 : Array (Option Value)} {oc4 kV4 dc4 pm4 cd4 ct4 : Value} {f5 : Addr} {od5 an5 : Option Addr} {sl5 : Array (Option Value)} {oc5 kV5 dc5 pm5 cd5 ct5 : Value} {f6 : Addr} {od6 an6 : Option Addr} {sl6 : Array (Option Value)} {oc6 kV6 dc6 pm6 cd6 ct6 : Value} {f7 : Addr} {od7 an7 : Option Addr} {sl7 : Array (Option Value)} {oc7 kV7 dc7 pm7 cd7 ct7 : Value} {f8 : Addr} {od8 an8 : Option Addr} {sl8 : Array (Option Value)} {oc8 kV8 dc8 pm8 cd8 ct8 : Value} {f9 : Addr} {od9 an9 : Option Addr} {sl9 : Array (Option Value)} {oc9 kV9 dc9 pm9 cd9 ct9 : Value} {f10 : Addr} {od10 an10 : Option Addr} {sl10 : Array (Option Value)} {oc10 kV10 dc10 pm10 cd10 ct10 : Value} {f11 : Addr} {od11 an11 : Option Addr} {sl11 : Array (Option Value)} {oc11 kV11 dc11 pm11 cd11 ct11 : Value} {f12 : Addr} {od12 an12 : Option Addr} {sl12 : Array (Option Value)} {oc12 kV12 dc12 pm12 cd12 ct12 : Value} {f13 : Addr} {od13 an13 : Option Addr} {sl13 : Array (Option Value)} {oc13 kV13 dc13 pm13 cd13 ct13 : Value} {f14 : Addr} {od14 an14 : Option Addr} {sl14 : Array (Option Value)} {oc14 kV14 dc14 pm14 cd14 ct14 : Value} {f15 : Addr} {od15 an15 : Option Addr} {sl15 : Array (Option Value)} {oc15 kV15 dc15 pm15 cd15 ct15 : Value} {f16 : Addr} {od16 an16 : Option Addr} {sl16 : Array (Option Value)} {oc16 kV16 dc16 pm16 cd16 ct16 : Value} {f17 : Addr} {od17 an17 : Option Addr} {sl17 : Array (Option Value)} {oc17 kV17 dc17 pm17 cd17 ct17 : Value} {f18 : Addr} {od18 an18 : Option Addr} {sl18 : Array (Option Value)} {oc18 kV18 dc18 pm18 cd18 ct18 : Value} {f19 : Addr} {od19 an19 : Option Addr} {sl19 : Array (Option Value)} {oc19 kV19 dc19 pm19 cd19 ct19 : Value} {f20 : Addr} {od20 an20 : Option Addr} {sl20 : Array (Option Value)} {oc20 kV20 dc20 pm20 cd20 ct20 : Value} {f21 : Addr} {od21 an21 : Option Addr} {sl21 : Array (Option Value)} {oc21 kV21 dc21 pm21 cd21 ct21 : Value} {f22 : Addr} {od22 an22 : Option Addr} {sl22 : Array (Option Value)} {oc22 kV22 dc22 pm22 cd22 ct22 : Value} {f23 : Addr} {od23 an23 : Option Addr} {sl23 : Array (Option Value)} {oc23 kV23 dc23 pm23 cd23 ct23 : Value} {f24 : Addr} {od24 an24 : Option Addr} {sl24 : Array (Option Value)} {oc24 kV24 dc24 pm24 cd24 ct24 : Value} {f25 : Addr} {od25 an25 : Option Addr} {sl25 : Array (Option Value)} {oc25 kV25 dc25 pm25 cd25 ct25 : Value} {f26 : Addr} {od26 an26 : Option Addr} {sl26 : Array (Option Value)} {oc26 kV26 dc26 pm26 cd26 ct26 : Value} {f27 : Addr} {od27 an27 : Option Addr} {sl27 : Array (Option Value)} {oc27 kV27 dc27 pm27 cd27 ct27 : Value}
    (a0 : PySem.W.nsIn K mainGlobals "copied" = some (some (.ref f0))) (l0 : K.lookup f0 = some ⟨oc0, od0, .func (PySem.W.fnOf "copied" "copied" (Az0M Az4W) (Az0J Az4W) (Az0A Az4W) .none kV0 dc0 pm0 an0 cd0 ct0), sl0⟩) (c0 : PySem.W.codeIn K cd0 "copied" = true) (k0 : PySem.W.keepIn K (.ref f0) = true)
    (aC1 : PySem.W.nsIn K mainGlobals "House" = some (some (.ref C1))) (a1 : PySem.W.findIn K (.ref C1) "__init__" = some (some (.ref f1))) (i1 : PySem.W.isFn K (.ref f1) = true) (l1 : K.lookup f1 = some ⟨oc1, od1, .func (PySem.W.fnOf "__init__" "House.__init__" (Az0M Az6H) (Az0J Az6H) (Az0A Az6H) .none kV1 dc1 pm1 an1 cd1 ct1), sl1⟩) (c1 : PySem.W.codeIn K cd1 "House.__init__" = true) (k1 : PySem.W.keepIn K (.ref f1) = true) (pg1 : PySem.W.plainGet K C1 Str.empty = true) (hd1 : PySem.W.hasDictIn K C1 = true) (po1 : PySem.W.plainOver K C1 = true) (sa1 : PySem.W.findIn K (.ref C1) "__setattr__" = some (some (.builtin "object.__setattr__"))) (mk1 : PySem.W.makesIn K C1 = true) (kc1 : PySem.W.keepIn K (.ref C1) = true) (n1_rules : PySem.W.findIn K (.ref C1) "rules" = some none) (n1_doors : PySem.W.findIn K (.ref C1) "doors" = some none) (n1_wings : PySem.W.findIn K (.ref C1) "wings" = some none) (n1_grants : PySem.W.findIn K (.ref C1) "grants" = some none)
    (a2 : PySem.W.nsIn K mainGlobals "_law_cell" = some (some (.ref f2))) (l2 : K.lookup f2 = some ⟨oc2, od2, .func (PySem.W.fnOf "_law_cell" "_law_cell" (Az0M Az2E) (Az0J Az2E) (Az0A Az2E) .none kV2 dc2 pm2 an2 cd2 ct2), sl2⟩) (c2 : PySem.W.codeIn K cd2 "_law_cell" = true) (k2 : PySem.W.keepIn K (.ref f2) = true)
    (a3 : PySem.W.nsIn K mainGlobals "_law_pin" = some (some (.ref f3))) (l3 : K.lookup f3 = some ⟨oc3, od3, .func (PySem.W.fnOf "_law_pin" "_law_pin" (Az0M Az2X) (Az0J Az2X) (Az0A Az2X) .none kV3 dc3 pm3 an3 cd3 ct3), sl3⟩) (c3 : PySem.W.codeIn K cd3 "_law_pin" = true) (k3 : PySem.W.keepIn K (.ref f3) = true)
    (a4 : PySem.W.nsIn K mainGlobals "_law_barrel" = some (some (.ref f4))) (l4 : K.lookup f4 = some ⟨oc4, od4, .func (PySem.W.fnOf "_law_barrel" "_law_barrel" (Az0M Az1A) (Az0J Az1A) (Az0A Az1A) .none kV4 dc4 pm4 an4 cd4 ct4), sl4⟩) (c4 : PySem.W.codeIn K cd4 "_law_barrel" = true) (k4 : PySem.W.keepIn K (.ref f4) = true)
    (a5 : PySem.W.nsIn K mainGlobals "_law_cuts" = some (some (.ref f5))) (l5 : K.lookup f5 = some ⟨oc5, od5, .func (PySem.W.fnOf "_law_cuts" "_law_cuts" (Az0M Az2D) (Az0J Az2D) (Az0A Az2D) .none kV5 dc5 pm5 an5 cd5 ct5), sl5⟩) (c5 : PySem.W.codeIn K cd5 "_law_cuts" = true) (k5 : PySem.W.keepIn K (.ref f5) = true)
    (a6 : PySem.W.nsIn K mainGlobals "_law_made" = some (some (.ref f6))) (l6 : K.lookup f6 = some ⟨oc6, od6, .func (PySem.W.fnOf "_law_made" "_law_made" (Az0M Az2C) (Az0J Az2C) (Az0A Az2C) .none kV6 dc6 pm6 an6 cd6 ct6), sl6⟩) (c6 : PySem.W.codeIn K cd6 "_law_made" = true) (k6 : PySem.W.keepIn K (.ref f6) = true)
    (a7 : PySem.W.nsIn K mainGlobals "_law_name" = some (some (.ref f7))) (l7 : K.lookup f7 = some ⟨oc7, od7, .func (PySem.W.fnOf "_law_name" "_law_name" (Az0M Az2B) (Az0J Az2B) (Az0A Az2B) .none kV7 dc7 pm7 an7 cd7 ct7), sl7⟩) (c7 : PySem.W.codeIn K cd7 "_law_name" = true) (k7 : PySem.W.keepIn K (.ref f7) = true)
    (a8 : PySem.W.nsIn K mainGlobals "_law_opens" = some (some (.ref f8))) (l8 : K.lookup f8 = some ⟨oc8, od8, .func (PySem.W.fnOf "_law_opens" "_law_opens" (Az0M Az1O) (Az0J Az1O) (Az0A Az1O) .none kV8 dc8 pm8 an8 cd8 ct8), sl8⟩) (c8 : PySem.W.codeIn K cd8 "_law_opens" = true) (k8 : PySem.W.keepIn K (.ref f8) = true)
    (a9 : PySem.W.nsIn K mainGlobals "_law_within" = some (some (.ref f9))) (l9 : K.lookup f9 = some ⟨oc9, od9, .func (PySem.W.fnOf "_law_within" "_law_within" (Az0M Az0Z) (Az0J Az0Z) (Az0A Az0Z) .none kV9 dc9 pm9 an9 cd9 ct9), sl9⟩) (c9 : PySem.W.codeIn K cd9 "_law_within" = true) (k9 : PySem.W.keepIn K (.ref f9) = true)
    (a10 : PySem.W.nsIn K mainGlobals "heights_of" = some (some (.ref f10))) (l10 : K.lookup f10 = some ⟨oc10, od10, .func (PySem.W.fnOf "heights_of" "heights_of" (Az0M Az1K) (Az0J Az1K) (Az0A Az1K) .none kV10 dc10 pm10 an10 cd10 ct10), sl10⟩) (c10 : PySem.W.codeIn K cd10 "heights_of" = true) (k10 : PySem.W.keepIn K (.ref f10) = true)
    (a11 : PySem.W.nsIn K mainGlobals "places_of" = some (some (.ref f11))) (l11 : K.lookup f11 = some ⟨oc11, od11, .func (PySem.W.fnOf "places_of" "places_of" (Az0M Az2A) (Az0J Az2A) (Az0A Az2A) .none kV11 dc11 pm11 an11 cd11 ct11), sl11⟩) (c11 : PySem.W.codeIn K cd11 "places_of" = true) (k11 : PySem.W.keepIn K (.ref f11) = true)
    (a12 : PySem.W.nsIn K mainGlobals "least_of" = some (some (.ref f12))) (l12 : K.lookup f12 = some ⟨oc12, od12, .func (PySem.W.fnOf "least_of" "least_of" (Az0M Az2S) (Az0J Az2S) (Az0A Az2S) .none kV12 dc12 pm12 an12 cd12 ct12), sl12⟩) (c12 : PySem.W.codeIn K cd12 "least_of" = true) (k12 : PySem.W.keepIn K (.ref f12) = true)
    (a13 : PySem.W.nsIn K mainGlobals "barrel_for" = some (some (.ref f13))) (l13 : K.lookup f13 = some ⟨oc13, od13, .func (PySem.W.fnOf "barrel_for" "barrel_for" (Az0M Az1N) (Az0J Az1N) (Az0A Az1N) .none kV13 dc13 pm13 an13 cd13 ct13), sl13⟩) (c13 : PySem.W.codeIn K cd13 "barrel_for" = true) (k13 : PySem.W.keepIn K (.ref f13) = true)
    (a14 : PySem.W.nsIn K mainGlobals "barrels_in" = some (some (.ref f14))) (l14 : K.lookup f14 = some ⟨oc14, od14, .func (PySem.W.fnOf "barrels_in" "barrels_in" (Az0M Az1M) (Az0J Az1M) (Az0A Az1M) .none kV14 dc14 pm14 an14 cd14 ct14), sl14⟩) (c14 : PySem.W.codeIn K cd14 "barrels_in" = true) (k14 : PySem.W.keepIn K (.ref f14) = true)
    (a15 : PySem.W.nsIn K mainGlobals "doors_of" = some (some (.ref f15))) (l15 : K.lookup f15 = some ⟨oc15, od15, .func (PySem.W.fnOf "doors_of" "doors_of" (Az0M Az2V) (Az0J Az2V) (Az0A Az2V) .none kV15 dc15 pm15 an15 cd15 ct15), sl15⟩) (c15 : PySem.W.codeIn K cd15 "doors_of" = true) (k15 : PySem.W.keepIn K (.ref f15) = true)
    (a16 : PySem.W.nsIn K mainGlobals "names_of" = some (some (.ref f16))) (l16 : K.lookup f16 = some ⟨oc16, od16, .func (PySem.W.fnOf "names_of" "names_of" (Az0M Az2R) (Az0J Az2R) (Az0A Az2R) .none kV16 dc16 pm16 an16 cd16 ct16), sl16⟩) (c16 : PySem.W.codeIn K cd16 "names_of" = true) (k16 : PySem.W.keepIn K (.ref f16) = true)
    (a17 : PySem.W.nsIn K mainGlobals "spans_of" = some (some (.ref f17))) (l17 : K.lookup f17 = some ⟨oc17, od17, .func (PySem.W.fnOf "spans_of" "spans_of" (Az0M Az2P) (Az0J Az2P) (Az0A Az2P) .none kV17 dc17 pm17 an17 cd17 ct17), sl17⟩) (c17 : PySem.W.codeIn K cd17 "spans_of" = true) (k17 : PySem.W.keepIn K (.ref f17) = true)
    (a18 : PySem.W.nsIn K mainGlobals "held_by" = some (some (.ref f18))) (l18 : K.lookup f18 = some ⟨oc18, od18, .func (PySem.W.fnOf "held_by" "held_by" (Az0M Az3S) (Az0J Az3S) (Az0A Az3S) .none kV18 dc18 pm18 an18 cd18 ct18), sl18⟩) (c18 : PySem.W.codeIn K cd18 "held_by" = true) (k18 : PySem.W.keepIn K (.ref f18) = true)
    (a19 : PySem.W.nsIn K mainGlobals "barrels_of" = some (some (.ref f19))) (l19 : K.lookup f19 = some ⟨oc19, od19, .func (PySem.W.fnOf "barrels_of" "barrels_of" (Az0M Az1L) (Az0J Az1L) (Az0A Az1L) .none kV19 dc19 pm19 an19 cd19 ct19), sl19⟩) (c19 : PySem.W.codeIn K cd19 "barrels_of" = true) (k19 : PySem.W.keepIn K (.ref f19) = true)
    (a20 : PySem.W.nsIn K mainGlobals "cross_of" = some (some (.ref f20))) (l20 : K.lookup f20 = some ⟨oc20, od20, .func (PySem.W.fnOf "cross_of" "cross_of" (Az0M Az2W) (Az0J Az2W) (Az0A Az2W) .none kV20 dc20 pm20 an20 cd20 ct20), sl20⟩) (c20 : PySem.W.codeIn K cd20 "cross_of" = true) (k20 : PySem.W.keepIn K (.ref f20) = true)
    (a21 : PySem.W.nsIn K mainGlobals "named_cross" = some (some (.ref f21))) (l21 : K.lookup f21 = some ⟨oc21, od21, .func (PySem.W.fnOf "named_cross" "named_cross" (Az0M Az0Y) (Az0J Az0Y) (Az0A Az0Y) .none kV21 dc21 pm21 an21 cd21 ct21), sl21⟩) (c21 : PySem.W.codeIn K cd21 "named_cross" = true) (k21 : PySem.W.keepIn K (.ref f21) = true)
    (a22 : PySem.W.nsIn K mainGlobals "stopped_at" = some (some (.ref f22))) (l22 : K.lookup f22 = some ⟨oc22, od22, .func (PySem.W.fnOf "stopped_at" "stopped_at" (Az0M Az1I) (Az0J Az1I) (Az0A Az1I) .none kV22 dc22 pm22 an22 cd22 ct22), sl22⟩) (c22 : PySem.W.codeIn K cd22 "stopped_at" = true) (k22 : PySem.W.keepIn K (.ref f22) = true)
    (a23 : PySem.W.nsIn K mainGlobals "opens_at" = some (some (.ref f23))) (l23 : K.lookup f23 = some ⟨oc23, od23, .func (PySem.W.fnOf "opens_at" "opens_at" (Az0M Az2Q) (Az0J Az2Q) (Az0A Az2Q) .none kV23 dc23 pm23 an23 cd23 ct23), sl23⟩) (c23 : PySem.W.codeIn K cd23 "opens_at" = true) (k23 : PySem.W.keepIn K (.ref f23) = true)
    (a24 : PySem.W.nsIn K mainGlobals "fault_in" = some (some (.ref f24))) (l24 : K.lookup f24 = some ⟨oc24, od24, .func (PySem.W.fnOf "fault_in" "fault_in" (Az0M Az2U) (Az0J Az2U) (Az0A Az2U) .none kV24 dc24 pm24 an24 cd24 ct24), sl24⟩) (c24 : PySem.W.codeIn K cd24 "fault_in" = true) (k24 : PySem.W.keepIn K (.ref f24) = true)
    (a25 : PySem.W.nsIn K mainGlobals "known_keys" = some (some (.ref f25))) (l25 : K.lookup f25 = some ⟨oc25, od25, .func (PySem.W.fnOf "known_keys" "known_keys" (Az0M Az1J) (Az0J Az1J) (Az0A Az1J) .none kV25 dc25 pm25 an25 cd25 ct25), sl25⟩) (c25 : PySem.W.codeIn K cd25 "known_keys" = true) (k25 : PySem.W.keepIn K (.ref f25) = true)
    (a26 : PySem.W.nsIn K mainGlobals "fault_of" = some (some (.ref f26))) (l26 : K.lookup f26 = some ⟨oc26, od26, .func (PySem.W.fnOf "fault_of" "fault_of" (Az0M Az2T) (Az0J Az2T) (Az0A Az2T) .none kV26 dc26 pm26 an26 cd26 ct26), sl26⟩) (c26 : PySem.W.codeIn K cd26 "fault_of" = true) (k26 : PySem.W.keepIn K (.ref f26) = true)
    (a27 : PySem.W.nsIn K mainGlobals "law" = some (some (.ref f27))) (l27 : K.lookup f27 = some ⟨oc27, od27, .func (PySem.W.fnOf "law" "law" (Az0M s_law) (Az0J s_law) (Az0A s_law) .none kV27 dc27 pm27 an27 cd27 ct27), sl27⟩) (c27 : PySem.W.codeIn K cd27 "law" = true) (k27 : PySem.W.keepIn K (.ref f27) = true)
    (z0 : PySem.W.nsIn K mainGlobals "abs" = some none)
    (z1 : PySem.W.nsIn K mainGlobals "dict" = some none)
    (z2 : PySem.W.nsIn K mainGlobals "enumerate" = some none)
    (z3 : PySem.W.nsIn K mainGlobals "len" = some none)
    (z4 : PySem.W.nsIn K mainGlobals "list" = some none)
    (z5 : PySem.W.nsIn K mainGlobals "min" = some none)
    (z6 : PySem.W.nsIn K mainGlobals "range" = some none)
    (z7 : PySem.W.nsIn K mainGlobals "set" = some none)
    (z8 : PySem.W.nsIn K mainGlobals "sorted" = some none)
    (z9 : PySem.W.nsIn K mainGlobals "tuple" = some none)
    : ∃ fd : FuncData, (∀ (s : Shared) (v : Value), BindsTo s fd ⟨[v], []⟩ [("_law_script", v)]) ∧ ∀ base : Heap, K.In base → base.Ns mainGlobals mg → FnOk l.prog w K mg base CX0 6 fa fd ["_law_script"] (spLaw K) := by
  have e := hfa.symm.trans (PySem.W.mg_of X G a27)
  cases e
  have T : Txt K mg := ⟨PySem.W.mg_none_of X G z0, PySem.W.mg_none_of X G z1, PySem.W.mg_none_of X G z2, PySem.W.mg_none_of X G z3, PySem.W.mg_none_of X G z4, PySem.W.mg_none_of X G z5, PySem.W.mg_none_of X G z6, PySem.W.mg_none_of X G z7, PySem.W.mg_none_of X G z8, PySem.W.mg_none_of X G z9, ⟨⟨C1, aC1, ⟨pg1, hd1, po1, sa1⟩, n1_doors⟩⟩, ⟨⟨C1, aC1, ⟨pg1, hd1, po1, sa1⟩, n1_grants⟩⟩, ⟨⟨C1, aC1, ⟨pg1, hd1, po1, sa1⟩, n1_rules⟩⟩, ⟨⟨C1, aC1, ⟨pg1, hd1, po1, sa1⟩, n1_wings⟩⟩⟩
  refine ⟨PySem.W.fnOf "law" "law" (Az0M s_law) (Az0J s_law) (Az0A s_law) .none kV27 dc27 pm27 an27 cd27 ct27, fun s v => .of_eq rfl, fun base _ _ => ?_⟩
  have F_copied : Fn l.prog w K mg base 1 "copied" 1 Az3Z := Bz5J (fun_mk (st := Az4W) l0 c0 k0) (PySem.W.mg_of X G a0) T  
  have F_House : FnI l.prog w K mg base 3 "House" 4 4 Az4E := Bz8B (fun_mk (st := Az6H) l1 c1 k1) ⟨mk1, a1, i1, kc1⟩ (PySem.W.mg_of X G aC1) aC1 ⟨pg1, hd1, po1, sa1⟩ n1_rules n1_doors n1_wings n1_grants T F_copied
  have F__law_cell : Fn l.prog w K mg base 1 "_law_cell" 2 Az0O := Az9D (fun_mk (st := Az2E) l2 c2 k2) (PySem.W.mg_of X G a2) T  
  have F__law_pin : Fn l.prog w K mg base 1 "_law_pin" 3 Az3E := Bz1K (fun_mk (st := Az2X) l3 c3 k3) (PySem.W.mg_of X G a3) T  
  have F__law_barrel : Fn l.prog w K mg base 2 "_law_barrel" 2 Az1C := Az7C (fun_mk (st := Az1A) l4 c4 k4) (PySem.W.mg_of X G a4) T F__law_pin 
  have F__law_cuts : Fn l.prog w K mg base 1 "_law_cuts" 3 Az2H := Az9C (fun_mk (st := Az2D) l5 c5 k5) (PySem.W.mg_of X G a5) T  
  have F__law_made : Fn l.prog w K mg base 3 "_law_made" 2 Az2G := Az9B (fun_mk (st := Az2C) l6 c6 k6) (PySem.W.mg_of X G a6) T F__law_barrel F__law_cuts 
  have F__law_name : Fn l.prog w K mg base 2 "_law_name" 2 Az0Q := Az9A (fun_mk (st := Az2B) l7 c7 k7) (PySem.W.mg_of X G a7) T F__law_cell 
  have F__law_opens : Fn l.prog w K mg base 1 "_law_opens" 2 Az0X := Az7Z (fun_mk (st := Az1O) l8 c8 k8) (PySem.W.mg_of X G a8) T  
  have F__law_within : Fn l.prog w K mg base 1 "_law_within" 2 Az1B := Az7B (fun_mk (st := Az0Z) l9 c9 k9) (PySem.W.mg_of X G a9) T  
  have F_heights_of : Fn l.prog w K mg base 1 "heights_of" 1 Az1Q := Az7V (fun_mk (st := Az1K) l10 c10 k10) (PySem.W.mg_of X G a10) T  
  have F_places_of : Fn l.prog w K mg base 1 "places_of" 1 Az2F := Az8Z (fun_mk (st := Az2A) l11 c11 k11) (PySem.W.mg_of X G a11) T  
  have F_least_of : Fn l.prog w K mg base 2 "least_of" 2 Az3A := Bz1F (fun_mk (st := Az2S) l12 c12 k12) (PySem.W.mg_of X G a12) T F_heights_of F_places_of 
  have F_barrel_for : Fn l.prog w K mg base 3 "barrel_for" 3 Az0T := Az7Y (fun_mk (st := Az1N) l13 c13 k13) (PySem.W.mg_of X G a13) T F_least_of 
  have F_barrels_in : Fn l.prog w K mg base 4 "barrels_in" 3 Az0W := Az7X (fun_mk (st := Az1M) l14 c14 k14) (PySem.W.mg_of X G a14) T F_barrel_for 
  have F_doors_of : Fn l.prog w K mg base 1 "doors_of" 2 Az3D := Bz1I (fun_mk (st := Az2V) l15 c15 k15) (PySem.W.mg_of X G a15) T  
  have F_names_of : Fn l.prog w K mg base 1 "names_of" 1 Az1E := Bz1E (fun_mk (st := Az2R) l16 c16 k16) (PySem.W.mg_of X G a16) T  
  have F_spans_of : Fn l.prog w K mg base 2 "spans_of" 1 Az2Z := Bz1C (fun_mk (st := Az2P) l17 c17 k17) (PySem.W.mg_of X G a17) T F_doors_of F_names_of 
  have F_held_by : Fn l.prog w K mg base 3 "held_by" 1 Az2K := Bz2V (fun_mk (st := Az3S) l18 c18 k18) (PySem.W.mg_of X G a18) T F_spans_of 
  have F_barrels_of : Fn l.prog w K mg base 5 "barrels_of" 2 Az1R := Az7W (fun_mk (st := Az1L) l19 c19 k19) (PySem.W.mg_of X G a19) T F_barrels_in F_held_by 
  have F_cross_of : Fn l.prog w K mg base 1 "cross_of" 2 Az4M := Bz1J (fun_mk (st := Az2W) l20 c20 k20) (PySem.W.mg_of X G a20) T  
  have F_named_cross : Fn l.prog w K mg base 2 "named_cross" 3 Az2J := Az7A (fun_mk (st := Az0Y) l21 c21 k21) (PySem.W.mg_of X G a21) T F_cross_of 
  have F_stopped_at : Fn l.prog w K mg base 1 "stopped_at" 2 Az0V := Az7T (fun_mk (st := Az1I) l22 c22 k22) (PySem.W.mg_of X G a22) T  
  have F_opens_at : Fn l.prog w K mg base 2 "opens_at" 2 Az2I := Bz1D (fun_mk (st := Az2Q) l23 c23 k23) (PySem.W.mg_of X G a23) T F_stopped_at 
  have F_fault_in : Fn l.prog w K mg base 3 "fault_in" 4 Az3C := Bz1H (fun_mk (st := Az2U) l24 c24 k24) (PySem.W.mg_of X G a24) T F_named_cross F_opens_at 
  have F_known_keys : Fn l.prog w K mg base 2 "known_keys" 2 Az1P := Az7U (fun_mk (st := Az1J) l25 c25 k25) (PySem.W.mg_of X G a25) T F_names_of 
  have F_fault_of : Fn l.prog w K mg base 5 "fault_of" 2 Az3B := Bz1G (fun_mk (st := Az2T) l26 c26 k26) (PySem.W.mg_of X G a26) T F_barrels_in F_fault_in F_held_by F_known_keys 
  exact law_of (ok_law (fun_mk (st := s_law) l27 c27 k27) T F_House F__law_cell F__law_made F__law_name F__law_opens F__law_within F_barrels_of F_fault_of) law_true
theorem walk {l : PySem.W.OpenLaw} {q : Program} {loose : List Str} {XP : (Str → Option Value) → Heap → Prop} {YP : World → Heap → Prop} {d : DefRec} {K : Params → PySem.W.Frag} (hn : l.most = some 63) (hdf : d.params.defaults = [])
    (hY : ∀ (w : World) (h : Heap), YP w h → (K w.params).In h)
    (F : ∀ (w : World) (mg : Str → Option Value) (fa : Addr) (h : Heap), (K w.params).In h → h.Ns mainGlobals mg → mg d.name = some (.ref fa) →
      ∃ fd : FuncData, (∀ (s : Shared) (u : Value), BindsTo s fd ⟨[u], []⟩ [("_law_script", u)]) ∧ ∀ base : Heap, (K w.params).In base → base.Ns mainGlobals mg → FnOk l.prog w (K w.params) mg base CX0 6 fa fd ["_law_script"] (spLaw (K w.params))) :
    PySem.W.WalkO q loose XP YP l.row.toRowW d [] (fun f vs => PySem.call f vs) :=
  L2.walk_of (n := 63) (k := 6) (x := "_law_script") (CX := fun _ => CX0) (sp := fun w => spLaw (K w.params)) hn (by decide) hdf ⟨rfl, by decide, by decide, rfl⟩ hY F (fun _ _ a ns hl _ hS => ⟨a, ns, rfl, hS, hl, fun _ => rfl⟩) fun _ _ _ _ _ z => z
end G
open PySem PySem.W PyProof.Rows
set_option maxRecDepth 100000 in
set_option maxHeartbeats 0 in
theorem PySem.Challenge.cw_wardsmith_k45_whole_least_barrels_do_holds : PySem.Challenge.rw_wardsmith_k45_whole_least_barrels_do.Holds := by
  w_on; o_law; k_head; (case hw => w_witness2)
  k_fill
  refine G.walk (l := PySem.Challenge.rw_wardsmith_k45_whole_least_barrels_do) rfl rfl (fun w h Y => PySem.W.kIn_of Y) ?F
  case F =>
    intro w mg fa h KX GG hmg
    refine' G.all_mk KX GG hmg ?a0 ?l0 ?c0 ?k0 ?aC1 ?a1 ?i1 ?l1 ?c1 ?k1 ?pg1 ?hd1 ?po1 ?sa1 ?mk1 ?kc1 ?n1_rules ?n1_doors ?n1_wings ?n1_grants ?a2 ?l2 ?c2 ?k2 ?a3 ?l3 ?c3 ?k3 ?a4 ?l4 ?c4 ?k4 ?a5 ?l5 ?c5 ?k5 ?a6 ?l6 ?c6 ?k6 ?a7 ?l7 ?c7 ?k7 ?a8 ?l8 ?c8 ?k8 ?a9 ?l9 ?c9 ?k9 ?a10 ?l10 ?c10 ?k10 ?a11 ?l11 ?c11 ?k11 ?a12 ?l12 ?c12 ?k12 ?a13 ?l13 ?c13 ?k13 ?a14 ?l14 ?c14 ?k14 ?a15 ?l15 ?c15 ?k15 ?a16 ?l16 ?c16 ?k16 ?a17 ?l17 ?c17 ?k17 ?a18 ?l18 ?c18 ?k18 ?a19 ?l19 ?c19 ?k19 ?a20 ?l20 ?c20 ?k20 ?a21 ?l21 ?c21 ?k21 ?a22 ?l22 ?c22 ?k22 ?a23 ?l23 ?c23 ?k23 ?a24 ?l24 ?c24 ?k24 ?a25 ?l25 ?c25 ?k25 ?a26 ?l26 ?c26 ?k26 ?a27 ?l27 ?c27 ?k27 ?z0 ?z1 ?z2 ?z3 ?z4 ?z5 ?z6 ?z7 ?z8 ?z9
    (case a0 => k_is); (case l0 => k_is); (case c0 => k_is); (case k0 => k_is); (case aC1 => k_is); (case a1 => k_is)
    (case i1 => k_is); (case l1 => k_is); (case c1 => k_is); (case k1 => k_is); (case pg1 => k_is); (case hd1 => k_is)
    (case po1 => k_is); (case sa1 => k_is); (case mk1 => k_is); (case kc1 => k_is); (case n1_rules => k_is); (case n1_doors => k_is)
    (case n1_wings => k_is); (case n1_grants => k_is); (case a2 => k_is); (case l2 => k_is); (case c2 => k_is); (case k2 => k_is)
    (case a3 => k_is); (case l3 => k_is); (case c3 => k_is); (case k3 => k_is); (case a4 => k_is); (case l4 => k_is)
    (case c4 => k_is); (case k4 => k_is); (case a5 => k_is); (case l5 => k_is); (case c5 => k_is); (case k5 => k_is)
    (case a6 => k_is); (case l6 => k_is); (case c6 => k_is); (case k6 => k_is); (case a7 => k_is); (case l7 => k_is)
    (case c7 => k_is); (case k7 => k_is); (case a8 => k_is); (case l8 => k_is); (case c8 => k_is); (case k8 => k_is)
    (case a9 => k_is); (case l9 => k_is); (case c9 => k_is); (case k9 => k_is); (case a10 => k_is); (case l10 => k_is)
    (case c10 => k_is); (case k10 => k_is); (case a11 => k_is); (case l11 => k_is); (case c11 => k_is); (case k11 => k_is)
    (case a12 => k_is); (case l12 => k_is); (case c12 => k_is); (case k12 => k_is); (case a13 => k_is); (case l13 => k_is)
    (case c13 => k_is); (case k13 => k_is); (case a14 => k_is); (case l14 => k_is); (case c14 => k_is); (case k14 => k_is)
    (case a15 => k_is); (case l15 => k_is); (case c15 => k_is); (case k15 => k_is); (case a16 => k_is); (case l16 => k_is)
    (case c16 => k_is); (case k16 => k_is); (case a17 => k_is); (case l17 => k_is); (case c17 => k_is); (case k17 => k_is)
    (case a18 => k_is); (case l18 => k_is); (case c18 => k_is); (case k18 => k_is); (case a19 => k_is); (case l19 => k_is)
    (case c19 => k_is); (case k19 => k_is); (case a20 => k_is); (case l20 => k_is); (case c20 => k_is); (case k20 => k_is)
    (case a21 => k_is); (case l21 => k_is); (case c21 => k_is); (case k21 => k_is); (case a22 => k_is); (case l22 => k_is)
    (case c22 => k_is); (case k22 => k_is); (case a23 => k_is); (case l23 => k_is); (case c23 => k_is); (case k23 => k_is)
    (case a24 => k_is); (case l24 => k_is); (case c24 => k_is); (case k24 => k_is); (case a25 => k_is); (case l25 => k_is)
    (case c25 => k_is); (case k25 => k_is); (case a26 => k_is); (case l26 => k_is); (case c26 => k_is); (case k26 => k_is)
    (case a27 => k_is); (case l27 => k_is); (case c27 => k_is); (case k27 => k_is); (case z0 => k_is); (case z1 => k_is)
    (case z2 => k_is); (case z3 => k_is); (case z4 => k_is); (case z5 => k_is); (case z6 => k_is); (case z7 => k_is)
    (case z8 => k_is); (case z9 => k_is)
