import PyProof.Rows.All
import Wide.All
import OpenK.AllK
import Wide.FinOn
import PyProof.EqAt
import PyProof.EqKinds
import PyProof.TupleCall
import PyProof.NeKinds
import PyProof.FactsAll.tuple_2
import PyProof.FactsAll.tuple_3
import PyProof.ListRange
import KE.KSortTup
import PyProof.EnumMake
import PyProof.AutoSeq1
import PyProof.Rows.SeqMore
import KE.KIsAll
import PyProof.ExcArgsOwn
import PyProof.ExcBaseAll.ValueError
import PyProof.ExcAttrAll.ValueError
import OpenK.KOwn
import PyProof.RulesAs
import PyProof.AutoRange
import PyProof.SeqRoads2
import PyProof.ZipIter
import PyProof.StrCalls2
import KE.KDictSum
import PyProof.SumAny
import KE.KRevIter
import PyProof.Rows.FStr
import PyProof.Rows.FStrParts
import KE.KRevSl
import Lean
import PySem.Challenge.RW_rookborders_k60_sums_multiplied
set_option Elab.async false
set_option linter.all false
set_option maxRecDepth 100000
set_option maxHeartbeats 1000000
namespace L2
open PySem
abbrev Pb := SetTable.Probe
def adv (mask : Nat) (p : Pb) : Pb :=
  if p.more > 0 then { p with j := p.j + 1, more := p.more - 1 } else
  { p with j := (SetTable.leap mask p.i p.perturb).1, more := SetTable.runEnd mask (SetTable.leap mask p.i p.perturb).1 - (SetTable.leap mask p.i p.perturb).1, i := (SetTable.leap mask p.i p.perturb).1, perturb := (SetTable.leap mask p.i p.perturb).2 }
def landP (mask i perturb : Nat) (d : Option Nat) : Pb := { j := i, more := SetTable.runEnd mask i - i, i := i, perturb := perturb, dummy := d }
def advN (mask : Nat) : Nat → Pb → Pb
  | 0, p => p
  | n + 1, p => advN mask n (adv mask p)
def pst (mask : Nat) (h : Int) (d : Option Nat) : Pb := landP mask (SetTable.bits h % (mask + 1)) (SetTable.bits h) d
def Jx (mask : Nat) (h : Int) (m : Nat) : Nat := (advN mask m (pst mask h none)).j
def Ris (xs : Array Nat) : Prop := xs.toList.Pairwise (· < ·)
structure TOk (t : SetTable) (hs : List Int) : Prop where
  pw : ∃ k, 3 ≤ k ∧ k ≤ 12 ∧ t.mask + 1 = 2 ^ k
  sz : t.place.size = hs.length
  sp : Ris t.place
  sd : Ris t.dummies
  lp : ∀ j ∈ t.place.toList, j ≤ t.mask
  ld : ∀ j ∈ t.dummies.toList, j ≤ t.mask
  dj : ∀ j ∈ t.dummies.toList, j ∉ t.place.toList
  fl : t.fill ≤ t.mask
  rc : ∀ x ∈ hs.zip t.place.toList, ∃ m, Jx t.mask x.1 m = x.2 ∧ ∀ m', m' < m → Jx t.mask x.1 m' ∈ t.place.toList ∨ Jx t.mask x.1 m' ∈ t.dummies.toList
end L2
set_option Elab.async false
set_option linter.all false
set_option maxRecDepth 100000
set_option maxHeartbeats 1000000
namespace L2
open PySem
end L2
set_option Elab.async false
set_option linter.all false
set_option maxRecDepth 100000
set_option maxHeartbeats 1000000
namespace L2
open PySem
end L2
set_option Elab.async false
set_option linter.all false
set_option maxRecDepth 100000
set_option maxHeartbeats 1000000
namespace L2
open PySem PySem.Spec PyProof.Rows
def th (ks : List Int) : Int := reduceHash (Builtin.Tuple.tupleHashOf (ks.map hashInt))
def ent (x : List Int × Addr) : Int × Value := (th x.1, .ref x.2)
abbrev Els := List (List Int × Addr)
def thE (xs : Els) : List Int := xs.map fun x => th x.1
structure SetAt (w : World) (o : Obj) (es : Array (Int × Value)) (ep : Nat) (t : SetTable) (xs : Els) : Prop where
  ex : o.ExactSet
  hd : o.data = .set es ep t
  he : es.toList = xs.map ent
  T : TOk t (thE xs)
  led : t.led = !w.params.followText "set-order"
  pl : t.plain = true
  nd : (xs.map (·.1)).Nodup
end L2
set_option Elab.async false
set_option linter.all false
set_option maxRecDepth 100000
set_option maxHeartbeats 1000000
namespace L2
open PySem PySem.Spec PyProof.Rows
structure SetOk (w : World) (o : Obj) (es : Array (Int × Value)) (ep : Nat) (t : SetTable) (xs : Els) : Prop extends SetAt w o es ep t xs where
  f5 : t.fill * 5 < t.mask * 3
end L2
set_option Elab.async false
set_option linter.all false
set_option maxRecDepth 100000
set_option maxHeartbeats 1000000
namespace L2
open PySem PySem.Spec PyProof.Rows
end L2
set_option Elab.async false
set_option linter.all false
set_option maxRecDepth 100000
namespace L2
open PySem PySem.Spec PyProof.Rows
abbrev Key := Sum Int Str
def keyIs : Key → Value → Bool
  | .inl k, v => Value.isInt k v
  | .inr x, v => Value.isStrOf x v
def keyH (w : World) : Key → Int
  | .inl k => hashInt k
  | .inr x => hashStr w x
theorem keyIs_shape : ∀ {k : Key} {v : Value}, keyIs k v = true → (∃ i t, k = Sum.inl i ∧ v = Value.int i t) ∨ (∃ x t, k = Sum.inr x ∧ v = Value.str x t)
  | .inl i, v, h => by
    obtain ⟨t, e⟩ := Value.isInt_shape (k := i) (v := v) h
    exact .inl ⟨i, t, rfl, e⟩
  | .inr x, v, h => by
    obtain ⟨t, e⟩ := Value.isStrOf_shape (x := x) (v := v) h
    exact .inr ⟨x, t, rfl, e⟩
theorem keyIs_int (i : Int) (t : Tok) : keyIs (.inl i) (.int i t) = true := by simp [keyIs, Value.isInt]
theorem keyIs_str (x : Str) (t : Tok) : keyIs (.inr x) (.str x t) = true := by simp [keyIs, Value.isStrOf]
theorem key_ll (a b : Int) : decide ((Sum.inl a : Key) = Sum.inl b) = (a == b) := by
  by_cases e : a = b
  · subst e; simp
  · have h : ¬ (Sum.inl a : Key) = Sum.inl b := fun q => e (Sum.inl.inj q)
    rw [decide_eq_false h]
    exact (beq_eq_false_iff_ne.mpr e).symm
theorem key_rr (a b : Str) : decide ((Sum.inr a : Key) = Sum.inr b) = decide (a = b) := by
  by_cases e : a = b
  · subst e; simp
  · have h : ¬ (Sum.inr a : Key) = Sum.inr b := fun q => e (Sum.inr.inj q)
    rw [decide_eq_false h, decide_eq_false e]
theorem key_lr (a : Int) (b : Str) : decide ((Sum.inl a : Key) = Sum.inr b) = false := decide_eq_false (fun q => nomatch q)
theorem key_rl (a : Str) (b : Int) : decide ((Sum.inr a : Key) = Sum.inl b) = false := decide_eq_false (fun q => nomatch q)
def mixKind (prog : Program) (w : World) : PySem.KeyKind prog w Key where
  is := keyIs
  hash := keyH w
  inj := fun v a b ha hb => by
    rcases keyIs_shape ha with ⟨i, t, rfl, rfl⟩ | ⟨x, t, rfl, rfl⟩
    · rcases keyIs_shape hb with ⟨j, u, rfl, e⟩ | ⟨y, u, rfl, e⟩
      · injection e with e1 _; rw [e1]
      · exact nomatch e
    · rcases keyIs_shape hb with ⟨j, u, rfl, e⟩ | ⟨y, u, rfl, e⟩
      · exact nomatch e
      · injection e with e1 _; rw [e1]
  byValue := fun k v h => by
    rcases keyIs_shape h with ⟨i, t, rfl, rfl⟩ | ⟨x, t, rfl, rfl⟩ <;> rfl
  pyHash := fun hv h => by
    rcases keyIs_shape hv with ⟨i, t, rfl, rfl⟩ | ⟨x, t, rfl, rfl⟩
    · exact wpAny_pyHash_int h
    · exact wpAny_pyHash_str h
  eqBool := fun hu hv h => by
    rcases keyIs_shape hu with ⟨i, t, rfl, rfl⟩ | ⟨x, t, rfl, rfl⟩
    · rcases keyIs_shape hv with ⟨j, u, rfl, rfl⟩ | ⟨y, u, rfl, rfl⟩
      · rw [key_ll] at h; exact wpAny_eqBool_int h
      · rw [key_lr] at h; exact SeqAt.EqAt.int_str i t y u _ _ _ _ h
    · rcases keyIs_shape hv with ⟨j, u, rfl, rfl⟩ | ⟨y, u, rfl, rfl⟩
      · rw [key_rl] at h; exact SeqAt.EqAt.str_int x t j u _ _ _ _ h
      · rw [key_rr] at h; exact wpAny_eqBool_str h
  «strs» := fun k x t v h => by
    rcases keyIs_shape h with ⟨i, u, rfl, e⟩ | ⟨y, u, rfl, e⟩
    · exact nomatch e
    · injection e with e1 _
      subst e1
      cases v <;> rfl
theorem mixKind_is (prog : Program) (w : World) (k : Key) (v : Value) : (mixKind prog w).is k v = keyIs k v := rfl
theorem mixKind_int (prog : Program) (w : World) (i : Int) (t : Tok) : (mixKind prog w).is (.inl i) (.int i t) = true := keyIs_int i t
theorem mixKind_str (prog : Program) (w : World) (x : Str) (t : Tok) : (mixKind prog w).is (.inr x) (.str x t) = true := keyIs_str x t
end L2
namespace L2
open PySem PySem.Spec PyProof.Rows
inductive V where
  | non | bl (b : Bool) | int (i : Int) | str (x : Str) | byt (b : Array UInt8) | flt (b : UInt64) | ref (a : Addr) | ty (n : String)
  deriving DecidableEq
def RelV : V → Value → Prop
  | .non, u => u = Value.none
  | .bl b, u => u = Value.bool b
  | .int i, u => ∃ t, u = Value.int i t
  | .str x, u => ∃ t, u = Value.str x t
  | .byt b, u => ∃ t, u = Value.bytes b t
  | .flt b, u => ∃ t, u = Value.float b t
  | .ref a, u => u = Value.ref a
  | .ty n, u => u = Value.type n
abbrev Vals : List V → List Value → Prop := Paired RelV
theorem Vals.length {xs : List V} {us : List Value} (r : Vals xs us) : xs.length = us.length := Paired.length r
theorem Vals.get : ∀ {xs : List V} {us : List Value} {i : Nat} {x : V}, Vals xs us → xs[i]? = some x → ∃ u, us[i]? = some u ∧ RelV x u
  | _, _, _, _, .nil, e => by simp at e
  | _, _, 0, _, .cons r _, e => by simp at e; subst e; exact ⟨_, rfl, r⟩
  | _, _, i + 1, x, .cons _ t, e => by
    obtain ⟨u, h1, h2⟩ := Vals.get (i := i) (x := x) t (by simpa using e)
    exact ⟨u, by simpa using h1, h2⟩
theorem Vals.set {x : V} {u : Value} (r : RelV x u) : ∀ {xs : List V} {us : List Value} (i : Nat), Vals xs us → Vals (xs.set i x) (us.set i u)
  | _, _, _, .nil => .nil
  | _, _, 0, .cons _ t => .cons r t
  | _, _, i + 1, .cons q t => .cons q (Vals.set r i t)
theorem Vals.append : ∀ {xs ys : List V} {us ws : List Value}, Vals xs us → Vals ys ws → Vals (xs ++ ys) (us ++ ws)
  | _, _, _, _, .nil, s => s
  | _, _, _, _, .cons r t, s => .cons r (Vals.append t s)
theorem Vals.take : ∀ {xs : List V} {us : List Value} (n : Nat), Vals xs us → Vals (xs.take n) (us.take n)
  | _, _, 0, _ => .nil
  | _, _, _ + 1, .nil => .nil
  | _, _, n + 1, .cons r t => .cons r (Vals.take n t)
theorem Vals.drop : ∀ {xs : List V} {us : List Value} (n : Nat), Vals xs us → Vals (xs.drop n) (us.drop n)
  | _, _, 0, r => r
  | _, _, _ + 1, .nil => .nil
  | _, _, n + 1, .cons _ t => Vals.drop n t
def RelO : Option V → Option Value → Prop
  | some v, some u => RelV v u
  | none, none => True
  | _, _ => False
def KV {κ : Type} : List (κ × V) → List (κ × Value) → Prop := Paired fun (p : κ × V) (q : κ × Value) => p.1 = q.1 ∧ RelV p.2 q.2
def kV : Key → V
  | .inl i => .int i
  | .inr x => .str x
inductive HO where
  | lst (xs : List V)
  | tup (xs : List V)
  | dK (kvs : List (Key × V)) | dT (kvs : List (List Key × V))
  | set (S : Int → Bool) (n : Nat)
  | tst (xs : List (List Int × Addr))
  | ins (C dx : Addr) (fs : List (Str × V))
  | own (x : Addr)
  | xd (fs : List (Str × V))
  | met (f x : Addr)
  | rng (lo hi : Int)
  | frz (o : Obj) (u : HO)
  | tbl (ps : Array Value)
  | ext (φ : Heap → Prop)
abbrev Hp := Addr → Option HO
def upd (H : Hp) (a : Addr) (o : HO) : Hp := fun b => if b = a then some o else H b
theorem upd_same {H : Hp} {a : Addr} {o : HO} : upd H a o a = some o := by unfold upd; rw [if_pos rfl]
theorem upd_ne {H : Hp} {a b : Addr} {o : HO} (h : b ≠ a) : upd H a o b = H b := by unfold upd; rw [if_neg h]
theorem ne_of {H : Hp} {a b : Addr} {o u : HO} (h : H a = some o) (h' : H b = some u) (d : o ≠ u) : a ≠ b := by
  intro e; subst e; rw [h] at h'; exact d (Option.some.inj h')
theorem ne_of_none {H : Hp} {a b : Addr} {o : HO} (h : H a = some o) (h' : H b = none) : a ≠ b := by
  intro e; subst e; rw [h] at h'; cases h'
section
variable (P : Program) (w : World)
def ObjOk (H : Hp) (h : Heap) (a : Addr) : HO → Prop
  | .lst xs => xs.length ≤ sizeLine ∧ ∃ (its : List Value) (n : Nat), Vals xs its ∧ h.get? a = some { cls := .type "list", data := .seq its.toArray n }
  | .tup xs => xs.length ≤ sizeLine ∧ ∃ its : List Value, Vals xs its ∧ IsTup h a its.toArray ∧ ∃ o, h.get? a = some o ∧ o.dict = none
  | .dK kvs => kvs.length ≤ sizeLine ∧ (a == sysModules) = false ∧ ∃ vs, KV kvs vs ∧ h.DictOf (mixKind P w) a vs
  | .dT kvs => kvs.length ≤ sizeLine ∧ (a == sysModules) = false ∧ ∃ xs : List (List Key × Addr × Value),
      Paired (fun (p : List Key × V) (q : List Key × Addr × Value) => p.1 = q.1 ∧ H q.2.1 = some (.tup (p.1.map kV)) ∧ RelV p.2 q.2.2) kvs xs ∧
      ∃ o es ep, h.get? a = some o ∧ o.ExactDict ∧ o.data = .dict es ep ∧ es.toList = xs.map (entryOfKey (tupleKind (mixKind P w))) ∧ (xs.map (·.1)).Nodup
  | .set S n => h.SetOf (intKind P w) a S n
  | .tst xs => ∃ o es ep t, h.get? a = some o ∧ SetOk w o es ep t xs
  | .ins C dx fs => H dx = some (.own a) ∧ fs.length ≤ 1000 ∧ dx ≠ a ∧ h.get? a = some (PySem.W.instObj C dx) ∧
      ∃ mA, h.Ns1 dx mA ∧ (∀ f, RelO (fs.lookup f) (mA f)) ∧ PySem.Within mA (fs.map (·.1))
  | .own _ => ∃ o, h.get? a = some o
  | .xd fs => ∃ mA, h.Ns1 a mA ∧ ∀ f, RelO (fs.lookup f) (mA f)
  | .rng lo hi => ∃ t u v, h.get? a = some { cls := .type "range", data := .fields #[.int lo t, .int hi u, .int 1 v] }
  | .frz o u => h.get? a = some o ∧ ObjOk H h a u
  | .tbl ps => h.get? a = some { cls := .none, data := .fields ps }
  | .met f x => h.get? a = some (PySem.W.methodObj (.ref f) (.ref x))
  | .ext φ => φ h ∧ (∃ o, h.get? a = some o) ∧ ∀ h1 h2 : Heap, φ h1 → (∀ o, h1.get? a = some o → h2.get? a = some o) → φ h2
def HOk (H : Hp) (h : Heap) : Prop := ∀ a o, H a = some o → ObjOk P w H h a o
end
section
variable {P : Program} {w : World} {H H' : Hp} {h h' : Heap} {a : Addr} {o : HO}
theorem ObjOk.lt (x : ObjOk P w H h a o) : a < h.objs.size := by
  cases o with
  | lst xs => obtain ⟨_, _, _, _, e⟩ := x; exact Heap.lt_size e
  | tup xs => obtain ⟨_, _, _, p, _⟩ := x; exact p.lt
  | dK kvs => obtain ⟨_, _, _, _, o, _, _, e, _⟩ := x; exact Heap.lt_size e
  | dT kvs => obtain ⟨_, _, _, _, o, _, _, e, _⟩ := x; exact Heap.lt_size e
  | set S n => obtain ⟨o, _, _, _, e, _⟩ := x; exact Heap.lt_size e
  | tst xs => obtain ⟨o, _, _, _, e, _⟩ := x; exact Heap.lt_size e
  | ins C dx fs => obtain ⟨_, _, _, e, _⟩ := x; exact Heap.lt_size e
  | own y => obtain ⟨_, e⟩ := x; exact Heap.lt_size e
  | xd fs => obtain ⟨_, ⟨_, _, _, e, _⟩, _⟩ := x; exact Heap.lt_size e
  | rng lo hi => obtain ⟨_, _, _, e⟩ := x; exact Heap.lt_size e
  | frz ob u => obtain ⟨e, _⟩ := x; exact Heap.lt_size e
  | tbl ps => exact Heap.lt_size (show h.get? a = some _ from x)
  | met f y => exact Heap.lt_size (show h.get? a = some _ from x)
  | ext φ => obtain ⟨_, ⟨_, e⟩, _⟩ := x; exact Heap.lt_size e
theorem Paired.mapP {α β : Type} {F G : α → β → Prop} : ∀ {l₁ : List α} {l₂ : List β}, Paired F l₁ l₂ → (∀ a b, F a b → G a b) → Paired G l₁ l₂
  | _, _, .nil, _ => .nil
  | _, _, .cons r t, f => .cons (f _ _ r) (Paired.mapP t f)
theorem ObjOk.stay (x : ObjOk P w H h a o) (k : ∀ b u, (b = a ∨ H b = some (.own a)) → h.get? b = some u → h'.get? b = some u)
    (ho : ∀ b, H b = some (.own a) → H' b = some (.own a)) (ht : ∀ b xs, H b = some (.tup xs) → H' b = some (.tup xs)) : ObjOk P w H' h' a o := by
  induction o with
  | lst xs => obtain ⟨z, its, n, r, e⟩ := x; exact ⟨z, its, n, r, k _ _ (.inl rfl) e⟩
  | tup xs => obtain ⟨z, its, r, ⟨ob, e, c⟩, ob2, e2, c2⟩ := x; exact ⟨z, its, r, ⟨ob, k _ _ (.inl rfl) e, c⟩, ob2, k _ _ (.inl rfl) e2, c2⟩
  | dK kvs => obtain ⟨z, y, vs, r, ob, es, ep, e, c⟩ := x; exact ⟨z, y, vs, r, ob, es, ep, k _ _ (.inl rfl) e, c⟩
  | dT kvs =>
    obtain ⟨z, y, xs, r, ob, es, ep, e, c⟩ := x
    exact ⟨z, y, xs, Paired.mapP r fun p q z => ⟨z.1, ht _ _ z.2.1, z.2.2⟩, ob, es, ep, k _ _ (.inl rfl) e, c⟩
  | set S n => obtain ⟨ob, es, ep, t, e, c⟩ := x; exact ⟨ob, es, ep, t, k _ _ (.inl rfl) e, c⟩
  | tst xs => obtain ⟨ob, es, ep, t, e, c⟩ := x; exact ⟨ob, es, ep, t, k _ _ (.inl rfl) e, c⟩
  | ins C dx fs =>
    obtain ⟨d, z, ne, e, mA, ⟨od, es, ep, e2, c⟩, r⟩ := x
    exact ⟨ho _ d, z, ne, k _ _ (.inl rfl) e, mA, ⟨od, es, ep, k _ _ (.inr d) e2, c⟩, r⟩
  | own y => obtain ⟨ob, e⟩ := x; exact ⟨ob, k _ _ (.inl rfl) e⟩
  | xd fs => obtain ⟨mA, ⟨od, es, ep, e, c⟩, r⟩ := x; exact ⟨mA, ⟨od, es, ep, k _ _ (.inl rfl) e, c⟩, r⟩
  | rng lo hi => obtain ⟨t, u, v, e⟩ := x; exact ⟨t, u, v, k _ _ (.inl rfl) e⟩
  | frz ob u ih => obtain ⟨e, q⟩ := x; exact ⟨k _ _ (.inl rfl) e, ih q⟩
  | tbl ps =>
    have e : h.get? a = some { cls := .none, data := .fields ps } := x
    show h'.get? a = some { cls := .none, data := .fields ps }
    exact k a _ (.inl rfl) e
  | met f y =>
    have e : h.get? a = some (PySem.W.methodObj (.ref f) (.ref y)) := x
    show h'.get? a = some (PySem.W.methodObj (.ref f) (.ref y))
    exact k a _ (.inl rfl) e
  | ext φ => obtain ⟨p, ⟨o, e⟩, st⟩ := x; exact ⟨st _ _ p fun o q => k _ _ (.inl rfl) q, ⟨o, k _ _ (.inl rfl) e⟩, st⟩
theorem HOk.lt (x : HOk P w H h) (e : H a = some o) : a < h.objs.size := (x a o e).lt
theorem HOk.fresh (x : HOk P w H h) (e : h.objs.size ≤ a) : H a = none := by
  cases q : H a with
  | none => rfl
  | some u => exact absurd (Nat.lt_of_lt_of_le (x.lt q) e) (Nat.lt_irrefl _)
theorem HOk.kept (x : HOk P w H h) (k : ∀ b u, h.get? b = some u → h'.get? b = some u) : HOk P w H h' := fun a o e =>
  (x a o e).stay (fun b u _ q => k b u q) (fun _ q => q) fun _ _ q => q
theorem HOk.laid (x : HOk P w H h) (k : ∀ b u, h.get? b = some u → h'.get? b = some u) (hp : h.objs.size ≤ a) (new : ObjOk P w (upd H a o) h' a o) : HOk P w (upd H a o) h' := fun b u e => by
  have hn := x.fresh hp
  by_cases hb : b = a
  · subst hb; rw [upd_same] at e; cases e; exact new
  · rw [upd_ne hb] at e
    exact (x b u e).stay (fun c v _ q => k c v q) (fun c q => by rw [upd_ne (ne_of_none q hn)]; exact q) fun c xs q => by rw [upd_ne (ne_of_none q hn)]; exact q
end
def Rd (H : Hp) (a : Addr) (u : HO) : Prop := H a = some u ∨ ∃ o, H a = some (.frz o u)
theorem Rd.ok {P : Program} {w : World} {H : Hp} {h : Heap} {a : Addr} {u : HO} (r : Rd H a u) (x : HOk P w H h) : ObjOk P w H h a u := by
  rcases r with r | ⟨o, r⟩
  · exact x a u r
  · obtain ⟨_, q⟩ := x a _ r
    exact q
def Mut : Option HO → Prop
  | some (.lst _) => True
  | some (.dK _) => True
  | some (.dT _) => True
  | some (.set _ _) => True
  | some (.tst _) => True
  | some (.ins _ _ _) => True
  | some (.ext _) => True
  | _ => False
section
variable {P : Program} {w : World} {H : Hp} {h h' : Heap} {x e : Addr} {o' : HO}
theorem HOk.write (ok : HOk P w H h) (mu : Mut (H x)) (he : e = x ∨ H e = some (.own x)) (k : ∀ b u, b ≠ e → h.get? b = some u → h'.get? b = some u) (heo : ∃ u, h'.get? e = some u)
    (new : ObjOk P w (upd H x o') h' x o') : HOk P w (upd H x o') h' := fun b u q => by
  have nown : ∀ c y, H c = some (.own y) → c ≠ x := fun c y r z => by subst z; rw [r] at mu; exact mu
  have ntup : ∀ c xs, H c = some (.tup xs) → c ≠ x := fun c xs r z => by subst z; rw [r] at mu; exact mu
  by_cases hb : b = x
  · subst hb; rw [upd_same] at q; cases q; exact new
  · rw [upd_ne hb] at q
    by_cases hbe : b = e
    · have q' : H b = some (.own x) := by
        rcases he with z | z
        · exact absurd (hbe.trans z) hb
        · rw [hbe]; exact z
      rw [q] at q'; cases q'
      obtain ⟨v, hv⟩ := heo
      exact ⟨v, by rw [hbe]; exact hv⟩
    · refine (ok b u q).stay (fun c v hc r => k c v ?_ r) (fun c r => by rw [upd_ne (nown c b r)]; exact r) fun c xs r => by rw [upd_ne (ntup c xs r)]; exact r
      rcases hc with rfl | hc
      · exact hbe
      · rintro rfl
        rcases he with z | z
        · exact nown c b hc z
        · rw [hc] at z; cases z; exact hb rfl
end
structure Un (fs ex : List Addr) (H H' : Hp) (h h' : Heap) : Prop where
  keep : ∀ b o, h.get? b = some o → H b = none → b ∉ fs → b ∉ ex → h'.get? b = some o
  slot : ∀ b o, h.get? b = some o → H b = none → b ∈ fs → b ∉ ex → ∃ sl, h'.get? b = some { o with slots := sl }
  free : ∀ b o, h.get? b = some o → H b = none → b ∉ ex → H' b = none
  there : ∀ b o, h.get? b = some o → b ∉ ex → ∃ o', h'.get? b = some o'
  tups : ∀ b xs, H b = some (.tup xs) → H' b = some (.tup xs)
  frzs : ∀ b o u, H b = some (.frz o u) → H' b = some (.frz o u)
  tbls : ∀ b ps, H b = some (.tbl ps) → ∃ more, H' b = some (.tbl (ps ++ more))
section
variable {fs fs' ex ex' : List Addr} {H H1 H2 : Hp} {h h1 h2 h' : Heap} {a x e : Addr} {o : HO}
theorem Un.any (u : Un fs ex H H1 h h1) {b : Addr} {ob : Obj} (q : h.get? b = some ob) (n : H b = none) (hx : b ∉ ex) : ∃ sl, h1.get? b = some { ob with slots := sl } := by
  by_cases hb : b ∈ fs
  · exact u.slot b ob q n hb hx
  · exact ⟨ob.slots, u.keep b ob q n hb hx⟩
theorem Un.trans (a : Un fs ex H H1 h h1) (b : Un fs ex H1 H2 h1 h2) : Un fs ex H H2 h h2 where
  keep := fun c ob q n hc hx => b.keep c ob (a.keep c ob q n hc hx) (a.free c ob q n hx) hc hx
  slot := fun c ob q n hc hx => by
    obtain ⟨sl, e1⟩ := a.slot c ob q n hc hx
    obtain ⟨sl', e2⟩ := b.slot c _ e1 (a.free c ob q n hx) hc hx
    exact ⟨sl', e2⟩
  free := fun c ob q n hx => by
    obtain ⟨o', e1⟩ := a.there c ob q hx
    exact b.free c o' e1 (a.free c ob q n hx) hx
  there := fun c ob q hx => by
    obtain ⟨o', e1⟩ := a.there c ob q hx
    exact b.there c o' e1 hx
  tups := fun c xs q => b.tups c xs (a.tups c xs q)
  frzs := fun c ob xs q => b.frzs c ob xs (a.frzs c ob xs q)
  tbls := fun c ps q => by
    obtain ⟨m1, e1⟩ := a.tbls c ps q
    obtain ⟨m2, e2⟩ := b.tbls c _ e1
    exact ⟨m1 ++ m2, by rw [e2, Array.append_assoc]⟩
theorem Un.kept (k : ∀ b u, h.get? b = some u → h'.get? b = some u) : Un fs ex H H h h' :=
  ⟨fun b ob q _ _ _ => k b ob q, fun b ob q _ _ _ => ⟨ob.slots, k b ob q⟩, fun _ _ _ n _ => n, fun b ob q _ => ⟨ob, k b ob q⟩, fun _ _ q => q, fun _ _ _ q => q, fun _ ps q => ⟨#[], by rw [q]; simp⟩⟩
theorem Un.refl : Un fs ex H H h h := Un.kept fun _ _ q => q
theorem Un.laid (k : ∀ b u, h.get? b = some u → h'.get? b = some u) (hp : h.objs.size ≤ a) (hn : H a = none) : Un fs ex H (upd H a o) h h' where
  keep := fun b u q _ _ _ => k b u q
  slot := fun b u q _ _ _ => ⟨u.slots, k b u q⟩
  free := fun b u q n _ => by rw [upd_ne (Nat.ne_of_lt (Nat.lt_of_lt_of_le (Heap.lt_size q) hp))]; exact n
  there := fun b u q _ => ⟨u, k b u q⟩
  tups := fun b xs q => by rw [upd_ne (ne_of_none q hn)]; exact q
  frzs := fun b u xs q => by rw [upd_ne (ne_of_none q hn)]; exact q
  tbls := fun b ps q => ⟨#[], by rw [upd_ne (ne_of_none q hn), q]; simp⟩
theorem Un.write (mu : Mut (H x)) (he : e = x ∨ H e = some (.own x)) (k : ∀ b u, b ≠ e → h.get? b = some u → h'.get? b = some u) (heo : ∃ u, h'.get? e = some u) : Un fs ex H (upd H x o) h h' := by
  have hx : ∀ b, H b = none → b ≠ x := fun b n z => by subst z; rw [n] at mu; exact mu
  have hb : ∀ b, H b = none → b ≠ e := fun b n z => by
    subst z
    rcases he with r | r
    · exact hx b n r
    · rw [n] at r; cases r
  have hm : ∀ b u, H b = some u → ¬ Mut (some u) → b ≠ x := fun b u q nm z => by subst z; rw [q] at mu; exact nm mu
  refine ⟨fun b u q n _ _ => k b u (hb b n) q, fun b u q n _ _ => ⟨u.slots, k b u (hb b n) q⟩, fun b u q n _ => by rw [upd_ne (hx b n)]; exact n, fun b u q _ => ?_,
    fun b xs q => by rw [upd_ne (hm b _ q fun z => z)]; exact q, fun b u xs q => by rw [upd_ne (hm b _ q fun z => z)]; exact q, fun b ps q => ⟨#[], by rw [upd_ne (hm b _ q fun z => z), q]; simp⟩⟩
  by_cases hbe : b = e
  · subst hbe; exact heo
  · exact ⟨u, k b u hbe q⟩
end
def trk (h : Heap) (H : Hp) : List Addr := (List.range h.objs.size).filter fun a => (H a).isSome
def hidT (h : Heap) (H : Hp) : Heap := PySem.W.hideAll h (trk h H)
theorem hidT_size (h : Heap) (H : Hp) : (hidT h H).objs.size = h.objs.size := PySem.W.hideAll_size _ _
theorem hidT_get {h : Heap} {H : Hp} {b : Addr} {o : Obj} (e : h.get? b = some o) (n : H b = none) : (hidT h H).get? b = some o :=
  PySem.W.hideAll_get _ e fun hm => by
    have q : (H b).isSome = true := (List.mem_filter.mp hm).2
    rw [n] at q; simp at q
theorem of_hidT {h : Heap} {H : Hp} {b : Addr} {o : Obj} (e : (hidT h H).get? b = some o) : h.get? b = some o ∧ H b = none := by
  have e' : h.get? b = some o := PySem.W.of_hideAll (trk h H) e
  refine ⟨e', ?_⟩
  cases q : H b with
  | none => rfl
  | some x =>
    have hm : b ∈ trk h H := List.mem_filter.mpr ⟨List.mem_range.mpr (Heap.lt_size e'), by simp [q]⟩
    have z : (hidT h H).get? b = none := PySem.W.hideAll_none (trk h H) hm
    rw [z] at e; cases e
end L2
namespace L2
open PySem PySem.Spec PyProof.Rows
structure Mod (K : PySem.W.Frag) (mg : Str → Option Value) (base : Heap) : Prop where
  kin : K.In base
  glob : base.Ns mainGlobals mg
  blt : ∃ mb, base.Ns builtinsNs mb ∧ ∀ x : Str, x ≠ "__name__" → mb x = bootBuiltins x
  nolimit : base.NoLimit
structure Cx where
  prog : Program
  w : World
  K : PySem.W.Frag
  mg : Str → Option Value
  base : Heap
  A : Around
  N : List Str
  s₀ : Shared
  H₀ : Hp
  env : Env
  outer : List Env
  stack : List Env
  ex : List Addr
  fn : Str → Bool
  calm : Bool
  pn : List (Addr × Obj)
  xe : Value → Shared → Prop
def frs (l : List Env) : List Addr := l.filterMap (·.frame)
abbrev Cx.fs (X : Cx) : List Addr := frs X.outer
def Vis (sc : Scope) (x : Str) : Prop := sc.names.lookup x = some .local ∨ sc.names.lookup x = some .cell ∨ sc.names.lookup x = some .free
def Loc (sc : Scope) (x : Str) : Prop := sc.names.lookup x = some .local ∨ sc.names.lookup x = some .cell
def Look (env : Env) (h : Heap) (m : Str → Option Value) (x : Str) (u : Value) : Prop :=
  (env.kindOf x = some .local ∧ m x = some u) ∨ ((env.kindOf x = some .cell ∨ env.kindOf x = some .free) ∧ ∃ c, env.cells.lookup x = some c ∧ h.IsCell c (some u))
structure Cx.Ok (X : Cx) : Prop where
  mod : Mod X.K X.mg X.base
  kind : X.env.scope.kind = .function
  glob : X.env.globals = mainGlobals
  blt : X.env.builtins = builtinsNs
  above : X.s₀.heap.objs.size ≤ X.env.locals
  inj : ∀ x y c, X.env.cells.lookup x = some c → X.env.cells.lookup y = some c → x = y
  has : ∀ x, (X.env.kindOf x = some .cell ∨ X.env.kindOf x = some .free) → ∃ c, X.env.cells.lookup x = some c
  cab : ∀ x c, X.fn x = true → X.env.cells.lookup x = some c → X.s₀.heap.objs.size ≤ c
  hd : X.calm = true → X.A.handled = none
  frames : X.A.frames = some X.stack
  stk : X.stack = X.outer ∨ (X.stack = X.env :: X.outer ∧ X.env.frame = some X.env.locals)
  exf : ∀ b ∈ X.ex, b ≠ X.env.locals ∧ ∀ x c, X.env.cells.lookup x = some c → c ≠ b
  bs : ∀ b o, X.base.get? b = some o → X.s₀.heap.get? b = some o ∧ X.H₀ b = none
  bsz : X.base.objs.size ≤ X.s₀.heap.objs.size
  noex : ∀ b o, X.base.get? b = some o → b ∉ X.ex
  exfs : ∀ b ∈ X.ex, b ∉ X.fs
  funs : X.s₀.heap.FunFrames X.base X.outer
  frf : ∀ b ∈ X.fs, X.H₀ b = none
structure Inv (X : Cx) (pins : List (Addr × Obj)) (σ : List (Option V)) (H : Hp) (s : Shared) : Prop where
  ok : X.Ok
  os : s.os = X.s₀.os
  bare : AllBare s.gens
  base : Un X.fs X.ex X.H₀ H X.s₀.heap s.heap
  loc : ∃ m, s.heap.Ns X.env.locals m ∧ ∀ (i : Nat) (x : Str) (v : V), X.N[i]? = some x → σ[i]? = some (some v) → Vis X.env.scope x → ∃ u, RelV v u ∧ Look X.env s.heap m x u
  cell : ∀ x c, X.env.cells.lookup x = some c → ∃ v, s.heap.IsCell c v
  free : H X.env.locals = none
  freeC : ∀ x c, X.env.cells.lookup x = some c → H c = none
  pin : ∀ p ∈ X.pn ++ pins, s.heap.get? p.1 = some p.2 ∧ H p.1 = none ∧ p.1 ≠ X.env.locals ∧ p.1 ∉ X.fs ∧ ∀ v, p.2.data ≠ .cell v
  hok : HOk X.prog X.w H s.heap
  len : σ.length = X.N.length
section
variable {X : Cx} {pins : List (Addr × Obj)} {σ : List (Option V)} {H H' : Hp} {s : Shared} {h' : Heap}
theorem Cx.Ok.nofr (ok : X.Ok) {b : Addr} {o : Obj} (e : X.base.get? b = some o) : b ∉ X.fs := fun hb => by
  have := (ok.funs.mem hb).1
  rw [e] at this; cases this
theorem Inv.bs (I : Inv X pins σ H s) : ∀ b o, X.base.get? b = some o → s.heap.get? b = some o ∧ H b = none := fun b o e =>
  ⟨I.base.keep b o (I.ok.bs b o e).1 (I.ok.bs b o e).2 (I.ok.nofr e) (I.ok.noex b o e), I.base.free b o (I.ok.bs b o e).1 (I.ok.bs b o e).2 (I.ok.noex b o e)⟩
theorem Inv.bk (I : Inv X pins σ H s) : ∀ b o, X.base.get? b = some o → s.heap.get? b = some o := fun b o e => (I.bs b o e).1
theorem Inv.mod (I : Inv X pins σ H s) : Mod X.K X.mg X.base := I.ok.mod
theorem Inv.kIn (I : Inv X pins σ H s) : X.K.In s.heap := I.ok.mod.kin.keeps I.bk
theorem Inv.lt (I : Inv X pins σ H s) : X.env.locals < s.heap.objs.size := let ⟨_, hn, _⟩ := I.loc; hn.lt
theorem Inv.sz (I : Inv X pins σ H s) : X.s₀.heap.objs.size ≤ s.heap.objs.size := Nat.le_trans I.ok.above (Nat.le_of_lt I.lt)
theorem Inv.nofs (I : Inv X pins σ H s) {a : Addr} (h : s.heap.objs.size ≤ a) : a ∉ X.fs := fun hb => by
  obtain ⟨_, o, ho, _⟩ := I.ok.funs.mem hb
  exact absurd (Nat.lt_of_lt_of_le (Heap.lt_size ho) (Nat.le_trans I.sz h)) (Nat.lt_irrefl _)
theorem Inv.cne (I : Inv X pins σ H s) : ∀ x c, X.env.cells.lookup x = some c → c ≠ X.env.locals := fun x c e z => by
  obtain ⟨v, o, ho, hd⟩ := I.cell x c e
  obtain ⟨m, ⟨o', es, ep, ho', hd', _⟩, _⟩ := I.loc
  rw [z, ho'] at ho; cases ho; rw [hd'] at hd; cases hd
theorem Inv.funs (I : Inv X pins σ H s) : s.heap.FunFrames X.base X.outer := by
  have all : ∀ (l : List Env), (∀ b ∈ frs l, b ∈ X.fs) → X.s₀.heap.FunFrames X.base l → s.heap.FunFrames X.base l := by
    intro l
    induction l with
    | nil => intro _ _; trivial
    | cons env r ih =>
      intro hs hl
      obtain ⟨hk, ⟨L, o, hf, hn, ho, hd⟩, hr⟩ := hl
      have hL : L ∈ X.fs := hs L (by unfold frs; rw [List.filterMap_cons, hf]; exact List.mem_cons_self)
      obtain ⟨sl, e⟩ := I.base.slot L o ho (I.ok.frf L hL) hL fun z => I.ok.exfs L z hL
      exact ⟨hk, ⟨L, _, hf, hn, e, hd⟩, ih (fun b hb => hs b (by unfold frs; rw [List.filterMap_cons, hf]; exact List.mem_cons_of_mem _ hb)) hr⟩
  exact all X.outer (fun _ hb => hb) I.ok.funs
theorem Inv.stack (I : Inv X pins σ H s) : s.heap.FunFrames X.base X.stack := by
  rcases I.ok.stk with e | ⟨e, hf⟩
  · rw [e]; exact I.funs
  · rw [e]
    obtain ⟨m, hn, _⟩ := I.loc
    refine .cons (by rw [I.ok.kind]; decide) hf hn ?_ I.funs
    exact Heap.get?_none_of_le (Nat.le_trans I.ok.bsz I.ok.above)
theorem Inv.stkSub (I : Inv X pins σ H s) : ∀ b ∈ frs X.stack, b ∈ X.env.locals :: X.fs := fun b hb => by
  rcases I.ok.stk with e | ⟨e, hf⟩
  · rw [e] at hb; exact List.mem_cons_of_mem _ hb
  · rw [e] at hb
    unfold frs at hb
    rw [List.filterMap_cons, hf] at hb
    exact hb
theorem Inv.stkFree (I : Inv X pins σ H s) : ∀ b ∈ frs X.stack, H b = none := fun b hb => by
  rcases List.mem_cons.mp (I.stkSub b hb) with e | hb
  · rw [e]; exact I.free
  · obtain ⟨_, o, ho, _⟩ := I.ok.funs.mem hb
    exact I.base.free b o ho (I.ok.frf b hb) fun z => I.ok.exfs b z hb
theorem Inv.step {g' : Array GenState} {t' : Nat} {d' : Drawn} {ch : List Addr} (I : Inv X pins σ H s)
    (hch : ∀ b ∈ ch, (b ∈ X.ex ∨ X.s₀.heap.objs.size ≤ b) ∧ b ≠ X.env.locals ∧ (∀ x c, X.env.cells.lookup x = some c → c ≠ b) ∧ ∀ p ∈ X.pn ++ pins, p.1 ≠ b)
    (keep : ∀ b o, b ≠ X.env.locals → b ∉ X.fs → b ∉ ch → s.heap.get? b = some o → H b = none → h'.get? b = some o)
    (slot : ∀ b o, b ≠ X.env.locals → b ∈ X.fs → b ∉ ch → s.heap.get? b = some o → H b = none → ∃ sl, h'.get? b = some { o with slots := sl }) (free : ∀ b o, b ∉ ch → s.heap.get? b = some o → H b = none → H' b = none)
    (there : ∀ b o, b ∉ ch → s.heap.get? b = some o → ∃ o', h'.get? b = some o')
    (tups : ∀ b xs, H b = some (.tup xs) → H' b = some (.tup xs)) (frzs : ∀ b o u, H b = some (.frz o u) → H' b = some (.frz o u)) (tbls : ∀ b ps, H b = some (.tbl ps) → ∃ more, H' b = some (.tbl (ps ++ more)))
    (ns : ∀ m, s.heap.Ns X.env.locals m → h'.Ns X.env.locals m) (hok : HOk X.prog X.w H' h') (hg : AllBare g') :
    Inv X pins σ H' { s with heap := h', gens := g', drawn := d', toks := t' } := by
  have neL : ∀ b o, X.s₀.heap.get? b = some o → b ≠ X.env.locals := fun b o e => Nat.ne_of_lt (Nat.lt_of_lt_of_le (Heap.lt_size e) I.ok.above)
  have neC : ∀ b o, X.s₀.heap.get? b = some o → b ∉ X.ex → b ∉ ch := fun b o e hx hb => by
    rcases (hch b hb).1 with z | z
    · exact hx z
    · exact absurd (Nat.lt_of_lt_of_le (Heap.lt_size e) z) (Nat.lt_irrefl _)
  have cellK : ∀ x c, X.env.cells.lookup x = some c → ∀ v, s.heap.IsCell c v → h'.IsCell c v := fun x c e v hq_ => by
    obtain ⟨o, ho, hd⟩ := hq_
    have nch : c ∉ ch := fun z => (hch c z).2.2.1 x c e rfl
    by_cases hc : c ∈ X.fs
    · obtain ⟨sl, q⟩ := slot c o (I.cne x c e) hc nch ho (I.freeC x c e)
      exact ⟨_, q, hd⟩
    · exact ⟨o, keep c o (I.cne x c e) hc nch ho (I.freeC x c e), hd⟩
  refine ⟨I.ok, I.os, hg, ⟨fun b o e n hb hx => ?_, fun b o e n hb hx => ?_, fun b o e n hx => ?_, fun b o e hx => ?_, fun b xs e => tups b xs (I.base.tups b xs e), fun b o xs e => frzs b o xs (I.base.frzs b o xs e), fun b ps e => ?_⟩, ?_, fun x c e => ?_, ?_, fun x c e => ?_, fun p hp => ?_, hok, I.len⟩
  · exact keep b o (neL b o e) hb (neC b o e hx) (I.base.keep b o e n hb hx) (I.base.free b o e n hx)
  · obtain ⟨sl, e1⟩ := I.base.slot b o e n hb hx
    obtain ⟨sl', e2⟩ := slot b _ (neL b o e) hb (neC b o e hx) e1 (I.base.free b o e n hx)
    exact ⟨sl', e2⟩
  · obtain ⟨o', e1⟩ := I.base.there b o e hx
    exact free b o' (neC b o e hx) e1 (I.base.free b o e n hx)
  · obtain ⟨o', e1⟩ := I.base.there b o e hx
    exact there b o' (neC b o e hx) e1
  · obtain ⟨m1, e1⟩ := I.base.tbls b ps e
    obtain ⟨m2, e2⟩ := tbls b _ e1
    exact ⟨m1 ++ m2, by rw [e2, Array.append_assoc]⟩
  · obtain ⟨m, hn, hl⟩ := I.loc
    refine ⟨m, ns m hn, fun i x v e1 e2 e3 => ?_⟩
    obtain ⟨u, r, l⟩ := hl i x v e1 e2 e3
    refine ⟨u, r, ?_⟩
    rcases l with l | ⟨k, c, e, z⟩
    · exact .inl l
    · exact .inr ⟨k, c, e, cellK x c e _ z⟩
  · obtain ⟨v, z⟩ := I.cell x c e
    exact ⟨v, cellK x c e v z⟩
  · obtain ⟨m, ⟨o, _, _, ho, _⟩, _⟩ := I.loc
    exact free _ o (fun z => (hch _ z).2.1 rfl) ho I.free
  · obtain ⟨v, o, ho, hd⟩ := I.cell x c e
    exact free c o (fun z => (hch c z).2.2.1 x c e rfl) ho (I.freeC x c e)
  · obtain ⟨e, n, ne, nf, d⟩ := I.pin p hp
    have nch : p.1 ∉ ch := fun z => (hch p.1 z).2.2.2 p hp rfl
    exact ⟨keep p.1 p.2 ne nf nch e n, free p.1 p.2 nch e n, ne, nf, d⟩
theorem Inv.un {t' : Nat} (I : Inv X pins σ H s) (u : Un X.fs [] H H' s.heap h') (hok : HOk X.prog X.w H' h') : Inv X pins σ H' { s with heap := h', toks := t' } := by
  obtain ⟨m, ⟨o, es, ep, ho, r⟩, _⟩ := id I.loc
  obtain ⟨sl, hL⟩ := u.any ho I.free (by simp)
  exact I.step (g' := s.gens) (d' := s.drawn) (ch := []) (fun _ z => nomatch z) (fun b o _ hb _ e n => u.keep b o e n hb (by simp)) (fun b o _ hb _ e n => u.slot b o e n hb (by simp)) (fun b o _ e n => u.free b o e n (by simp)) (fun b o _ e => u.there b o e (by simp)) u.tups u.frzs u.tbls (fun m' hm => by
    obtain ⟨o', es', ep', ho', r'⟩ := hm
    rw [ho] at ho'; cases ho'
    exact ⟨_, es', ep', hL, r'⟩) hok I.bare
theorem Inv.call {g' : Array GenState} {t' : Nat} {d' : Drawn} {ch : List Addr} (I : Inv X pins σ H s) (u : Un (frs X.stack) ch H H' s.heap h') (hok : HOk X.prog X.w H' h') (hg : AllBare g')
    (hch : ∀ b ∈ ch, (b ∈ X.ex ∨ X.s₀.heap.objs.size ≤ b) ∧ b ≠ X.env.locals ∧ (∀ x c, X.env.cells.lookup x = some c → c ≠ b) ∧ ∀ p ∈ X.pn ++ pins, p.1 ≠ b) :
    Inv X pins σ H' { s with heap := h', gens := g', drawn := d', toks := t' } := by
  obtain ⟨m, ⟨o, es, ep, ho, r⟩, _⟩ := id I.loc
  obtain ⟨sl, hL⟩ := u.any ho I.free fun z => (hch _ z).2.1 rfl
  exact I.step (ch := ch) hch (fun b o hL hb hc e n => u.keep b o e n (fun z => (List.mem_cons.mp (I.stkSub b z)).elim hL hb) hc) (fun b o _ _ hc e n => u.any e n hc) (fun b o hc e n => u.free b o e n hc) (fun b o hc e => u.there b o e hc) u.tups u.frzs u.tbls (fun m' hm => by
    obtain ⟨o', es', ep', ho', r'⟩ := hm
    rw [ho] at ho'; cases ho'
    exact ⟨_, es', ep', hL, r'⟩) hok hg
theorem Inv.turned {t' : Nat} {it : Addr} (I : Inv X pins σ H s) (k : ∀ b o, b ≠ it → s.heap.get? b = some o → h'.get? b = some o) (hn : H it = none) (hL : it ≠ X.env.locals)
    (h1 : it ∈ X.ex ∨ X.s₀.heap.objs.size ≤ it) (h2 : ∀ x c, X.env.cells.lookup x = some c → c ≠ it) (h3 : ∀ p ∈ X.pn ++ pins, p.1 ≠ it) : Inv X pins σ H { s with heap := h', toks := t' } := by
  have nit : ∀ b u, H b = some u → b ≠ it := fun b u e z => by rw [z, hn] at e; cases e
  refine I.step (g' := s.gens) (d' := s.drawn) (ch := [it]) (fun b hb => ?_) (fun b o _ _ hc e _ => k b o (fun z => hc (by simp [z])) e) (fun b o _ _ hc e _ => ⟨o.slots, k b o (fun z => hc (by simp [z])) e⟩) (fun _ _ _ _ n => n)
    (fun b o hc e => ⟨o, k b o (fun z => hc (by simp [z])) e⟩) (fun _ _ e => e) (fun _ _ _ e => e) (fun b ps e => ⟨#[], by rw [e]; simp⟩) (fun m hm => ?_) (fun b u e => ?_) I.bare
  · have e : b = it := by simpa using hb
    subst e
    exact ⟨h1, hL, h2, h3⟩
  · obtain ⟨o, es, ep, ho, r⟩ := hm
    exact ⟨o, es, ep, k _ o (Ne.symm hL) ho, r⟩
  · refine (I.hok b u e).stay (fun c v hc q => k c v ?_ q) (fun _ q => q) fun _ _ q => q
    rcases hc with z | z
    · rw [z]; exact nit b u e
    · exact nit c _ z
theorem Inv.tok (I : Inv X pins σ H s) (t : Nat) : Inv X pins σ H { s with toks := t } := I.un (h' := s.heap) (t' := t) Un.refl I.hok
theorem Inv.kept {t' : Nat} (I : Inv X pins σ H s) (k : ∀ b u, s.heap.get? b = some u → h'.get? b = some u) : Inv X pins σ H { s with heap := h', toks := t' } := I.un (Un.kept k) (I.hok.kept k)
theorem Inv.laid {a : Addr} {o : HO} {t' : Nat} (I : Inv X pins σ H s) (k : ∀ b u, s.heap.get? b = some u → h'.get? b = some u) (hp : s.heap.objs.size ≤ a) (new : ObjOk X.prog X.w (upd H a o) h' a o) :
    Inv X pins σ (upd H a o) { s with heap := h', toks := t' } := I.un (Un.laid k hp (I.hok.fresh hp)) (I.hok.laid k hp new)
theorem Inv.write {x e : Addr} {o : HO} {t' : Nat} (I : Inv X pins σ H s) (mu : Mut (H x)) (he : e = x ∨ H e = some (.own x)) (k : ∀ b u, b ≠ e → s.heap.get? b = some u → h'.get? b = some u) (heo : ∃ u, h'.get? e = some u)
    (new : ObjOk X.prog X.w (upd H x o) h' x o) : Inv X pins σ (upd H x o) { s with heap := h', toks := t' } := I.un (Un.write mu he k heo) (I.hok.write mu he k heo new)
theorem Inv.pins_of {pins' : List (Addr × Obj)} (I : Inv X pins σ H s) (h : ∀ p ∈ pins', s.heap.get? p.1 = some p.2 ∧ H p.1 = none ∧ p.1 ≠ X.env.locals ∧ p.1 ∉ X.fs ∧ ∀ v, p.2.data ≠ .cell v) : Inv X pins' σ H s :=
  ⟨I.ok, I.os, I.bare, I.base, I.loc, I.cell, I.free, I.freeC, fun p hp => (List.mem_append.mp hp).elim (fun z => I.pin p (List.mem_append_left _ z)) (h p), I.hok, I.len⟩
theorem nodup_ix {N : List Str} (hN : N.Nodup) {i j : Nat} {x : Str} (a : N[i]? = some x) (b : N[j]? = some x) : i = j := by
  obtain ⟨h1, e1⟩ := List.getElem?_eq_some_iff.mp a
  obtain ⟨h2, e2⟩ := List.getElem?_eq_some_iff.mp b
  exact (List.getElem_inj hN).mp (e1.trans e2.symm)
theorem store_ok2 {M : Model} {A : Around} {E : Value → Shared → Prop} {i : Nat} {x : Str} {v : V} {u : Value} {Q : Unit → Shared → Prop} (I : Inv X pins σ H s) (hN : X.N.Nodup) (hi : X.N[i]? = some x) (hx : Loc X.env.scope x) (r : RelV v u)
    (h : ∀ s', Inv X pins (σ.set i (some v)) H s' → (∃ a, Heap.SameBut a s.heap s'.heap ∧ (a = X.env.locals ∨ X.env.cells.lookup x = some a)) → Q () s') (hf : X.fn x = true ∨ X.env.scope.names.lookup x = some .local := by first | exact .inl rfl | exact .inr rfl | assumption) : wpAny M A (storeName X.env x u) Q E s := by
  obtain ⟨m, hn, hl⟩ := id I.loc
  have hcls : (X.env.scope.kind == .class || (X.env.scope.kind == .module && X.env.locals != X.env.globals)) = false := by rw [I.ok.kind]; rfl
  have hiσ : i < σ.length := by rw [I.len]; exact (List.getElem?_eq_some_iff.mp hi).1
  have cne := I.cne
  have tracked : ∀ {a : Addr} {h' : Heap}, (∃ o, s.heap.get? a = some o ∧ H a = none) → Heap.SameBut a s.heap h' → HOk X.prog X.w H h' := fun {a h'} ha hs b ob e => by
    obtain ⟨_, _, hfree⟩ := ha
    refine (I.hok b ob e).stay (fun c w' hc q => (hs.2 c ?_).trans q) (fun _ q => q) fun _ _ q => q
    rintro rfl
    rcases hc with rfl | hc
    · rw [hfree] at e; cases e
    · rw [hfree] at hc; cases hc
  rcases hx with hk | hk
  · refine wpAny_storeName_local hk hn (fun h' hn' hs => ?_) hcls
    obtain ⟨oL, _, _, hoL, _⟩ := id hn
    refine h _ ⟨I.ok, I.os, I.bare, ⟨fun b o e n hb hx => ?_, fun b o e n hb hx => ?_, I.base.free, fun b o e hx => ?_, I.base.tups, I.base.frzs, I.base.tbls⟩, ⟨_, hn', fun j y v' e1 e2 e3 => ?_⟩, fun y c e => ?_, I.free, I.freeC, fun p hp => ?_, tracked ⟨oL, hoL, I.free⟩ hs, by simpa using I.len⟩ ⟨_, hs, .inl rfl⟩
    · exact (hs.2 b (Nat.ne_of_lt (Nat.lt_of_lt_of_le (Heap.lt_size e) I.ok.above))).trans (I.base.keep b o e n hb hx)
    · obtain ⟨sl, e1⟩ := I.base.slot b o e n hb hx
      exact ⟨sl, (hs.2 b (Nat.ne_of_lt (Nat.lt_of_lt_of_le (Heap.lt_size e) I.ok.above))).trans e1⟩
    · obtain ⟨o', e1⟩ := I.base.there b o e hx
      exact ⟨o', (hs.2 b (Nat.ne_of_lt (Nat.lt_of_lt_of_le (Heap.lt_size e) I.ok.above))).trans e1⟩
    · by_cases hj : j = i
      · subst hj
        rw [hi] at e1; cases e1
        rw [List.getElem?_set_self hiσ] at e2
        cases e2
        exact ⟨u, r, .inl ⟨hk, by simp⟩⟩
      · rw [List.getElem?_set_ne (Ne.symm hj)] at e2
        obtain ⟨u', r', q⟩ := hl j y v' e1 e2 e3
        refine ⟨u', r', ?_⟩
        rcases q with ⟨k, e⟩ | ⟨k, c, e, z⟩
        · refine .inl ⟨k, ?_⟩
          have : y ≠ x := fun e => hj (nodup_ix hN e1 (e ▸ hi))
          simp [this, e]
        · exact .inr ⟨k, c, e, z.sameBut hs (cne y c e)⟩
    · obtain ⟨w', z⟩ := I.cell y c e
      exact ⟨w', z.sameBut hs (cne y c e)⟩
    · obtain ⟨e, n, ne, nf, d⟩ := I.pin p hp
      exact ⟨(hs.2 p.1 ne).trans e, n, ne, nf, d⟩
  · have hfn : X.fn x = true := by
      rcases hf with z | z
      · exact z
      · rw [z] at hk; cases hk
    obtain ⟨c, hc⟩ := I.ok.has x (.inl hk)
    obtain ⟨w', z⟩ := I.cell x c hc
    refine wpAny_storeName_cell I.ok.kind hk hc z (fun h' hc' hs => ?_)
    obtain ⟨oc, hoc, hocd⟩ := id z
    refine h { s with heap := h' } ⟨I.ok, I.os, I.bare, ⟨fun b o e n hb hx => ?_, fun b o e n hb hx => ?_, I.base.free, fun b o e hx => ?_, I.base.tups, I.base.frzs, I.base.tbls⟩, ⟨m, hn.sameBut hs (Ne.symm (cne x c hc)), fun j y v' e1 e2 e3 => ?_⟩, fun y c' e => ?_, I.free, I.freeC, fun p hp => ?_, tracked ⟨oc, hoc, I.freeC x c hc⟩ hs, by simpa using I.len⟩ ⟨c, hs, .inr hc⟩
    · exact (hs.2 b (Nat.ne_of_lt (Nat.lt_of_lt_of_le (Heap.lt_size e) (I.ok.cab x c hfn hc)))).trans (I.base.keep b o e n hb hx)
    · obtain ⟨sl, e1⟩ := I.base.slot b o e n hb hx
      exact ⟨sl, (hs.2 b (Nat.ne_of_lt (Nat.lt_of_lt_of_le (Heap.lt_size e) (I.ok.cab x c hfn hc)))).trans e1⟩
    · obtain ⟨o', e1⟩ := I.base.there b o e hx
      exact ⟨o', (hs.2 b (Nat.ne_of_lt (Nat.lt_of_lt_of_le (Heap.lt_size e) (I.ok.cab x c hfn hc)))).trans e1⟩
    · by_cases hj : j = i
      · subst hj
        rw [hi] at e1; cases e1
        rw [List.getElem?_set_self hiσ] at e2
        cases e2
        exact ⟨u, r, .inr ⟨.inl hk, c, hc, hc'⟩⟩
      · rw [List.getElem?_set_ne (Ne.symm hj)] at e2
        obtain ⟨u', r', q⟩ := hl j y v' e1 e2 e3
        refine ⟨u', r', ?_⟩
        rcases q with q | ⟨k, c', e, z'⟩
        · exact .inl q
        · refine .inr ⟨k, c', e, z'.sameBut hs ?_⟩
          rintro rfl
          exact hj (nodup_ix hN e1 (I.ok.inj _ _ _ e hc ▸ hi))
    · by_cases hcc : c' = c
      · subst hcc; exact ⟨_, hc'⟩
      · obtain ⟨w2, z2⟩ := I.cell y c' e
        exact ⟨w2, z2.sameBut hs hcc⟩
    · obtain ⟨e, n, ne, nf, d⟩ := I.pin p hp
      refine ⟨(hs.2 p.1 ?_).trans e, n, ne, nf, d⟩
      intro q
      rw [q, hoc] at e
      have q' : oc = p.2 := Option.some.inj e
      exact d w' (by rw [← q']; exact hocd)
theorem store_ok {M : Model} {A : Around} {E : Value → Shared → Prop} {i : Nat} {x : Str} {v : V} {u : Value} {Q : Unit → Shared → Prop} (I : Inv X pins σ H s) (hN : X.N.Nodup) (hi : X.N[i]? = some x) (hx : Loc X.env.scope x) (r : RelV v u)
    (h : ∀ s', Inv X pins (σ.set i (some v)) H s' → Q () s') (hf : X.fn x = true ∨ X.env.scope.names.lookup x = some .local := by first | exact .inl rfl | exact .inr rfl | assumption) : wpAny M A (storeName X.env x u) Q E s :=
  store_ok2 I hN hi hx r (fun s' I' _ => h s' I') hf
theorem Inv.call' {s' : Shared} {ch : List Addr} (I : Inv X pins σ H s) (ho : s'.os = s.os) (u : Un (frs X.stack) ch H H' s.heap s'.heap) (hok : HOk X.prog X.w H' s'.heap) (hg : AllBare s'.gens)
    (hch : ∀ b ∈ ch, (b ∈ X.ex ∨ X.s₀.heap.objs.size ≤ b) ∧ b ≠ X.env.locals ∧ (∀ x c, X.env.cells.lookup x = some c → c ≠ b) ∧ ∀ p ∈ X.pn ++ pins, p.1 ≠ b) : Inv X pins σ H' s' := by
  obtain ⟨h', g', d', t', o'⟩ := s'
  have e : o' = s.os := ho
  subst e
  exact I.call (g' := g') (t' := t') (d' := d') u hok hg hch
end
abbrev XK := Value → Option Addr → Hp → Prop
abbrev St := List (Option V)
abbrev VK := V → Hp → Prop
abbrev TE := St → Hp → VK → Prop
abbrev TT := St → Hp → (Bool → Hp → Prop) → Prop
abbrev TA := St → Hp → (List V → Hp → Prop) → Prop
structure Ends where
  nx : St → Hp → Prop
  rt : VK
  bk : St → Hp → Prop := fun _ _ => False
  ct : St → Hp → Prop := fun _ _ => False
abbrev TS := Ends → St → Hp → Prop
def EP (X : Cx) (pins : List (Addr × Obj)) (σ : St) (Q : VK) (u : Value) (s' : Shared) : Prop := ∃ v H', Inv X pins σ H' s' ∧ RelV v u ∧ Q v H'
def TP (X : Cx) (pins : List (Addr × Obj)) (σ : St) (Q : Bool → Hp → Prop) (b : Bool) (s' : Shared) : Prop := ∃ H', Inv X pins σ H' s' ∧ Q b H'
def AP (X : Cx) (pins : List (Addr × Obj)) (σ : St) (Q : List V → Hp → Prop) (us : List Value) (s' : Shared) : Prop := ∃ vs H', Inv X pins σ H' s' ∧ Vals vs us ∧ Q vs H'
def SP (X : Cx) (pins : List (Addr × Obj)) (D : Ends) (f : Flow) (s' : Shared) : Prop :=
  match f with
  | .next => ∃ σ' H', Inv X pins σ' H' s' ∧ D.nx σ' H'
  | .brk => ∃ σ' H', Inv X pins σ' H' s' ∧ D.bk σ' H'
  | .cont => ∃ σ' H', Inv X pins σ' H' s' ∧ D.ct σ' H'
  | .ret u => ∃ v σ' H', Inv X pins σ' H' s' ∧ RelV v u ∧ D.rt v H'
def PE (X : Cx) (e : Expr) (t : TE) : Prop :=
  ∀ (pins : List (Addr × Obj)) (s : Shared) (σ : St) (H : Hp) (Q : VK), Inv X pins σ H s → t σ H Q → wpAny (model X.prog X.w) X.A (eval e X.env) (EP X pins σ Q) X.xe s
def PT (X : Cx) (e : Expr) (t : TT) : Prop :=
  ∀ (pins : List (Addr × Obj)) (s : Shared) (σ : St) (H : Hp) (Q : Bool → Hp → Prop), Inv X pins σ H s → t σ H Q → wpAny (model X.prog X.w) X.A (isTrue e X.env (eval e X.env)) (TP X pins σ Q) X.xe s
def PW (X : Cx) (e : Expr) (t : TT) : Prop :=
  ∀ (whole : Sem Value) (pins : List (Addr × Obj)) (s : Shared) (σ : St) (H : Hp) (Q : Bool → Hp → Prop), Inv X pins σ H s → t σ H Q → wpAny (model X.prog X.w) X.A (isTrue e X.env whole) (TP X pins σ Q) X.xe s
theorem PW.pt {X : Cx} {e : Expr} {t : TT} (h : PW X e t) : PT X e t := h _
def PA (X : Cx) (es : List Expr) (t : TA) : Prop :=
  ∀ (pos : Pos) (pins : List (Addr × Obj)) (s : Shared) (σ : St) (H : Hp) (Q : List V → Hp → Prop), Inv X pins σ H s → t σ H Q → wpAny (model X.prog X.w) X.A (spliced (backTo pos (starEach es X.env))) (AP X pins σ Q) X.xe s
def PS (X : Cx) (st : Stmt) (t : TS) : Prop :=
  ∀ (pins : List (Addr × Obj)) (s : Shared) (σ : St) (H : Hp) (D : Ends), Inv X pins σ H s → t D σ H → wpAny (model X.prog X.w) X.A (exec st X.env) (SP X pins D) X.xe s
def PSs (X : Cx) (st : List Stmt) (t : TS) : Prop :=
  ∀ (pins : List (Addr × Obj)) (s : Shared) (σ : St) (H : Hp) (D : Ends), Inv X pins σ H s → t D σ H → wpAny (model X.prog X.w) X.A (execs st X.env) (SP X pins D) X.xe s
theorem thn {α : Type} {t : Sem α} {Q Q' : α → Shared → Prop} {M : Model} {A : Around} {E : Value → Shared → Prop} {s : Shared} (h : wpAny M A t Q E s) (hQ : ∀ a s, Q a s → Q' a s) : wpAny M A t Q' E s := wpAny_mono h hQ fun _ _ x => x
end L2
namespace L2
open PySem PySem.Spec PyProof.Rows
section
variable {X : Cx}
def tVar (i : Nat) : TE := fun σ H Q => ∃ v, σ[i]? = some (some v) ∧ Q v H
def tC (v : V) : TE := fun _ H Q => Q v H
theorem pe_var {i : Nat} {x : Str} {pos : Pos} (hN : X.N[i]? = some x) (hv : Vis X.env.scope x) (hd : (x == ("__debug__" : Str)) = false := by decide) (hcd : (x == ("__classdict__" : Str)) = false := by decide) : PE X (.Name x pos) (tVar i) := by
  intro pins s σ H Q I h
  obtain ⟨v, e, h⟩ := h
  obtain ⟨m, hn, hl⟩ := I.loc
  obtain ⟨u, r, l⟩ := hl i x v hN e hv
  have fin : EP X pins σ Q u s := ⟨v, H, I, r, h⟩
  rcases l with ⟨hk, hm⟩ | ⟨hk, c, hc, hcell⟩
  · exact wpAny_Name (wpAny_loadName_local I.ok.kind hk hn hm fin) hd
  · rcases hk with hk | hk
    · exact wpAny_Name (wpAny_loadName_cell I.ok.kind hk hc hcell fin) hd
    · exact wpAny_Name (wpAny_loadName_free I.ok.kind hk hc hcell fin hcd) hd
theorem pe_int {i j pos} : PE X (.Constant (.int i) j pos) (tC (.int i)) := fun _ _ _ H _ I h => wpAny_Constant_int ⟨.int i, H, I.tok _, ⟨_, rfl⟩, h⟩
theorem pe_bl {b j pos} : PE X (.Constant (.bool b) j pos) (tC (.bl b)) := fun _ _ _ H _ I h => Constant_bool ⟨.bl b, H, I, rfl, h⟩
def Gl (X : Cx) (x : Str) : Prop := X.env.kindOf x = some .globalImplicit
theorem ld_glob {E : Value → Shared → Prop} {pins : List (Addr × Obj)} {s : Shared} {σ : St} {H : Hp} {x : Str} {u : Value} {pos : Pos} {Q : Value → Shared → Prop} (I : Inv X pins σ H s) (hg : Gl X x) (hm : X.mg x = some u) (h : Q u s)
    (hd : (x == ("__debug__" : Str)) = false := by decide) : wpAny (model X.prog X.w) X.A (eval (.Name x pos) X.env) Q E s :=
  Calls.Name_function_global I.ok.kind hg (Calls.loadGlobal_global (by rw [I.ok.glob]; exact I.mod.glob.keeps I.bk) hm h) hd
theorem ld_blt {E : Value → Shared → Prop} {pins : List (Addr × Obj)} {s : Shared} {σ : St} {H : Hp} {x : Str} {u : Value} {pos : Pos} {Q : Value → Shared → Prop} (I : Inv X pins σ H s) (hg : Gl X x) (hm : X.mg x = none) (hv : bootBuiltins x = some u) (h : Q u s)
    (hn : x ≠ "__name__" := by decide) (hd : (x == ("__debug__" : Str)) = false := by decide) : wpAny (model X.prog X.w) X.A (eval (.Name x pos) X.env) Q E s := by
  obtain ⟨mb, h1, h2⟩ := I.mod.blt
  exact Calls.Name_function_global I.ok.kind hg (Calls.loadGlobal_builtin (by rw [I.ok.glob]; exact I.mod.glob.keeps I.bk) hm (by rw [I.ok.blt]; exact h1.keeps I.bk) ((h2 x hn).trans hv) h) hd
theorem pe_bltn {x : Str} {v : V} {u : Value} {pos : Pos} (hg : Gl X x) (hm : X.mg x = none) (hv : bootBuiltins x = some u) (r : RelV v u) (hn : x ≠ "__name__" := by decide) (hd : (x == ("__debug__" : Str)) = false := by decide) : PE X (.Name x pos) (tC v) :=
  fun _ _ _ H _ I h => ld_blt I hg hm hv ⟨v, H, I, r, h⟩ hn hd
variable {a b : Expr} {ta tb : TE} {pos : Pos}
variable {tA tB' : TT} {rest : List Expr}
def tOr (t u : TT) : TT := fun σ H Q => t σ H fun c H1 => if c = true then Q true H1 else u σ H1 Q
def tNot (t : TT) : TT := fun σ H Q => t σ H fun c H1 => Q (!c) H1
theorem pw_or1 (ha : PT X a tA) : PW X (.BoolOp .Or [a] pos) tA := by
  intro wh pins s σ H Q I h
  refine isTrue_or (thn (ha pins s σ H Q I h) fun c s1 e => ?_)
  cases c with
  | false => exact isTrue_or_nil e
  | true => exact e
theorem pw_or (ha : PT X a tA) (hb : PW X (.BoolOp .Or (b :: rest) pos) tB') : PW X (.BoolOp .Or (a :: b :: rest) pos) (tOr tA tB') := by
  intro wh pins s σ H Q I h
  refine isTrue_or (thn (ha pins s σ H _ I h) fun c s1 hq_ => ?_)
  obtain ⟨H1, I1, q1⟩ := hq_
  cases c with
  | true => exact ⟨H1, I1, q1⟩
  | false => exact hb wh pins s1 σ H1 Q I1 q1
theorem pt_not (ha : PT X a tA) : PT X (.UnaryOp .Not a pos) (tNot tA) := by
  intro pins s σ H Q I h
  exact isTrue_not (ha pins s σ H (fun c H1 => Q (!c) H1) I h)
def tAndV (ta tb : TE) : TE := fun σ H Q => ta σ H fun x H1 => ∃ c, x = .bl c ∧ if c = true then tb σ H1 Q else Q (.bl false) H1
def tNotV (ta : TE) : TE := fun σ H Q => ta σ H fun x H1 => ∃ c, x = .bl c ∧ Q (.bl (!c)) H1
theorem pe_one {op} {t : TE} (h : PE X a t) : PE X (.BoolOp op [a] pos) t := fun pins s σ H Q I hw => BoolOp_one (h pins s σ H Q I hw)
theorem pe_and (ha : PE X a ta) (hb : PE X (.BoolOp .And (b :: rest) pos) tb) : PE X (.BoolOp .And (a :: b :: rest) pos) (tAndV ta tb) := by
  intro pins s σ H Q I h
  refine BoolOp_and (thn (ha pins s σ H _ I h) fun v s1 hq_ => ?_)
  obtain ⟨x, H1, I1, r1, q1⟩ := hq_
  obtain ⟨c, rfl, q1⟩ := q1
  cases r1
  refine wpAny_truthy_bool ?_
  cases c with
  | true => exact hb pins s1 σ H1 Q I1 q1
  | false => exact ⟨.bl false, H1, I1, rfl, q1⟩
theorem pe_not (ha : PE X a ta) : PE X (.UnaryOp .Not a pos) (tNotV ta) := by
  intro pins s σ H Q I h
  refine UnaryOp_ (thn (ha pins s σ H _ I h) fun v s1 hq_ => ?_)
  obtain ⟨x, H1, I1, r1, q1⟩ := hq_
  obtain ⟨c, rfl, q1⟩ := q1
  cases r1
  exact not_of (wpAny_truthy_bool ⟨.bl (!c), H1, I1, rfl, q1⟩)
end
end L2
namespace L2
open PySem PySem.Spec PyProof.Rows
def SqL (K : PySem.W.Frag) (H : Hp) (a : Addr) (xs : List V) : Prop :=
  Rd H a (.lst xs) ∨
    ∃ (o : Obj) (its : Array Value) (n : Nat), K.lookup a = some o ∧ o.cls = .type "list" ∧ o.dict = none ∧ o.data = .seq its n ∧ its.size ≤ sizeLine ∧ Vals xs its.toList
def SqT (K : PySem.W.Frag) (H : Hp) (a : Addr) (xs : List V) : Prop :=
  Rd H a (.tup xs) ∨
    ∃ (o : Obj) (its : Array Value) (n : Nat), K.lookup a = some o ∧ o.cls = .type "tuple" ∧ o.data = .seq its n ∧ its.size ≤ sizeLine ∧ Vals xs its.toList ∧ o.dict = none
def absV : Value → Option V
  | .none => some .non
  | .bool b => some (.bl b)
  | .int i _ => some (.int i)
  | .str x _ => some (.str x)
  | .bytes b _ => some (.byt b)
  | .float b _ => some (.flt b)
  | .ref a => some (.ref a)
  | .type n => some (.ty n)
  | _ => none
theorem RelV.abs {x : V} {u : Value} (r : RelV x u) : absV u = some x := by
  cases x with
  | non => cases r; rfl
  | bl _ => cases r; rfl
  | int _ => obtain ⟨t, rfl⟩ := r; rfl
  | str _ => obtain ⟨t, rfl⟩ := r; rfl
  | byt _ => obtain ⟨t, rfl⟩ := r; rfl
  | flt _ => obtain ⟨t, rfl⟩ := r; rfl
  | ref _ => cases r; rfl
  | ty _ => cases r; rfl
theorem RelV.inj {x y : V} {u : Value} (r : RelV x u) (q : RelV y u) : x = y := Option.some.inj (r.abs.symm.trans q.abs)
theorem Vals.inj : ∀ {xs ys : List V} {us : List Value}, Vals xs us → Vals ys us → xs = ys
  | _, _, _, .nil, .nil => rfl
  | _, _, _, .cons r t, .cons r' t' => by rw [r.inj r', Vals.inj t t']
section
variable {X : Cx} {pins : List (Addr × Obj)} {σ : St} {H : Hp} {s : Shared} {a : Addr} {xs ys : List V}
theorem SqL.of {K : PySem.W.Frag} (h : H a = some (.lst xs)) : SqL K H a xs := .inl (.inl h)
theorem SqT.of {K : PySem.W.Frag} (h : H a = some (.tup xs)) : SqT K H a xs := .inl (.inl h)
theorem Inv.list (I : Inv X pins σ H s) (h : SqL X.K H a xs) : ∃ its : List Value, Vals xs its ∧ PlainL s.heap a its.toArray ∧ xs.length ≤ sizeLine := by
  rcases h with h | ⟨o, its, n, hk, hc, hd, hs, hz, r⟩
  · obtain ⟨z, its, n, r, e⟩ := h.ok I.hok
    exact ⟨its, r, ⟨_, n, e, rfl, rfl, rfl⟩, z⟩
  · refine ⟨its.toList, r, ⟨o, n, I.kIn a o hk, hc, hd, by simpa using hs⟩, ?_⟩
    have e := r.length
    simp only [Array.length_toList] at e
    omega
theorem Inv.tuple (I : Inv X pins σ H s) (h : SqT X.K H a xs) : ∃ its : List Value, Vals xs its ∧ IsTup s.heap a its.toArray ∧ xs.length ≤ sizeLine := by
  rcases h with h | ⟨o, its, n, hk, hc, hs, hz, r, _⟩
  · obtain ⟨z, its, r, p, _⟩ := h.ok I.hok
    exact ⟨its, r, p, z⟩
  · refine ⟨its.toList, r, ⟨o, I.kIn a o hk, hc, n, by simpa using hs⟩, ?_⟩
    have e := r.length
    simp only [Array.length_toList] at e
    omega
theorem Inv.tupleN (I : Inv X pins σ H s) (h : SqT X.K H a xs) : (∃ o, s.heap.get? a = some o ∧ o.cls = .type "tuple") ∧ ∃ o, s.heap.get? a = some o ∧ o.dict = none := by
  rcases h with h | ⟨o, its, n, hk, hc, hs, hz, r, hd⟩
  · obtain ⟨z, its, r, ⟨ob, e, c, _⟩, o2, e2, d2⟩ := h.ok I.hok
    exact ⟨⟨ob, e, c⟩, o2, e2, d2⟩
  · exact ⟨⟨o, I.kIn a o hk, hc⟩, o, I.kIn a o hk, hd⟩
theorem Inv.list_inj (I : Inv X pins σ H s) (h : SqL X.K H a xs) (h' : SqL X.K H a ys) : xs = ys := by
  obtain ⟨its, r, ⟨o, n, e, _, _, d⟩, _⟩ := I.list h
  obtain ⟨its', r', ⟨o', n', e', _, _, d'⟩, _⟩ := I.list h'
  rw [e] at e'; cases e'
  rw [d] at d'
  injection d' with d1 _
  have : its = its' := by simpa using congrArg Array.toList d1
  subst this
  exact r.inj r'
theorem Inv.tuple_inj (I : Inv X pins σ H s) (h : SqT X.K H a xs) (h' : SqT X.K H a ys) : xs = ys := by
  obtain ⟨its, r, ⟨o, e, _, n, d⟩, _⟩ := I.tuple h
  obtain ⟨its', r', ⟨o', e', _, n', d'⟩, _⟩ := I.tuple h'
  rw [e] at e'; cases e'
  rw [d] at d'
  injection d' with d1 _
  have : its = its' := by simpa using congrArg Array.toList d1
  subst this
  exact r.inj r'
end
abbrev Cx.wish (X : Cx) (E : Value → Shared → Prop) : Cx := { X with xe := E }
abbrev Cx.nox (X : Cx) : Cx := X.wish fun _ _ => False
theorem Cx.Ok.wish {X : Cx} (ok : X.Ok) (E : Value → Shared → Prop) : (X.wish E).Ok :=
  ⟨ok.mod, ok.kind, ok.glob, ok.blt, ok.above, ok.inj, ok.has, ok.cab, ok.hd, ok.frames, ok.stk, ok.exf, ok.bs, ok.bsz, ok.noex, ok.exfs, ok.funs, ok.frf⟩
theorem Cx.Ok.unwish {X : Cx} {E : Value → Shared → Prop} (ok : (X.wish E).Ok) : X.Ok :=
  ⟨ok.mod, ok.kind, ok.glob, ok.blt, ok.above, ok.inj, ok.has, ok.cab, ok.hd, ok.frames, ok.stk, ok.exf, ok.bs, ok.bsz, ok.noex, ok.exfs, ok.funs, ok.frf⟩
section
variable {X : Cx} {pins : List (Addr × Obj)} {σ : St} {H : Hp} {s : Shared} {E : Value → Shared → Prop}
theorem Inv.wish (I : Inv X pins σ H s) (E : Value → Shared → Prop) : Inv (X.wish E) pins σ H s := ⟨I.ok.wish E, I.os, I.bare, I.base, I.loc, I.cell, I.free, I.freeC, I.pin, I.hok, I.len⟩
theorem Inv.unwish (I : Inv (X.wish E) pins σ H s) : Inv X pins σ H s := ⟨I.ok.unwish, I.os, I.bare, I.base, I.loc, I.cell, I.free, I.freeC, I.pin, I.hok, I.len⟩
theorem SP.unwish {D : Ends} {f : Flow} {s' : Shared} (h : SP (X.wish E) pins D f s') : SP X pins D f s' := by
  cases f with
  | next => obtain ⟨σ', H', I, q⟩ := h; exact ⟨σ', H', I.unwish, q⟩
  | brk => obtain ⟨σ', H', I, q⟩ := h; exact ⟨σ', H', I.unwish, q⟩
  | cont => obtain ⟨σ', H', I, q⟩ := h; exact ⟨σ', H', I.unwish, q⟩
  | ret u => obtain ⟨v, σ', H', I, r, q⟩ := h; exact ⟨v, σ', H', I.unwish, r, q⟩
theorem PSs.nox {st : List Stmt} {t : TS} (h : PSs X.nox st t) : PSs X st t := fun pins s σ H D I hw =>
  wpAny_mono (h pins s σ H D (I.wish _) hw) (fun _ _ q => q.unwish) fun _ _ z => False.elim z
end
section
variable {X : Cx} {st : Stmt} {rest : List Stmt} {t u : TS} {e : Expr} {te : TE} {pos : Pos}
def tNext : TS := fun D σ H => D.nx σ H
def tSeq (t u : TS) : TS := fun D σ H => t { D with nx := u D } σ H
theorem pss_nil : PSs X [] tNext := fun _ _ σ H _ I h => wpAny_execs_nil ⟨σ, H, I, h⟩
theorem pss_cons (h1 : PS X st t) (h2 : PSs X rest u) : PSs X (st :: rest) (tSeq t u) := by
  intro pins s σ H D I h
  refine wpAny_execs_cons (thn (h1 pins s σ H { D with nx := u D } I h) fun f s1 q => ?_)
  cases f with
  | next =>
    obtain ⟨σ', H', I', q⟩ := q
    exact h2 pins s1 σ' H' D I' q
  | ret v => exact q
  | brk => exact q
  | cont => exact q
theorem pss_one (h1 : PS X st t) : PSs X [st] t := by
  intro pins s σ H D I h
  refine wpAny_execs_cons (thn (h1 pins s σ H D I h) fun f s1 q => ?_)
  cases f with
  | next => exact wpAny_execs_nil q
  | ret v => exact q
  | brk => exact q
  | cont => exact q
theorem Inv.quiet {pins : List (Addr × Obj)} {σ : St} {H : Hp} {s : Shared} (I : Inv X pins σ H s) : interactive X.env = false := by simp [interactive, I.ok.kind]
def tDrop (te : TE) : TS := fun D σ H => te σ H fun _ H1 => D.nx σ H1
theorem ps_expr (he : PE X e te) (hs : swapsWith e none pos.line X.env = pure false := by rfl) : PS X (.Expr e pos) (tDrop te) := by
  intro pins s σ H D I h
  exact wpAny_Expr_any (thn (he pins s σ H _ I h) fun v s1 ⟨x, H1, I1, r1, q1⟩ => ⟨σ, H1, I1, q1⟩) I.quiet hs
def tRet (te : TE) : TS := fun D σ H => te σ H D.rt
theorem ps_ret (he : PE X e te) : PS X (.Return (some e) pos) (tRet te) := by
  intro pins s σ H D I h
  exact wpAny_Return_some (thn (he pins s σ H _ I h) fun v s1 ⟨x, H1, I1, r1, q1⟩ => ⟨x, σ, H1, I1, r1, q1⟩)
def tIfS (c : TT) (t u : TS) : TS := fun D σ H => c σ H fun b H1 => if b = true then t D σ H1 else u D σ H1
theorem ps_if {c : Expr} {a b : List Stmt} {tc : TT} (hc : PT X c tc) (ha : PSs X a t) (hb : PSs X b u) : PS X (.If c a b pos) (tIfS tc t u) := by
  intro pins s σ H D I h
  refine wpAny_If (thn (hc pins s σ H _ I h) fun d s1 hq_ => ?_)
  obtain ⟨H1, I1, q1⟩ := hq_
  cases d with
  | true => exact ha pins s1 σ H1 D I1 q1
  | false => exact hb pins s1 σ H1 D I1 q1
end
abbrev TG := V → St → Hp → (St → Hp → Prop) → Prop
abbrev TGs := List V → St → Hp → (St → Hp → Prop) → Prop
def PG (X : Cx) (target : Expr) (t : TG) : Prop :=
  ∀ (pins : List (Addr × Obj)) (s : Shared) (σ : St) (H : Hp) (v : V) (u : Value) (Q : St → Hp → Prop), Inv X pins σ H s → RelV v u → t v σ H Q →
    wpAny (model X.prog X.w) X.A (assign target X.env u) (fun _ s' => ∃ σ' H', Inv X pins σ' H' s' ∧ Q σ' H') X.xe s
def PGs (X : Cx) (ts : List Expr) (t : TGs) : Prop :=
  ∀ (pins : List (Addr × Obj)) (s : Shared) (σ : St) (H : Hp) (vs : List V) (us : List Value) (Q : St → Hp → Prop), Inv X pins σ H s → Vals vs us → t vs σ H Q →
    wpAny (model X.prog X.w) X.A (assignInOrder ((assignEach ts X.env).map (·.2)) us) (fun _ s' => ∃ σ' H', Inv X pins σ' H' s' ∧ Q σ' H') X.xe s
abbrev TSet := V → V → V → Hp → (Hp → Prop) → Prop
def PSet (X : Cx) (t : TSet) : Prop :=
  ∀ (pins : List (Addr × Obj)) (s : Shared) (σ : St) (H : Hp) (o i v : V) (ov iv u : Value) (Q : Hp → Prop), Inv X pins σ H s → RelV o ov → RelV i iv → RelV v u → t o i v H Q →
    wpAny (model X.prog X.w) X.A (setItem ov iv u) (fun _ s' => ∃ H', Inv X pins σ H' s' ∧ Q H') X.xe s
section
variable {X : Cx} {pos : Pos}
def gName (i : Nat) : TG := fun v σ H Q => Q (σ.set i (some v)) H
theorem pg_name {i : Nat} {x : Str} (hN : X.N.Nodup) (hi : X.N[i]? = some x) (hx : Loc X.env.scope x) (hf : X.fn x = true ∨ X.env.scope.names.lookup x = some .local := by first | exact .inl rfl | exact .inr rfl | assumption) : PG X (.Name x pos) (gName i) := by
  intro pins s σ H v u Q I r h
  exact wpAny_assign_Name (store_ok I hN hi hx r (fun s' I' => ⟨_, H, I', h⟩) hf)
def gNil : TGs := fun vs σ H Q => vs = [] ∧ Q σ H
def gCons (t : TG) (u : TGs) : TGs := fun vs σ H Q => ∃ v r, vs = v :: r ∧ t v σ H fun σ' H' => u r σ' H' Q
theorem pgs_nil : PGs X [] gNil := by
  intro pins s σ H vs us Q I r h
  obtain ⟨e, h⟩ := h
  subst e
  cases r
  exact assignInOrder_nil ⟨σ, H, I, h⟩
theorem pgs_cons {e : Expr} {es : List Expr} {t : TG} {u : TGs} (h1 : PG X e t) (h2 : PGs X es u)
    (hs : (assignEach (e :: es) X.env).map (·.2) = assign e X.env :: (assignEach es X.env).map (·.2) := by rfl) : PGs X (e :: es) (gCons t u) := by
  intro pins s σ H vs us Q I r h
  obtain ⟨v, vr, e1, h⟩ := h
  subst e1
  cases r with
  | cons r rr =>
    rw [hs]
    refine assignInOrder_cons (thn (h1 pins s σ H _ _ _ I r h) fun _ s1 hq_ => ?_)
    obtain ⟨σ1, H1, I1, q1⟩ := hq_
    exact h2 pins s1 σ1 H1 _ _ Q I1 rr q1
def gTup (K : PySem.W.Frag) (n : Nat) (t : TGs) : TG := fun v σ H Q => ∃ a xs, v = .ref a ∧ SqT K H a xs ∧ xs.length = n ∧ t xs σ H Q
theorem pg_tup {es : List Expr} {k : Nat} {t : TGs} {n : Nat} (hc : X.calm = true) (h : PGs X es t)
    (hn : (assignEach es X.env).length = n := by rfl) (hst : (assignEach es X.env).findIdx? (·.1) = none := by rfl) : PG X (.Tuple es k pos) (gTup X.K n t) := by
  intro pins s σ H v u Q I r hw
  obtain ⟨a, xs, e1, hq, hl, hw⟩ := hw
  subst e1
  cases r
  obtain ⟨its, rv, ht, hz⟩ := I.tuple hq
  refine assign_Tuple_tuple (I.ok.hd hc) ht (by simp [hn, ← hl, rv.length]) hst fun h' hx => ?_
  have I1 : Inv X pins σ H { s with heap := h' } := I.kept (t' := s.toks) fun b o e => hx b o (Nat.ne_of_lt (Heap.lt_size e)) e
  exact h pins _ σ H xs _ Q I1 (by simpa using rv) hw
def gSub (to ti : TE) (t : TSet) : TG := fun v σ H Q => to σ H fun o H1 => ti σ H1 fun i H2 => t o i v H2 fun H3 => Q σ H3
theorem pg_sub {o i : Expr} {to ti : TE} {t : TSet} (ho : PE X o to) (hi : PE X i ti) (hs : PSet X t)
    (ha : ∀ v, assign (.Subscript o i pos) X.env v = (do
      let ov ← holding [v] (eval o X.env)
      let iv ← holding [v, ov] (eval i X.env)
      standAt pos
      holding [v, ov, iv] (setItem ov iv v)
      release [v, ov, iv] []) := by intro _; rfl) : PG X (.Subscript o i pos) (gSub to ti t) := by
  intro pins s σ H v u Q I r h
  rw [ha]
  refine wpAny_bind (wpAny_holding (thn (ho pins s σ H _ I h) fun ov s1 hq_ => ?_))
  obtain ⟨x, H1, I1, r1, q1⟩ := hq_
  refine wpAny_bind (wpAny_holding (thn (hi pins s1 σ H1 _ I1 q1) fun iv s2 hq_ => ?_))
  obtain ⟨y, H2, I2, r2, q2⟩ := hq_
  refine wpAny_bind (wpAny_standAt (wpAny_bind (wpAny_holding (thn (hs pins s2 σ H2 x y v ov iv u _ I2 r1 r2 r q2) fun _ s3 hq_ => ?_))))
  obtain ⟨H3, I3, q3⟩ := hq_
  exact wpAny_release ⟨σ, H3, I3, q3⟩
def tAsg (te : TE) (g : TG) : TS := fun D σ H => te σ H fun x H1 => g x σ H1 D.nx
theorem ps_asg {tg e : Expr} {te : TE} {g : TG} (he : PE X e te) (hg : PG X tg g) (hs : swapsWithSole [tg] e pos.line X.env = pure false := by rfl) (hw : swappedStores [tg] e X.env = pure none := by rfl)
    (h1 : (assignEach [tg] X.env).map (·.2) = [assign tg X.env] := by rfl) : PS X (.Assign [tg] e pos) (tAsg te g) := by
  intro pins s σ H D I h
  refine wpAny_Assign_stores (thn (he pins s σ H _ I h) fun v s1 ⟨x, H1, I1, r1, q1⟩ => ?_) hs hw
  rw [h1]
  exact thn (hg pins s1 σ H1 x v _ I1 r1 q1) fun _ s2 q => q
theorem ps_set {i : Nat} {x : Str} {e : Expr} {te : TE} {pos' : Pos} (hN : X.N.Nodup) (hi : X.N[i]? = some x) (hx : Loc X.env.scope x) (he : PE X e te) (hs : swapsWith e (some (.Name x pos')) pos.line X.env = pure false := by rfl) (hf : X.fn x = true ∨ X.env.scope.names.lookup x = some .local := by first | exact .inl rfl | exact .inr rfl | assumption) :
    PS X (.Assign [.Name x pos'] e pos) (tAsg te (gName i)) := by
  intro pins s σ H D I h
  refine wpAny_Assign_Name (thn (he pins s σ H _ I h) fun v s1 ⟨y, H1, I1, r1, q1⟩ => ?_) hs
  exact store_ok I1 hN hi hx r1 (fun s2 I2 => ⟨_, H1, I2, q1⟩) hf
end
structure It where
  go : Nat → Hp → Prop
  yld : Nat → Hp → V → Hp → Prop
  stop : Nat → Hp → Prop
def FpOk (X : Cx) (pins : List (Addr × Obj)) (H : Hp) (b : Addr) : Prop :=
  H b = none ∧ b ≠ X.env.locals ∧ b ∉ X.fs ∧ (b ∈ X.ex ∨ X.s₀.heap.objs.size ≤ b) ∧ (∀ x c, X.env.cells.lookup x = some c → c ≠ b) ∧ ∀ p ∈ X.pn ++ pins, p.1 ≠ b
theorem Inv.fpOk {X : Cx} {pins : List (Addr × Obj)} {σ : St} {H H' : Hp} {s : Shared} {b : Addr} (I : Inv X pins σ H s) (hb : s.heap.objs.size ≤ b) (hn : H' b = none) : FpOk X pins H' b := by
  refine ⟨hn, Nat.ne_of_gt (Nat.lt_of_lt_of_le I.lt hb), I.nofs hb, .inr (Nat.le_trans I.sz hb), fun x c e z => ?_, fun p hp z => ?_⟩
  · obtain ⟨v, q⟩ := I.cell x c e
    exact absurd (Nat.lt_of_lt_of_le q.lt (by rw [z]; exact hb)) (Nat.lt_irrefl _)
  · exact absurd (Nat.lt_of_lt_of_le (Heap.lt_size (I.pin p hp).1) (by rw [z]; exact hb)) (Nat.lt_irrefl _)
structure Turn (P : Program) (w : World) (K : PySem.W.Frag) (tg : Expr) (J : It) (fp : List Addr) (it : Addr) (tn : Nat → Heap → Prop) : Prop where
  mem : it ∈ fp
  obj : ∀ i h, tn i h → ∀ b ∈ fp, ∃ o, h.get? b = some o ∧ ∀ v, o.data ≠ .cell v
  keep : ∀ i h h', tn i h → (∀ b ∈ fp, ∀ o, h.get? b = some o → h'.get? b = some o) → tn i h'
  item : ∀ (X : Cx), X.prog = P → X.w = w → X.K = K → X.calm = true → ∀ (i : Nat) (pins : List (Addr × Obj)) (s : Shared) (σ : St) (H : Hp) (E : Value → Shared → Prop), Inv X pins σ H s → (∀ b ∈ fp, FpOk X pins H b) → tn i s.heap → J.go i H →
    wpAny (model P w) X.A (pyNext (.ref it)) (fun r s1 => ∃ u, r = some u ∧
      wpAny (model P w) X.A (letOwnedTupleGo tg (.ref it) u) (fun _ s2 => ∃ x H', Inv X pins σ H' s2 ∧ RelV x u ∧ J.yld i H x H' ∧ tn (i + 1) s2.heap ∧ ∀ b ∈ fp, H' b = none) E s1) E s
  done : ∀ (X : Cx), X.prog = P → X.w = w → X.K = K → X.calm = true → ∀ (i : Nat) (pins : List (Addr × Obj)) (s : Shared) (σ : St) (H : Hp) (E : Value → Shared → Prop), Inv X pins σ H s → (∀ b ∈ fp, FpOk X pins H b) → tn i s.heap → J.stop i H →
    wpAny (model P w) X.A (pyNext (.ref it)) (fun r s1 => r = none ∧ Inv X pins σ H s1) E s
  self : ∀ (A : Around) (i : Nat) (s : Shared) (Q : Value → Shared → Prop) (E : Value → Shared → Prop), tn i s.heap → Q (.ref it) s → wpAny (model P w) A (pyIter (.ref it)) Q E s
abbrev TI := St → Hp → (It → Hp → Prop) → Prop
def PIE (X : Cx) (pins : List (Addr × Obj)) (σ : St) (tg : Expr) (R : It → Hp → Prop) (itv : Value) (s2 : Shared) : Prop :=
  ∃ (it : Addr) (fp : List Addr) (tn : Nat → Heap → Prop) (J : It) (H' : Hp), itv = .ref it ∧ Inv X pins σ H' s2 ∧ Turn X.prog X.w X.K tg J fp it tn ∧ tn 0 s2.heap ∧ (∀ b ∈ fp, FpOk X pins H' b) ∧ R J H'
def PI (X : Cx) (tg iter : Expr) (wi : TI) : Prop :=
  ∀ (pins : List (Addr × Obj)) (s : Shared) (σ : St) (H : Hp) (R : It → Hp → Prop), Inv X pins σ H s → wi σ H R →
    wpAny (model X.prog X.w) X.A (eval iter X.env) (fun v s1 => wpAny (model X.prog X.w) X.A (pyIter v) (PIE X pins σ tg R) X.xe s1) X.xe s
theorem go_of {M : Model} {A : Around} {E : Value → Shared → Prop} {s : Shared} {tg : Expr} {it : Addr} {u : Value} {o : Obj} {n : String} {vs : Array Value} {Q : Unit → Shared → Prop} (ho : s.heap.get? it = some o) (hc : o.cls = .type n) (hd : o.data = .fields vs)
    (hn : ["enumerate", "zip", "dict_itemiterator", "dict_reverseitemiterator", "odict_iterator", "itertools.zip_longest", "itertools.pairwise"].contains n = false) (hQ : Q () s) : wpAny M A (letOwnedTupleGo tg (.ref it) u) Q E s := by
  unfold letOwnedTupleGo
  cases tg <;> first
    | exact wpAny_pure hQ
    | (cases u <;> first
        | exact wpAny_pure hQ
        | (refine wpAny_bind (wpAny_load ho ?_)
           rw [hc, hd]
           show wpAny M A (if (["enumerate", "zip", "dict_itemiterator", "dict_reverseitemiterator", "odict_iterator", "itertools.zip_longest", "itertools.pairwise"].contains n && vs[0]? == some (rawInt _)) = true then _ else _) Q E s
           rw [if_neg (by intro h; rw [hn, Bool.false_and] at h; cases h)]
           exact wpAny_pure hQ))
def Itl (K : PySem.W.Frag) (a : Addr) : It :=
  ⟨fun i H => ∃ xs x, SqL K H a xs ∧ xs[i]? = some x, fun i H x H' => H' = H ∧ ∀ xs, SqL K H a xs → xs[i]? = some x, fun i H => ∃ xs, SqL K H a xs ∧ xs.length ≤ i⟩
def Itt (K : PySem.W.Frag) (a : Addr) : It :=
  ⟨fun i H => ∃ xs x, SqT K H a xs ∧ xs[i]? = some x, fun i H x H' => H' = H ∧ ∀ xs, SqT K H a xs → xs[i]? = some x, fun i H => ∃ xs, SqT K H a xs ∧ xs.length ≤ i⟩
def Itr (lo : Int) (n : Nat) : It := ⟨fun i _ => i < n, fun i H x H' => H' = H ∧ x = .int (lo + i), fun i _ => n ≤ i⟩
theorem turn_list {P : Program} {w : World} {K : PySem.W.Frag} {tg : Expr} (a it : Addr) : Turn P w K tg (Itl K a) [it] it (fun i h => h.IsListIter it a i) where
  mem := by simp
  obj := fun i h st b hb => by
    have e : b = it := by simpa using hb
    subst e
    obtain ⟨o, e, c, d⟩ := st
    exact ⟨o, e, fun v z => by rw [d] at z; cases z⟩
  keep := fun i h h' st k => st.at fun o e => k it (by simp) o e
  item := by
    intro X hP hw hK hc i pins s σ H E I hf st hg
    subst hP hw hK
    obtain ⟨xs, x, hq, hx⟩ := hg
    obtain ⟨its, rv, p, hz⟩ := I.list hq
    obtain ⟨u, hu, ru⟩ := rv.get hx
    obtain ⟨f0, f1, f2, f3, f4, f5⟩ := hf it (by simp)
    refine wpAny_pyNext_list_item st p.isList (x := u) (by simpa using hu) fun h' st' sb => ?_
    have I1 : Inv X pins σ H { s with heap := h' } := I.turned (t' := s.toks) (fun b o hb e => (sb.2 b hb).trans e) f0 f1 f3 f4 f5
    obtain ⟨o, e, c, d⟩ := id st'
    exact ⟨u, rfl, go_of (s := { s with heap := h' }) e c d (by decide) ⟨x, H, I1, ru, ⟨rfl, fun ys hy => by rw [I.list_inj hy hq]; exact hx⟩, st', fun b hb => (hf b hb).1⟩⟩
  done := by
    intro X hP hw hK hc i pins s σ H E I hf st hg
    subst hP hw hK
    obtain ⟨xs, hq, hx⟩ := hg
    obtain ⟨its, rv, p, hz⟩ := I.list hq
    obtain ⟨f0, f1, f2, f3, f4, f5⟩ := hf it (by simp)
    have hl := rv.length
    exact wpAny_pyNext_list_end (I.ok.hd hc) st p.isList (by simp; omega) fun h' eb => ⟨rfl, I.turned (t' := s.toks) (fun b o hb e => eb b o hb e) f0 f1 f3 f4 f5⟩
  self := fun _ _ _ _ _ st h => wpAny_pyIter_listiter st h
theorem turn_tuple {P : Program} {w : World} {K : PySem.W.Frag} {tg : Expr} (a it : Addr) : Turn P w K tg (Itt K a) [it] it (fun i h => h.IsTupleIter it a i) where
  mem := by simp
  obj := fun i h st b hb => by
    have e : b = it := by simpa using hb
    subst e
    obtain ⟨o, e, c, d⟩ := st
    exact ⟨o, e, fun v z => by rw [d] at z; cases z⟩
  keep := fun i h h' st k => st.at fun o e => k it (by simp) o e
  item := by
    intro X hP hw hK hc i pins s σ H E I hf st hg
    subst hP hw hK
    obtain ⟨xs, x, hq, hx⟩ := hg
    obtain ⟨its, rv, p, hz⟩ := I.tuple hq
    obtain ⟨u, hu, ru⟩ := rv.get hx
    obtain ⟨f0, f1, f2, f3, f4, f5⟩ := hf it (by simp)
    refine wpAny_pyNext_tuple_item st (show s.heap.IsTuple a its.toArray from p) (x := u) (by simpa using hu) fun h' st' sb => ?_
    have I1 : Inv X pins σ H { s with heap := h' } := I.turned (t' := s.toks) (fun b o hb e => (sb.2 b hb).trans e) f0 f1 f3 f4 f5
    obtain ⟨o, e, c, d⟩ := id st'
    exact ⟨u, rfl, go_of (s := { s with heap := h' }) e c d (by decide) ⟨x, H, I1, ru, ⟨rfl, fun ys hy => by rw [I.tuple_inj hy hq]; exact hx⟩, st', fun b hb => (hf b hb).1⟩⟩
  done := by
    intro X hP hw hK hc i pins s σ H E I hf st hg
    subst hP hw hK
    obtain ⟨xs, hq, hx⟩ := hg
    obtain ⟨its, rv, p, hz⟩ := I.tuple hq
    obtain ⟨f0, f1, f2, f3, f4, f5⟩ := hf it (by simp)
    have hl := rv.length
    exact wpAny_pyNext_tuple_end (I.ok.hd hc) st (show s.heap.IsTuple a its.toArray from p) (by simp; omega) fun h' eb => ⟨rfl, I.turned (t' := s.toks) (fun b o hb e => eb b o hb e) f0 f1 f3 f4 f5⟩
  self := fun _ _ _ _ _ st h => wpAny_pyIter_tupleiter st h
theorem turn_range {P : Program} {w : World} {K : PySem.W.Frag} {tg : Expr} (it : Addr) (lo : Int) (n : Nat) : Turn P w K tg (Itr lo n) [it] it (fun i h => IsRangeIter h it (lo + (i : Nat) * 1) ((n : Int) - (i : Nat)) 1) where
  mem := by simp
  obj := fun i h st b hb => by
    have e : b = it := by simpa using hb
    subst e
    exact ⟨_, st, fun v z => by
      have z' : Data.fields _ = Data.cell v := z
      cases z'⟩
  keep := fun i h h' st k => k it (by simp) _ st
  item := by
    intro X hP hw hK hc i pins s σ H E I hf st hg
    subst hP hw hK
    obtain ⟨f0, f1, f2, f3, f4, f5⟩ := hf it (by simp)
    have W := Walks.range (prog := X.prog) (w := X.w) (I.ok.hd hc) it lo 1 n
    refine W.item i s _ _ hg st fun v h' tk hv st' kk => ?_
    obtain ⟨t, rfl⟩ := hv
    have I1 : Inv X pins σ H { s with heap := h', toks := tk } := I.turned (fun b o hb e => kk b o (by simpa using hb) e) f0 f1 f3 f4 f5
    refine ⟨_, rfl, go_of (s := { s with heap := h', toks := tk }) (n := "range_iterator") st' rfl rfl (by decide) ⟨.int (lo + i), H, I1, ⟨t, ?_⟩, ⟨rfl, rfl⟩, st', fun b hb => (hf b hb).1⟩⟩
    rw [Int.mul_one]
  done := by
    intro X hP hw hK hc i pins s σ H E I hf st hg
    subst hP hw hK
    obtain ⟨f0, f1, f2, f3, f4, f5⟩ := hf it (by simp)
    exact wpAny_pyNext_range_end (I.ok.hd hc) st (by have : n ≤ i := hg; omega) fun h' eb => ⟨rfl, I.turned (t' := s.toks) (fun b o hb e => eb b o hb e) f0 f1 f3 f4 f5⟩
  self := fun _ _ _ _ _ st h => wpAny_pyIter_rangeiter st h
end L2
namespace L2
open PySem PySem.Spec PyProof.Rows
section
variable {X : Cx} {tg : Expr}
def iList (K : PySem.W.Frag) (tl : TE) : TI := fun σ H R => tl σ H fun x H1 => ∃ a, x = .ref a ∧ (∃ xs, SqL K H1 a xs) ∧ R (Itl K a) H1
def iTup (K : PySem.W.Frag) (tl : TE) : TI := fun σ H R => tl σ H fun x H1 => ∃ a, x = .ref a ∧ (∃ xs, SqT K H1 a xs) ∧ R (Itt K a) H1
theorem pi_list {l : Expr} {tl : TE} (hl : PE X l tl) : PI X tg l (iList X.K tl) := by
  intro pins s σ H R I h
  refine thn (hl pins s σ H _ I h) fun v s1 hq_ => ?_
  obtain ⟨x, H1, I1, r1, q1⟩ := hq_
  obtain ⟨a, e, ⟨xs, hq⟩, q⟩ := q1
  subst e
  cases r1
  obtain ⟨its, rv, p, hz⟩ := I1.list hq
  refine wpAny_pyIter_list p.isList ?_
  refine ⟨s1.heap.objs.size, [s1.heap.objs.size], _, _, H1, rfl, I1.kept (t' := s1.toks) fun b o e => Heap.get?_push_of_some _ e, turn_list a _, ⟨_, Heap.get?_push_size _ rfl, rfl, rfl⟩, fun b hb => ?_, q⟩
  have e : b = s1.heap.objs.size := by simpa using hb
  subst e
  exact I1.fpOk (Nat.le_refl _) (I1.hok.fresh (Nat.le_refl _))
theorem pi_tup {l : Expr} {tl : TE} (hl : PE X l tl) : PI X tg l (iTup X.K tl) := by
  intro pins s σ H R I h
  refine thn (hl pins s σ H _ I h) fun v s1 hq_ => ?_
  obtain ⟨x, H1, I1, r1, q1⟩ := hq_
  obtain ⟨a, e, ⟨xs, hq⟩, q⟩ := q1
  subst e
  cases r1
  obtain ⟨its, rv, p, hz⟩ := I1.tuple hq
  refine wpAny_pyIter_tuple (show s1.heap.IsTuple a its.toArray from p) ?_
  refine ⟨s1.heap.objs.size, [s1.heap.objs.size], _, _, H1, rfl, I1.kept (t' := s1.toks) fun b o e => Heap.get?_push_of_some _ e, turn_tuple a _, ⟨_, Heap.get?_push_size _ rfl, rfl, rfl⟩, fun b hb => ?_, q⟩
  have e : b = s1.heap.objs.size := by simpa using hb
  subst e
  exact I1.fpOk (Nat.le_refl _) (I1.hok.fresh (Nat.le_refl _))
theorem range_it {pins : List (Addr × Obj)} {σ : St} {H : Hp} {s : Shared} {R : It → Hp → Prop} {E : Value → Shared → Prop} {lo hi : Int} {t u v : Tok} {tk : Nat} (I : Inv X pins σ H s) (h1 : -(2 ^ 62) ≤ lo) (h2 : lo < 2 ^ 62) (h3 : -(2 ^ 62) ≤ hi) (h4 : hi < 2 ^ 62)
    (q : R (Itr lo (hi - lo).toNat) H) : wpAny (model X.prog X.w) X.A (pyIter (.ref s.heap.objs.size)) (PIE X pins σ tg R) E { s with heap := s.heap.push { cls := .type "range", data := .fields #[.int lo t, .int hi u, .int 1 v] }, toks := tk } := by
  refine wpAny_pyIter_range (IsRange.new ..) (small_one h1 h2 h3 h4) ?_
  have I1 : Inv X pins σ H { s with heap := s.heap.push { cls := .type "range", data := .fields #[.int lo t, .int hi u, .int 1 v] }, toks := tk } := I.kept fun b o e => Heap.get?_push_of_some _ e
  refine ⟨(s.heap.push { cls := .type "range", data := .fields #[.int lo t, .int hi u, .int 1 v] }).objs.size, [(s.heap.push { cls := .type "range", data := .fields #[.int lo t, .int hi u, .int 1 v] }).objs.size], _, _, H, rfl,
    I1.kept (t' := tk) fun b o e => Heap.get?_push_of_some _ e, turn_range _ lo (hi - lo).toNat, ?_, fun b hb => ?_, q⟩
  · have e1 : lo + ((0 : Nat) : Int) * 1 = lo := by simp
    have e2 : (((hi - lo).toNat : Nat) : Int) - ((0 : Nat) : Int) = Builtin.Range.rangeSize lo hi 1 := by rw [rangeSize_one]; split <;> omega
    show IsRangeIter _ _ (lo + ((0 : Nat) : Int) * 1) ((((hi - lo).toNat : Nat) : Int) - ((0 : Nat) : Int)) 1
    rw [e1, e2]
    exact Heap.get?_push_size _ rfl
  · have e : b = (s.heap.push { cls := .type "range", data := .fields #[.int lo t, .int hi u, .int 1 v] }).objs.size := by simpa using hb
    subst e
    exact I1.fpOk (Nat.le_refl _) (I1.hok.fresh (Nat.le_refl _))
def iRng1 (ta : TA) : TI := fun σ H R => ta σ H fun vs H1 => ∃ j : Int, vs = [.int j] ∧ -(2 ^ 62) ≤ j ∧ j < 2 ^ 62 ∧ R (Itr 0 j.toNat) H1
theorem pi_range1 {a : Expr} {ta : TA} {p pos : Pos} (hg : Gl X "range") (hm : X.mg "range" = none) (ha : PA X [a] ta) (hs : starEach [a] X.env = [(false, eval a X.env)] := by rfl) : PI X tg (.Call (.Name "range" p) [a] [] pos) (iRng1 ta) := by
  intro pins s σ H R I h
  refine Call_ (ld_blt I hg hm boot_range (PyProof.Rows.callWith_type1 (thn (ha pos pins s σ H _ I h) fun us s1 ⟨vs, H1, I1, r1, q1⟩ => ?_) hs rfl))
  obtain ⟨j, e, q1, q2, q⟩ := q1
  subst e
  cases r1 with
  | cons r rr =>
    cases rr
    obtain ⟨t, rfl⟩ := r
    exact call_range_1 (range_it I1 (by omega) (by omega) q1 q2 (by simpa using q))
def tFor (wi : TI) (g : TG) (tb : TS) : TS := fun D σ H => wi σ H fun J H1 => ∃ W : Nat → Nat → St → Hp → Prop, (∃ m, W 0 m σ H1) ∧ ∀ i m σ H, W i m σ H →
  (J.stop i H ∧ D.nx σ H) ∨ (J.go i H ∧ ∃ N : St → Hp → Prop, (∀ σ' H', N σ' H' → ∃ m', m' < m ∧ W (i + 1) m' σ' H') ∧ ∀ x H', J.yld i H x H' → g x σ H' fun σ2 H2 => tb { D with nx := N, ct := N, bk := D.nx } σ2 H2)
def pinsAt (fp : List Addr) (h : Heap) : List (Addr × Obj) := fp.filterMap fun b => (h.get? b).map fun o => (b, o)
theorem mem_pinsAt {fp : List Addr} {h : Heap} {b : Addr} {o : Obj} (hb : b ∈ fp) (e : h.get? b = some o) : (b, o) ∈ pinsAt fp h := List.mem_filterMap.mpr ⟨b, hb, by rw [e]; rfl⟩
theorem of_pinsAt {fp : List Addr} {h : Heap} {p : Addr × Obj} (hp : p ∈ pinsAt fp h) : p.1 ∈ fp ∧ h.get? p.1 = some p.2 := by
  obtain ⟨b, hb, e⟩ := List.mem_filterMap.mp hp
  cases q : h.get? b with
  | none => rw [q] at e; cases e
  | some o =>
    rw [q] at e
    have e' : (b, o) = p := Option.some.inj e
    subst e'
    exact ⟨hb, q⟩
theorem Inv.pinned {pins : List (Addr × Obj)} {σ : St} {H : Hp} {s : Shared} {fp : List Addr} (I : Inv X pins σ H s) (hf : ∀ b ∈ fp, FpOk X pins H b) (ho : ∀ b ∈ fp, ∃ o, s.heap.get? b = some o ∧ ∀ v, o.data ≠ .cell v) : Inv X (pins ++ pinsAt fp s.heap) σ H s :=
  I.pins_of fun p hp => (List.mem_append.mp hp).elim (fun z => I.pin p (List.mem_append_right _ z)) fun z => by
    obtain ⟨hb, e⟩ := of_pinsAt z
    obtain ⟨f0, f1, f2, _⟩ := hf p.1 hb
    obtain ⟨o, e', d⟩ := ho p.1 hb
    rw [e] at e'; cases e'
    exact ⟨e, f0, f1, f2, d⟩
theorem Inv.unpinned {pins pl : List (Addr × Obj)} {σ : St} {H : Hp} {s : Shared} (I : Inv X (pins ++ pl) σ H s) : Inv X pins σ H s := I.pins_of fun p hp => I.pin p (List.mem_append_right _ (List.mem_append_left _ hp))
theorem ps_for {iter : Expr} {body : List Stmt} {wi : TI} {g : TG} {tb : TS} {pos : Pos} (hp : PassesOwn (model X.prog X.w) X.A X.env X.xe) (hc : X.calm = true) (hi : PI X tg iter wi) (hg : PG X tg g) (hb : PSs X body tb)
    (hs : ∀ x, foldedSetIterable iter X.env x = pure x := by intro _; rfl) : PS X (.For tg iter body [] pos) (tFor wi g tb) := by
  intro pins s σ H D I h
  refine wpAny_For (thn (hi pins s σ H _ I h) fun v s1 h1 => thn h1 fun itv s2 h2 => ?_) hs
  obtain ⟨it, fp, tn, J, H2, e, I2, T, st2, f2, W, ⟨m0, w0⟩, turn⟩ := h2
  subst e
  have stat : ∀ {H' : Hp}, (∀ b ∈ fp, H' b = none) → ∀ b ∈ fp, FpOk X pins H' b := fun hn b hb => ⟨hn b hb, (f2 b hb).2⟩
  refine codeAny_forLoop_any (fun n s' => ∃ i σ' H', Inv X pins σ' H' s' ∧ tn i s'.heap ∧ (∀ b ∈ fp, H' b = none) ∧ W i n σ' H') ?_ m0 ⟨0, σ, H2, I2, st2, fun b hb => (f2 b hb).1, w0⟩
  rintro n s3 ⟨i, σ3, H3, I3, st3, fr3, w3⟩
  rcases turn i n σ3 H3 w3 with ⟨stop, qn⟩ | ⟨go, N, hN, step⟩
  · refine wpAny_passesOwn hp (thn (T.done X rfl rfl rfl hc i pins s3 σ3 H3 X.xe I3 (stat fr3) st3 stop) fun r s4 hq_ => ?_)
    obtain ⟨hr, I4⟩ := hq_
    subst hr
    exact wpAny_execs_nil ⟨σ3, H3, I4, qn⟩
  · refine wpAny_passesOwn hp (thn (T.item X rfl rfl rfl hc i pins s3 σ3 H3 X.xe I3 (stat fr3) st3 go) fun r s4 hq_ => ?_)
    obtain ⟨u, hr, h4⟩ := hq_
    subst hr
    refine wpAny_passesOwn hp (thn h4 fun _ s5 hq_ => ?_)
    obtain ⟨x, H5, I5, r5, y5, st5, fr5⟩ := hq_
    have I5' := I5.pinned (stat fr5) (T.obj _ _ st5)
    refine wpAny_passesOwn hp (thn (hg _ s5 σ3 H5 x u _ I5' r5 (step x H5 y5)) fun _ s6 hq_ => ?_)
    obtain ⟨σ6, H6, I6, q6⟩ := hq_
    refine wpAny_passesOwn hp (thn (hb _ s6 σ6 H6 _ I6 q6) fun f s7 q7 => ?_)
    have again : ∀ {σ7 : St} {H7 : Hp}, Inv X (pins ++ pinsAt fp s5.heap) σ7 H7 s7 → N σ7 H7 → ∃ m, m < n ∧ ∃ i σ' H', Inv X pins σ' H' s7 ∧ tn i s7.heap ∧ (∀ b ∈ fp, H' b = none) ∧ W i m σ' H' := fun {σ7 H7} I7 n7 => by
      obtain ⟨m', hm, w7⟩ := hN σ7 H7 n7
      refine ⟨m', hm, i + 1, σ7, H7, I7.unpinned, T.keep _ _ _ st5 fun b hb o e => (I7.pin (b, o) (List.mem_append_right _ (List.mem_append_right _ (mem_pinsAt hb e)))).1, fun b hb => ?_, w7⟩
      obtain ⟨o, e, d⟩ := T.obj _ _ st5 b hb
      exact (I7.pin (b, o) (List.mem_append_right _ (List.mem_append_right _ (mem_pinsAt hb e)))).2.1
    cases f with
    | next => obtain ⟨σ7, H7, I7, n7⟩ := q7; exact again I7 n7
    | cont => obtain ⟨σ7, H7, I7, n7⟩ := q7; exact again I7 n7
    | brk => obtain ⟨σ7, H7, I7, q7⟩ := q7; exact ⟨σ7, H7, I7.unpinned, q7⟩
    | ret v => obtain ⟨x7, σ7, H7, I7, r7, q7⟩ := q7; exact ⟨x7, σ7, H7, I7.unpinned, r7, q7⟩
end
end L2
namespace L2
open PySem PySem.Spec PyProof.Rows
abbrev R2 := V → V → Hp → VK → Prop
def OpR (X : Cx) (f : Value → Value → Sem Value) (r : R2) : Prop :=
  ∀ (pins : List (Addr × Obj)) (s : Shared) (σ : St) (H : Hp) (x y : V) (v u : Value) (Q : VK), Inv X pins σ H s → RelV x v → RelV y u → r x y H Q →
    wpAny (model X.prog X.w) X.A (f v u) (EP X pins σ Q) X.xe s
def CallR (X : Cx) (f : Value) (r : List V → Hp → VK → Prop) : Prop :=
  ∀ (pins : List (Addr × Obj)) (s : Shared) (σ : St) (H : Hp) (xs : List V) (us : List Value) (Q : VK), Inv X pins σ H s → Vals xs us → r xs H Q →
    wpAny (model X.prog X.w) X.A (call f us) (EP X pins σ Q) X.xe s
def TruR (X : Cx) (r : V → Hp → (Bool → Hp → Prop) → Prop) : Prop :=
  ∀ (pins : List (Addr × Obj)) (s : Shared) (σ : St) (H : Hp) (x : V) (v : Value) (Q : Bool → Hp → Prop), Inv X pins σ H s → RelV x v → r x H Q →
    wpAny (model X.prog X.w) X.A (truthy v) (TP X pins σ Q) X.xe s
def tOp (r : R2) (ta tb : TE) : TE := fun σ H Q => ta σ H fun x H1 => tb σ H1 fun y H2 => r x y H2 Q
def rI (C : Int → Int → Prop) (g : Int → Int → V) : R2 := fun x y H Q => ∃ i j, x = .int i ∧ y = .int j ∧ C i j ∧ Q (g i j) H
def rI0 (g : Int → Int → V) : R2 := fun x y H Q => ∃ i j, x = .int i ∧ y = .int j ∧ Q (g i j) H
section
variable {X : Cx} {a b c : Expr} {ta tb tc : TE} {pos : Pos}
theorem binT (ha : PE X a ta) (hb : PE X b tb) {pins : List (Addr × Obj)} {s : Shared} {σ : St} {H : Hp} {R : V → V → Hp → Prop} (I : Inv X pins σ H s)
    (h : ta σ H fun x H1 => tb σ H1 fun y H2 => R x y H2) {Q : Value → Shared → Prop} {f : Value → Value → Sem Value}
    (hf : ∀ v u s2 x y H2, Inv X pins σ H2 s2 → RelV x v → RelV y u → R x y H2 → wpAny (model X.prog X.w) X.A (f v u) Q X.xe s2) :
    wpAny (model X.prog X.w) X.A (eval a X.env) (fun v s₁ => wpAny (model X.prog X.w) X.A (eval b X.env) (fun u s₂ => wpAny (model X.prog X.w) X.A (f v u) Q X.xe s₂) X.xe s₁) X.xe s := by
  refine thn (ha pins s σ H _ I h) fun v s1 hq_ => ?_
  obtain ⟨x, H1, I1, r1, q1⟩ := hq_
  refine thn (hb pins s1 σ H1 _ I1 q1) fun u s2 hq_ => ?_
  obtain ⟨y, H2, I2, r2, q2⟩ := hq_
  exact hf v u s2 x y H2 I2 r1 r2 q2
theorem pe_op {op : Operator} {r : R2} (ho : OpR X (binaryOp op) r) (ha : PE X a ta) (hb : PE X b tb) : PE X (.BinOp a op b pos) (tOp r ta tb) := by
  intro pins s σ H Q I h
  exact wpAny_BinOp (binT ha hb I h fun v u s2 x y H2 I2 rx ry q => ho pins s2 σ H2 x y v u Q I2 rx ry q)
theorem opI {f : Value → Value → Sem Value} {C : Int → Int → Prop} {g : Int → Int → Int}
    (rule : ∀ (i j : Int) (t u : Tok) (s : Shared) (Q : Value → Shared → Prop) (E : Value → Shared → Prop), C i j → Q (.int (g i j) s.toks) { s with toks := s.toks + 1 } → wpAny (model X.prog X.w) X.A (f (.int i t) (.int j u)) Q E s) :
    OpR X f (rI C fun i j => .int (g i j)) := by
  intro pins s σ H x y v u Q I rx ry h
  obtain ⟨i, j, rfl, rfl, hc, q⟩ := h
  obtain ⟨t, rfl⟩ := rx
  obtain ⟨t', rfl⟩ := ry
  exact rule i j t t' s _ _ hc ⟨.int (g i j), H, I.tok _, ⟨_, rfl⟩, q⟩
theorem opI0 {f : Value → Value → Sem Value} {g : Int → Int → Int}
    (rule : ∀ (i j : Int) (t u : Tok) (s : Shared) (Q : Value → Shared → Prop) (E : Value → Shared → Prop), Q (.int (g i j) s.toks) { s with toks := s.toks + 1 } → wpAny (model X.prog X.w) X.A (f (.int i t) (.int j u)) Q E s) :
    OpR X f (rI0 fun i j => .int (g i j)) := by
  intro pins s σ H x y v u Q I rx ry h
  obtain ⟨i, j, rfl, rfl, q⟩ := h
  obtain ⟨t, rfl⟩ := rx
  obtain ⟨t', rfl⟩ := ry
  exact rule i j t t' s _ _ ⟨.int (g i j), H, I.tok _, ⟨_, rfl⟩, q⟩
theorem opB0 {f : Value → Value → Sem Value} {g : Int → Int → Bool}
    (rule : ∀ (i j : Int) (t u : Tok) (s : Shared) (Q : Value → Shared → Prop) (E : Value → Shared → Prop), Q (.bool (g i j)) s → wpAny (model X.prog X.w) X.A (f (.int i t) (.int j u)) Q E s) :
    OpR X f (rI0 fun i j => .bl (g i j)) := by
  intro pins s σ H x y v u Q I rx ry h
  obtain ⟨i, j, rfl, rfl, q⟩ := h
  obtain ⟨t, rfl⟩ := rx
  obtain ⟨t', rfl⟩ := ry
  exact rule i j t t' s _ _ ⟨.bl (g i j), H, I, rfl, q⟩
def CPow (i j : Int) : Prop := 0 ≤ j ∧ j ≤ 1000000 ∧ i.natAbs < 2 ^ 64
theorem op_add : OpR X (binaryOp .Add) (rI0 fun i j => .int (i + j)) := opI0 fun _ _ _ _ _ _ _ q => add_int q
theorem op_sub : OpR X (binaryOp .Sub) (rI0 fun i j => .int (i - j)) := opI0 fun _ _ _ _ _ _ _ q => sub_int q
theorem op_mod : OpR X (binaryOp .Mod) (rI (fun _ j => 0 < j) fun i j => .int (i % j)) := opI fun i j _ _ _ _ _ hc q => by
  have h1 : (0 : Int) < j := hc
  exact mod_int' (by omega) (by rw [Int.fmod_eq_emod_of_nonneg i (by omega)]; exact q)
theorem op_pow : OpR X (binaryOp .Pow) (rI CPow fun i j => .int (i ^ j.toNat)) := opI fun _ _ _ _ _ _ _ hc q => pow_int_small hc.1 hc.2.1 hc.2.2 q
end
section
variable {X : Cx} {a b c : Expr} {ta tb tc : TE} {pos : Pos}
theorem op_lt : OpR X (compareOp .Lt) (rI0 fun i j => .bl (decide (i < j))) := opB0 fun _ _ _ _ _ _ _ q => lt_int q
theorem op_ge : OpR X (compareOp .GtE) (rI0 fun i j => .bl (decide (j ≤ i))) := opB0 fun _ _ _ _ _ _ _ q => ge_int q
theorem nomark (b : Expr) {op : CmpOp} (h : op ≠ .In := by decide) (h2 : op ≠ .NotIn := by decide) : behindInMarks op b = false := by
  have e1 : (op == CmpOp.In) = false := by cases op <;> first | rfl | exact absurd rfl h
  have e2 : (op == CmpOp.NotIn) = false := by cases op <;> first | rfl | exact absurd rfl h2
  cases b <;> simp [behindInMarks, e1, e2]
theorem pe_cmpR {op : CmpOp} {r : R2} (ho : OpR X (compareOp op) r) (ha : PE X a ta) (hb : PE X b tb) (hm : behindInMarks op b = false) : PE X (.Compare a [op] [b] pos) (tOp r ta tb) := by
  intro pins s σ H Q I h
  exact wpAny_Compare1 (binT ha hb I h fun v u s2 x y H2 I2 rx ry q => ho pins s2 σ H2 x y v u Q I2 rx ry q) hm
def tTest (t : TE) : TT := fun σ H Q => t σ H fun x H' => ∃ k, x = .bl k ∧ Q k H'
theorem pt_cmpR {op : CmpOp} {r : R2} (ho : OpR X (compareOp op) r) (ha : PE X a ta) (hb : PE X b tb) (hm : behindInMarks op b = false) : PT X (.Compare a [op] [b] pos) (tTest (tOp r ta tb)) := by
  intro pins s σ H Q I h
  refine wpAny_isTrue_Compare1 (thn (ha pins s σ H _ I h) fun v s1 ⟨x, H1, I1, r1, q1⟩ => thn (hb pins s1 σ H1 _ I1 q1) fun u s2 ⟨y, H2, I2, r2, q2⟩ =>
    thn (ho pins s2 σ H2 x y v u _ I2 r1 r2 q2) fun c s3 ⟨z, H3, I3, r3, k, e, q3⟩ => ?_) hm
  subst e
  cases r3
  exact wpAny_truthy_bool ⟨H3, I3, q3⟩
def TruV (K : PySem.W.Frag) (x : V) (H : Hp) (k : Bool) : Prop :=
  match x with
  | .non => k = false
  | .bl b => k = b
  | .int i => k = (i != 0)
  | .str y => y.length ≤ sizeLine ∧ k = ((y.length : Int) != 0)
  | .byt y => y.size ≤ sizeLine ∧ k = ((y.size : Int) != 0)
  | .ref p => (∃ xs, SqL K H p xs ∧ k = !xs.isEmpty) ∨ (∃ xs, SqT K H p xs ∧ k = !xs.isEmpty) ∨ ∃ kvs, H p = some (.dK kvs) ∧ k = !kvs.isEmpty
  | _ => False
theorem isEmpty_kv {κ : Type} {kvs : List (κ × V)} {vs : List (κ × Value)} (r : KV kvs vs) : (!vs.isEmpty) = !kvs.isEmpty := by
  cases r <;> rfl
theorem isEmpty_of {xs : List V} {its : List Value} (r : Vals xs its) : (!its.toArray.isEmpty) = !xs.isEmpty := by
  cases r <;> simp
theorem line63 : (sizeLine : Nat) < 2 ^ 63 := by rw [sizeLine_eq]; decide
theorem tru_ok : TruR X (fun x H Q => ∃ k, TruV X.K x H k ∧ Q k H) := by
  intro pins s σ H x v Q I rx h
  obtain ⟨k, e, q⟩ := h
  have hl := line63
  have hs : sizeLine = 16777216 := sizeLine_eq
  cases x with
  | non =>
    cases rx
    have e' : k = false := e
    subst e'
    exact truthy_none ⟨H, I, q⟩
  | bl b =>
    cases rx
    have e' : k = b := e
    subst e'
    exact wpAny_truthy_bool ⟨H, I, q⟩
  | int i =>
    obtain ⟨t, rfl⟩ := rx
    have e' : k = (i != 0) := e
    subst e'
    exact PySem.P.truthy_int ⟨H, I, q⟩
  | str y =>
    obtain ⟨t, rfl⟩ := rx
    obtain ⟨hy, e'⟩ : y.length ≤ sizeLine ∧ k = ((y.length : Int) != 0) := e
    subst e'
    exact PySem.P.truthy_str (by omega) ⟨H, I.tok _, q⟩
  | byt y =>
    obtain ⟨t, rfl⟩ := rx
    obtain ⟨hy, e'⟩ : y.size ≤ sizeLine ∧ k = ((y.size : Int) != 0) := e
    subst e'
    exact PySem.W.truthy_bytes (by omega) ⟨H, I.tok _, q⟩
  | ref p =>
    cases rx
    have e' : (∃ xs, SqL X.K H p xs ∧ k = !xs.isEmpty) ∨ (∃ xs, SqT X.K H p xs ∧ k = !xs.isEmpty) ∨ ∃ kvs, H p = some (.dK kvs) ∧ k = !kvs.isEmpty := e
    rcases e' with ⟨xs, hx, e'⟩ | ⟨xs, hx, e'⟩ | ⟨kvs, hx, e'⟩
    · subst e'
      obtain ⟨its, r, pl, hz⟩ := I.list hx
      have hlen := r.length
      exact wpAny_truthy_list pl.isList (by simp only [List.size_toArray]; omega) ⟨H, I.tok _, by rw [isEmpty_of r]; exact q⟩
    · subst e'
      obtain ⟨its, r, pl, hz⟩ := I.tuple hx
      have hlen := r.length
      exact truthy_tuple pl (by simp only [List.size_toArray]; omega) ⟨H, I.tok _, by rw [isEmpty_of r]; exact q⟩
    · subst e'
      obtain ⟨hz, hS, vs, r, m⟩ : kvs.length ≤ sizeLine ∧ (p == sysModules) = false ∧ ∃ vs, KV kvs vs ∧ s.heap.DictOf (mixKind X.prog X.w) p vs := I.hok p _ hx
      have hlen : kvs.length = vs.length := Paired.length r
      exact wpAny_truthy_dict hS m (by omega) ⟨H, I.tok _, by rw [isEmpty_kv r]; exact q⟩
  | _ => exact (show False from e).elim
theorem pt_truth (ha : PE X a ta) (he : ∀ whole, isTrue a X.env whole = (do let v ← whole; standAt a.pos; holding [v] (truthy v))) :
    PT X a (fun σ H Q => ta σ H fun x H' => ∃ k, TruV X.K x H' k ∧ Q k H') := by
  intro pins s σ H Q I h
  exact isTrue_plain (thn (ha pins s σ H _ I h) fun v s1 ⟨x, H1, I1, r1, q1⟩ => tru_ok pins s1 σ H1 x v Q I1 r1 q1) (he _)
theorem vals1 {x : V} {us : List Value} (r : Vals [x] us) : ∃ u, us = [u] ∧ RelV x u := by
  cases r with
  | cons r1 r2 => cases r2; exact ⟨_, rfl, r1⟩
theorem vals2 {x y : V} {us : List Value} (r : Vals [x, y] us) : ∃ u w', us = [u, w'] ∧ RelV x u ∧ RelV y w' := by
  cases r with
  | cons r1 r2 =>
    cases r2 with
    | cons r3 r4 => cases r4; exact ⟨_, _, rfl, r1, r3⟩
theorem call_abs : CallR X (.builtin "abs") (fun xs H Q => ∃ i, xs = [.int i] ∧ Q (.int (if i < 0 then -i else i)) H) := by
  intro pins s σ H xs us Q I r h
  obtain ⟨i, rfl, q⟩ := h
  obtain ⟨u, rfl, t, rfl⟩ := vals1 r
  exact call_abs_int fun u tk => ⟨.int (if i < 0 then -i else i), H, I.tok _, ⟨_, rfl⟩, q⟩
theorem call_min2 (hc : X.calm = true) : CallR X (.builtin "min") (fun xs H Q => ∃ i j, xs = [.int i, .int j] ∧ Q (.int (if j < i then j else i)) H) := by
  intro pins s σ H xs us Q I r h
  obtain ⟨i, j, rfl, q⟩ := h
  obtain ⟨u, w', rfl, ⟨t, rfl⟩, ⟨t', rfl⟩⟩ := vals2 r
  refine min_two_ints (I.ok.hd hc) fun h' tk k => ⟨_, H, I.kept k, ?_, q⟩
  by_cases hj : j < i
  · rw [if_pos hj, if_pos hj]; exact ⟨_, rfl⟩
  · rw [if_neg hj, if_neg hj]; exact ⟨_, rfl⟩
theorem call_int1 : CallR X (.type "int") (fun xs H Q => (∃ i, xs = [.int i] ∧ Q (.int i) H) ∨ ∃ k, xs = [.bl k] ∧ Q (.int (if k then 1 else 0)) H) := by
  intro pins s σ H xs us Q I r h
  rcases h with ⟨i, rfl, q⟩ | ⟨k, rfl, q⟩
  · obtain ⟨u, rfl, t, rfl⟩ := vals1 r
    exact call_int_int ⟨.int i, H, I, ⟨_, rfl⟩, q⟩
  · obtain ⟨u, rfl, r1⟩ := vals1 r
    cases r1
    exact call_int_bool ⟨.int (if k then 1 else 0), H, I.tok _, ⟨_, rfl⟩, q⟩
end
end L2
namespace L2
open PySem PySem.Spec PyProof.Rows
theorem RelO.some_of {v : V} {o : Option Value} (r : RelO (some v) o) : ∃ u, o = some u ∧ RelV v u := by
  cases o with
  | none => exact (show False from r).elim
  | some u => exact ⟨u, rfl, r⟩
end L2
namespace L2
open PySem PySem.Spec PyProof.Rows
structure Room (k : Nat) (A : Around) : Prop where
  hd : A.handled = none
  dp : A.depth + 3 * k + 5 < recursionLimit
  un : A.units + 16 * k + 200 < cLine
theorem Room.mono {j k : Nat} {A : Around} (r : Room k A) (h : j ≤ k) : Room j A := ⟨r.hd, by have := r.dp; omega, by have := r.un; omega⟩
theorem Room.deeper {k : Nat} {A : Around} (r : Room (k + 1) A) (env : Env) : Room k (A.deeper env) :=
  ⟨r.hd, by have := r.dp; show A.depth + 1 + 3 * k + 5 < _; omega, by have := r.un; show A.units + 3 + 16 * k + 200 < _; omega⟩
theorem Room.depth {k : Nat} {A : Around} (r : Room k A) : A.depth < recursionLimit := by have := r.dp; omega
theorem Room.units {k : Nat} {A : Around} (r : Room k A) : A.units + 64 < cLine := by have := r.un; omega
def tNil : TA := fun _ H Q => Q [] H
def tCons (ta : TE) (tr : TA) : TA := fun σ H Q => ta σ H fun x H1 => tr σ H1 fun xs H2 => Q (x :: xs) H2
section
variable {X : Cx} {e : Expr} {es : List Expr} {te : TE} {t : TA} {pos : Pos}
theorem pa_nil : PA X [] tNil := fun _ _ _ _ H Q I h => Calls.spliced_nil ⟨[], H, I, .nil, h⟩
theorem pa_cons (ha : PE X e te) (hr : PA X es t) (hs : starEach (e :: es) X.env = (false, eval e X.env) :: starEach es X.env := by rfl) : PA X (e :: es) (tCons te t) := by
  intro pos pins s σ H Q I h
  rw [hs]
  show wpAny _ _ (spliced ((false, eval e X.env) :: backTo pos (starEach es X.env))) _ _ s
  refine Calls.spliced_cons (thn (ha pins s σ H _ I h) fun u s1 hq_ => ?_)
  obtain ⟨x, H1, I1, r1, q1⟩ := hq_
  exact thn (hr pos pins s1 σ H1 _ I1 q1) fun us s2 ⟨xs, H2, I2, r2, q2⟩ => ⟨x :: xs, H2, I2, .cons r1 r2, q2⟩
def tTup (t : TA) : TE := fun σ H Q => t σ H fun xs H1 => xs.length ≤ sizeLine ∧ ∀ p, H1 p = none → Q (.ref p) (upd H1 p (.tup xs))
def tLst (t : TA) : TE := fun σ H Q => t σ H fun xs H1 => xs.length ≤ sizeLine ∧ ∀ p, H1 p = none → Q (.ref p) (upd H1 p (.lst xs))
theorem pe_tup {x1} (h : PA X es t) : PE X (.Tuple es x1 pos) (tTup t) := by
  intro pins s σ H Q I hq
  refine wpAny_Tuple_spliced (thn (h pos pins s σ H _ I hq) fun us s1 ⟨xs, H1, I1, r, z, q⟩ => ⟨by rw [← r.length]; exact z, ?_⟩)
  have hf : H1 s1.heap.objs.size = none := I1.hok.fresh (Nat.le_refl _)
  refine ⟨.ref s1.heap.objs.size, upd H1 s1.heap.objs.size (.tup xs), I1.laid (t' := s1.toks) (fun b u e => Heap.get?_push_of_some _ e) (Nat.le_refl _) ?_, rfl, q _ hf⟩
  exact ⟨z, us, r, ⟨_, Heap.get?_push_size _ rfl, rfl, _, rfl⟩, _, Heap.get?_push_size _ rfl, rfl⟩
theorem pe_lst (h : PA X es t) : PE X (.List es pos) (tLst t) := by
  intro pins s σ H Q I hq
  refine wpAny_List_spliced (thn (h pos pins s σ H _ I hq) fun us s1 ⟨xs, H1, I1, r, z, q⟩ => ⟨by rw [← r.length]; exact z, ?_⟩)
  have hf : H1 s1.heap.objs.size = none := I1.hok.fresh (Nat.le_refl _)
  refine ⟨.ref s1.heap.objs.size, upd H1 s1.heap.objs.size (.lst xs), I1.laid (t' := s1.toks) (fun b u e => Heap.get?_push_of_some _ e) (Nat.le_refl _) ?_, rfl, q _ hf⟩
  exact ⟨z, us, 0, r, Heap.get?_push_size _ rfl⟩
end
abbrev Sp := List V → Hp → VK → XK → Prop
abbrev CXT := List Env → Hp → Shared → XK → Value → Shared → Prop
structure Env0 (P : Program) (w : World) (K : PySem.W.Frag) (mg : Str → Option Value) (base : Heap) (A : Around) (outer : List Env) (s : Shared) (H : Hp) : Prop where
  frames : A.frames = some outer
  mod : Mod K mg base
  bs : ∀ b o, base.get? b = some o → s.heap.get? b = some o ∧ H b = none
  bsz : base.objs.size ≤ s.heap.objs.size
  funs : s.heap.FunFrames base outer
  frf : ∀ b ∈ frs outer, H b = none
  hok : HOk P w H s.heap
  bare : AllBare s.gens
def CE (outer : List Env) (P : Program) (w : World) (H : Hp) (s : Shared) (Q : VK) (u : Value) (s' : Shared) : Prop :=
  ∃ v H', s'.os = s.os ∧ AllBare s'.gens ∧ Un (frs outer) [] H H' s.heap s'.heap ∧ HOk P w H' s'.heap ∧ RelV v u ∧ Q v H'
def CR (CX : CXT) (outer : List Env) (P : Program) (w : World) (H : Hp) (s : Shared) (Q : VK) (E : XK) (r : Result) (s' : Shared) : Prop :=
  match r with
  | .ok (.ret u) => CE outer P w H s Q u s'
  | .ok _ => False
  | .error e => CX outer H s E e s'
structure FnOk (P : Program) (w : World) (K : PySem.W.Frag) (mg : Str → Option Value) (base : Heap) (CX : CXT) (k : Nat) (f : Addr) (fd : FuncData) (ps : List Str) (sp : Sp) : Prop where
  len : ∀ vs H Q E, sp vs H Q E → vs.length = ps.length
  run : ∀ (A : Around) (outer : List Env) (s : Shared) (H : Hp) (args : Args) (us : List Value) (vs : List V) (Q : VK) (E : XK), Room k A → Env0 P w K mg base A outer s H → BindsTo s fd args (ps.zip us) → Vals vs us → sp vs H Q E →
    codeAny (model P w) A (.call (.ref f) args) (CR CX outer P w H s Q E) s
theorem FnOk.imp {P : Program} {w : World} {K : PySem.W.Frag} {mg : Str → Option Value} {base : Heap} {CX : CXT} {k : Nat} {f : Addr} {fd : FuncData} {ps : List Str} {sp sp' : Sp} (F : FnOk P w K mg base CX k f fd ps sp)
    (h : ∀ vs H Q E, sp' vs H Q E → sp vs H Q E) : FnOk P w K mg base CX k f fd ps sp' :=
  ⟨fun vs H Q E q => F.len vs H Q E (h _ _ _ _ q), fun A outer s H args us vs Q E hr he hb hv hs => F.run A outer s H args us vs Q E hr he hb hv (h _ _ _ _ hs)⟩
section
variable {X : Cx} {pins : List (Addr × Obj)} {σ : St} {H : Hp} {s s' : Shared}
theorem Inv.env0 (I : Inv X pins σ H s) : Env0 X.prog X.w X.K X.mg X.base X.A X.stack s H :=
  ⟨I.ok.frames, I.ok.mod, I.bs, Nat.le_trans I.ok.bsz I.sz, I.stack, I.stkFree, I.hok, I.bare⟩
theorem Inv.after {Q : VK} {u : Value} (I : Inv X pins σ H s) (h : CE X.stack X.prog X.w H s Q u s') : EP X pins σ Q u s' := by
  obtain ⟨v, H', os, bare, un, hok, r, q⟩ := h
  obtain ⟨hh, g, d, t, os'⟩ := s'
  obtain rfl : os' = s.os := os
  exact ⟨v, H', I.call (h' := hh) (g' := g) (d' := d) (t' := t) (ch := []) un hok bare (fun b z => absurd z (by simp)), r, q⟩
end
def tCall (sp : Sp) (dvs : List V) (E : XK) (t : TA) : TE := fun σ H Q => t σ H fun vs H1 => sp (vs ++ dvs) H1 Q E
def Binds (K : PySem.W.Frag) (fd : FuncData) (ps : List Str) (ds : List Value) : Prop :=
  ∀ (s : Shared) (us : List Value), K.In s.heap → (us ++ ds).length = ps.length → BindsTo s fd ⟨us, []⟩ (ps.zip (us ++ ds))
theorem Binds.all {K : PySem.W.Frag} {fd : FuncData} {ps : List Str} (h : ∀ us : List Value, us.length = ps.length → bindArgs fd ⟨us, []⟩ = pure (ps.zip us)) : Binds K fd ps [] := fun s us _ hl => by
  rw [List.append_nil] at hl ⊢
  exact .of_eq (h us hl)
def Passes (CX : CXT) (X : Cx) (E : XK) : Prop := ∀ (pins : List (Addr × Obj)) (σ : St) (H : Hp) (s : Shared) (e : Value) (s' : Shared), Inv X pins σ H s → CX X.stack H s E e s' → X.xe e s'
section
variable {X : Cx} {CX : CXT} {k : Nat} {f C : Addr} {fd : FuncData} {ps : List Str} {sp : Sp} {dvs : List V} {ds : List Value} {E : XK} {x m : Str} {p pos apos : Pos} {e o : Expr} {es : List Expr} {ta : TE} {t : TA}
theorem run_fn {pins : List (Addr × Obj)} {σ : St} {H : Hp} {s : Shared} {Q : VK} {us : List Value} {vs : List V} (F : FnOk X.prog X.w X.K X.mg X.base CX k f fd ps sp) (hr : Room k X.A) (hb : Binds X.K fd ps ds) (hd : Vals dvs ds) (hx : Passes CX X E)
    (I : Inv X pins σ H s) (r : Vals vs us) (h : sp (vs ++ dvs) H Q E) : wpAny (model X.prog X.w) X.A (call (.ref f) us) (EP X pins σ Q) X.xe s := by
  have r2 : Vals (vs ++ dvs) (us ++ ds) := r.append hd
  have hl : (us ++ ds).length = ps.length := by rw [← r2.length]; exact F.len _ _ _ _ h
  refine wpAny_call (codeAny_mono (F.run X.A X.stack s H ⟨us, []⟩ (us ++ ds) (vs ++ dvs) Q E hr I.env0 (hb s us I.kIn hl) r2 h) fun r s' hq => ?_)
  cases r with
  | error e => exact hx pins σ H s e s' I hq
  | ok fl =>
    cases fl with
    | ret u => exact I.after hq
    | next => exact False.elim hq
    | brk => exact False.elim hq
    | cont => exact False.elim hq
theorem pe_call (F : FnOk X.prog X.w X.K X.mg X.base CX k f fd ps sp) (hr : Room k X.A) (hg : Gl X x) (hm : X.mg x = some (.ref f)) (hk : PySem.W.keepIn X.K (.ref f) = true) (hb : Binds X.K fd ps ds) (hd : Vals dvs ds) (hx : Passes CX X E)
    (ha : PA X (e :: es) t) (hdb : (x == ("__debug__" : Str)) = false := by decide) (he : starEach (e :: es) X.env = (false, eval e X.env) :: starEach es X.env := by rfl) (hpl : (backTo pos (starEach es X.env)).any (·.1) = false := by rfl) :
    PE X (.Call (.Name x p) (e :: es) [] pos) (tCall sp dvs E t) := by
  intro pins s σ H Q I h
  refine wpAny_Call_Name_kw (ld_glob I hg hm ?_ hdb)
  refine PySem.W.callWith_K (h₀ := X.base) I.ok.mod.kin hk (thn (ha pos pins s σ H _ I h) fun us s1 ⟨vs, H1, I1, r, q⟩ => ⟨I1.kIn, ?_⟩) he hpl
  exact run_fn F hr hb hd hx I1 r q
end
structure FnScope (N P : List Str) (sc : Scope) : Prop where
  kind : sc.kind = .function
  co : sc.isCoroutine = false
  gen : sc.isGenerator = false
  nd : N.Nodup
  pre : N.take P.length = P
  par : ∀ x ∈ P, sc.names.lookup x = some .local ∨ sc.names.lookup x = some .cell
  nofree : ∀ y ∈ sc.names, y.2 ≠ .free
theorem bindL_out {kindOf : Str → Option NameKind} {x : Str} : ∀ {binds : List (Str × Value)} {m : Str → Option Value}, (∀ v, (x, v) ∉ binds) → bindL kindOf binds m x = m x
  | [], _, _ => rfl
  | (n, v) :: r, m, h => by
    unfold bindL
    rw [bindL_out fun w hw => h w (List.mem_cons_of_mem _ hw)]
    split
    · have : x ≠ n := by rintro rfl; exact h v List.mem_cons_self
      simp [this]
    · rfl
theorem bindC_out {kindOf : Str → Option NameKind} {x : Str} : ∀ {binds : List (Str × Value)} {m : Str → Option Value}, (∀ v, (x, v) ∉ binds) → bindC kindOf binds m x = m x
  | [], _, _ => rfl
  | (n, v) :: r, m, h => by
    unfold bindC
    rw [bindC_out fun w hw => h w (List.mem_cons_of_mem _ hw)]
    split
    · rfl
    · have : x ≠ n := by rintro rfl; exact h v List.mem_cons_self
      simp [this]
theorem bindL_get {kindOf : Str → Option NameKind} {x : Str} {v : Value} : ∀ {P : List Str} {vs : List Value} {i : Nat} {m : Str → Option Value}, P.Nodup → P[i]? = some x → vs[i]? = some v → kindOf x = some .local →
    bindL kindOf (P.zip vs) m x = some v
  | [], _, _, _, _, h, _, _ => by simp at h
  | _ :: _, [], _, _, _, _, h, _ => by simp at h
  | p :: P, w :: vs, 0, m, nd, h1, h2, hk => by
    simp at h1 h2; subst h1; subst h2
    show bindL kindOf ((p, w) :: P.zip vs) m p = _
    unfold bindL
    rw [bindL_out fun v hv => (List.nodup_cons.mp nd).1 (List.of_mem_zip hv).1, if_pos hk]
    simp
  | p :: P, w :: vs, i + 1, m, nd, h1, h2, hk => by
    show bindL kindOf ((p, w) :: P.zip vs) m x = _
    unfold bindL
    exact bindL_get (i := i) (List.nodup_cons.mp nd).2 (by simpa using h1) (by simpa using h2) hk
theorem bindC_get {kindOf : Str → Option NameKind} {x : Str} {v : Value} : ∀ {P : List Str} {vs : List Value} {i : Nat} {m : Str → Option Value}, P.Nodup → P[i]? = some x → vs[i]? = some v → kindOf x ≠ some .local →
    bindC kindOf (P.zip vs) m x = some v
  | [], _, _, _, _, h, _, _ => by simp at h
  | _ :: _, [], _, _, _, _, h, _ => by simp at h
  | p :: P, w :: vs, 0, m, nd, h1, h2, hk => by
    simp at h1 h2; subst h1; subst h2
    show bindC kindOf ((p, w) :: P.zip vs) m p = _
    unfold bindC
    rw [bindC_out fun v hv => (List.nodup_cons.mp nd).1 (List.of_mem_zip hv).1, if_neg hk]
    simp
  | p :: P, w :: vs, i + 1, m, nd, h1, h2, hk => by
    show bindC kindOf ((p, w) :: P.zip vs) m x = _
    unfold bindC
    exact bindC_get (i := i) (List.nodup_cons.mp nd).2 (by simpa using h1) (by simpa using h2) hk
def start (N : List Str) (vs : List V) : St := vs.map some ++ List.replicate (N.length - vs.length) none
def cxOf (CX : CXT) (P : Program) (w : World) (K : PySem.W.Frag) (mg : Str → Option Value) (base : Heap) (N : List Str) (qual : Str) (scope : Scope) (f : Addr) (cd : Value) (A : Around) (outer : List Env) (s : Shared) (H : Hp) (E : XK) : Cx where
  prog := P
  w := w
  K := K
  mg := mg
  base := base
  A := A.deeper (envOfC qual scope s.heap.objs.size f cd)
  N := N
  s₀ := s
  H₀ := H
  env := envOfC qual scope s.heap.objs.size f cd
  outer := outer
  stack := envOfC qual scope s.heap.objs.size f cd :: outer
  ex := []
  calm := true
  fn := fun _ => true
  pn := []
  xe := fun e s' => wpAny (model P w) (A.deeper (envOfC qual scope s.heap.objs.size f cd)) (leaving (envOfC qual scope s.heap.objs.size f cd) e) (fun _ s'' => CX outer H s E e s'') (fun e' s'' => CX outer H s E e' s'') s'
theorem cell_has {sc : Scope} {n : Nat} {x : Str} (h : sc.names.lookup x = some .cell) : ∃ c, (cellsFrom n sc.names []).lookup x = some c := by
  have q := PySem.W.cellsFrom_some sc.names n [] (.inl h)
  exact Option.isSome_iff_exists.mp q
theorem inv_start {CX : CXT} {P : Program} {w : World} {K : PySem.W.Frag} {mg : Str → Option Value} {base : Heap} {N ps : List Str} {qual : Str} {scope : Scope} {f : Addr} {cd : Value} {A : Around} {outer : List Env} {s s1 : Shared} {H : Hp} {E : XK} {us : List Value} {vs : List V}
    (S : FnScope N ps scope) (hd : A.handled = none) (e0 : Env0 P w K mg base A outer s H) (hl : vs.length = ps.length) (r : Vals vs us)
    (x : InCallC s s.heap.objs.size (bindL (envOfC qual scope s.heap.objs.size f cd).kindOf (ps.zip us) fun _ => none) (cellsFrom (s.heap.objs.size + 1) scope.names []) (bindC (envOfC qual scope s.heap.objs.size f cd).kindOf (ps.zip us) fun _ => none) s1) :
    Inv (cxOf CX P w K mg base N qual scope f cd A outer s H E) [] (start N vs) H s1 := by
  have hpl : ps.length ≤ N.length := by have := congrArg List.length S.pre; rw [List.length_take] at this; omega
  obtain ⟨h1, tk, rfl, hk⟩ := x.done
  have noA : ∀ b : Addr, b ∉ (cxOf CX P w K mg base N qual scope f cd A outer s H E).ex := fun b z => absurd (show b ∈ ([] : List Addr) from z) (by simp)
  refine ⟨⟨e0.mod, S.kind, rfl, rfl, Nat.le_refl _, fun y z c h1 h2 => ?_, fun y hy => ?_, fun y c _ h => ?_, fun _ => hd, Around.frames_deeper e0.frames, .inr ⟨rfl, rfl⟩, fun b z => absurd z (noA b), e0.bs, e0.bsz, fun b _ _ => noA b, fun b z => absurd z (noA b), e0.funs, e0.frf⟩,
    rfl, e0.bare, Un.kept hk, ⟨_, x.toInCall.ns, fun i y v h1 h2 h3 => ?_⟩, fun y c h => ⟨_, x.cell y c h⟩, e0.hok.fresh (Nat.le_refl _), fun y c h => ?_, fun p hp => absurd (show p ∈ ([] : List (Addr × Obj)) from hp) (by simp), e0.hok.kept hk, ?_⟩
  · exact name_of_addr x.apart (PySem.mem_of_lookup h1) (PySem.mem_of_lookup h2)
  · have hy : scope.names.lookup y = some .cell ∨ scope.names.lookup y = some .free := hy
    rcases hy with hy | hy
    · exact cell_has hy
    · exact absurd rfl (S.nofree _ (PySem.mem_of_lookup hy))
  · exact Nat.le_of_lt (x.above y c (PySem.mem_of_lookup h))
  · have hi : i < vs.length := by
      unfold start at h2
      by_cases hi : i < vs.length
      · exact hi
      · rw [List.getElem?_append_right (by simpa using hi)] at h2
        rw [List.getElem?_replicate] at h2
        split at h2 <;> cases h2
    have ha : vs[i]? = some v := by
      unfold start at h2
      rw [List.getElem?_append_left (by simpa using hi), List.getElem?_map] at h2
      cases e : vs[i]? with
      | none => rw [e] at h2; cases h2
      | some a => rw [e] at h2; cases h2; rfl
    obtain ⟨u, hu, rv⟩ := r.get ha
    have hp : ps[i]? = some y := by
      rw [← S.pre, List.getElem?_take_of_lt (by omega)]; exact h1
    have ndP : ps.Nodup := by rw [← S.pre]; exact S.nd.sublist (List.take_sublist _ _)
    refine ⟨u, rv, ?_⟩
    rcases S.par y (List.mem_of_getElem? hp) with k | k
    · exact .inl ⟨k, bindL_get ndP hp hu k⟩
    · obtain ⟨c, e⟩ := cell_has (n := s.heap.objs.size + 1) k
      refine .inr ⟨.inl k, c, e, ?_⟩
      have q := x.cell y c e
      rw [bindC_get ndP hp hu (by show scope.names.lookup y ≠ _; rw [k]; decide)] at q
      exact q
  · exact e0.hok.fresh (Nat.le_of_lt (x.above y c (PySem.mem_of_lookup h)))
  · unfold start
    show _ = N.length
    rw [List.length_append, List.length_map, List.length_replicate]
    omega
theorem fn_of {CX : CXT} {P : Program} {w : World} {K : PySem.W.Frag} {mg : Str → Option Value} {base : Heap} {k : Nat} {f : Addr} {name qual : Str} {params : Arguments} {body : List Stmt} {scope : Scope} {dV kV doc pm cdv ct oc : Value} {an od : Option Addr}
    {osl : Array (Option Value)} {N ps : List Str} {sp : Sp} (lk : K.lookup f = some ⟨oc, od, .func (PySem.W.fnOf name qual params body scope dV kV doc pm an cdv ct), osl⟩) (hcd : PySem.W.codeIn K cdv qual = true) (S : FnScope N ps scope)
    (len : ∀ vs H Q E, sp vs H Q E → vs.length = ps.length)
    (hbody : ∀ (A : Around) (outer : List Env) (s : Shared) (H : Hp) (vs : List V) (Q : VK) (E : XK), Room k (A.deeper (envOfC qual scope s.heap.objs.size f cdv)) → sp vs H Q E →
      ∃ t, PSs (cxOf CX P w K mg base N qual scope f cdv A outer s H E) body t ∧ t { nx := fun _ H' => Q .non H', rt := Q } (start N vs) H) :
    FnOk P w K mg base CX (k + 1) f (PySem.W.fnOf name qual params body scope dV kV doc pm an cdv ct) ps sp := by
  refine ⟨len, fun A outer s H args us vs Q E hr e0 hb r hsp => ?_⟩
  have hl := len _ _ _ _ hsp
  have KX : K.In s.heap := e0.mod.kin.keeps fun b o e => (e0.bs b o e).1
  have lim : s.heap.NoLimit := e0.mod.nolimit.keeps fun b o e => (e0.bs b o e).1
  have hkind : ∀ y ∈ ps.zip us, scope.names.lookup y.1 = some .local ∨ (scope.names.lookup y.1 = some .cell ∧ ((cellsFrom (s.heap.objs.size + 1) scope.names []).lookup y.1).isSome = true) := fun ⟨n, v⟩ hy => by
    rcases S.par n (List.of_mem_zip hy).1 with q | q
    · exact .inl q
    · exact .inr ⟨q, PySem.W.cellsFrom_some _ _ _ (.inl q)⟩
  refine codeAny_call_function hr.depth (KX _ _ lk) rfl S.co S.gen rfl (PySem.W.codeRec_of KX hcd) (hb _ _ _ _ ?_)
  refine wpAny_newFunctionEnv_cells S.kind hkind fun env he s1 x => ?_
  subst he
  refine ⟨lim.keeps x.toInCall.keep, codeAny_func ?_⟩
  obtain ⟨t, ht, hq⟩ := hbody A outer s H vs Q E (hr.deeper _) hsp
  have I : Inv (cxOf CX P w K mg base N qual scope f cdv A outer s H E) [] (start N vs) H s1 := inv_start S hr.hd e0 hl r x
  refine wpAny_mono (ht [] s1 (start N vs) H _ I hq) (fun fl s' hs => ?_) fun e s' hs => hs
  have fin : ∀ {σ' : St} {H' : Hp} {v : V} {u : Value}, Inv (cxOf CX P w K mg base N qual scope f cdv A outer s H E) [] σ' H' s' → RelV v u → Q v H' → CE outer P w H s Q u s' :=
    fun {σ' H' v u} J rv q => ⟨v, H', J.os, J.bare, J.base, J.hok, rv, q⟩
  cases fl with
  | ret u =>
    obtain ⟨v, σ', H', J, rv, q⟩ := hs
    exact fin J rv q
  | next =>
    obtain ⟨σ', H', J, q⟩ := hs
    exact fin (v := V.non) (u := Value.none) J rfl q
  | brk =>
    obtain ⟨_, _, _, q⟩ := hs
    exact False.elim q
  | cont =>
    obtain ⟨_, _, _, q⟩ := hs
    exact False.elim q
end L2
namespace L2
open PySem PySem.Spec PyProof.Rows
section
variable {X : Cx} {x : Str} {p pos : Pos} {e : Expr} {es : List Expr} {t : TA} {id T : String} {r : List V → Hp → VK → Prop}
def tCB (r : List V → Hp → VK → Prop) (t : TA) : TE := fun σ H Q => t σ H fun vs H1 => r vs H1 Q
theorem pe_callB (hc : CallR X (.builtin id) r) (hg : Gl X x) (hm : X.mg x = none) (hv : bootBuiltins x = some (.builtin id)) (ha : PA X (e :: es) t) (hn : x ≠ "__name__" := by decide) (hdb : (x == ("__debug__" : Str)) = false := by decide)
    (he : starEach (e :: es) X.env = (false, eval e X.env) :: starEach es X.env := by rfl) (hpl : (backTo pos (starEach es X.env)).any (·.1) = false := by rfl) : PE X (.Call (.Name x p) (e :: es) [] pos) (tCB r t) := by
  intro pins s σ H Q I h
  refine wpAny_Call_Name_kw (ld_blt I hg hm hv ?_ hn hdb)
  exact PyProof.Rows.callWith_builtin1 (thn (ha pos pins s σ H _ I h) fun us s1 ⟨vs, H1, I1, r1, q1⟩ => hc pins s1 σ H1 vs us Q I1 r1 q1) he hpl
theorem pe_callTy (hc : CallR X (.type T) r) (hg : Gl X x) (hm : X.mg x = none) (hv : bootBuiltins x = some (.type T)) (ha : PA X (e :: es) t) (hn : x ≠ "__name__" := by decide) (hdb : (x == ("__debug__" : Str)) = false := by decide)
    (he : starEach (e :: es) X.env = (false, eval e X.env) :: starEach es X.env := by rfl) (hpl : (backTo pos (starEach es X.env)).any (·.1) = false := by rfl) : PE X (.Call (.Name x p) (e :: es) [] pos) (tCB r t) := by
  intro pins s σ H Q I h
  refine wpAny_Call_Name_kw (ld_blt I hg hm hv ?_ hn hdb)
  exact PyProof.Rows.callWith_type1 (thn (ha pos pins s σ H _ I h) fun us s1 ⟨vs, H1, I1, r1, q1⟩ => hc pins s1 σ H1 vs us Q I1 r1 q1) he hpl
end
end L2
namespace HT
open PySem PyProof.Rows
section
variable {prog : Program} {w : World} {A : Around} {E : Value → Shared → Prop} {s : Shared}
def sIx (n d : Nat) : Option Int → Nat
  | none => d
  | some v => if v < 0 then (v + (n : Int)).toNat else min v.toNat n
theorem sIx_none (n d : Nat) : sIx n d none = d := rfl
theorem sIx_nat (n d k : Nat) : sIx n d (some (k : Int)) = min k n := by
  show (if (k : Int) < 0 then ((k : Int) + (n : Int)).toNat else min (k : Int).toNat n) = min k n
  rw [if_neg (by omega), Int.toNat_natCast]
end
end HT
namespace L2
open PySem PySem.Spec PyProof.Rows
abbrev TO := St → Hp → (Option Int → Hp → Prop) → Prop
def PO (X : Cx) (e : Option Expr) (t : TO) : Prop :=
  ∀ (pins : List (Addr × Obj)) (s : Shared) (σ : St) (H : Hp) (Q : Option Int → Hp → Prop), Inv X pins σ H s → t σ H Q →
    wpAny (model X.prog X.w) X.A (evalPart e X.env) (fun u s' => ∃ o H', Inv X pins σ H' s' ∧ IsPart u o ∧ Q o H') X.xe s
def tNoPart : TO := fun _ H Q => Q none H
def tPart (t : TE) : TO := fun σ H Q => t σ H fun x H1 => ∃ i, x = .int i ∧ Q (some i) H1
section
variable {X : Cx} {e : Expr} {te : TE} {lo hi : Option Expr} {tl th : TO} {pos p2 : Pos}
theorem po_none : PO X none tNoPart := by
  intro pins s σ H Q I h
  rw [evalPart_none]
  exact wpAny_pure ⟨none, H, I, .none, h⟩
theorem po_some (h : PE X e te) : PO X (some e) (tPart te) := by
  intro pins s σ H Q I hw
  rw [evalPart_some]
  refine thn (h pins s σ H _ I hw) fun u s1 hq_ => ?_
  obtain ⟨x, H1, I1, r1, q1⟩ := hq_
  obtain ⟨i, rfl, q⟩ := q1
  obtain ⟨t, rfl⟩ := r1
  exact ⟨some i, H1, I1, .int i t, q⟩
def SlR (X : Cx) (r : V → Option Int → Option Int → Hp → VK → Prop) : Prop :=
  ∀ (pins : List (Addr × Obj)) (s : Shared) (σ : St) (H : Hp) (x : V) (v vl vu : Value) (lo hi : Option Int) (sl : Addr) (Q : VK), Inv X pins σ H s → RelV x v → s.heap.IsSliceOf sl vl vu .none → IsPart vl lo → IsPart vu hi → r x lo hi H Q →
    ∃ T id, typeLookup (.type T) "__getitem__" = pure (some (.builtin id)) ∧ s.TypeIs v T ∧ wpAny (model X.prog X.w) X.A (getItem v (.ref sl)) (EP X pins σ Q) X.xe s
def tSl (r : V → Option Int → Option Int → Hp → VK → Prop) (te : TE) (tl th : TO) : TE := fun σ H Q => te σ H fun x H1 => tl σ H1 fun l H2 => th σ H2 fun u H3 => r x l u H3 Q
theorem pe_slice {r : V → Option Int → Option Int → Hp → VK → Prop} (hr : SlR X r) (he : PE X e te) (hl : PO X lo tl) (hu : PO X hi th) : PE X (.Subscript e (.Slice lo hi none p2) pos) (tSl r te tl th) := by
  intro pins s σ H Q I h
  refine Subscript_ (thn (he pins s σ H _ I h) fun v s1 hq_ => ?_)
  obtain ⟨x, H1, I1, r1, q1⟩ := hq_
  refine wpAny_Slice (thn (hl pins s1 σ H1 _ I1 q1) fun vl s2 ⟨l, H2, I2, pl, q2⟩ => thn (hu pins s2 σ H2 _ I2 q2) fun vu s3 hq_ => ?_)
  obtain ⟨u, H3, I3, pu, q3⟩ := hq_
  rw [evalPart_none]
  refine wpAny_pure ?_
  have I4 : Inv X pins σ H3 { s3 with heap := s3.heap.push { cls := .type "slice", data := .fields #[vl, vu, .none] } } := I3.kept (t' := s3.toks) fun b ob q => Heap.get?_push_of_some _ q
  obtain ⟨T, id, hT, ht, hg⟩ := hr pins { s3 with heap := s3.heap.push { cls := .type "slice", data := .fields #[vl, vu, .none] } } σ H3 x v vl vu l u s3.heap.objs.size Q I4 r1 (Heap.IsSliceOf.new ..) pl pu q3
  show wpAny (model X.prog X.w) X.A (subscriptTail e (.Slice lo hi none p2) v (.ref s3.heap.objs.size)) (EP X pins σ Q) X.xe { s3 with heap := s3.heap.push { cls := .type "slice", data := .fields #[vl, vu, .none] } }
  exact tail_any (ops := [.ref s3.heap.objs.size, v]) ht hT hg (by with_unfolding_all rfl)
def cutV (xs : List V) (lo hi : Option Int) : List V := (xs.drop (HT.sIx xs.length 0 lo)).take (HT.sIx xs.length xs.length hi - HT.sIx xs.length 0 lo)
theorem cutV_length (xs : List V) (lo hi : Option Int) : (cutV xs lo hi).length ≤ xs.length := by
  unfold cutV
  rw [List.length_take, List.length_drop]
  omega
end
end L2
namespace L2
open PySem PySem.Spec PyProof.Rows
def ixN (n : Nat) (i : Int) : Option Nat := if 0 ≤ i then (if i < n then some i.toNat else none) else if -(n : Int) ≤ i then some (i + n).toNat else none
def atI {α : Type} (xs : List α) (i : Int) : Option α := (ixN xs.length i).bind fun j => xs[j]?
theorem ixN_seq {n : Nat} {i : Int} {j : Nat} (h : ixN n i = some j) : seqIndex? i n = some j ∧ j < n ∧ -(n : Int) ≤ i ∧ i < n := by
  unfold ixN at h
  by_cases h0 : 0 ≤ i
  · rw [if_pos h0] at h
    by_cases h1 : i < n
    · rw [if_pos h1] at h
      have e : i.toNat = j := Option.some.inj h
      exact ⟨by rw [seqIndex_of h0 h1, e], by omega, by omega, h1⟩
    · rw [if_neg h1] at h; cases h
  · rw [if_neg h0] at h
    by_cases h1 : -(n : Int) ≤ i
    · rw [if_pos h1] at h
      have e : (i + n).toNat = j := Option.some.inj h
      exact ⟨by rw [seqIndex_neg (by omega) h1, e], by omega, h1, by omega⟩
    · rw [if_neg h1] at h; cases h
theorem atI_get {α : Type} {xs : List α} {i : Int} {v : α} (h : atI xs i = some v) : ∃ j, seqIndex? i xs.length = some j ∧ xs[j]? = some v ∧ j < xs.length ∧ -(xs.length : Int) ≤ i ∧ i < xs.length := by
  unfold atI at h
  cases e : ixN xs.length i with
  | none => rw [e] at h; cases h
  | some j =>
    rw [e] at h
    obtain ⟨h1, h2, h3, h4⟩ := ixN_seq e
    exact ⟨j, h1, h, h2, h3, h4⟩
def PlainIx (b : Expr) : Prop := ∀ o i, subscripted b false o i = operate [o, i] (getItem o i)
def IxR (X : Cx) (r : R2) : Prop :=
  ∀ (value slice : Expr) (pins : List (Addr × Obj)) (s : Shared) (σ : St) (H : Hp) (x y : V) (v u : Value) (Q : VK), Inv X pins σ H s → RelV x v → RelV y u → r x y H Q →
    subscripted slice false v u = operate [v, u] (getItem v u) → wpAny (model X.prog X.w) X.A (subscriptTail value slice v u) (EP X pins σ Q) X.xe s
def MtR (X : Cx) (id : String) (r : V → List V → Hp → VK → Prop) : Prop :=
  ∀ (pins : List (Addr × Obj)) (s : Shared) (σ : St) (H : Hp) (x : V) (xs : List V) (v : Value) (us : List Value) (Q : VK), Inv X pins σ H s → RelV x v → Vals xs us → r x xs H Q →
    wpAny (model X.prog X.w) X.A (call (.builtin id) (v :: us)) (EP X pins σ Q) X.xe s
section
variable {X : Cx} {a b : Expr} {ta tb : TE} {pos : Pos}
theorem IxR.or {r r' : R2} (h : IxR X r) (h' : IxR X r') : IxR X (fun x y H Q => r x y H Q ∨ r' x y H Q) := by
  intro value slice pins s σ H x y v u Q I rx ry q hs
  rcases q with q | q
  · exact h value slice pins s σ H x y v u Q I rx ry q hs
  · exact h' value slice pins s σ H x y v u Q I rx ry q hs
theorem pe_ix {r : R2} (hr : IxR X r) (ha : PE X a ta) (hb : PE X b tb) (hs : PlainIx b) : PE X (.Subscript a b pos) (tOp r ta tb) := by
  intro pins s σ H Q I h
  exact Subscript_ (binT ha hb I h fun v u s2 x y H2 I2 rx ry q => hr a b pins s2 σ H2 x y v u Q I2 rx ry q (hs _ _))
def rIxL (K : PySem.W.Frag) : R2 := fun x y H Q => ∃ p xs i v, x = .ref p ∧ y = .int i ∧ SqL K H p xs ∧ atI xs i = some v ∧ Q v H
def rIxT (K : PySem.W.Frag) : R2 := fun x y H Q => ∃ p xs i v, x = .ref p ∧ y = .int i ∧ SqT K H p xs ∧ atI xs i = some v ∧ Q v H
def rIxS : R2 := fun x y H Q => ∃ z i c, x = .str z ∧ y = .int i ∧ z.length ≤ sizeLine ∧ atI z.cps.toList i = some c ∧ Q (.str ⟨#[c]⟩) H
theorem ix_list : IxR X (rIxL X.K) := by
  intro value slice pins s σ H x y v u Q I rx ry h hs
  obtain ⟨p, xs, i, z, rfl, rfl, hq, he, q⟩ := h
  cases rx
  obtain ⟨t, rfl⟩ := ry
  obtain ⟨its, r, pl, hz⟩ := I.list hq
  obtain ⟨j, h1, h2, h3, h4, h5⟩ := atI_get he
  obtain ⟨w, ew, rw'⟩ := r.get h2
  have hl := r.length
  have hn := line63
  have fin : EP X pins σ Q w s := ⟨z, H, I, rw', q⟩
  by_cases h0 : 0 ≤ i
  · have hj : i.toNat = j := by
      rw [seqIndex_of h0 h5] at h1
      exact Option.some.inj h1
    exact item_listR pl.isList h0 (by omega) (by rw [hj]; simpa using ew) fin hs
  · have hj : (i + (its.toArray.size : Int)).toNat = j := by
      rw [seqIndex_neg (by omega) h4] at h1
      rw [List.size_toArray, ← hl]
      exact Option.some.inj h1
    exact subscriptTail_builtinR (x := w) pl.isList.typeIs slot_list_getitem.lookup
      (wpAny_getItem_list_neg (Q := fun r s' => r = w ∧ EP X pins σ Q r s') pl.isList (by omega) (by rw [List.size_toArray] <;> omega) (by omega) (by rw [hj]; simpa using ew) ⟨rfl, fin⟩) hs
theorem ix_tup : IxR X (rIxT X.K) := by
  intro value slice pins s σ H x y v u Q I rx ry h hs
  obtain ⟨p, xs, i, z, rfl, rfl, hq, he, q⟩ := h
  cases rx
  obtain ⟨t, rfl⟩ := ry
  obtain ⟨its, r, pl, hz⟩ := I.tuple hq
  obtain ⟨j, h1, h2, h3, h4, h5⟩ := atI_get he
  obtain ⟨w, ew, rw'⟩ := r.get h2
  have hl := r.length
  have hn := line63
  have fin : EP X pins σ Q w s := ⟨z, H, I, rw', q⟩
  exact subscriptTail_builtinR (x := w) pl.typeIs slot_tuple_getitem.lookup
    (getItem_tuple (j := j) (Q := fun r s' => r = w ∧ EP X pins σ Q r s') pl (by omega) (by omega) (by rw [List.size_toArray, ← hl]; exact h1) (by simpa using ew) ⟨rfl, fin⟩) hs
theorem ix_str : IxR X rIxS := by
  intro value slice pins s σ H x y v u Q I rx ry h hs
  obtain ⟨z, i, c, rfl, rfl, hz, he, q⟩ := h
  obtain ⟨t, rfl⟩ := rx
  obtain ⟨t', rfl⟩ := ry
  obtain ⟨j, h1, h2, h3, h4, h5⟩ := atI_get he
  have hl : z.cps.toList.length = z.length := by simp [Str.length]
  rw [hl] at h1 h4 h5
  have hn := line63
  exact tail_any (typeIs_str s z t) slot_str_getitem.lookup (getItem_str (c := c) (by
    have e1 : decide (i < -(2 ^ 63 : Int)) = false := decide_eq_false (by omega)
    have e2 : decide (i ≥ 2 ^ 63) = false := decide_eq_false (by omega)
    rw [e1, e2, Bool.or_false]) (by rw [h1]; simpa using h2) ⟨.str ⟨#[c]⟩, H, I.tok _, ⟨_, rfl⟩, q⟩) hs
def rIx (K : PySem.W.Frag) : R2 := fun x y H Q => rIxL K x y H Q ∨ rIxT K x y H Q ∨ rIxS x y H Q
theorem ix_seq : IxR X (rIx X.K) := ix_list.or (ix_tup.or ix_str)
theorem mapSeq_set (its : List Value) (n j : Nat) (u : Value) : Obj.mapSeq (·.setIfInBounds j u) { cls := .type "list", data := .seq its.toArray n } = { cls := .type "list", data := .seq (its.set j u).toArray n } := by
  simp [Obj.mapSeq]
theorem Inv.lst {pins : List (Addr × Obj)} {σ : St} {H : Hp} {s : Shared} {p : Addr} {xs : List V} (I : Inv X pins σ H s) (h : H p = some (.lst xs)) :
    ∃ (its : List Value) (n : Nat), Vals xs its ∧ s.heap.get? p = some { cls := .type "list", data := .seq its.toArray n } ∧ xs.length ≤ sizeLine := by
  obtain ⟨z, its, n, r, e⟩ := I.hok p _ h
  exact ⟨its, n, r, e, z⟩
theorem Inv.lstUpd {pins : List (Addr × Obj)} {σ : St} {H : Hp} {s : Shared} {p : Addr} {xs ys : List V} {its its' : List Value} {n n' : Nat} {f : Obj → Obj} (I : Inv X pins σ H s) (h : H p = some (.lst xs))
    (ho : s.heap.get? p = some { cls := .type "list", data := .seq its.toArray n }) (hf : f { cls := .type "list", data := .seq its.toArray n } = { cls := .type "list", data := .seq its'.toArray n' }) (r : Vals ys its') (hz : ys.length ≤ sizeLine) (t : Nat) :
    Inv X pins σ (upd H p (.lst ys)) { s with heap := s.heap.update p f, toks := t } := by
  have e : (s.heap.update p f).get? p = some { cls := .type "list", data := .seq its'.toArray n' } := by
    rw [Heap.get?_update_self f ho (by rw [hf] <;> rfl), hf]
  refine I.write (x := p) (e := p) (by rw [h]; trivial) (.inl rfl) (fun b u hb q => (Heap.get?_update_other _ _ (Ne.symm hb)).trans q) ⟨_, e⟩ ?_
  exact ⟨hz, its', n', r, e⟩
def rSetL : V → V → V → Hp → (Hp → Prop) → Prop := fun o i v H Q => ∃ p xs k j, o = .ref p ∧ i = .int k ∧ H p = some (.lst xs) ∧ ixN xs.length k = some j ∧ Q (upd H p (.lst (xs.set j v)))
theorem set_list : PSet X rSetL := by
  intro pins s σ H o i v ov iv u Q I ro ri rv h
  obtain ⟨p, xs, k, j, rfl, rfl, hp, hj, q⟩ := h
  cases ro
  obtain ⟨t, rfl⟩ := ri
  obtain ⟨its, n, r, ho, hz⟩ := I.lst hp
  obtain ⟨h1, h2, h3, h4⟩ := ixN_seq hj
  have hl := r.length
  have hn := line63
  have I' : Inv X pins σ (upd H p (.lst (xs.set j v))) { s with heap := s.heap.update p (Obj.mapSeq (·.setIfInBounds j u)) } :=
    I.lstUpd hp ho (mapSeq_set its n j u) (r.set rv j) (by rw [List.length_set]; exact hz) s.toks
  by_cases h0 : 0 ≤ k
  · have hk : k.toNat = j := by
      rw [seqIndex_of h0 h4] at h1
      exact Option.some.inj h1
    exact PySem.W.ki_setAt ho h0 (by omega) (by rw [List.size_toArray, ← hl]; exact h4) (by rw [hk]; exact ⟨_, I', q⟩)
  · have hk : (k + (its.toArray.size : Int)).toNat = j := by
      rw [seqIndex_neg (by omega) h3] at h1
      rw [List.size_toArray, ← hl]
      exact Option.some.inj h1
    exact PySem.W.ki_setBack ho (by omega) (by rw [List.size_toArray, ← hl]; exact h3) (by omega) (by rw [hk]; exact ⟨_, I', q⟩)
theorem slice_bounds (lo hi : Option Int) (n : Nat) : (sliceBounds lo hi none n).1 = ((HT.sIx n 0 lo : Nat) : Int) ∧ (sliceBounds lo hi none n).2.1 = ((HT.sIx n n hi : Nat) : Int) ∧ (sliceBounds lo hi none n).2.2 = 1 := by
  refine ⟨?_, ?_, rfl⟩
  · cases lo with
    | none => simp [sliceBounds, HT.sIx]
    | some i =>
      simp only [sliceBounds, HT.sIx, Option.getD_none, show (1 : Int) > 0 by decide, if_true]
      by_cases h : i < 0
      · simp only [h, if_true] <;> omega
      · simp only [h, if_false] <;> omega
  · cases hi with
    | none => simp [sliceBounds, HT.sIx]
    | some i =>
      simp only [sliceBounds, HT.sIx, Option.getD_none, show (1 : Int) > 0 by decide, if_true]
      by_cases h : i < 0
      · simp only [h, if_true] <;> omega
      · simp only [h, if_false] <;> omega
theorem slicePick_cut (its : List Value) (lo hi : Option Int) : slicePick its.toArray lo hi none = ((its.drop (HT.sIx its.length 0 lo)).take (HT.sIx its.length its.length hi - HT.sIx its.length 0 lo)).toArray := by
  obtain ⟨h1, h2, h3⟩ := slice_bounds lo hi its.toArray.size
  unfold slicePick
  rw [h1, h2, h3]
  simp only [sliceRange_one, pick_run, List.size_toArray] <;> rfl
def rSlL (K : PySem.W.Frag) : V → Option Int → Option Int → Hp → VK → Prop := fun x lo hi H Q => ∃ a xs, x = .ref a ∧ SqL K H a xs ∧ ∀ p, H p = none → Q (.ref p) (upd H p (.lst (cutV xs lo hi)))
theorem sl_list : SlR X (rSlL X.K) := by
  intro pins s σ H x v vl vu lo hi sl Q I rx hs pl pu h
  obtain ⟨a, xs, rfl, hx, q⟩ := h
  cases rx
  obtain ⟨its, r, ht, hz⟩ := I.list hx
  have hlen := r.length
  refine ⟨"list", _, slot_list_getitem.lookup, ht.isList.typeIs, ?_⟩
  refine wpAny_getItem_list_slice ht.isList hs pl pu .none (by simp) ?_ (by rw [List.size_toArray] <;> omega)
  rw [slicePick_cut, ← hlen]
  refine ⟨.ref s.heap.objs.size, _, I.laid (t' := s.toks) (o := .lst (cutV xs lo hi)) (fun b ob q => Heap.get?_push_of_some _ q) (Nat.le_refl _) ?_, rfl, q _ (I.hok.fresh (Nat.le_refl _))⟩
  exact ⟨Nat.le_trans (cutV_length xs lo hi) hz, _, 0, (r.drop (HT.sIx xs.length 0 lo)).take (HT.sIx xs.length xs.length hi - HT.sIx xs.length 0 lo), Heap.get?_push_size _ rfl⟩
theorem call_len_seq : CallR X (.builtin "len") (fun xs H Q => ∃ p ys, xs = [.ref p] ∧ (SqL X.K H p ys ∨ SqT X.K H p ys) ∧ Q (.int ys.length) H) := by
  intro pins s σ H xs us Q I r h
  obtain ⟨p, ys, rfl, hq, q⟩ := h
  obtain ⟨u, rfl, rx⟩ := vals1 r
  cases rx
  have hn := line63
  rcases hq with hq | hq
  · obtain ⟨its, r', pl, hz⟩ := I.list hq
    have hlen := r'.length
    exact Calls.call_len_list pl.isList (by simp only [List.size_toArray] <;> omega) ⟨.int ys.length, H, I.tok _, ⟨s.toks + 1, by rw [List.size_toArray, hlen]⟩, q⟩
  · obtain ⟨its, r', pl, hz⟩ := I.tuple hq
    have hlen := r'.length
    exact len_tuple pl (by simp only [List.size_toArray] <;> omega) ⟨.int ys.length, H, I.tok _, ⟨s.toks + 1, by rw [List.size_toArray, hlen]⟩, q⟩
theorem call_list_of : CallR X (.type "list") (fun xs H Q => ∃ p ys, xs = [.ref p] ∧ (SqL X.K H p ys ∨ SqT X.K H p ys) ∧ ∀ l, H l = none → Q (.ref l) (upd H l (.lst ys))) := by
  intro pins s σ H xs us Q I r h
  obtain ⟨p, ys, rfl, hq, q⟩ := h
  obtain ⟨u, rfl, rx⟩ := vals1 r
  cases rx
  have fin : ∀ (its : List Value), Vals ys its → ys.length ≤ sizeLine → ∀ (h' : Heap) (c' : Nat), (∀ b o', s.heap.get? b = some o' → h'.get? b = some o') →
      h'.get? s.heap.objs.size = some { cls := .type "list", dict := none, data := .seq its.toArray c', slots := #[] } → EP X pins σ Q (.ref s.heap.objs.size) { s with heap := h' } := fun its r' hz h' c' kp e =>
    ⟨.ref s.heap.objs.size, _, I.laid (t' := s.toks) kp (Nat.le_refl _) (show ObjOk X.prog X.w _ h' _ (.lst ys) from ⟨hz, its, c', r', e⟩), rfl, q _ (I.hok.fresh (Nat.le_refl _))⟩
  rcases hq with hq | hq
  · obtain ⟨its, r', pl, hz⟩ := I.list hq
    have hlen := r'.length
    obtain ⟨o, ho, hc, n, hd⟩ := pl.isList
    exact call_list_seq p (.inl rfl) ho hc hd (fun h' c' kp e => fin its r' hz h' c' kp e) (by simp only [List.size_toArray] <;> omega)
  · obtain ⟨its, r', pl, hz⟩ := I.tuple hq
    have hlen := r'.length
    obtain ⟨o, ho, hc, n, hd⟩ := pl
    exact call_list_seq p (.inr rfl) ho hc hd (fun h' c' kp e => fin its r' hz h' c' kp e) (by simp only [List.size_toArray] <;> omega)
def tyV (K : PySem.W.Frag) (T : String) (x : V) (H : Hp) : Prop := match x with
  | .str _ => T = "str"
  | .int _ => T = "int"
  | .ref p => (T = "list" ∧ ∃ xs, SqL K H p xs) ∨ (T = "tuple" ∧ ∃ xs, SqT K H p xs) ∨
      (T = "dict" ∧ ((∃ kvs, H p = some (.dK kvs)) ∨ ∃ kvs, H p = some (.dT kvs))) ∨ (T = "set" ∧ ∃ S n, H p = some (.set S n)) ∨ (T = "set" ∧ ∃ xs, H p = some (.tst xs))
  | _ => False
theorem tyV_is {pins : List (Addr × Obj)} {σ : St} {H : Hp} {s : Shared} {T : String} {x : V} {v : Value} (I : Inv X pins σ H s) (r : RelV x v) (ty : tyV X.K T x H) :
    s.TypeIs v T ∧ ∀ a, v = .ref a → ∃ ob, s.heap.get? a = some ob ∧ ob.dict = none := by
  cases x with
  | str z =>
    obtain ⟨t, rfl⟩ := r
    cases (show T = "str" from ty)
    exact ⟨typeIs_str s z t, fun _ e => nomatch e⟩
  | int i =>
    obtain ⟨t, rfl⟩ := r
    cases (show T = "int" from ty)
    exact ⟨typeIs_int s i t, fun _ e => nomatch e⟩
  | ref p =>
    cases r
    rcases ty with ⟨rfl, xs, hq⟩ | ⟨rfl, xs, hq⟩ | ⟨rfl, hk⟩ | ⟨rfl, S, n, hk⟩ | ⟨rfl, xs, hk⟩
    · obtain ⟨its, _, pl, _⟩ := I.list hq
      refine ⟨pl.isList.typeIs, fun a e => ?_⟩
      cases e
      obtain ⟨o, n, e, c, hd, _⟩ := pl
      exact ⟨o, e, hd⟩
    · obtain ⟨⟨ob, ho, hc⟩, o2, h2, hd⟩ := I.tupleN hq
      refine ⟨⟨ob, ho, hc⟩, fun a e => ?_⟩
      cases e
      exact ⟨o2, h2, hd⟩
    · have z : ∃ o, s.heap.get? p = some o ∧ o.ExactDict := by
        rcases hk with ⟨kvs, hk⟩ | ⟨kvs, hk⟩
        · obtain ⟨_, _, _, _, o, _, _, e, ex, _⟩ := I.hok p _ hk
          exact ⟨o, e, ex⟩
        · obtain ⟨_, _, _, _, o, _, _, e, ex, _⟩ := I.hok p _ hk
          exact ⟨o, e, ex⟩
      obtain ⟨o, e, ex⟩ := z
      refine ⟨⟨o, e, ex.1⟩, fun a e2 => ?_⟩
      cases e2
      exact ⟨o, e, ex.2.1⟩
    · obtain ⟨o, _, _, _, e, ex, _⟩ := I.hok p _ hk
      refine ⟨⟨o, e, ex.1⟩, fun a e2 => ?_⟩
      cases e2
      exact ⟨o, e, ex.2.1⟩
    · obtain ⟨o, _, _, _, e, ex⟩ := I.hok p _ hk
      refine ⟨⟨o, e, ex.ex.1⟩, fun a e2 => ?_⟩
      cases e2
      exact ⟨o, e, ex.ex.2.1⟩
  | _ => exact False.elim ty
def tBM (K : PySem.W.Frag) (T : String) (r : V → List V → Hp → VK → Prop) (to : TE) (t : TA) : TE := fun σ H Q => to σ H fun x H1 => tyV K T x H1 ∧ t σ H1 fun xs H2 => r x xs H2 Q
variable {o e : Expr} {es : List Expr} {to : TE} {t : TA} {name : Str} {apos cpos : Pos} {T id : String} {r : V → List V → Hp → VK → Prop}
theorem pe_bm (pa : PlainAttrs T) (slot : Slot T name id) (hty : typeOf (.builtin id) = pure (.type "method_descriptor")) (hm : MtR X id r) (ho : PE X o to) (ha : PA X (e :: es) t)
    (hbase : attributeBase o name X.env (eval o X.env) = eval o X.env := by rfl)
    (hfew : ((backTo cpos (starEach (e :: es) X.env)).all (fun x => !x.1) && (backToKw cpos (keywordEach [] X.env)).all (fun x => x.1.isSome)
      && decide ((e :: es).length + ([] : List Keyword).length + (if ([] : List Keyword).isEmpty then 0 else 1) < 30)) = true := by rfl)
    (hline : (apos.endLine == cpos.line) = true := by rfl) (hs : starEach (e :: es) X.env = (false, eval e X.env) :: starEach es X.env := by rfl) (hplain : (backTo cpos (starEach es X.env)).any (·.1) = false := by rfl) :
    PE X (.Call (.Attribute o name apos) (e :: es) [] cpos) (tBM X.K T r to t) := by
  intro pins s σ H Q I h
  refine wpAny_Call_method_late hbase hfew hline rfl (thn (ho pins s σ H _ I h) fun v s1 hq_ => ?_)
  obtain ⟨x, H1, I1, r1, ty, q1⟩ := hq_
  obtain ⟨h1, h2⟩ := tyV_is I1 r1 ty
  refine ⟨T, id, pa, slot, hty, h1, h2, ?_⟩
  have hA := ha cpos pins s1 σ H1 _ I1 q1
  rw [hs] at hA ⊢
  refine Calls.callWith_builtin (by show (false || (backTo cpos (starEach es X.env)).any (·.1)) = false; rw [hplain] <;> rfl) (Calls.evalArgs_plain ?_)
  exact thn hA fun us s2 ⟨vs, H2, I2, r2, q2⟩ => hm pins s2 σ H2 x vs v us Q I2 r1 r2 q2
end
end L2
namespace L2
open PySem PySem.Spec PyProof.Rows
def MtM (X : Cx) (id : String) (r : V → List V → Hp → VK → Prop) : Prop :=
  ∀ (pins : List (Addr × Obj)) (s : Shared) (σ : St) (H : Hp) (x : V) (xs : List V) (v : Value) (us : List Value) (Q : VK), Inv X pins σ H s → RelV x v → Vals xs us → r x xs H Q →
    wpAny (model X.prog X.w) X.A (call (.builtin id) (v :: us)) (EP X pins σ Q) X.xe s
theorem Vals.one : ∀ {x : V} {us : List Value}, Vals [x] us → ∃ u, us = [u] ∧ RelV x u
  | _, _, .cons r .nil => ⟨_, rfl, r⟩
section
variable {X : Cx} {pins : List (Addr × Obj)} {σ : St} {H : Hp} {s : Shared} {l b : Addr} {xs ys zs : List V}
theorem Inv.lset {its its' : List Value} {n : Nat} {f : Array Value → Array Value} {t' : Nat} (I : Inv X pins σ H s) (hH : H l = some (.lst xs))
    (e : s.heap.get? l = some { cls := .type "list", data := .seq its.toArray n }) (hf : f its.toArray = its'.toArray) (hv : Vals ys its') (hz : ys.length ≤ sizeLine) :
    Inv X pins σ (upd H l (.lst ys)) { s with heap := s.heap.update l (Obj.mapSeq f), toks := t' } := by
  have q := PySem.IsL.update e f
  rw [hf] at q
  refine I.write (x := l) (e := l) (by rw [hH]; exact trivial) (.inl rfl) (fun b' u hb hu => (Heap.get?_update_other s.heap (Obj.mapSeq f) (Ne.symm hb)).trans hu) ⟨_, q⟩ ?_
  exact ⟨hz, its', _, hv, q⟩
theorem Inv.lstM (I : Inv X pins σ H s) (hH : H l = some (.lst xs)) : xs.length ≤ sizeLine ∧ ∃ (its : List Value) (n : Nat), Vals xs its ∧ xs.length = its.length ∧ s.heap.get? l = some { cls := .type "list", data := .seq its.toArray n } := by
  obtain ⟨z, its, n, r, e⟩ := I.hok l _ hH
  exact ⟨z, its, n, r, r.length, e⟩
theorem notLongL {n : Nat} (h : n ≤ sizeLine) : Builtin.List.listTooLong n = false := by
  unfold Builtin.List.listTooLong
  exact decide_eq_false (by omega)
end
section
variable {X : Cx}
def rAppend : V → List V → Hp → VK → Prop := fun x vs H Q => ∃ l xs y, x = .ref l ∧ vs = [y] ∧ H l = some (.lst xs) ∧ xs.length < sizeLine ∧ Q .non (upd H l (.lst (xs ++ [y])))
theorem mt_append : MtM X "list.append" rAppend := by
  intro pins s σ H x vs v us Q I rx rv h
  obtain ⟨l, xs, y, rfl, rfl, hH, hz, q⟩ := h
  cases rx
  obtain ⟨u, rfl, ru⟩ := rv.one
  obtain ⟨z, its, n, r, hl, e⟩ := I.lstM hH
  refine call_meets F.slot_list_append ⟨_, e, rfl⟩ F.entry_list_append (F.args_list_append_2 _ _) (PySem.list_append l its.toArray n u (by rw [List.size_toArray]; omega)) ⟨e, ?_⟩
  refine ⟨.non, _, I.lset (its' := its ++ [u]) hH e (by simp) (r.append (.cons ru .nil)) ?_, rfl, q⟩
  rw [List.length_append, List.length_singleton]
  omega
def rExtend : V → List V → Hp → VK → Prop := fun x vs H Q => ∃ l b xs zs, x = .ref l ∧ vs = [.ref b] ∧ H l = some (.lst xs) ∧ H b = some (.lst zs) ∧ xs.length + zs.length ≤ sizeLine ∧ Q .non (upd H l (.lst (xs ++ zs)))
theorem mt_extend : MtM X "list.extend" rExtend := by
  intro pins s σ H x vs v us Q I rx rv h
  obtain ⟨l, b, xs, zs, rfl, rfl, hH, hB, hz, q⟩ := h
  cases rx
  obtain ⟨u, rfl, ru⟩ := rv.one
  cases ru
  obtain ⟨z, its, n, r, hl, e⟩ := I.lstM hH
  obtain ⟨z2, its2, n2, r2, hl2, e2⟩ := I.lstM hB
  have hsz : its.toArray.size + its2.toArray.size ≤ sizeLine := by rw [List.size_toArray, List.size_toArray]; omega
  have hlong : ¬ (!its.toArray.isEmpty && Builtin.List.listTooLong (its.toArray.size + its2.toArray.size)) = true := by
    rw [notLongL hsz, Bool.and_false]
    exact Bool.false_ne_true
  refine call_meets F.slot_list_extend ⟨_, e, rfl⟩ F.entry_list_extend (F.args_list_extend_2 _ _)
    (AutoSeq1.list_extend_list_list_0 l its.toArray n b its2.toArray n2 hlong (by rw [List.size_toArray]; omega) (by omega)) ⟨e, e2, ?_⟩
  refine ⟨.non, _, I.lset (its' := its ++ its2) hH e (by simp) (r.append r2) ?_, rfl, q⟩
  rw [List.length_append]
  omega
end
end L2
namespace Att
open PySem PySem.W PySem.Calls PyProof.Rows
theorem ints_of_wellAll {P : Params} {h : Heap} : ∀ (ns : List Int) (vs : List Value), WellAll P h vs (ns.map WData.int) → IntsAre vs ns := by
  intro ns
  induction ns with
  | nil =>
    intro vs w
    rw [List.map_nil] at w
    cases w
    exact .nil
  | cons n ns ih =>
    intro vs w
    rw [List.map_cons] at w
    cases w with
    | cons a b =>
      cases a
      exact .cons _ _ (ih _ b)
theorem script_of {l : OpenLaw} {n : Nat} (hn : l.most = some n) {P : Params} {h : Heap} {args : List WData} {vals : List Value}
    (hpre : l.row.toRowW.claim.pre args = true) (hwl : WellAll P h vals args) :
    ∃ a vs ns, vals = [Value.ref a] ∧ args = [WData.list (ns.map WData.int)] ∧ h.get? a = some { cls := .type "list", data := .seq vs.toArray } ∧ IntsAre vs ns ∧ ns.length ≤ n := by
  have hsh : WShape.hasAll [] args [.list .int] = true := (pre_splitW hpre).1
  have hc : l.pre.holds [] { args := args } = true := (pre_splitW hpre).2
  obtain ⟨d, r, rfl, h1, h2⟩ := hasAllW_cons hsh
  obtain rfl := hasAllW_nil h2
  obtain ⟨xs, rfl, h3⟩ := hasW_list h1
  obtain ⟨ns, rfl⟩ := items_int h3
  have hlen : ns.length ≤ n := by
    unfold OpenLaw.pre at hc
    have h4 : (WTm.not (.lt (.lit (.int (n : Int))) (.len (.arg 0)))).holds [] { args := [.list (ns.map .int)] } = true := by
      have h4 := (holds_andW hc).1
      rw [hn] at h4
      exact h4
    have h5 := condW_of h4 (w_not (w_lt w_lit (w_len_list (w_arg rfl))))
    rw [List.length_map] at h5
    refine Nat.le_of_not_lt fun q => ?_
    have q' : (n : Int) < ((ns.length : Nat) : Int) := by omega
    first
      | (rw [decide_eq_true q'] at h5; exact absurd h5 (by decide))
      | (simp at h5; omega)
  cases hwl with
  | cons w1 w2 =>
    cases w2
    cases w1 with
    | list ho hall => exact ⟨_, _, ns, rfl, rfl, ho, ints_of_wellAll ns _ hall, hlen⟩
theorem post_true (l : OpenLaw) (args : List WData) : l.row.toRowW.claim.post args (.bool true) args = true :=
  postW_of (r := l.row.toRowW) (X := (true == true))
    (show WShape.has [] (.bool true) .bool = true by first | rfl | decide | simp [WShape.has, WShape.arms, WShape.armsAll])
    (show (WTm.eq .res (.lit (.bool true))).value [] { args := args, res := some (.bool true), after := args } = some (.bool (true == true)) from w_eq_bool (w_res rfl) w_lit) rfl
theorem attach_call {l : OpenLaw} {n : Nat} {q : Program} {loose : List Str} {XP : (Str → Option Value) → Heap → Prop} {YP : World → Heap → Prop} {d : DefRec}
    (hn : l.most = some n) (hdf : d.params.defaults = [])
    (call : ∀ (w : World) (s₀ s₁ : Shared) (mg mb : Str → Option Value) (fa : Addr) (o : Obj) (pm cd doc : Value) (a : Addr) (vs : List Value) (ns : List Int),
      Ground q loose [] XP w s₀ mg mb s₁.heap → YP w s₁.heap →
      s₁.heap.get? fa = some o → o.data = .func (docDef d.name d.params d.body d.scope pm cd doc) → s₁.heap.CodeRec cd d.name → mg d.name = some (.ref fa) →
      s₁.heap.get? a = some { cls := .type "list", data := .seq vs.toArray } → IntsAre vs ns → ns.length ≤ n → s₁.gens = #[] →
      codeAny (model l.prog w) callerA (.call (.ref fa) ⟨[.ref a], []⟩) (fun r s' => r = .ok (.ret (.bool true)) ∧ OldK s₁.heap s'.heap ∧ s'.os = s₁.os ∧ AllBare s'.gens) s₁) :
    WalkO q loose XP YP l.row.toRowW d [] (fun f vs => PySem.call f vs) := by
  intro w s₀ s₁ mg mb G Y fa o pm cd doc dV kV ho hd hcd hD hmg hg args vals as hpre hlay hrd hwl hlo
  obtain rfl : dV = .none := Dflts.none hD hdf
  obtain rfl : kV = .none := Dflts.noKw hD
  obtain ⟨a, vs, ns, rfl, rfl, hobj, hints, hlen⟩ := script_of hn hpre hwl
  refine enter_call (codeAny_mono (call w s₀ s₁ mg mb fa o pm cd doc a vs ns G Y ho (fd_plain hd) hcd hmg hobj hints hlen hg) fun r s' hq => ?_)
  obtain ⟨rfl, h2, h3, h4⟩ := hq
  exact ⟨.inl ⟨.bool true, .bool true, [], rfl, fun _ => rfl, .bool true, post_true l _, fun _ => ⟨List.Pairwise.nil, fun _ hm => (nomatch hm)⟩⟩, h2, h3, h4⟩
end Att
namespace L2
open PySem PySem.Spec PyProof.Rows
theorem vals_ints : ∀ {vs : List Value} {ns : List Int}, IntsAre vs ns → Vals (ns.map V.int) vs
  | _, _, .nil => .nil
  | _, _, .cons n t h => .cons ⟨t, rfl⟩ (vals_ints h)
def Only (H : Hp) : Prop := ∀ b, H b = none ∨ ∃ o xs, H b = some (.frz o (.lst xs))
theorem law_call {P : Program} {w : World} {K : PySem.W.Frag} {mg mb : Str → Option Value} {CX : CXT} {k : Nat} {fa a : Addr} {fd : FuncData} {x : Str} {sp : Sp} {s₁ : Shared} {vs : List Value} {ns : List Int}
    (KX : K.In s₁.heap) (hns : s₁.heap.Ns mainGlobals mg) (hb : s₁.heap.Ns builtinsNs mb) (hbb : ∀ x : Str, x ≠ "__name__" → mb x = bootBuiltins x) (hlim : s₁.heap.NoLimit) (hg : s₁.gens = #[])
    (ha : s₁.heap.get? a = some { cls := .type "list", data := .seq vs.toArray }) (hi : IntsAre vs ns) (hl : ns.length ≤ sizeLine) (hr : Room k callerA)
    (F : ∀ base : Heap, K.In base → base.Ns mainGlobals mg → FnOk P w K mg base CX k fa fd [x] sp) (hbind : ∀ (s : Shared) (u : Value), BindsTo s fd ⟨[u], []⟩ [(x, u)])
    (hsp : ∀ H : Hp, Only H → SqL K H a (ns.map V.int) → sp [.ref a] H (fun v _ => v = .bl true) fun _ _ _ => False)
    (hCX : ∀ H e s', CX [] H s₁ (fun _ _ _ => False) e s' → False) :
    codeAny (model P w) callerA (.call (.ref fa) ⟨[.ref a], []⟩) (fun r s' => r = .ok (.ret (.bool true)) ∧ OldK s₁.heap s'.heap ∧ s'.os = s₁.os ∧ AllBare s'.gens) s₁ := by
  have rv := vals_ints hi
  have lenV := hi.length
  have core : ∀ H : Hp, Only H → SqL K H a (ns.map V.int) → HOk P w H s₁.heap → (∀ b, H b ≠ none → b = a) → (H a ≠ none → K.lookup a = none) →
      codeAny (model P w) callerA (.call (.ref fa) ⟨[.ref a], []⟩) (fun r s' => r = .ok (.ret (.bool true)) ∧ OldK s₁.heap s'.heap ∧ s'.os = s₁.os ∧ AllBare s'.gens) s₁ := by
    intro H hO hS hok hA hK
    have base_of : ∀ {b : Addr} {o : Obj}, s₁.heap.get? b = some o → H b = none → (hidT s₁.heap H).get? b = some o := fun e n => hidT_get e n
    have noA : ∀ {b : Addr} {o : Obj} {es : Array DictEntry} {ep : Nat}, s₁.heap.get? b = some o → o.data = .dict es ep → H b = none := fun {b o es ep} e d => by
      cases q : H b with
      | none => rfl
      | some u =>
        have e' : b = a := hA b (by rw [q]; simp)
        subst e'
        rw [ha] at e; cases e
        have d' : Data.seq vs.toArray _ = Data.dict es ep := d
        cases d'
    have nsK : ∀ {b : Addr} {m : Str → Option Value}, s₁.heap.Ns b m → (hidT s₁.heap H).Ns b m := fun {b m} ⟨o, es, ep, e, d, r⟩ => ⟨o, es, ep, base_of e (noA e d), d, r⟩
    have hKb : K.In (hidT s₁.heap H) := fun b o e => base_of (KX b o e) (by
      cases q : H b with
      | none => rfl
      | some u =>
        have e' : b = a := hA b (by rw [q]; simp)
        subst e'
        rw [hK (by rw [q]; simp)] at e; cases e)
    have hM : Mod K mg (hidT s₁.heap H) := ⟨hKb, nsK hns, ⟨mb, nsK hb, hbb⟩, let ⟨mc, h1, h2⟩ := hlim; ⟨mc, nsK h1, h2⟩⟩
    have e0 : Env0 P w K mg (hidT s₁.heap H) callerA [] s₁ H := ⟨rfl, hM, fun b o e => of_hidT e, Nat.le_of_eq (hidT_size _ _), trivial, fun b hb => absurd (show b ∈ ([] : List Addr) from hb) (by simp), hok, .of_eq hg⟩
    refine codeAny_mono ((F _ hKb (nsK hns)).run callerA [] s₁ H ⟨[.ref a], []⟩ [.ref a] [.ref a] _ _ hr e0 (hbind s₁ (.ref a)) (.cons rfl .nil) (hsp H hO hS)) fun r s' h => ?_
    cases r with
    | error e => exact (hCX H e s' h).elim
    | ok fl =>
      cases fl with
      | next => exact False.elim h
      | brk => exact False.elim h
      | cont => exact False.elim h
      | ret u =>
        obtain ⟨v, H', os, bare, un, hok', r', q⟩ := h
        have q' : v = .bl true := q
        subst q'
        obtain rfl : u = Value.bool true := r'
        refine ⟨rfl, OldK.of_keep fun b o e => ?_, os, bare⟩
        cases q : H b with
        | none => exact un.keep b o e q (by intro z; exact absurd (show b ∈ ([] : List Addr) from z) (by simp)) (by simp)
        | some u =>
          rcases hO b with z | ⟨ob, xs, z⟩
          · rw [q] at z; cases z
          · have z2 := un.frzs b ob _ z
            obtain ⟨e1, _⟩ := hok b _ z
            obtain ⟨e2, _⟩ := hok' b _ z2
            rw [e] at e1; cases e1
            exact e2
  cases hk : K.lookup a with
  | some o =>
    have e := KX a o hk
    rw [ha] at e
    cases e
    refine core (fun _ => none) (fun _ => .inl rfl) (.inr ⟨_, vs.toArray, _, hk, rfl, rfl, rfl, by rw [List.size_toArray, lenV]; exact hl, by simpa using rv⟩) (fun b u z => by have z' : (none : Option HO) = some u := z; cases z') (fun b z => absurd rfl z) fun z => absurd rfl z
  | none =>
    refine core (fun b => if b = a then some (.frz { cls := .type "list", data := .seq vs.toArray } (.lst (ns.map V.int))) else none) (fun b => ?_) (.inl (.inr ⟨{ cls := .type "list", data := .seq vs.toArray }, if_pos rfl⟩)) (fun b u z => ?_) (fun b z => ?_) fun _ => hk
    · by_cases hb : b = a
      · exact .inr ⟨_, _, if_pos hb⟩
      · exact .inl (if_neg hb)
    · by_cases hb : b = a
      · have z' := (if_pos hb).symm.trans z
        cases z'
        subst hb
        exact ⟨ha, by rw [List.length_map]; exact hl, vs, _, rv, ha⟩
      · have z' := (if_neg hb).symm.trans z
        cases z'
    · by_cases hb : b = a
      · exact hb
      · exact absurd (if_neg hb) z
end L2
namespace L2
open PySem PySem.Spec PyProof.Rows
theorem walk_of {l : PySem.W.OpenLaw} {n k : Nat} {q : Program} {loose : List Str} {XP : (Str → Option Value) → Heap → Prop} {YP : World → Heap → Prop} {d : DefRec} {K : Params → PySem.W.Frag} {CX : World → CXT} {sp : World → Sp} {x : Str}
    (hn : l.most = some n) (hn2 : n ≤ sizeLine) (hdf : d.params.defaults = []) (hr : Room k callerA)
    (hY : ∀ (w : World) (h : Heap), YP w h → (K w.params).In h)
    (F : ∀ (w : World) (mg : Str → Option Value) (fa : Addr) (h : Heap), (K w.params).In h → h.Ns mainGlobals mg → mg d.name = some (.ref fa) →
      ∃ fd : FuncData, (∀ (s : Shared) (u : Value), BindsTo s fd ⟨[u], []⟩ [(x, u)]) ∧
        ∀ base : Heap, (K w.params).In base → base.Ns mainGlobals mg → FnOk l.prog w (K w.params) mg base (CX w) k fa fd [x] (sp w))
    (hsp : ∀ (w : World) (H : Hp) (a : Addr) (ns : List Int), ns.length ≤ n → Only H → SqL (K w.params) H a (ns.map V.int) → sp w [.ref a] H (fun v _ => v = .bl true) fun _ _ _ => False)
    (hCX : ∀ (w : World) (H : Hp) (s : Shared) (e : Value) (s' : Shared), CX w [] H s (fun _ _ _ => False) e s' → False) :
    PySem.W.WalkO q loose XP YP l.row.toRowW d [] (fun f vs => PySem.call f vs) := by
  refine Att.attach_call hn hdf fun w s₀ s₁ mg mb fa o pm cd doc a vs ns G Y ho hd hcd hmg hobj hints hlen hg => ?_
  have KX := hY w _ Y
  obtain ⟨fd, hb, hF⟩ := F w mg fa _ KX G.T.g hmg
  exact law_call KX G.T.g G.T.b G.T.builtins G.T.nolimit hg hobj hints (Nat.le_trans hlen hn2) hr hF hb (fun H hO hS => hsp w H a ns hlen hO hS) fun H e s' => hCX w H s₁ e s'
end L2
namespace L2
open PySem PySem.Spec PyProof.Rows
def defArgs (s : Stmt) : Arguments := match s with
  | .FunctionDef _ a _ _ _ _ _ _ _ _ => a
  | _ => { posonlyargs := [], args := [], vararg := none, kwonlyargs := [], kw_defaults := [], kwarg := none, defaults := [] }
def defBody (s : Stmt) : List Stmt := match s with
  | .FunctionDef _ _ b _ _ _ _ _ _ _ => b
  | _ => []
def defScope (s : Stmt) : Scope := match s with
  | .FunctionDef _ _ _ _ _ _ sc _ _ _ => sc
  | _ => { kind := .function, names := [], isGenerator := false, isCoroutine := false }
abbrev CX0 : CXT := fun _ _ _ _ _ _ => False
abbrev E0 : XK := fun _ _ _ => False
theorem pass0 {X : Cx} : Passes CX0 X E0 := fun _ _ _ _ _ _ _ h => h.elim
structure Fun (K : PySem.W.Frag) (x qual : Str) (st : Stmt) (f : Addr) (fd : FuncData) : Prop where
  ex : ∃ (oc : Value) (od : Option Addr) (kV doc pm : Value) (an : Option Addr) (cdv ct : Value) (osl : Array (Option Value)),
    fd = PySem.W.fnOf x qual (defArgs st) (defBody st) (defScope st) .none kV doc pm an cdv ct ∧ K.lookup f = some ⟨oc, od, .func fd, osl⟩ ∧ PySem.W.codeIn K cdv qual = true
  kp : PySem.W.keepIn K (.ref f) = true
section
variable {P : Program} {w : World} {K : PySem.W.Frag} {mg : Str → Option Value} {base : Heap}
theorem Fun.ok {x qual : Str} {st : Stmt} {f : Addr} {fd : FuncData} {N ps : List Str} {k : Nat} {sp : Sp} (F : Fun K x qual st f fd) (S : FnScope N ps (defScope st)) (len : ∀ vs H Q E, sp vs H Q E → vs.length = ps.length)
    (hbody : ∀ (cdv : Value) (A : Around) (outer : List Env) (s : Shared) (H : Hp) (vs : List V) (Q : VK) (E : XK), Room k (A.deeper (envOfC qual (defScope st) s.heap.objs.size f cdv)) → sp vs H Q E →
      ∃ t, PSs (cxOf CX0 P w K mg base N qual (defScope st) f cdv A outer s H E).nox (defBody st) t ∧ t { nx := fun _ H' => Q .non H', rt := Q } (start N vs) H) : FnOk P w K mg base CX0 (k + 1) f fd ps sp := by
  obtain ⟨oc, od, kV, doc, pm, an, cdv, ct, osl, rfl, lk, hcd⟩ := F.ex
  refine fn_of lk hcd S len fun A outer s H vs Q E hr hsp => ?_
  obtain ⟨t, h, q⟩ := hbody cdv A outer s H vs Q E hr hsp
  exact ⟨t, h.nox, q⟩
theorem Fun.binds {x qual : Str} {st : Stmt} {f : Addr} {fd : FuncData} {ps : List Str} (F : Fun K x qual st f fd)
    (h : ∀ (kV doc pm : Value) (an : Option Addr) (cdv ct : Value) (us : List Value), us.length = ps.length → bindArgs (PySem.W.fnOf x qual (defArgs st) (defBody st) (defScope st) .none kV doc pm an cdv ct) ⟨us, []⟩ = pure (ps.zip us)) : Binds K fd ps [] := by
  obtain ⟨oc, od, kV, doc, pm, an, cdv, ct, osl, rfl, lk, hcd⟩ := F.ex
  exact .all (h kV doc pm an cdv ct)
theorem fun_mk {x qual : Str} {st : Stmt} {f : Addr} {oc : Value} {od an : Option Addr} {osl : Array (Option Value)} {kV doc pm cdv ct : Value} (l : K.lookup f = some ⟨oc, od, .func (PySem.W.fnOf x qual (defArgs st) (defBody st) (defScope st) .none kV doc pm an cdv ct), osl⟩)
    (c : PySem.W.codeIn K cdv qual = true) (k : PySem.W.keepIn K (.ref f) = true) : Fun K x qual st f (PySem.W.fnOf x qual (defArgs st) (defBody st) (defScope st) .none kV doc pm an cdv ct) := ⟨⟨oc, od, kV, doc, pm, an, cdv, ct, osl, rfl, l, c⟩, k⟩
end
theorem hu_of {A : Around} {k : Nat} (hr : Room k A) : A.units + 1 < cLine := Nat.lt_of_le_of_lt (Nat.add_le_add_left (by decide : 1 ≤ 64) _) hr.units
theorem small1000 {n : Nat} (h : n ≤ 1000) : n < sizeLine := Nat.lt_of_le_of_lt h (by decide)
section
variable {X : Cx}
theorem pv (i : Nat) {x : Str} {pos : Pos} (hN : X.N[i]? = some x := by rfl) (hv : Vis X.env.scope x := by first | exact Or.inl rfl | exact Or.inr (Or.inl rfl) | exact Or.inr (Or.inr rfl)) (hd : (x == ("__debug__" : Str)) = false := by decide)
    (hcd : (x == ("__classdict__" : Str)) = false := by decide) : PE X (.Name x pos) (tVar i) := pe_var hN hv hd hcd
end
theorem iteF {A B : Prop} (h : B) : if false = true then A else B := by
  rw [if_neg Bool.false_ne_true]
  exact h
theorem iteT {A B : Prop} (h : A) : if true = true then A else B := by
  rw [if_pos rfl]
  exact h
def Same (H H' : Hp) : Prop := ∀ b o, H b = some o → H' b = some o
theorem Same.refl (H : Hp) : Same H H := fun _ _ h => h
theorem Same.trans {H H1 H2 : Hp} (a : Same H H1) (b : Same H1 H2) : Same H H2 := fun c o h => b c o (a c o h)
theorem Same.free {H H' : Hp} (e : Same H H') {l : Addr} (h : H' l = Option.none) : H l = Option.none := by
  cases q : H l with
  | none => rfl
  | some o =>
    rw [e l o q] at h
    cases h
theorem Same.seq {K : PySem.W.Frag} {H H' : Hp} {a : Addr} {xs : List V} (e : Same H H') (h : SqL K H a xs) : SqL K H' a xs := by
  rcases h with (h | ⟨o, h⟩) | h
  · exact .inl (.inl (e _ _ h))
  · exact .inl (.inr ⟨o, e _ _ h⟩)
  · exact .inr h
end L2
set_option Elab.async false
set_option linter.all false
set_option maxRecDepth 100000
namespace L2
open PySem PySem.Spec PyProof.Rows
inductive D where
  | non | bl (b : Bool) | int (i : Int) | str (x : Str) | tup (ds : List D) | lst (ds : List D)
  | scr (ds : List D)
def SqR (K : PySem.W.Frag) (H : Hp) (a : Addr) (xs : List V) : Prop :=
  (∃ o, H a = some (.frz o (.lst xs))) ∨
    ∃ (o : Obj) (its : Array Value) (n : Nat), K.lookup a = some o ∧ o.cls = .type "list" ∧ o.dict = none ∧ o.data = .seq its n ∧ its.size ≤ sizeLine ∧ Vals xs its.toList
theorem SqR.seq {K : PySem.W.Frag} {H : Hp} {a : Addr} {xs : List V} (h : SqR K H a xs) : SqL K H a xs := h.elim (fun h => .inl (.inr h)) .inr
theorem Same.seqR {K : PySem.W.Frag} {H H' : Hp} {a : Addr} {xs : List V} (e : Same H H') (h : SqR K H a xs) : SqR K H' a xs := h.elim (fun ⟨o, h⟩ => .inl ⟨o, e _ _ h⟩) .inr
mutual
inductive Rep (K : PySem.W.Frag) (F : Hp) : V → D → Prop
  | non : Rep K F .non .non
  | bl {b : Bool} : Rep K F (.bl b) (.bl b)
  | int {i : Int} : Rep K F (.int i) (.int i)
  | str {x : Str} : Rep K F (.str x) (.str x)
  | tup {a : Addr} {xs : List V} {ds : List D} : SqT K F a xs → Reps K F xs ds → Rep K F (.ref a) (.tup ds)
  | lst {a : Addr} {xs : List V} {ds : List D} : F a = some (.lst xs) → Reps K F xs ds → Rep K F (.ref a) (.lst ds)
  | scr {a : Addr} {xs : List V} {ds : List D} : SqR K F a xs → Reps K F xs ds → Rep K F (.ref a) (.scr ds)
inductive Reps (K : PySem.W.Frag) (F : Hp) : List V → List D → Prop
  | nil : Reps K F [] []
  | cons {x : V} {d : D} {xs : List V} {ds : List D} : Rep K F x d → Reps K F xs ds → Reps K F (x :: xs) (d :: ds)
end
theorem Same.seqT {K : PySem.W.Frag} {H H' : Hp} {a : Addr} {xs : List V} (e : Same H H') (h : SqT K H a xs) : SqT K H' a xs := by
  rcases h with (h | ⟨o, h⟩) | h
  · exact .inl (.inl (e _ _ h))
  · exact .inl (.inr ⟨o, e _ _ h⟩)
  · exact .inr h
mutual
theorem Rep.mono {K : PySem.W.Frag} {F G : Hp} (s : Same F G) : ∀ {v : V} {d : D}, Rep K F v d → Rep K G v d
  | _, _, .non => .non
  | _, _, .bl => .bl
  | _, _, .int => .int
  | _, _, .str => .str
  | _, _, .tup h r => .tup (Same.seqT s h) (Reps.mono s r)
  | _, _, .lst h r => .lst (s _ _ h) (Reps.mono s r)
  | _, _, .scr h r => .scr (Same.seqR s h) (Reps.mono s r)
theorem Reps.mono {K : PySem.W.Frag} {F G : Hp} (s : Same F G) : ∀ {v : List V} {d : List D}, Reps K F v d → Reps K G v d
  | _, _, .nil => .nil
  | _, _, .cons r t => .cons (Rep.mono s r) (Reps.mono s t)
end
section
variable {K : PySem.W.Frag} {F G H : Hp}
theorem Reps.length : ∀ {xs : List V} {ds : List D}, Reps K F xs ds → xs.length = ds.length
  | _, _, .nil => rfl
  | _, _, .cons _ t => by simp [t.length]
theorem Reps.get : ∀ {xs : List V} {ds : List D} {i : Nat} {d : D}, Reps K F xs ds → ds[i]? = some d → ∃ x, xs[i]? = some x ∧ Rep K F x d
  | _, _, _, _, .nil, e => by simp at e
  | _, _, 0, _, .cons r _, e => by simp at e; subst e; exact ⟨_, rfl, r⟩
  | _, _, i + 1, d, .cons _ t, e => by
    obtain ⟨u, h1, h2⟩ := Reps.get (i := i) (d := d) t (by simpa using e)
    exact ⟨u, by simpa using h1, h2⟩
theorem Reps.get' {xs : List V} {ds : List D} {i : Nat} {x : V} (r : Reps K F xs ds) (e : xs[i]? = some x) : ∃ d, ds[i]? = some d ∧ Rep K F x d := by
  have hl := r.length
  have hi := (List.getElem?_eq_some_iff.mp e).1
  have e2 : ds[i]? = some ds[i] := List.getElem?_eq_getElem (by omega)
  obtain ⟨y, h1, h2⟩ := r.get e2
  rw [e] at h1; cases h1
  exact ⟨_, e2, h2⟩
theorem Reps.append : ∀ {xs ys : List V} {us ws : List D}, Reps K F xs us → Reps K F ys ws → Reps K F (xs ++ ys) (us ++ ws)
  | _, _, _, _, .nil, s => s
  | _, _, _, _, .cons r t, s => .cons r (Reps.append t s)
theorem Reps.set {x : V} {u : D} (r : Rep K F x u) : ∀ {xs : List V} {us : List D} (i : Nat), Reps K F xs us → Reps K F (xs.set i x) (us.set i u)
  | _, _, _, .nil => .nil
  | _, _, 0, .cons _ t => .cons r t
  | _, _, i + 1, .cons q t => .cons q (Reps.set r i t)
theorem Reps.take : ∀ {xs : List V} {us : List D} (n : Nat), Reps K F xs us → Reps K F (xs.take n) (us.take n)
  | _, _, 0, _ => .nil
  | _, _, _ + 1, .nil => .nil
  | _, _, n + 1, .cons r t => .cons r (Reps.take n t)
theorem Reps.drop : ∀ {xs : List V} {us : List D} (n : Nat), Reps K F xs us → Reps K F (xs.drop n) (us.drop n)
  | _, _, 0, r => r
  | _, _, _ + 1, .nil => .nil
  | _, _, n + 1, .cons _ t => Reps.drop n t
end
abbrev Hid := Addr → Bool
def vw (H : Hp) (hid : Hid) : Hp := fun b => if hid b = true then none else H b
def hadd (hid : Hid) (a : Addr) : Hid := fun b => hid b || decide (b = a)
def hdel (hid : Hid) (a : Addr) : Hid := fun b => hid b && !decide (b = a)
theorem vw_some {H : Hp} {hid : Hid} {b : Addr} {o : HO} : vw H hid b = some o ↔ hid b = false ∧ H b = some o := by
  unfold vw
  cases hb : hid b <;> simp
theorem vw_le (H : Hp) (hid : Hid) : Same (vw H hid) H := fun b o h => (vw_some.mp h).2
theorem vw_same {H H' : Hp} {hid : Hid} (s : Same H H') : Same (vw H hid) (vw H' hid) := fun b o h => vw_some.mpr ⟨(vw_some.mp h).1, s _ _ (vw_some.mp h).2⟩
theorem vw_keep {H H' : Hp} {hid : Hid} (s : ∀ b o, H b = some o → hid b = false → H' b = some o) : Same (vw H hid) (vw H' hid) := fun b o h => vw_some.mpr ⟨(vw_some.mp h).1, s _ _ (vw_some.mp h).2 (vw_some.mp h).1⟩
theorem vw_upd {H : Hp} {hid : Hid} {a : Addr} {o : HO} (h : hid a = true) : vw (upd H a o) hid = vw H hid := by
  funext b
  unfold vw upd
  by_cases e : b = a
  · subst e; simp [h]
  · simp [e]
theorem vw_less {H : Hp} {hid hid' : Hid} (h : ∀ b, hid' b = true → hid b = true) : Same (vw H hid) (vw H hid') := fun b o q => by
  obtain ⟨q1, q2⟩ := vw_some.mp q
  refine vw_some.mpr ⟨?_, q2⟩
  cases e : hid' b with
  | false => rfl
  | true => rw [h b e] at q1; cases q1
theorem vw_new {H : Hp} {hid : Hid} {a : Addr} {o : HO} (h : H a = none) : vw (upd H a o) (hadd hid a) = vw H hid := by
  funext b
  unfold vw upd hadd
  by_cases e : b = a
  · subst e
    cases hb : hid b <;> simp [h]
  · simp [e]
inductive Ob where
  | exc (x : Str) (n : Int)
  | dK (kvs : List (Key × D))
  | dT (kvs : List (List Key × D))
  | set (ds : List D)
  | old (d : D)
  | jnk
  | tset (ks : List (List Int))
  | dF (kvs : List (List Key × D))
inductive Sl where
  | no
  | v (d : D)
  | own (ds : List D)
  | arg (ds : List D)
  | ob (b : Ob)
abbrev Rho := List Sl
structure Ct where
  H₀ : Hp
  hid₀ : Hid
  mu : Addr → Bool
def ExcAt (K : PySem.W.Frag) (x : Str) (n : Int) (a : Addr) (h : Heap) : Prop := ∃ C o, PySem.W.nsIn K mainGlobals x = some (some (.ref C)) ∧ h.get? a = some o ∧ o.cls = .ref C ∧ o.dict = none ∧ PySem.W.notCls o = true
def isLO : Option HO → Bool
  | some (.lst _) => true
  | _ => false
def fv (c : Ct) (F : Hp) : Hp := fun b => if (c.H₀ b).isSome = true ∧ isLO (F b) = true then none else F b
def ov (c : Ct) (F : Hp) : Hp := fun b => if (c.H₀ b).isSome = true then F b else none
theorem fv_some {c : Ct} {F : Hp} {b : Addr} {o : HO} : fv c F b = some o ↔ (isLO (some o) = true → c.H₀ b = none) ∧ F b = some o := by
  unfold fv
  constructor
  · intro h
    split at h
    · cases h
    · rename_i hn
      refine ⟨fun q => ?_, h⟩
      rw [h] at hn
      cases hb : c.H₀ b with
      | none => rfl
      | some u => exact absurd ⟨by rw [hb]; rfl, q⟩ hn
  · rintro ⟨h1, h2⟩
    rw [if_neg, h2]
    rintro ⟨q1, q2⟩
    rw [h2] at q2
    rw [h1 q2] at q1; cases q1
theorem ov_some {c : Ct} {F : Hp} {b : Addr} {o : HO} : ov c F b = some o ↔ (∃ u, c.H₀ b = some u) ∧ F b = some o := by
  unfold ov
  cases hb : c.H₀ b <;> simp
theorem fv_same {c : Ct} {F G : Hp} (s : Same F G) : Same (fv c F) (fv c G) := fun b o h => fv_some.mpr ⟨(fv_some.mp h).1, s _ _ (fv_some.mp h).2⟩
theorem ov_same {c : Ct} {F G : Hp} (s : Same F G) : Same (ov c F) (ov c G) := fun b o h => ov_some.mpr ⟨(ov_some.mp h).1, s _ _ (ov_some.mp h).2⟩
def ObOk (K : PySem.W.Frag) (c : Ct) (hid : Hid) (H : Hp) (a : Addr) : Ob → Prop
  | .exc x n => ∃ φ, vw H hid a = some (.ext φ) ∧ ∀ h, φ h → ExcAt K x n a h
  | .dK kvs => (hid a = true ∧ c.H₀ a = none) ∧ ∃ us : List (Key × V), H a = some (.dK us) ∧ us.map (·.1) = kvs.map (·.1) ∧ Reps K (vw H hid) (us.map (·.2)) (kvs.map (·.2))
  | .dT kvs => (hid a = true ∧ c.H₀ a = none) ∧ ∃ us : List (List Key × V), H a = some (.dT us) ∧ us.map (·.1) = kvs.map (·.1) ∧ Reps K (vw H hid) (us.map (·.2)) (kvs.map (·.2))
  | .set ds => (hid a = true ∧ c.H₀ a = none) ∧ ∃ xs : List V, H a = some (.lst xs) ∧ Reps K (fv c (vw H hid)) xs ds
  | .old d => Rep K (ov c (vw H hid)) (.ref a) d
  | .jnk => (hid a = true ∧ c.H₀ a = none) ∧ ∃ xs : List V, H a = some (.lst xs)
  | .tset ks => (hid a = true ∧ c.H₀ a = none) ∧ ∃ xs : List (List Int × Addr), H a = some (.tst xs) ∧ (xs.map (·.1)).Perm ks ∧ Reps K (vw H hid) (xs.map fun x => V.ref x.2) (xs.map fun x => D.tup (x.1.map D.int))
  | .dF kvs => (hid a = true ∧ c.H₀ a = none) ∧ ∃ (o : Obj) (us : List (List Key × V)), H a = some (.frz o (.dT us)) ∧ us.map (·.1) = kvs.map (·.1) ∧ Reps K (vw H hid) (us.map (·.2)) (kvs.map (·.2))
def ObOw : Ob → Prop
  | .exc _ _ => False
  | .old _ => False
  | _ => True
theorem ObOk.mono {K : PySem.W.Frag} {c : Ct} {hid hid' : Hid} {H H' : Hp} {a : Addr} {b : Ob} (h : ObOk K c hid H a b) (k : ObOw b → ∀ o, H a = some o → H' a = some o) (s : Same (vw H hid) (vw H' hid')) (w : ObOw b → hid a = true → hid' a = true) : ObOk K c hid' H' a b := by
  cases b with
  | exc x n => obtain ⟨φ, h1, h2⟩ := h; exact ⟨φ, s _ _ h1, h2⟩
  | dK kvs => obtain ⟨h1, us, h2, h3, h4⟩ := h; exact ⟨⟨w trivial h1.1, h1.2⟩, us, k trivial _ h2, h3, h4.mono s⟩
  | dT kvs => obtain ⟨h1, us, h2, h3, h4⟩ := h; exact ⟨⟨w trivial h1.1, h1.2⟩, us, k trivial _ h2, h3, h4.mono s⟩
  | set ds => obtain ⟨h1, us, h2, h3⟩ := h; exact ⟨⟨w trivial h1.1, h1.2⟩, us, k trivial _ h2, h3.mono (fv_same s)⟩
  | old d => exact Rep.mono (ov_same s) h
  | jnk => obtain ⟨h1, us, h2⟩ := h; exact ⟨⟨w trivial h1.1, h1.2⟩, us, k trivial _ h2⟩
  | tset ks => obtain ⟨h1, us, h2, h3, h4⟩ := h; exact ⟨⟨w trivial h1.1, h1.2⟩, us, k trivial _ h2, h3, h4.mono s⟩
  | dF kvs => obtain ⟨h1, o, us, h2, h3, h4⟩ := h; exact ⟨⟨w trivial h1.1, h1.2⟩, o, us, k trivial _ h2, h3, h4.mono s⟩
theorem ObOk.hid {K : PySem.W.Frag} {c : Ct} {hid : Hid} {H : Hp} {a : Addr} {b : Ob} (h : ObOk K c hid H a b) (o : ObOw b) : hid a = true := by
  cases b with
  | exc x n => exact o.elim
  | dK kvs => exact h.1.1
  | dT kvs => exact h.1.1
  | set ds => exact h.1.1
  | old d => exact o.elim
  | jnk => exact h.1.1
  | tset ks => exact h.1.1
  | dF kvs => exact h.1.1
def SlOk (K : PySem.W.Frag) (c : Ct) (hid : Hid) (σ : St) (H : Hp) (i : Nat) : Sl → Prop
  | .no => True
  | .v d => ∃ x, σ[i]? = some (some x) ∧ Rep K (vw H hid) x d
  | .own ds => ∃ a xs, σ[i]? = some (some (.ref a)) ∧ H a = some (.lst xs) ∧ hid a = true ∧ c.H₀ a = none ∧ Reps K (vw H hid) xs ds
  | .arg ds => ∃ a xs, σ[i]? = some (some (.ref a)) ∧ H a = some (.lst xs) ∧ hid a = true ∧ c.mu a = true ∧ Reps K (vw H hid) xs ds
  | .ob b => ∃ a, σ[i]? = some (some (.ref a)) ∧ ObOk K c hid H a b
def Ow : Option Sl → Prop
  | some (.own _) => True
  | some (.arg _) => True
  | some (.ob b) => ObOw b
  | _ => False
structure SR (K : PySem.W.Frag) (c : Ct) (hid : Hid) (ρ : Rho) (σ : St) (H : Hp) : Prop where
  tr : ∀ b, hid b = true → ∃ o, H b = some o
  ht : ∀ b xs, hid b = true → H b ≠ some (.tup xs)
  h0 : ∀ b, c.hid₀ b = true → hid b = true
  kp : ∀ b o, c.H₀ b = some o → c.mu b = false → H b = some o
  t0 : ∀ b o, c.H₀ b = some o → ∃ o', H b = some o'
  c0 : ∀ b, c.hid₀ b = true → ∃ o, c.H₀ b = some o
  m0 : ∀ b, c.mu b = true → c.hid₀ b = true
  len : σ.length = ρ.length
  sl : ∀ (i : Nat) (s : Sl), ρ[i]? = some s → SlOk K c hid σ H i s
  ap : ∀ (i j : Nat) (a : Addr), i ≠ j → Ow ρ[i]? → Ow ρ[j]? → σ[i]? = some (some (.ref a)) → σ[j]? = some (some (.ref a)) → False
section
variable {K : PySem.W.Frag} {c : Ct} {hid : Hid} {ρ : Rho} {σ : St} {H H' : Hp} {i : Nat}
theorem SlOk.ext {s : Sl} (h : SlOk K c hid σ H i s) (e : Same H H') : SlOk K c hid σ H' i s := by
  cases s with
  | no => trivial
  | v d => obtain ⟨x, h1, h2⟩ := h; exact ⟨x, h1, h2.mono (vw_same e)⟩
  | own ds => obtain ⟨a, xs, h1, h2, h3, h4, h5⟩ := h; exact ⟨a, xs, h1, e _ _ h2, h3, h4, h5.mono (vw_same e)⟩
  | arg ds => obtain ⟨a, xs, h1, h2, h3, h4, h5⟩ := h; exact ⟨a, xs, h1, e _ _ h2, h3, h4, h5.mono (vw_same e)⟩
  | ob b => obtain ⟨a, h1, h2⟩ := h; exact ⟨a, h1, h2.mono (fun _ => e a) (vw_same e) fun _ q => q⟩
theorem SR.ext (h : SR K c hid ρ σ H) (e : Same H H') : SR K c hid ρ σ H' where
  tr := fun b hb => let ⟨o, q⟩ := h.tr b hb; ⟨o, e _ _ q⟩
  ht := fun b xs hb q => let ⟨o, w⟩ := h.tr b hb; by have z := e _ _ w; rw [q] at z; cases z; exact h.ht b xs hb w
  h0 := h.h0
  kp := fun b o q m => e _ _ (h.kp b o q m)
  t0 := fun b o q => let ⟨o', q'⟩ := h.t0 b o q; ⟨o', e _ _ q'⟩
  c0 := h.c0
  m0 := h.m0
  len := h.len
  sl := fun i s q => (h.sl i s q).ext e
  ap := h.ap
def Trk (hid : Hid) (H : Hp) : Prop := (∀ b, hid b = true → ∃ o, H b = some o) ∧ ∀ b xs, hid b = true → H b ≠ some (.tup xs)
theorem SR.trk (h : SR K c hid ρ σ H) : Trk hid H := ⟨h.tr, h.ht⟩
theorem SR.fresh (h : SR K c hid ρ σ H) {a : Addr} (n : H a = none) : hid a = false := by
  cases e : hid a with
  | false => rfl
  | true => obtain ⟨o, q⟩ := h.tr a e; rw [n] at q; cases q
theorem SR.fresh0 (h : SR K c hid ρ σ H) {a : Addr} (n : H a = none) : c.H₀ a = none := by
  cases e : c.H₀ a with
  | none => rfl
  | some o => obtain ⟨o', q⟩ := h.t0 a o e; rw [n] at q; cases q
end
inductive Kd where
  | b | s | n
  deriving DecidableEq
def Rep1 (K : PySem.W.Frag) (H W : Hp) (v : V) (d : D) : Prop := Rep K W v d ∨ ∃ a xs ds, v = .ref a ∧ d = .lst ds ∧ H a = some (.lst xs) ∧ Reps K W xs ds
def RN (K : PySem.W.Frag) (H H' : Hp) (hid : Hid) (v : V) (d : D) : Prop := ∃ a xs ds, d = .lst ds ∧ v = .ref a ∧ H a = none ∧ H' a = some (.lst xs) ∧ Reps K (vw H' (hadd hid a)) xs ds
def RK (K : PySem.W.Frag) (k : Kd) (H H' : Hp) (hid : Hid) (v : V) (d : D) : Prop := match k with
  | .b => Rep1 K H' (vw H' hid) v d
  | .s => Rep K (vw H' hid) v d
  | .n => RN K H H' hid v d
section
variable {K : PySem.W.Frag} {c : Ct} {hid : Hid} {ρ : Rho} {σ : St} {H H' H'' : Hp} {i : Nat} {v : V} {d : D}
theorem RN.rep (h : RN K H H' hid v d) (hf : ∀ a, H a = none → hid a = false) : Rep K (vw H' hid) v d := by
  obtain ⟨a, xs, ds, rfl, rfl, h1, h2, h3⟩ := h
  refine .lst (vw_some.mpr ⟨hf a h1, h2⟩) (h3.mono (vw_less fun b q => ?_))
  unfold hadd; rw [q]; rfl
theorem RK.b (k : Kd) (h : RK K k H H' hid v d) (hf : ∀ a, H a = none → hid a = false) : Rep1 K H' (vw H' hid) v d := by
  cases k with
  | b => exact h
  | s => exact .inl h
  | n => exact .inl (RN.rep h hf)
theorem Rep1.ext {hid : Hid} (h : Rep1 K H (vw H hid) v d) (e : Same H H') : Rep1 K H' (vw H' hid) v d := by
  rcases h with h | ⟨a, xs, ds, h1, h2, h3, h4⟩
  · exact .inl (h.mono (vw_same e))
  · exact .inr ⟨a, xs, ds, h1, h2, e _ _ h3, h4.mono (vw_same e)⟩
theorem Rep1.int {i : Int} (h : Rep1 K H (vw H hid) v (.int i)) : v = .int i := by
  rcases h with h | ⟨a, xs, ds, h1, h2, _⟩
  · cases h; rfl
  · cases h2
theorem Rep1.bl {i : Bool} (h : Rep1 K H (vw H hid) v (.bl i)) : v = .bl i := by
  rcases h with h | ⟨a, xs, ds, h1, h2, _⟩
  · cases h; rfl
  · cases h2
theorem Rep1.str {i : Str} (h : Rep1 K H (vw H hid) v (.str i)) : v = .str i := by
  rcases h with h | ⟨a, xs, ds, h1, h2, _⟩
  · cases h; rfl
  · cases h2
theorem Rep1.non (h : Rep1 K H (vw H hid) v .non) : v = .non := by
  rcases h with h | ⟨a, xs, ds, h1, h2, _⟩
  · cases h; rfl
  · cases h2
theorem Rep1.tup {ds : List D} (h : Rep1 K H (vw H hid) v (.tup ds)) : ∃ a xs, v = .ref a ∧ SqT K (vw H hid) a xs ∧ SqT K H a xs ∧ Reps K (vw H hid) xs ds := by
  rcases h with h | ⟨a, xs, ds, h1, h2, _⟩
  · cases h with
    | tup q r => exact ⟨_, _, rfl, q, Same.seqT (vw_le _ _) q, r⟩
  · cases h2
theorem Rep1.lst {ds : List D} (h : Rep1 K H (vw H hid) v (.lst ds)) : ∃ a xs, v = .ref a ∧ SqL K H a xs ∧ Reps K (vw H hid) xs ds := by
  rcases h with h | ⟨a, xs, ds, h1, h2, h3, h4⟩
  · cases h with
    | lst q r => exact ⟨_, _, rfl, SqL.of (vw_le _ _ _ _ q), r⟩
  · cases h2
    exact ⟨a, xs, h1, SqL.of h3, h4⟩
theorem Rep1.scr {ds : List D} (h : Rep1 K H (vw H hid) v (.scr ds)) : ∃ a xs, v = .ref a ∧ SqL K H a xs ∧ Reps K (vw H hid) xs ds := by
  rcases h with h | ⟨a, xs, ds, h1, h2, h3, h4⟩
  · cases h with
    | scr q r => exact ⟨_, _, rfl, (vw_le _ _).seq q.seq, r⟩
  · cases h2
end
theorem PE.imp {X : Cx} {e : Expr} {t t' : TE} (h : PE X e t) (i : ∀ σ H Q, t' σ H Q → t σ H Q) : PE X e t' := fun pins s σ H Q I q => h pins s σ H Q I (i σ H Q q)
theorem PT.imp {X : Cx} {e : Expr} {t t' : TT} (h : PT X e t) (i : ∀ σ H Q, t' σ H Q → t σ H Q) : PT X e t' := fun pins s σ H Q I q => h pins s σ H Q I (i σ H Q q)
theorem PW.imp {X : Cx} {e : Expr} {t t' : TT} (h : PW X e t) (i : ∀ σ H Q, t' σ H Q → t σ H Q) : PW X e t' := fun wh pins s σ H Q I q => h wh pins s σ H Q I (i σ H Q q)
theorem PA.imp {X : Cx} {e : List Expr} {t t' : TA} (h : PA X e t) (i : ∀ σ H Q, t' σ H Q → t σ H Q) : PA X e t' := fun p pins s σ H Q I q => h p pins s σ H Q I (i σ H Q q)
theorem PS.imp {X : Cx} {e : Stmt} {t t' : TS} (h : PS X e t) (i : ∀ D σ H, t' D σ H → t D σ H) : PS X e t' := fun pins s σ H D I q => h pins s σ H D I (i D σ H q)
theorem PSs.imp {X : Cx} {e : List Stmt} {t t' : TS} (h : PSs X e t) (i : ∀ D σ H, t' D σ H → t D σ H) : PSs X e t' := fun pins s σ H D I q => h pins s σ H D I (i D σ H q)
abbrev FE := Rho → Option D
abbrev FT := Rho → Option Bool
abbrev FA := Rho → Option (List D)
def rdP (K : PySem.W.Frag) (c : Ct) (hid : Hid) (k : Kd) (f : FE) (ρ : Rho) : TE := fun σ H Q => SR K c hid ρ σ H ∧ ∃ d, f ρ = some d ∧ ∀ v H', Same H H' → RK K k H H' hid v d → Q v H'
def rdT (K : PySem.W.Frag) (c : Ct) (hid : Hid) (f : FT) (ρ : Rho) : TT := fun σ H Q => SR K c hid ρ σ H ∧ ∃ d, f ρ = some d ∧ ∀ H', Same H H' → Q d H'
def rdA (K : PySem.W.Frag) (c : Ct) (hid : Hid) (f : FA) (ρ : Rho) : TA := fun σ H Q => SR K c hid ρ σ H ∧ ∃ d, f ρ = some d ∧ ∀ vs H', Same H H' → Reps K (vw H' hid) vs d → Q vs H'
def DP (X : Cx) (c : Ct) (k : Kd) (e : Expr) (f : FE) : Prop := ∀ hid ρ, PE X e (rdP X.K c hid k f ρ)
def DT (X : Cx) (c : Ct) (e : Expr) (f : FT) : Prop := ∀ hid ρ, PT X e (rdT X.K c hid f ρ)
def DW (X : Cx) (c : Ct) (e : Expr) (f : FT) : Prop := ∀ hid ρ, PW X e (rdT X.K c hid f ρ)
def DA (X : Cx) (c : Ct) (es : List Expr) (f : FA) : Prop := ∀ hid ρ, PA X es (rdA X.K c hid f ρ)
section
variable {X : Cx} {c : Ct} {e a b : Expr} {es : List Expr} {f g : FE} {k : Kd} {pos : Pos}
theorem DP.toS (h : DP X c .n e f) : DP X c .s e f := fun hid ρ => PE.imp (h hid ρ) fun σ H Q ⟨sr, d, hd, q⟩ => ⟨sr, d, hd, fun v H' s r => q v H' s (RN.rep r fun a n => sr.fresh n)⟩
def nmF (i : Nat) : FE := fun ρ => match ρ[i]? with
  | some (.v d) => some d
  | _ => none
def nbF (i : Nat) : FE := fun ρ => match ρ[i]? with
  | some (.v d) => some d
  | some (.own ds) => some (.lst ds)
  | some (.arg ds) => some (.lst ds)
  | _ => none
theorem dp_nm (i : Nat) {x : Str} (hN : X.N[i]? = some x := by rfl) (hv : Vis X.env.scope x := by first | exact Or.inl rfl | exact Or.inr (Or.inl rfl) | exact Or.inr (Or.inr rfl)) (hd : (x == ("__debug__" : Str)) = false := by decide)
    (hcd : (x == ("__classdict__" : Str)) = false := by decide) : DP X c .s (.Name x pos) (nmF i) := fun hid ρ => PE.imp (pv i hN hv hd hcd) fun σ H Q hq_ => by
  obtain ⟨sr, d, hd, q⟩ := hq_
  unfold nmF at hd
  split at hd
  · rename_i d' e'
    cases hd
    obtain ⟨x, h1, h2⟩ := sr.sl i _ e'
    exact ⟨x, h1, q x H (Same.refl _) h2⟩
  · cases hd
theorem dp_nb (i : Nat) {x : Str} (hN : X.N[i]? = some x := by rfl) (hv : Vis X.env.scope x := by first | exact Or.inl rfl | exact Or.inr (Or.inl rfl) | exact Or.inr (Or.inr rfl)) (hd : (x == ("__debug__" : Str)) = false := by decide)
    (hcd : (x == ("__classdict__" : Str)) = false := by decide) : DP X c .b (.Name x pos) (nbF i) := fun hid ρ => PE.imp (pv i hN hv hd hcd) fun σ H Q hq_ => by
  obtain ⟨sr, d, hd, q⟩ := hq_
  unfold nbF at hd
  split at hd
  · rename_i d' e'
    cases hd
    obtain ⟨x, h1, h2⟩ := sr.sl i _ e'
    exact ⟨x, h1, q x H (Same.refl _) (.inl h2)⟩
  · rename_i d' e'
    cases hd
    obtain ⟨a, xs, h1, h2, h3, h4, h5⟩ := sr.sl i _ e'
    exact ⟨_, h1, q _ H (Same.refl _) (.inr ⟨a, xs, _, rfl, rfl, h2, h5⟩)⟩
  · rename_i d' e'
    cases hd
    obtain ⟨a, xs, h1, h2, h3, h4, h5⟩ := sr.sl i _ e'
    exact ⟨_, h1, q _ H (Same.refl _) (.inr ⟨a, xs, _, rfl, rfl, h2, h5⟩)⟩
  · cases hd
def cst (d : D) : FE := fun _ => some d
theorem dp_int {i : Int} {j pos} : DP X c .s (.Constant (.int i) j pos) (cst (.int i)) := fun hid ρ => PE.imp pe_int fun σ H Q hq_ => by
  obtain ⟨sr, d, hd, q⟩ := hq_
  cases hd; exact q _ H (Same.refl _) .int
theorem dp_bl {i : Bool} {j pos} : DP X c .s (.Constant (.bool i) j pos) (cst (.bl i)) := fun hid ρ => PE.imp pe_bl fun σ H Q hq_ => by
  obtain ⟨sr, d, hd, q⟩ := hq_
  cases hd; exact q _ H (Same.refl _) .bl
def op2 (F : D → D → Option D) (f g : FE) : FE := fun ρ => (f ρ).bind fun x => (g ρ).bind fun y => F x y
theorem op2_some {F : D → D → Option D} {ρ : Rho} {d : D} (h : op2 F f g ρ = some d) : ∃ x y, f ρ = some x ∧ g ρ = some y ∧ F x y = some d := by
  unfold op2 at h
  cases e1 : f ρ with
  | none => rw [e1] at h; cases h
  | some x =>
    cases e2 : g ρ with
    | none => rw [e1, e2] at h; cases h
    | some y => rw [e1, e2] at h; exact ⟨x, y, rfl, rfl, h⟩
def OpD (K : PySem.W.Frag) (k : Kd) (r : R2) (F : D → D → Option D) : Prop := ∀ (H : Hp) (hid : Hid) (v u : V) (x y d : D) (Q : VK), (∀ a, H a = none → hid a = false) → F x y = some d → Rep1 K H (vw H hid) v x → Rep1 K H (vw H hid) u y →
  (∀ w H', Same H H' → RK K k H H' hid w d → Q w H') → r v u H Q
theorem RK.left {K : PySem.W.Frag} {H H1 H' : Hp} {hid : Hid} {v : V} {d : D} (s : Same H H1) (h : RK K k H1 H' hid v d) : RK K k H H' hid v d := by
  cases k with
  | b => exact h
  | s => exact h
  | n =>
    obtain ⟨a, xs, ds, h1, h2, h3, h4⟩ := h
    exact ⟨a, xs, ds, h1, h2, s.free h3, h4⟩
theorem rd2 {r : R2} {F : D → D → Option D} {k1 k2 : Kd} {hid : Hid} {ρ : Rho} (hF : OpD X.K k r F) {σ : St} {H : Hp} {Q : VK} (h : rdP X.K c hid k (op2 F f g) ρ σ H Q) : tOp r (rdP X.K c hid k1 f ρ) (rdP X.K c hid k2 g ρ) σ H Q := by
  obtain ⟨sr, d, hd, q⟩ := h
  obtain ⟨x, y, e1, e2, e3⟩ := op2_some hd
  refine ⟨sr, x, e1, fun v H1 s1 r1 => ⟨sr.ext s1, y, e2, fun u H2 s2 r2 => ?_⟩⟩
  have b1 := (RK.b k1 r1 fun a n => sr.fresh n).ext s2
  have b2 := RK.b k2 r2 fun a n => (sr.ext s1).fresh n
  exact hF H2 hid v u x y d Q (fun a n => ((sr.ext s1).ext s2).fresh n) e3 b1 b2 fun w H' s3 r3 => q w H' ((s1.trans s2).trans s3) (RK.left (s1.trans s2) r3)
theorem dp_op {op : Operator} {r : R2} {F : D → D → Option D} {k1 k2 : Kd} (ho : OpR X (binaryOp op) r) (hF : OpD X.K k r F) (ha : DP X c k1 a f) (hb : DP X c k2 b g) : DP X c k (.BinOp a op b pos) (op2 F f g) := fun hid ρ =>
  PE.imp (pe_op ho (ha hid ρ) (hb hid ρ)) fun σ H Q h => rd2 hF h
theorem dp_cmp {op : CmpOp} {r : R2} {F : D → D → Option D} {k1 k2 : Kd} (ho : OpR X (compareOp op) r) (hF : OpD X.K .s r F) (ha : DP X c k1 a f) (hb : DP X c k2 b g) (hm : behindInMarks op b = false) : DP X c .s (.Compare a [op] [b] pos) (op2 F f g) := fun hid ρ =>
  PE.imp (pe_cmpR ho (ha hid ρ) (hb hid ρ) hm) fun σ H Q h => rd2 hF h
def asB : Option D → Option Bool
  | some (.bl b) => some b
  | _ => none
theorem dt_cmp {op : CmpOp} {r : R2} {F : D → D → Option D} {k1 k2 : Kd} (ho : OpR X (compareOp op) r) (hF : OpD X.K .s r F) (ha : DP X c k1 a f) (hb : DP X c k2 b g) (hm : behindInMarks op b = false) : DT X c (.Compare a [op] [b] pos) (fun ρ => asB (op2 F f g ρ)) := fun hid ρ =>
  PT.imp (pt_cmpR ho (ha hid ρ) (hb hid ρ) hm) fun σ H Q hq_ => by
    obtain ⟨sr, d, hd, q⟩ := hq_
    refine rd2 (X := X) (k := .s) (F := F) hF ?_
    dsimp only at hd
    cases e : op2 F f g ρ with
    | none => rw [e] at hd; cases hd
    | some x =>
      rw [e] at hd
      cases x with
      | bl z =>
        cases hd
        refine ⟨sr, _, e, fun v H' s r => ⟨d, ?_, q H' s⟩⟩
        cases r; rfl
      | _ => cases hd
theorem dp_ix {r : R2} {F : D → D → Option D} {k1 k2 : Kd} (hr : IxR X r) (hF : OpD X.K k r F) (ha : DP X c k1 a f) (hb : DP X c k2 b g) (hs : PlainIx b) : DP X c k (.Subscript a b pos) (op2 F f g) := fun hid ρ =>
  PE.imp (pe_ix hr (ha hid ρ) (hb hid ρ) hs) fun σ H Q h => rd2 hF h
end
def i2 (C : Int → Int → Bool) (G : Int → Int → D) : D → D → Option D
  | .int i, .int j => if C i j = true then some (G i j) else none
  | _, _ => none
section
variable {K : PySem.W.Frag}
theorem i2_some {C : Int → Int → Bool} {G : Int → Int → D} {x y d : D} (h : i2 C G x y = some d) : ∃ i j, x = .int i ∧ y = .int j ∧ C i j = true ∧ d = G i j := by
  unfold i2 at h
  split at h
  · split at h
    · cases h; exact ⟨_, _, rfl, rfl, ‹_›, rfl⟩
    · cases h
  · cases h
theorem od_I {C : Int → Int → Prop} {B : Int → Int → Bool} {g : Int → Int → Int} (hC : ∀ i j, B i j = true → C i j) : OpD K .s (rI C fun i j => .int (g i j)) (i2 B fun i j => .int (g i j)) := by
  intro H hid v u x y d Q hf h r1 r2 q
  obtain ⟨i, j, rfl, rfl, hc, rfl⟩ := i2_some h
  cases r1.int; cases r2.int
  exact ⟨i, j, rfl, rfl, hC i j hc, q _ H (Same.refl _) .int⟩
theorem od_I0 {g : Int → Int → Int} : OpD K .s (rI0 fun i j => .int (g i j)) (i2 (fun _ _ => true) fun i j => .int (g i j)) := by
  intro H hid v u x y d Q hf h r1 r2 q
  obtain ⟨i, j, rfl, rfl, hc, rfl⟩ := i2_some h
  cases r1.int; cases r2.int
  exact ⟨i, j, rfl, rfl, q _ H (Same.refl _) .int⟩
theorem od_B0 {g : Int → Int → Bool} : OpD K .s (rI0 fun i j => .bl (g i j)) (i2 (fun _ _ => true) fun i j => .bl (g i j)) := by
  intro H hid v u x y d Q hf h r1 r2 q
  obtain ⟨i, j, rfl, rfl, hc, rfl⟩ := i2_some h
  cases r1.int; cases r2.int
  exact ⟨i, j, rfl, rfl, q _ H (Same.refl _) .bl⟩
end
end L2
set_option Elab.async false
set_option linter.all false
set_option maxRecDepth 100000
namespace L2
open PySem PySem.Spec PyProof.Rows
section
variable {X : Cx} {c : Ct} {e a b : Expr} {es rest : List Expr} {f g : FE} {p q : FT} {k : Kd} {pos : Pos}
def truD : D → Option Bool
  | .non => some false
  | .bl b => some b
  | .int i => some (i != 0)
  | .str y => if y.length ≤ sizeLine then some ((y.length : Int) != 0) else none
  | .lst ds => some (!ds.isEmpty)
  | .tup ds => some (!ds.isEmpty)
  | .scr ds => some (!ds.isEmpty)
theorem Reps.isEmpty {K : PySem.W.Frag} {F : Hp} {xs : List V} {ds : List D} (r : Reps K F xs ds) : xs.isEmpty = ds.isEmpty := by cases r <;> rfl
theorem tru_of {K : PySem.W.Frag} {H : Hp} {hid : Hid} {v : V} {d : D} {b : Bool} (h : truD d = some b) (r : Rep1 K H (vw H hid) v d) : TruV K v H b := by
  cases d with
  | non => cases r.non; cases h; rfl
  | bl x => cases r.bl; cases h; rfl
  | int i => cases r.int; cases h; rfl
  | str y =>
    cases r.str
    have h' : (if y.length ≤ sizeLine then some ((y.length : Int) != 0) else none) = some b := h
    split at h'
    · cases h'; exact ⟨‹_›, rfl⟩
    · cases h'
  | lst ds =>
    obtain ⟨a, xs, rfl, h1, h2⟩ := r.lst
    cases h
    exact .inl ⟨xs, h1, by rw [h2.isEmpty]⟩
  | tup ds =>
    obtain ⟨a, xs, rfl, _, h1, h2⟩ := r.tup
    cases h
    exact .inr (.inl ⟨xs, h1, by rw [h2.isEmpty]⟩)
  | scr ds =>
    obtain ⟨a, xs, rfl, h1, h2⟩ := r.scr
    cases h
    exact .inl ⟨xs, h1, by rw [h2.isEmpty]⟩
def tru1 (f : FE) : FT := fun ρ => (f ρ).bind truD
theorem dt_val (ha : DP X c k a f) (he : ∀ whole, isTrue a X.env whole = (do let v ← whole; standAt a.pos; holding [v] (truthy v)) := by intro _; rfl) : DT X c a (tru1 f) := fun hid ρ =>
  PT.imp (pt_truth (ha hid ρ) he) fun σ H Q hq_ => by
    obtain ⟨sr, d, hd, q⟩ := hq_
    unfold tru1 at hd
    cases e : f ρ with
    | none => rw [e] at hd; cases hd
    | some x =>
      rw [e] at hd
      exact ⟨sr, x, e, fun v H' s r => ⟨d, tru_of hd (RK.b k r fun a n => sr.fresh n), q H' s⟩⟩
def and2 (p q : FT) : FT := fun ρ => (p ρ).bind fun b => if b = true then q ρ else some false
def or2 (p q : FT) : FT := fun ρ => (p ρ).bind fun b => if b = true then some true else q ρ
def not1 (p : FT) : FT := fun ρ => (p ρ).map (!·)
theorem dw_or1 (ha : DT X c a p) : DW X c (.BoolOp .Or [a] pos) p := fun hid ρ => pw_or1 (ha hid ρ)
theorem dw_or (ha : DT X c a p) (hb : DW X c (.BoolOp .Or (b :: rest) pos) q) : DW X c (.BoolOp .Or (a :: b :: rest) pos) (or2 p q) := fun hid ρ =>
  PW.imp (pw_or (ha hid ρ) (hb hid ρ)) fun σ H Q hq_ => by
    obtain ⟨sr, d, hd, hq⟩ := hq_
    unfold or2 at hd
    cases e : p ρ with
    | none => rw [e] at hd; cases hd
    | some x =>
      rw [e] at hd
      refine ⟨sr, x, e, fun H1 s1 => ?_⟩
      cases x with
      | false => exact iteF ⟨sr.ext s1, d, hd, fun H2 s2 => hq H2 (s1.trans s2)⟩
      | true => cases hd; exact iteT (hq H1 s1)
theorem DW.dt (h : DW X c e p) : DT X c e p := fun hid ρ => (h hid ρ).pt
theorem dt_not (ha : DT X c a p) : DT X c (.UnaryOp .Not a pos) (not1 p) := fun hid ρ =>
  PT.imp (pt_not (ha hid ρ)) fun σ H Q hq_ => by
    obtain ⟨sr, d, hd, hq⟩ := hq_
    unfold not1 at hd
    cases e : p ρ with
    | none => rw [e] at hd; cases hd
    | some x => rw [e] at hd; cases hd; exact ⟨sr, x, e, fun H1 s1 => hq H1 s1⟩
def asD (p : FT) : FE := fun ρ => (p ρ).map D.bl
def toB (f : FE) : FT := fun ρ => asB (f ρ)
theorem toB_some {ρ : Rho} {b : Bool} (h : toB f ρ = some b) : f ρ = some (.bl b) := by
  unfold toB asB at h
  split at h
  · cases h; assumption
  · cases h
theorem dp_and (ha : DP X c .s a f) (hb : DP X c .s (.BoolOp .And (b :: rest) pos) g) : DP X c .s (.BoolOp .And (a :: b :: rest) pos) (asD (and2 (toB f) (toB g))) := fun hid ρ =>
  PE.imp (pe_and (ha hid ρ) (hb hid ρ)) fun σ H Q hq_ => by
    obtain ⟨sr, d, hd, hq⟩ := hq_
    unfold asD and2 at hd
    cases e : toB f ρ with
    | none => rw [e] at hd; cases hd
    | some x =>
      rw [e] at hd
      refine ⟨sr, _, toB_some e, fun v H1 s1 r => ?_⟩
      cases r
      refine ⟨x, rfl, ?_⟩
      cases x with
      | true =>
        refine iteT ?_
        cases e2 : toB g ρ with
        | none => rw [show (some true : Option Bool).bind (fun b => if b = true then toB g ρ else some false) = toB g ρ from rfl, e2] at hd; cases hd
        | some y =>
          rw [show (some true : Option Bool).bind (fun b => if b = true then toB g ρ else some false) = toB g ρ from rfl, e2] at hd; cases hd
          exact ⟨sr.ext s1, _, toB_some e2, fun v2 H2 s2 r2 => hq v2 H2 (s1.trans s2) r2⟩
      | false => cases hd; exact iteF (hq _ H1 s1 .bl)
theorem dp_one {op} (h : DP X c k a f) : DP X c k (.BoolOp op [a] pos) f := fun hid ρ => pe_one (h hid ρ)
theorem dp_not (ha : DP X c .s a f) : DP X c .s (.UnaryOp .Not a pos) (asD (not1 (toB f))) := fun hid ρ =>
  PE.imp (pe_not (ha hid ρ)) fun σ H Q hq_ => by
    obtain ⟨sr, d, hd, hq⟩ := hq_
    unfold asD not1 at hd
    cases e : toB f ρ with
    | none => rw [e] at hd; cases hd
    | some x =>
      rw [e] at hd; cases hd
      refine ⟨sr, _, toB_some e, fun v H1 s1 r => ?_⟩
      cases r
      exact ⟨x, rfl, hq _ H1 s1 .bl⟩
variable {r r' : R2} {h : FE} {e3 : Expr}
end
section
variable {X : Cx} {c : Ct} {e a b : Expr} {es rest : List Expr} {f g : FE} {fs : FA} {k : Kd} {pos : Pos}
def nilA : FA := fun _ => some []
def consA (f : FE) (fs : FA) : FA := fun ρ => (f ρ).bind fun d => (fs ρ).map fun r => d :: r
theorem consA_some {ρ : Rho} {ds : List D} (h : consA f fs ρ = some ds) : ∃ d r, f ρ = some d ∧ fs ρ = some r ∧ ds = d :: r := by
  unfold consA at h
  cases e1 : f ρ with
  | none => rw [e1] at h; cases h
  | some d =>
    cases e2 : fs ρ with
    | none => rw [e1, e2] at h; cases h
    | some r => rw [e1, e2] at h; cases h; exact ⟨d, r, rfl, rfl, rfl⟩
theorem da_nil : DA X c [] nilA := fun hid ρ => PA.imp pa_nil fun σ H Q ⟨sr, d, hd, q⟩ => by cases hd; exact q [] H (Same.refl _) .nil
theorem da_cons (ha : DP X c .s e f) (hr : DA X c es fs) (hs : starEach (e :: es) X.env = (false, eval e X.env) :: starEach es X.env := by rfl) : DA X c (e :: es) (consA f fs) := fun hid ρ =>
  PA.imp (pa_cons (ha hid ρ) (hr hid ρ) hs) fun σ H Q hq_ => by
    obtain ⟨sr, d, hd, q⟩ := hq_
    obtain ⟨d1, r, e1, e2, rfl⟩ := consA_some hd
    exact ⟨sr, d1, e1, fun v H1 s1 r1 => ⟨sr.ext s1, r, e2, fun vs H2 s2 r2 => q _ H2 (s1.trans s2) (.cons (Rep.mono (vw_same s2) r1) r2)⟩⟩
def tupF (fs : FA) : FE := fun ρ => (fs ρ).bind fun ds => if ds.length ≤ sizeLine then some (.tup ds) else none
def lstF (fs : FA) : FE := fun ρ => (fs ρ).bind fun ds => if ds.length ≤ sizeLine then some (.lst ds) else none
theorem tupF_some {ρ : Rho} {d : D} (h : tupF fs ρ = some d) : ∃ ds, fs ρ = some ds ∧ ds.length ≤ sizeLine ∧ d = .tup ds := by
  unfold tupF at h
  cases e1 : fs ρ with
  | none => rw [e1] at h; cases h
  | some ds =>
    rw [e1] at h
    have h' : (if ds.length ≤ sizeLine then some (D.tup ds) else none) = some d := h
    split at h'
    · cases h'; exact ⟨ds, rfl, ‹_›, rfl⟩
    · cases h'
theorem lstF_some {ρ : Rho} {d : D} (h : lstF fs ρ = some d) : ∃ ds, fs ρ = some ds ∧ ds.length ≤ sizeLine ∧ d = .lst ds := by
  unfold lstF at h
  cases e1 : fs ρ with
  | none => rw [e1] at h; cases h
  | some ds =>
    rw [e1] at h
    have h' : (if ds.length ≤ sizeLine then some (D.lst ds) else none) = some d := h
    split at h'
    · cases h'; exact ⟨ds, rfl, ‹_›, rfl⟩
    · cases h'
theorem same_new {H : Hp} {p : Addr} (h : H p = none) (o : HO) : Same H (upd H p o) := fun b u q => by rw [upd_ne (ne_of_none q h)]; exact q
theorem rep_newT {K : PySem.W.Frag} {H : Hp} {hid : Hid} {p : Addr} {xs : List V} {ds : List D} (hn : H p = none) (hf : hid p = false) (r : Reps K (vw H hid) xs ds) : Rep K (vw (upd H p (.tup xs)) hid) (.ref p) (.tup ds) :=
  .tup (SqT.of (vw_some.mpr ⟨hf, upd_same⟩)) (r.mono (vw_same (same_new hn _)))
theorem rn_new {K : PySem.W.Frag} {H H0 : Hp} {hid : Hid} {p : Addr} {xs : List V} {ds : List D} (hn : H p = none) (s : Same H0 H) (r : Reps K (vw H hid) xs ds) : RN K H0 (upd H p (.lst xs)) hid (.ref p) (.lst ds) :=
  ⟨p, xs, ds, rfl, rfl, s.free hn, upd_same, by rw [vw_new hn]; exact r⟩
theorem dp_tup {x1} (h : DA X c es fs) : DP X c .s (.Tuple es x1 pos) (tupF fs) := fun hid ρ => PE.imp (pe_tup (h hid ρ)) fun σ H Q hq_ => by
  obtain ⟨sr, d, hd, q⟩ := hq_
  obtain ⟨ds, e1, hz, rfl⟩ := tupF_some hd
  exact ⟨sr, ds, e1, fun vs H1 s1 r1 => ⟨by rw [r1.length]; exact hz, fun p hp => q _ _ (s1.trans (same_new hp _)) (rep_newT hp ((sr.ext s1).fresh hp) r1)⟩⟩
theorem dp_lst (h : DA X c es fs) : DP X c .n (.List es pos) (lstF fs) := fun hid ρ => PE.imp (pe_lst (h hid ρ)) fun σ H Q hq_ => by
  obtain ⟨sr, d, hd, q⟩ := hq_
  obtain ⟨ds, e1, hz, rfl⟩ := lstF_some hd
  exact ⟨sr, ds, e1, fun vs H1 s1 r1 => ⟨by rw [r1.length]; exact hz, fun p hp => q _ _ (s1.trans (same_new hp _)) (rn_new hp s1 r1)⟩⟩
abbrev Reps1 (K : PySem.W.Frag) (H W : Hp) : List V → List D → Prop := Paired (Rep1 K H W)
def rdB (K : PySem.W.Frag) (c : Ct) (hid : Hid) (f : FA) (ρ : Rho) : TA := fun σ H Q => SR K c hid ρ σ H ∧ ∃ d, f ρ = some d ∧ ∀ vs H', Same H H' → Reps1 K H' (vw H' hid) vs d → Q vs H'
def DB (X : Cx) (c : Ct) (es : List Expr) (f : FA) : Prop := ∀ hid ρ, PA X es (rdB X.K c hid f ρ)
theorem db_nil : DB X c [] nilA := fun hid ρ => PA.imp pa_nil fun σ H Q ⟨sr, d, hd, q⟩ => by cases hd; exact q [] H (Same.refl _) .nil
theorem db_cons (ha : DP X c k e f) (hr : DB X c es fs) (hs : starEach (e :: es) X.env = (false, eval e X.env) :: starEach es X.env := by rfl) : DB X c (e :: es) (consA f fs) := fun hid ρ =>
  PA.imp (pa_cons (ha hid ρ) (hr hid ρ) hs) fun σ H Q hq_ => by
    obtain ⟨sr, d, hd, q⟩ := hq_
    obtain ⟨d1, r, e1, e2, rfl⟩ := consA_some hd
    exact ⟨sr, d1, e1, fun v H1 s1 r1 => ⟨sr.ext s1, r, e2, fun vs H2 s2 r2 => q _ H2 (s1.trans s2) (.cons ((RK.b k r1 fun a n => sr.fresh n).ext s2) r2)⟩⟩
def CallD (K : PySem.W.Frag) (k : Kd) (r : List V → Hp → VK → Prop) (F : List D → Option D) : Prop := ∀ (H : Hp) (hid : Hid) (vs : List V) (ds : List D) (d : D) (Q : VK), (∀ a, H a = none → hid a = false) → F ds = some d → Reps1 K H (vw H hid) vs ds →
  (∀ w H', Same H H' → RK K k H H' hid w d → Q w H') → r vs H Q
def callF (F : List D → Option D) (fs : FA) : FE := fun ρ => (fs ρ).bind F
theorem callF_some {F : List D → Option D} {ρ : Rho} {d : D} (h : callF F fs ρ = some d) : ∃ ds, fs ρ = some ds ∧ F ds = some d := by
  unfold callF at h
  cases e1 : fs ρ with
  | none => rw [e1] at h; cases h
  | some ds => rw [e1] at h; exact ⟨ds, rfl, h⟩
theorem rdCB {r : List V → Hp → VK → Prop} {F : List D → Option D} {hid : Hid} {ρ : Rho} (hF : CallD X.K k r F) {σ : St} {H : Hp} {Q : VK} (h : rdP X.K c hid k (callF F fs) ρ σ H Q) : tCB r (rdB X.K c hid fs ρ) σ H Q := by
  obtain ⟨sr, d, hd, q⟩ := h
  obtain ⟨ds, e1, e2⟩ := callF_some hd
  exact ⟨sr, ds, e1, fun vs H1 s1 r1 => hF H1 hid vs ds d Q (fun a n => (sr.ext s1).fresh n) e2 r1 fun w H' s2 r2 => q w H' (s1.trans s2) (RK.left s1 r2)⟩
variable {x : Str} {p : Pos} {id T : String} {r : List V → Hp → VK → Prop} {F : List D → Option D}
theorem dp_callB (hc : CallR X (.builtin id) r) (hF : CallD X.K k r F) (hm : X.mg x = none) (ha : DB X c (e :: es) fs) (hg : Gl X x := by rfl) (hv : bootBuiltins x = some (.builtin id) := by first | exact PySem.boot_len | rfl | kernel_rfl) (hn : x ≠ "__name__" := by decide) (hdb : (x == ("__debug__" : Str)) = false := by decide)
    (he : starEach (e :: es) X.env = (false, eval e X.env) :: starEach es X.env := by rfl) (hpl : (backTo pos (starEach es X.env)).any (·.1) = false := by rfl) : DP X c k (.Call (.Name x p) (e :: es) [] pos) (callF F fs) := fun hid ρ =>
  PE.imp (pe_callB hc hg hm hv (ha hid ρ) hn hdb he hpl) fun σ H Q h => rdCB hF h
theorem dp_callTy (hc : CallR X (.type T) r) (hF : CallD X.K k r F) (hm : X.mg x = none) (ha : DB X c (e :: es) fs) (hg : Gl X x := by rfl) (hv : bootBuiltins x = some (.type T) := by first | rfl | kernel_rfl) (hn : x ≠ "__name__" := by decide) (hdb : (x == ("__debug__" : Str)) = false := by decide)
    (he : starEach (e :: es) X.env = (false, eval e X.env) :: starEach es X.env := by rfl) (hpl : (backTo pos (starEach es X.env)).any (·.1) = false := by rfl) : DP X c k (.Call (.Name x p) (e :: es) [] pos) (callF F fs) := fun hid ρ =>
  PE.imp (pe_callTy hc hg hm hv (ha hid ρ) hn hdb he hpl) fun σ H Q h => rdCB hF h
end
section
variable {K : PySem.W.Frag}
theorem Reps1.one {H W : Hp} {v : List V} {d : D} (r : Reps1 K H W v [d]) : ∃ x, v = [x] ∧ Rep1 K H W x d := by
  cases r with
  | cons r t => cases t; exact ⟨_, rfl, r⟩
theorem Reps1.two {H W : Hp} {v : List V} {d d' : D} (r : Reps1 K H W v [d, d']) : ∃ x y, v = [x, y] ∧ Rep1 K H W x d ∧ Rep1 K H W y d' := by
  cases r with
  | cons r t => cases t with
    | cons r' t => cases t; exact ⟨_, _, rfl, r, r'⟩
def lenD : List D → Option D
  | [.lst ds] => some (.int ds.length)
  | [.tup ds] => some (.int ds.length)
  | [.scr ds] => some (.int ds.length)
  | _ => none
theorem cd_len : CallD K .s (fun xs H Q => ∃ p ys, xs = [.ref p] ∧ (SqL K H p ys ∨ SqT K H p ys) ∧ Q (.int ys.length) H) lenD := by
  intro H hid vs ds d Q hf h r q
  unfold lenD at h
  split at h
  · cases h
    obtain ⟨x, rfl, r1⟩ := Reps1.one r
    obtain ⟨a, xs, rfl, h1, h2⟩ := r1.lst
    exact ⟨a, xs, rfl, .inl h1, by rw [h2.length]; exact q _ H (Same.refl _) .int⟩
  · cases h
    obtain ⟨x, rfl, r1⟩ := Reps1.one r
    obtain ⟨a, xs, rfl, _, h1, h2⟩ := r1.tup
    exact ⟨a, xs, rfl, .inr h1, by rw [h2.length]; exact q _ H (Same.refl _) .int⟩
  · cases h
    obtain ⟨x, rfl, r1⟩ := Reps1.one r
    obtain ⟨a, xs, rfl, h1, h2⟩ := r1.scr
    exact ⟨a, xs, rfl, .inl h1, by rw [h2.length]; exact q _ H (Same.refl _) .int⟩
  · cases h
def absI : List D → Option D
  | [.int i] => some (.int (if i < 0 then -i else i))
  | _ => none
theorem cd_abs : CallD K .s (fun xs H Q => ∃ i, xs = [.int i] ∧ Q (.int (if i < 0 then -i else i)) H) absI := by
  intro H hid vs ds d Q hf h r q
  unfold absI at h
  split at h
  · cases h
    obtain ⟨x, rfl, r1⟩ := Reps1.one r
    cases r1.int
    exact ⟨_, rfl, q _ H (Same.refl _) .int⟩
  · cases h
def min2D : List D → Option D
  | [.int i, .int j] => some (.int (if j < i then j else i))
  | _ => none
theorem cd_min2 : CallD K .s (fun xs H Q => ∃ i j, xs = [.int i, .int j] ∧ Q (.int (if j < i then j else i)) H) min2D := by
  intro H hid vs ds d Q hf h r q
  unfold min2D at h
  split at h
  · cases h
    obtain ⟨x, y, rfl, r1, r2⟩ := Reps1.two r
    cases r1.int; cases r2.int
    exact ⟨_, _, rfl, q _ H (Same.refl _) .int⟩
  · cases h
def listD : List D → Option D
  | [.lst ds] => some (.lst ds)
  | [.tup ds] => some (.lst ds)
  | _ => none
theorem cd_list : CallD K .n (fun xs H Q => ∃ p ys, xs = [.ref p] ∧ (SqL K H p ys ∨ SqT K H p ys) ∧ ∀ l, H l = none → Q (.ref l) (upd H l (.lst ys))) listD := by
  intro H hid vs ds d Q hf h r q
  unfold listD at h
  split at h
  · cases h
    obtain ⟨x, rfl, r1⟩ := Reps1.one r
    obtain ⟨a, xs, rfl, h1, h2⟩ := r1.lst
    exact ⟨a, xs, rfl, .inl h1, fun l hl => q _ _ (same_new hl _) (rn_new hl (Same.refl _) h2)⟩
  · cases h
    obtain ⟨x, rfl, r1⟩ := Reps1.one r
    obtain ⟨a, xs, rfl, _, h1, h2⟩ := r1.tup
    exact ⟨a, xs, rfl, .inr h1, fun l hl => q _ _ (same_new hl _) (rn_new hl (Same.refl _) h2)⟩
  · cases h
def ixD : D → D → Option D
  | .lst ds, .int i => atI ds i
  | .tup ds, .int i => atI ds i
  | .scr ds, .int i => atI ds i
  | _, _ => none
theorem atI_rep {F : Hp} {xs : List V} {ds : List D} {i : Int} {d : D} (r : Reps K F xs ds) (h : atI ds i = some d) : ∃ x, atI xs i = some x ∧ Rep K F x d := by
  unfold atI at h ⊢
  rw [r.length]
  cases e : ixN ds.length i with
  | none => rw [e] at h; cases h
  | some j =>
    rw [e] at h
    obtain ⟨x, h1, h2⟩ := r.get (i := j) h
    exact ⟨x, h1, h2⟩
theorem od_ix : OpD K .s (rIx K) ixD := by
  intro H hid v u x y d Q hf h r1 r2 q
  unfold ixD at h
  split at h
  · cases r2.int
    obtain ⟨a, xs, rfl, h1, h2⟩ := r1.lst
    obtain ⟨z, h3, h4⟩ := atI_rep h2 h
    exact .inl ⟨a, xs, _, z, rfl, rfl, h1, h3, q _ H (Same.refl _) h4⟩
  · cases r2.int
    obtain ⟨a, xs, rfl, _, h1, h2⟩ := r1.tup
    obtain ⟨z, h3, h4⟩ := atI_rep h2 h
    exact .inr (.inl ⟨a, xs, _, z, rfl, rfl, h1, h3, q _ H (Same.refl _) h4⟩)
  · cases r2.int
    obtain ⟨a, xs, rfl, h1, h2⟩ := r1.scr
    obtain ⟨z, h3, h4⟩ := atI_rep h2 h
    exact .inl ⟨a, xs, _, z, rfl, rfl, h1, h3, q _ H (Same.refl _) h4⟩
  · cases h
end
end L2
set_option Elab.async false
set_option linter.all false
set_option maxRecDepth 100000
namespace L2
open PySem PySem.Spec PyProof.Rows
abbrev GE := Rho → Option (D × Rho)
abbrev GA := Rho → Option (List D × Rho)
def Kept (hid : Hid) (H H' : Hp) : Prop := ∀ b o, H b = some o → hid b = false → H' b = some o
theorem Kept.of {hid : Hid} {H H' : Hp} (s : Same H H') : Kept hid H H' := fun b o q _ => s b o q
theorem Kept.trans {hid : Hid} {H H1 H2 : Hp} (a : Kept hid H H1) (b : Kept hid H1 H2) : Kept hid H H2 := fun c o q h => b c o (a c o q h) h
theorem Kept.vw {hid : Hid} {H H' : Hp} (a : Kept hid H H') : Same (vw H hid) (vw H' hid) := vw_keep a
def PostE (K : PySem.W.Frag) (c : Ct) (hid : Hid) (k : Kd) (ρ' : Rho) (σ : St) (H H' : Hp) (v : V) (d : D) : Prop := Kept hid H H' ∧ match k with
  | .n => ∃ a xs ds, d = .lst ds ∧ v = .ref a ∧ H a = none ∧ H' a = some (.lst xs) ∧ c.H₀ a = none ∧ hid a = false ∧ SR K c (hadd hid a) ρ' σ H' ∧ Reps K (vw H' (hadd hid a)) xs ds ∧ ∀ i : Nat, Ow ρ'[i]? → σ[i]? ≠ some (some (.ref a))
  | _ => SR K c hid ρ' σ H' ∧ Rep K (vw H' hid) v d
def rdE (K : PySem.W.Frag) (c : Ct) (hid : Hid) (k : Kd) (f : GE) (ρ : Rho) : TE := fun σ H Q => SR K c hid ρ σ H ∧ ∃ d ρ', f ρ = some (d, ρ') ∧ ∀ v H', PostE K c hid k ρ' σ H H' v d → Q v H'
def DE (X : Cx) (c : Ct) (k : Kd) (e : Expr) (f : GE) : Prop := ∀ hid ρ, PE X e (rdE X.K c hid k f ρ)
def pu (f : FE) : GE := fun ρ => (f ρ).map fun d => (d, ρ)
theorem pu_some {f : FE} {ρ ρ' : Rho} {d : D} (h : pu f ρ = some (d, ρ')) : f ρ = some d ∧ ρ' = ρ := by
  unfold pu at h
  cases e : f ρ with
  | none => rw [e] at h; cases h
  | some x => rw [e] at h; cases h; exact ⟨rfl, rfl⟩
section
variable {K : PySem.W.Frag} {c : Ct} {hid hid' : Hid} {ρ : Rho} {σ : St} {H H' : Hp} {i : Nat} {a : Addr}
theorem hadd_true {hid : Hid} {a b : Addr} (h : hid b = true) : hadd hid a b = true := by unfold hadd; rw [h]; rfl
theorem hadd_self {hid : Hid} {a : Addr} : hadd hid a a = true := by unfold hadd; simp
theorem SR.hide (h : SR K c hid ρ σ H) (e : Same H H') (n : H a = none) {o : HO} (ho : H' a = some o) (hn : ∀ xs, o ≠ .tup xs := by intro _ e; cases e) : SR K c (hadd hid a) ρ σ H' := by
  have sm : Same (vw H hid) (vw H' (hadd hid a)) := fun b o q => by
    obtain ⟨q1, q2⟩ := vw_some.mp q
    refine vw_some.mpr ⟨?_, e _ _ q2⟩
    unfold hadd
    rw [q1]
    have : b ≠ a := ne_of_none q2 n
    simp [this]
  refine ⟨fun b hb => ?_, fun b xs hb q => by
    by_cases eb : b = a
    · subst eb; rw [ho] at q; exact hn _ (Option.some.inj q)
    · unfold hadd at hb
      exact (h.ext e).ht b xs (by simpa [eb] using hb) q, fun b q => hadd_true (h.h0 b q), (h.ext e).kp, (h.ext e).t0, h.c0, h.m0, h.len, fun i s q => ?_, h.ap⟩
  · by_cases eb : b = a
    · subst eb; exact ⟨_, ho⟩
    · unfold hadd at hb
      have : hid b = true := by simpa [eb] using hb
      obtain ⟨o', q⟩ := h.tr b this
      exact ⟨o', e _ _ q⟩
  · have z := h.sl i s q
    cases s with
    | no => trivial
    | v d => obtain ⟨x, h1, h2⟩ := z; exact ⟨x, h1, h2.mono sm⟩
    | own ds => obtain ⟨a', xs, h1, h2, h3, h4, h5⟩ := z; exact ⟨a', xs, h1, e _ _ h2, hadd_true h3, h4, h5.mono sm⟩
    | arg ds => obtain ⟨a', xs, h1, h2, h3, h4, h5⟩ := z; exact ⟨a', xs, h1, e _ _ h2, hadd_true h3, h4, h5.mono sm⟩
    | ob b => obtain ⟨a', h1, h2⟩ := z; exact ⟨a', h1, h2.mono (fun _ => e a') sm fun _ => hadd_true⟩
theorem SR.show (h : SR K c (hadd hid a) ρ σ H) (h0 : ∀ b, c.hid₀ b = true → hid b = true) (no : ∀ i : Nat, Ow ρ[i]? → σ[i]? ≠ some (some (.ref a))) : SR K c hid ρ σ H := by
  have sm : Same (vw H (hadd hid a)) (vw H hid) := vw_less fun b q => hadd_true q
  have un : ∀ b, b ≠ a → hadd hid a b = true → hid b = true := fun b nb hb => by unfold hadd at hb; simpa [nb] using hb
  refine ⟨fun b hb => h.tr b (hadd_true hb), fun b xs hb => h.ht b xs (hadd_true hb), h0, h.kp, h.t0, h.c0, h.m0, h.len, fun i s q => ?_, h.ap⟩
  have z := h.sl i s q
  cases s with
  | no => trivial
  | v d => obtain ⟨x, h1, h2⟩ := z; exact ⟨x, h1, h2.mono sm⟩
  | own ds =>
    obtain ⟨a', xs, h1, h2, h3, h4, h5⟩ := z
    have : a' ≠ a := fun e => by subst e; exact no i (by rw [q]; trivial) h1
    exact ⟨a', xs, h1, h2, un a' this h3, h4, h5.mono sm⟩
  | arg ds =>
    obtain ⟨a', xs, h1, h2, h3, h4, h5⟩ := z
    have : a' ≠ a := fun e => by subst e; exact no i (by rw [q]; trivial) h1
    exact ⟨a', xs, h1, h2, un a' this h3, h4, h5.mono sm⟩
  | ob b =>
    obtain ⟨a', h1, h2⟩ := z
    exact ⟨a', h1, h2.mono (fun _ _ q => q) sm fun ow => un a' fun e => by subst e; exact no i (by rw [q]; exact ow) h1⟩
theorem SR.notOw (h : SR K c hid ρ σ H) (n : hid a = false) (i : Nat) (o : Ow ρ[i]?) : σ[i]? ≠ some (some (.ref a)) := fun e => by
  cases q : ρ[i]? with
  | none => rw [q] at o; exact o
  | some s =>
    rw [q] at o
    have z := h.sl i s q
    cases s with
    | no => exact o
    | v d => exact o
    | own ds => obtain ⟨a', xs, h1, h2, h3, _⟩ := z; rw [e] at h1; cases h1; rw [n] at h3; cases h3
    | arg ds => obtain ⟨a', xs, h1, h2, h3, _⟩ := z; rw [e] at h1; cases h1; rw [n] at h3; cases h3
    | ob b => obtain ⟨a', h1, h2⟩ := z; rw [e] at h1; cases h1; have := h2.hid o; rw [n] at this; cases this
theorem SR.post {k : Kd} {v : V} {d : D} (h : SR K c hid ρ σ H) (e : Same H H') (r : RK K k H H' hid v d) (hk : k ≠ .b) : PostE K c hid k ρ σ H H' v d := by
  cases k with
  | b => exact absurd rfl hk
  | s => exact ⟨.of e, h.ext e, r⟩
  | n =>
    obtain ⟨a, xs, ds, h1, h2, h3, h4, h5⟩ := r
    exact ⟨.of e, a, xs, ds, h1, h2, h3, h4, h.fresh0 h3, h.fresh h3, h.hide e h3 h4, h5, h.notOw (h.fresh h3)⟩
theorem PostE.left {k : Kd} {ρ' : Rho} {H1 : Hp} {v : V} {d : D} (s : Kept hid H H1) (p : PostE K c hid k ρ' σ H1 H' v d) : PostE K c hid k ρ' σ H H' v d := by
  cases k with
  | b => exact ⟨s.trans p.1, p.2⟩
  | s => exact ⟨s.trans p.1, p.2⟩
  | n =>
    obtain ⟨kp, a, xs, ds, h1, h2, hn, h3, h4, h5, h6⟩ := p
    refine ⟨s.trans kp, a, xs, ds, h1, h2, ?_, h3, h4, h5, h6⟩
    cases e : H a with
    | none => rfl
    | some o => rw [s a o e h5] at hn; cases hn
theorem PostE.toS {ρ' : Rho} {v : V} {d : D} (h0 : ∀ b, c.hid₀ b = true → hid b = true) (p : PostE K c hid .n ρ' σ H H' v d) : PostE K c hid .s ρ' σ H H' v d := by
  obtain ⟨kp, a, xs, ds, rfl, rfl, hn, h1, h2, h3, h4, h5, h6⟩ := p
  exact ⟨kp, h4.show h0 h6, .lst (vw_some.mpr ⟨h3, h1⟩) (h5.mono (vw_less fun b q => hadd_true q))⟩
end
section
variable {X : Cx} {c : Ct} {e a b : Expr} {es rest : List Expr} {f g : GE} {k : Kd} {pos : Pos}
theorem DP.ef {f : FE} (h : DP X c k e f) (hk : k ≠ .b := by decide) : DE X c k e (pu f) := fun hid ρ => PE.imp (h hid ρ) fun σ H Q hq_ => by
  obtain ⟨sr, d, ρ', hd, q⟩ := hq_
  obtain ⟨h1, rfl⟩ := pu_some hd
  exact ⟨sr, d, h1, fun v H' s r => q v H' (sr.post s r hk)⟩
theorem DE.toS (h : DE X c .n e f) : DE X c .s e f := fun hid ρ => PE.imp (h hid ρ) fun σ H Q ⟨sr, d, ρ', hd, q⟩ => ⟨sr, d, ρ', hd, fun v H' p => q v H' (p.toS sr.h0)⟩
def bE {α : Type} (f : GE) (g : D → Rho → Option α) : Rho → Option α := fun ρ => (f ρ).bind fun p => g p.1 p.2
theorem bE_some {α : Type} {g : D → Rho → Option α} {ρ : Rho} {z : α} (h : bE f g ρ = some z) : ∃ d ρ', f ρ = some (d, ρ') ∧ g d ρ' = some z := by
  unfold bE at h
  cases e : f ρ with
  | none => rw [e] at h; cases h
  | some p => rw [e] at h; exact ⟨p.1, p.2, rfl, h⟩
def op2E (F : D → D → Option D) (f g : GE) : GE := bE f fun x => bE g fun y ρ => (F x y).map fun d => (d, ρ)
theorem op2E_some {F : D → D → Option D} {ρ ρ' : Rho} {d : D} (h : op2E F f g ρ = some (d, ρ')) : ∃ x ρ1 y, f ρ = some (x, ρ1) ∧ g ρ1 = some (y, ρ') ∧ F x y = some d := by
  obtain ⟨x, ρ1, h1, h2⟩ := bE_some h
  obtain ⟨y, ρ2, h3, h4⟩ := bE_some h2
  cases e : F x y with
  | none => rw [e] at h4; cases h4
  | some z => rw [e] at h4; cases h4; exact ⟨x, ρ1, y, h1, h3, e⟩
theorem rd2E {r : R2} {F : D → D → Option D} {hid : Hid} {ρ : Rho} (hF : OpD X.K k r F) (hk : k ≠ .b) {σ : St} {H : Hp} {Q : VK} (h : rdE X.K c hid k (op2E F f g) ρ σ H Q) : tOp r (rdE X.K c hid .s f ρ) (fun σ H Q => ∃ ρ1, rdE X.K c hid .s g ρ1 σ H Q) σ H Q := by
  obtain ⟨sr, d, ρ', hd, q⟩ := h
  obtain ⟨x, ρ1, y, e1, e2, e3⟩ := op2E_some hd
  refine ⟨sr, x, ρ1, e1, fun v H1 ⟨k1, s1, r1⟩ => ⟨ρ1, s1, y, ρ', e2, fun u H2 ⟨k2, s2, r2⟩ => ?_⟩⟩
  exact hF H2 hid v u x y d Q (fun a n => s2.fresh n) e3 (.inl (r1.mono k2.vw)) (.inl r2) fun w H' s3 r3 => q w H' (PostE.left (k1.trans k2) (s2.post s3 r3 hk))
theorem exPE {α : Type} {t : α → TE} (h : ∀ z, PE X e (t z)) : PE X e (fun σ H Q => ∃ z, t z σ H Q) := fun pins s σ H Q I ⟨z, q⟩ => h z pins s σ H Q I q
theorem de_op {op : Operator} {r : R2} {F : D → D → Option D} (ho : OpR X (binaryOp op) r) (hF : OpD X.K k r F) (ha : DE X c .s a f) (hb : DE X c .s b g) (hk : k ≠ .b := by decide) : DE X c k (.BinOp a op b pos) (op2E F f g) := fun hid ρ =>
  PE.imp (pe_op ho (ha hid ρ) (exPE fun ρ1 => hb hid ρ1)) fun σ H Q h => rd2E hF hk h
def rdG (K : PySem.W.Frag) (c : Ct) (hid : Hid) (f : GA) (ρ : Rho) : TA := fun σ H Q => SR K c hid ρ σ H ∧ ∃ d ρ', f ρ = some (d, ρ') ∧ ∀ vs H', Kept hid H H' → SR K c hid ρ' σ H' → Reps K (vw H' hid) vs d → Q vs H'
def DG (X : Cx) (c : Ct) (es : List Expr) (f : GA) : Prop := ∀ hid ρ, PA X es (rdG X.K c hid f ρ)
def puA (f : FA) : GA := fun ρ => (f ρ).map fun d => (d, ρ)
theorem puA_some {f : FA} {ρ ρ' : Rho} {d : List D} (h : puA f ρ = some (d, ρ')) : f ρ = some d ∧ ρ' = ρ := by
  unfold puA at h
  cases e : f ρ with
  | none => rw [e] at h; cases h
  | some x => rw [e] at h; cases h; exact ⟨rfl, rfl⟩
theorem DA.gf {f : FA} (h : DA X c es f) : DG X c es (puA f) := fun hid ρ => PA.imp (h hid ρ) fun σ H Q hq_ => by
  obtain ⟨sr, d, ρ', hd, q⟩ := hq_
  obtain ⟨h1, rfl⟩ := puA_some hd
  exact ⟨sr, d, h1, fun v H' s r => q v H' (.of s) (sr.ext s) r⟩
def consG (f : GE) (fs : GA) : GA := bE f fun d ρ => (fs ρ).map fun p => (d :: p.1, p.2)
theorem exPA {α : Type} {t : α → TA} (h : ∀ z, PA X es (t z)) : PA X es (fun σ H Q => ∃ z, t z σ H Q) := fun p pins s σ H Q I ⟨z, q⟩ => h z p pins s σ H Q I q
theorem dg_cons {fs : GA} (ha : DE X c .s e f) (hr : DG X c es fs) (hs : starEach (e :: es) X.env = (false, eval e X.env) :: starEach es X.env := by rfl) : DG X c (e :: es) (consG f fs) := fun hid ρ =>
  PA.imp (pa_cons (ha hid ρ) (exPA fun ρ1 => hr hid ρ1) hs) fun σ H Q hq_ => by
    obtain ⟨sr, d, ρ', hd, q⟩ := hq_
    obtain ⟨d1, ρ1, e1, h2⟩ := bE_some hd
    cases e2 : fs ρ1 with
    | none => rw [e2] at h2; cases h2
    | some p =>
      rw [e2] at h2
      obtain ⟨ds, ρ2⟩ := p
      cases h2
      exact ⟨sr, d1, ρ1, e1, fun v H1 ⟨k1, s1, r1⟩ => ⟨ρ1, s1, ds, _, e2, fun vs H2 k2 s2 r2 => q _ H2 (k1.trans k2) s2 (.cons (r1.mono k2.vw) r2)⟩⟩
end
def spP (K : PySem.W.Frag) (k : Kd) (n : Nat) (P : List D → Option D) : Sp := fun vs H Q _ => ∃ hid ds, Trk hid H ∧ Reps K (vw H hid) vs ds ∧ ds.length = n ∧ ∃ d, P ds = some d ∧ ∀ v H', Same H H' → RK K k H H' hid v d → Q v H'
def EndE (K : PySem.W.Frag) (k : Kd) (hid : Hid) (H H' : Hp) (v : V) (d : D) (xs' : List V) (bs' : List D) : Prop := match k with
  | .n => ∃ p ys es, d = .lst es ∧ v = .ref p ∧ H p = none ∧ H' p = some (.lst ys) ∧ Reps K (vw H' (hadd hid p)) ys es ∧ Reps K (vw H' (hadd hid p)) xs' bs'
  | _ => Rep K (vw H' hid) v d ∧ Reps K (vw H' hid) xs' bs'
def spE (K : PySem.W.Frag) (k : Kd) (n : Nat) (M : List D → List D → Option (D × List D)) : Sp := fun vs H Q _ => ∃ hid a xs bs us ds, vs = .ref a :: us ∧ Trk hid H ∧ hid a = true ∧ H a = some (.lst xs) ∧ Reps K (vw H hid) xs bs ∧
  Reps K (vw H hid) us ds ∧ ds.length = n ∧ ∃ d bs', M bs ds = some (d, bs') ∧ ∀ v H' xs', (∀ b o, H b = some o → b ≠ a → H' b = some o) → H' a = some (.lst xs') → EndE K k hid H H' v d xs' bs' → Q v H'
section
variable {X : Cx} {c : Ct} {e a b : Expr} {es rest : List Expr} {k : Kd} {pos p : Pos} {x : Str} {f : Addr} {fd : FuncData} {ps : List Str} {j n : Nat}
theorem dp_call {P : List D → Option D} {fs : FA} (F : FnOk X.prog X.w X.K X.mg X.base CX0 j f fd ps (spP X.K k n P)) (hr : Room j X.A) (hm : X.mg x = some (.ref f)) (hk : PySem.W.keepIn X.K (.ref f) = true) (hb : Binds X.K fd ps [])
    (ha : DA X c (e :: es) fs) (hg : Gl X x := by rfl) (hdb : (x == ("__debug__" : Str)) = false := by decide) (he : starEach (e :: es) X.env = (false, eval e X.env) :: starEach es X.env := by rfl) (hpl : (backTo pos (starEach es X.env)).any (·.1) = false := by rfl) :
    DP X c k (.Call (.Name x p) (e :: es) [] pos) (callF (fun ds => if ds.length = n then P ds else none) fs) := fun hid ρ =>
  PE.imp (pe_call F hr hg hm hk hb .nil (pass0 (X := X)) (ha hid ρ) hdb he hpl) fun σ H Q hq_ => by
    obtain ⟨sr, d, hd, q⟩ := hq_
    obtain ⟨ds, e1, e2⟩ := callF_some hd
    have e2' : (if ds.length = n then P ds else none) = some d := e2
    split at e2'
    · refine ⟨sr, ds, e1, fun vs H1 s1 r1 => ?_⟩
      show spP X.K k n P (vs ++ []) H1 Q E0
      rw [List.append_nil]
      exact ⟨hid, ds, (sr.ext s1).trk, r1, ‹_›, d, e2', fun v H' s2 r2 => q v H' (s1.trans s2) (RK.left s1 r2)⟩
    · cases e2'
def setB (i : Nat) (bs : List D) (ρ : Rho) : Rho := match ρ[i]? with
  | some (.own _) => ρ.set i (.own bs)
  | some (.arg _) => ρ.set i (.arg bs)
  | _ => ρ
def getB (i : Nat) (ρ : Rho) : Option (List D) := match ρ[i]? with
  | some (.own ds) => some ds
  | some (.arg ds) => some ds
  | _ => none
theorem getB_some {i : Nat} {ρ : Rho} {bs : List D} (h : getB i ρ = some bs) : ρ[i]? = some (.own bs) ∨ ρ[i]? = some (.arg bs) := by
  unfold getB at h
  split at h
  · cases h; exact .inl ‹_›
  · cases h; exact .inr ‹_›
  · cases h
theorem SR.held {K : PySem.W.Frag} {hid : Hid} {ρ : Rho} {σ : St} {H : Hp} {i : Nat} {bs : List D} (h : SR K c hid ρ σ H) (hg : getB i ρ = some bs) : ∃ a xs, σ[i]? = some (some (.ref a)) ∧ H a = some (.lst xs) ∧ hid a = true ∧ Reps K (vw H hid) xs bs ∧ (c.mu a = true ∨ c.H₀ a = none) := by
  rcases getB_some hg with e | e
  · obtain ⟨a, xs, h1, h2, h3, h4, h5⟩ := h.sl i _ e
    exact ⟨a, xs, h1, h2, h3, h5, .inr h4⟩
  · obtain ⟨a, xs, h1, h2, h3, h4, h5⟩ := h.sl i _ e
    exact ⟨a, xs, h1, h2, h3, h5, .inl h4⟩
theorem getElem?_setB {i j : Nat} {ρ : Rho} {bs : List D} (h : j ≠ i) : (setB i bs ρ)[j]? = ρ[j]? := by
  unfold setB
  split
  · rw [List.getElem?_set_ne (Ne.symm h)]
  · rw [List.getElem?_set_ne (Ne.symm h)]
  · rfl
theorem setB_len {i : Nat} {ρ : Rho} {bs : List D} : (setB i bs ρ).length = ρ.length := by
  unfold setB
  split
  · simp
  · simp
  · rfl
theorem ow_setB {i j : Nat} {ρ : Rho} {bs : List D} (h : Ow (setB i bs ρ)[j]?) : Ow ρ[j]? := by
  by_cases e : j = i
  · subst e
    unfold setB at h
    split at h
    · rw [‹ρ[j]? = _›]; trivial
    · rw [‹ρ[j]? = _›]; trivial
    · exact h
  · rw [getElem?_setB e] at h; exact h
theorem SR.put {K : PySem.W.Frag} {hid : Hid} {ρ : Rho} {σ : St} {H H' : Hp} {i : Nat} {bs bs' : List D} {a : Addr} {xs' : List V} (h : SR K c hid ρ σ H) (hg : getB i ρ = some bs) (ha : σ[i]? = some (some (.ref a))) (kp : ∀ b o, H b = some o → b ≠ a → H' b = some o)
    (hx : H' a = some (.lst xs')) (r : Reps K (vw H' hid) xs' bs') : SR K c hid (setB i bs' ρ) σ H' := by
  obtain ⟨a1, xs, h1, h2, h3, h4, h5⟩ := h.held hg
  rw [ha] at h1; cases h1
  have sm : Same (vw H hid) (vw H' hid) := vw_keep fun b o q hb => kp b o q (fun e => by subst e; rw [h3] at hb; cases hb)
  have tr' : ∀ b o, H b = some o → ∃ o', H' b = some o' := fun b o q => by
    by_cases e : b = a
    · subst e; exact ⟨_, hx⟩
    · exact ⟨o, kp b o q e⟩
  refine ⟨fun b hb => let ⟨o, q⟩ := h.tr b hb; tr' b o q, fun b xs hb q => by
    by_cases e : b = a
    · subst e; rw [hx] at q; cases q
    · obtain ⟨o, w⟩ := h.tr b hb
      have z := kp b o w e
      rw [q] at z; cases z
      exact h.ht b xs hb w, h.h0, fun b o q m => ?_, fun b o q => let ⟨o', q'⟩ := h.t0 b o q; tr' b o' q', h.c0, h.m0, by rw [setB_len]; exact h.len, fun j s q => ?_, fun j l z n o1 o2 => h.ap j l z n (ow_setB o1) (ow_setB o2)⟩
  · refine kp b o (h.kp b o q m) fun e => ?_
    subst e
    rcases h5 with h5 | h5
    · rw [h5] at m; cases m
    · rw [h5] at q; cases q
  · by_cases e : j = i
    · subst e
      rcases getB_some hg with w | w
      · have lt := (List.getElem?_eq_some_iff.mp w).1
        unfold setB at q
        rw [w] at q
        dsimp only at q
        rw [List.getElem?_set_self lt] at q
        cases q
        obtain ⟨a2, xs2, g1, g2, g3, g4, g5⟩ := h.sl j _ w
        rw [ha] at g1; cases g1
        exact ⟨_, xs', ha, hx, g3, g4, r⟩
      · have lt := (List.getElem?_eq_some_iff.mp w).1
        unfold setB at q
        rw [w] at q
        dsimp only at q
        rw [List.getElem?_set_self lt] at q
        cases q
        obtain ⟨a2, xs2, g1, g2, g3, g4, g5⟩ := h.sl j _ w
        rw [ha] at g1; cases g1
        exact ⟨_, xs', ha, hx, g3, g4, r⟩
    · rw [getElem?_setB e] at q
      have z := h.sl j s q
      cases s with
      | no => trivial
      | v d => obtain ⟨x, h1, h2⟩ := z; exact ⟨x, h1, h2.mono sm⟩
      | own ds =>
        obtain ⟨a', xs, z1, z2, z3, z4, z5⟩ := z
        have ne : a' ≠ a := fun e' => by
          subst e'
          refine h.ap j i a' e (by rw [q]; trivial) ?_ z1 ha
          rcases getB_some hg with w | w <;> rw [w] <;> trivial
        exact ⟨a', xs, z1, kp _ _ z2 ne, z3, z4, z5.mono sm⟩
      | arg ds =>
        obtain ⟨a', xs, z1, z2, z3, z4, z5⟩ := z
        have ne : a' ≠ a := fun e' => by
          subst e'
          refine h.ap j i a' e (by rw [q]; trivial) ?_ z1 ha
          rcases getB_some hg with w | w <;> rw [w] <;> trivial
        exact ⟨a', xs, z1, kp _ _ z2 ne, z3, z4, z5.mono sm⟩
      | ob b =>
        obtain ⟨a', z1, z2⟩ := z
        refine ⟨a', z1, z2.mono (fun ow o w => kp _ _ w fun e' => ?_) sm fun _ w => w⟩
        subst e'
        refine h.ap j i a' e (by rw [q]; exact ow) ?_ z1 ha
        rcases getB_some hg with w | w <;> rw [w] <;> trivial
def callE (i n : Nat) (M : List D → List D → Option (D × List D)) (fs : GA) : GE := fun ρ => match getB i ρ with
  | none => none
  | some _ => match fs ρ with
    | none => none
    | some (ds, ρ1) => match getB i ρ1 with
      | none => none
      | some bs => if ds.length = n then match M bs ds with
          | none => none
          | some (d, bs') => some (d, setB i bs' ρ1) else none
theorem callE_some {i : Nat} {M : List D → List D → Option (D × List D)} {fs : GA} {ρ ρ' : Rho} {d : D} (h : callE i n M fs ρ = some (d, ρ')) : ∃ bs0 ds ρ1 bs bs', getB i ρ = some bs0 ∧ fs ρ = some (ds, ρ1) ∧ getB i ρ1 = some bs ∧ ds.length = n ∧ M bs ds = some (d, bs') ∧ ρ' = setB i bs' ρ1 := by
  unfold callE at h
  split at h
  · cases h
  · split at h
    · cases h
    · split at h
      · cases h
      · split at h
        · split at h
          · cases h
          · cases h; exact ⟨_, _, _, _, _, ‹_›, ‹_›, ‹_›, ‹_›, ‹_›, rfl⟩
        · cases h
theorem de_callE (i : Nat) {y : Str} {py : Pos} {M : List D → List D → Option (D × List D)} {fs : GA} (F : FnOk X.prog X.w X.K X.mg X.base CX0 j f fd ps (spE X.K k n M)) (hr : Room j X.A) (hm : X.mg x = some (.ref f)) (hk : PySem.W.keepIn X.K (.ref f) = true) (hb : Binds X.K fd ps [])
    (ha : DG X c es fs) (hkb : k ≠ .b := by decide) (hN : X.N[i]? = some y := by rfl) (hv : Vis X.env.scope y := by first | exact Or.inl rfl | exact Or.inr (Or.inl rfl) | exact Or.inr (Or.inr rfl)) (hd : (y == ("__debug__" : Str)) = false := by decide)
    (hcd : (y == ("__classdict__" : Str)) = false := by decide) (hs : starEach (.Name y py :: es) X.env = (false, eval (.Name y py) X.env) :: starEach es X.env := by rfl) (hg : Gl X x := by rfl) (hdb : (x == ("__debug__" : Str)) = false := by decide) (hpl : (backTo pos (starEach es X.env)).any (·.1) = false := by rfl) :
    DE X c k (.Call (.Name x p) (.Name y py :: es) [] pos) (callE i n M fs) := fun hid ρ =>
  PE.imp (pe_call F hr hg hm hk hb .nil (pass0 (X := X)) (pa_cons (pv i hN hv hd hcd) (ha hid ρ) hs) hdb hs hpl) fun σ H Q hq_ => by
    obtain ⟨sr, d, ρ', hd', q⟩ := hq_
    obtain ⟨bs0, ds, ρ1, bs, bs', e0, e1, e2, e3, e4, rfl⟩ := callE_some hd'
    obtain ⟨a, xs0, a1, _, a3, _, _⟩ := sr.held e0
    refine ⟨.ref a, a1, sr, ds, ρ1, e1, fun us H1 k1 s1 r1 => ?_⟩
    obtain ⟨a', xs, b1, b2, b3, b4, b5⟩ := s1.held e2
    rw [a1] at b1; cases b1
    show spE X.K k n M ((.ref a :: us) ++ []) H1 Q E0
    rw [List.append_nil]
    refine ⟨hid, a, xs, bs, us, ds, rfl, s1.trk, b3, b2, b4, r1, e3, d, bs', e4, fun v H' xs' kp hx hr' => q v H' ?_⟩
    have kp' : Kept hid H1 H' := fun b o q hb => kp b o q fun e => by subst e; rw [b3] at hb; cases hb
    cases k with
    | b => exact absurd rfl hkb
    | s => exact ⟨k1.trans kp', s1.put e2 a1 kp hx hr'.2, hr'.1⟩
    | n =>
      obtain ⟨p', ys, es', rfl, rfl, h1, h2, h3, h4⟩ := hr'
      have np : hid p' = false := s1.fresh h1
      have na : a ≠ p' := fun e => by subst e; rw [b2] at h1; cases h1
      have sB : SR X.K c (hadd hid p') ρ1 σ (upd H1 p' (.lst ys)) := s1.hide (same_new h1 _) h1 upd_same
      have kp2 : ∀ b o, (upd H1 p' (.lst ys)) b = some o → b ≠ a → H' b = some o := fun b o z hb => by
        by_cases e : b = p'
        · subst e; rw [upd_same] at z; cases z; exact h2
        · rw [upd_ne e] at z; exact kp b o z hb
      have sC : SR X.K c (hadd hid p') (setB i bs' ρ1) σ H' := sB.put e2 a1 kp2 hx h4
      have hn : H p' = none := by
        cases e : H p' with
        | none => rfl
        | some o => rw [k1 p' o e np] at h1; cases h1
      refine ⟨k1.trans kp', p', ys, es', rfl, rfl, hn, h2, s1.fresh0 h1, np, sC, h3, fun m hm hσ => ?_⟩
      have := s1.notOw np m (ow_setB hm)
      exact this hσ
end
end L2
set_option Elab.async false
set_option linter.all false
set_option maxRecDepth 100000
namespace L2
open PySem PySem.Spec PyProof.Rows
inductive Out where
  | nx (ρ : Rho) | rt (d : D) (ρ : Rho) | bk (ρ : Rho) | ct (ρ : Rho) | no
abbrev FS := Rho → Out
def hret (c : Ct) (k : Kd) (v : V) : Hid := match k, v with
  | .n, .ref a => hadd c.hid₀ a
  | _, _ => c.hid₀
structure Ret (K : PySem.W.Frag) (c : Ct) (k : Kd) (ρ' : Rho) (H' : Hp) (v : V) (d : D) : Prop where
  kp : ∀ b o, c.H₀ b = some o → c.mu b = false → H' b = some o
  val : match k with
    | .n => ∃ a xs ds, d = .lst ds ∧ v = .ref a ∧ c.H₀ a = none ∧ H' a = some (.lst xs) ∧ Reps K (vw H' (hadd c.hid₀ a)) xs ds
    | _ => Rep K (vw H' c.hid₀) v d
  arg : ∀ (i : Nat) (bs : List D), ρ'[i]? = some (Sl.arg bs) → ∃ a xs, c.mu a = true ∧ H' a = some (.lst xs) ∧ Reps K (vw H' (hret c k v)) xs bs
def EndOk (K : PySem.W.Frag) (c : Ct) (k : Kd) (D : Ends) (W : Hp) : Out → Prop
  | .nx ρ' => ∀ σ' H' hid', SR K c hid' ρ' σ' H' → Same W (vw H' hid') → D.nx σ' H'
  | .rt d ρ' => ∀ v H', Ret K c k ρ' H' v d → D.rt v H'
  | .bk ρ' => ∀ σ' H' hid', SR K c hid' ρ' σ' H' → Same W (vw H' hid') → D.bk σ' H'
  | .ct ρ' => ∀ σ' H' hid', SR K c hid' ρ' σ' H' → Same W (vw H' hid') → D.ct σ' H'
  | .no => False
theorem EndOk.mono {K : PySem.W.Frag} {c : Ct} {k : Kd} {D : Ends} {W W' : Hp} {o : Out} (h : EndOk K c k D W o) (s : Same W W') : EndOk K c k D W' o := by
  cases o with
  | nx ρ => exact fun σ' H' hid' z w => h σ' H' hid' z (s.trans w)
  | rt d ρ => exact h
  | bk ρ => exact fun σ' H' hid' z w => h σ' H' hid' z (s.trans w)
  | ct ρ => exact fun σ' H' hid' z w => h σ' H' hid' z (s.trans w)
  | no => exact h
def rdS (K : PySem.W.Frag) (c : Ct) (k : Kd) (t : FS) (ρ : Rho) : TS := fun D σ H => ∃ hid, SR K c hid ρ σ H ∧ EndOk K c k D (vw H hid) (t ρ)
def DS (X : Cx) (c : Ct) (k : Kd) (st : Stmt) (t : FS) : Prop := ∀ ρ, PS X st (rdS X.K c k t ρ)
def DSs (X : Cx) (c : Ct) (k : Kd) (st : List Stmt) (t : FS) : Prop := ∀ ρ, PSs X st (rdS X.K c k t ρ)
section
variable {X : Cx} {c : Ct} {k : Kd} {st : Stmt} {sts rest : List Stmt} {t u : FS} {e : Expr} {pos : Pos}
theorem exPSs {α : Type} {t : α → TS} (h : ∀ z, PSs X sts (t z)) : PSs X sts (fun D σ H => ∃ z, t z D σ H) := fun pins s σ H D I ⟨z, q⟩ => h z pins s σ H D I q
theorem exPT {α : Type} {t : α → TT} (h : ∀ z, PT X e (t z)) : PT X e (fun D σ H => ∃ z, t z D σ H) := fun pins s σ H D I ⟨z, q⟩ => h z pins s σ H D I q
def skip : FS := fun ρ => .nx ρ
def seqS (t u : FS) : FS := fun ρ => match t ρ with
  | .nx ρ' => u ρ'
  | .rt d ρ' => .rt d ρ'
  | .bk ρ' => .bk ρ'
  | .ct ρ' => .ct ρ'
  | .no => .no
theorem dss_nil : DSs X c k [] skip := fun ρ => PSs.imp pss_nil fun D σ H ⟨hid, sr, q⟩ => q σ H hid sr (Same.refl _)
theorem dss_one (h : DS X c k st t) : DSs X c k [st] t := fun ρ => pss_one (h ρ)
theorem dss_cons (h1 : DS X c k st t) (h2 : DSs X c k rest u) : DSs X c k (st :: rest) (seqS t u) := fun ρ =>
  PSs.imp (pss_cons (h1 ρ) (exPSs fun ρ1 => h2 ρ1)) fun D σ H hq_ => by
    obtain ⟨hid, sr, q⟩ := hq_
    refine ⟨hid, sr, ?_⟩
    unfold seqS at q
    cases e : t ρ with
    | nx ρ1 => rw [e] at q; exact fun σ1 H1 hid1 sr1 v1 => ⟨ρ1, hid1, sr1, EndOk.mono q v1⟩
    | rt d ρ1 => rw [e] at q; exact q
    | bk ρ1 => rw [e] at q; exact q
    | ct ρ1 => rw [e] at q; exact q
    | no => rw [e] at q; exact q
def ifS (p : FT) (t u : FS) : FS := fun ρ => match p ρ with
  | some true => t ρ
  | some false => u ρ
  | none => .no
theorem ds_if {p : FT} {a b : List Stmt} (hp : DT X c e p) (ha : DSs X c k a t) (hb : DSs X c k b u) : DS X c k (.If e a b pos) (ifS p t u) := fun ρ =>
  PS.imp (ps_if (exPT fun hid => hp hid ρ) (ha ρ) (hb ρ)) fun D σ H hq_ => by
    obtain ⟨hid, sr, q⟩ := hq_
    cases e1 : p ρ with
    | none => unfold ifS at q; rw [e1] at q; exact q.elim
    | some x =>
      refine ⟨hid, sr, x, e1, fun H1 s1 => ?_⟩
      unfold ifS at q
      rw [e1] at q
      cases x with
      | true => exact iteT ⟨hid, sr.ext s1, EndOk.mono q (vw_same s1)⟩
      | false => exact iteF ⟨hid, sr.ext s1, EndOk.mono q (vw_same s1)⟩
def retF (f : FE) : FS := fun ρ => match f ρ with
  | some d => .rt d ρ
  | none => .no
theorem retS_ {K : PySem.W.Frag} {hid : Hid} {ρ' : Rho} {σ : St} {H H' : Hp} {v : V} {d : D} (hk : k ≠ .b) (p : PostE K c hid k ρ' σ H H' v d) (h0 : ∀ b, c.hid₀ b = true → hid b = true) : Ret K c k ρ' H' v d := by
  cases k with
  | b => exact absurd rfl hk
  | s =>
    obtain ⟨_, sr, r⟩ := p
    refine ⟨sr.kp, r.mono (vw_less sr.h0), fun i bs e => ?_⟩
    obtain ⟨a, xs, z1, z2, z3, z4, z5⟩ := sr.sl i _ e
    refine ⟨a, xs, z4, z2, ?_⟩
    show Reps K (vw H' c.hid₀) xs bs
    exact z5.mono (vw_less sr.h0)
  | n =>
    obtain ⟨_, a, xs, ds, rfl, rfl, _, h1, h2, h3, sr, h5, h6⟩ := p
    have le : Same (vw H' (hadd hid a)) (vw H' (hadd c.hid₀ a)) := vw_less fun b q => by
      unfold hadd at q ⊢
      cases e : c.hid₀ b with
      | true => rw [h0 b e]; rfl
      | false => rw [e] at q; rw [Bool.or_eq_true]; right; simpa using q
    refine ⟨sr.kp, ⟨a, xs, ds, rfl, rfl, h2, h1, h5.mono le⟩, fun i bs e => ?_⟩
    obtain ⟨a', xs', z1, z2, z3, z4, z5⟩ := sr.sl i _ e
    exact ⟨a', xs', z4, z2, z5.mono le⟩
theorem ds_ret {f : FE} (he : DP X c k e f) (hk : k ≠ .b := by decide) : DS X c k (.Return (some e) pos) (retF f) := fun ρ => PS.imp (ps_ret (exPE fun hid => he hid ρ)) fun D σ H hq_ => by
  obtain ⟨hid, sr, q⟩ := hq_
  unfold retF at q
  cases e1 : f ρ with
  | none => rw [e1] at q; exact q.elim
  | some z => rw [e1] at q; exact ⟨hid, sr, _, e1, fun v H' s r => q v H' (retS_ hk (sr.post s r hk) sr.h0)⟩
def getO : Option Sl → Option (List D)
  | some (.own ds) => some ds
  | _ => none
def retO (i : Nat) : FS := fun ρ => match getO ρ[i]? with
  | some ds => .rt (.lst ds) ρ
  | none => .no
theorem getO_some {o : Option Sl} {ds : List D} (h : getO o = some ds) : o = some (.own ds) := by
  unfold getO at h
  split at h
  · cases h; rfl
  · cases h
theorem ds_retO (i : Nat) {x : Str} {pos' : Pos} (hN : X.N[i]? = some x := by rfl) (hv : Vis X.env.scope x := by first | exact Or.inl rfl | exact Or.inr (Or.inl rfl) | exact Or.inr (Or.inr rfl)) (hd : (x == ("__debug__" : Str)) = false := by decide)
    (hcd : (x == ("__classdict__" : Str)) = false := by decide) : DS X c .n (.Return (some (.Name x pos')) pos) (retO i) := fun ρ => PS.imp (ps_ret (pv i hN hv hd hcd)) fun D σ H hq_ => by
  obtain ⟨hid, sr, q⟩ := hq_
  unfold retO at q
  cases e0 : getO ρ[i]? with
  | none => rw [e0] at q; exact q.elim
  | some ds =>
    rw [e0] at q
    have e := getO_some e0
    obtain ⟨a, xs, z1, z2, z3, z4, z5⟩ := sr.sl i _ e
    have le : Same (vw H hid) (vw H (hadd c.hid₀ a)) := vw_less fun b w => by
      unfold hadd at w
      cases e : c.hid₀ b with
      | true => exact sr.h0 b e
      | false =>
        rw [e] at w
        have : b = a := by simpa using w
        rw [this]; exact z3
    refine ⟨_, z1, q _ H ⟨sr.kp, ⟨a, xs, ds, rfl, rfl, z4, z2, z5.mono le⟩, fun j bs e' => ?_⟩⟩
    obtain ⟨a', xs', w1, w2, w3, w4, w5⟩ := sr.sl j _ e'
    exact ⟨a', xs', w4, w2, w5.mono le⟩
end
end L2
set_option Elab.async false
set_option linter.all false
set_option maxRecDepth 100000
namespace L2
open PySem PySem.Spec PyProof.Rows
section
variable {K : PySem.W.Frag} {c : Ct} {hid : Hid} {ρ : Rho} {σ : St} {H H' : Hp} {i : Nat} {a : Addr} {v : V} {d : D}
theorem SR.setV (h : SR K c hid ρ σ H) (r : Rep K (vw H hid) v d) (i : Nat) : SR K c hid (ρ.set i (.v d)) (σ.set i (some v)) H := by
  refine ⟨h.tr, h.ht, h.h0, h.kp, h.t0, h.c0, h.m0, by simp [h.len], fun j s q => ?_, fun j l z n o1 o2 q1 q2 => ?_⟩
  · by_cases e : j = i
    · subst e
      have lt : j < ρ.length := by
        have := (List.getElem?_eq_some_iff.mp q).1
        simpa using this
      rw [List.getElem?_set_self lt] at q
      cases q
      exact ⟨v, List.getElem?_set_self (by rw [h.len]; exact lt), r⟩
    · rw [List.getElem?_set_ne (Ne.symm e)] at q
      have w := h.sl j s q
      have es : (σ.set i (some v))[j]? = σ[j]? := List.getElem?_set_ne (Ne.symm e)
      cases s with
      | no => trivial
      | v d => obtain ⟨x, h1, h2⟩ := w; exact ⟨x, es.trans h1, h2⟩
      | own ds => obtain ⟨a, xs, h1, h2⟩ := w; exact ⟨a, xs, es.trans h1, h2⟩
      | arg ds => obtain ⟨a, xs, h1, h2⟩ := w; exact ⟨a, xs, es.trans h1, h2⟩
      | ob b => obtain ⟨a, h1, h2⟩ := w; exact ⟨a, es.trans h1, h2⟩
  · have nj : ∀ m, Ow (ρ.set i (.v d))[m]? → m ≠ i := fun m o e => by
      subst e
      by_cases lt : m < ρ.length
      · rw [List.getElem?_set_self lt] at o; exact o
      · rw [List.getElem?_eq_none (by simpa using lt)] at o; exact o
    have e1 := nj j o1
    have e2 := nj l o2
    rw [List.getElem?_set_ne (Ne.symm e1)] at o1 q1
    rw [List.getElem?_set_ne (Ne.symm e2)] at o2 q2
    exact h.ap j l z n o1 o2 q1 q2
theorem SR.setO {xs : List V} {ds : List D} (h : SR K c hid ρ σ H) (ha : H a = some (.lst xs)) (hh : hid a = true) (h0 : c.H₀ a = none) (r : Reps K (vw H hid) xs ds) (no : ∀ i : Nat, Ow ρ[i]? → σ[i]? ≠ some (some (.ref a))) (i : Nat) :
    SR K c hid (ρ.set i (.own ds)) (σ.set i (some (.ref a))) H := by
  refine ⟨h.tr, h.ht, h.h0, h.kp, h.t0, h.c0, h.m0, by simp [h.len], fun j s q => ?_, fun j l z n o1 o2 q1 q2 => ?_⟩
  · by_cases e : j = i
    · subst e
      have lt : j < ρ.length := by
        have := (List.getElem?_eq_some_iff.mp q).1
        simpa using this
      rw [List.getElem?_set_self lt] at q
      cases q
      exact ⟨a, xs, List.getElem?_set_self (by rw [h.len]; exact lt), ha, hh, h0, r⟩
    · rw [List.getElem?_set_ne (Ne.symm e)] at q
      have w := h.sl j s q
      have es : (σ.set i (some (V.ref a)))[j]? = σ[j]? := List.getElem?_set_ne (Ne.symm e)
      cases s with
      | no => trivial
      | v d => obtain ⟨x, h1, h2⟩ := w; exact ⟨x, es.trans h1, h2⟩
      | own ds => obtain ⟨a, xs, h1, h2⟩ := w; exact ⟨a, xs, es.trans h1, h2⟩
      | arg ds => obtain ⟨a, xs, h1, h2⟩ := w; exact ⟨a, xs, es.trans h1, h2⟩
      | ob b => obtain ⟨a, h1, h2⟩ := w; exact ⟨a, es.trans h1, h2⟩
  · by_cases e1 : j = i
    · subst e1
      have e2 : l ≠ j := fun e => n e.symm
      rw [List.getElem?_set_ne (Ne.symm e2)] at o2 q2
      by_cases lt : j < σ.length
      · rw [List.getElem?_set_self lt] at q1; cases q1; exact no l o2 q2
      · rw [List.getElem?_eq_none (by simpa using lt)] at q1; cases q1
    · rw [List.getElem?_set_ne (Ne.symm e1)] at o1 q1
      by_cases e2 : l = i
      · subst e2
        by_cases lt : l < σ.length
        · rw [List.getElem?_set_self lt] at q2; cases q2; exact no j o1 q1
        · rw [List.getElem?_eq_none (by simpa using lt)] at q2; cases q2
      · rw [List.getElem?_set_ne (Ne.symm e2)] at o2 q2
        exact h.ap j l z n o1 o2 q1 q2
end
section
variable {X : Cx} {c : Ct} {k : Kd} {st : Stmt} {sts rest : List Stmt} {t u : FS} {e : Expr} {es : List Expr} {pos pos' : Pos} {x : Str} {i : Nat}
def setE (i : Nat) (f : GE) : FS := fun ρ => match f ρ with
  | some (d, ρ') => .nx (ρ'.set i (.v d))
  | none => .no
def setF (i : Nat) (f : FE) : FS := fun ρ => match f ρ with
  | some d => .nx (ρ.set i (.v d))
  | none => .no
def asL : D → Option (List D)
  | .lst ds => some ds
  | _ => none
def ownF (i : Nat) (f : FE) : FS := fun ρ => match f ρ with
  | some d => (match asL d with
    | some ds => .nx (ρ.set i (.own ds))
    | none => .no)
  | none => .no
theorem ds_setE (i : Nat) {f : GE} (hn : X.N.Nodup) (he : DE X c .s e f) (hi : X.N[i]? = some x := by rfl) (hx : Loc X.env.scope x := by first | exact Or.inl rfl | exact Or.inr rfl) (hs : swapsWith e (some (.Name x pos')) pos.line X.env = pure false := by rfl)
    (hf : X.fn x = true ∨ X.env.scope.names.lookup x = some .local := by first | exact .inl rfl | exact .inr rfl | assumption) : DS X c k (.Assign [.Name x pos'] e pos) (setE i f) := fun ρ => PS.imp (ps_set hn hi hx (exPE fun hid => he hid ρ) hs hf) fun D σ H hq_ => by
  obtain ⟨hid, sr, q⟩ := hq_
  unfold setE at q
  cases e1 : f ρ with
  | none => rw [e1] at q; exact q.elim
  | some z =>
    rw [e1] at q
    exact ⟨hid, sr, z.1, z.2, e1, fun v H' ⟨kp, s', r⟩ => q _ H' hid (s'.setV r i) kp.vw⟩
theorem ds_setF (i : Nat) {f : FE} (hn : X.N.Nodup) (he : DP X c .s e f) (hi : X.N[i]? = some x := by rfl) (hx : Loc X.env.scope x := by first | exact Or.inl rfl | exact Or.inr rfl) (hs : swapsWith e (some (.Name x pos')) pos.line X.env = pure false := by rfl)
    (hf : X.fn x = true ∨ X.env.scope.names.lookup x = some .local := by first | exact .inl rfl | exact .inr rfl | assumption) : DS X c k (.Assign [.Name x pos'] e pos) (setF i f) := fun ρ => PS.imp (ps_set hn hi hx (exPE fun hid => he hid ρ) hs hf) fun D σ H hq_ => by
  obtain ⟨hid, sr, q⟩ := hq_
  unfold setF at q
  cases e1 : f ρ with
  | none => rw [e1] at q; exact q.elim
  | some z =>
    rw [e1] at q
    exact ⟨hid, sr, z, e1, fun v H' s' r => q _ H' hid ((sr.ext s').setV r i) (vw_same s')⟩
theorem own_ {K : PySem.W.Frag} {hid : Hid} {ρ' : Rho} {σ : St} {H H' : Hp} {v : V} {d : D} {D : Ends} (p : PostE K c hid .n ρ' σ H H' v d) (q : EndOk K c k D (vw H hid) (match asL d with
    | some ds => .nx (ρ'.set i (.own ds))
    | none => .no)) : D.nx (σ.set i (some v)) H' := by
  obtain ⟨kp, a, xs, ds, rfl, rfl, hn, h1, h2, h3, h4, h5, h6⟩ := p
  refine q _ H' (hadd hid a) (h4.setO h1 hadd_self h2 h5 h6 i) fun b o w => ?_
  obtain ⟨w1, w2⟩ := vw_some.mp w
  refine vw_some.mpr ⟨?_, kp b o w2 w1⟩
  unfold hadd
  rw [w1]
  have : b ≠ a := ne_of_none w2 hn
  simp [this]
theorem ds_ownF (i : Nat) {f : FE} (hn : X.N.Nodup) (he : DP X c .n e f) (hi : X.N[i]? = some x := by rfl) (hx : Loc X.env.scope x := by first | exact Or.inl rfl | exact Or.inr rfl) (hs : swapsWith e (some (.Name x pos')) pos.line X.env = pure false := by rfl)
    (hf : X.fn x = true ∨ X.env.scope.names.lookup x = some .local := by first | exact .inl rfl | exact .inr rfl | assumption) : DS X c k (.Assign [.Name x pos'] e pos) (ownF i f) := fun ρ => PS.imp (ps_set hn hi hx (exPE fun hid => he hid ρ) hs hf) fun D σ H hq_ => by
  obtain ⟨hid, sr, q⟩ := hq_
  unfold ownF at q
  cases e1 : f ρ with
  | none => rw [e1] at q; exact q.elim
  | some z =>
    rw [e1] at q
    exact ⟨hid, sr, z, e1, fun v H' s r => own_ (sr.post s r (by decide)) q⟩
def frzF (i : Nat) (ρ : Rho) : Rho := match getO ρ[i]? with
  | some ds => ρ.set i (.v (.lst ds))
  | none => ρ
theorem SR.freeze {K : PySem.W.Frag} {hid : Hid} {ρ : Rho} {σ : St} {H : Hp} (h : SR K c hid ρ σ H) (i : Nat) : ∃ hid', SR K c hid' (frzF i ρ) σ H ∧ Same (vw H hid) (vw H hid') := by
  unfold frzF
  cases e0 : getO ρ[i]? with
  | none => exact ⟨hid, h, Same.refl _⟩
  | some ds =>
    have e := getO_some e0
    obtain ⟨a, xs, z1, z2, z3, z4, z5⟩ := h.sl i _ e
    have sm : Same (vw H hid) (vw H (hdel hid a)) := vw_less fun b w => by unfold hdel at w; rw [Bool.and_eq_true] at w; exact w.1
    have un : ∀ b, b ≠ a → hid b = true → hdel hid a b = true := fun b n w => by unfold hdel; rw [w]; simp [n]
    have na : c.hid₀ a = false := by
      cases q : c.hid₀ a with
      | false => rfl
      | true => obtain ⟨o, w⟩ := h.c0 a q; rw [z4] at w; cases w
    refine ⟨hdel hid a, ⟨fun b w => h.tr b (by unfold hdel at w; rw [Bool.and_eq_true] at w; exact w.1), fun b xs w => h.ht b xs (by unfold hdel at w; rw [Bool.and_eq_true] at w; exact w.1), fun b w => un b (fun e => by subst e; rw [na] at w; cases w) (h.h0 b w), h.kp, h.t0, h.c0, h.m0, by simp [h.len], fun j s q => ?_, fun j l z n o1 o2 q1 q2 => ?_⟩, sm⟩
    · by_cases ej : j = i
      · subst ej
        rw [List.getElem?_set_self (List.getElem?_eq_some_iff.mp e).1] at q
        cases q
        exact ⟨_, z1, .lst (vw_some.mpr ⟨by unfold hdel; simp, z2⟩) (z5.mono sm)⟩
      · rw [List.getElem?_set_ne (Ne.symm ej)] at q
        have w := h.sl j s q
        cases s with
        | no => trivial
        | v d => obtain ⟨x, h1, h2⟩ := w; exact ⟨x, h1, h2.mono sm⟩
        | own ds =>
          obtain ⟨a', xs, h1, h2, h3, h4, h5⟩ := w
          exact ⟨a', xs, h1, h2, un a' (fun e' => by subst e'; exact h.ap j i _ ej (by rw [q]; trivial) (by rw [e]; trivial) h1 z1) h3, h4, h5.mono sm⟩
        | arg ds =>
          obtain ⟨a', xs, h1, h2, h3, h4, h5⟩ := w
          exact ⟨a', xs, h1, h2, un a' (fun e' => by subst e'; exact h.ap j i _ ej (by rw [q]; trivial) (by rw [e]; trivial) h1 z1) h3, h4, h5.mono sm⟩
        | ob b =>
          obtain ⟨a', h1, h2⟩ := w
          exact ⟨a', h1, h2.mono (fun _ _ q => q) sm fun ow => un a' fun e' => by subst e'; exact h.ap j i _ ej (by rw [q]; exact ow) (by rw [e]; trivial) h1 z1⟩
    · have nj : ∀ m, Ow (ρ.set i (.v (.lst ds)))[m]? → m ≠ i := fun m o e' => by
        subst e'
        by_cases lt : m < ρ.length
        · rw [List.getElem?_set_self lt] at o; exact o
        · rw [List.getElem?_eq_none (by simpa using lt)] at o; exact o
      have e1 := nj j o1
      have e2 := nj l o2
      rw [List.getElem?_set_ne (Ne.symm e1)] at o1
      rw [List.getElem?_set_ne (Ne.symm e2)] at o2
      exact h.ap j l z n o1 o2 q1 q2
theorem ds_frz (i : Nat) (h : DS X c k st t) : DS X c k st (fun ρ => t (frzF i ρ)) := fun ρ => PS.imp (h (frzF i ρ)) fun D σ H hq_ => by
  obtain ⟨hid, sr, q⟩ := hq_
  obtain ⟨hid', sr', sm⟩ := sr.freeze i
  exact ⟨hid', sr', EndOk.mono q sm⟩
def dropE (f : GE) : FS := fun ρ => match f ρ with
  | some (_, ρ') => .nx ρ'
  | none => .no
theorem ds_expr {f : GE} (he : DE X c .s e f) (hs : swapsWith e none pos.line X.env = pure false := by rfl) : DS X c k (.Expr e pos) (dropE f) := fun ρ => PS.imp (ps_expr (exPE fun hid => he hid ρ) hs) fun D σ H hq_ => by
  obtain ⟨hid, sr, q⟩ := hq_
  unfold dropE at q
  cases e1 : f ρ with
  | none => rw [e1] at q; exact q.elim
  | some z =>
    rw [e1] at q
    exact ⟨hid, sr, z.1, z.2, e1, fun v H' ⟨kp, s', _⟩ => q _ H' hid s' kp.vw⟩
def MtD (K : PySem.W.Frag) (r : V → List V → Hp → VK → Prop) (n : Nat) (M : List D → List D → Option (D × List D)) : Prop := ∀ (H : Hp) (hid : Hid) (a : Addr) (xs us : List V) (bs ds bs' : List D) (d : D) (Q : VK), H a = some (.lst xs) → hid a = true → Reps K (vw H hid) xs bs → Reps K (vw H hid) us ds →
  ds.length = n → M bs ds = some (d, bs') → (∀ w xs', Reps K (vw H hid) xs' bs' → Rep K (vw H hid) w d → Q w (upd H a (.lst xs'))) → r (.ref a) us H Q
theorem meth_ {K : PySem.W.Frag} {r : V → List V → Hp → VK → Prop} {n : Nat} {M : List D → List D → Option (D × List D)} (hM : MtD K r n M) {hid : Hid} {ρ1 : Rho} {σ : St} {H H1 : Hp} {a : Addr} {us : List V} {bs ds bs' : List D} {d : D} {Q : VK} (k1 : Kept hid H H1) (s1 : SR K c hid ρ1 σ H1) (e2 : getB i ρ1 = some bs)
    (ha : σ[i]? = some (some (.ref a))) (r1 : Reps K (vw H1 hid) us ds) (hn : ds.length = n) (hm : M bs ds = some (d, bs')) (q : ∀ v H', PostE K c hid .s (setB i bs' ρ1) σ H H' v d → Q v H') : r (.ref a) us H1 Q := by
  obtain ⟨a', xs, b1, b2, b3, b4, b5⟩ := s1.held e2
  rw [ha] at b1; cases b1
  refine hM H1 hid a xs us bs ds bs' d Q b2 b3 b4 r1 hn hm fun w xs' rx rw' => q w _ ⟨k1.trans fun b o z hb => ?_, ?_, ?_⟩
  · rw [upd_ne (fun e => by subst e; rw [b3] at hb; cases hb)]; exact z
  · exact s1.put e2 ha (fun b o z hb => by rw [upd_ne hb]; exact z) upd_same (by rw [vw_upd b3]; exact rx)
  · rw [vw_upd b3]; exact rw'
variable {n : Nat} {M : List D → List D → Option (D × List D)} {fs : GA} {r : V → List V → Hp → VK → Prop} {y name : Str} {py apos : Pos} {id : String}
theorem de_meth (i : Nat) (hM : MtD X.K r n M) (hm : MtM X id r) (slot : Slot "list" name id) (hty : typeOf (.builtin id) = pure (.type "method_descriptor")) (ha : DG X c (e :: es) fs)
    (hN : X.N[i]? = some y := by rfl) (hv : Vis X.env.scope y := by first | exact Or.inl rfl | exact Or.inr (Or.inl rfl) | exact Or.inr (Or.inr rfl)) (hd : (y == ("__debug__" : Str)) = false := by decide) (hcd : (y == ("__classdict__" : Str)) = false := by decide)
    (hbase : attributeBase (.Name y py) name X.env (eval (.Name y py) X.env) = eval (.Name y py) X.env := by rfl)
    (hfew : ((backTo pos (starEach (e :: es) X.env)).all (fun x => !x.1) && (backToKw pos (keywordEach [] X.env)).all (fun x => x.1.isSome)
      && decide ((e :: es).length + ([] : List Keyword).length + (if ([] : List Keyword).isEmpty then 0 else 1) < 30)) = true := by rfl)
    (hline : (apos.endLine == pos.line) = true := by rfl) (hs : starEach (e :: es) X.env = (false, eval e X.env) :: starEach es X.env := by rfl) (hplain : (backTo pos (starEach es X.env)).any (·.1) = false := by rfl) :
    DE X c .s (.Call (.Attribute (.Name y py) name apos) (e :: es) [] pos) (callE i n M fs) := fun hid ρ =>
  PE.imp (pe_bm PySem.F.plainAttrs_list slot hty hm (pv i hN hv hd hcd) (ha hid ρ) hbase hfew hline hs hplain) fun σ H Q hq_ => by
    obtain ⟨sr, d, ρ', hd', q⟩ := hq_
    obtain ⟨bs0, ds, ρ1, bs, bs', e0, e1, e2, e3, e4, rfl⟩ := callE_some hd'
    obtain ⟨a, xs0, a1, a2, a3, _, _⟩ := sr.held e0
    exact ⟨.ref a, a1, .inl ⟨rfl, _, SqL.of a2⟩, sr, ds, ρ1, e1, fun us H1 k1 s1 r1 => meth_ hM k1 s1 e2 a1 r1 e3 e4 q⟩
end
section
variable {K : PySem.W.Frag}
def appM : List D → List D → Option (D × List D) := fun bs ds => match ds with
  | [d] => if bs.length < sizeLine then some (.non, bs ++ [d]) else none
  | _ => none
theorem md_append : MtD K rAppend 1 appM := by
  intro H hid a xs us bs ds bs' d Q h1 h2 h3 h4 h5 h6 q
  unfold appM at h6
  split at h6
  · split at h6
    · cases h6
      cases h4 with
      | cons r t =>
        cases t
        exact ⟨a, xs, _, rfl, rfl, h1, by rw [h3.length]; assumption, q _ _ (h3.append (.cons r .nil)) .non⟩
    · cases h6
  · cases h6
end
end L2
set_option Elab.async false
set_option linter.all false
set_option maxRecDepth 100000
namespace L2
open PySem PySem.Spec PyProof.Rows
abbrev FG := D → Rho → Option Rho
abbrev FGs := List D → Rho → Option Rho
def OwK (ρ ρ' : Rho) (σ σ' : St) : Prop := ∀ i : Nat, Ow ρ'[i]? → Ow ρ[i]? ∧ σ'[i]? = σ[i]?
theorem OwK.trans {ρ ρ1 ρ2 : Rho} {σ σ1 σ2 : St} (a : OwK ρ ρ1 σ σ1) (b : OwK ρ1 ρ2 σ1 σ2) : OwK ρ ρ2 σ σ2 := fun i o => ⟨(a i (b i o).1).1, (b i o).2.trans (a i (b i o).1).2⟩
def rdGt (K : PySem.W.Frag) (c : Ct) (hid : Hid) (g : FG) (ρ : Rho) (d : D) : TG := fun v σ H Q => SR K c hid ρ σ H ∧ Rep K (vw H hid) v d ∧ ∃ ρ', g d ρ = some ρ' ∧ ∀ σ' , SR K c hid ρ' σ' H → OwK ρ ρ' σ σ' → Q σ' H
def DGt (X : Cx) (c : Ct) (tg : Expr) (g : FG) : Prop := ∀ hid ρ d, PG X tg (rdGt X.K c hid g ρ d)
def rdGs (K : PySem.W.Frag) (c : Ct) (hid : Hid) (g : FGs) (ρ : Rho) (d : List D) : TGs := fun v σ H Q => SR K c hid ρ σ H ∧ Reps K (vw H hid) v d ∧ ∃ ρ', g d ρ = some ρ' ∧ ∀ σ' , SR K c hid ρ' σ' H → OwK ρ ρ' σ σ' → Q σ' H
def DGs (X : Cx) (c : Ct) (tg : List Expr) (g : FGs) : Prop := ∀ hid ρ d, PGs X tg (rdGs X.K c hid g ρ d)
theorem PG.imp {X : Cx} {e : Expr} {t t' : TG} (h : PG X e t) (i : ∀ v σ H Q, t' v σ H Q → t v σ H Q) : PG X e t' := fun pins s σ H v u Q I r q => h pins s σ H v u Q I r (i v σ H Q q)
theorem PGs.imp {X : Cx} {e : List Expr} {t t' : TGs} (h : PGs X e t) (i : ∀ v σ H Q, t' v σ H Q → t v σ H Q) : PGs X e t' := fun pins s σ H v u Q I r q => h pins s σ H v u Q I r (i v σ H Q q)
theorem exPG {X : Cx} {e : Expr} {α : Type} {t : α → TG} (h : ∀ z, PG X e (t z)) : PG X e (fun v σ H Q => ∃ z, t z v σ H Q) := fun pins s σ H v u Q I r ⟨z, q⟩ => h z pins s σ H v u Q I r q
theorem exPGs {X : Cx} {e : List Expr} {α : Type} {t : α → TGs} (h : ∀ z, PGs X e (t z)) : PGs X e (fun v σ H Q => ∃ z, t z v σ H Q) := fun pins s σ H v u Q I r ⟨z, q⟩ => h z pins s σ H v u Q I r q
section
variable {X : Cx} {c : Ct} {k : Kd} {st : Stmt} {sts body : List Stmt} {t u : FS} {e tg iter : Expr} {es : List Expr} {pos pos' : Pos} {x : Str} {i : Nat}
def gN (i : Nat) : FG := fun d ρ => some (ρ.set i (.v d))
theorem dgt_name (i : Nat) (hn : X.N.Nodup) (hi : X.N[i]? = some x := by rfl) (hx : Loc X.env.scope x := by first | exact Or.inl rfl | exact Or.inr rfl) (hf : X.fn x = true ∨ X.env.scope.names.lookup x = some .local := by first | exact .inl rfl | exact .inr rfl | assumption) :
    DGt X c (.Name x pos) (gN i) := fun hid ρ d => PG.imp (pg_name (i := i) hn hi hx hf) fun v σ H Q hq_ => by
  obtain ⟨sr, r, ρ', e, q⟩ := hq_
  cases e
  refine q _ (sr.setV r i) fun j o => ?_
  have ne : j ≠ i := fun e => by
    subst e
    by_cases lt : j < ρ.length
    · rw [List.getElem?_set_self lt] at o; exact o
    · rw [List.getElem?_eq_none (by simpa using lt)] at o; exact o
  rw [List.getElem?_set_ne (Ne.symm ne)] at o ⊢
  exact ⟨o, rfl⟩
def gsN : FGs := fun ds ρ => match ds with
  | [] => some ρ
  | _ => none
def gsC (g : FG) (gs : FGs) : FGs := fun ds ρ => match ds with
  | [] => none
  | d :: r => (g d ρ).bind fun ρ' => gs r ρ'
theorem dgs_nil : DGs X c [] gsN := fun hid ρ d => PGs.imp pgs_nil fun v σ H Q hq_ => by
  obtain ⟨sr, r, ρ', e, q⟩ := hq_
  unfold gsN at e
  split at e
  · cases e; cases r; exact ⟨rfl, q σ sr fun i o => ⟨o, rfl⟩⟩
  · cases e
theorem dgs_cons {g : FG} {gs : FGs} (h1 : DGt X c e g) (h2 : DGs X c es gs) (hs : (assignEach (e :: es) X.env).map (·.2) = assign e X.env :: (assignEach es X.env).map (·.2) := by rfl) : DGs X c (e :: es) (gsC g gs) := fun hid ρ d =>
  PGs.imp (pgs_cons (exPG fun d => h1 hid ρ d) (exPGs fun z : Rho × List D => h2 hid z.1 z.2) hs) fun v σ H Q hq_ => by
    obtain ⟨sr, r, ρ', e, q⟩ := hq_
    cases d with
    | nil => cases e
    | cons d1 ds =>
      cases r with
      | cons r1 r2 =>
        have e : (g d1 ρ).bind (fun ρ' => gs ds ρ') = some ρ' := e
        cases e1 : g d1 ρ with
        | none => rw [e1] at e; cases e
        | some ρ1 =>
          rw [e1] at e
          exact ⟨_, _, rfl, d1, sr, r1, ρ1, e1, fun σ1 s1 o1 => ⟨(ρ1, ds), s1, r2, ρ', e, fun σ2 s2 o2 => q σ2 s2 (o1.trans o2)⟩⟩
def gT (n : Nat) (gs : FGs) : FG := fun d ρ => match d with
  | .tup ds => if ds.length = n then gs ds ρ else none
  | _ => none
theorem dgt_tup {gs : FGs} {kk n : Nat} (hc : X.calm = true) (h : DGs X c es gs) (hn : (assignEach es X.env).length = n := by rfl) (hst : (assignEach es X.env).findIdx? (·.1) = none := by rfl) : DGt X c (.Tuple es kk pos) (gT n gs) := fun hid ρ d =>
  PG.imp (pg_tup hc (exPGs fun ds => h hid ρ ds) hn hst) fun v σ H Q hq_ => by
    obtain ⟨sr, r, ρ', e, q⟩ := hq_
    unfold gT at e
    split at e
    · split at e
      · cases r with
        | tup h1 h2 => exact ⟨_, _, rfl, Same.seqT (vw_le _ _) h1, by rw [h2.length]; assumption, _, sr, h2, ρ', e, q⟩
      · cases e
    · cases e
def outO : Option Rho → Out
  | some ρ => .nx ρ
  | none => .no
def asgE (g : FG) (f : GE) : FS := fun ρ => match f ρ with
  | some z => outO (g z.1 z.2)
  | none => .no
def setIx (i : Nat) (fi : FE) (d : D) (ρ : Rho) : Option Rho := match getB i ρ with
  | some bs => (match fi ρ with
    | some (.int j) => (match ixN bs.length j with
      | some m => some (setB i (bs.set m d) ρ)
      | none => none)
    | _ => none)
  | none => none
theorem setIx_some {fi : FE} {d : D} {ρ ρ' : Rho} (h : setIx i fi d ρ = some ρ') : ∃ bs j m, getB i ρ = some bs ∧ fi ρ = some (.int j) ∧ ixN bs.length j = some m ∧ ρ' = setB i (bs.set m d) ρ := by
  unfold setIx at h
  split at h
  · split at h
    · split at h
      · cases h; exact ⟨_, _, _, ‹_›, ‹_›, ‹_›, rfl⟩
      · cases h
    · cases h
  · cases h
def rdHt (K : PySem.W.Frag) (c : Ct) (hid : Hid) (g : FG) (ρ : Rho) (d : D) : TG := fun v σ H Q => SR K c hid ρ σ H ∧ Rep K (vw H hid) v d ∧ ∃ ρ', g d ρ = some ρ' ∧ ∀ H' , Kept hid H H' → SR K c hid ρ' σ H' → Q σ H'
def DHt (X : Cx) (c : Ct) (tg : Expr) (g : FG) : Prop := ∀ hid ρ d, PG X tg (rdHt X.K c hid g ρ d)
theorem dht_sub (i : Nat) {y : Str} {py : Pos} {ix : Expr} {fi : FE} {k1 : Kd} (hi : DP X c k1 ix fi) (hN : X.N[i]? = some y := by rfl) (hv : Vis X.env.scope y := by first | exact Or.inl rfl | exact Or.inr (Or.inl rfl) | exact Or.inr (Or.inr rfl)) (hd : (y == ("__debug__" : Str)) = false := by decide) (hcd : (y == ("__classdict__" : Str)) = false := by decide)
    (ha : ∀ v, assign (.Subscript (.Name y py) ix pos) X.env v = (do
      let ov ← holding [v] (eval (.Name y py) X.env)
      let iv ← holding [v, ov] (eval ix X.env)
      standAt pos
      holding [v, ov, iv] (setItem ov iv v)
      release [v, ov, iv] []) := by intro _; rfl) : DHt X c (.Subscript (.Name y py) ix pos) (setIx i fi) := fun hid ρ d =>
  PG.imp (pg_sub (pv i hN hv hd hcd) (hi hid ρ) set_list ha) fun v σ H Q hq_ => by
    obtain ⟨sr, r, ρ', e, q⟩ := hq_
    obtain ⟨bs, j, m, e1, e2, e3, rfl⟩ := setIx_some e
    obtain ⟨a, xs, a1, a2, a3, a4, a5⟩ := sr.held e1
    refine ⟨.ref a, a1, sr, _, e2, fun w H1 s1 r1 => ?_⟩
    have b1 := (RK.b k1 r1 fun a n => sr.fresh n).int
    cases b1
    have a4' := a4.mono (vw_same (hid := hid) s1)
    refine ⟨a, xs, j, m, rfl, rfl, s1 _ _ a2, by rw [a4.length]; exact e3, q _ (fun b o z hb => ?_) ?_⟩
    · rw [upd_ne (fun e => by subst e; rw [a3] at hb; cases hb)]; exact s1 _ _ z
    · exact (sr.ext s1).put e1 a1 (fun b o z hb => by rw [upd_ne hb]; exact z) upd_same (by rw [vw_upd a3]; exact Reps.set (r.mono (vw_same s1)) m a4')
theorem ds_put {g : FG} {f : GE} (he : DE X c .s e f) (hg : DHt X c tg g) (hs : swapsWithSole [tg] e pos.line X.env = pure false := by rfl) (hw : swappedStores [tg] e X.env = pure none := by rfl)
    (h1 : (assignEach [tg] X.env).map (·.2) = [assign tg X.env] := by rfl) : DS X c k (.Assign [tg] e pos) (asgE g f) := fun ρ =>
  PS.imp (ps_asg (exPE fun hid => he hid ρ) (exPG fun z : Hid × Rho × D => hg z.1 z.2.1 z.2.2) hs hw h1) fun D σ H hq_ => by
    obtain ⟨hid, sr, q⟩ := hq_
    unfold asgE at q
    cases e1 : f ρ with
    | none => rw [e1] at q; exact q.elim
    | some z =>
      rw [e1] at q
      cases e2 : g z.1 z.2 with
      | none => dsimp only at q; rw [e2] at q; exact q.elim
      | some ρ2 =>
        dsimp only at q; rw [e2] at q
        exact ⟨hid, sr, z.1, z.2, e1, fun v H' ⟨kp, s', r⟩ => ⟨(hid, z.2, z.1), s', r, ρ2, e2, fun H2 k2 s2 => q σ H2 hid s2 (kp.trans k2).vw⟩⟩
def ItOk (K : PySem.W.Frag) (W : Hp) (J : It) (ds : List D) : Prop :=
  (∀ (i : Nat) (d : D) (H : Hp), ds[i]? = some d → Same W H → J.go i H ∧ ∀ x H', J.yld i H x H' → Same H H' ∧ ∀ hid : Hid, (∀ b, hid b = true → ∃ o, H b = some o) → Same W (vw H hid) → Rep K (vw H' hid) x d) ∧ ∀ H, Same W H → J.stop ds.length H
def rdI (K : PySem.W.Frag) (c : Ct) (hid : Hid) (f : GA) (ρ : Rho) : TI := fun σ H R => SR K c hid ρ σ H ∧ ∃ ds ρ', f ρ = some (ds, ρ') ∧ ∀ J H', Kept hid H H' → SR K c hid ρ' σ H' → ItOk K (vw H' hid) J ds → R J H'
def DI (X : Cx) (c : Ct) (tg iter : Expr) (f : GA) : Prop := ∀ hid ρ, PI X tg iter (rdI X.K c hid f ρ)
theorem PI.imp {t t' : TI} (h : PI X tg iter t) (i : ∀ σ H Q, t' σ H Q → t σ H Q) : PI X tg iter t' := fun pins s σ H R I q => h pins s σ H R I (i σ H R q)
theorem exPI {α : Type} {t : α → TI} (h : ∀ z, PI X tg iter (t z)) : PI X tg iter (fun σ H R => ∃ z, t z σ H R) := fun pins s σ H R I ⟨z, q⟩ => h z pins s σ H R I q
theorem itok_tup {K : PySem.W.Frag} {W : Hp} {a : Addr} {xs : List V} {ds : List D} (h : SqT K W a xs) (r : Reps K W xs ds) : ItOk K W (Itt K a) ds := by
  refine ⟨fun i d H e s => ?_, fun H s => ⟨xs, Same.seqT s h, by rw [r.length]; exact Nat.le_refl _⟩⟩
  obtain ⟨x, e1, r1⟩ := r.get e
  refine ⟨⟨xs, x, Same.seqT s h, e1⟩, fun y H' ⟨e2, e3⟩ => ?_⟩
  subst e2
  have := e3 xs (Same.seqT s h)
  rw [e1] at this; cases this
  exact ⟨Same.refl _, fun hid _ sw => r1.mono sw⟩
def ups (lo : Int) (n : Nat) : List D := (List.range n).map fun (i : Nat) => D.int (lo + i)
theorem itok_range {K : PySem.W.Frag} {W : Hp} {lo : Int} {n : Nat} : ItOk K W (Itr lo n) (ups lo n) := by
  refine ⟨fun i d H e s => ?_, fun H s => by show n ≤ (ups lo n).length; simp [ups]⟩
  unfold ups at e
  rw [List.getElem?_map] at e
  cases e1 : (List.range n)[i]? with
  | none => rw [e1] at e; cases e
  | some j =>
    rw [e1] at e
    obtain ⟨h1, h2⟩ := List.getElem?_eq_some_iff.mp e1
    simp at h1 h2
    subst h2
    cases e
    refine ⟨h1, fun y H' ⟨e2, e3⟩ => ?_⟩
    subst e2 e3
    exact ⟨Same.refl _, fun hid _ sw => .int⟩
def rng1 (f : GA) : GA := fun ρ => match f ρ with
  | some ([.int j], ρ') => if j.natAbs < 4000000000 then some (ups 0 j.toNat, ρ') else none
  | _ => none
theorem di_range1 {a : Expr} {f : GA} {p : Pos} (hm : X.mg "range" = none) (ha : DG X c [a] f) (hg : Gl X "range" := by rfl) (hs : starEach [a] X.env = [(false, eval a X.env)] := by rfl) : DI X c tg (.Call (.Name "range" p) [a] [] pos) (rng1 f) := fun hid ρ =>
  PI.imp (pi_range1 hg hm (ha hid ρ) hs) fun σ H R hq_ => by
    obtain ⟨sr, ds, ρ', e, q⟩ := hq_
    unfold rng1 at e
    split at e
    · split at e
      · cases e
        refine ⟨sr, _, _, ‹_›, fun vs H' kp s' r => ?_⟩
        cases r with
        | cons r t => cases t; cases r; exact ⟨_, rfl, by omega, by omega, q _ H' kp s' itok_range⟩
      · cases e
    · cases e
def forL (g : FG) (b : FS) : List D → FS
  | [], ρ => .nx ρ
  | d :: r, ρ => match g d ρ with
    | none => .no
    | some ρ1 => match b ρ1 with
      | .nx ρ2 => forL g b r ρ2
      | .ct ρ2 => forL g b r ρ2
      | .bk ρ2 => .nx ρ2
      | .rt d ρ2 => .rt d ρ2
      | .no => .no
def forS (f : GA) (g : FG) (b : FS) : FS := fun ρ => match f ρ with
  | some (ds, ρ') => forL g b ds ρ'
  | none => .no
theorem ds_for {f : GA} {g : FG} {tb : FS} (hp : PassesOwn (model X.prog X.w) X.A X.env X.xe) (hc : X.calm = true) (hi : DI X c tg iter f) (hg : DGt X c tg g) (hb : DSs X c k body tb)
    (hs : ∀ x, foldedSetIterable iter X.env x = pure x := by intro _; rfl) : DS X c k (.For tg iter body [] pos) (forS f g tb) := fun ρ =>
  PS.imp (ps_for hp hc (exPI fun hid => hi hid ρ) (exPG fun z : Hid × Rho × D => hg z.1 z.2.1 z.2.2) (exPSs fun ρ => hb ρ) hs) fun D σ H hq_ => by
    obtain ⟨hid, sr, q⟩ := hq_
    unfold forS at q
    cases e1 : f ρ with
    | none => rw [e1] at q; exact q.elim
    | some z =>
      obtain ⟨ds, ρ0⟩ := z
      rw [e1] at q
      have q' : EndOk X.K c k D (vw H hid) (forL g tb ds ρ0) := q
      refine ⟨hid, sr, ds, ρ0, e1, fun J H1 kp s1 it => ?_⟩
      refine ⟨fun i m σ H => m = ds.length - i ∧ i ≤ ds.length ∧ ∃ hid2 ρ2, SR X.K c hid2 ρ2 σ H ∧ Same (vw H1 hid) (vw H hid2) ∧ EndOk X.K c k D (vw H hid2) (forL g tb (ds.drop i) ρ2), ⟨ds.length, by simp, Nat.zero_le _, hid, ρ0, s1, Same.refl _, EndOk.mono q' kp.vw⟩, ?_⟩
      rintro i m σ2 H2 ⟨rfl, hi', hid2, ρ2, s2, w2, q2⟩
      have wH : Same (vw H1 hid) H2 := w2.trans (vw_le _ _)
      by_cases hlt : i < ds.length
      · have hd : ds[i]? = some ds[i] := List.getElem?_eq_getElem hlt
        have e2 : ds.drop i = ds[i] :: ds.drop (i + 1) := List.drop_eq_getElem_cons hlt
        rw [e2] at q2
        unfold forL at q2
        obtain ⟨go, yl⟩ := it.1 i ds[i] H2 hd wH
        refine .inr ⟨go, fun σ' H' => ∃ hid3 ρ3, SR X.K c hid3 ρ3 σ' H' ∧ Same (vw H1 hid) (vw H' hid3) ∧ EndOk X.K c k D (vw H' hid3) (forL g tb (ds.drop (i + 1)) ρ3), fun σ' H' n3 => ⟨ds.length - (i + 1), by omega, rfl, hlt, n3⟩, fun x H3 y => ?_⟩
        obtain ⟨s3, rp⟩ := yl x H3 y
        have rx := rp hid2 s2.tr w2
        cases e3 : g ds[i] ρ2 with
        | none => rw [e3] at q2; exact q2.elim
        | some ρ3 =>
          rw [e3] at q2
          refine ⟨(hid2, ρ2, ds[i]), s2.ext s3, rx, ρ3, e3, fun σ4 s4 _ => ⟨ρ3, hid2, s4, ?_⟩⟩
          have w3 : Same (vw H2 hid2) (vw H3 hid2) := vw_same s3
          dsimp only at q2
          cases e4 : tb ρ3 with
          | nx ρ5 => rw [e4] at q2; exact fun σ' H' hid' z w => ⟨hid', ρ5, z, (w2.trans w3).trans w, EndOk.mono q2 (w3.trans w)⟩
          | ct ρ5 => rw [e4] at q2; exact fun σ' H' hid' z w => ⟨hid', ρ5, z, (w2.trans w3).trans w, EndOk.mono q2 (w3.trans w)⟩
          | bk ρ5 => rw [e4] at q2; exact fun σ' H' hid' z w => q2 σ' H' hid' z (w3.trans w)
          | rt d ρ5 => rw [e4] at q2; exact q2
          | no => rw [e4] at q2; exact q2.elim
      · have e : i = ds.length := by omega
        subst e
        rw [List.drop_eq_nil_of_le (Nat.le_refl _)] at q2
        exact .inl ⟨it.2 H2 wH, q2 σ2 H2 hid2 s2 (Same.refl _)⟩
end
end L2
set_option Elab.async false
set_option linter.all false
set_option maxRecDepth 100000
namespace L2
open PySem PySem.Spec PyProof.Rows
def rho0 (n : Nat) (ds : List D) : Rho := ds.map Sl.v ++ List.replicate (n - ds.length) .no
def fnP (kd : Kd) (n : Nat) (t : FS) (ds : List D) : Option D := match t (rho0 n ds) with
  | .rt d _ => some d
  | .nx _ => (match kd with
    | .n => none
    | _ => some .non)
  | _ => none
def rhoE (n : Nat) (bs ds : List D) : Rho := .arg bs :: (ds.map Sl.v ++ List.replicate (n - 1 - ds.length) .no)
def arg0 : Rho → Option (List D)
  | .arg bs :: _ => some bs
  | _ => none
def fnE (kd : Kd) (n : Nat) (t : FS) (bs ds : List D) : Option (D × List D) := match t (rhoE n bs ds) with
  | .rt d ρ => (arg0 ρ).map fun b => (d, b)
  | .nx ρ => (match kd with
    | .n => none
    | _ => (arg0 ρ).map fun b => (.non, b))
  | _ => none
theorem slots0 {K : PySem.W.Frag} {c : Ct} {hid : Hid} {H : Hp} (m : Nat) : ∀ {vs : List V} {ds : List D}, Reps K (vw H hid) vs ds → ∀ (i : Nat) (s : Sl), (ds.map Sl.v ++ List.replicate m .no)[i]? = some s → SlOk K c hid (vs.map some ++ List.replicate m none) H i s := by
  intro vs ds r i s e
  have hl := r.length
  by_cases hi : i < ds.length
  · rw [List.getElem?_append_left (by simpa using hi), List.getElem?_map] at e
    have e2 : ds[i]? = some ds[i] := List.getElem?_eq_getElem hi
    rw [e2] at e
    cases e
    obtain ⟨x, h1, h2⟩ := r.get e2
    exact ⟨x, by rw [List.getElem?_append_left (by simp; omega), List.getElem?_map, h1]; rfl, h2⟩
  · rw [List.getElem?_append_right (by simpa using hi), List.getElem?_replicate] at e
    split at e
    · cases e; trivial
    · cases e
theorem noOw {ds : List D} {m i : Nat} : ¬ Ow (ds.map Sl.v ++ List.replicate m Sl.no)[i]? := fun o => by
  by_cases hi : i < ds.length
  · rw [List.getElem?_append_left (by simpa using hi), List.getElem?_map, List.getElem?_eq_getElem hi] at o
    exact o
  · rw [List.getElem?_append_right (by simpa using hi), List.getElem?_replicate] at o
    split at o <;> exact o
theorem SR.begins {K : PySem.W.Frag} {hid : Hid} {H : Hp} {N : List Str} {vs : List V} {ds : List D} (tr : Trk hid H) (r : Reps K (vw H hid) vs ds) : SR K ⟨H, hid, fun _ => false⟩ hid (rho0 N.length ds) (start N vs) H := by
  have hl := r.length
  unfold start rho0
  rw [hl]
  exact ⟨tr.1, tr.2, fun _ h => h, fun _ _ h _ => h, fun b o h => ⟨o, h⟩, tr.1, (fun _ h => nomatch h), by simp [hl], fun i s e => slots0 _ r i s e, fun i j a _ o => absurd o noOw⟩
section
variable {P : Program} {w : World} {K : PySem.W.Frag} {mg : Str → Option Value} {base : Heap} {x qual : Str} {st : Stmt} {f : Addr} {fd : FuncData} {N ps : List Str} {k : Nat} {t : FS} {kd : Kd}
theorem fn_pure (F : Fun K x qual st f fd) (S : FnScope N ps (defScope st)) (hkd : kd ≠ .b)
    (body : ∀ (cdv : Value) (A : Around) (outer : List Env) (s : Shared) (H : Hp) (hid : Hid) (E : XK), Room k (A.deeper (envOfC qual (defScope st) s.heap.objs.size f cdv)) →
      DSs (cxOf CX0 P w K mg base N qual (defScope st) f cdv A outer s H E).nox ⟨H, hid, fun _ => false⟩ kd (defBody st) t) :
    FnOk P w K mg base CX0 (k + 1) f fd ps (spP K kd ps.length (fnP kd N.length t)) := by
  refine F.ok S (fun vs H Q E h => ?_) (fun cdv A outer s H vs Q E hr h => ?_)
  · obtain ⟨hid, ds, _, r, hl, _⟩ := h
    rw [r.length, hl]
  · obtain ⟨hid, ds, tr, r, hl, d, hP, q⟩ := h
    refine ⟨_, body cdv A outer s H hid E hr (rho0 N.length ds), hid, SR.begins tr r, ?_⟩
    unfold fnP at hP
    cases e : t (rho0 N.length ds) with
    | nx ρ =>
      rw [e] at hP
      intro σ' H' hid' sr _
      have sm : Same H H' := fun b o z => sr.kp b o z rfl
      cases kd with
      | b => exact absurd rfl hkd
      | s => cases hP; exact q _ H' sm .non
      | n => cases hP
    | rt d' ρ =>
      rw [e] at hP
      cases hP
      intro v H' R
      have sm : Same H H' := fun b o z => R.kp b o z rfl
      cases kd with
      | b => exact absurd rfl hkd
      | s => exact q v H' sm R.val
      | n => exact q v H' sm R.val
    | bk ρ => rw [e] at hP; cases hP
    | ct ρ => rw [e] at hP; cases hP
    | no => rw [e] at hP; cases hP
theorem SR.beginsE {hid : Hid} {H : Hp} {a : Addr} {xs us : List V} {bs ds : List D} (tr : Trk hid H) (ha : hid a = true) (hx : H a = some (.lst xs)) (rb : Reps K (vw H hid) xs bs) (r : Reps K (vw H hid) us ds) (hN : 0 < N.length) :
    SR K ⟨H, hid, fun b => decide (b = a)⟩ hid (rhoE N.length bs ds) (start N (.ref a :: us)) H := by
  have hl := r.length
  have es : start N (.ref a :: us) = some (V.ref a) :: (us.map some ++ List.replicate (N.length - 1 - ds.length) none) := by
    unfold start
    rw [List.map_cons, List.cons_append, List.length_cons, hl]
    congr 3
    omega
  rw [es]
  unfold rhoE
  refine ⟨tr.1, tr.2, fun _ h => h, fun _ _ h _ => h, fun b o h => ⟨o, h⟩, tr.1, fun b h => ?_, by simp [hl], fun i s e => ?_, fun i j z n o1 o2 q1 q2 => ?_⟩
  · have : b = a := by simpa using h
    rw [this]; exact ha
  · cases i with
    | zero =>
      cases e
      exact ⟨a, xs, rfl, hx, ha, by simp, rb⟩
    | succ i =>
      have z := slots0 (c := ⟨H, hid, fun b => decide (b = a)⟩) (N.length - 1 - ds.length) r i s (by simpa using e)
      cases s with
      | no => trivial
      | v d => obtain ⟨x, h1, h2⟩ := z; exact ⟨x, by simpa using h1, h2⟩
      | own ds => obtain ⟨x, xs, h1, h2⟩ := z; exact ⟨x, xs, by simpa using h1, h2⟩
      | arg ds => obtain ⟨x, xs, h1, h2⟩ := z; exact ⟨x, xs, by simpa using h1, h2⟩
      | ob b => obtain ⟨x, h1, h2⟩ := z; exact ⟨x, by simpa using h1, h2⟩
  · cases i with
    | zero =>
      cases j with
      | zero => exact n rfl
      | succ j => exact noOw (by simpa using o2)
    | succ i => exact noOw (by simpa using o1)
theorem arg0_some {ρ : Rho} {b : List D} (h : arg0 ρ = some b) : ρ[0]? = some (.arg b) := by
  unfold arg0 at h
  split at h
  · cases h; rfl
  · cases h
theorem fn_eff {n : Nat} (F : Fun K x qual st f fd) (S : FnScope N ps (defScope st)) (hkd : kd ≠ .b) (hn : ps.length = n + 1)
    (body : ∀ (cdv : Value) (A : Around) (outer : List Env) (s : Shared) (H : Hp) (hid : Hid) (a : Addr) (E : XK), Room k (A.deeper (envOfC qual (defScope st) s.heap.objs.size f cdv)) →
      DSs (cxOf CX0 P w K mg base N qual (defScope st) f cdv A outer s H E).nox ⟨H, hid, fun b => decide (b = a)⟩ kd (defBody st) t) :
    FnOk P w K mg base CX0 (k + 1) f fd ps (spE K kd n (fnE kd N.length t)) := by
  refine F.ok S (fun vs H Q E h => ?_) (fun cdv A outer s H vs Q E hr h => ?_)
  · obtain ⟨hid, a, xs, bs, us, ds, rfl, _, _, _, _, r, hl, _⟩ := h
    rw [List.length_cons, r.length, hl, hn]
  · obtain ⟨hid, a, xs, bs, us, ds, rfl, tr, ha, hx, rb, r, hl, d, bs', hM, q⟩ := h
    have hN : 0 < N.length := by have := congrArg List.length S.pre; rw [List.length_take] at this; omega
    refine ⟨_, body cdv A outer s H hid a E hr (rhoE N.length bs ds), hid, SR.beginsE tr ha hx rb r hN, ?_⟩
    have fin : ∀ (v : V) (H' : Hp) (ρ : Rho) (d : D), Ret K ⟨H, hid, fun b => decide (b = a)⟩ kd ρ H' v d → arg0 ρ = some bs' → (∀ v H' xs', (∀ b o, H b = some o → b ≠ a → H' b = some o) → H' a = some (.lst xs') → EndE K kd hid H H' v d xs' bs' → Q v H') → Q v H' := by
      intro v H' ρ d R h0 q
      obtain ⟨a', xs', m1, m2, m3⟩ := R.arg 0 _ (arg0_some h0)
      have : a' = a := by simpa using m1
      subst this
      refine q v H' xs' (fun b o z n => R.kp b o z (by simpa using n)) m2 ?_
      cases kd with
      | b => exact absurd rfl hkd
      | s => exact ⟨R.val, m3⟩
      | n =>
        obtain ⟨p, ys, es, rfl, rfl, h1, h2, h3⟩ := R.val
        exact ⟨p, ys, es, rfl, rfl, h1, h2, h3, m3⟩
    unfold fnE at hM
    cases e : t (rhoE N.length bs ds) with
    | nx ρ =>
      rw [e] at hM
      intro σ' H' hid' sr _
      cases kd with
      | b => exact absurd rfl hkd
      | s =>
        dsimp only at hM
        cases e0 : arg0 ρ with
        | none => rw [e0] at hM; cases hM
        | some b =>
          rw [e0] at hM; cases hM
          exact fin .non H' ρ .non (retS_ (k := .s) (by decide) (sr.post (k := .s) (Same.refl _) .non (by decide)) sr.h0) e0 q
      | n => cases hM
    | rt d' ρ =>
      rw [e] at hM
      dsimp only at hM
      cases e0 : arg0 ρ with
      | none => rw [e0] at hM; cases hM
      | some b =>
        rw [e0] at hM; cases hM
        intro v H' R
        exact fin v H' ρ _ R e0 q
    | bk ρ => rw [e] at hM; cases hM
    | ct ρ => rw [e] at hM; cases hM
    | no => rw [e] at hM; cases hM
end
def spLaw (K : PySem.W.Frag) : Sp := fun vs H Q _ => ∃ (a : Addr) (ns : List Int), vs = [.ref a] ∧ SqR K H a (ns.map V.int) ∧ ns.length ≤ 63 ∧ ∀ H', Q (.bl true) H'
theorem reps_ints {K : PySem.W.Frag} {F : Hp} : ∀ ns : List Int, Reps K F (ns.map V.int) (ns.map D.int)
  | [] => .nil
  | _ :: r => .cons .int (reps_ints r)
theorem fn_law {P : Program} {w : World} {K : PySem.W.Frag} {mg : Str → Option Value} {base : Heap} {f : Addr} {fd : FuncData} {x : Str} {k : Nat} {M : List D → Option D} (F : FnOk P w K mg base CX0 k f fd [x] (spP K .s 1 M)) (hM : ∀ ns : List Int, ns.length ≤ 63 → M [.scr (ns.map D.int)] = some (.bl true)) :
    FnOk P w K mg base CX0 k f fd [x] (spLaw K) := F.imp fun vs H Q E hq_ => by
  obtain ⟨a, ns, e, hS, hl, q⟩ := hq_
  subst e
  have hv : vw H (fun _ => false) = H := by funext b; unfold vw; simp
  refine ⟨fun _ => false, [.scr (ns.map D.int)], ⟨(fun b h => nomatch h), (fun b xs h => nomatch h)⟩, ?_, rfl, .bl true, hM ns hl, fun v H' _ r => ?_⟩
  · rw [hv]; exact .cons (.scr hS (reps_ints ns)) .nil
  · cases r; exact q H'
theorem walkD {l : PySem.W.OpenLaw} {k : Nat} {x : Str} {q : Program} {loose : List Str} {XP : (Str → Option Value) → Heap → Prop} {YP : World → Heap → Prop} {d : DefRec} {K : Params → PySem.W.Frag} (hn : l.most = some 63) (hdf : d.params.defaults = []) (hr : Room k callerA)
    (hY : ∀ (w : World) (h : Heap), YP w h → (K w.params).In h)
    (F : ∀ (w : World) (mg : Str → Option Value) (fa : Addr) (h : Heap), (K w.params).In h → h.Ns mainGlobals mg → mg d.name = some (.ref fa) →
      ∃ fd : FuncData, (∀ (s : Shared) (u : Value), BindsTo s fd ⟨[u], []⟩ [(x, u)]) ∧ ∀ base : Heap, (K w.params).In base → base.Ns mainGlobals mg → FnOk l.prog w (K w.params) mg base CX0 k fa fd [x] (spLaw (K w.params))) :
    PySem.W.WalkO q loose XP YP l.row.toRowW d [] (fun f vs => PySem.call f vs) :=
  L2.walk_of (n := 63) (k := k) (x := x) (CX := fun _ => CX0) (sp := fun w => spLaw (K w.params)) hn (by decide) hdf hr hY F (fun _ H a ns hl hO hS => ⟨a, ns, rfl, hS.elim (fun r => r.elim (fun e => by rcases hO a with z | ⟨o, xs, z⟩ <;> rw [z] at e <;> cases e) .inl) .inr, hl, fun _ => rfl⟩) fun _ _ _ _ _ z => z
end L2
set_option Elab.async false
set_option linter.all false
set_option maxRecDepth 100000
namespace L2
open PySem PySem.Spec PyProof.Rows
def clo (cells : List (Str × Addr)) : List (Str × NameKind) → List (Str × Addr) → List (Str × Addr)
  | [], acc => acc
  | (n, k) :: r, acc => clo cells r (if k == .free then (match cells.lookup n with
    | some c => (n, c) :: acc
    | none => acc) else acc)
theorem clo_mem {cells : List (Str × Addr)} : ∀ {names : List (Str × NameKind)} {acc : List (Str × Addr)}, (∀ p ∈ acc, cells.lookup p.1 = some p.2) → ∀ p ∈ clo cells names acc, cells.lookup p.1 = some p.2
  | [], acc, h, p, hp => h p hp
  | (n, k) :: r, acc, h, p, hp => by
    refine clo_mem (names := r) ?_ p hp
    intro q hq
    split at hq
    · split at hq
      · rename_i c e
        rcases List.mem_cons.mp hq with rfl | hq
        · exact e
        · exact h q hq
      · exact h q hq
    · exact h q hq
theorem clo_free {cells : List (Str × Addr)} : ∀ {names : List (Str × NameKind)} {acc : List (Str × Addr)} (p : Str × Addr), p ∈ clo cells names acc → p ∈ acc ∨ (p.1, NameKind.free) ∈ names
  | [], acc, p, hp => .inl hp
  | (n, k) :: r, acc, p, hp => by
    rcases clo_free (names := r) p hp with hq | hq
    · split at hq
      · rename_i ek
        split at hq
        · rcases List.mem_cons.mp hq with e | hq
          · subst e
            have : k = .free := by simpa using ek
            subst this
            exact .inr List.mem_cons_self
          · exact .inl hq
        · exact .inl hq
      · exact .inl hq
    · exact .inr (List.mem_cons_of_mem _ hq)
theorem clo_keep {cells : List (Str × Addr)} : ∀ {names : List (Str × NameKind)} {acc : List (Str × Addr)} {p : Str × Addr}, p ∈ acc → p ∈ clo cells names acc
  | [], acc, p, h => h
  | (n, k) :: r, acc, p, h => by
    refine clo_keep (names := r) ?_
    split
    · split
      · exact List.mem_cons_of_mem _ h
      · exact h
    · exact h
theorem clo_has {cells : List (Str × Addr)} {x : Str} {c : Addr} (hc : cells.lookup x = some c) : ∀ {names : List (Str × NameKind)} {acc : List (Str × Addr)}, (x, NameKind.free) ∈ names → (x, c) ∈ clo cells names acc
  | [], _, h => nomatch h
  | (n, k) :: r, acc, h => by
    rcases List.mem_cons.mp h with e | h
    · cases e
      refine clo_keep (names := r) ?_
      rw [if_pos (by rfl), hc]
      exact List.mem_cons_self
    · exact clo_has hc (names := r) h
theorem lookup_of_mem {l : List (Str × Addr)} {x : Str} {c : Addr} (h : (x, c) ∈ l) (u : ∀ p ∈ l, p.1 = x → p.2 = c) : l.lookup x = some c := by
  induction l with
  | nil => exact nomatch h
  | cons p r ih =>
    obtain ⟨n, a⟩ := p
    rw [List.lookup_cons]
    cases e : x == n with
    | true =>
      have e' : x = n := eq_of_beq e
      have := u (n, a) List.mem_cons_self e'.symm
      simpa using this
    | false =>
      have ne : x ≠ n := fun e' => by rw [e'] at e; simp at e
      rcases List.mem_cons.mp h with e' | h
      · cases e'; exact absurd rfl ne
      · exact ih h fun p hp => u p (List.mem_cons_of_mem _ hp)
theorem clo_lookup {cells : List (Str × Addr)} {names : List (Str × NameKind)} {x : Str} {c : Addr} (h : (clo cells names []).lookup x = some c) : cells.lookup x = some c :=
  clo_mem (names := names) (acc := []) (fun _ z => nomatch z) (x, c) (PySem.mem_of_lookup h)
theorem clo_lookup' {cells : List (Str × Addr)} {names : List (Str × NameKind)} {x : Str} {c : Addr} (hc : cells.lookup x = some c) (hf : (x, NameKind.free) ∈ names) : (clo cells names []).lookup x = some c :=
  lookup_of_mem (clo_has hc hf) fun p hp e => by
    have := clo_mem (names := names) (acc := []) (fun _ z => nomatch z) p hp
    rw [e, hc] at this
    exact (Option.some.inj this).symm
theorem closureFor_clo {scope : Scope} {env : Env} (h : ∀ x, (x, NameKind.free) ∈ scope.names → ∃ c, env.cells.lookup x = some c) : closureFor scope env = pure (clo env.cells scope.names []) := by
  unfold closureFor
  have key : ∀ (names : List (Str × NameKind)) (acc : List (Str × Addr)), (∀ x, (x, NameKind.free) ∈ names → ∃ c, env.cells.lookup x = some c) →
      (forIn names acc (fun (p : Str × NameKind) (r : List (Str × Addr)) => match p with
        | (name, kind) => if (kind == NameKind.free) = true then do
            let __do_lift ← cellOf env name
            pure (ForInStep.yield ((name, __do_lift) :: r)) else pure (ForInStep.yield r)) : Sem (List (Str × Addr))) = pure (clo env.cells names acc) := by
    intro names
    induction names with
    | nil => intro acc _; rfl
    | cons p r ih =>
      intro acc h
      obtain ⟨n, k⟩ := p
      rw [List.forIn_cons]
      have hr : ∀ x, (x, NameKind.free) ∈ r → ∃ c, env.cells.lookup x = some c := fun x hx => h x (List.mem_cons_of_mem _ hx)
      cases e : k == NameKind.free with
      | false =>
        simp only [e, Bool.false_eq_true, if_false, pure_bind]
        rw [ih acc hr]
        conv => rhs; unfold clo
        simp [e]
      | true =>
        have ek : k = .free := by simpa using e
        subst ek
        obtain ⟨c, hc⟩ := h n List.mem_cons_self
        have ec : cellOf env n = pure c := by unfold cellOf; rw [hc]
        simp only [beq_self_eq_true, if_true, ec, pure_bind]
        rw [ih _ hr]
        conv => rhs; unfold clo
        simp [hc]
  have := key scope.names [] h
  simp only [this, pure_bind]
theorem relabel_of {sc : Scope} {env : Env} {x : Str} {k : NameKind} (h : (relabel sc env).names.lookup x = some k) : ∃ k0, sc.names.lookup x = some k0 ∧ (k = k0 ∨ (k0 = .free ∧ k = .cell)) := by
  unfold relabel at h
  dsimp only at h
  generalize sc.names = l at h ⊢
  induction l with
  | nil => simp at h
  | cons p r ih =>
    obtain ⟨n, k1⟩ := p
    rw [List.map_cons] at h
    dsimp only at h
    rw [List.lookup_cons]
    cases hx : x == n with
    | true =>
      refine ⟨k1, rfl, ?_⟩
      split at h
      · rename_i hc
        rw [List.lookup_cons] at h
        simp only [hx] at h
        cases h
        have : k1 = .free := by
          simp only [Bool.and_eq_true] at hc
          exact eq_of_beq hc.1.1
        exact .inr ⟨this, rfl⟩
      · rw [List.lookup_cons] at h
        simp only [hx] at h
        cases h
        exact .inl rfl
    | false =>
      split at h
      · rw [List.lookup_cons] at h; simp only [hx] at h; exact ih h
      · rw [List.lookup_cons] at h; simp only [hx] at h; exact ih h
def ownC (cells : List (Str × Addr)) (scope : Scope) (C : Addr) : List (Str × Addr) := cellsFrom (C + 1) scope.names (clo cells scope.names [])
theorem cellsFrom_app : ∀ (names : List (Str × NameKind)) (n : Nat) (acc : List (Str × Addr)), cellsFrom n names acc = cellsFrom n names [] ++ acc
  | [], _, _ => rfl
  | (name, kind) :: r, n, acc => by
    unfold cellsFrom
    split
    · rw [cellsFrom_app r (n + 1) ((name, n) :: acc), cellsFrom_app r (n + 1) [(name, n)], List.append_assoc]; rfl
    · exact cellsFrom_app r n acc
theorem own_mem : ∀ {names : List (Str × NameKind)} {n : Nat} {p : Str × Addr}, p ∈ cellsFrom n names [] → (p.1, NameKind.cell) ∈ names
  | [], _, _, h => nomatch h
  | (name, kind) :: r, n, p, h => by
    unfold cellsFrom at h
    split at h
    · rename_i hk
      have hk' : kind = .cell := by simpa using hk
      subst hk'
      rw [cellsFrom_app] at h
      rcases List.mem_append.mp h with h | h
      · exact List.mem_cons_of_mem _ (own_mem h)
      · rw [List.mem_singleton.mp h]; exact List.mem_cons_self
    · exact List.mem_cons_of_mem _ (own_mem h)
theorem own_there : ∀ {names : List (Str × NameKind)} {n : Nat} {x : Str}, (x, NameKind.cell) ∈ names → ∃ c, (x, c) ∈ cellsFrom n names []
  | [], _, _, h => nomatch h
  | (name, kind) :: r, n, x, h => by
    unfold cellsFrom
    rcases List.mem_cons.mp h with e | h
    · cases e
      rw [if_pos (by rfl), cellsFrom_app]
      exact ⟨n, List.mem_append_right _ List.mem_cons_self⟩
    · split
      · obtain ⟨c, hc⟩ := own_there (n := n + 1) h
        rw [cellsFrom_app]
        exact ⟨c, List.mem_append_left _ hc⟩
      · exact own_there h
theorem lookup_mem {l : List (Str × Addr)} {x : Str} {c : Addr} (h : (x, c) ∈ l) : ∃ c', l.lookup x = some c' := by
  induction l with
  | nil => exact nomatch h
  | cons p r ih =>
    obtain ⟨n, a⟩ := p
    rw [List.lookup_cons]
    cases e : x == n with
    | true => exact ⟨a, rfl⟩
    | false =>
      rcases List.mem_cons.mp h with e' | h
      · cases e'; simp at e
      · exact ih h
theorem ownC_cases {cells : List (Str × Addr)} {sc : Scope} {C : Addr} {x : Str} {c : Addr} (h : (ownC cells sc C).lookup x = some c) : (x, c) ∈ cellsFrom (C + 1) sc.names [] ∨ (clo cells sc.names []).lookup x = some c := by
  unfold ownC at h
  rw [cellsFrom_app, List.lookup_append] at h
  cases e : (cellsFrom (C + 1) sc.names []).lookup x with
  | none => rw [e] at h; exact .inr h
  | some c' => rw [e] at h; cases h; exact .inl (PySem.mem_of_lookup e)
theorem ownC_own {cells : List (Str × Addr)} {sc : Scope} {C : Addr} {x : Str} (h : (x, NameKind.cell) ∈ sc.names) : ∃ c, (ownC cells sc C).lookup x = some c := by
  obtain ⟨c, hc⟩ := own_there (n := C + 1) h
  obtain ⟨c', e⟩ := lookup_mem hc
  exact ⟨c', by unfold ownC; rw [cellsFrom_app, List.lookup_append, e]; rfl⟩
theorem ownC_clo {cells : List (Str × Addr)} {sc : Scope} {C : Addr} {x : Str} (h : (x, NameKind.cell) ∉ sc.names) : (ownC cells sc C).lookup x = (clo cells sc.names []).lookup x := by
  unfold ownC
  rw [cellsFrom_app, List.lookup_append]
  cases e : (cellsFrom (C + 1) sc.names []).lookup x with
  | none => rfl
  | some c' => exact absurd (own_mem (PySem.mem_of_lookup e)) h
theorem nfe_own {M : Model} {A : Around} {E : Value → Shared → Prop} {s : Shared} {scope : Scope} {globals : Addr} {closure : List (Str × Addr)} {qual : Str} {outer : Env} {Q : Env → Shared → Prop}
    (hQ : ∀ h', h'.Ns s.heap.objs.size (fun _ => none) → (∀ b o, s.heap.get? b = some o → h'.get? b = some o) → CellsOk h' (s.heap.objs.size + 1) (cellsFrom (s.heap.objs.size + 1) scope.names []) →
      Q (newEnv scope s.heap.objs.size globals (cellsFrom (s.heap.objs.size + 1) scope.names closure) qual none .none (some outer) builtinsNs) { s with heap := h', toks := s.toks }) :
    wpAny M A (newFunctionEnv scope globals closure [] qual none .none (some outer)) Q E s := by
  simp only [newFunctionEnv, Option.isSome_some, if_true]
  refine wpAny_bind (wpAny_alloc ?_)
  refine wpAny_bind (wpAny_layCells _ (fun name kind cells => by cases hkc : kind == NameKind.cell <;> simp [hkc]) _ _ _ _ ?_)
  have ok := cellsFrom_ok scope.names (s.heap.push { cls := .type "dict", data := .dict #[] }) (s.heap.objs.size + 1) [] ⟨fun _ _ hm => (nomatch hm), List.Pairwise.nil⟩ (by rw [Heap.size_push]; exact Nat.le_refl _)
  rw [Heap.size_push] at ok
  rw [show ({ s with heap := s.heap.push { cls := .type "dict", data := .dict #[] } } : Shared).heap.objs.size = s.heap.objs.size + 1 from Heap.size_push ..]
  rw [List.forIn_nil]
  refine wpAny_bind (wpAny_pure (wpAny_pure ?_))
  exact hQ _ ((Heap.Ns.new s.heap (.type "dict")).keeps (pushCells_keeps _ _)) (fun b o e => pushCells_keeps _ _ b o (Heap.get?_push_of_some _ e)) ok
def compCx (X : Cx) (N' : List Str) (scope : Scope) (C : Addr) (s₀ : Shared) (H₀ : Hp) (ex : List Addr) : Cx where
  prog := X.prog
  w := X.w
  K := X.K
  mg := X.mg
  base := X.base
  A := X.A
  N := N'
  s₀ := s₀
  H₀ := H₀
  env := compEnvC scope (ownC X.env.cells scope C) C X.env
  outer := X.stack
  stack := X.stack
  ex := ex
  fn := fun x => scope.names.lookup x == some .local || scope.names.lookup x == some .cell
  calm := X.calm
  pn := []
  xe := fun _ _ => False
def okN (N N' : List Str) (sc : Scope) : Bool :=
  decide (N.length ≤ N'.length) && ((N'.take N.length).zip N).all (fun p => (p.1 == p.2 && !(sc.names.lookup p.1 == some .local) && !(sc.names.lookup p.1 == some .cell)) || (sc.names.lookup p.1).isNone) &&
    (N'.drop N.length).all fun x => sc.names.lookup x == some .local || sc.names.lookup x == some .cell
def okS (sc : Scope) (outer : Scope) : Bool :=
  sc.names.all fun y => (y.2 != .cell || sc.names.lookup y.1 == some .cell) && (y.2 != .local || sc.names.lookup y.1 == some .local) && (y.2 != .free || (sc.names.lookup y.1 == some .free && (outer.names.lookup y.1 == some .cell || outer.names.lookup y.1 == some .free)))
theorem okS_cell {sc o : Scope} (h : okS sc o = true) : ∀ y ∈ sc.names, y.2 = .cell → sc.names.lookup y.1 = some .cell := fun y hy e => by
  have := List.all_eq_true.mp h y hy
  simpa [e] using this
theorem okS_local {sc o : Scope} (h : okS sc o = true) : ∀ y ∈ sc.names, y.2 = .local → sc.names.lookup y.1 = some .local := fun y hy e => by
  have := List.all_eq_true.mp h y hy
  simpa [e] using this
theorem okS_free {sc o : Scope} (h : okS sc o = true) : ∀ x, (x, NameKind.free) ∈ sc.names → o.names.lookup x = some .cell ∨ o.names.lookup x = some .free := fun x hx => by
  have := List.all_eq_true.mp h _ hx
  simpa using (by simpa using this : _ ∧ _).2
theorem okS_free' {sc o : Scope} (h : okS sc o = true) : ∀ x, (x, NameKind.free) ∈ sc.names → sc.names.lookup x = some .free := fun x hx => by
  have := List.all_eq_true.mp h _ hx
  simpa using (by simpa using this : _ ∧ _).1
theorem okN_outer {N N' : List Str} {sc : Scope} (h : okN N N' sc = true) {i : Nat} {x : Str} (hi : i < N.length) (e : N'[i]? = some x) (hv : ∃ k, sc.names.lookup x = some k ∧ (k = .local ∨ k = .cell ∨ k = .free)) : N[i]? = some x ∧ sc.names.lookup x = some .free := by
  unfold okN at h
  simp only [Bool.and_eq_true, decide_eq_true_eq] at h
  obtain ⟨⟨h1, h2⟩, _⟩ := h
  have hN : N[i]? = some N[i] := List.getElem?_eq_getElem hi
  have e1 : (N'.take N.length)[i]? = some x := by rw [List.getElem?_take_of_lt hi]; exact e
  have hm : (x, N[i]) ∈ (N'.take N.length).zip N := by
    refine List.mem_of_getElem? (i := i) ?_
    rw [List.getElem?_zip_eq_some]
    exact ⟨e1, hN⟩
  have := List.all_eq_true.mp h2 _ hm
  obtain ⟨k, hk, hk2⟩ := hv
  dsimp only at this
  rw [hk] at this
  simp only [Option.isNone_some, Bool.or_false, Bool.and_eq_true, Bool.not_eq_true'] at this
  obtain ⟨⟨t1, t2⟩, t3⟩ := this
  have ex : x = N[i] := eq_of_beq t1
  rcases hk2 with rfl | rfl | rfl
  · simp at t2
  · simp at t3
  · exact ⟨by rw [hN, ← ex], hk⟩
theorem okN_len {N N' : List Str} {sc : Scope} (h : okN N N' sc = true) : N.length ≤ N'.length := by
  unfold okN at h
  simp only [Bool.and_eq_true, decide_eq_true_eq] at h
  exact h.1.1
section
variable {X : Cx} {pins : List (Addr × Obj)} {σ : St} {H : Hp} {s : Shared} {scope : Scope} {N' : List Str} {fp : List Addr}
theorem frs_stack (I : Inv X pins σ H s) {b : Addr} (f : FpOk X pins H b) : b ∉ frs X.stack := fun z => by
  rcases List.mem_cons.mp (I.stkSub b z) with e | z
  · exact f.2.1 e
  · exact f.2.2.1 z
theorem inv_comp {h' : Heap} {tk : Nat} (I : Inv X pins σ H s) (hF : ∀ b ∈ fp, FpOk X pins H b) (hO : ∀ b ∈ fp, ∃ o, s.heap.get? b = some o) (hk : scope.kind = .function) (hs : okS scope X.env.scope = true) (hn : okN X.N N' scope = true)
    (ns : h'.Ns s.heap.objs.size fun _ => none) (kp : ∀ b o, s.heap.get? b = some o → h'.get? b = some o) (oc : CellsOk h' (s.heap.objs.size + 1) (cellsFrom (s.heap.objs.size + 1) scope.names [])) :
    Inv (compCx X N' scope s.heap.objs.size s H fp) [] (σ ++ List.replicate (N'.length - X.N.length) none) H { s with heap := h', toks := tk } := by
  have hlen := okN_len hn
  have cl : ∀ x c, (clo X.env.cells scope.names []).lookup x = some c → X.env.cells.lookup x = some c := fun x c e => clo_lookup e
  have clt : ∀ x c, (clo X.env.cells scope.names []).lookup x = some c → c < s.heap.objs.size := fun x c e => let ⟨_, z⟩ := I.cell x c (cl x c e); z.lt
  have newC : H s.heap.objs.size = none := I.hok.fresh (Nat.le_refl _)
  refine ⟨⟨I.ok.mod, hk, I.ok.glob, I.ok.blt, Nat.le_refl _, fun x y c h1 h2 => ?_, fun x hx => ?_, fun x c h1 h2 => ?_, I.ok.hd, I.ok.frames, .inl rfl, fun b hb => ⟨?_, fun x c e => ?_⟩, I.bs, Nat.le_trans I.ok.bsz I.sz, fun b o e hb => ?_, fun b hb => frs_stack I (hF b hb), I.stack, I.stkFree⟩,
    rfl, I.bare, Un.kept kp, ⟨_, ns, fun i x v e1 e2 e3 => ?_⟩, fun x c e => ?_, newC, fun x c e => ?_, fun p hp => absurd (show p ∈ ([] : List (Addr × Obj)) from hp) (by simp), I.hok.kept kp, ?_⟩
  ·
    rcases ownC_cases h1 with h1 | h1 <;> rcases ownC_cases h2 with h2 | h2
    · exact name_of_addr oc.apart h1 h2
    · exact absurd (clt y c h2) (Nat.not_lt.mpr (Nat.le_of_succ_le (oc.empty _ _ h1).2))
    · exact absurd (clt x c h1) (Nat.not_lt.mpr (Nat.le_of_succ_le (oc.empty _ _ h2).2))
    · exact I.ok.inj x y c (cl x c h1) (cl y c h2)
  ·
    have hx' : (relabel scope X.env).names.lookup x = some .cell ∨ (relabel scope X.env).names.lookup x = some .free := hx
    have : (x, NameKind.cell) ∈ scope.names ∨ (x, NameKind.free) ∈ scope.names := by
      rcases hx' with hx' | hx'
      · obtain ⟨k0, e0, e1 | ⟨e1, _⟩⟩ := relabel_of hx'
        · subst e1; exact .inl (PySem.mem_of_lookup e0)
        · subst e1; exact .inr (PySem.mem_of_lookup e0)
      · obtain ⟨k0, e0, e1 | ⟨_, e1⟩⟩ := relabel_of hx'
        · subst e1; exact .inr (PySem.mem_of_lookup e0)
        · cases e1
    rcases this with this | this
    · exact ownC_own this
    · have hc := okS_free hs x this
      obtain ⟨c, e⟩ := I.ok.has x hc
      exact ⟨c, (ownC_clo fun z => by have z1 := okS_cell hs _ z rfl; have z2 := okS_free' hs x this; rw [z2] at z1; cases z1).trans (clo_lookup' e this)⟩
  ·
    have h1' : scope.names.lookup x = some .local ∨ scope.names.lookup x = some .cell := by
      have h1 : (scope.names.lookup x == some .local || scope.names.lookup x == some .cell) = true := h1
      simpa using h1
    rcases ownC_cases h2 with h2 | h2
    · exact Nat.le_of_succ_le (oc.empty _ _ h2).2
    · exfalso
      rcases clo_free _ (PySem.mem_of_lookup h2) with z | z
      · exact nomatch z
      · rw [okS_free' hs x z] at h1'; rcases h1' with h1' | h1' <;> cases h1'
  · obtain ⟨o, e⟩ := hO b hb
    exact Nat.ne_of_lt (Heap.lt_size e)
  · rcases ownC_cases e with e | e
    · obtain ⟨o, e'⟩ := hO b hb
      exact fun z => absurd (Heap.lt_size e') (Nat.not_lt.mpr (z ▸ Nat.le_of_succ_le (oc.empty _ _ e).2))
    · exact (hF b hb).2.2.2.2.1 x c (cl x c e)
  · obtain ⟨_, _, _, h4, _⟩ := hF b hb
    rcases h4 with h4 | h4
    · exact I.ok.noex b o e h4
    · exact absurd (Nat.lt_of_lt_of_le (Heap.lt_size e) (Nat.le_trans I.ok.bsz h4)) (Nat.lt_irrefl _)
  · have hi : i < X.N.length := by
      by_cases hi : i < σ.length
      · rw [← I.len]; exact hi
      · rw [List.getElem?_append_right (by omega), List.getElem?_replicate] at e2
        split at e2 <;> cases e2
    rw [List.getElem?_append_left (by rw [I.len]; exact hi)] at e2
    have e3' : (relabel scope X.env).names.lookup x = some .local ∨ (relabel scope X.env).names.lookup x = some .cell ∨ (relabel scope X.env).names.lookup x = some .free := e3
    have hv : ∃ k, scope.names.lookup x = some k ∧ (k = .local ∨ k = .cell ∨ k = .free) := by
      rcases e3' with z | z | z
      all_goals
        obtain ⟨k0, q0, q1 | ⟨q1, q2⟩⟩ := relabel_of z
        · subst q1; exact ⟨_, q0, by simp⟩
        · subst q1; exact ⟨_, q0, by simp⟩
    obtain ⟨hN, hf⟩ := okN_outer hn hi e1 hv
    have hfm := PySem.mem_of_lookup hf
    have hc := okS_free hs x hfm
    have nc : (x, NameKind.cell) ∉ scope.names := fun z => by have z1 := okS_cell hs _ z rfl; rw [hf] at z1; cases z1
    obtain ⟨m, hm, hl⟩ := I.loc
    obtain ⟨u, r, l⟩ := hl i x v hN e2 (.inr hc)
    refine ⟨u, r, .inr ⟨?_, ?_⟩⟩
    · show (relabel scope X.env).names.lookup x = some .cell ∨ (relabel scope X.env).names.lookup x = some .free
      rcases e3' with z | z | z
      · obtain ⟨k0, q0, q1 | ⟨q1, q2⟩⟩ := relabel_of z
        · subst q1; rw [hf] at q0; cases q0
        · cases q2
      · exact .inl z
      · exact .inr z
    · rcases l with ⟨l, _⟩ | ⟨_, c, ec, z⟩
      · have l' : X.env.scope.names.lookup x = some .local := l
        rcases hc with hc | hc <;> rw [hc] at l' <;> cases l'
      · exact ⟨c, (ownC_clo nc).trans (clo_lookup' ec hfm), z.keeps kp⟩
  · rcases ownC_cases e with e | e
    · exact ⟨_, (oc.empty _ _ e).1⟩
    · obtain ⟨v, z⟩ := I.cell x c (cl x c e)
      exact ⟨v, z.keeps kp⟩
  · rcases ownC_cases e with e | e
    · exact I.hok.fresh (Nat.le_of_succ_le (oc.empty _ _ e).2)
    · exact I.freeC x c (cl x c e)
  · show (σ ++ _).length = N'.length
    rw [List.length_append, List.length_replicate, I.len]
    omega
end
end L2
set_option Elab.async false
set_option linter.all false
set_option maxRecDepth 100000
namespace L2
open PySem PySem.Spec PyProof.Rows
def rdIp (K : PySem.W.Frag) (c : Ct) (hid : Hid) (f : FA) (ρ : Rho) : TI := fun σ H R => SR K c hid ρ σ H ∧ ∃ ds, f ρ = some ds ∧ ∀ J H', Same H H' → ItOk K (vw H' hid) J ds → R J H'
def DIp (X : Cx) (c : Ct) (tg iter : Expr) (f : FA) : Prop := ∀ hid ρ, PI X tg iter (rdIp X.K c hid f ρ)
def ItB (K : PySem.W.Frag) (L W : Hp) (J : It) (ds : List D) : Prop :=
  (∀ (i : Nat) (d : D) (H : Hp), ds[i]? = some d → Same L H → Same W H → J.go i H ∧ ∀ x H', J.yld i H x H' → Same H H' ∧ ∀ hid : Hid, (∀ b, hid b = true → ∃ o, H b = some o) → Same W (vw H hid) → Rep K (vw H' hid) x d) ∧ ∀ H, Same L H → Same W H → J.stop ds.length H
theorem ItOk.b {K : PySem.W.Frag} {L W : Hp} {J : It} {ds : List D} (h : ItOk K W J ds) : ItB K L W J ds := ⟨fun i d H e _ w => h.1 i d H e w, fun H _ w => h.2 H w⟩
def rdIb (K : PySem.W.Frag) (c : Ct) (hid : Hid) (f : FA) (ρ : Rho) : TI := fun σ H R => SR K c hid ρ σ H ∧ ∃ ds, f ρ = some ds ∧ ∀ J H', Same H H' → ItB K H' (vw H' hid) J ds → R J H'
def DIb (X : Cx) (c : Ct) (tg iter : Expr) (f : FA) : Prop := ∀ hid ρ, PI X tg iter (rdIb X.K c hid f ρ)
section
variable {X : Cx} {c : Ct} {k : Kd} {tg iter : Expr} {pos : Pos}
theorem DIp.b {f : FA} (h : DIp X c tg iter f) : DIb X c tg iter f := fun hid ρ => PI.imp (h hid ρ) fun σ H R ⟨sr, ds, e, q⟩ => ⟨sr, ds, e, fun J H' s io => q J H' s io.b⟩
theorem DIp.e {f : FA} (h : DIp X c tg iter f) : DI X c tg iter (puA f) := fun hid ρ => PI.imp (h hid ρ) fun σ H R hq_ => by
  obtain ⟨sr, ds, ρ', e, q⟩ := hq_
  obtain ⟨e1, rfl⟩ := puA_some e
  exact ⟨sr, ds, e1, fun J H' s io => q J H' (.of s) (sr.ext s) io⟩
def lstA (f : FE) : FA := fun ρ => (f ρ).bind fun d => match d with
  | .lst ds => some ds
  | _ => none
def tupA (f : FE) : FA := fun ρ => (f ρ).bind fun d => match d with
  | .tup ds => some ds
  | _ => none
theorem lstA_some {f : FE} {ρ : Rho} {ds : List D} (h : lstA f ρ = some ds) : f ρ = some (.lst ds) := by
  unfold lstA at h
  cases e : f ρ with
  | none => rw [e] at h; cases h
  | some d =>
    rw [e] at h
    cases d with
    | lst z => cases h; rfl
    | _ => cases h
theorem tupA_some {f : FE} {ρ : Rho} {ds : List D} (h : tupA f ρ = some ds) : f ρ = some (.tup ds) := by
  unfold tupA at h
  cases e : f ρ with
  | none => rw [e] at h; cases h
  | some d =>
    rw [e] at h
    cases d with
    | tup z => cases h; rfl
    | _ => cases h
theorem itok_lst {K : PySem.W.Frag} {W : Hp} {a : Addr} {xs : List V} {ds : List D} (h1 : SqL K W a xs) (h2 : Reps K W xs ds) : ItOk K W (Itl K a) ds := by
  refine ⟨fun i d H e s => ?_, fun H s => ⟨_, s.seq h1, by rw [h2.length]; exact Nat.le_refl _⟩⟩
  obtain ⟨x, e1, r1⟩ := h2.get e
  refine ⟨⟨_, x, s.seq h1, e1⟩, fun y H' ⟨e2, e3⟩ => ?_⟩
  subst e2
  have := e3 _ (s.seq h1)
  rw [e1] at this; cases this
  exact ⟨Same.refl _, fun hid _ sw => r1.mono sw⟩
theorem dip_list {f : FE} (h : DP X c .s iter f) : DIp X c tg iter (lstA f) := fun hid ρ => PI.imp (pi_list (h hid ρ)) fun σ H R hq_ => by
  obtain ⟨sr, ds, e, q⟩ := hq_
  refine ⟨sr, _, lstA_some e, fun v H' s' r => ?_⟩
  cases r with
  | lst h1 h2 => have h1 := SqL.of (K := X.K) h1; exact ⟨_, rfl, ⟨_, (vw_le _ _).seq h1⟩, q _ H' s' (itok_lst h1 h2)⟩
theorem dib_list {f : FE} (h : DP X c .b iter f) : DIb X c tg iter (lstA f) := fun hid ρ => PI.imp (pi_list (h hid ρ)) fun σ H R hq_ => by
  obtain ⟨sr, ds, e, q⟩ := hq_
  refine ⟨sr, _, lstA_some e, fun v H' s' r => ?_⟩
  obtain ⟨a, xs, rfl, h1, h2⟩ := Rep1.lst r
  refine ⟨a, rfl, ⟨_, h1⟩, q _ H' s' ⟨fun i d H e s w => ?_, fun H s w => ⟨_, s.seq h1, by rw [h2.length]; exact Nat.le_refl _⟩⟩⟩
  obtain ⟨x, e1, r1⟩ := h2.get e
  refine ⟨⟨_, x, s.seq h1, e1⟩, fun y H' ⟨e2, e3⟩ => ?_⟩
  subst e2
  have := e3 _ (s.seq h1)
  rw [e1] at this; cases this
  exact ⟨Same.refl _, fun hid _ sw => r1.mono sw⟩
theorem dip_tup {f : FE} (h : DP X c .s iter f) : DIp X c tg iter (tupA f) := fun hid ρ => PI.imp (pi_tup (h hid ρ)) fun σ H R hq_ => by
  obtain ⟨sr, ds, e, q⟩ := hq_
  refine ⟨sr, _, tupA_some e, fun v H' s' r => ?_⟩
  cases r with
  | tup h1 h2 => exact ⟨_, rfl, ⟨_, Same.seqT (vw_le _ _) h1⟩, q _ H' s' (itok_tup h1 h2)⟩
def rngA1 (f : FA) : FA := fun ρ => (f ρ).bind fun ds => match ds with
  | [.int j] => if j.natAbs < 4000000000 then some (ups 0 j.toNat) else none
  | _ => none
theorem dip_range1 {a : Expr} {f : FA} {p : Pos} (hm : X.mg "range" = none) (ha : DA X c [a] f) (hg : Gl X "range" := by rfl) (hs : starEach [a] X.env = [(false, eval a X.env)] := by rfl) : DIp X c tg (.Call (.Name "range" p) [a] [] pos) (rngA1 f) := fun hid ρ =>
  PI.imp (pi_range1 hg hm (ha hid ρ) hs) fun σ H R hq_ => by
    obtain ⟨sr, ds, e, q⟩ := hq_
    unfold rngA1 at e
    cases e1 : f ρ with
    | none => rw [e1] at e; cases e
    | some z =>
      rw [e1] at e
      dsimp only [Option.bind] at e
      split at e
      · split at e
        · cases e
          refine ⟨sr, _, e1, fun vs H' s' r => ?_⟩
          cases r with
          | cons r t => cases t; cases r; exact ⟨_, rfl, by omega, by omega, q _ H' s' itok_range⟩
        · cases e
      · cases e
def testsOf (ifs : List Expr) (env : Env) : Sem Bool := forIn ifs true fun c r => if r = true then do let ok ← isTrue c env (eval c env); pure (ForInStep.yield ok) else pure (ForInStep.yield r)
def DIf (X : Cx) (c : Ct) (ifs : List Expr) (p : FT) : Prop := ∀ hid ρ (pins : List (Addr × Obj)) (s : Shared) (σ : St) (H : Hp) (Q : Bool → Hp → Prop), Inv X pins σ H s → rdT X.K c hid p ρ σ H Q → wpAny (model X.prog X.w) X.A (testsOf ifs X.env) (TP X pins σ Q) X.xe s
def yesT : FT := fun _ => some true
theorem dif_nil : DIf X c [] yesT := fun hid ρ pins s σ H Q I hq_ => by
  obtain ⟨sr, d, e, q⟩ := hq_
  cases e
  exact wpAny_tests_nil ⟨H, I, q H (Same.refl _)⟩
theorem dif_one {e : Expr} {p : FT} (h : DT X c e p) : DIf X c [e] p := fun hid ρ pins s σ H Q I q => wpAny_tests_one (h hid ρ pins s σ H Q I q)
end
theorem codeAny_compLoop_turns {prog : Program} {w : World} {A : Around} {R : Result → Shared → Prop} {s : Shared} {elt target iter : Expr} {ifs : List Expr} {scope : Scope} {pos : Pos} {it acc : Value} {env : Env} (I : Nat → Shared → Prop)
    (turn : ∀ n s, I n s → wpAny (model prog w) A (pyNext it) (fun r s₁ => match r with
      | none => R (.ok .next) s₁
      | some v => wpAny (model prog w) A (letOwnedTupleGo target it v) (fun _ s₁ => wpAny (model prog w) A (assign target env v) (fun _ s₂ =>
          wpAny (model prog w) A (testsOf ifs env) (fun ok s₃ =>
            if ok = true then wpAny (model prog w) A (eval elt env) (fun x s₄ =>
              wpAny (model prog w) A (call (.builtin "list.append") [acc, x]) (fun _ s₅ => ∃ m, m < n ∧ I m s₅) (fun _ _ => False) s₄) (fun _ _ => False) s₃
            else ∃ m, m < n ∧ I m s₃) (fun _ _ => False) s₂) (fun _ _ => False) s₁) (fun _ _ => False) s₁) (fun _ _ => False) s)
    (n : Nat) (h : I n s) :
    codeAny (model prog w) A (.compLoop (.ListComp elt [⟨target, iter, ifs, 0⟩] scope pos) 0 it acc env) R s := by
  have no : ∀ {E' : Value → Shared → Prop} (x : Value) (s : Shared), False → E' x s := fun _ _ z => z.elim
  refine codeAny_loop rfl I (fun n s hI => ?_) n h
  show wpAny _ A ((compTurn (.ListComp elt [⟨target, iter, ifs, 0⟩] scope pos) 0 it acc env).onRaise (fun x => do noteFrame x env; theTreesLotGoes x)) _ _ s
  refine wpAny_noted ?_
  rw [compTurn_list]
  refine wpAny_bind (wpAny_standAt (wpAny_bind (wpAny_mono (turn n s hI) (fun r s₁ h₁ => ?_) no)))
  cases r with
  | none => exact wpAny_pure h₁
  | some v =>
    refine wpAny_bind (wpAny_mono h₁ (fun _ s₁ h₁ => ?_) no)
    refine wpAny_bind (wpAny_mono h₁ (fun _ s₂ h₂ => wpAny_bind (wpAny_mono h₂ (fun ok s₃ h₃ => ?_) no)) no)
    cases ok with
    | false => exact wpAny_pure ⟨rfl, h₃⟩
    | true =>
      exact wpAny_bind (wpAny_bind (wpAny_mono h₃ (fun x s₄ h₄ => wpAny_bind (wpAny_mono h₄ (fun _ s₅ h₅ => wpAny_pure (wpAny_pure ⟨rfl, h₅⟩)) no)) no))
def compL (g : FG) (p : FT) (f : FE) (ρ0 : Rho) : List D → Option (List D)
  | [] => some []
  | d :: r => (g d ρ0).bind fun ρ1 => (p ρ1).bind fun b => if b = true then (f ρ1).bind fun y => (compL g p f ρ0 r).map (y :: ·) else compL g p f ρ0 r
def compF (m : Nat) (gi : FA) (g : FG) (p : FT) (f : FE) : FE := fun ρ => (gi ρ).bind fun ds => if ds.length ≤ sizeLine then (compL g p f (ρ ++ List.replicate m .no) ds).map D.lst else none
theorem compF_some {m : Nat} {gi : FA} {g : FG} {p : FT} {f : FE} {ρ : Rho} {d : D} (h : compF m gi g p f ρ = some d) : ∃ ds ys, gi ρ = some ds ∧ ds.length ≤ sizeLine ∧ compL g p f (ρ ++ List.replicate m .no) ds = some ys ∧ d = .lst ys := by
  unfold compF at h
  cases e1 : gi ρ with
  | none => rw [e1] at h; cases h
  | some ds =>
    rw [e1] at h
    dsimp only [Option.bind] at h
    split at h
    · cases e2 : compL g p f (ρ ++ List.replicate m .no) ds with
      | none => rw [e2] at h; cases h
      | some ys => rw [e2] at h; cases h; exact ⟨ds, ys, rfl, ‹_›, e2, rfl⟩
    · cases h
def Tail (n : Nat) (g : FG) : Prop := ∀ d (ρ0 ρ1 : Rho), g d ρ0 = some ρ1 → ρ1.length = ρ0.length ∧ ∀ i : Nat, i < n → ρ1[i]? = ρ0[i]?
def TailS (n : Nat) (g : FGs) : Prop := ∀ d (ρ0 ρ1 : Rho), g d ρ0 = some ρ1 → ρ1.length = ρ0.length ∧ ∀ i : Nat, i < n → ρ1[i]? = ρ0[i]?
theorem tail_n {n i : Nat} (h : n ≤ i) : Tail n (gN i) := fun d ρ0 ρ1 e => by
  cases e
  exact ⟨by simp, fun j hj => List.getElem?_set_ne (by omega)⟩
theorem tails_nil {n : Nat} : TailS n gsN := fun d ρ0 ρ1 e => by
  unfold gsN at e
  split at e
  · cases e; exact ⟨rfl, fun _ _ => rfl⟩
  · cases e
theorem tails_cons {n : Nat} {g : FG} {gs : FGs} (h1 : Tail n g) (h2 : TailS n gs) : TailS n (gsC g gs) := fun d ρ0 ρ1 e => by
  cases d with
  | nil => cases e
  | cons d ds =>
    have e : (g d ρ0).bind (fun ρ' => gs ds ρ') = some ρ1 := e
    cases e1 : g d ρ0 with
    | none => rw [e1] at e; cases e
    | some ρ2 =>
      rw [e1] at e
      obtain ⟨a1, a2⟩ := h1 d ρ0 ρ2 e1
      obtain ⟨b1, b2⟩ := h2 ds ρ2 ρ1 e
      exact ⟨b1.trans a1, fun i hi => (b2 i hi).trans (a2 i hi)⟩
theorem tail_t {n m : Nat} {gs : FGs} (h : TailS n gs) : Tail n (gT m gs) := fun d ρ0 ρ1 e => by
  unfold gT at e
  split at e
  · split at e
    · exact h _ _ _ e
    · cases e
  · cases e
theorem SR.forget {K : PySem.W.Frag} {c : Ct} {hid : Hid} {ρ0 ρ1 : Rho} {σ : St} {H : Hp} (h : SR K c hid ρ1 σ H) (hl : ρ1.length = ρ0.length) (hs : ∀ (i : Nat) (s : Sl), ρ0[i]? = some s → s = .no ∨ ρ1[i]? = some s) : SR K c hid ρ0 σ H := by
  have ow : ∀ i : Nat, Ow ρ0[i]? → Ow ρ1[i]? := fun i o => by
    cases e : ρ0[i]? with
    | none => rw [e] at o; exact o.elim
    | some s =>
      rcases hs i s e with rfl | z
      · rw [e] at o; exact o.elim
      · rw [z, ← e]; exact o
  refine ⟨h.tr, h.ht, h.h0, h.kp, h.t0, h.c0, h.m0, h.len.trans hl, fun i s e => ?_, fun i j a n o1 o2 => h.ap i j a n (ow i o1) (ow j o2)⟩
  rcases hs i s e with rfl | z
  · trivial
  · exact h.sl i s z
theorem SR.more {K : PySem.W.Frag} {c : Ct} {hid : Hid} {ρ : Rho} {σ : St} {H : Hp} (h : SR K c hid ρ σ H) (m : Nat) : SR K c hid (ρ ++ List.replicate m .no) (σ ++ List.replicate m none) H := by
  have lt : ∀ {i : Nat}, Ow (ρ ++ List.replicate m Sl.no)[i]? → i < ρ.length := fun {i} o => by
    by_cases hi : i < ρ.length
    · exact hi
    · rw [List.getElem?_append_right (by omega), List.getElem?_replicate] at o
      split at o <;> exact o.elim
  refine ⟨h.tr, h.ht, h.h0, h.kp, h.t0, h.c0, h.m0, by simp [h.len], fun i s e => ?_, fun i j a n o1 o2 q1 q2 => ?_⟩
  · by_cases hi : i < ρ.length
    · rw [List.getElem?_append_left hi] at e
      have z := h.sl i s e
      have es : (σ ++ List.replicate m none)[i]? = σ[i]? := List.getElem?_append_left (by rw [h.len]; exact hi)
      cases s with
      | no => trivial
      | v d => obtain ⟨x, h1, h2⟩ := z; exact ⟨x, es.trans h1, h2⟩
      | own ds => obtain ⟨a, xs, h1, h2⟩ := z; exact ⟨a, xs, es.trans h1, h2⟩
      | arg ds => obtain ⟨a, xs, h1, h2⟩ := z; exact ⟨a, xs, es.trans h1, h2⟩
      | ob b => obtain ⟨a, h1, h2⟩ := z; exact ⟨a, es.trans h1, h2⟩
    · rw [List.getElem?_append_right (by omega), List.getElem?_replicate] at e
      split at e
      · cases e; trivial
      · cases e
  · have l1 := lt o1
    have l2 := lt o2
    rw [List.getElem?_append_left l1] at o1
    rw [List.getElem?_append_left l2] at o2
    rw [List.getElem?_append_left (by rw [h.len]; exact l1)] at q1
    rw [List.getElem?_append_left (by rw [h.len]; exact l2)] at q2
    exact h.ap i j a n o1 o2 q1 q2
end L2
set_option Elab.async false
set_option linter.all false
set_option maxRecDepth 100000
namespace L2
open PySem PySem.Spec PyProof.Rows
section
variable {X : Cx} {c : Ct} {elt tg iter : Expr} {ifs : List Expr} {scope : Scope} {pos : Pos} {N' : List Str} {m : Nat} {gi : FA} {g : FG} {p : FT} {f : FE}
theorem SR.write {K : PySem.W.Frag} {hid : Hid} {ρ : Rho} {σ : St} {H : Hp} {a : Addr} {o' : HO} (h : SR K c hid ρ σ H) (hh : hid a = true) (h0 : c.H₀ a = none) (na : ∀ i : Nat, Ow ρ[i]? → σ[i]? ≠ some (some (.ref a))) (hn : ∀ xs, o' ≠ .tup xs := by intro _ e; cases e) : SR K c hid ρ σ (upd H a o') := by
  have tr' : ∀ b o, H b = some o → ∃ o2, (upd H a o') b = some o2 := fun b o q => by
    by_cases e : b = a
    · subst e; exact ⟨_, upd_same⟩
    · exact ⟨o, by rw [upd_ne e]; exact q⟩
  refine ⟨fun b hb => let ⟨o, q⟩ := h.tr b hb; tr' b o q, fun b xs hb q => by
    by_cases e : b = a
    · subst e; rw [upd_same] at q; exact hn _ (Option.some.inj q)
    · rw [upd_ne e] at q; exact h.ht b xs hb q, h.h0, fun b o q m => ?_, fun b o q => let ⟨o2, q2⟩ := h.t0 b o q; tr' b o2 q2, h.c0, h.m0, h.len, fun i s e => ?_, h.ap⟩
  · rw [upd_ne (ne_of_none q h0)]; exact h.kp b o q m
  · have z := h.sl i s e
    have ne : ∀ a', Ow ρ[i]? → σ[i]? = some (some (.ref a')) → a' ≠ a := fun a' o q w => by subst w; exact na i o q
    cases s with
    | no => trivial
    | v d => obtain ⟨x, h1, h2⟩ := z; exact ⟨x, h1, by rw [vw_upd hh]; exact h2⟩
    | own ds => obtain ⟨a', xs, h1, h2, h3, h4, h5⟩ := z; exact ⟨a', xs, h1, by rw [upd_ne (ne a' (by rw [e]; trivial) h1)]; exact h2, h3, h4, by rw [vw_upd hh]; exact h5⟩
    | arg ds => obtain ⟨a', xs, h1, h2, h3, h4, h5⟩ := z; exact ⟨a', xs, h1, by rw [upd_ne (ne a' (by rw [e]; trivial) h1)]; exact h2, h3, h4, by rw [vw_upd hh]; exact h5⟩
    | ob b => obtain ⟨a', h1, h2⟩ := z; exact ⟨a', h1, h2.mono (fun ow o q => by rw [upd_ne (ne a' (by rw [e]; exact ow) h1)]; exact q) (by rw [vw_upd hh]; exact Same.refl _) fun _ q => q⟩
structure CLI (Y : Cx) (K : PySem.W.Frag) (c : Ct) (hid : Hid) (ρ0 : Rho) (H W : Hp) (D0 : Addr) (fp : List Addr) (tn : Nat → Heap → Prop) (g : FG) (p : FT) (f : FE) (ds ys : List D) (n i : Nat) (xs : List V) (ad : List D) (σ' : St) (H' : Hp) (s' : Shared) : Prop where
  e : n = ds.length - i
  hi : i ≤ ds.length
  I : Inv Y [] σ' H' s'
  st : tn i s'.heap
  fr : ∀ b ∈ fp, H' b = none
  sr : SR K c hid ρ0 σ' H'
  sm : Same H H'
  ac : H' D0 = some (.lst xs)
  rp : Reps K (vw H' hid) xs ad
  w : Same W (vw H' hid)
  hl : xs.length ≤ i
  na : ∀ i : Nat, Ow ρ0[i]? → σ'[i]? ≠ some (some (.ref D0))
  go : ∃ rest, compL g p f ρ0 (ds.drop i) = some rest ∧ ad ++ rest = ys
theorem comp_loop (hcalm : X.calm = true) (hT : Tail X.N.length g)
    (hg : ∀ C s₀ H₀ ex, DGt (compCx X N' scope C s₀ H₀ ex) c tg g) (hp : ∀ C s₀ H₀ ex, DIf (compCx X N' scope C s₀ H₀ ex) c ifs p) (he : ∀ C s₀ H₀ ex, DP (compCx X N' scope C s₀ H₀ ex) c .s elt f)
    {σ3 : St} {H H3 : Hp} {s3 s4 : Shared} {hid : Hid} {ρ : Rho} {J : It} {it D0 C : Addr} {fp : List Addr} {tn : Nat → Heap → Prop} {ds ys : List D} {R : Result → Shared → Prop} {W : Hp} (hρ : ρ.length = X.N.length)
    (I : Inv (compCx X N' scope C s3 H3 fp) [] σ3 H3 s4) (sr : SR X.K c hid (ρ ++ List.replicate m .no) σ3 H3) (hh : hid D0 = true) (h00 : c.H₀ D0 = none) (na : ∀ i : Nat, Ow (ρ ++ List.replicate m Sl.no)[i]? → σ3[i]? ≠ some (some (.ref D0))) (hacc : H3 D0 = some (.lst [])) (sm : Same H H3) (nD : H D0 = none) (wv : Same W (vw H3 hid)) (T : Turn X.prog X.w X.K tg J fp it tn) (st : tn 0 s4.heap) (hF : ∀ b ∈ fp, H3 b = none)
    (io : ItB X.K H W J ds) (hz : ds.length ≤ sizeLine) (hc : compL g p f (ρ ++ List.replicate m .no) ds = some ys)
    (hR : ∀ (s' : Shared) (σ' : St) (H' : Hp) (xs : List V), Inv (compCx X N' scope C s3 H3 fp) [] σ' H' s' → Same H H' → H' D0 = some (.lst xs) → Reps X.K (vw H' hid) xs ys → R (.ok .next) s') :
    codeAny (model X.prog X.w) X.A (.compLoop (.ListComp elt [⟨tg, iter, ifs, 0⟩] scope pos) 0 (.ref it) (.ref D0) (compEnvC scope (ownC X.env.cells scope C) C X.env)) R s4 := by
  have stat : ∀ {pins : List (Addr × Obj)} {H' : Hp}, (∀ q ∈ pins, q.1 ∉ fp) → (∀ b ∈ fp, H' b = none) → ∀ b ∈ fp, FpOk (compCx X N' scope C s3 H3 fp) pins H' b := fun {pins H'} hpn hn b hb =>
    ⟨hn b hb, (I.ok.exf b hb).1, I.ok.exfs b hb, .inl hb, (I.ok.exf b hb).2, fun q hq e => hpn q (by have hq' : q ∈ ([] : List (Addr × Obj)) ++ pins := hq; simpa using hq') (by rw [e]; exact hb)⟩
  have no : ∀ q ∈ ([] : List (Addr × Obj)), q.1 ∉ fp := fun q hq => nomatch hq
  refine codeAny_compLoop_turns (fun n s' => ∃ (i : Nat) (xs : List V) (ad : List D) (σ' : St) (H' : Hp), CLI (compCx X N' scope C s3 H3 fp) X.K c hid (ρ ++ List.replicate m .no) H W D0 fp tn g p f ds ys n i xs ad σ' H' s') ?_ ds.length
    ⟨0, [], [], σ3, H3, by simp, Nat.zero_le _, I, st, hF, sr, sm, hacc, .nil, wv, Nat.zero_le _, na, ys, by simpa using hc, rfl⟩
  rintro n s5 ⟨i, xs, ad, σ5, H5, rfl, hi, I5, st5, f5, sr5, sm5, ac5, rp5, w5, hl5, na5, rest, hc5, hy5⟩
  have wH : Same W H5 := w5.trans (vw_le _ _)
  by_cases hlt : i < ds.length
  · have hd : ds[i]? = some ds[i] := List.getElem?_eq_getElem hlt
    have e2 : ds.drop i = ds[i] :: ds.drop (i + 1) := List.drop_eq_getElem_cons hlt
    rw [e2] at hc5
    unfold compL at hc5
    obtain ⟨go, yl⟩ := io.1 i ds[i] H5 hd sm5 wH
    refine thn (T.item (compCx X N' scope C s3 H3 fp) rfl rfl rfl hcalm i [] s5 σ5 H5 (fun _ _ => False) I5 (stat no f5) st5 go) fun r s6 hq_ => ?_
    obtain ⟨u, hr, h6⟩ := hq_
    subst hr
    refine thn h6 fun _ s7 hq_ => ?_
    obtain ⟨x, H7, I7, r7, y7, st7, f7⟩ := hq_
    obtain ⟨s7', rp⟩ := yl x H7 y7
    have rx := rp hid sr5.tr w5
    have I7' := I7.pinned (stat no f7) (T.obj _ _ st7)
    cases e3 : g ds[i] (ρ ++ List.replicate m .no) with
    | none => rw [e3] at hc5; cases hc5
    | some ρ1 =>
      rw [e3] at hc5
      have hc5 : (p ρ1).bind (fun b => if b = true then (f ρ1).bind fun y => (compL g p f (ρ ++ List.replicate m .no) (ds.drop (i + 1))).map (y :: ·) else compL g p f (ρ ++ List.replicate m .no) (ds.drop (i + 1))) = some rest := hc5
      obtain ⟨tl1, tl2⟩ := hT _ _ _ e3
      have fg : ∀ {σ' : St} {H' : Hp}, SR X.K c hid ρ1 σ' H' → SR X.K c hid (ρ ++ List.replicate m .no) σ' H' := fun {σ' H'} z => z.forget tl1 fun j s e => by
        by_cases hj : j < X.N.length
        · exact .inr ((tl2 j hj).trans e)
        · refine .inl ?_
          rw [List.getElem?_append_right (by omega), List.getElem?_replicate] at e
          split at e
          · cases e; rfl
          · cases e
      have keepT : ∀ {σ' : St} {H' : Hp} {s' : Shared}, Inv (compCx X N' scope C s3 H3 fp) ([] ++ pinsAt fp s7.heap) σ' H' s' → tn (i + 1) s'.heap ∧ ∀ b ∈ fp, H' b = none := fun {σ' H' s'} J' => by
        refine ⟨T.keep _ _ _ st7 fun b hb o e => (J'.pin (b, o) (List.mem_append_right _ (List.mem_append_right _ (mem_pinsAt hb e)))).1, fun b hb => ?_⟩
        obtain ⟨o, e, _⟩ := T.obj _ _ st7 b hb
        exact (J'.pin (b, o) (List.mem_append_right _ (List.mem_append_right _ (mem_pinsAt hb e)))).2.1
      refine thn (hg C s3 H3 fp hid _ ds[i] _ s7 σ5 H7 x u (fun σ' H' => H' = H7 ∧ SR X.K c hid ρ1 σ' H7 ∧ OwK (ρ ++ List.replicate m .no) ρ1 σ5 σ') I7' r7 ⟨sr5.ext s7', rx, ρ1, e3, fun σ' z o => ⟨rfl, z, o⟩⟩) fun _ s8 hq_ => ?_
      obtain ⟨σ8, H8, I8, e8, q8, o8⟩ := hq_
      subst e8
      have na8 : ∀ i : Nat, Ow (ρ ++ List.replicate m Sl.no)[i]? → σ8[i]? ≠ some (some (.ref D0)) := fun j o => by
        have o1 : Ow ρ1[j]? := by
          by_cases hj : j < X.N.length
          · rw [tl2 j hj]; exact o
          · exfalso
            rw [List.getElem?_append_right (by omega), List.getElem?_replicate] at o
            split at o <;> exact o.elim
        rw [(o8 j o1).2]
        exact na5 j o
      cases e4 : p ρ1 with
      | none => rw [e4] at hc5; cases hc5
      | some b =>
        rw [e4] at hc5
        have hc5 : (if b = true then (f ρ1).bind fun y => (compL g p f (ρ ++ List.replicate m .no) (ds.drop (i + 1))).map (y :: ·) else compL g p f (ρ ++ List.replicate m .no) (ds.drop (i + 1))) = some rest := hc5
        refine thn (hp C s3 H3 fp hid ρ1 _ s8 σ8 H8 (fun b' H' => b' = b ∧ Same H8 H') I8 ⟨q8, b, e4, fun H' s' => ⟨rfl, s'⟩⟩) fun ok s9 hq_ => ?_
        obtain ⟨H9, I9, e9, sm9⟩ := hq_
        subst e9
        have w9 : Same (vw H5 hid) (vw H9 hid) := vw_same (s7'.trans sm9)
        cases ok with
        | false =>
          have hc5 : compL g p f (ρ ++ List.replicate m .no) (ds.drop (i + 1)) = some rest := hc5
          obtain ⟨k1, k2⟩ := keepT I9
          exact ⟨ds.length - (i + 1), by omega, i + 1, xs, ad, σ8, H9, rfl, hlt, I9.unpinned, k1, k2, fg (q8.ext sm9), sm5.trans (s7'.trans sm9), sm9 _ _ (s7' _ _ ac5), rp5.mono w9, w5.trans w9, by omega, na8, rest, hc5, hy5⟩
        | true =>
          have hc5 : ((f ρ1).bind fun y => (compL g p f (ρ ++ List.replicate m .no) (ds.drop (i + 1))).map (y :: ·)) = some rest := hc5
          cases e5 : f ρ1 with
          | none => rw [e5] at hc5; cases hc5
          | some y =>
            rw [e5] at hc5
            have hc5 : (compL g p f (ρ ++ List.replicate m .no) (ds.drop (i + 1))).map (y :: ·) = some rest := hc5
            cases e6 : compL g p f (ρ ++ List.replicate m .no) (ds.drop (i + 1)) with
            | none => rw [e6] at hc5; cases hc5
            | some rest' =>
              rw [e6] at hc5
              cases hc5
              show wpAny (model X.prog X.w) X.A (eval elt _) _ _ s9
              refine thn (he C s3 H3 fp hid ρ1 _ s9 σ8 H9 (fun v H' => Same H9 H' ∧ Rep X.K (vw H' hid) v y) I9 ⟨q8.ext sm9, y, e5, fun v H' s' r => ⟨s', r⟩⟩) fun v s10 hq_ => ?_
              obtain ⟨z, H10, I10, rz, sm10, rp10⟩ := hq_
              have sm' : Same H5 H10 := s7'.trans (sm9.trans sm10)
              have a10 : H10 D0 = some (.lst xs) := sm' _ _ ac5
              refine thn (mt_append (X := compCx X N' scope C s3 H3 fp) _ s10 σ8 H10 (.ref D0) [z] (.ref D0) [v] (fun _ H' => H' = upd H10 D0 (.lst (xs ++ [z]))) I10 rfl (.cons rz .nil) ⟨D0, xs, z, rfl, rfl, a10, by omega, rfl⟩) fun _ s11 ⟨_, H11, I11, _, e11⟩ => ?_
              subst e11
              obtain ⟨k1, k2⟩ := keepT I11
              have vv : vw (upd H10 D0 (.lst (xs ++ [z]))) hid = vw H10 hid := vw_upd hh
              have w10 : Same (vw H5 hid) (vw H10 hid) := vw_same sm'
              refine ⟨ds.length - (i + 1), by omega, i + 1, xs ++ [z], ad ++ [y], σ8, _, rfl, hlt, I11.unpinned, k1, k2, ?_, fun b o e => ?_, upd_same, ?_, ?_, by simp; omega, na8, rest', e6, by rw [← hy5]; simp⟩
              ·
                have q10 := fg ((q8.ext sm9).ext sm10)
                exact q10.write hh h00 na8
              · rw [upd_ne (ne_of_none e nD)]; exact sm' _ _ (sm5 _ _ e)
              · rw [vv]; exact (rp5.mono w10).append (.cons rp10 .nil)
              · rw [vv]; exact w5.trans w10
  · have e : i = ds.length := by omega
    subst e
    rw [List.drop_eq_nil_of_le (Nat.le_refl _)] at hc5
    cases hc5
    rw [List.append_nil] at hy5
    subst hy5
    refine thn (T.done (compCx X N' scope C s3 H3 fp) rfl rfl rfl hcalm ds.length [] s5 σ5 H5 (fun _ _ => False) I5 (stat no f5) st5 (io.2 H5 sm5 wH)) fun r s6 hq_ => ?_
    obtain ⟨hr, I6⟩ := hq_
    subst hr
    exact hR s6 σ5 H5 xs I6 sm5 ac5 rp5
theorem comp_block (hcalm : X.calm = true) (hk : scope.kind = .function) (hs : okS scope X.env.scope = true) (hn : okN X.N N' scope = true) (hm : N'.length - X.N.length = m) (hT : Tail X.N.length g)
    (hg : ∀ C s₀ H₀ ex, DGt (compCx X N' scope C s₀ H₀ ex) c tg g) (hp : ∀ C s₀ H₀ ex, DIf (compCx X N' scope C s₀ H₀ ex) c ifs p) (he : ∀ C s₀ H₀ ex, DP (compCx X N' scope C s₀ H₀ ex) c .s elt f)
    {E : Value → Shared → Prop} {pins : List (Addr × Obj)} {σ : St} {H : Hp} {s : Shared} {hid : Hid} {ρ : Rho} {J : It} {it : Addr} {fp : List Addr} {tn : Nat → Heap → Prop} {ds ys : List D} {RR : Value → Addr → Result → Shared → Prop}
    (I : Inv X pins σ H s) (sr : SR X.K c hid ρ σ H) (T : Turn X.prog X.w X.K tg J fp it tn) (st : tn 0 s.heap) (hF : ∀ b ∈ fp, FpOk X pins H b) (io : ItB X.K H (vw H hid) J ds) (hz : ds.length ≤ sizeLine) (hc : compL g p f (ρ ++ List.replicate m .no) ds = some ys)
    (hR : ∀ (D C : Addr) (s' : Shared) (H' : Hp) (xs : List V), s.heap.objs.size ≤ D → s.heap.objs.size ≤ C → D ≠ C → H D = none → Same H H' → H' D = some (.lst xs) → Reps X.K (vw H' (hadd hid D)) xs ys → (∃ m, s'.heap.Ns C m) → H' C = none → s'.os = s.os → AllBare s'.gens → HOk X.prog X.w H' s'.heap → Un (frs X.stack) fp H H' s.heap s'.heap → RR (.ref D) C (.ok .next) s') :
    wpAny (model X.prog X.w) X.A (newList []) (fun acc s₃ => wpAny (model X.prog X.w) X.A (newFunctionEnv scope X.env.globals (clo X.env.cells scope.names []) [] X.env.qual none .none (some X.env)) (fun cenv s₄ =>
      codeAny (model X.prog X.w) X.A (.compStart (.ListComp elt [⟨tg, iter, ifs, 0⟩] scope pos) 0 (.ref it) acc { cenv with scope := relabel scope X.env }) (RR acc cenv.locals) s₄) E s₃) E s := by
  refine wpAny_newObj_type (nfe_own fun h₁ hns₁ kp1 oc₁ => ?_)
  dsimp only at hns₁ kp1 oc₁ ⊢
  generalize hH2 : s.heap.push { cls := .type "list", dict := none, data := .seq ([] : List Value).toArray } = H2 at hns₁ kp1 oc₁ ⊢
  have hC : H2.objs.size = s.heap.objs.size + 1 := by rw [← hH2, Heap.size_push]
  have hD : H s.heap.objs.size = none := I.hok.fresh (Nat.le_refl _)
  have I2 : Inv X pins σ (upd H s.heap.objs.size (.lst [])) { s with heap := H2 } := by
    rw [← hH2]
    exact I.laid (t' := s.toks) (fun b o e => Heap.get?_push_of_some _ e) (Nat.le_refl _) ⟨Nat.zero_le _, [], 0, .nil, Heap.get?_push_size _ rfl⟩
  have fpLt : ∀ b ∈ fp, b < s.heap.objs.size := fun b hb => let ⟨o, e, _⟩ := T.obj 0 s.heap st b hb; Heap.lt_size e
  have hF2 : ∀ b ∈ fp, FpOk X pins (upd H s.heap.objs.size (.lst [])) b := fun b hb => ⟨by rw [upd_ne (Nat.ne_of_lt (fpLt b hb))]; exact (hF b hb).1, (hF b hb).2⟩
  have kp0 : ∀ b o, s.heap.get? b = some o → H2.get? b = some o := fun b o e => by rw [← hH2]; exact Heap.get?_push_of_some _ e
  have IY := inv_comp (tk := s.toks) (N' := N') (fp := fp) I2 hF2 (fun b hb => let ⟨o, e, _⟩ := T.obj 0 s.heap st b hb; ⟨o, kp0 b o e⟩) hk hs hn hns₁ kp1 oc₁
  rw [hm] at IY
  dsimp only at IY
  have sr0 : SR X.K c (hadd hid s.heap.objs.size) (ρ ++ List.replicate m .no) (σ ++ List.replicate m none) (upd H s.heap.objs.size (.lst [])) := (sr.hide (same_new hD _) hD upd_same).more m
  have hρ : ρ.length = X.N.length := by rw [← sr.len]; exact I.len
  have nf : hid s.heap.objs.size = false := sr.fresh hD
  have st1 : tn 0 h₁ := T.keep _ _ _ st fun b hb o e => kp1 b o (kp0 b o e)
  have na0 : ∀ i : Nat, Ow (ρ ++ List.replicate m Sl.no)[i]? → (σ ++ List.replicate m none)[i]? ≠ some (some (V.ref s.heap.objs.size)) := (sr.more m).notOw nf
  have wv : Same (vw H hid) (vw (upd H s.heap.objs.size (.lst [])) (hadd hid s.heap.objs.size)) := by rw [vw_new hD]; exact Same.refl _
  have loop : ∀ s4 : Shared, s4 = { s with heap := h₁, toks := s.toks } →
      codeAny (model X.prog X.w) X.A (.compLoop (.ListComp elt [⟨tg, iter, ifs, 0⟩] scope pos) 0 (.ref it) (.ref s.heap.objs.size) (compEnvC scope (ownC X.env.cells scope H2.objs.size) H2.objs.size X.env)) (RR (.ref s.heap.objs.size) H2.objs.size) s4 := by
    rintro s4 rfl
    refine comp_loop (H := H) (hid := hadd hid s.heap.objs.size) (W := vw H hid) hcalm hT hg hp he hρ IY sr0 hadd_self (sr.fresh0 hD) na0 upd_same (same_new hD _) hD wv T st1 (fun b hb => (hF2 b hb).1) io hz hc ?_
    intro s' σ' H' xs I' sm' hx' rp'
    have un1 : Un (frs X.stack) fp H (upd H s.heap.objs.size (.lst [])) s.heap H2 := Un.laid (fun b o e => kp0 b o e) (Nat.le_refl _) hD
    refine hR s.heap.objs.size H2.objs.size s' H' xs (Nat.le_refl _) (by rw [hC]; exact Nat.le_succ _) (by rw [hC]; exact Nat.ne_of_lt (Nat.lt_succ_self _)) hD sm' hx' rp' (let ⟨m, hm, _⟩ := I'.loc; ⟨m, hm⟩) I'.free I'.os I'.bare I'.hok (un1.trans I'.base)
  exact codeAny_compStart_list (loop _ rfl) (T.self X.A 0 _ _ _ st1 (loop _ rfl))
theorem dp_comp (hcalm : X.calm = true) (hT : Tail X.N.length g) (hi : DIb X c tg iter gi)
    (hg : ∀ C s₀ H₀ ex, DGt (compCx X N' scope C s₀ H₀ ex) c tg g) (hp : ∀ C s₀ H₀ ex, DIf (compCx X N' scope C s₀ H₀ ex) c ifs p) (he : ∀ C s₀ H₀ ex, DP (compCx X N' scope C s₀ H₀ ex) c .s elt f)
    (hk : scope.kind = .function := by rfl) (hs : okS scope X.env.scope = true := by kernel_rfl) (hn : okN X.N N' scope = true := by kernel_rfl) (hm : N'.length - X.N.length = m := by rfl) (hset : ∀ x, foldedSetIterable iter X.env x = pure x := by intro _; rfl) :
    DP X c .n (.ListComp elt [⟨tg, iter, ifs, 0⟩] scope pos) (compF m gi g p f) := by
  intro hid ρ pins s σ H Q I hq
  obtain ⟨sr, d, hd, q⟩ := hq
  obtain ⟨ds, ys, e1, hz, hc, rfl⟩ := compF_some hd
  rw [eval_ListComp]
  refine wpAny_comprehension_free (use := none) rfl hset (closureFor_clo fun x hx => I.ok.has x (okS_free hs x hx)) hk (okS_local hs) ?_
  refine thn (hi hid ρ pins s σ H (fun J H' => Same H H' ∧ ItB X.K H' (vw H' hid) J ds) I ⟨sr, ds, e1, fun J H' s1 io => ⟨s1, io⟩⟩) fun v s1 h1 => thn h1 fun itv s2 h2 => ?_
  obtain ⟨it, fp, tn, J, H2, rfl, I2, T, st2, f2, sm, io⟩ := h2
  refine comp_block (RR := fun acc C => compPost (model X.prog X.w) X.A X.xe none (EP X pins σ Q) acc C) hcalm hk hs hn hm hT hg hp he I2 (sr.ext sm) T st2 f2 io hz hc ?_
  intro D C s' H' xs hDge hCge hDC hD sm' hx rp ⟨mm, hns⟩ hC' hos hbare hok hun
  refine ⟨mm, hns, fun h' hsb => ⟨.ref D, H', ?_, rfl, q _ H' (sm.trans sm') ⟨D, xs, ys, rfl, rfl, sm.free hD, hx, rp⟩⟩⟩
  have neC : ∀ b o, s2.heap.get? b = some o → b ≠ C := fun b o e z => by subst z; exact absurd (Heap.lt_size e) (Nat.not_lt.mpr hCge)
  have hun' : Un (frs X.stack) fp H2 H' s2.heap h' := ⟨fun b o e n h1 h2 => (hsb.2 b (neC b o e)).trans (hun.keep b o e n h1 h2), fun b o e n h1 h2 => let ⟨sl, z⟩ := hun.slot b o e n h1 h2; ⟨sl, (hsb.2 b (neC b o e)).trans z⟩, hun.free, fun b o e h2 => let ⟨o', z⟩ := hun.there b o e h2; ⟨o', (hsb.2 b (neC b o e)).trans z⟩, hun.tups, hun.frzs, hun.tbls⟩
  have hok' : HOk X.prog X.w H' h' := fun b o e => by
    have nb : ∀ b' o', H' b' = some o' → b' ≠ C := fun b' o' e' z => by subst z; rw [hC'] at e'; cases e'
    refine (hok b o e).stay (fun c' u hc' z => (hsb.2 c' ?_).trans z) (fun _ z => z) fun _ _ z => z
    rcases hc' with z' | z'
    · rw [z']; exact nb b o e
    · exact nb c' _ z'
  exact I2.call' (s' := { s' with heap := h' }) (ch := fp) hos hun' hok' hbare fun b hb => ⟨(f2 b hb).2.2.2.1, (f2 b hb).2.1, (f2 b hb).2.2.2.2.1, (f2 b hb).2.2.2.2.2⟩
end
end L2
set_option Elab.async false
set_option linter.all false
set_option maxRecDepth 100000
namespace L2
open PySem PySem.Spec PyProof.Rows
end L2
set_option Elab.async false
set_option linter.all false
set_option maxRecDepth 100000
namespace L2
open PySem PySem.Spec PyProof.Rows
mutual
def eqD : D → D → Bool
  | .non, .non => true
  | .bl a, .bl b => a == b
  | .bl a, .int b => (if a then 1 else 0) == b
  | .int a, .bl b => a == (if b then 1 else 0)
  | .int a, .int b => a == b
  | .str a, .str b => a == b
  | .tup a, .tup b => eqDs a b
  | .lst a, .lst b => eqDs a b
  | .lst a, .scr b => eqDs a b
  | .scr a, .lst b => eqDs a b
  | .scr a, .scr b => eqDs a b
  | _, _ => false
def eqDs : List D → List D → Bool
  | [], [] => true
  | x :: xs, y :: ys => eqD x y && eqDs xs ys
  | _, _ => false
end
mutual
def dep : D → Nat
  | .tup a => deps a + 1
  | .lst a => deps a + 1
  | .scr _ => cLine
  | _ => 0
def deps : List D → Nat
  | [] => 0
  | x :: xs => max (dep x) (deps xs)
end
theorem deps_get : ∀ {xs : List D} {i : Nat} {d : D}, xs[i]? = some d → dep d ≤ deps xs
  | [], _, _, h => by simp at h
  | x :: xs, 0, d, h => by simp at h; subst h; unfold deps; exact Nat.le_max_left _ _
  | x :: xs, i + 1, d, h => by
    have := deps_get (xs := xs) (i := i) (d := d) (by simpa using h)
    unfold deps
    exact Nat.le_trans this (Nat.le_max_right _ _)
mutual
theorem eqD_refl : ∀ x : D, eqD x x = true
  | .non => by unfold eqD; rfl
  | .bl a => by unfold eqD; simp
  | .int a => by unfold eqD; simp
  | .str a => by unfold eqD; simp
  | .tup a => by unfold eqD; exact eqDs_refl a
  | .lst a => by unfold eqD; exact eqDs_refl a
  | .scr a => by unfold eqD; exact eqDs_refl a
theorem eqDs_refl : ∀ x : List D, eqDs x x = true
  | [] => by unfold eqDs; rfl
  | x :: xs => by unfold eqDs; rw [eqD_refl x, eqDs_refl xs]; rfl
end
def eqAtI (xs ys : List D) (j : Nat) : Bool := match xs[j]?, ys[j]? with
  | some x, some y => eqD x y
  | _, _ => false
theorem range_all {xs ys : List D} (h : xs.length = ys.length) : (List.range xs.length).all (eqAtI xs ys) = eqDs xs ys := by
  induction xs generalizing ys with
  | nil =>
    cases ys with
    | nil => unfold eqDs; rfl
    | cons y ys => simp at h
  | cons x xs ih =>
    cases ys with
    | nil => simp at h
    | cons y ys =>
      rw [List.length_cons, List.range_succ_eq_map, List.all_cons, List.all_map]
      have e0 : eqAtI (x :: xs) (y :: ys) 0 = eqD x y := rfl
      have e1 : ((eqAtI (x :: xs) (y :: ys)) ∘ Nat.succ) = eqAtI xs ys := by funext j; simp [eqAtI]
      rw [e0, e1, ih (by simpa using h)]
      conv => rhs; unfold eqDs
theorem eqDs_len : ∀ {xs ys : List D}, xs.length ≠ ys.length → eqDs xs ys = false
  | [], [], h => absurd rfl h
  | [], _ :: _, _ => by unfold eqDs; rfl
  | _ :: _, [], _ => by unfold eqDs; rfl
  | x :: xs, y :: ys, h => by unfold eqDs; rw [eqDs_len (xs := xs) (ys := ys) (by simpa using h)]; simp
section
variable {X : Cx} {pins : List (Addr × Obj)} {σ : St} {H : Hp} {s : Shared}
theorem list_tuple_no (I : Inv X pins σ H s) {a : Addr} {xs ys : List V} (h : SqL X.K H a xs) (h' : SqT X.K H a ys) : False := by
  obtain ⟨its, _, pl, _⟩ := I.list h
  obtain ⟨its', _, pt, _⟩ := I.tuple h'
  exact SeqAt.ne_of_list_tuple pl.isList pt rfl
theorem eqz {a b : List D} (h : ∀ zs, eqDs a zs = eqDs b zs) : (∀ z, eqD (.tup a) z = eqD (.tup b) z) ∧ (∀ z, eqD (.lst a) z = eqD (.lst b) z) ∧ ∀ z, eqD (.scr a) z = eqD (.lst b) z := by
  refine ⟨fun z => ?_, fun z => ?_, fun z => ?_⟩ <;> cases z <;> unfold eqD <;> first | exact h _ | rfl
theorem eqz2 {b : List D} : ∀ z, eqD (.scr b) z = eqD (.lst b) z := (eqz fun _ => rfl).2.2
mutual
theorem Rep.eqv (I : Inv X pins σ H s) : ∀ {v : V} {x y : D}, Rep X.K H v x → Rep X.K H v y → ∀ z, eqD x z = eqD y z
  | _, _, _, .non, .non => fun _ => rfl
  | _, _, _, .bl, .bl => fun _ => rfl
  | _, _, _, .int, .int => fun _ => rfl
  | _, _, _, .str, .str => fun _ => rfl
  | _, _, _, .tup h r, .tup h' r' => by rw [I.tuple_inj h h'] at r; exact (eqz (Reps.eqv I r r')).1
  | _, _, _, .lst h r, .lst h' r' => by rw [I.list_inj (SqL.of h) (SqL.of h')] at r; exact (eqz (Reps.eqv I r r')).2.1
  | _, _, _, .lst h r, .scr h' r' => by rw [I.list_inj (SqL.of h) h'.seq] at r; exact fun z => ((eqz (Reps.eqv I r r')).2.1 z).trans (eqz2 z).symm
  | _, _, _, .scr h r, .lst h' r' => by rw [I.list_inj h.seq (SqL.of h')] at r; exact (eqz (Reps.eqv I r r')).2.2
  | _, _, _, .scr h r, .scr h' r' => by rw [I.list_inj h.seq h'.seq] at r; exact fun z => ((eqz (Reps.eqv I r r')).2.2 z).trans (eqz2 z).symm
  | _, _, _, .tup h r, .lst h' r' => (list_tuple_no I (SqL.of h') h).elim
  | _, _, _, .lst h r, .tup h' r' => (list_tuple_no I (SqL.of h) h').elim
  | _, _, _, .tup h r, .scr h' r' => (list_tuple_no I h'.seq h).elim
  | _, _, _, .scr h r, .tup h' r' => (list_tuple_no I h.seq h').elim
theorem Reps.eqv (I : Inv X pins σ H s) : ∀ {v : List V} {x y : List D}, Reps X.K H v x → Reps X.K H v y → ∀ z, eqDs x z = eqDs y z
  | _, _, _, .nil, .nil => fun _ => rfl
  | _, _, _, .cons r t, .cons r' t' => fun z => by
    cases z with
    | nil => unfold eqDs; rfl
    | cons w ws => unfold eqDs; rw [Rep.eqv I r r' w, Reps.eqv I t t' ws]
end
theorem repList (I : Inv X pins σ H s) {a : Addr} {xs : List V} {ds : List D} (h : SqL X.K H a xs) (r : Reps X.K H xs ds) : ∃ its : List Value, s.heap.IsList a its.toArray ∧ its.length = ds.length ∧ ∀ (j : Nat) (hj : j < its.length), ∃ (v : V) (d : D), ds[j]? = some d ∧ RelV v its[j] ∧ Rep X.K H v d := by
  obtain ⟨its, rv, pl, _⟩ := I.list h
  have h1 := rv.length
  have h2 := r.length
  refine ⟨its, pl.isList, by omega, fun j hj => ?_⟩
  have e : xs[j]? = some xs[j] := List.getElem?_eq_getElem (by omega)
  obtain ⟨u, e1, r1⟩ := rv.get e
  obtain ⟨d, e2, r2⟩ := r.get' e
  have : its[j] = u := by rw [List.getElem?_eq_getElem hj] at e1; exact Option.some.inj e1
  rw [this]
  exact ⟨xs[j], d, e2, r1, r2⟩
theorem repTup (I : Inv X pins σ H s) {a : Addr} {xs : List V} {ds : List D} (h : SqT X.K H a xs) (r : Reps X.K H xs ds) : ∃ its : List Value, s.heap.IsTuple a its.toArray ∧ its.length = ds.length ∧ ∀ (j : Nat) (hj : j < its.length), ∃ (v : V) (d : D), ds[j]? = some d ∧ RelV v its[j] ∧ Rep X.K H v d := by
  obtain ⟨its, rv, pl, _⟩ := I.tuple h
  have h1 := rv.length
  have h2 := r.length
  refine ⟨its, pl, by omega, fun j hj => ?_⟩
  have e : xs[j]? = some xs[j] := List.getElem?_eq_getElem (by omega)
  obtain ⟨u, e1, r1⟩ := rv.get e
  obtain ⟨d, e2, r2⟩ := r.get' e
  have : its[j] = u := by rw [List.getElem?_eq_getElem hj] at e1; exact Option.some.inj e1
  rw [this]
  exact ⟨xs[j], d, e2, r1, r2⟩
end
section
variable {X : Cx} {pins : List (Addr × Obj)} {σ : St} {H : Hp} {s : Shared}
theorem in1_units (A : Around) : A.in1.units = A.units + 1 := rfl
theorem els_D {A : Around} {n : Nat} (IH : ∀ {x y : D} {v u : V} {a b : Value} {A : Around}, dep x < n → A.units + dep x < cLine → RelV v a → RelV u b → Rep X.K H v x → Rep X.K H u y → SeqAt.EqAt A s a b (eqD x y)) {xs ys : List D} {its its2 : List Value} (hd : deps xs < n) (hu : A.units + deps xs < cLine)
    (g1 : ∀ (j : Nat) (hj : j < its.length), ∃ (v : V) (d : D), xs[j]? = some d ∧ RelV v its[j] ∧ Rep X.K H v d) (g2 : ∀ (j : Nat) (hj : j < its2.length), ∃ (v : V) (d : D), ys[j]? = some d ∧ RelV v its2[j] ∧ Rep X.K H v d) :
    ∀ j (h1 : j < its.toArray.size) (h2 : j < its2.toArray.size), SeqAt.EqAt A s its.toArray[j] its2.toArray[j] (eqAtI xs ys j) := fun j h1 h2 => by
  obtain ⟨v, d, e1, r1, p1⟩ := g1 j (by simpa using h1)
  obtain ⟨u, d', e2, r2, p2⟩ := g2 j (by simpa using h2)
  have ez : eqAtI xs ys j = eqD d d' := by unfold eqAtI; rw [e1, e2]
  rw [ez]
  have hdd := deps_get e1
  exact IH (by omega) (by omega) (by simpa using r1) (by simpa using r2) p1 p2
theorem lists_D (I : Inv X pins σ H s) {A : Around} {n : Nat} (IH : ∀ {x y : D} {v u : V} {a b : Value} {A : Around}, dep x < n → A.units + dep x < cLine → RelV v a → RelV u b → Rep X.K H v x → Rep X.K H u y → SeqAt.EqAt A s a b (eqD x y)) {xs ys : List D} {zs ws : List V} {a b : Addr} (hd : deps xs < n) (hu : A.units + (deps xs + 1) < cLine)
    (h1 : SqL X.K H a zs) (r1 : Reps X.K H zs xs) (h2 : SqL X.K H b ws) (r2 : Reps X.K H ws ys) : SeqAt.RcAt A s (.ref a) (.ref b) (eqDs xs ys) ∧ SeqAt.RcNeAt A s (.ref a) (.ref b) (!eqDs xs ys) := by
  obtain ⟨its, l1, n1, g1⟩ := repList I h1 r1
  obtain ⟨its2, l2, n2, g2⟩ := repList I h2 r2
  by_cases e : xs.length = ys.length
  · have hsz : its.toArray.size = its2.toArray.size := by simp; omega
    have he := els_D (A := A.in1) IH hd (by rw [in1_units]; omega) g1 g2
    have ea : (List.range its.toArray.size).all (eqAtI xs ys) = eqDs xs ys := by rw [List.size_toArray, n1]; exact range_all e
    rw [← ea]
    exact ⟨SeqAt.RcAt.lists l1 l2 hsz (by omega) he, SeqAt.RcNeAt.lists l1 l2 hsz (by omega) he⟩
  · rw [eqDs_len e]
    have hsz : (its.toArray.size != its2.toArray.size) = true := by simp; omega
    exact ⟨SeqAt.RcAt.lists_lengths l1 l2 hsz (by omega), SeqAt.RcNeAt.lists_lengths l1 l2 hsz (by omega)⟩
theorem tups_D (I : Inv X pins σ H s) {A : Around} {n : Nat} (IH : ∀ {x y : D} {v u : V} {a b : Value} {A : Around}, dep x < n → A.units + dep x < cLine → RelV v a → RelV u b → Rep X.K H v x → Rep X.K H u y → SeqAt.EqAt A s a b (eqD x y)) {xs ys : List D} {zs ws : List V} {a b : Addr} (hd : deps xs < n) (hu : A.units + (deps xs + 1) < cLine)
    (h1 : SqT X.K H a zs) (r1 : Reps X.K H zs xs) (h2 : SqT X.K H b ws) (r2 : Reps X.K H ws ys) : SeqAt.RcAt A s (.ref a) (.ref b) (eqDs xs ys) ∧ SeqAt.RcNeAt A s (.ref a) (.ref b) (!eqDs xs ys) := by
  obtain ⟨its, l1, n1, g1⟩ := repTup I h1 r1
  obtain ⟨its2, l2, n2, g2⟩ := repTup I h2 r2
  have he := els_D (A := A.in1) IH hd (by rw [in1_units]; omega) g1 g2
  have ea : ((List.range (min its.toArray.size its2.toArray.size)).all (eqAtI xs ys) && its.toArray.size == its2.toArray.size) = eqDs xs ys := by
    rw [List.size_toArray, List.size_toArray, n1, n2]
    by_cases e : xs.length = ys.length
    · rw [← e, Nat.min_self, range_all e]; simp
    · rw [eqDs_len e]; simp [e]
  rw [← ea]
  exact ⟨SeqAt.RcAt.tuples l1 l2 (by omega) he, SeqAt.RcNeAt.tuples l1 l2 (by omega) he⟩
theorem eqAt_same (I : Inv X pins σ H s) {A : Around} {a b : Addr} {x y : D} (r1 : Rep X.K H (.ref a) x) (r2 : Rep X.K H (.ref b) y) (e : a = b) : SeqAt.EqAt A s (.ref a) (.ref b) (eqD x y) := by
  subst e
  rw [Rep.eqv I r1 r2, eqD_refl]
  exact SeqAt.EqAt.same _
theorem eqAt_n (I : Inv X pins σ H s) {n : Nat} (IH : ∀ {x y : D} {v u : V} {a b : Value} {A : Around}, dep x < n → A.units + dep x < cLine → RelV v a → RelV u b → Rep X.K H v x → Rep X.K H u y → SeqAt.EqAt A s a b (eqD x y)) {x y : D} {v u : V} {a b : Value} {A : Around} (hd : dep x < n + 1) (hu : A.units + dep x < cLine) (hc : A.units < cLine)
    (ra : RelV v a) (rb : RelV u b) (px : Rep X.K H v x) (py : Rep X.K H u y) : SeqAt.EqAt A s a b (eqD x y) := by
  unfold eqD
  cases px with
  | non =>
    cases ra
    cases py with
    | non =>
      cases rb
      exact SeqAt.EqAt.same _
    | bl =>
      cases rb
      exact SeqAt.EqAt.none_bool _
    | int =>
      obtain ⟨t2, rfl⟩ := rb
      exact SeqAt.EqAt.none_int _ _
    | str =>
      obtain ⟨t2, rfl⟩ := rb
      exact SeqAt.EqAt.none_str _ _
    | @tup a2 _ _ h2 r2 =>
      cases rb
      obtain ⟨its2, l2, _⟩ := repTup I h2 r2
      exact SeqAt.EqAt.none_tuple l2 (by omega)
    | @lst a2 _ _ h2 r2 =>
      cases rb
      obtain ⟨its2, l2, _⟩ := repList I (SqL.of h2) r2
      exact SeqAt.EqAt.none_list l2 (by omega)
    | @scr a2 _ _ h2 r2 =>
      cases rb
      obtain ⟨its2, l2, _⟩ := repList I h2.seq r2
      exact SeqAt.EqAt.none_list l2 (by omega)
  | bl =>
    cases ra
    cases py with
    | non =>
      cases rb
      exact SeqAt.EqAt.bool_none _
    | bl =>
      cases rb
      exact SeqAt.EqAt.bool_bool _ _
    | int =>
      obtain ⟨t2, rfl⟩ := rb
      exact SeqAt.EqAt.bool_int _ _ _
    | str =>
      obtain ⟨t2, rfl⟩ := rb
      exact SeqAt.EqAt.bool_str _ _ _
    | @tup a2 _ _ h2 r2 =>
      cases rb
      obtain ⟨its2, l2, _⟩ := repTup I h2 r2
      exact SeqAt.EqAt.bool_tuple _ l2 (by omega)
    | @lst a2 _ _ h2 r2 =>
      cases rb
      obtain ⟨its2, l2, _⟩ := repList I (SqL.of h2) r2
      exact SeqAt.EqAt.bool_list _ l2 (by omega)
    | @scr a2 _ _ h2 r2 =>
      cases rb
      obtain ⟨its2, l2, _⟩ := repList I h2.seq r2
      exact SeqAt.EqAt.bool_list _ l2 (by omega)
  | int =>
    obtain ⟨t1, rfl⟩ := ra
    cases py with
    | non =>
      cases rb
      exact SeqAt.EqAt.int_none _ _
    | bl =>
      cases rb
      exact SeqAt.EqAt.int_bool _ _ _
    | int =>
      obtain ⟨t2, rfl⟩ := rb
      exact SeqAt.EqAt.int_int _ _ _ _
    | str =>
      obtain ⟨t2, rfl⟩ := rb
      exact SeqAt.EqAt.int_str _ _ _ _
    | @tup a2 _ _ h2 r2 =>
      cases rb
      obtain ⟨its2, l2, _⟩ := repTup I h2 r2
      exact SeqAt.EqAt.int_tuple _ _ l2 (by omega)
    | @lst a2 _ _ h2 r2 =>
      cases rb
      obtain ⟨its2, l2, _⟩ := repList I (SqL.of h2) r2
      exact SeqAt.EqAt.int_list _ _ l2 (by omega)
    | @scr a2 _ _ h2 r2 =>
      cases rb
      obtain ⟨its2, l2, _⟩ := repList I h2.seq r2
      exact SeqAt.EqAt.int_list _ _ l2 (by omega)
  | str =>
    obtain ⟨t1, rfl⟩ := ra
    cases py with
    | non =>
      cases rb
      exact SeqAt.EqAt.str_none _ _
    | bl =>
      cases rb
      exact SeqAt.EqAt.str_bool _ _ _
    | int =>
      obtain ⟨t2, rfl⟩ := rb
      exact SeqAt.EqAt.str_int _ _ _ _
    | str =>
      obtain ⟨t2, rfl⟩ := rb
      exact SeqAt.EqAt.str_str _ _ _ _
    | @tup a2 _ _ h2 r2 =>
      cases rb
      obtain ⟨its2, l2, _⟩ := repTup I h2 r2
      exact SeqAt.EqAt.str_tuple _ _ l2 (by omega)
    | @lst a2 _ _ h2 r2 =>
      cases rb
      obtain ⟨its2, l2, _⟩ := repList I (SqL.of h2) r2
      exact SeqAt.EqAt.str_list _ _ l2 (by omega)
    | @scr a2 _ _ h2 r2 =>
      cases rb
      obtain ⟨its2, l2, _⟩ := repList I h2.seq r2
      exact SeqAt.EqAt.str_list _ _ l2 (by omega)
  | @tup a1 _ _ h1 r1 =>
    cases ra
    obtain ⟨its, l1, _⟩ := repTup I h1 r1
    cases py with
    | non =>
      cases rb
      exact SeqAt.EqAt.tuple_none l1 (by omega)
    | bl =>
      cases rb
      exact SeqAt.EqAt.tuple_bool _ l1 (by omega)
    | int =>
      obtain ⟨t2, rfl⟩ := rb
      exact SeqAt.EqAt.tuple_int _ _ l1 (by omega)
    | str =>
      obtain ⟨t2, rfl⟩ := rb
      exact SeqAt.EqAt.tuple_str _ _ l1 (by omega)
    | @tup a2 _ _ h2 r2 =>
      cases rb
      obtain ⟨its2, l2, _⟩ := repTup I h2 r2
      by_cases e : a1 = a2
      · exact (eqAt_same I (.tup h1 r1) (.tup h2 r2) e)
      · exact SeqAt.EqAt.of_refs e (tups_D I IH (by unfold dep at hd; omega) (by unfold dep at hu; omega) h1 r1 h2 r2).1
    | @lst a2 _ _ h2 r2 =>
      cases rb
      obtain ⟨its2, l2, _⟩ := repList I (SqL.of h2) r2
      exact SeqAt.EqAt.tuple_list l1 l2 (by omega)
    | @scr a2 _ _ h2 r2 =>
      cases rb
      obtain ⟨its2, l2, _⟩ := repList I h2.seq r2
      exact SeqAt.EqAt.tuple_list l1 l2 (by omega)
  | @scr a1 _ _ h1 r1 => exact absurd hu (by unfold dep; omega)
  | @lst a1 _ _ h1 r1 =>
    cases ra
    obtain ⟨its, l1, _⟩ := repList I (SqL.of h1) r1
    cases py with
    | non =>
      cases rb
      exact SeqAt.EqAt.list_none l1 (by omega)
    | bl =>
      cases rb
      exact SeqAt.EqAt.list_bool _ l1 (by omega)
    | int =>
      obtain ⟨t2, rfl⟩ := rb
      exact SeqAt.EqAt.list_int _ _ l1 (by omega)
    | str =>
      obtain ⟨t2, rfl⟩ := rb
      exact SeqAt.EqAt.list_str _ _ l1 (by omega)
    | @tup a2 _ _ h2 r2 =>
      cases rb
      obtain ⟨its2, l2, _⟩ := repTup I h2 r2
      exact SeqAt.EqAt.list_tuple l1 l2 (by omega)
    | @lst a2 _ _ h2 r2 =>
      cases rb
      obtain ⟨its2, l2, _⟩ := repList I (SqL.of h2) r2
      by_cases e : a1 = a2
      · exact (eqAt_same I (.lst h1 r1) (.lst h2 r2) e)
      · exact SeqAt.EqAt.of_refs e (lists_D I IH (by unfold dep at hd; omega) (by unfold dep at hu; omega) (SqL.of h1) r1 (SqL.of h2) r2).1
    | @scr a2 _ _ h2 r2 =>
      cases rb
      obtain ⟨its2, l2, _⟩ := repList I h2.seq r2
      by_cases e : a1 = a2
      · exact (eqAt_same I (.lst h1 r1) (.scr h2 r2) e)
      · exact SeqAt.EqAt.of_refs e (lists_D I IH (by unfold dep at hd; omega) (by unfold dep at hu; omega) (SqL.of h1) r1 h2.seq r2).1
theorem eqAt_D (I : Inv X pins σ H s) : ∀ (n : Nat) {x y : D} {v u : V} {a b : Value} {A : Around}, dep x < n → A.units + dep x < cLine → RelV v a → RelV u b → Rep X.K H v x → Rep X.K H u y → SeqAt.EqAt A s a b (eqD x y)
  | 0, x, y, v, u, a, b, A, hd, hu, ra, rb, px, py => absurd hd (Nat.not_lt_zero _)
  | n + 1, x, y, v, u, a, b, A, hd, hu, ra, rb, px, py => eqAt_n I (fun h1 h2 h3 h4 h5 h6 => eqAt_D I n h1 h2 h3 h4 h5 h6) hd hu (by omega) ra rb px py
theorem rcAt_D (I : Inv X pins σ H s) {x y : D} {v u : V} {a b : Value} {A : Around} (hu : A.units + dep x < cLine) (hc : A.units < cLine) (ra : RelV v a) (rb : RelV u b) (px : Rep X.K H v x) (py : Rep X.K H u y) : SeqAt.RcAt A s a b (eqD x y) := by
  have IH := fun {x y : D} {v u : V} {a b : Value} {A : Around} (n : Nat) => @eqAt_D X pins σ H s I n x y v u a b A
  have IH : ∀ {n : Nat} {x y : D} {v u : V} {a b : Value} {A : Around}, dep x < n → A.units + dep x < cLine → RelV v a → RelV u b → Rep X.K H v x → Rep X.K H u y → SeqAt.EqAt A s a b (eqD x y) := fun {n x y v u a b A} => eqAt_D I n
  unfold eqD
  cases px with
  | non =>
    cases ra
    cases py with
    | non =>
      cases rb
      exact SeqAt.RcAt.none_none
    | bl =>
      cases rb
      exact SeqAt.RcAt.none_bool _
    | int =>
      obtain ⟨t2, rfl⟩ := rb
      exact SeqAt.RcAt.none_int _ _
    | str =>
      obtain ⟨t2, rfl⟩ := rb
      exact SeqAt.RcAt.none_str _ _
    | @tup a2 _ _ h2 r2 =>
      cases rb
      obtain ⟨its2, l2, _⟩ := repTup I h2 r2
      exact SeqAt.RcAt.none_tuple  l2 (by omega)
    | @lst a2 _ _ h2 r2 =>
      cases rb
      obtain ⟨its2, l2, _⟩ := repList I (SqL.of h2) r2
      exact SeqAt.RcAt.none_list  l2 (by omega)
    | @scr a2 _ _ h2 r2 =>
      cases rb
      obtain ⟨its2, l2, _⟩ := repList I h2.seq r2
      exact SeqAt.RcAt.none_list  l2 (by omega)
  | bl =>
    cases ra
    cases py with
    | non =>
      cases rb
      exact SeqAt.RcAt.bool_none _
    | bl =>
      cases rb
      exact SeqAt.RcAt.bool_bool _ _
    | int =>
      obtain ⟨t2, rfl⟩ := rb
      exact SeqAt.RcAt.bool_int _ _ _
    | str =>
      obtain ⟨t2, rfl⟩ := rb
      exact SeqAt.RcAt.bool_str _ _ _
    | @tup a2 _ _ h2 r2 =>
      cases rb
      obtain ⟨its2, l2, _⟩ := repTup I h2 r2
      exact SeqAt.RcAt.bool_tuple _ l2 (by omega)
    | @lst a2 _ _ h2 r2 =>
      cases rb
      obtain ⟨its2, l2, _⟩ := repList I (SqL.of h2) r2
      exact SeqAt.RcAt.bool_list _ l2 (by omega)
    | @scr a2 _ _ h2 r2 =>
      cases rb
      obtain ⟨its2, l2, _⟩ := repList I h2.seq r2
      exact SeqAt.RcAt.bool_list _ l2 (by omega)
  | int =>
    obtain ⟨t1, rfl⟩ := ra
    cases py with
    | non =>
      cases rb
      exact SeqAt.RcAt.int_none _ _
    | bl =>
      cases rb
      exact SeqAt.RcAt.int_bool _ _ _
    | int =>
      obtain ⟨t2, rfl⟩ := rb
      exact SeqAt.RcAt.int_int _ _ _ _
    | str =>
      obtain ⟨t2, rfl⟩ := rb
      exact SeqAt.RcAt.int_str _ _ _ _
    | @tup a2 _ _ h2 r2 =>
      cases rb
      obtain ⟨its2, l2, _⟩ := repTup I h2 r2
      exact SeqAt.RcAt.int_tuple _ _ l2 (by omega)
    | @lst a2 _ _ h2 r2 =>
      cases rb
      obtain ⟨its2, l2, _⟩ := repList I (SqL.of h2) r2
      exact SeqAt.RcAt.int_list _ _ l2 (by omega)
    | @scr a2 _ _ h2 r2 =>
      cases rb
      obtain ⟨its2, l2, _⟩ := repList I h2.seq r2
      exact SeqAt.RcAt.int_list _ _ l2 (by omega)
  | str =>
    obtain ⟨t1, rfl⟩ := ra
    cases py with
    | non =>
      cases rb
      exact SeqAt.RcAt.str_none _ _
    | bl =>
      cases rb
      exact SeqAt.RcAt.str_bool _ _ _
    | int =>
      obtain ⟨t2, rfl⟩ := rb
      exact SeqAt.RcAt.str_int _ _ _ _
    | str =>
      obtain ⟨t2, rfl⟩ := rb
      exact SeqAt.RcAt.str_str _ _ _ _
    | @tup a2 _ _ h2 r2 =>
      cases rb
      obtain ⟨its2, l2, _⟩ := repTup I h2 r2
      exact SeqAt.RcAt.str_tuple _ _ l2 (by omega)
    | @lst a2 _ _ h2 r2 =>
      cases rb
      obtain ⟨its2, l2, _⟩ := repList I (SqL.of h2) r2
      exact SeqAt.RcAt.str_list _ _ l2 (by omega)
    | @scr a2 _ _ h2 r2 =>
      cases rb
      obtain ⟨its2, l2, _⟩ := repList I h2.seq r2
      exact SeqAt.RcAt.str_list _ _ l2 (by omega)
  | @tup a1 _ _ h1 r1 =>
    cases ra
    obtain ⟨its, l1, _⟩ := repTup I h1 r1
    cases py with
    | non =>
      cases rb
      exact SeqAt.RcAt.tuple_none  l1 (by omega)
    | bl =>
      cases rb
      exact SeqAt.RcAt.tuple_bool _ l1 (by omega)
    | int =>
      obtain ⟨t2, rfl⟩ := rb
      exact SeqAt.RcAt.tuple_int _ _ l1 (by omega)
    | str =>
      obtain ⟨t2, rfl⟩ := rb
      exact SeqAt.RcAt.tuple_str _ _ l1 (by omega)
    | @tup a2 _ _ h2 r2 =>
      cases rb
      obtain ⟨its2, l2, _⟩ := repTup I h2 r2
      exact (tups_D I IH (Nat.lt_succ_self _) (by unfold dep at hu; omega) h1 r1 h2 r2).1
    | @lst a2 _ _ h2 r2 =>
      cases rb
      obtain ⟨its2, l2, _⟩ := repList I (SqL.of h2) r2
      exact SeqAt.RcAt.tuple_list l1 l2 (by omega)
    | @scr a2 _ _ h2 r2 =>
      cases rb
      obtain ⟨its2, l2, _⟩ := repList I h2.seq r2
      exact SeqAt.RcAt.tuple_list l1 l2 (by omega)
  | @scr a1 _ _ h1 r1 => exact absurd hu (by unfold dep; omega)
  | @lst a1 _ _ h1 r1 =>
    cases ra
    obtain ⟨its, l1, _⟩ := repList I (SqL.of h1) r1
    cases py with
    | non =>
      cases rb
      exact SeqAt.RcAt.list_none  l1 (by omega)
    | bl =>
      cases rb
      exact SeqAt.RcAt.list_bool _ l1 (by omega)
    | int =>
      obtain ⟨t2, rfl⟩ := rb
      exact SeqAt.RcAt.list_int _ _ l1 (by omega)
    | str =>
      obtain ⟨t2, rfl⟩ := rb
      exact SeqAt.RcAt.list_str _ _ l1 (by omega)
    | @tup a2 _ _ h2 r2 =>
      cases rb
      obtain ⟨its2, l2, _⟩ := repTup I h2 r2
      exact SeqAt.RcAt.list_tuple l1 l2 (by omega)
    | @lst a2 _ _ h2 r2 =>
      cases rb
      obtain ⟨its2, l2, _⟩ := repList I (SqL.of h2) r2
      exact (lists_D I IH (Nat.lt_succ_self _) (by unfold dep at hu; omega) (SqL.of h1) r1 (SqL.of h2) r2).1
    | @scr a2 _ _ h2 r2 =>
      cases rb
      obtain ⟨its2, l2, _⟩ := repList I h2.seq r2
      exact (lists_D I IH (Nat.lt_succ_self _) (by unfold dep at hu; omega) (SqL.of h1) r1 h2.seq r2).1
theorem rcNeAt_D (I : Inv X pins σ H s) {x y : D} {v u : V} {a b : Value} {A : Around} (hu : A.units + dep x < cLine) (hc : A.units < cLine) (ra : RelV v a) (rb : RelV u b) (px : Rep X.K H v x) (py : Rep X.K H u y) : SeqAt.RcNeAt A s a b (!eqD x y) := by
  have IH : ∀ {n : Nat} {x y : D} {v u : V} {a b : Value} {A : Around}, dep x < n → A.units + dep x < cLine → RelV v a → RelV u b → Rep X.K H v x → Rep X.K H u y → SeqAt.EqAt A s a b (eqD x y) := fun {n x y v u a b A} => eqAt_D I n
  unfold eqD
  cases px with
  | non =>
    cases ra
    cases py with
    | non =>
      cases rb
      exact SeqAt.RcNeAt.none_none
    | bl =>
      cases rb
      exact SeqAt.RcNeAt.none_bool _
    | int =>
      obtain ⟨t2, rfl⟩ := rb
      exact SeqAt.RcNeAt.none_int _ _
    | str =>
      obtain ⟨t2, rfl⟩ := rb
      exact SeqAt.RcNeAt.none_str _ _
    | @tup a2 _ _ h2 r2 =>
      cases rb
      obtain ⟨its2, l2, _⟩ := repTup I h2 r2
      exact SeqAt.RcNeAt.none_tuple  l2 (by omega)
    | @lst a2 _ _ h2 r2 =>
      cases rb
      obtain ⟨its2, l2, _⟩ := repList I (SqL.of h2) r2
      exact SeqAt.RcNeAt.none_list  l2 (by omega)
    | @scr a2 _ _ h2 r2 =>
      cases rb
      obtain ⟨its2, l2, _⟩ := repList I h2.seq r2
      exact SeqAt.RcNeAt.none_list  l2 (by omega)
  | bl =>
    cases ra
    cases py with
    | non =>
      cases rb
      exact SeqAt.RcNeAt.bool_none _
    | bl =>
      cases rb
      exact SeqAt.RcNeAt.bool_bool _ _
    | int =>
      obtain ⟨t2, rfl⟩ := rb
      exact SeqAt.RcNeAt.bool_int _ _ _
    | str =>
      obtain ⟨t2, rfl⟩ := rb
      exact SeqAt.RcNeAt.bool_str _ _ _
    | @tup a2 _ _ h2 r2 =>
      cases rb
      obtain ⟨its2, l2, _⟩ := repTup I h2 r2
      exact SeqAt.RcNeAt.bool_tuple _ l2 (by omega)
    | @lst a2 _ _ h2 r2 =>
      cases rb
      obtain ⟨its2, l2, _⟩ := repList I (SqL.of h2) r2
      exact SeqAt.RcNeAt.bool_list _ l2 (by omega)
    | @scr a2 _ _ h2 r2 =>
      cases rb
      obtain ⟨its2, l2, _⟩ := repList I h2.seq r2
      exact SeqAt.RcNeAt.bool_list _ l2 (by omega)
  | int =>
    obtain ⟨t1, rfl⟩ := ra
    cases py with
    | non =>
      cases rb
      exact SeqAt.RcNeAt.int_none _ _
    | bl =>
      cases rb
      exact SeqAt.RcNeAt.int_bool _ _ _
    | int =>
      obtain ⟨t2, rfl⟩ := rb
      exact SeqAt.RcNeAt.int_int _ _ _ _
    | str =>
      obtain ⟨t2, rfl⟩ := rb
      exact SeqAt.RcNeAt.int_str _ _ _ _
    | @tup a2 _ _ h2 r2 =>
      cases rb
      obtain ⟨its2, l2, _⟩ := repTup I h2 r2
      exact SeqAt.RcNeAt.int_tuple _ _ l2 (by omega)
    | @lst a2 _ _ h2 r2 =>
      cases rb
      obtain ⟨its2, l2, _⟩ := repList I (SqL.of h2) r2
      exact SeqAt.RcNeAt.int_list _ _ l2 (by omega)
    | @scr a2 _ _ h2 r2 =>
      cases rb
      obtain ⟨its2, l2, _⟩ := repList I h2.seq r2
      exact SeqAt.RcNeAt.int_list _ _ l2 (by omega)
  | str =>
    obtain ⟨t1, rfl⟩ := ra
    cases py with
    | non =>
      cases rb
      exact SeqAt.RcNeAt.str_none _ _
    | bl =>
      cases rb
      exact SeqAt.RcNeAt.str_bool _ _ _
    | int =>
      obtain ⟨t2, rfl⟩ := rb
      exact SeqAt.RcNeAt.str_int _ _ _ _
    | str =>
      obtain ⟨t2, rfl⟩ := rb
      exact SeqAt.RcNeAt.str_str _ _ _ _
    | @tup a2 _ _ h2 r2 =>
      cases rb
      obtain ⟨its2, l2, _⟩ := repTup I h2 r2
      exact SeqAt.RcNeAt.str_tuple _ _ l2 (by omega)
    | @lst a2 _ _ h2 r2 =>
      cases rb
      obtain ⟨its2, l2, _⟩ := repList I (SqL.of h2) r2
      exact SeqAt.RcNeAt.str_list _ _ l2 (by omega)
    | @scr a2 _ _ h2 r2 =>
      cases rb
      obtain ⟨its2, l2, _⟩ := repList I h2.seq r2
      exact SeqAt.RcNeAt.str_list _ _ l2 (by omega)
  | @tup a1 _ _ h1 r1 =>
    cases ra
    obtain ⟨its, l1, _⟩ := repTup I h1 r1
    cases py with
    | non =>
      cases rb
      exact SeqAt.RcNeAt.tuple_none  l1 (by omega)
    | bl =>
      cases rb
      exact SeqAt.RcNeAt.tuple_bool _ l1 (by omega)
    | int =>
      obtain ⟨t2, rfl⟩ := rb
      exact SeqAt.RcNeAt.tuple_int _ _ l1 (by omega)
    | str =>
      obtain ⟨t2, rfl⟩ := rb
      exact SeqAt.RcNeAt.tuple_str _ _ l1 (by omega)
    | @tup a2 _ _ h2 r2 =>
      cases rb
      obtain ⟨its2, l2, _⟩ := repTup I h2 r2
      exact (tups_D I IH (Nat.lt_succ_self _) (by unfold dep at hu; omega) h1 r1 h2 r2).2
    | @lst a2 _ _ h2 r2 =>
      cases rb
      obtain ⟨its2, l2, _⟩ := repList I (SqL.of h2) r2
      exact SeqAt.RcNeAt.tuple_list l1 l2 (by omega)
    | @scr a2 _ _ h2 r2 =>
      cases rb
      obtain ⟨its2, l2, _⟩ := repList I h2.seq r2
      exact SeqAt.RcNeAt.tuple_list l1 l2 (by omega)
  | @scr a1 _ _ h1 r1 => exact absurd hu (by unfold dep; omega)
  | @lst a1 _ _ h1 r1 =>
    cases ra
    obtain ⟨its, l1, _⟩ := repList I (SqL.of h1) r1
    cases py with
    | non =>
      cases rb
      exact SeqAt.RcNeAt.list_none  l1 (by omega)
    | bl =>
      cases rb
      exact SeqAt.RcNeAt.list_bool _ l1 (by omega)
    | int =>
      obtain ⟨t2, rfl⟩ := rb
      exact SeqAt.RcNeAt.list_int _ _ l1 (by omega)
    | str =>
      obtain ⟨t2, rfl⟩ := rb
      exact SeqAt.RcNeAt.list_str _ _ l1 (by omega)
    | @tup a2 _ _ h2 r2 =>
      cases rb
      obtain ⟨its2, l2, _⟩ := repTup I h2 r2
      exact SeqAt.RcNeAt.list_tuple l1 l2 (by omega)
    | @lst a2 _ _ h2 r2 =>
      cases rb
      obtain ⟨its2, l2, _⟩ := repList I (SqL.of h2) r2
      exact (lists_D I IH (Nat.lt_succ_self _) (by unfold dep at hu; omega) (SqL.of h1) r1 (SqL.of h2) r2).2
    | @scr a2 _ _ h2 r2 =>
      cases rb
      obtain ⟨its2, l2, _⟩ := repList I h2.seq r2
      exact (lists_D I IH (Nat.lt_succ_self _) (by unfold dep at hu; omega) (SqL.of h1) r1 h2.seq r2).2
end
theorem Rep1.full {K : PySem.W.Frag} {H : Hp} {hid : Hid} {v : V} {d : D} (h : Rep1 K H (vw H hid) v d) : Rep K H v d := by
  rcases h with h | ⟨a, xs, ds, rfl, rfl, h1, h2⟩
  · exact h.mono (vw_le _ _)
  · exact .lst h1 (h2.mono (vw_le _ _))
def rEqD (K : PySem.W.Frag) : R2 := fun v u H Q => ∃ x y, Rep K H v x ∧ Rep K H u y ∧ dep x ≤ 32 ∧ Q (.bl (eqD x y)) H
def rNeD (K : PySem.W.Frag) : R2 := fun v u H Q => ∃ x y, Rep K H v x ∧ Rep K H u y ∧ dep x ≤ 32 ∧ Q (.bl (!eqD x y)) H
theorem op_eqD {X : Cx} (hu : X.A.units + 64 < cLine) : OpR X (compareOp .Eq) (rEqD X.K) := by
  intro pins s σ H x y v u Q I rx ry h
  obtain ⟨dx, dy, p1, p2, hd, q⟩ := h
  exact rcAt_D I (by omega) (by omega) rx ry p1 p2 X.prog X.w _ _ ⟨.bl _, H, I, rfl, q⟩
theorem op_neD {X : Cx} (hu : X.A.units + 64 < cLine) : OpR X (compareOp .NotEq) (rNeD X.K) := by
  intro pins s σ H x y v u Q I rx ry h
  obtain ⟨dx, dy, p1, p2, hd, q⟩ := h
  exact rcNeAt_D I (by omega) (by omega) rx ry p1 p2 X.prog X.w _ _ ⟨.bl _, H, I, rfl, q⟩
def eqF : D → D → Option D := fun x y => if dep x ≤ 32 then some (.bl (eqD x y)) else none
def neF : D → D → Option D := fun x y => if dep x ≤ 32 then some (.bl (!eqD x y)) else none
theorem od_eq {K : PySem.W.Frag} : OpD K .s (rEqD K) eqF := by
  intro H hid v u x y d Q hf h r1 r2 q
  unfold eqF at h
  split at h
  · cases h; exact ⟨x, y, r1.full, r2.full, ‹_›, q _ H (Same.refl _) .bl⟩
  · cases h
theorem od_ne {K : PySem.W.Frag} : OpD K .s (rNeD K) neF := by
  intro H hid v u x y d Q hf h r1 r2 q
  unfold neF at h
  split at h
  · cases h; exact ⟨x, y, r1.full, r2.full, ‹_›, q _ H (Same.refl _) .bl⟩
  · cases h
end L2
set_option Elab.async false
set_option linter.all false
set_option maxRecDepth 100000
namespace L2
open PySem PySem.Spec PyProof.Rows
def isT (T : String) : D → Bool
  | .non => T == "NoneType"
  | .bl _ => T == "bool" || T == "int"
  | .int _ => T == "int"
  | .str _ => T == "str"
  | .tup _ => T == "tuple"
  | .lst _ => T == "list"
  | .scr _ => T == "list"
structure KT (T : String) : Prop where
  n : ∀ K, PySem.W.kitOne K (.type "NoneType") (.type T) = some (T == "NoneType")
  b : ∀ K, PySem.W.kitOne K (.type "bool") (.type T) = some (T == "bool" || T == "int")
  i : ∀ K, PySem.W.kitOne K (.type "int") (.type T) = some (T == "int")
  s : ∀ K, PySem.W.kitOne K (.type "str") (.type T) = some (T == "str")
  t : ∀ K, PySem.W.kitOne K (.type "tuple") (.type T) = some (T == "tuple")
  l : ∀ K, PySem.W.kitOne K (.type "list") (.type T) = some (T == "list")
theorem kt_int : KT "int" := ⟨fun _ => by kernel_rfl, fun _ => by kernel_rfl, fun _ => by kernel_rfl, fun _ => by kernel_rfl, fun _ => by kernel_rfl, fun _ => by kernel_rfl⟩
theorem kt_bool : KT "bool" := ⟨fun _ => by kernel_rfl, fun _ => by kernel_rfl, fun _ => by kernel_rfl, fun _ => by kernel_rfl, fun _ => by kernel_rfl, fun _ => by kernel_rfl⟩
theorem kt_list : KT "list" := ⟨fun _ => by kernel_rfl, fun _ => by kernel_rfl, fun _ => by kernel_rfl, fun _ => by kernel_rfl, fun _ => by kernel_rfl, fun _ => by kernel_rfl⟩
theorem kt_tuple : KT "tuple" := ⟨fun _ => by kernel_rfl, fun _ => by kernel_rfl, fun _ => by kernel_rfl, fun _ => by kernel_rfl, fun _ => by kernel_rfl, fun _ => by kernel_rfl⟩
section
variable {X : Cx} {c : Ct} {e o : Expr} {k : Kd} {f g : FE} {pos p p2 : Pos}
theorem call_isi {T : String} (kt : KT T) : CallR X (.builtin "isinstance") (fun xs H Q => ∃ v d, xs = [v, .ty T] ∧ Rep X.K H v d ∧ Q (.bl (isT T d)) H) := by
  intro pins s σ H xs us Q I r h
  obtain ⟨v, d, rfl, rp, q⟩ := h
  obtain ⟨u, w', rfl, rx, ry⟩ := vals2 r
  cases ry
  have fin : ∀ tk, EP X pins σ Q (.bool (isT T d)) { s with toks := tk } := fun tk => ⟨.bl _, H, I.tok _, rfl, q⟩
  cases rp with
  | non => cases rx; exact PySem.W.kia_one PySem.W.kitx_none I.kIn True.intro (kt.n _) (fun z => nomatch z) fin
  | bl => cases rx; exact PySem.W.kia_one PySem.W.kitx_bool I.kIn True.intro (kt.b _) (fun z => nomatch z) fin
  | int => obtain ⟨t, rfl⟩ := rx; exact PySem.W.kia_one PySem.W.kitx_int I.kIn True.intro (kt.i _) (fun z => nomatch z) fin
  | str => obtain ⟨t, rfl⟩ := rx; exact PySem.W.kia_one PySem.W.kitx_str I.kIn True.intro (kt.s _) (fun z => nomatch z) fin
  | tup h1 h2 =>
    cases rx
    obtain ⟨⟨ob, ho, hc⟩, _⟩ := I.tupleN h1
    exact PySem.W.kia_one PySem.W.kitx_tuple I.kIn ⟨ob, ho, hc⟩ (kt.t _) (fun z => nomatch z) fin
  | lst h1 h2 =>
    cases rx
    obtain ⟨its, _, ⟨ob, n, ho, hc, _⟩, _⟩ := I.list (SqL.of h1)
    exact PySem.W.kia_one PySem.W.kitx_list I.kIn ⟨ob, ho, hc⟩ (kt.l _) (fun z => nomatch z) fin
  | scr h1 h2 =>
    cases rx
    obtain ⟨its, _, ⟨ob, n, ho, hc, _⟩, _⟩ := I.list h1.seq
    exact PySem.W.kia_one PySem.W.kitx_list I.kIn ⟨ob, ho, hc⟩ (kt.l _) (fun z => nomatch z) fin
def isiF (T : String) (f : FE) : FE := fun ρ => (f ρ).map fun d => .bl (isT T d)
theorem dp_isi (T : String) {y : Str} (kt : KT T) (he : DP X c k e f) (hm : X.mg "isinstance" = none) (hmT : X.mg y = none) (hg : Gl X "isinstance" := by rfl) (hgT : Gl X y := by rfl) (hv : bootBuiltins "isinstance" = some (.builtin "isinstance") := by kernel_rfl) (hvT : bootBuiltins y = some (.type T) := by kernel_rfl) (hn : y ≠ "__name__" := by decide) (hd : (y == ("__debug__" : Str)) = false := by decide)
    (hs1 : starEach [e, .Name y p2] X.env = (false, eval e X.env) :: starEach [.Name y p2] X.env := by rfl) (hs2 : starEach [.Name y p2] X.env = (false, eval (.Name y p2) X.env) :: starEach [] X.env := by rfl) (hpl : (backTo pos (starEach [.Name y p2] X.env)).any (·.1) = false := by rfl) :
    DP X c .s (.Call (.Name "isinstance" p) [e, .Name y p2] [] pos) (isiF T f) := fun hid ρ =>
  PE.imp (pe_callB (call_isi kt) hg hm hv (pa_cons (he hid ρ) (pa_cons (pe_bltn (v := .ty T) hgT hmT hvT rfl hn hd) pa_nil hs2) hs1) (by decide) (by decide) hs1 hpl) fun σ H Q hq_ => by
    obtain ⟨sr, d, hd, q⟩ := hq_
    unfold isiF at hd
    cases e1 : f ρ with
    | none => rw [e1] at hd; cases hd
    | some z =>
      rw [e1] at hd; cases hd
      exact ⟨sr, z, e1, fun v H' s' r => ⟨v, z, rfl, (RK.b k r fun a n => sr.fresh n).full, q _ H' s' .bl⟩⟩
def blsD : List D → Option (List Bool)
  | [] => some []
  | .bl b :: r => (blsD r).map (b :: ·)
  | _ => none
theorem blsD_get : ∀ {ds : List D} {bs : List Bool} {i : Nat} {d : D}, blsD ds = some bs → ds[i]? = some d → ∃ b, d = .bl b ∧ bs[i]? = some b
  | [], _, _, _, _, h => by simp at h
  | x :: r, bs, i, d, h, e => by
    cases x with
    | bl b =>
      unfold blsD at h
      cases e1 : blsD r with
      | none => rw [e1] at h; cases h
      | some rs =>
        rw [e1] at h; cases h
        cases i with
        | zero => simp at e; subst e; exact ⟨b, rfl, rfl⟩
        | succ i =>
          obtain ⟨b', h1, h2⟩ := blsD_get (i := i) e1 (by simpa using e)
          exact ⟨b', h1, by simpa using h2⟩
    | _ => cases h
theorem blsD_len : ∀ {ds : List D} {bs : List Bool}, blsD ds = some bs → ds.length = bs.length
  | [], _, h => by cases h; rfl
  | x :: r, bs, h => by
    cases x with
    | bl b =>
      unfold blsD at h
      cases e1 : blsD r with
      | none => rw [e1] at h; cases h
      | some rs => rw [e1] at h; cases h; simp [blsD_len e1]
    | _ => cases h
theorem range_alls (bs : List Bool) : (List.range bs.length).all (fun i => bs.getD i false) = bs.all id := by
  induction bs with
  | nil => rfl
  | cons b bs ih =>
    rw [List.length_cons, List.range_succ_eq_map, List.all_cons, List.all_map, List.all_cons]
    rw [show ((fun i => (b :: bs).getD i false) ∘ Nat.succ) = fun i => bs.getD i false by funext i; simp [List.getD], ih]
    rfl
theorem walk_bools {pins : List (Addr × Obj)} {σ : St} {H : Hp} {s : Shared} {a : Addr} {xs : List V} {ds : List D} {bs : List Bool} (I : Inv X pins σ H s) (h1 : SqL X.K H a xs) (h2 : Reps X.K H xs ds) (hb : blsD ds = some bs) (hc : X.calm = true) {E : Value → Shared → Prop} {R : Value → Shared → Prop}
    (hR : ∀ (J : Addr) (s2 : Shared) (its : Array Value) (hl : its.size = bs.length), Walks X.prog X.w X.A.in1 J [J, a] [J] its.size (fun i v => its[i]? = some v) (fun i h => h.IsListIter J a i ∧ h.IsList a its) → s2.heap.IsListIter J a 0 → s2.heap.IsList a its → TruthOf X.prog X.w X.A.in1 (fun i v => its[i]? = some v) (fun i => bs.getD i false) →
      (∀ h' tk, (∀ b o, b ∉ [J] → s2.heap.get? b = some o → h'.get? b = some o) → Inv X pins σ H { s2 with heap := h', toks := tk }) → R (.ref J) s2) : wpAny (model X.prog X.w) X.A.in1 (pyIter (.ref a)) R E s := by
  obtain ⟨its, rv, pl, hz⟩ := I.list h1
  have l1 := rv.length
  have l2 := h2.length
  have l3 := blsD_len hb
  have hlt : a < s.heap.objs.size := by obtain ⟨o, n, e, _⟩ := pl; exact Heap.lt_size e
  refine wpAny_pyIter_list pl.isList (hR s.heap.objs.size _ its.toArray (by simp; omega) (Walks.list (A := X.A.in1) (I.ok.hd hc) _ a (Nat.ne_of_lt hlt) its.toArray) ⟨_, Heap.get?_push_size _ rfl, rfl, rfl⟩ ?_ ?_ ?_)
  · obtain ⟨o, ho, q⟩ := pl.isList
    exact ⟨o, Heap.get?_push_of_some _ ho, q⟩
  · intro i v s' Q E hv hq
    have hv' : its[i]? = some v := by simpa using hv
    have hi := (List.getElem?_eq_some_iff.mp hv').1
    have ex : xs[i]? = some xs[i] := List.getElem?_eq_getElem (by omega)
    obtain ⟨u, e1, r1⟩ := rv.get ex
    rw [hv'] at e1; cases e1
    obtain ⟨d, e2, r2⟩ := h2.get' ex
    obtain ⟨b, rfl, e3⟩ := blsD_get hb e2
    rcases hx : xs[i] with _ | _ | _ | _ | _ | _ | _ | _ <;> rw [hx] at r1 r2 <;> cases r2
    cases r1
    have : bs.getD i false = b := by simp [List.getD, e3]
    dsimp only at hq
    rw [this] at hq
    exact wpAny_truthy_bool hq
  · intro h' tk hk
    refine I.kept fun b o e => hk b o (fun hm => ?_) (Heap.get?_push_of_some _ e)
    have : b = s.heap.objs.size := by simpa using hm
    exact absurd (this ▸ Heap.lt_size e) (Nat.lt_irrefl _)
theorem call_all (hc : X.calm = true) : CallR X (.builtin "all") (fun xs H Q => ∃ a ys ds bs, xs = [.ref a] ∧ SqL X.K H a ys ∧ Reps X.K H ys ds ∧ blsD ds = some bs ∧ Q (.bl (bs.all id)) H) := by
  intro pins s σ H xs us Q I r h
  obtain ⟨a, ys, ds, bs, rfl, h1, h2, h3, q⟩ := h
  obtain ⟨u, rfl, rx⟩ := vals1 r
  cases rx
  refine call_all_walk (walk_bools I h1 h2 h3 hc fun J s2 its hl W st1 st2 tr kp => ?_)
  refine ⟨J, _, _, _, _, _, _, rfl, W, ⟨st1, st2⟩, tr, fun h' tk hk => ⟨.bl _, H, kp h' tk hk, rfl, ?_⟩⟩
  rw [hl, range_alls]; exact q
def allD : List D → Option D
  | [.lst ds] => (blsD ds).map fun bs => .bl (bs.all id)
  | _ => none
theorem cd_all : CallD X.K .s (fun xs H Q => ∃ a ys ds bs, xs = [.ref a] ∧ SqL X.K H a ys ∧ Reps X.K H ys ds ∧ blsD ds = some bs ∧ Q (.bl (bs.all id)) H) allD := by
  intro H hid vs ds d Q hf h r q
  unfold allD at h
  split at h
  · rename_i zs
    cases e1 : blsD zs with
    | none => rw [e1] at h; cases h
    | some bs =>
      rw [e1] at h; cases h
      obtain ⟨x, rfl, r1⟩ := Reps1.one r
      obtain ⟨a, xs, rfl, h1, h2⟩ := r1.lst
      exact ⟨a, xs, zs, bs, rfl, h1, h2.mono (vw_le _ _), e1, q _ H (Same.refl _) .bl⟩
  · cases h
def intsD : List D → Option (List Int)
  | [] => some []
  | .int b :: r => (intsD r).map (b :: ·)
  | _ => none
theorem intsD_eq : ∀ {ds : List D} {ns : List Int}, intsD ds = some ns → ds = ns.map D.int
  | [], _, h => by cases h; rfl
  | x :: r, bs, h => by
    cases x with
    | int b =>
      unfold intsD at h
      cases e1 : intsD r with
      | none => rw [e1] at h; cases h
      | some rs => rw [e1] at h; cases h; simp [intsD_eq e1]
    | _ => cases h
end
end L2
set_option Elab.async false
set_option linter.all false
set_option maxRecDepth 100000
namespace PySem.SeqAt
open AutoSeq1 (wpAny_loadPart')
open MeetsSeq MeetsSeq2 MeetsSeq3 SeqRoads2
end PySem.SeqAt
namespace L2
open PySem PySem.Spec PyProof.Rows
end L2
set_option Elab.async false
set_option linter.all false
set_option maxRecDepth 100000
namespace L2
open PySem PySem.Spec PyProof.Rows
section
variable {X : Cx} {c : Ct} {e o : Expr} {k k2 : Kd} {f g : FE} {pos p p2 apos : Pos}
def addF := i2 (fun _ _ => true) fun i j => .int (i + j)
def subF := i2 (fun _ _ => true) fun i j => .int (i - j)
def mulF := i2 (fun i j => decide (i.natAbs < 2 ^ 1000) && decide (j.natAbs < 2 ^ 1000)) fun i j => .int (i * j)
def modF := i2 (fun _ j => decide (0 < j)) fun i j => .int (i % j)
def fdivF := i2 (fun _ j => decide (0 < j) && decide (j.natAbs < 2 ^ 1000)) fun i j => .int (i / j)
def powF := i2 (fun i j => decide (0 ≤ j) && decide (j ≤ 1000000) && decide (i.natAbs < 2 ^ 64)) fun i j => .int (i ^ j.toNat)
def ltF := i2 (fun _ _ => true) fun i j => .bl (decide (i < j))
def geF := i2 (fun _ _ => true) fun i j => .bl (decide (j ≤ i))
theorem bits_of {i : Int} (h : i.natAbs < 2 ^ 1000) : Builtin.Int.intBits i ≤ 2 ^ 20 := by
  unfold Builtin.Int.intBits
  split
  · exact Nat.zero_le _
  · rename_i hz
    have h0 : i.natAbs ≠ 0 := by simp at hz; omega
    have := (Nat.log2_lt h0).mpr h
    omega
theorem op_mulB : OpR X (binaryOp .Mult) (rI IntMulOk fun i j => .int (i * j)) := opI fun _ _ _ _ _ _ _ hc q => mul_int q hc
variable {a b : Expr}
theorem dp_add {k1 k2 : Kd} (ha : DP X c k1 a f) (hb : DP X c k2 b g) : DP X c .s (.BinOp a .Add b pos) (op2 addF f g) := dp_op op_add od_I0 ha hb
theorem od_mul {K : PySem.W.Frag} : OpD K .s (rI IntMulOk fun i j => .int (i * j)) mulF := od_I fun i j h => by
  simp only [Bool.and_eq_true, decide_eq_true_eq] at h
  exact IntMulOk.of_bits (bits_of h.1) (bits_of h.2)
theorem dp_mul {k1 k2 : Kd} (ha : DP X c k1 a f) (hb : DP X c k2 b g) : DP X c .s (.BinOp a .Mult b pos) (op2 mulF f g) := dp_op op_mulB od_mul ha hb
theorem od_mod {K : PySem.W.Frag} : OpD K .s (rI (fun _ j => 0 < j) fun i j => .int (i % j)) modF := od_I fun i j h => by simpa using h
theorem dp_mod {k1 k2 : Kd} (ha : DP X c k1 a f) (hb : DP X c k2 b g) : DP X c .s (.BinOp a .Mod b pos) (op2 modF f g) := dp_op op_mod od_mod ha hb
theorem op_fdivB : OpR X (binaryOp .FloorDiv) (rI (fun _ j => 0 < j ∧ j.natAbs < 2 ^ 1000) fun i j => .int (i / j)) := opI fun i j _ _ _ _ _ hc q => by
  obtain ⟨h1, h2⟩ := hc
  refine floordiv_int (by omega) (by rw [Int.fdiv_eq_ediv_of_nonneg i (by omega)]; exact q) (.inl (PyProof.noPylong_of_log2 ?_))
  have := (Nat.log2_lt (n := j.natAbs) (by omega)).mpr h2
  omega
theorem od_fdiv {K : PySem.W.Frag} : OpD K .s (rI (fun _ j => 0 < j ∧ j.natAbs < 2 ^ 1000) fun i j => .int (i / j)) fdivF := od_I fun i j h => by
  simp only [Bool.and_eq_true, decide_eq_true_eq] at h
  exact ⟨h.1, h.2⟩
theorem dp_fdiv {k1 k2 : Kd} (ha : DP X c k1 a f) (hb : DP X c k2 b g) : DP X c .s (.BinOp a .FloorDiv b pos) (op2 fdivF f g) := dp_op op_fdivB od_fdiv ha hb
theorem od_pow {K : PySem.W.Frag} : OpD K .s (rI CPow fun i j => .int (i ^ j.toNat)) powF := od_I fun i j h => by
  simp only [Bool.and_eq_true, decide_eq_true_eq] at h
  exact ⟨h.1.1, h.1.2, h.2⟩
theorem dp_pow {k1 k2 : Kd} (ha : DP X c k1 a f) (hb : DP X c k2 b g) : DP X c .s (.BinOp a .Pow b pos) (op2 powF f g) := dp_op op_pow od_pow ha hb
theorem de_sub {f g : GE} (ha : DE X c .s a f) (hb : DE X c .s b g) : DE X c .s (.BinOp a .Sub b pos) (op2E subF f g) := de_op op_sub od_I0 ha hb
def intF : List D → Option D
  | [.int i] => some (.int i)
  | [.bl b] => some (.int (if b then 1 else 0))
  | _ => none
theorem cd_int : CallD X.K .s (fun xs H Q => (∃ i, xs = [.int i] ∧ Q (.int i) H) ∨ ∃ k, xs = [.bl k] ∧ Q (.int (if k then 1 else 0)) H) intF := by
  intro H hid vs ds d Q hf h r q
  unfold intF at h
  split at h
  · cases h
    obtain ⟨x, rfl, r1⟩ := Reps1.one r
    cases r1.int
    exact .inl ⟨_, rfl, q _ H (Same.refl _) .int⟩
  · cases h
    obtain ⟨x, rfl, r1⟩ := Reps1.one r
    cases r1.bl
    exact .inr ⟨_, rfl, q _ H (Same.refl _) .int⟩
  · cases h
end
end L2
set_option Elab.async false
set_option linter.all false
set_option maxRecDepth 100000
namespace L2
open PySem PySem.Spec PyProof.Rows
structure Cl (P : Program) (w : World) (K : PySem.W.Frag) (mg : Str → Option Value) (base : Heap) (k : Nat) (x : Str) (ps : List Str) (sp : Sp) : Prop where
  ex : ∃ f fd, FnOk P w K mg base CX0 k f fd ps sp ∧ mg x = some (.ref f) ∧ PySem.W.keepIn K (.ref f) = true ∧ Binds K fd ps []
structure Df (K : PySem.W.Frag) (mg : Str → Option Value) (x : Str) (st : Stmt) (ps : List Str) : Prop where
  ex : ∃ f fd, Fun K x x st f fd ∧ mg x = some (.ref f) ∧ Binds K fd ps []
section
variable {P : Program} {w : World} {K : PySem.W.Frag} {mg : Str → Option Value} {base : Heap} {x : Str} {st : Stmt} {N ps : List Str} {k n : Nat} {t : FS} {kd : Kd}
theorem cl_pure (F : Df K mg x st ps) (S : FnScope N ps (defScope st)) (hkd : kd ≠ .b) (hn : ps.length = n)
    (body : ∀ (f : Addr) (cdv : Value) (A : Around) (outer : List Env) (s : Shared) (H : Hp) (hid : Hid) (E : XK), Room k (A.deeper (envOfC x (defScope st) s.heap.objs.size f cdv)) →
      DSs (cxOf CX0 P w K mg base N x (defScope st) f cdv A outer s H E).nox ⟨H, hid, fun _ => false⟩ kd (defBody st) t) :
    Cl P w K mg base (k + 1) x ps (spP K kd n (fnP kd N.length t)) := by
  obtain ⟨f, fd, F, hm, hb⟩ := F.ex
  subst hn
  exact ⟨f, fd, fn_pure F S hkd (body f), hm, F.kp, hb⟩
theorem cl_eff (F : Df K mg x st ps) (S : FnScope N ps (defScope st)) (hkd : kd ≠ .b) (hn : ps.length = n + 1)
    (body : ∀ (f : Addr) (cdv : Value) (A : Around) (outer : List Env) (s : Shared) (H : Hp) (hid : Hid) (a : Addr) (E : XK), Room k (A.deeper (envOfC x (defScope st) s.heap.objs.size f cdv)) →
      DSs (cxOf CX0 P w K mg base N x (defScope st) f cdv A outer s H E).nox ⟨H, hid, fun b => decide (b = a)⟩ kd (defBody st) t) :
    Cl P w K mg base (k + 1) x ps (spE K kd n (fnE kd N.length t)) := by
  obtain ⟨f, fd, F, hm, hb⟩ := F.ex
  exact ⟨f, fd, fn_eff F S hkd hn (body f), hm, F.kp, hb⟩
end
section
variable {X : Cx} {c : Ct} {e a b : Expr} {es rest : List Expr} {k : Kd} {pos p : Pos} {x : Str} {ps : List Str} {j n : Nat}
def nF (n : Nat) (P : List D → Option D) : List D → Option D := fun ds => if ds.length = n then P ds else none
theorem dp_cl {P : List D → Option D} {fs : FA} (C : Cl X.prog X.w X.K X.mg X.base j x ps (spP X.K k n P)) (hr : Room j X.A)
    (ha : DA X c (e :: es) fs) (hg : Gl X x := by rfl) (hdb : (x == ("__debug__" : Str)) = false := by decide) (he : starEach (e :: es) X.env = (false, eval e X.env) :: starEach es X.env := by rfl) (hpl : (backTo pos (starEach es X.env)).any (·.1) = false := by rfl) :
    DP X c k (.Call (.Name x p) (e :: es) [] pos) (callF (nF n P) fs) := by
  obtain ⟨f, fd, F, hm, hk, hb⟩ := C.ex
  exact dp_call F hr hm hk hb ha hg hdb he hpl
theorem de_cl (i : Nat) {y : Str} {py : Pos} {M : List D → List D → Option (D × List D)} {fs : GA} (C : Cl X.prog X.w X.K X.mg X.base j x ps (spE X.K k n M)) (hr : Room j X.A)
    (ha : DG X c es fs) (hkb : k ≠ .b := by decide) (hN : X.N[i]? = some y := by rfl) (hv : Vis X.env.scope y := by first | exact Or.inl rfl | exact Or.inr (Or.inl rfl) | exact Or.inr (Or.inr rfl)) (hd : (y == ("__debug__" : Str)) = false := by decide)
    (hcd : (y == ("__classdict__" : Str)) = false := by decide) (hs : starEach (.Name y py :: es) X.env = (false, eval (.Name y py) X.env) :: starEach es X.env := by rfl) (hg : Gl X x := by rfl) (hdb : (x == ("__debug__" : Str)) = false := by decide) (hpl : (backTo pos (starEach es X.env)).any (·.1) = false := by rfl) :
    DE X c k (.Call (.Name x p) (.Name y py :: es) [] pos) (callE i n M fs) := by
  obtain ⟨f, fd, F, hm, hk, hb⟩ := C.ex
  exact de_callE i F hr hm hk hb ha hkb hN hv hd hcd hs hg hdb hpl
end
end L2
set_option Elab.async false
set_option linter.all false
set_option maxRecDepth 100000
namespace L2
open PySem PySem.W PyProof.Rows
end L2
set_option Elab.async false
set_option linter.all false
set_option maxRecDepth 100000
namespace L2
open PySem PySem.W PySem.Calls PyProof.Rows
end L2
set_option Elab.async false
set_option linter.all false
set_option maxRecDepth 100000
namespace L2
open PySem PySem.W PySem.Spec PyProof.Rows
def ltI (x y : Int) : Bool := decide (x < y)
structure Lt {α : Type} (lt : α → α → Bool) : Prop where
  tr : ∀ {a b c : α}, lt b a = false → lt c b = false → lt c a = false
  as : ∀ {a b : α}, lt a b = true → lt b a = false
  eq : ∀ {a b : α}, lt a b = false → lt b a = false → a = b
theorem lt_I : Lt ltI := ⟨fun h1 h2 => by simp only [ltI, decide_eq_false_iff_not] at *; omega, fun h => by simp only [ltI, decide_eq_false_iff_not, decide_eq_true_eq] at *; omega, fun h1 h2 => by simp only [ltI, decide_eq_false_iff_not] at *; omega⟩
def insG {α : Type} (lt : α → α → Bool) (x : α) : List α → List α
  | [] => [x]
  | y :: r => if lt x y = true then x :: y :: r else y :: insG lt x r
def isortG {α : Type} (lt : α → α → Bool) : List α → List α
  | [] => []
  | x :: r => insG lt x (isortG lt r)
section
variable {α : Type} {lt : α → α → Bool}
theorem insG_perm (x : α) : ∀ l : List α, (insG lt x l).Perm (x :: l)
  | [] => .refl _
  | y :: r => by
    unfold insG
    split
    · exact .refl _
    · exact ((insG_perm x r).cons y).trans (.swap _ _ _)
theorem isortG_perm : ∀ l : List α, (isortG lt l).Perm l
  | [] => .refl _
  | x :: r => (insG_perm x _).trans ((isortG_perm r).cons x)
theorem insG_pw (O : Lt lt) (x : α) : ∀ {l : List α}, l.Pairwise (fun a b => lt b a = false) → (insG lt x l).Pairwise (fun a b => lt b a = false)
  | [], _ => by simp [insG]
  | y :: r, h => by
    obtain ⟨h1, h2⟩ := List.pairwise_cons.mp h
    unfold insG
    split
    · rename_i e
      refine List.pairwise_cons.mpr ⟨fun z hz => ?_, h⟩
      rcases List.mem_cons.mp hz with rfl | hz
      · exact O.as e
      · exact O.tr (O.as e) (h1 z hz)
    · rename_i e
      refine List.pairwise_cons.mpr ⟨fun z hz => ?_, insG_pw O x h2⟩
      rcases List.mem_cons.mp ((insG_perm x r).mem_iff.mp hz) with rfl | hz
      · simpa using e
      · exact h1 z hz
theorem isortG_pw (O : Lt lt) : ∀ l : List α, (isortG lt l).Pairwise (fun a b => lt b a = false)
  | [] => .nil
  | x :: r => insG_pw O x (isortG_pw O r)
theorem isortG_eq (O : Lt lt) {l l' : List α} (p : l'.Perm l) (s : l'.Pairwise (fun a b => lt b a = false)) : l' = isortG lt l :=
  List.Perm.eq_of_pairwise (fun a b _ _ h1 h2 => O.eq h2 h1) s (isortG_pw O l) (p.trans (isortG_perm l).symm)
theorem range_getD (ts : List α) (d : α) : (List.range ts.length).map (fun i => ts.getD i d) = ts := List.ext_getElem? fun i => by
  by_cases hi : i < ts.length
  · simp [hi]
  · simp [hi]
end
theorem intsD_of (ns : List Int) : intsD (ns.map D.int) = some ns := by
  induction ns with
  | nil => rfl
  | cons n ns ih => show (intsD (ns.map D.int)).map (n :: ·) = _; rw [ih]; rfl
theorem isortG_short {α : Type} {lt : α → α → Bool} {l : List α} (h : l.length < 2) : isortG lt l = l := by
  match l, h with
  | [], _ => rfl
  | [_], _ => rfl
end L2
set_option Elab.async false
set_option linter.all false
set_option maxRecDepth 100000
namespace L2
open PySem PySem.W PySem.Spec PyProof.Rows
def IntV : List Value → List Int → Prop := Paired fun u i => ∃ t, u = Value.int i t
theorem intV_of {K : PySem.W.Frag} {F : Hp} : ∀ {xs : List V} {us : List Value} {ns : List Int}, Vals xs us → Reps K F xs (ns.map D.int) → IntV us ns
  | _, _, [], r, p => by cases p; cases r; exact .nil
  | _, _, n :: ns, r, p => by
    cases p with
    | cons p1 p2 => cases r with
      | cons r1 r2 => cases p1; exact .cons r1 (intV_of r2 p2)
theorem intV_get : ∀ {us : List Value} {ns : List Int} {i : Nat} {u : Value}, IntV us ns → us[i]? = some u → ∃ n, ns[i]? = some n ∧ ∃ t, u = Value.int n t
  | _, _, _, _, .nil, e => by simp at e
  | _, _, 0, _, .cons h _, e => by simp at e; subst e; exact ⟨_, rfl, h⟩
  | _, _, i + 1, u, .cons _ r, e => by
    obtain ⟨n, h1, h2⟩ := intV_get (i := i) (u := u) r (by simpa using e)
    exact ⟨n, by simpa using h1, h2⟩
end L2
set_option Elab.async false
set_option linter.all false
set_option maxRecDepth 100000
namespace L2
open PySem PySem.Spec PyProof.Rows
section
variable {X : Cx} {c : Ct} {e a b : Expr} {es rest : List Expr} {f g : GE} {fs : GA} {k : Kd} {pos p : Pos} {x : Str} {id T : String} {r : List V → Hp → VK → Prop} {F : List D → Option D} {ps : List Str} {j n : Nat}
def callG (F : List D → Option D) (fs : GA) : GE := fun ρ => (fs ρ).bind fun q => (F q.1).map fun d => (d, q.2)
theorem callG_some {F : List D → Option D} {ρ ρ' : Rho} {d : D} (h : callG F fs ρ = some (d, ρ')) : ∃ ds, fs ρ = some (ds, ρ') ∧ F ds = some d := by
  unfold callG at h
  cases e : fs ρ with
  | none => rw [e] at h; cases h
  | some q =>
    rw [e] at h
    dsimp only [Option.bind] at h
    cases e2 : F q.1 with
    | none => rw [e2] at h; cases h
    | some z => rw [e2] at h; cases h; exact ⟨q.1, rfl, e2⟩
theorem de_clP {P : List D → Option D} (C : Cl X.prog X.w X.K X.mg X.base j x ps (spP X.K k n P)) (hr : Room j X.A)
    (ha : DG X c (e :: es) fs) (hkb : k ≠ .b := by decide) (hg : Gl X x := by rfl) (hdb : (x == ("__debug__" : Str)) = false := by decide) (he : starEach (e :: es) X.env = (false, eval e X.env) :: starEach es X.env := by rfl) (hpl : (backTo pos (starEach es X.env)).any (·.1) = false := by rfl) :
    DE X c k (.Call (.Name x p) (e :: es) [] pos) (callG (nF n P) fs) := by
  obtain ⟨f, fd, F, hm, hk, hb⟩ := C.ex
  exact fun hid ρ => PE.imp (pe_call F hr hg hm hk hb .nil (pass0 (X := X)) (ha hid ρ) hdb he hpl) fun σ H Q hq_ => by
    obtain ⟨sr, d, ρ', hd, q⟩ := hq_
    obtain ⟨ds, e1, e2⟩ := callG_some hd
    unfold nF at e2
    split at e2
    · refine ⟨sr, ds, ρ', e1, fun vs H1 k1 s1 r1 => ?_⟩
      show spP X.K k n P (vs ++ []) H1 Q E0
      rw [List.append_nil]
      exact ⟨hid, ds, s1.trk, r1, ‹_›, d, e2, fun v H' s2 r2 => q v H' (PostE.left k1 (s1.post s2 r2 hkb))⟩
    · cases e2
end
end L2
set_option Elab.async false
set_option linter.all false
set_option maxRecDepth 100000
namespace L2
open PySem PySem.Spec PyProof.Rows
section
variable {prog : Program} {w : World} {A : Around} {R : Result → Shared → Prop} {s : Shared} {elt t1 t2 i1 i2 : Expr} {ifs1 ifs2 : List Expr} {scope : Scope} {pos : Pos} {it acc : Value} {env : Env}
theorem turn_in : compTurn (.ListComp elt [⟨t1, i1, ifs1, 0⟩, ⟨t2, i2, ifs2, 0⟩] scope pos) 1 it acc env = (do
      standAt i2.pos
      match ← pyNext it with
      | none => pure (.done .next)
      | some v =>
        letOwnedTupleGo t2 it v
        assign t2 env v
        let ok ← testsOf ifs2 env
        if ok = true then do (do let _ ← call (.builtin "list.append") [acc, ← eval elt env]); again (.compLoop (.ListComp elt [⟨t1, i1, ifs1, 0⟩, ⟨t2, i2, ifs2, 0⟩] scope pos) 1 it acc env)
        else again (.compLoop (.ListComp elt [⟨t1, i1, ifs1, 0⟩, ⟨t2, i2, ifs2, 0⟩] scope pos) 1 it acc env)) := by rfl
theorem turn_out : compTurn (.ListComp elt [⟨t1, i1, ifs1, 0⟩, ⟨t2, i2, ifs2, 0⟩] scope pos) 0 it acc env = (do
      standAt i1.pos
      match ← pyNext it with
      | none => pure (.done .next)
      | some v =>
        letOwnedTupleGo t1 it v
        assign t1 env v
        let ok ← testsOf ifs1 env
        if ok = true then do
          let x ← eval i2 env
          standAt i2.pos
          let x ← foldedSetIterable i2 env x
          let _ ← runOwn (.compStart (.ListComp elt [⟨t1, i1, ifs1, 0⟩, ⟨t2, i2, ifs2, 0⟩] scope pos) 1 (← holding [x] (pyIter x)) acc env) env
          again (.compLoop (.ListComp elt [⟨t1, i1, ifs1, 0⟩, ⟨t2, i2, ifs2, 0⟩] scope pos) 0 it acc env)
        else again (.compLoop (.ListComp elt [⟨t1, i1, ifs1, 0⟩, ⟨t2, i2, ifs2, 0⟩] scope pos) 0 it acc env)) := by rfl
abbrev TAct := (Shared → Prop) → Shared → Prop
def emitW (prog : Program) (w : World) (A : Around) (elt : Expr) (acc : Value) (env : Env) : TAct := fun Q s =>
  wpAny (model prog w) A (eval elt env) (fun x s₄ => wpAny (model prog w) A (call (.builtin "list.append") [acc, x]) (fun _ s₅ => Q s₅) (fun _ _ => False) s₄) (fun _ _ => False) s
def innerW (prog : Program) (w : World) (A : Around) (e iter : Expr) (acc : Value) (env : Env) : TAct := fun Q s =>
  wpAny (model prog w) A (eval iter env) (fun x s₄ => wpAny (model prog w) A (pyIter x) (fun it s₅ => codeAny (model prog w) A (.compStart e 1 it acc env) (fun r s' => match r with
    | .ok _ => Q s'
    | .error _ => False) s₅) (fun _ _ => False) s₄) (fun _ _ => False) s
def TurnP (prog : Program) (w : World) (A : Around) (code : Code) (tg : Expr) (ifs : List Expr) (it : Value) (env : Env) (TA : TAct) (R : Result → Shared → Prop) : Prop := ∀ (I : Nat → Shared → Prop),
  (∀ n s, I n s → wpAny (model prog w) A (pyNext it) (fun r s₁ => match r with
      | none => R (.ok .next) s₁
      | some v => wpAny (model prog w) A (letOwnedTupleGo tg it v) (fun _ s₁ => wpAny (model prog w) A (assign tg env v) (fun _ s₂ =>
          wpAny (model prog w) A (testsOf ifs env) (fun ok s₃ =>
            if ok = true then TA (fun s₅ => ∃ m, m < n ∧ I m s₅) s₃
            else ∃ m, m < n ∧ I m s₃) (fun _ _ => False) s₂) (fun _ _ => False) s₁) (fun _ _ => False) s₁) (fun _ _ => False) s) →
  ∀ (n : Nat) (s : Shared), I n s → codeAny (model prog w) A code R s
theorem turnP_in : TurnP prog w A (.compLoop (.ListComp elt [⟨t1, i1, ifs1, 0⟩, ⟨t2, i2, ifs2, 0⟩] scope pos) 1 it acc env) t2 ifs2 it env (emitW prog w A elt acc env) R := by
  intro I turn n s h
  have no : ∀ {E' : Value → Shared → Prop} (x : Value) (s : Shared), False → E' x s := fun _ _ z => z.elim
  refine codeAny_loop rfl I (fun n s hI => ?_) n h
  show wpAny _ A ((compTurn (.ListComp elt [⟨t1, i1, ifs1, 0⟩, ⟨t2, i2, ifs2, 0⟩] scope pos) 1 it acc env).onRaise (fun x => do noteFrame x env; theTreesLotGoes x)) _ _ s
  refine wpAny_noted ?_
  rw [turn_in]
  refine wpAny_bind (wpAny_standAt (wpAny_bind (wpAny_mono (turn n s hI) (fun r s₁ h₁ => ?_) no)))
  cases r with
  | none => exact wpAny_pure h₁
  | some v =>
    refine wpAny_bind (wpAny_mono h₁ (fun _ s₁ h₁ => wpAny_bind (wpAny_mono h₁ (fun _ s₂ h₂ => wpAny_bind (wpAny_mono h₂ (fun ok s₃ h₃ => ?_) no)) no)) no)
    cases ok with
    | false => exact wpAny_pure ⟨rfl, h₃⟩
    | true => exact wpAny_bind (wpAny_bind (wpAny_mono h₃ (fun x s₄ h₄ => wpAny_bind (wpAny_mono h₄ (fun _ s₅ h₅ => wpAny_pure (wpAny_pure ⟨rfl, h₅⟩)) no)) no))
theorem turnP_out (hset : ∀ x, foldedSetIterable i2 env x = pure x) : TurnP prog w A (.compLoop (.ListComp elt [⟨t1, i1, ifs1, 0⟩, ⟨t2, i2, ifs2, 0⟩] scope pos) 0 it acc env) t1 ifs1 it env (innerW prog w A (.ListComp elt [⟨t1, i1, ifs1, 0⟩, ⟨t2, i2, ifs2, 0⟩] scope pos) i2 acc env) R := by
  intro I turn n s h
  have no : ∀ {E' : Value → Shared → Prop} (x : Value) (s : Shared), False → E' x s := fun _ _ z => z.elim
  refine codeAny_loop rfl I (fun n s hI => ?_) n h
  show wpAny _ A ((compTurn (.ListComp elt [⟨t1, i1, ifs1, 0⟩, ⟨t2, i2, ifs2, 0⟩] scope pos) 0 it acc env).onRaise (fun x => do noteFrame x env; theTreesLotGoes x)) _ _ s
  refine wpAny_noted ?_
  rw [turn_out]
  refine wpAny_bind (wpAny_standAt (wpAny_bind (wpAny_mono (turn n s hI) (fun r s₁ h₁ => ?_) no)))
  cases r with
  | none => exact wpAny_pure h₁
  | some v =>
    refine wpAny_bind (wpAny_mono h₁ (fun _ s₁ h₁ => wpAny_bind (wpAny_mono h₁ (fun _ s₂ h₂ => wpAny_bind (wpAny_mono h₂ (fun ok s₃ h₃ => ?_) no)) no)) no)
    cases ok with
    | false => exact wpAny_pure ⟨rfl, h₃⟩
    | true =>
      refine wpAny_bind (wpAny_mono h₃ (fun x s₄ h₄ => wpAny_bind (wpAny_standAt (wpAny_bind (wpAny_of_eq (hset x) (wpAny_bind (wpAny_holding (wpAny_mono h₄ (fun it2 s₅ h₅ => ?_) no))))))) no)
      refine wpAny_bind (wpAny_runOwn (codeAny_mono h₅ fun r s' hr => ?_))
      cases r with
      | ok f => exact wpAny_pure ⟨rfl, hr⟩
      | error e => exact hr.elim
end
end L2
set_option Elab.async false
set_option linter.all false
set_option maxRecDepth 100000
namespace L2
open PySem PySem.Spec PyProof.Rows
def cpL (g : FG) (p : FT) (A : FA) (ρ0 : Rho) : List D → Option (List D)
  | [] => some []
  | d :: r => (g d ρ0).bind fun ρ1 => (p ρ1).bind fun b => if b = true then (A ρ1).bind fun ys => (cpL g p A ρ0 r).map (ys ++ ·) else cpL g p A ρ0 r
def Nos (n : Nat) (ρ : Rho) : Prop := ∀ (i : Nat) (s : Sl), n ≤ i → ρ[i]? = some s → s = .no
def ActOk (Y : Cx) (c : Ct) (hid : Hid) (D0 : Addr) (L W : Hp) (A : FA) (TA : TAct) (ρ1 : Rho) : Prop := ∀ (pins : List (Addr × Obj)) (s : Shared) (σ : St) (H : Hp) (xs : List V) (ad zs : List D) (Q : Shared → Prop), Inv Y pins σ H s → SR Y.K c hid ρ1 σ H →
  H D0 = some (.lst xs) → Reps Y.K (vw H hid) xs ad → xs.length + zs.length ≤ sizeLine → Same L H → Same W (vw H hid) → (∀ i : Nat, Ow ρ1[i]? → σ[i]? ≠ some (some (.ref D0))) → A ρ1 = some zs →
  (∀ (s' : Shared) (σ' : St) (H' : Hp) (xs' : List V), Inv Y pins σ' H' s' → SR Y.K c hid ρ1 σ' H' → H' D0 = some (.lst xs') → Reps Y.K (vw H' hid) xs' (ad ++ zs) → Same L H' → Same (vw H hid) (vw H' hid) → (∀ i : Nat, Ow ρ1[i]? → σ'[i]? ≠ some (some (.ref D0))) → Q s') → TA Q s
section
variable {Y : Cx} {c : Ct} {tg : Expr} {ifs : List Expr} {g : FG} {p : FT} {A : FA} {TA : TAct} {code : Code}
structure CLG (Y : Cx) (pins : List (Addr × Obj)) (c : Ct) (hid : Hid) (ρ0 : Rho) (L W H3 : Hp) (D0 : Addr) (fp : List Addr) (tn : Nat → Heap → Prop) (g : FG) (p : FT) (A : FA) (ds ys ad0 : List D) (n i : Nat) (xs : List V) (ad : List D) (σ' : St) (H' : Hp) (s' : Shared) : Prop where
  e : n = ds.length - i
  hi : i ≤ ds.length
  I : Inv Y pins σ' H' s'
  st : tn i s'.heap
  fr : ∀ b ∈ fp, H' b = none
  sr : SR Y.K c hid ρ0 σ' H'
  sm : Same L H'
  ac : H' D0 = some (.lst xs)
  rp : Reps Y.K (vw H' hid) xs ad
  w : Same W (vw H' hid)
  v : Same (vw H3 hid) (vw H' hid)
  na : ∀ i : Nat, Ow ρ0[i]? → σ'[i]? ≠ some (some (.ref D0))
  go : ∃ rest, cpL g p A ρ0 (ds.drop i) = some rest ∧ ad ++ rest = ad0 ++ ys
theorem gen_loop (hcalm : Y.calm = true) (hxe : Y.xe = fun _ _ => False) {n0 : Nat} (hT : Tail n0 g) (hg : DGt Y c tg g) (hp : DIf Y c ifs p)
    {pins : List (Addr × Obj)} {σ3 : St} {H3 L W : Hp} {s4 : Shared} {hid : Hid} {ρ0 : Rho} {J : It} {it D0 : Addr} {fp : List Addr} {tn : Nat → Heap → Prop} {ds ys ad0 : List D} {xs0 : List V} {R : Result → Shared → Prop}
    (hA : ∀ d ρ1, g d ρ0 = some ρ1 → ActOk Y c hid D0 L W A TA ρ1)
    (hN : Nos n0 ρ0) (I : Inv Y pins σ3 H3 s4) (sr : SR Y.K c hid ρ0 σ3 H3) (hh : hid D0 = true) (na : ∀ i : Nat, Ow ρ0[i]? → σ3[i]? ≠ some (some (.ref D0))) (hacc : H3 D0 = some (.lst xs0)) (rp0 : Reps Y.K (vw H3 hid) xs0 ad0) (sm : Same L H3) (wv : Same W (vw H3 hid)) (T : Turn Y.prog Y.w Y.K tg J fp it tn) (st : tn 0 s4.heap) (hF : ∀ b ∈ fp, FpOk Y pins H3 b)
    (io : ItB Y.K L W J ds) (hz : ad0.length + ys.length ≤ sizeLine) (hc : cpL g p A ρ0 ds = some ys)
    (hTP : TurnP Y.prog Y.w Y.A code tg ifs (.ref it) Y.env TA R)
    (hR : ∀ (s' : Shared) (σ' : St) (H' : Hp) (xs : List V), Inv Y pins σ' H' s' → SR Y.K c hid ρ0 σ' H' → Same L H' → H' D0 = some (.lst xs) → Reps Y.K (vw H' hid) xs (ad0 ++ ys) → Same (vw H3 hid) (vw H' hid) → (∀ i : Nat, Ow ρ0[i]? → σ'[i]? ≠ some (some (.ref D0))) → R (.ok .next) s') :
    codeAny (model Y.prog Y.w) Y.A code R s4 := by
  have stat : ∀ {H' : Hp}, (∀ b ∈ fp, H' b = none) → ∀ b ∈ fp, FpOk Y pins H' b := fun {H'} hn b hb => ⟨hn b hb, (hF b hb).2⟩
  refine hTP (fun n s' => ∃ (i : Nat) (xs : List V) (ad : List D) (σ' : St) (H' : Hp), CLG Y pins c hid ρ0 L W H3 D0 fp tn g p A ds ys ad0 n i xs ad σ' H' s') ?_ ds.length s4
    ⟨0, xs0, ad0, σ3, H3, by simp, Nat.zero_le _, I, st, fun b hb => (hF b hb).1, sr, sm, hacc, rp0, wv, Same.refl _, na, ys, by simpa using hc, rfl⟩
  rintro n s5 ⟨i, xs, ad, σ5, H5, rfl, hi, I5, st5, f5, sr5, sm5, ac5, rp5, w5, v5, na5, rest, hc5, hy5⟩
  have wH : Same W H5 := w5.trans (vw_le _ _)
  by_cases hlt : i < ds.length
  · have hd : ds[i]? = some ds[i] := List.getElem?_eq_getElem hlt
    have e2 : ds.drop i = ds[i] :: ds.drop (i + 1) := List.drop_eq_getElem_cons hlt
    rw [e2] at hc5
    unfold cpL at hc5
    obtain ⟨go, yl⟩ := io.1 i ds[i] H5 hd sm5 wH
    refine thn (T.item Y rfl rfl rfl hcalm i pins s5 σ5 H5 (fun _ _ => False) I5 (stat f5) st5 go) fun r s6 hq_ => ?_
    obtain ⟨u, hr, h6⟩ := hq_
    subst hr
    refine thn h6 fun _ s7 hq_ => ?_
    obtain ⟨x, H7, I7, r7, y7, st7, f7⟩ := hq_
    obtain ⟨s7', rp⟩ := yl x H7 y7
    have rx := rp hid sr5.tr w5
    have I7' := I7.pinned (stat f7) (T.obj _ _ st7)
    cases e3 : g ds[i] ρ0 with
    | none => rw [e3] at hc5; cases hc5
    | some ρ1 =>
      rw [e3] at hc5
      have hc5 : (p ρ1).bind (fun b => if b = true then (A ρ1).bind fun ys => (cpL g p A ρ0 (ds.drop (i + 1))).map (ys ++ ·) else cpL g p A ρ0 (ds.drop (i + 1))) = some rest := hc5
      obtain ⟨tl1, tl2⟩ := hT _ _ _ e3
      have fg : ∀ {σ' : St} {H' : Hp}, SR Y.K c hid ρ1 σ' H' → SR Y.K c hid ρ0 σ' H' := fun {σ' H'} z => z.forget tl1 fun j s e => by
        by_cases hj : j < n0
        · exact .inr ((tl2 j hj).trans e)
        · exact .inl (hN j s (by omega) e)
      have ow01 : ∀ j : Nat, Ow ρ0[j]? → Ow ρ1[j]? := fun j o => by
        by_cases hj : j < n0
        · rw [tl2 j hj]; exact o
        · exfalso
          cases e : ρ0[j]? with
          | none => rw [e] at o; exact o
          | some s => have := hN j s (by omega) e; subst this; rw [e] at o; exact o
      have keepT : ∀ {σ' : St} {H' : Hp} {s' : Shared}, Inv Y (pins ++ pinsAt fp s7.heap) σ' H' s' → tn (i + 1) s'.heap ∧ ∀ b ∈ fp, H' b = none := fun {σ' H' s'} J' => by
        refine ⟨T.keep _ _ _ st7 fun b hb o e => (J'.pin (b, o) (List.mem_append_right _ (List.mem_append_right _ (mem_pinsAt hb e)))).1, fun b hb => ?_⟩
        obtain ⟨o, e, _⟩ := T.obj _ _ st7 b hb
        exact (J'.pin (b, o) (List.mem_append_right _ (List.mem_append_right _ (mem_pinsAt hb e)))).2.1
      refine thn (hxe ▸ hg hid ρ0 ds[i] _ s7 σ5 H7 x u (fun σ' H' => H' = H7 ∧ SR Y.K c hid ρ1 σ' H7 ∧ OwK ρ0 ρ1 σ5 σ') I7' r7 ⟨sr5.ext s7', rx, ρ1, e3, fun σ' z o => ⟨rfl, z, o⟩⟩) fun _ s8 hq_ => ?_
      obtain ⟨σ8, H8, I8, e8, q8, o8⟩ := hq_
      subst e8
      have na1 : ∀ j : Nat, Ow ρ1[j]? → σ8[j]? ≠ some (some (.ref D0)) := fun j o => by
        rw [(o8 j o).2]; exact na5 j (o8 j o).1
      cases e4 : p ρ1 with
      | none => rw [e4] at hc5; cases hc5
      | some b =>
        rw [e4] at hc5
        have hc5 : (if b = true then (A ρ1).bind fun ys => (cpL g p A ρ0 (ds.drop (i + 1))).map (ys ++ ·) else cpL g p A ρ0 (ds.drop (i + 1))) = some rest := hc5
        refine thn (hxe ▸ hp hid ρ1 _ s8 σ8 H8 (fun b' H' => b' = b ∧ Same H8 H') I8 ⟨q8, b, e4, fun H' s' => ⟨rfl, s'⟩⟩) fun ok s9 hq_ => ?_
        obtain ⟨H9, I9, e9, sm9⟩ := hq_
        subst e9
        have w9 : Same (vw H5 hid) (vw H9 hid) := vw_same (s7'.trans sm9)
        cases ok with
        | false =>
          have hc5 : cpL g p A ρ0 (ds.drop (i + 1)) = some rest := hc5
          obtain ⟨k1, k2⟩ := keepT I9
          exact ⟨ds.length - (i + 1), by omega, i + 1, xs, ad, σ8, H9, rfl, hlt, I9.unpinned, k1, k2, fg (q8.ext sm9), sm5.trans (s7'.trans sm9), sm9 _ _ (s7' _ _ ac5), rp5.mono w9, w5.trans w9, v5.trans w9, fun j o => na1 j (ow01 j o), rest, hc5, hy5⟩
        | true =>
          have hc5 : ((A ρ1).bind fun ys => (cpL g p A ρ0 (ds.drop (i + 1))).map (ys ++ ·)) = some rest := hc5
          cases e5 : A ρ1 with
          | none => rw [e5] at hc5; cases hc5
          | some zs =>
            rw [e5] at hc5
            have hc5 : (cpL g p A ρ0 (ds.drop (i + 1))).map (zs ++ ·) = some rest := hc5
            cases e6 : cpL g p A ρ0 (ds.drop (i + 1)) with
            | none => rw [e6] at hc5; cases hc5
            | some rest' =>
              rw [e6] at hc5
              cases hc5
              have l1 := rp5.length
              have l2 := congrArg List.length hy5
              simp only [List.length_append] at l2
              refine hA ds[i] ρ1 e3 _ s9 σ8 H9 xs ad zs _ I9 (q8.ext sm9) (sm9 _ _ (s7' _ _ ac5)) (rp5.mono w9) (by omega) (sm5.trans (s7'.trans sm9)) (w5.trans w9) na1 e5 fun s10 σ10 H10 xs' I10 q10 a10 rp10 smL v10 na10 => ?_
              obtain ⟨k1, k2⟩ := keepT I10
              exact ⟨ds.length - (i + 1), by omega, i + 1, xs', ad ++ zs, σ10, H10, rfl, hlt, I10.unpinned, k1, k2, fg q10, smL, a10, rp10, (w5.trans w9).trans v10, (v5.trans w9).trans v10, fun j o => na10 j (ow01 j o), rest', e6, by rw [← hy5]; simp⟩
  · have e : i = ds.length := by omega
    subst e
    rw [List.drop_eq_nil_of_le (Nat.le_refl _)] at hc5
    cases hc5
    rw [List.append_nil] at hy5
    subst hy5
    refine thn (T.done Y rfl rfl rfl hcalm ds.length pins s5 σ5 H5 (fun _ _ => False) I5 (stat f5) st5 (io.2 H5 sm5 wH)) fun r s6 hq_ => ?_
    obtain ⟨hr, I6⟩ := hq_
    subst hr
    exact hR s6 σ5 H5 xs I6 sr5 sm5 ac5 rp5 v5 na5
end
end L2
set_option Elab.async false
set_option linter.all false
set_option maxRecDepth 100000
namespace L2
open PySem PySem.Spec PyProof.Rows
def oneA (f : FE) : FA := fun ρ => (f ρ).map fun d => [d]
def inA (gi : FA) (g : FG) (p : FT) (f : FE) : FA := fun ρ1 => (gi ρ1).bind fun ds => cpL g p (oneA f) ρ1 ds
def cp2F (m : Nat) (gi1 : FA) (g1 : FG) (p1 : FT) (gi2 : FA) (g2 : FG) (p2 : FT) (f : FE) : FE := fun ρ => (gi1 ρ).bind fun ds => (cpL g1 p1 (inA gi2 g2 p2 f) (ρ ++ List.replicate m .no) ds).bind fun ys => if ys.length ≤ sizeLine then some (.lst ys) else none
theorem cp2F_some {m : Nat} {gi1 gi2 : FA} {g1 g2 : FG} {p1 p2 : FT} {f : FE} {ρ : Rho} {d : D} (h : cp2F m gi1 g1 p1 gi2 g2 p2 f ρ = some d) : ∃ ds ys, gi1 ρ = some ds ∧ cpL g1 p1 (inA gi2 g2 p2 f) (ρ ++ List.replicate m .no) ds = some ys ∧ ys.length ≤ sizeLine ∧ d = .lst ys := by
  unfold cp2F at h
  cases e1 : gi1 ρ with
  | none => rw [e1] at h; cases h
  | some ds =>
    rw [e1] at h
    dsimp only [Option.bind] at h
    cases e2 : cpL g1 p1 (inA gi2 g2 p2 f) (ρ ++ List.replicate m .no) ds with
    | none => rw [e2] at h; cases h
    | some ys =>
      rw [e2] at h
      dsimp only at h
      split at h
      · cases h; exact ⟨ds, ys, rfl, e2, ‹_›, rfl⟩
      · cases h
def Upto (n : Nat) (g : FG) : Prop := ∀ d (ρ0 ρ1 : Rho), g d ρ0 = some ρ1 → ∀ i : Nat, n ≤ i → ρ1[i]? = ρ0[i]?
def UptoS (n : Nat) (g : FGs) : Prop := ∀ d (ρ0 ρ1 : Rho), g d ρ0 = some ρ1 → ∀ i : Nat, n ≤ i → ρ1[i]? = ρ0[i]?
theorem up_n {n i : Nat} (h : i < n) : Upto n (gN i) := fun d ρ0 ρ1 e => by
  cases e
  exact fun j hj => List.getElem?_set_ne (by omega)
theorem ups_nil {n : Nat} : UptoS n gsN := fun d ρ0 ρ1 e => by
  unfold gsN at e
  split at e
  · cases e; exact fun _ _ => rfl
  · cases e
theorem ups_cons {n : Nat} {g : FG} {gs : FGs} (h1 : Upto n g) (h2 : UptoS n gs) : UptoS n (gsC g gs) := fun d ρ0 ρ1 e => by
  cases d with
  | nil => cases e
  | cons d ds =>
    have e : (g d ρ0).bind (fun ρ' => gs ds ρ') = some ρ1 := e
    cases e1 : g d ρ0 with
    | none => rw [e1] at e; cases e
    | some ρ2 =>
      rw [e1] at e
      exact fun i hi => (h2 ds ρ2 ρ1 e i hi).trans (h1 d ρ0 ρ2 e1 i hi)
theorem up_t {n m : Nat} {gs : FGs} (h : UptoS n gs) : Upto n (gT m gs) := fun d ρ0 ρ1 e => by
  unfold gT at e
  split at e
  · split at e
    · exact h _ _ _ e
    · cases e
  · cases e
section
variable {prog : Program} {w : World} {A : Around} {R : Result → Shared → Prop} {s : Shared} {elt t1 t2 i1 i2 : Expr} {ifs1 ifs2 : List Expr} {scope : Scope} {pos : Pos} {it acc : Value} {env : Env}
theorem start_in
    (h0 : codeAny (model prog w) A (.compLoop (.ListComp elt [⟨t1, i1, ifs1, 0⟩, ⟨t2, i2, ifs2, 0⟩] scope pos) 1 it acc env) R s)
    (h : wpAny (model prog w) A (pyIter it) (fun it' s' => codeAny (model prog w) A (.compLoop (.ListComp elt [⟨t1, i1, ifs1, 0⟩, ⟨t2, i2, ifs2, 0⟩] scope pos) 1 it' acc env) R s')
      (notedBy (model prog w) A env fun x s' => R (.error x) s') s) :
    codeAny (model prog w) A (.compStart (.ListComp elt [⟨t1, i1, ifs1, 0⟩, ⟨t2, i2, ifs2, 0⟩] scope pos) 1 it acc env) R s := by
  refine codeAny_of_tree (show wpAny _ _ ((compStart (.ListComp elt [⟨t1, i1, ifs1, 0⟩, ⟨t2, i2, ifs2, 0⟩] scope pos) 1 it acc env).onRaise (fun x => do noteFrame x env; standAt theWindowsPlace)) _ _ s from wpAny_notedAt ?_)
  unfold compStart
  show wpAny _ _ (ask >>= _) _ _ s
  refine wpAny_bind (wpAny_askSetting (wpAny_ite ?_))
  split
  · first
      | exact wpAny_bind (wpAny_pure (wpAny_pure (And.intro rfl h0)))
      | exact wpAny_pure (And.intro rfl h0)
  · first
      | exact wpAny_bind (wpAny_rule (wpAny_bind (wpAny_standAt (wpAny_bind (wpAny_mono h (fun it' s' h' => wpAny_pure (And.intro rfl h')) fun _ _ x => x)))))
      | (refine wpAny_bind (wpAny_rule ?_); show wpAny _ _ (standAt i2.pos >>= _) _ _ s; exact wpAny_bind (wpAny_standAt (wpAny_bind (wpAny_mono h (fun it' s' h' => wpAny_pure (And.intro rfl h')) fun _ _ x => x))))
end
section
variable {Y : Cx} {c : Ct} {elt t1 t2 i1 i2 : Expr} {ifs1 ifs2 : List Expr} {scope : Scope} {pos : Pos} {f : FE} {g2 : FG} {p2 : FT} {gi2 : FA} {hid : Hid} {D0 : Addr} {L W : Hp} {ρ1 : Rho}
theorem act_emit (hxe : Y.xe = fun _ _ => False) (he : DP Y c .s elt f) (hh : hid D0 = true) (h00 : c.H₀ D0 = none) (nD : L D0 = none) : ActOk Y c hid D0 L W (oneA f) (emitW Y.prog Y.w Y.A elt (.ref D0) Y.env) ρ1 := by
  intro pins s σ H xs ad zs Q I sr ac rp hz smL wv na hA hQ
  unfold oneA at hA
  cases e5 : f ρ1 with
  | none => rw [e5] at hA; cases hA
  | some y =>
    rw [e5] at hA; cases hA
    unfold emitW
    refine thn (hxe ▸ he hid ρ1 _ s σ H (fun v H' => Same H H' ∧ Rep Y.K (vw H' hid) v y) I ⟨sr, y, e5, fun v H' s' r => ⟨s', r⟩⟩) fun v s10 hq_ => ?_
    obtain ⟨z, H10, I10, rz, sm10, rp10⟩ := hq_
    have a10 : H10 D0 = some (.lst xs) := sm10 _ _ ac
    refine thn (hxe ▸ mt_append (X := Y) _ s10 σ H10 (.ref D0) [z] (.ref D0) [v] (fun _ H' => H' = upd H10 D0 (.lst (xs ++ [z]))) I10 rfl (.cons rz .nil) ⟨D0, xs, z, rfl, rfl, a10, by simp at hz; omega, rfl⟩) fun _ s11 ⟨_, H11, I11, _, e11⟩ => ?_
    subst e11
    have vv : vw (upd H10 D0 (.lst (xs ++ [z]))) hid = vw H10 hid := vw_upd hh
    have w10 : Same (vw H hid) (vw H10 hid) := vw_same sm10
    refine hQ s11 σ _ (xs ++ [z]) I11 ((sr.ext sm10).write hh h00 na) upd_same ?_ (fun b o e => ?_) ?_ na
    · rw [vv]; exact (rp.mono w10).append (.cons rp10 .nil)
    · rw [upd_ne (ne_of_none e nD)]; exact sm10 _ _ (smL _ _ e)
    · rw [vv]; exact w10
theorem act_inner (hcalm : Y.calm = true) (hxe : Y.xe = fun _ _ => False) {n1 : Nat} (hT : Tail n1 g2) (hN : Nos n1 ρ1) (hi : DIp Y c t2 i2 gi2) (hg : DGt Y c t2 g2) (hp : DIf Y c ifs2 p2) (he : DP Y c .s elt f) (hh : hid D0 = true) (h00 : c.H₀ D0 = none) (nD : L D0 = none) :
    ActOk Y c hid D0 L W (inA gi2 g2 p2 f) (innerW Y.prog Y.w Y.A (.ListComp elt [⟨t1, i1, ifs1, 0⟩, ⟨t2, i2, ifs2, 0⟩] scope pos) i2 (.ref D0) Y.env) ρ1 := by
  intro pins s σ H xs ad zs Q I sr ac rp hz smL wv na hA hQ
  unfold inA at hA
  cases e5 : gi2 ρ1 with
  | none => rw [e5] at hA; cases hA
  | some ds =>
    rw [e5] at hA
    have hA : cpL g2 p2 (oneA f) ρ1 ds = some zs := hA
    unfold innerW
    refine thn (hxe ▸ hi hid ρ1 pins s σ H (fun J H' => Same H H' ∧ ItOk Y.K (vw H' hid) J ds) I ⟨sr, ds, e5, fun J H' s1 io => ⟨s1, io⟩⟩) fun v s1 h1 => thn h1 fun itv s2 h2 => ?_
    obtain ⟨it, fp, tn, J, H2, rfl, I2, T, st2, f2, sm, io⟩ := h2
    have l1 := rp.length
    have loop : codeAny (model Y.prog Y.w) Y.A (.compLoop (.ListComp elt [⟨t1, i1, ifs1, 0⟩, ⟨t2, i2, ifs2, 0⟩] scope pos) 1 (.ref it) (.ref D0) Y.env) (fun r s' => match r with
        | .ok _ => Q s'
        | .error _ => False) s2 := by
      refine gen_loop (L := L) (W := vw H2 hid) (ad0 := ad) (xs0 := xs) (A := oneA f) (TA := emitW Y.prog Y.w Y.A elt (.ref D0) Y.env) hcalm hxe hT hg hp (fun d ρ2 _ => act_emit hxe he hh h00 nD) hN I2 (sr.ext sm) hh na (sm _ _ ac) (rp.mono (vw_same sm)) (smL.trans sm) (Same.refl _) T st2 f2 io.b (by omega) hA turnP_in ?_
      intro s' σ' H' xs' I' sr' smL' ac' rp' v' na'
      exact hQ s' σ' H' xs' I' sr' ac' rp' smL' ((vw_same sm).trans v') na'
    exact start_in loop (T.self Y.A 0 _ _ _ st2 loop)
end
end L2
set_option Elab.async false
set_option linter.all false
set_option maxRecDepth 100000
namespace L2
open PySem PySem.Spec PyProof.Rows
section
variable {X : Cx} {c : Ct} {elt t1 t2 i1 i2 : Expr} {ifs1 ifs2 : List Expr} {scope : Scope} {pos : Pos} {N' : List Str} {m n1 : Nat} {gi1 gi2 : FA} {g1 g2 : FG} {p1 p2 : FT} {f : FE}
theorem comp2_block (hcalm : X.calm = true) (hk : scope.kind = .function) (hs : okS scope X.env.scope = true) (hn : okN X.N N' scope = true) (hm : N'.length - X.N.length = m) (hT1 : Tail X.N.length g1) (hU1 : Upto n1 g1) (hn1 : X.N.length ≤ n1) (hT2 : Tail n1 g2)
    (hset : ∀ C s₀ H₀ ex, ∀ x, foldedSetIterable i2 (compCx X N' scope C s₀ H₀ ex).env x = pure x)
    (hg1 : ∀ C s₀ H₀ ex, DGt (compCx X N' scope C s₀ H₀ ex) c t1 g1) (hp1 : ∀ C s₀ H₀ ex, DIf (compCx X N' scope C s₀ H₀ ex) c ifs1 p1) (hi2 : ∀ C s₀ H₀ ex, DIp (compCx X N' scope C s₀ H₀ ex) c t2 i2 gi2)
    (hg2 : ∀ C s₀ H₀ ex, DGt (compCx X N' scope C s₀ H₀ ex) c t2 g2) (hp2 : ∀ C s₀ H₀ ex, DIf (compCx X N' scope C s₀ H₀ ex) c ifs2 p2) (he : ∀ C s₀ H₀ ex, DP (compCx X N' scope C s₀ H₀ ex) c .s elt f)
    {E : Value → Shared → Prop} {pins : List (Addr × Obj)} {σ : St} {H : Hp} {s : Shared} {hid : Hid} {ρ : Rho} {J : It} {it : Addr} {fp : List Addr} {tn : Nat → Heap → Prop} {ds ys : List D} {RR : Value → Addr → Result → Shared → Prop}
    (I : Inv X pins σ H s) (sr : SR X.K c hid ρ σ H) (T : Turn X.prog X.w X.K t1 J fp it tn) (st : tn 0 s.heap) (hF : ∀ b ∈ fp, FpOk X pins H b) (io : ItB X.K H (vw H hid) J ds) (hz : ys.length ≤ sizeLine) (hc : cpL g1 p1 (inA gi2 g2 p2 f) (ρ ++ List.replicate m .no) ds = some ys)
    (hR : ∀ (D C : Addr) (s' : Shared) (H' : Hp) (xs : List V), s.heap.objs.size ≤ D → s.heap.objs.size ≤ C → D ≠ C → H D = none → Same H H' → H' D = some (.lst xs) → Reps X.K (vw H' (hadd hid D)) xs ys → (∃ m, s'.heap.Ns C m) → H' C = none → s'.os = s.os → AllBare s'.gens → HOk X.prog X.w H' s'.heap → Un (frs X.stack) fp H H' s.heap s'.heap → RR (.ref D) C (.ok .next) s') :
    wpAny (model X.prog X.w) X.A (newList []) (fun acc s₃ => wpAny (model X.prog X.w) X.A (newFunctionEnv scope X.env.globals (clo X.env.cells scope.names []) [] X.env.qual none .none (some X.env)) (fun cenv s₄ =>
      codeAny (model X.prog X.w) X.A (.compStart (.ListComp elt [⟨t1, i1, ifs1, 0⟩, ⟨t2, i2, ifs2, 0⟩] scope pos) 0 (.ref it) acc { cenv with scope := relabel scope X.env }) (RR acc cenv.locals) s₄) E s₃) E s := by
  refine wpAny_newObj_type (nfe_own fun h₁ hns₁ kp1 oc₁ => ?_)
  dsimp only at hns₁ kp1 oc₁ ⊢
  generalize hH2 : s.heap.push { cls := .type "list", dict := none, data := .seq ([] : List Value).toArray } = H2 at hns₁ kp1 oc₁ ⊢
  have hC : H2.objs.size = s.heap.objs.size + 1 := by rw [← hH2, Heap.size_push]
  have hD : H s.heap.objs.size = none := I.hok.fresh (Nat.le_refl _)
  have I2 : Inv X pins σ (upd H s.heap.objs.size (.lst [])) { s with heap := H2 } := by
    rw [← hH2]
    exact I.laid (t' := s.toks) (fun b o e => Heap.get?_push_of_some _ e) (Nat.le_refl _) ⟨Nat.zero_le _, [], 0, .nil, Heap.get?_push_size _ rfl⟩
  have fpLt : ∀ b ∈ fp, b < s.heap.objs.size := fun b hb => let ⟨o, e, _⟩ := T.obj 0 s.heap st b hb; Heap.lt_size e
  have hF2 : ∀ b ∈ fp, FpOk X pins (upd H s.heap.objs.size (.lst [])) b := fun b hb => ⟨by rw [upd_ne (Nat.ne_of_lt (fpLt b hb))]; exact (hF b hb).1, (hF b hb).2⟩
  have kp0 : ∀ b o, s.heap.get? b = some o → H2.get? b = some o := fun b o e => by rw [← hH2]; exact Heap.get?_push_of_some _ e
  have IY := inv_comp (tk := s.toks) (N' := N') (fp := fp) I2 hF2 (fun b hb => let ⟨o, e, _⟩ := T.obj 0 s.heap st b hb; ⟨o, kp0 b o e⟩) hk hs hn hns₁ kp1 oc₁
  rw [hm] at IY
  dsimp only at IY
  have sr0 : SR X.K c (hadd hid s.heap.objs.size) (ρ ++ List.replicate m .no) (σ ++ List.replicate m none) (upd H s.heap.objs.size (.lst [])) := (sr.hide (same_new hD _) hD upd_same).more m
  have hρ : ρ.length = X.N.length := by rw [← sr.len]; exact I.len
  have nf : hid s.heap.objs.size = false := sr.fresh hD
  have st1 : tn 0 h₁ := T.keep _ _ _ st fun b hb o e => kp1 b o (kp0 b o e)
  have na0 : ∀ i : Nat, Ow (ρ ++ List.replicate m Sl.no)[i]? → (σ ++ List.replicate m none)[i]? ≠ some (some (V.ref s.heap.objs.size)) := (sr.more m).notOw nf
  have wv : Same (vw H hid) (vw (upd H s.heap.objs.size (.lst [])) (hadd hid s.heap.objs.size)) := by rw [vw_new hD]; exact Same.refl _
  have nos : Nos X.N.length (ρ ++ List.replicate m Sl.no) := fun i s hi e => by
    rw [List.getElem?_append_right (by omega), List.getElem?_replicate] at e
    split at e
    · cases e; rfl
    · cases e
  have loop : ∀ s4 : Shared, s4 = { s with heap := h₁, toks := s.toks } →
      codeAny (model X.prog X.w) X.A (.compLoop (.ListComp elt [⟨t1, i1, ifs1, 0⟩, ⟨t2, i2, ifs2, 0⟩] scope pos) 0 (.ref it) (.ref s.heap.objs.size) (compEnvC scope (ownC X.env.cells scope H2.objs.size) H2.objs.size X.env)) (RR (.ref s.heap.objs.size) H2.objs.size) s4 := by
    rintro s4 rfl
    have fpY : ∀ b ∈ fp, FpOk (compCx X N' scope H2.objs.size { s with heap := H2 } (upd H s.heap.objs.size (.lst [])) fp) [] (upd H s.heap.objs.size (.lst [])) b := fun b hb =>
      ⟨(hF2 b hb).1, (IY.ok.exf b hb).1, IY.ok.exfs b hb, .inl hb, (IY.ok.exf b hb).2, fun q hq => by have hq' : q ∈ ([] : List (Addr × Obj)) ++ [] := hq; simp at hq'⟩
    refine gen_loop (Y := compCx X N' scope H2.objs.size { s with heap := H2 } (upd H s.heap.objs.size (.lst [])) fp) (L := H) (hid := hadd hid s.heap.objs.size) (W := vw H hid) (ad0 := []) (xs0 := []) (A := inA gi2 g2 p2 f) (TA := innerW X.prog X.w X.A (.ListComp elt [⟨t1, i1, ifs1, 0⟩, ⟨t2, i2, ifs2, 0⟩] scope pos) i2 (.ref s.heap.objs.size) (compEnvC scope (ownC X.env.cells scope H2.objs.size) H2.objs.size X.env))
      hcalm rfl hT1 (hg1 _ _ _ _) (hp1 _ _ _ _) (fun d ρ1 e => act_inner (Y := compCx X N' scope H2.objs.size { s with heap := H2 } (upd H s.heap.objs.size (.lst [])) fp) hcalm rfl hT2 (fun i s hi e' => ?_) (hi2 _ _ _ _) (hg2 _ _ _ _) (hp2 _ _ _ _) (he _ _ _ _) hadd_self (sr.fresh0 hD) hD) nos IY sr0 hadd_self na0 upd_same .nil (same_new hD _) wv T st1 fpY io (by simpa using hz) hc (turnP_out (hset H2.objs.size { s with heap := H2 } (upd H s.heap.objs.size (.lst [])) fp)) ?_
    · rw [hU1 _ _ _ e i hi] at e'
      exact nos i s (by omega) e'
    · intro s' σ' H' xs I' _ sm' hx' rp' _ _
      have un1 : Un (frs X.stack) fp H (upd H s.heap.objs.size (.lst [])) s.heap H2 := Un.laid (fun b o e => kp0 b o e) (Nat.le_refl _) hD
      exact hR s.heap.objs.size H2.objs.size s' H' xs (Nat.le_refl _) (by rw [hC]; exact Nat.le_succ _) (by rw [hC]; exact Nat.ne_of_lt (Nat.lt_succ_self _)) hD sm' hx' rp' (let ⟨m, hm, _⟩ := I'.loc; ⟨m, hm⟩) I'.free I'.os I'.bare I'.hok (un1.trans I'.base)
  exact codeAny_compStart_list (loop _ rfl) (T.self X.A 0 _ _ _ st1 (loop _ rfl))
theorem dp_comp2 (hcalm : X.calm = true) (n1 : Nat) (hT1 : Tail X.N.length g1) (hU1 : Upto n1 g1) (hT2 : Tail n1 g2) (hi : DIb X c t1 i1 gi1)
    (hg1 : ∀ C s₀ H₀ ex, DGt (compCx X N' scope C s₀ H₀ ex) c t1 g1) (hp1 : ∀ C s₀ H₀ ex, DIf (compCx X N' scope C s₀ H₀ ex) c ifs1 p1) (hi2 : ∀ C s₀ H₀ ex, DIp (compCx X N' scope C s₀ H₀ ex) c t2 i2 gi2)
    (hg2 : ∀ C s₀ H₀ ex, DGt (compCx X N' scope C s₀ H₀ ex) c t2 g2) (hp2 : ∀ C s₀ H₀ ex, DIf (compCx X N' scope C s₀ H₀ ex) c ifs2 p2) (he : ∀ C s₀ H₀ ex, DP (compCx X N' scope C s₀ H₀ ex) c .s elt f)
    (hk : scope.kind = .function := by rfl) (hs : okS scope X.env.scope = true := by kernel_rfl) (hn : okN X.N N' scope = true := by kernel_rfl) (hm : N'.length - X.N.length = m := by rfl) (hn1 : X.N.length ≤ n1 := by exact Nat.le_of_ble_eq_true rfl) (hset : ∀ x, foldedSetIterable i1 X.env x = pure x := by intro _; rfl)
    (hset2 : ∀ C s₀ H₀ ex, ∀ x, foldedSetIterable i2 (compCx X N' scope C s₀ H₀ ex).env x = pure x := by intros; rfl) :
    DP X c .n (.ListComp elt [⟨t1, i1, ifs1, 0⟩, ⟨t2, i2, ifs2, 0⟩] scope pos) (cp2F m gi1 g1 p1 gi2 g2 p2 f) := by
  intro hid ρ pins s σ H Q I hq
  obtain ⟨sr, d, hd, q⟩ := hq
  obtain ⟨ds, ys, e1, hc, hz, rfl⟩ := cp2F_some hd
  rw [eval_ListComp]
  refine wpAny_comprehension_free (use := none) rfl hset (closureFor_clo fun x hx => I.ok.has x (okS_free hs x hx)) hk (okS_local hs) ?_
  refine thn (hi hid ρ pins s σ H (fun J H' => Same H H' ∧ ItB X.K H' (vw H' hid) J ds) I ⟨sr, ds, e1, fun J H' s1 io => ⟨s1, io⟩⟩) fun v s1 h1 => thn h1 fun itv s2 h2 => ?_
  obtain ⟨it, fp, tn, J, H2, rfl, I2, T, st2, f2, sm, io⟩ := h2
  refine comp2_block (RR := fun acc C => compPost (model X.prog X.w) X.A X.xe none (EP X pins σ Q) acc C) hcalm hk hs hn hm hT1 hU1 hn1 hT2 hset2 hg1 hp1 hi2 hg2 hp2 he I2 (sr.ext sm) T st2 f2 io hz hc ?_
  intro D C s' H' xs hDge hCge hDC hD sm' hx rp ⟨mm, hns⟩ hC' hos hbare hok hun
  refine ⟨mm, hns, fun h' hsb => ⟨.ref D, H', ?_, rfl, q _ H' (sm.trans sm') ⟨D, xs, ys, rfl, rfl, sm.free hD, hx, rp⟩⟩⟩
  have neC : ∀ b o, s2.heap.get? b = some o → b ≠ C := fun b o e z => by subst z; exact absurd (Heap.lt_size e) (Nat.not_lt.mpr hCge)
  have hun' : Un (frs X.stack) fp H2 H' s2.heap h' := ⟨fun b o e n h1 h2 => (hsb.2 b (neC b o e)).trans (hun.keep b o e n h1 h2), fun b o e n h1 h2 => let ⟨sl, z⟩ := hun.slot b o e n h1 h2; ⟨sl, (hsb.2 b (neC b o e)).trans z⟩, hun.free, fun b o e h2 => let ⟨o', z⟩ := hun.there b o e h2; ⟨o', (hsb.2 b (neC b o e)).trans z⟩, hun.tups, hun.frzs, hun.tbls⟩
  have hok' : HOk X.prog X.w H' h' := fun b o e => by
    have nb : ∀ b' o', H' b' = some o' → b' ≠ C := fun b' o' e' z => by subst z; rw [hC'] at e'; cases e'
    refine (hok b o e).stay (fun c' u hc' z => (hsb.2 c' ?_).trans z) (fun _ z => z) fun _ _ z => z
    rcases hc' with z' | z'
    · rw [z']; exact nb b o e
    · exact nb c' _ z'
  exact I2.call' (s' := { s' with heap := h' }) (ch := fp) hos hun' hok' hbare fun b hb => ⟨(f2 b hb).2.2.2.1, (f2 b hb).2.1, (f2 b hb).2.2.2.2.1, (f2 b hb).2.2.2.2.2⟩
end
end L2
set_option Elab.async false
set_option linter.all false
set_option maxRecDepth 100000
namespace L2
open PySem PySem.Spec PyProof.Rows
def cutD (ds : List D) (lo hi : Option Int) : List D := (ds.drop (HT.sIx ds.length 0 lo)).take (HT.sIx ds.length ds.length hi - HT.sIx ds.length 0 lo)
theorem reps_cut {K : PySem.W.Frag} {F : Hp} {xs : List V} {ds : List D} (r : Reps K F xs ds) (lo hi : Option Int) : Reps K F (cutV xs lo hi) (cutD ds lo hi) := by
  unfold cutV cutD
  rw [r.length]
  exact (r.drop _).take _
abbrev FO := Rho → Option (Option Int)
def rdO (K : PySem.W.Frag) (c : Ct) (hid : Hid) (f : FO) (ρ : Rho) : TO := fun σ H Q => SR K c hid ρ σ H ∧ ∃ o, f ρ = some o ∧ ∀ H', Same H H' → Q o H'
def DO (X : Cx) (c : Ct) (e : Option Expr) (f : FO) : Prop := ∀ hid ρ, PO X e (rdO X.K c hid f ρ)
theorem PO.imp {X : Cx} {e : Option Expr} {t t' : TO} (h : PO X e t) (i : ∀ σ H Q, t' σ H Q → t σ H Q) : PO X e t' := fun pins s σ H Q I q => h pins s σ H Q I (i σ H Q q)
section
variable {X : Cx} {c : Ct} {e a b : Expr} {f g : FE} {k : Kd} {pos p2 : Pos} {lo hi : Option Expr} {l u : FO}
def noO : FO := fun _ => some none
def toO (f : FE) : FO := fun ρ => (f ρ).bind fun d => match d with
  | .int i => some (some i)
  | _ => none
theorem do_none : DO X c none noO := fun hid ρ => PO.imp po_none fun σ H Q ⟨sr, o, e, q⟩ => by cases e; exact q H (Same.refl _)
theorem do_some (h : DP X c k e f) : DO X c (some e) (toO f) := fun hid ρ => PO.imp (po_some (h hid ρ)) fun σ H Q hq_ => by
  obtain ⟨sr, o, e, q⟩ := hq_
  unfold toO at e
  cases e1 : f ρ with
  | none => rw [e1] at e; cases e
  | some d =>
    rw [e1] at e
    cases d with
    | int i =>
      cases e
      refine ⟨sr, _, e1, fun v H' s r => ⟨i, ?_, q H' s⟩⟩
      exact (RK.b k r fun a n => sr.fresh n).int
    | _ => cases e
def slLF (f : FE) (l u : FO) : FE := fun ρ => (f ρ).bind fun d => match d with
  | .lst ds => (l ρ).bind fun lo => (u ρ).map fun hi => .lst (cutD ds lo hi)
  | _ => none
theorem dp_slL (he : DP X c k e f) (hl : DO X c lo l) (hu : DO X c hi u) : DP X c .n (.Subscript e (.Slice lo hi none p2) pos) (slLF f l u) := fun hid ρ =>
  PE.imp (pe_slice sl_list (he hid ρ) (hl hid ρ) (hu hid ρ)) fun σ H Q hq_ => by
    obtain ⟨sr, d, hd, q⟩ := hq_
    unfold slLF at hd
    cases e1 : f ρ with
    | none => rw [e1] at hd; cases hd
    | some z =>
      rw [e1] at hd
      cases z with
      | lst ds =>
        have hd : ((l ρ).bind fun lo => (u ρ).map fun hi => D.lst (cutD ds lo hi)) = some d := hd
        cases e2 : l ρ with
        | none => rw [e2] at hd; cases hd
        | some o1 =>
          rw [e2] at hd
          cases e3 : u ρ with
          | none => rw [e3] at hd; cases hd
          | some o2 =>
            rw [e3] at hd; cases hd
            refine ⟨sr, _, e1, fun v H1 s1 r1 => ⟨sr.ext s1, o1, e2, fun H2 s2 => ⟨(sr.ext s1).ext s2, o2, e3, fun H3 s3 => ?_⟩⟩⟩
            obtain ⟨a, xs, rfl, h1, h2⟩ := ((RK.b k r1 fun a n => sr.fresh n).ext (s2.trans s3)).lst
            exact ⟨a, xs, rfl, h1, fun p hp => q _ _ ((s1.trans (s2.trans s3)).trans (same_new hp _)) (rn_new hp (s1.trans (s2.trans s3)) (reps_cut h2 o1 o2))⟩
      | _ => cases hd
end
end L2
set_option Elab.async false
set_option linter.all false
set_option maxRecDepth 100000
namespace PySem
open Sem (wp)
open AutoSeq1 (wpAny_loadPart')
end PySem
namespace L2
open PySem PySem.Spec PyProof.Rows
end L2
set_option Elab.async false
set_option linter.all false
set_option maxRecDepth 100000
namespace L2
open PySem PySem.W PySem.Calls PyProof.Rows
def extN (i : Nat) (g : FE) : GE := fun ρ => match g ρ with
  | some (.lst zs) => (match getB i ρ with
    | some bs => if bs.length + zs.length ≤ sizeLine then some (.non, setB i (bs ++ zs) ρ) else none
    | none => none)
  | _ => none
theorem extN_some {i : Nat} {g : FE} {ρ ρ' : Rho} {d : D} (h : extN i g ρ = some (d, ρ')) : ∃ zs bs, g ρ = some (.lst zs) ∧ getB i ρ = some bs ∧ bs.length + zs.length ≤ sizeLine ∧ d = .non ∧ ρ' = setB i (bs ++ zs) ρ := by
  unfold extN at h
  split at h
  · split at h
    · split at h
      · cases h; exact ⟨_, _, ‹_›, ‹_›, ‹_›, rfl, rfl⟩
      · cases h
    · cases h
  · cases h
section
variable {X : Cx} {c : Ct} {e : Expr} {y : Str} {py apos pos : Pos} {g : FE}
theorem de_extN (i : Nat) (he : DP X c .n e g)
    (hN : X.N[i]? = some y := by rfl) (hv : Vis X.env.scope y := by first | exact Or.inl rfl | exact Or.inr (Or.inl rfl) | exact Or.inr (Or.inr rfl)) (hd : (y == ("__debug__" : Str)) = false := by decide) (hcd : (y == ("__classdict__" : Str)) = false := by decide)
    (hbase : attributeBase (.Name y py) "extend" X.env (eval (.Name y py) X.env) = eval (.Name y py) X.env := by rfl)
    (hfew : ((backTo pos (starEach [e] X.env)).all (fun x => !x.1) && (backToKw pos (keywordEach [] X.env)).all (fun x => x.1.isSome)
      && decide ([e].length + ([] : List Keyword).length + (if ([] : List Keyword).isEmpty then 0 else 1) < 30)) = true := by rfl)
    (hline : (apos.endLine == pos.line) = true := by rfl) (hs : starEach [e] X.env = (false, eval e X.env) :: starEach [] X.env := by rfl) (hplain : (backTo pos (starEach [] X.env)).any (·.1) = false := by rfl) :
    DE X c .s (.Call (.Attribute (.Name y py) "extend" apos) [e] [] pos) (extN i g) := fun hid ρ =>
  PE.imp (pe_bm PySem.F.plainAttrs_list PySem.F.slot_list_extend PySem.F.type_list_extend mt_extend (pv i hN hv hd hcd) (pa_cons (he hid ρ) pa_nil hs) hbase hfew hline hs hplain) fun σ H Q hq_ => by
    obtain ⟨sr, d, ρ', hd', q⟩ := hq_
    obtain ⟨zs, bs, e1, e2, e3, rfl, rfl⟩ := extN_some hd'
    obtain ⟨a, xs0, a1, a2, a3, a4, a5⟩ := sr.held e2
    refine ⟨.ref a, a1, .inl ⟨rfl, _, SqL.of a2⟩, sr, _, e1, fun v H1 s1 r1 => ?_⟩
    obtain ⟨l, ws, ds', z, rfl, n1, n2, n3⟩ := r1
    cases z
    have rw1 : Reps X.K (vw H1 hid) ws zs := n3.mono (vw_less fun b w => hadd_true w)
    have rx1 : Reps X.K (vw H1 hid) xs0 bs := a4.mono (vw_same s1)
    refine ⟨a, l, xs0, ws, rfl, rfl, s1 _ _ a2, n2, by rw [rx1.length, rw1.length]; exact e3, ?_⟩
    have vv : vw (upd H1 a (.lst (xs0 ++ ws))) hid = vw H1 hid := vw_upd a3
    refine q .non _ ⟨fun b o z hb => ?_, (sr.ext s1).put e2 a1 (fun b o z hb => by rw [upd_ne hb]; exact z) upd_same (by rw [vv]; exact rx1.append rw1), .non⟩
    rw [upd_ne (fun e => by subst e; rw [a3] at hb; cases hb)]
    exact s1 _ _ z
end
end L2
set_option Elab.async false
set_option linter.all false
set_option maxRecDepth 100000
set_option maxHeartbeats 1000000
namespace L2
open PySem PySem.Spec PyProof.Rows
def szK {α : Type} (d : α) (n : Nat) : Option α := if n ≤ sizeLine then some d else none
def szL {α : Type} (d : α) (n : Nat) : Option α := if n < sizeLine then some d else none
theorem szK_small {α : Type} {d : α} {n : Nat} (h : n ≤ 1000) : szK d n = some d := if_pos (Nat.le_of_lt (small1000 h))
theorem szL_small {α : Type} {d : α} {n : Nat} (h : n ≤ 1000) : szL d n = some d := if_pos (small1000 h)
theorem tupF_ev (fs : FA) (ρ : Rho) : tupF fs ρ = (fs ρ).bind fun ds => szK (.tup ds) ds.length := rfl
theorem lstF_ev (fs : FA) (ρ : Rho) : lstF fs ρ = (fs ρ).bind fun ds => szK (.lst ds) ds.length := rfl
theorem compF_ev (m : Nat) (gi : FA) (g : FG) (p : FT) (f : FE) (ρ : Rho) : compF m gi g p f ρ = (gi ρ).bind fun ds => (szK () ds.length).bind fun _ => (compL g p f (ρ ++ List.replicate m .no) ds).map D.lst := by
  unfold compF szK
  congr 1; funext ds
  split <;> rfl
theorem appM_ev (bs : List D) (d : D) : appM bs [d] = szL (.non, bs ++ [d]) bs.length := rfl
def rngK (ds : List D) : Option (List D) := match ds with
  | [.int j] => if j.natAbs < 4000000000 then some (ups 0 j.toNat) else none
  | _ => none
theorem rngA1_ev (f : FA) (ρ : Rho) : rngA1 f ρ = (f ρ).bind rngK := rfl
theorem rngK_int {j : Int} (h : j.natAbs ≤ 1000) : rngK [.int j] = some (ups 0 j.toNat) := by
  show (if j.natAbs < 4000000000 then some (ups 0 j.toNat) else none) = _
  rw [if_pos (by omega)]
theorem addF_int (i j : Int) : addF (.int i) (.int j) = some (.int (i + j)) := rfl
theorem subF_int (i j : Int) : subF (.int i) (.int j) = some (.int (i - j)) := rfl
theorem ltF_int (i j : Int) : ltF (.int i) (.int j) = some (.bl (decide (i < j))) := rfl
theorem geF_int (i j : Int) : geF (.int i) (.int j) = some (.bl (decide (j ≤ i))) := rfl
theorem modF_int {i j : Int} (h : 0 < j) : modF (.int i) (.int j) = some (.int (i % j)) := by
  unfold modF i2
  dsimp only
  rw [if_pos (by simpa using h)]
theorem lt1000 {n : Nat} (h : n < 10 ^ 200) : n < 2 ^ 1000 := Nat.lt_of_lt_of_le h (by decide)
theorem mulF_int {i j : Int} (h1 : i.natAbs < 10 ^ 200) (h2 : j.natAbs < 10 ^ 200) : mulF (.int i) (.int j) = some (.int (i * j)) := by
  unfold mulF i2
  dsimp only
  rw [if_pos (by rw [decide_eq_true (lt1000 h1), decide_eq_true (lt1000 h2)]; rfl)]
theorem fdivF_int {i j : Int} (h1 : 0 < j) (h2 : j.natAbs < 10 ^ 200) : fdivF (.int i) (.int j) = some (.int (i / j)) := by
  unfold fdivF i2
  dsimp only
  rw [if_pos (by rw [decide_eq_true h1, decide_eq_true (lt1000 h2)]; rfl)]
theorem powF_int {i j : Int} (h0 : 0 ≤ j) (h1 : j ≤ 1000000) (h2 : i.natAbs < 2 ^ 64) : powF (.int i) (.int j) = some (.int (i ^ j.toNat)) := by
  unfold powF i2
  dsimp only
  rw [if_pos (by rw [decide_eq_true h0, decide_eq_true h1, decide_eq_true h2]; rfl)]
theorem eqF_ev {x y : D} (h : dep x ≤ 32) : eqF x y = some (.bl (eqD x y)) := if_pos h
theorem neF_ev {x y : D} (h : dep x ≤ 32) : neF x y = some (.bl (!eqD x y)) := if_pos h
theorem eqD_int (i j : Int) : eqD (.int i) (.int j) = decide (i = j) := by
  unfold eqD
  rw [Bool.eq_iff_iff]; simp
theorem dep_int (i : Int) : dep (.int i) = 0 := by unfold dep; rfl
structure Bag (N : Nat) (a b : Int) : Prop where
  a0 : 0 ≤ a
  a1 : a.natAbs < 10 ^ 180
  b0 : 0 ≤ b
  b1 : b ≤ N
  lo : b ≠ 0 → a.natAbs < 2147483647
abbrev bagD (a b : Int) : List D := [.int a, .int b]
def tC_cell : FS :=
  seqS (ifS (toB (op2 ltF (nmF 1) (callF lenD (consA (nmF 0) (nilA))))) (retF (op2 ixD (nmF 0) (nmF 1))) (skip))
  (retF (cst (.int 0)))
def mC_cell : List D → Option D := fnP .s 2 tC_cell
def tC_bag : FS :=
  seqS (setF 2 (op2 modF (callF absI (consA (callF (nF 2 mC_cell) (consA (nmF 0) (consA (nmF 1) (nilA)))) (nilA))) (op2 mulF (op2 mulF (op2 powF (cst (.int 10)) (cst (.int 60))) (op2 powF (cst (.int 10)) (cst (.int 60)))) (op2 powF (cst (.int 10)) (cst (.int 60))))))
  (seqS (ifS (toB (op2 geF (nmF 2) (op2 powF (cst (.int 10)) (cst (.int 18))))) (retF (lstF (consA (nmF 2) (consA (cst (.int 0)) (nilA))))) (skip))
  (seqS (setF 3 (op2 modF (op2 addF (op2 addF (nmF 2) (op2 mulF (cst (.int 7919)) (nmF 1))) (cst (.int 17))) (cst (.int 2147483647))))
  (seqS (forS (puA (rngA1 (consA (callF min2D (consA (callF lenD (consA (nmF 0) (nilA))) (consA (cst (.int 9)) (nilA)))) (nilA)))) (gN 4) (setF 3 (op2 modF (op2 addF (op2 addF (op2 powF (nmF 3) (cst (.int 5))) (op2 modF (op2 ixD (nmF 0) (nmF 4)) (cst (.int 2147483629)))) (op2 mulF (cst (.int 31)) (nmF 4))) (cst (.int 2147483647)))))
  (retF (lstF (consA (nmF 3) (consA (cst (.int 1)) (nilA))))))))
def mC_bag : List D → Option D := fnP .n 5 tC_bag
def tC_take : FS :=
  seqS (ifS (toB (op2 eqF (op2 ixD (nbF 0) (cst (.int 1))) (cst (.int 0)))) (seqS (setF 2 (op2 modF (op2 ixD (nbF 0) (cst (.int 0))) (nmF 1)))
  (seqS (asgE (setIx 0 (cst (.int 0))) (pu (op2 fdivF (op2 ixD (nbF 0) (cst (.int 0))) (nmF 1))))
  (retF (nmF 2)))) (skip))
  (seqS (asgE (setIx 0 (cst (.int 0))) (pu (op2 modF (op2 addF (op2 addF (op2 powF (op2 ixD (nbF 0) (cst (.int 0))) (cst (.int 5))) (op2 mulF (cst (.int 48271)) (op2 ixD (nbF 0) (cst (.int 1))))) (cst (.int 11))) (cst (.int 2147483647)))))
  (seqS (asgE (setIx 0 (cst (.int 1))) (pu (op2 addF (op2 ixD (nbF 0) (cst (.int 1))) (cst (.int 1)))))
  (retF (op2 modF (op2 fdivF (op2 modF (op2 mulF (op2 ixD (nbF 0) (cst (.int 0))) (cst (.int 69621))) (cst (.int 2147483629))) (cst (.int 8))) (nmF 1)))))
def mC_take : List D → List D → Option (D × List D) := fnE .s 3 tC_take
theorem natAbs_mod {i m : Int} (h : 0 < m) : 0 ≤ i % m ∧ i % m < m := ⟨Int.emod_nonneg _ (by omega), Int.emod_lt_of_pos _ h⟩
theorem take_ev {N : Nat} {a b m : Int} (B : Bag N a b) (hN : N ≤ 1000000000) (hm : 0 < m) (hm2 : m.natAbs < 10 ^ 20) : ∃ d a' b', mC_take (bagD a b) [.int m] = some (.int d, bagD a' b') ∧ Bag (N + 1) a' b' ∧ 0 ≤ d ∧ d < m := by
  have hm3 : m.natAbs < 10 ^ 200 := Nat.lt_of_lt_of_le hm2 (by decide)
  by_cases hb : b = 0
  · subst hb
    refine ⟨a % m, a / m, 0, ?_, ⟨Int.ediv_nonneg B.a0 (by omega), ?_, by omega, by omega, fun z => absurd rfl z⟩, natAbs_mod hm⟩
    · simp [mC_take, fnE, tC_take, rhoE, bagD, seqS, ifS, toB, op2, ixD, nbF, nmF, cst, eqF_ev, eqD_int, dep_int, asB, atI, ixN, setF, modF_int hm, asgE, pu, fdivF_int hm hm3, setIx, getB, setB, outO, retF, arg0]
    · have h1 := B.a1
      have : a / m ≤ a := Int.ediv_le_self _ B.a0
      have : 0 ≤ a / m := Int.ediv_nonneg B.a0 (by omega)
      omega
  · have lo := B.lo hb
    have p1 : a.natAbs < 2 ^ 64 := Nat.lt_trans lo (by decide)
    have p2 : b.natAbs < 10 ^ 200 := Nat.lt_of_lt_of_le (show b.natAbs < 10 ^ 10 by have := B.b1; have := B.b0; omega) (by decide)
    generalize hA : (a ^ 5 + 48271 * b + 11) % 2147483647 = A
    have hA' : 0 ≤ A ∧ A < 2147483647 := by rw [← hA]; exact natAbs_mod (by decide)
    have p3 : A.natAbs < 10 ^ 200 := Nat.lt_of_lt_of_le (show A.natAbs < 10 ^ 10 by omega) (by decide)
    refine ⟨A * 69621 % 2147483629 / 8 % m, A, b + 1, ?_, ⟨hA'.1, ?_, by have := B.b0; omega, by have := B.b1; omega, fun _ => by omega⟩, natAbs_mod hm⟩
    · have c1 : (48271 : Int).natAbs < 10 ^ 200 := Nat.lt_of_lt_of_le (show (48271 : Int).natAbs < 10 ^ 10 by decide) (by decide)
      have c2 : (69621 : Int).natAbs < 10 ^ 200 := Nat.lt_of_lt_of_le (show (69621 : Int).natAbs < 10 ^ 10 by decide) (by decide)
      have c3 : (8 : Int).natAbs < 10 ^ 200 := Nat.lt_of_lt_of_le (show (8 : Int).natAbs < 10 ^ 10 by decide) (by decide)
      have e1 : powF (.int a) (.int 5) = some (.int (a ^ 5)) := powF_int (by decide) (by decide) p1
      have e2 : mulF (.int 48271) (.int b) = some (.int (48271 * b)) := mulF_int c1 p2
      have e3 : ∀ i : Int, modF (.int i) (.int 2147483647) = some (.int (i % 2147483647)) := fun i => modF_int (by decide)
      have e4 : ∀ i : Int, modF (.int i) (.int 2147483629) = some (.int (i % 2147483629)) := fun i => modF_int (by decide)
      have e5 : mulF (.int A) (.int 69621) = some (.int (A * 69621)) := mulF_int p3 c2
      have e6 : ∀ i : Int, fdivF (.int i) (.int 8) = some (.int (i / 8)) := fun i => fdivF_int (by decide) c3
      simp [mC_take, fnE, tC_take, rhoE, bagD, seqS, ifS, toB, op2, ixD, nbF, nmF, cst, eqF_ev, eqD_int, dep_int, asB, atI, ixN, hb, skip, e1, e2, e3, e4, addF_int, asgE, pu, setIx, getB, setB, outO, retF, arg0, hA, e5, e6, modF_int hm]
    · exact Nat.lt_of_lt_of_le (show A.natAbs < 10 ^ 10 by omega) (by decide)
end L2
set_option Elab.async false
set_option linter.all false
set_option maxRecDepth 100000
set_option maxHeartbeats 1000000
namespace L2
open PySem PySem.Spec PyProof.Rows
theorem seq_at {t u : FS} {ρ ρ' : Rho} (h : t ρ = .nx ρ') : seqS t u ρ = u ρ' := by unfold seqS; rw [h]
abbrev nI (i : Nat) : D := .int (i : Int)
abbrev scD (ns : List Int) : D := .scr (ns.map D.int)
theorem ups_N (n : Nat) : ups 0 n = (List.range n).map nI := by
  unfold ups
  simp
theorem ixN_nat {n j : Nat} (h : j < n) : ixN n (j : Int) = some j := by
  unfold ixN
  rw [if_pos (by omega), if_pos (by omega)]; simp
theorem cell_ev (ns : List Int) (k : Nat) : ∃ c, mC_cell [scD ns, nI k] = some (.int c) := by
  by_cases h : k < ns.length
  · refine ⟨ns[k], ?_⟩
    simp [mC_cell, fnP, tC_cell, rho0, seqS, ifS, toB, op2, nmF, callF, consA, nilA, lenD, ltF_int, asB, h, retF, ixD, atI, ixN_nat (show k < (ns.map D.int).length by simpa using h)]
    simp [ixN_nat h, h]
  · refine ⟨0, ?_⟩
    simp [mC_cell, fnP, tC_cell, rho0, seqS, ifS, toB, op2, nmF, callF, consA, nilA, lenD, ltF_int, asB, h, retF, skip, cst]
theorem bag_loop (ns : List Int) (k : D) (c : D) : ∀ (l : List Nat), (∀ i ∈ l, i < ns.length ∧ i < 1000) → ∀ (x : Int) (s4 : Sl), 0 ≤ x → x < 2147483647 → ∃ (x' : Int) (s4' : Sl), 0 ≤ x' ∧ x' < 2147483647 ∧
    forL (gN 4) (setF 3 (op2 modF (op2 addF (op2 addF (op2 powF (nmF 3) (cst (.int 5))) (op2 modF (op2 ixD (nmF 0) (nmF 4)) (cst (.int 2147483629)))) (op2 mulF (cst (.int 31)) (nmF 4))) (cst (.int 2147483647)))) (l.map nI) [.v (scD ns), .v k, .v c, .v (.int x), s4] = .nx [.v (scD ns), .v k, .v c, .v (.int x'), s4']
  | [], _, x, s4, h1, h2 => ⟨x, s4, h1, h2, rfl⟩
  | i :: l, hl, x, s4, h1, h2 => by
    obtain ⟨hi, hi2⟩ := hl i (by simp)
    have e1 : powF (.int x) (.int 5) = some (.int (x ^ 5)) := powF_int (by decide) (by decide) (Nat.lt_of_lt_of_le (show x.natAbs < 10 ^ 10 by omega) (by decide))
    have e2 : mulF (.int 31) (nI i) = some (.int (31 * i)) := mulF_int (Nat.lt_of_lt_of_le (show (31 : Int).natAbs < 10 ^ 10 by decide) (by decide)) (Nat.lt_of_lt_of_le (show (i : Int).natAbs < 10 ^ 10 by omega) (by decide))
    have e3 : ∀ i : Int, modF (.int i) (.int 2147483647) = some (.int (i % 2147483647)) := fun i => modF_int (by decide)
    have e4 : ∀ i : Int, modF (.int i) (.int 2147483629) = some (.int (i % 2147483629)) := fun i => modF_int (by decide)
    obtain ⟨y1, y2⟩ := natAbs_mod (i := x ^ 5 + ns[i] % 2147483629 + 31 * i) (m := 2147483647) (by decide)
    obtain ⟨x', s4', g1, g2, g3⟩ := bag_loop ns k c l (fun j hj => hl j (by simp [hj])) _ (.v (nI i)) y1 y2
    refine ⟨x', s4', g1, g2, ?_⟩
    rw [← g3]
    simp [forL, gN, setF, op2, nmF, cst, e1, e2, e3, e4, ixD, atI, ixN_nat (show i < (ns.map D.int).length by simpa using hi), ixN_nat hi, hi, addF_int]
theorem bag_ev (ns : List Int) (k : Nat) (hk : k ≤ 1000) (hn : ns.length ≤ 63) : ∃ a b, mC_bag [scD ns, nI k] = some (.lst (bagD a b)) ∧ Bag 1 a b := by
  obtain ⟨c, hc⟩ := cell_ev ns k
  have p1 : powF (.int 10) (.int 60) = some (.int (10 ^ 60)) := powF_int (by decide) (by decide) (by decide)
  have p2 : powF (.int 10) (.int 18) = some (.int (10 ^ 18)) := powF_int (by decide) (by decide) (by decide)
  have q60 : ((10 : Int) ^ 60).natAbs < 10 ^ 200 := by decide
  have q120 : ((10 : Int) ^ 60 * 10 ^ 60).natAbs < 10 ^ 200 := by decide
  have m1 : mulF (.int (10 ^ 60)) (.int (10 ^ 60)) = some (.int (10 ^ 60 * 10 ^ 60)) := mulF_int q60 q60
  have m2 : mulF (.int (10 ^ 60 * 10 ^ 60)) (.int (10 ^ 60)) = some (.int (10 ^ 60 * 10 ^ 60 * 10 ^ 60)) := mulF_int q120 q60
  have m3 : mulF (.int 7919) (nI k) = some (.int (7919 * k)) := mulF_int (Nat.lt_of_lt_of_le (show (7919 : Int).natAbs < 10 ^ 10 by decide) (by decide)) (Nat.lt_of_lt_of_le (show (k : Int).natAbs < 10 ^ 10 by omega) (by decide))
  generalize hA : (if c < 0 then -c else c) % (10 ^ 60 * 10 ^ 60 * 10 ^ 60) = A
  have hA' : 0 ≤ A ∧ A < 10 ^ 60 * 10 ^ 60 * 10 ^ 60 := by rw [← hA]; exact natAbs_mod (by decide)
  have s1 : setF 2 (op2 modF (callF absI (consA (callF (nF 2 mC_cell) (consA (nmF 0) (consA (nmF 1) (nilA)))) (nilA))) (op2 mulF (op2 mulF (op2 powF (cst (.int 10)) (cst (.int 60))) (op2 powF (cst (.int 10)) (cst (.int 60)))) (op2 powF (cst (.int 10)) (cst (.int 60))))) [.v (scD ns), .v (nI k), .no, .no, .no] = .nx [.v (scD ns), .v (nI k), .v (.int A), .no, .no] := by
    have m4 : ∀ i : Int, modF (.int i) (.int (10 ^ 60 * 10 ^ 60 * 10 ^ 60)) = some (.int (i % (10 ^ 60 * 10 ^ 60 * 10 ^ 60))) := fun i => modF_int (by decide)
    unfold setF
    have : op2 modF (callF absI (consA (callF (nF 2 mC_cell) (consA (nmF 0) (consA (nmF 1) (nilA)))) (nilA))) (op2 mulF (op2 mulF (op2 powF (cst (.int 10)) (cst (.int 60))) (op2 powF (cst (.int 10)) (cst (.int 60)))) (op2 powF (cst (.int 10)) (cst (.int 60)))) [.v (scD ns), .v (nI k), .no, .no, .no] = some (.int A) := by
      have ec : callF (nF 2 mC_cell) (consA (nmF 0) (consA (nmF 1) nilA)) [.v (scD ns), .v (nI k), .no, .no, .no] = some (.int c) := hc
      simp only [op2, callF, consA, nilA, cst, Option.bind_some, p1, m1, m2, absI]
      have ec' : ((nmF 0 [.v (scD ns), .v (nI k), .no, .no, .no]).bind fun d => ((nmF 1 [.v (scD ns), .v (nI k), .no, .no, .no]).bind fun d => (some []).map fun r => d :: r).map fun r => d :: r).bind (nF 2 mC_cell) = some (.int c) := hc
      rw [ec']
      simp only [Option.bind_some, Option.map_some, m4, absI, hA]
    rw [this]; rfl
  have r0 : rho0 5 [scD ns, nI k] = [.v (scD ns), .v (nI k), .no, .no, .no] := rfl
  unfold mC_bag fnP tC_bag
  rw [r0, seq_at s1]
  have hA180 : A.natAbs < 10 ^ 180 := by
    have : (10 : Int) ^ 60 * 10 ^ 60 * 10 ^ 60 = ((10 ^ 180 : Nat) : Int) := by decide
    rw [this] at hA'
    omega
  by_cases hb : (10 : Int) ^ 18 ≤ A
  · refine ⟨A, 0, ?_, ⟨hA'.1, hA180, by decide, by decide, fun z => absurd rfl z⟩⟩
    simp only [seqS, ifS, toB, op2, nmF, List.getElem?_cons_succ, List.getElem?_cons_zero, Option.bind_some, cst, p2, geF_int, asB, decide_eq_true hb, retF, lstF_ev, consA, nilA, Option.map_some]
    rw [szK_small (by simp)]
  · generalize hx : (A + 7919 * (k : Int) + 17) % 2147483647 = x
    have hx' : 0 ≤ x ∧ x < 2147483647 := by rw [← hx]; exact natAbs_mod (by decide)
    have m4 : modF (.int (A + 7919 * (k : Int) + 17)) (.int 2147483647) = some (.int x) := by rw [modF_int (by decide), hx]
    have hr : rngA1 (consA (callF min2D (consA (callF lenD (consA (nmF 0) (nilA))) (consA (cst (.int 9)) (nilA)))) (nilA)) [.v (scD ns), .v (nI k), .v (.int A), .v (.int x), .no] = some ((List.range (min ns.length 9)).map nI) := by
      rw [rngA1_ev]
      simp only [callF, consA, nilA, nmF, cst, List.getElem?_cons_zero, Option.bind_some, Option.map_some, lenD, min2D, List.length_map]
      have : (if (9 : Int) < (ns.length : Int) then (9 : Int) else (ns.length : Int)) = ((min ns.length 9 : Nat) : Int) := by split <;> omega
      rw [this, rngK_int (by omega), ups_N, Int.toNat_natCast]
    obtain ⟨x', s4', g1, g2, g3⟩ := bag_loop ns (nI k) (.int A) (List.range (min ns.length 9)) (fun i hi => by have := List.mem_range.mp hi; omega) x .no hx'.1 hx'.2
    refine ⟨x', 1, ?_, ⟨g1, Nat.lt_of_lt_of_le (show x'.natAbs < 10 ^ 10 by omega) (by decide), by decide, by decide, fun _ => by omega⟩⟩
    have f1 : forS (puA (rngA1 (consA (callF min2D (consA (callF lenD (consA (nmF 0) (nilA))) (consA (cst (.int 9)) (nilA)))) (nilA)))) (gN 4) (setF 3 (op2 modF (op2 addF (op2 addF (op2 powF (nmF 3) (cst (.int 5))) (op2 modF (op2 ixD (nmF 0) (nmF 4)) (cst (.int 2147483629)))) (op2 mulF (cst (.int 31)) (nmF 4))) (cst (.int 2147483647)))) [.v (scD ns), .v (nI k), .v (.int A), .v (.int x), .no] = .nx [.v (scD ns), .v (nI k), .v (.int A), .v (.int x'), s4'] := by
      unfold forS puA
      rw [hr]
      exact g3
    have i1 : ifS (toB (op2 geF (nmF 2) (op2 powF (cst (.int 10)) (cst (.int 18))))) (retF (lstF (consA (nmF 2) (consA (cst (.int 0)) (nilA))))) (skip) [.v (scD ns), .v (nI k), .v (.int A), .no, .no] = .nx [.v (scD ns), .v (nI k), .v (.int A), .no, .no] := by
      simp only [ifS, toB, op2, nmF, List.getElem?_cons_succ, List.getElem?_cons_zero, Option.bind_some, cst, p2, geF_int, asB, decide_eq_false hb, skip]
    have i2 : setF 3 (op2 modF (op2 addF (op2 addF (nmF 2) (op2 mulF (cst (.int 7919)) (nmF 1))) (cst (.int 17))) (cst (.int 2147483647))) [.v (scD ns), .v (nI k), .v (.int A), .no, .no] = .nx [.v (scD ns), .v (nI k), .v (.int A), .v (.int x), .no] := by
      simp only [setF, op2, nmF, List.getElem?_cons_succ, List.getElem?_cons_zero, Option.bind_some, cst, m3, addF_int, m4, List.set_cons_succ, List.set_cons_zero]
    rw [seq_at i1, seq_at i2, seq_at f1]
    simp only [retF, lstF_ev, consA, nilA, nmF, cst, List.getElem?_cons_succ, List.getElem?_cons_zero, Option.bind_some, Option.map_some]
    rw [szK_small (by simp)]
end L2
set_option Elab.async false
set_option linter.all false
set_option maxRecDepth 100000
set_option maxHeartbeats 1000000
namespace L2
open PySem PySem.Spec PyProof.Rows
theorem callE_at {i n : Nat} {M : List D → List D → Option (D × List D)} {fs : GA} {ρ ρ1 : Rho} {b0 bs ds bs' : List D} {d : D} (h0 : getB i ρ = some b0) (h1 : fs ρ = some (ds, ρ1)) (h2 : getB i ρ1 = some bs) (h3 : ds.length = n) (h4 : M bs ds = some (d, bs')) : callE i n M fs ρ = some (d, setB i bs' ρ1) := by
  unfold callE
  rw [h0]; dsimp only; rw [h1]; dsimp only; rw [h2]; dsimp only; rw [if_pos h3, h4]
theorem consG_at {f : GE} {fs : GA} {ρ ρ1 ρ2 : Rho} {d : D} {ds : List D} (h1 : f ρ = some (d, ρ1)) (h2 : fs ρ1 = some (ds, ρ2)) : consG f fs ρ = some (d :: ds, ρ2) := by
  unfold consG bE; rw [h1]; dsimp only [Option.bind]; rw [h2]; rfl
theorem puA_at {f : FA} {ρ : Rho} {ds : List D} (h : f ρ = some ds) : puA f ρ = some (ds, ρ) := by unfold puA; rw [h]; rfl
theorem pu_at {f : FE} {ρ : Rho} {d : D} (h : f ρ = some d) : pu f ρ = some (d, ρ) := by unfold pu; rw [h]; rfl
end L2
set_option Elab.async false
set_option linter.all false
set_option maxRecDepth 100000
set_option maxHeartbeats 1000000
namespace L2
open PySem PySem.Spec PyProof.Rows
theorem op2_at {F : D → D → Option D} {f g : FE} {ρ : Rho} {x y : D} (h1 : f ρ = some x) (h2 : g ρ = some y) : op2 F f g ρ = F x y := by unfold op2; rw [h1, Option.bind_some, h2, Option.bind_some]
theorem op2E_at {F : D → D → Option D} {f g : GE} {ρ ρ1 ρ2 : Rho} {x y d : D} (h1 : f ρ = some (x, ρ1)) (h2 : g ρ1 = some (y, ρ2)) (h3 : F x y = some d) : op2E F f g ρ = some (d, ρ2) := by
  unfold op2E bE; rw [h1]; dsimp only [Option.bind]; rw [h2]; dsimp only [Option.bind]; rw [h3]; rfl
theorem setF_at {i : Nat} {f : FE} {ρ : Rho} {d : D} (h : f ρ = some d) : setF i f ρ = .nx (ρ.set i (.v d)) := by unfold setF; rw [h]
theorem setE_at {i : Nat} {f : GE} {ρ ρ1 : Rho} {d : D} (h : f ρ = some (d, ρ1)) : setE i f ρ = .nx (ρ1.set i (.v d)) := by unfold setE; rw [h]
theorem ownF_at {i : Nat} {f : FE} {ρ : Rho} {ds : List D} (h : f ρ = some (.lst ds)) : ownF i f ρ = .nx (ρ.set i (.own ds)) := by unfold ownF; rw [h]; rfl
theorem tupF_at {f : FA} {ρ : Rho} {ds : List D} (h : f ρ = some ds) (h2 : ds.length ≤ 1000) : tupF f ρ = some (.tup ds) := by
  rw [tupF_ev, h, Option.bind_some, szK_small h2]
theorem lstF_at {f : FA} {ρ : Rho} {ds : List D} (h : f ρ = some ds) (h2 : ds.length ≤ 1000) : lstF f ρ = some (.lst ds) := by
  rw [lstF_ev, h, Option.bind_some, szK_small h2]
theorem consA_at {f : FE} {fs : FA} {ρ : Rho} {d : D} {ds : List D} (h1 : f ρ = some d) (h2 : fs ρ = some ds) : consA f fs ρ = some (d :: ds) := by unfold consA; rw [h1, h2]; rfl
theorem callF_at {F : List D → Option D} {f : FA} {ρ : Rho} {ds : List D} (h : f ρ = some ds) : callF F f ρ = F ds := by unfold callF; rw [h]; rfl
theorem compL_map {α : Type} {g : FG} {f : FE} {ρ0 : Rho} {h o : α → D} : ∀ (l : List α), (∀ i ∈ l, ∃ ρ1, g (h i) ρ0 = some ρ1 ∧ f ρ1 = some (o i)) → compL g yesT f ρ0 (l.map h) = some (l.map o)
  | [], _ => rfl
  | a :: l, H => by
    obtain ⟨ρ1, h1, h2⟩ := H a (by simp)
    have ih := compL_map l fun i hi => H i (by simp [hi])
    rw [List.map_cons]
    unfold compL
    rw [h1, Option.bind_some]
    simp only [yesT, Option.bind_some, if_true, h2, ih]
    rfl
theorem compF_at {m : Nat} {gi : FA} {g : FG} {p : FT} {f : FE} {ρ : Rho} {ds ys : List D} (h1 : gi ρ = some ds) (h2 : ds.length ≤ 1000) (h3 : compL g p f (ρ ++ List.replicate m .no) ds = some ys) : compF m gi g p f ρ = some (.lst ys) := by
  rw [compF_ev, h1, Option.bind_some, szK_small h2, Option.bind_some, h3]; rfl
theorem rngA1_at {f : FA} {ρ : Rho} {n : Nat} (h : f ρ = some [nI n]) (hn : n ≤ 1000) : rngA1 f ρ = some ((List.range n).map nI) := by
  rw [rngA1_ev, h, Option.bind_some, rngK_int (by omega), ups_N]; rfl
end L2
set_option Elab.async false
set_option linter.all false
set_option maxRecDepth 100000
set_option maxHeartbeats 1000000
namespace L2
open PySem PySem.Spec PyProof.Rows
theorem nF_at {n : Nat} {P : List D → Option D} {ds : List D} (h : ds.length = n) : nF n P ds = P ds := if_pos h
theorem cl_at {n : Nat} {P : List D → Option D} {fs : FA} {ρ : Rho} {ds : List D} (h : fs ρ = some ds) (hl : ds.length = n) : callF (nF n P) fs ρ = P ds := (callF_at h).trans (nF_at hl)
theorem callG_at {F : List D → Option D} {fs : GA} {ρ ρ1 : Rho} {ds : List D} {d : D} (h : fs ρ = some (ds, ρ1)) (h2 : F ds = some d) : callG F fs ρ = some (d, ρ1) := by unfold callG; rw [h]; dsimp only [Option.bind]; rw [h2]; rfl
theorem clG_at {n : Nat} {P : List D → Option D} {fs : GA} {ρ ρ1 : Rho} {ds : List D} {d : D} (h : fs ρ = some (ds, ρ1)) (hl : ds.length = n) (h2 : P ds = some d) : callG (nF n P) fs ρ = some (d, ρ1) := callG_at h ((nF_at hl).trans h2)
theorem fnP_ret {kd : Kd} {n : Nat} {t : FS} {ds : List D} {ρ : Rho} {d : D} (h : t (rho0 n ds) = .rt d ρ) : fnP kd n t ds = some d := by unfold fnP; rw [h]
theorem retF_at {f : FE} {ρ : Rho} {d : D} (h : f ρ = some d) : retF f ρ = .rt d ρ := by unfold retF; rw [h]
theorem blsD_of : ∀ bs : List Bool, blsD (bs.map D.bl) = some bs
  | [] => rfl
  | b :: r => by show (blsD (r.map D.bl)).map (b :: ·) = _; rw [blsD_of r]; rfl
theorem allD_of (bs : List Bool) : allD [.lst (bs.map D.bl)] = some (.bl (bs.all id)) := by
  show (blsD (bs.map D.bl)).map (fun bs => D.bl (bs.all id)) = _
  rw [blsD_of]; rfl
theorem ifS_f {p : FT} {t u : FS} {ρ : Rho} (h : p ρ = some false) : ifS p t u ρ = u ρ := by unfold ifS; rw [h]
theorem or2_at {p q : FT} {ρ : Rho} {b : Bool} (h1 : p ρ = some false) (h2 : q ρ = some b) : or2 p q ρ = some b := by unfold or2; rw [h1]; exact h2
theorem or2_t {p q : FT} {ρ : Rho} (h1 : p ρ = some true) : or2 p q ρ = some true := by unfold or2; rw [h1]; rfl
theorem and2_at {p q : FT} {ρ : Rho} {b : Bool} (h1 : p ρ = some true) (h2 : q ρ = some b) : and2 p q ρ = some b := by unfold and2; rw [h1]; exact h2
theorem asD_at {p : FT} {ρ : Rho} {b : Bool} (h : p ρ = some b) : asD p ρ = some (.bl b) := by unfold asD; rw [h]; rfl
theorem dropE_at {f : GE} {ρ ρ1 : Rho} {d : D} (h : f ρ = some (d, ρ1)) : dropE f ρ = .nx ρ1 := by unfold dropE; rw [h]
theorem toB_at {f : FE} {ρ : Rho} {b : Bool} (h : f ρ = some (.bl b)) : toB f ρ = some b := by unfold toB; rw [h]; rfl
theorem tru_bl {f : FE} {ρ : Rho} {b : Bool} (h : f ρ = some (.bl b)) : tru1 f ρ = some b := by unfold tru1; rw [h]; rfl
theorem not_at {p : FT} {ρ : Rho} {b : Bool} (h : p ρ = some b) : not1 p ρ = some (!b) := by unfold not1; rw [h]; rfl
theorem ne_same {x : D} (h : dep x ≤ 32) : neF x x = some (.bl false) := by rw [neF_ev h, eqD_refl]; rfl
theorem eq_same {x : D} (h : dep x ≤ 32) : eqF x x = some (.bl true) := by rw [eqF_ev h, eqD_refl]
theorem forL_cons {g : FG} {b : FS} {d : D} {r : List D} {ρ ρ1 ρ2 : Rho} (h1 : g d ρ = some ρ1) (h2 : b ρ1 = .nx ρ2) : forL g b (d :: r) ρ = forL g b r ρ2 := by
  show (match g d ρ with
    | none => Out.no
    | some ρ1 => match b ρ1 with
      | .nx ρ2 => forL g b r ρ2
      | .ct ρ2 => forL g b r ρ2
      | .bk ρ2 => .nx ρ2
      | .rt d ρ2 => .rt d ρ2
      | .no => .no) = _
  rw [h1]; dsimp only; rw [h2]
theorem forS_at {f : GA} {g : FG} {b : FS} {ρ ρ1 : Rho} {ds : List D} (h : f ρ = some (ds, ρ1)) : forS f g b ρ = forL g b ds ρ1 := by unfold forS; rw [h]
theorem fnP_ex {kd : Kd} {n : Nat} {t : FS} {ds : List D} {d : D} (h : ∃ ρ, t (rho0 n ds) = .rt d ρ) : fnP kd n t ds = some d := let ⟨_, h⟩ := h; fnP_ret h
theorem seq_ex {t u : FS} {ρ : Rho} {d : D} (P : Rho → Prop) (h : ∃ ρ', t ρ = .nx ρ' ∧ P ρ') (hu : ∀ ρ', P ρ' → ∃ ρ'', u ρ' = .rt d ρ'') : ∃ ρ'', seqS t u ρ = .rt d ρ'' := by
  obtain ⟨ρ', h1, h2⟩ := h
  obtain ⟨ρ'', h3⟩ := hu ρ' h2
  exact ⟨ρ'', (seq_at h1).trans h3⟩
theorem forS_ex {f : GA} {g : FG} {b : FS} {ρ ρ1 : Rho} {ds : List D} {P : Rho → Prop} (h : f ρ = some (ds, ρ1)) (hl : ∃ ρ', forL g b ds ρ1 = .nx ρ' ∧ P ρ') : ∃ ρ', forS f g b ρ = .nx ρ' ∧ P ρ' := by
  obtain ⟨ρ', h1, h2⟩ := hl
  exact ⟨ρ', (forS_at h).trans h1, h2⟩
theorem forL_ex {g : FG} {b : FS} {P : Rho → Prop} : ∀ (l : List D), (∀ d ∈ l, ∀ ρ, P ρ → ∃ ρ1 ρ2, g d ρ = some ρ1 ∧ b ρ1 = .nx ρ2 ∧ P ρ2) → ∀ ρ, P ρ → ∃ ρ', forL g b l ρ = .nx ρ' ∧ P ρ'
  | [], _, ρ, p => ⟨ρ, rfl, p⟩
  | d :: l, h, ρ, p => by
    obtain ⟨ρ1, ρ2, h1, h2, p2⟩ := h d (by simp) ρ p
    obtain ⟨ρ', e, p'⟩ := forL_ex l (fun d' hd => h d' (by simp [hd])) ρ2 p2
    exact ⟨ρ', (forL_cons h1 h2).trans e, p'⟩
theorem app_at {i : Nat} {fs : GA} {ρ ρ1 : Rho} {b0 bs : List D} {d : D} (h0 : getB i ρ = some b0) (h1 : fs ρ = some ([d], ρ1)) (h2 : getB i ρ1 = some bs) (h3 : bs.length ≤ 900) : dropE (callE i 1 appM fs) ρ = .nx (setB i (bs ++ [d]) ρ1) :=
  dropE_at (callE_at h0 h1 h2 rfl (by rw [appM_ev, szL_small (by omega)]))
theorem compL_flt {α : Type} {g : FG} {p : FT} {f : FE} {ρ0 : Rho} {h o : α → D} {q : α → Bool} : ∀ (l : List α), (∀ i ∈ l, ∃ ρ1, g (h i) ρ0 = some ρ1 ∧ p ρ1 = some (q i) ∧ (q i = true → f ρ1 = some (o i))) → compL g p f ρ0 (l.map h) = some ((l.filter q).map o)
  | [], _ => rfl
  | a :: l, H => by
    obtain ⟨ρ1, h1, h2, h3⟩ := H a (by simp)
    have ih := compL_flt l fun i hi => H i (by simp [hi])
    rw [List.map_cons]
    unfold compL
    rw [h1, Option.bind_some, h2, Option.bind_some]
    cases e : q a with
    | true => rw [if_pos rfl, h3 e, Option.bind_some, ih]; simp [e]
    | false => rw [if_neg (by simp), ih]; simp [e]
theorem cpL_map {α : Type} {g : FG} {p : FT} {A : FA} {ρ0 : Rho} {h : α → D} {q : α → Bool} {o : α → List D} : ∀ (l : List α), (∀ i ∈ l, ∃ ρ1, g (h i) ρ0 = some ρ1 ∧ p ρ1 = some (q i) ∧ (q i = true → A ρ1 = some (o i))) → cpL g p A ρ0 (l.map h) = some ((l.filter q).flatMap o)
  | [], _ => rfl
  | a :: l, H => by
    obtain ⟨ρ1, h1, h2, h3⟩ := H a (by simp)
    have ih := cpL_map l fun i hi => H i (by simp [hi])
    rw [List.map_cons]
    unfold cpL
    rw [h1, Option.bind_some, h2, Option.bind_some]
    cases e : q a with
    | true => rw [if_pos rfl, h3 e, Option.bind_some, ih]; simp [e]
    | false => rw [if_neg (by simp), ih]; simp [e]
theorem oneA_at {f : FE} {ρ : Rho} {d : D} (h : f ρ = some d) : oneA f ρ = some [d] := by unfold oneA; rw [h]; rfl
theorem inA_at {gi : FA} {g : FG} {p : FT} {f : FE} {ρ : Rho} {ds ys : List D} (h1 : gi ρ = some ds) (h2 : cpL g p (oneA f) ρ ds = some ys) : inA gi g p f ρ = some ys := by
  unfold inA; rw [h1, Option.bind_some, h2]
end L2
set_option Elab.async false
set_option linter.all false
set_option maxRecDepth 100000
set_option maxHeartbeats 1000000
namespace L2
open PySem PySem.Spec PyProof.Rows
end L2
set_option Elab.async false
set_option linter.all false
set_option maxRecDepth 100000
set_option maxHeartbeats 1000000
namespace L2
open PySem PySem.Spec PyProof.Rows
end L2
set_option Elab.async false
set_option linter.all false
set_option maxRecDepth 100000
set_option maxHeartbeats 1000000
namespace L2
open PySem PySem.Spec PyProof.Rows
end L2
set_option Elab.async false
set_option linter.all false
set_option maxRecDepth 100000
set_option maxHeartbeats 1000000
namespace L2
open PySem PySem.Spec PyProof.Rows
end L2
set_option Elab.async false
set_option linter.all false
set_option maxRecDepth 100000
namespace L2
open PySem PySem.Spec PyProof.Rows
end L2
set_option Elab.async false
set_option linter.all false
set_option maxRecDepth 100000
namespace L2
open PySem PySem.W PySem.Spec PyProof.Rows
end L2
set_option Elab.async false
set_option linter.all false
set_option maxRecDepth 100000
namespace L2
open PySem PySem.Spec PyProof.Rows
theorem Inv.turnedL {X : Cx} {pins : List (Addr × Obj)} {σ : St} {H : Hp} {s : Shared} {h' : Heap} {t' : Nat} (L : List Addr) (I : Inv X pins σ H s) (hf : ∀ b ∈ L, FpOk X pins H b) (k : ∀ b o, b ∉ L → s.heap.get? b = some o → h'.get? b = some o) : Inv X pins σ H { s with heap := h', toks := t' } := by
  have nit : ∀ b u, H b = some u → b ∉ L := fun b u e z => by rw [(hf b z).1] at e; cases e
  have hL : X.env.locals ∉ L := fun z => (hf _ z).2.1 rfl
  refine I.step (g' := s.gens) (d' := s.drawn) (ch := L) (fun b hb => ?_) (fun b o _ _ hc e _ => k b o hc e) (fun b o _ _ hc e _ => ⟨o.slots, k b o hc e⟩) (fun _ _ _ _ n => n)
    (fun b o hc e => ⟨o, k b o hc e⟩) (fun _ _ e => e) (fun _ _ _ e => e) (fun b ps e => ⟨#[], by rw [e]; simp⟩) (fun m hm => ?_) (fun b u e => ?_) I.bare
  · obtain ⟨f0, f1, f2, f3, f4, f5⟩ := hf b hb
    exact ⟨f3, f1, f4, f5⟩
  · obtain ⟨o, es, ep, ho, r⟩ := hm
    exact ⟨o, es, ep, k _ o hL ho, r⟩
  · refine (I.hok b u e).stay (fun c v hc q => k c v ?_ q) (fun _ q => q) fun _ _ q => q
    rcases hc with z | z
    · rw [z]; exact nit b u e
    · exact nit c _ z
def Itz (K : PySem.W.Frag) (a b : Addr) : It :=
  ⟨fun i H => ∃ xs ys x y, SqL K H a xs ∧ SqL K H b ys ∧ xs[i]? = some x ∧ ys[i]? = some y, fun i H x H' => ∃ T, x = .ref T ∧ H T = none ∧ ∀ xs ys, SqL K H a xs → SqL K H b ys → ∃ y z, xs[i]? = some y ∧ ys[i]? = some z ∧ H' = upd H T (.tup [y, z]), fun i H => ∃ xs ys, SqL K H a xs ∧ SqL K H b ys ∧ (xs.length ≤ i ∨ ys.length ≤ i)⟩
theorem turn_zip {P : Program} {w : World} {K : PySem.W.Frag} {es : List Expr} {x1} {pos : Pos} (a b z TI TO i1 i2 : Addr) (AP : ZipApart z TI TO i1 i2 a b) : Turn P w K (.Tuple es x1 pos) (Itz K a b) [z, TI, TO, i1, i2] z (fun i h => IsZip h z TI TO .none ∧ IsPair h TI (.ref i1) (.ref i2) ∧ (∃ p q, IsPair h TO p q) ∧ h.IsListIter i1 a i ∧ h.IsListIter i2 b i) where
  mem := by simp
  obj := fun i h st c hc => by
    obtain ⟨hz, hTI, ⟨p, q, hTO⟩, ⟨o1, ho1, _, hd1⟩, ⟨o2, ho2, _, hd2⟩⟩ := st
    simp only [List.mem_cons, List.not_mem_nil, or_false] at hc
    rcases hc with rfl | rfl | rfl | rfl | rfl
    · exact ⟨_, hz, fun v e => by cases e⟩
    · exact ⟨_, hTI, fun v e => by cases e⟩
    · exact ⟨_, hTO, fun v e => by cases e⟩
    · exact ⟨_, ho1, fun v e => by rw [hd1] at e; cases e⟩
    · exact ⟨_, ho2, fun v e => by rw [hd2] at e; cases e⟩
  keep := fun i h h' st k => by
    obtain ⟨hz, hTI, ⟨p, q, hTO⟩, h1, h2⟩ := st
    exact ⟨k z (by simp) _ hz, k TI (by simp) _ hTI, ⟨p, q, k TO (by simp) _ hTO⟩, h1.at fun o x => k i1 (by simp) o x, h2.at fun o x => k i2 (by simp) o x⟩
  item := by
    intro X hP hw hK hc i pins s σ H E I hf st hg
    subst hP hw hK
    obtain ⟨xs, ys, x, y, hqx, hqy, hx, hy⟩ := hg
    obtain ⟨itx, rvx, px, hzx⟩ := I.list hqx
    obtain ⟨ity, rvy, py, hzy⟩ := I.list hqy
    obtain ⟨u, hu, ru⟩ := rvx.get hx
    obtain ⟨v, hv, rv⟩ := rvy.get hy
    obtain ⟨hz, hTI, ⟨p, q, hTO⟩, h1, h2⟩ := st
    refine wpAny_pyNext_zip_item AP hz hTI hTO h1 h2 (show s.heap.IsList a itx.toArray from px.isList) (show s.heap.IsList b ity.toArray from py.isList) (x := u) (y := v) (by simpa using hu) (by simpa using hv) fun g gz gTO g1 g2 gT gsz hk => ⟨_, rfl, ?_⟩
    refine wpAny_letOwnedTupleGo_zip gz fun g' gz' hs' => ?_
    have lz : z < s.heap.objs.size := Heap.lt_size hz
    have lTI : TI < s.heap.objs.size := Heap.lt_size hTI
    have lTO : TO < s.heap.objs.size := Heap.lt_size hTO
    have li1 : i1 < s.heap.objs.size := let ⟨_, e, _⟩ := h1; Heap.lt_size e
    have li2 : i2 < s.heap.objs.size := let ⟨_, e, _⟩ := h2; Heap.lt_size e
    have sb : ∀ c, c ≠ z → g'.get? c = g.get? c := fun c hc => hs'.2 c hc
    have gT' : g'.get? s.heap.objs.size = some { cls := .type "tuple", data := .seq #[u, v] } := (sb _ (Nat.ne_of_gt lz)).trans gT
    have gTO' : IsPair g' TO u v := (sb _ AP.TOz).trans gTO
    have g1' : g'.IsListIter i1 a (i + 1) := g1.at fun o e => (sb _ AP.i1z).trans e
    have g2' : g'.IsListIter i2 b (i + 1) := g2.at fun o e => (sb _ AP.i2z).trans e
    have gTI' : IsPair g' TI (.ref i1) (.ref i2) := (sb _ AP.TIz).trans (hk TI _ AP.TIz AP.TITO AP.TIi1 AP.TIi2 hTI)
    have hn : H s.heap.objs.size = none := I.hok.fresh (Nat.le_refl _)
    have fl : ∀ c ∈ [z, TI, TO, i1, i2], c < s.heap.objs.size := fun c hc => by
      simp only [List.mem_cons, List.not_mem_nil, or_false] at hc
      rcases hc with rfl | rfl | rfl | rfl | rfl <;> assumption
    have hf' : ∀ c ∈ [z, TI, TO, i1, i2], FpOk X pins (upd H s.heap.objs.size (.tup [x, y])) c := fun c hc => by
      obtain ⟨f0, f1, f2, f3, f4, f5⟩ := hf c hc
      exact ⟨by rw [upd_ne (Nat.ne_of_lt (fl c hc))]; exact f0, f1, f2, f3, f4, f5⟩
    have I0 : Inv X pins σ (upd H s.heap.objs.size (.tup [x, y])) { s with heap := s.heap.push { cls := .type "tuple", data := .seq #[u, v] }, toks := s.toks } :=
      I.laid (t' := s.toks) (fun b o q => Heap.get?_push_of_some _ q) (Nat.le_refl _) (show ObjOk X.prog X.w _ _ _ (.tup [x, y]) from
        ⟨Nat.le_of_lt (small1000 (by simp)), [u, v], .cons ru (.cons rv .nil), ⟨_, Heap.get?_push_size _ rfl, rfl, _, rfl⟩, _, Heap.get?_push_size _ rfl, rfl⟩)
    have I1 : Inv X pins σ (upd H s.heap.objs.size (.tup [x, y])) { s with heap := g', toks := s.toks } := by
      have := Inv.turnedL (t' := s.toks) (h' := g') [z, TI, TO, i1, i2] I0 hf' fun c o hc e => ?_
      · exact this
      simp only [List.mem_cons, List.not_mem_nil, or_false, not_or] at hc
      by_cases ec : c = s.heap.objs.size
      · subst ec
        have e : (s.heap.push { cls := .type "tuple", data := .seq #[u, v] }).get? s.heap.objs.size = some o := e
        rw [Heap.get?_push_size _ rfl] at e; cases e
        exact gT'
      · have e : (s.heap.push { cls := .type "tuple", data := .seq #[u, v] }).get? c = some o := e
        rw [Heap.get?_push_ne _ _ _ ec] at e
        exact (sb c hc.1).trans (hk c o hc.1 hc.2.2.1 hc.2.2.2.1 hc.2.2.2.2 e)
    refine ⟨.ref s.heap.objs.size, upd H s.heap.objs.size (.tup [x, y]), I1, rfl, ⟨_, rfl, hn, fun xs' ys' hx' hy' => ⟨x, y, by rw [I.list_inj hx' hqx]; exact hx, by rw [I.list_inj hy' hqy]; exact hy, rfl⟩⟩, ⟨gz', gTI', ⟨_, _, gTO'⟩, g1', g2'⟩, fun c hc => (hf' c hc).1⟩
  done := by
    intro X hP hw hK hc i pins s σ H E I hf st hg
    subst hP hw hK
    obtain ⟨xs, ys, hqx, hqy, hx⟩ := hg
    obtain ⟨itx, rvx, px, hzx⟩ := I.list hqx
    obtain ⟨ity, rvy, py, hzy⟩ := I.list hqy
    obtain ⟨hz, hTI, ⟨p, q, hTO⟩, h1, h2⟩ := st
    have l1 := rvx.length
    have l2 := rvy.length
    refine wpAny_pyNext_zip_end (I.ok.hd hc) AP hz hTI hTO h1 h2 (show s.heap.IsList a itx.toArray from px.isList) (show s.heap.IsList b ity.toArray from py.isList) (hx.imp (fun e => by simp; omega) fun e => by simp; omega) fun g hk => ⟨rfl, ?_⟩
    refine Inv.turnedL [z, TI, TO, i1, i2] I hf fun c o hc e => ?_
    simp only [List.mem_cons, List.not_mem_nil, or_false, not_or] at hc
    exact hk c o hc.1 hc.2.2.1 hc.2.2.2.1 hc.2.2.2.2 e
  self := fun _ _ _ _ _ st h => let ⟨hz, _⟩ := st; wpAny_pyIter_zip hz h
section
variable {X : Cx} {c : Ct} {k : Kd} {es : List Expr} {x1 : Nat} {tp pos p : Pos}
def zipD (xs ys : List D) : List D := (List.range (min xs.length ys.length)).map fun (i : Nat) => D.tup [xs.getD i .non, ys.getD i .non]
def zipA (f g : FE) : FA := fun ρ => match f ρ, g ρ with
  | some (.lst xs), some (.lst ys) => some (zipD xs ys)
  | _, _ => none
theorem zipA_some {f g : FE} {ρ : Rho} {ds : List D} (h : zipA f g ρ = some ds) : ∃ xs ys, f ρ = some (.lst xs) ∧ g ρ = some (.lst ys) ∧ ds = zipD xs ys := by
  unfold zipA at h
  split at h
  · cases h; exact ⟨_, _, ‹_›, ‹_›, rfl⟩
  · cases h
theorem itok_zip {K : PySem.W.Frag} {W : Hp} {a b : Addr} {xs ys : List V} {ds es : List D} (h1 : SqL K W a xs) (h2 : SqL K W b ys) (r1 : Reps K W xs ds) (r2 : Reps K W ys es) : ItOk K W (Itz K a b) (zipD ds es) := by
  have l1 := r1.length
  have l2 := r2.length
  have el : (zipD ds es).length = min ds.length es.length := by simp [zipD]
  refine ⟨fun i d H e s => ?_, fun H s => ⟨_, _, Same.seq s h1, Same.seq s h2, ?_⟩⟩
  · have hi : i < min ds.length es.length := by rw [← el]; exact (List.getElem?_eq_some_iff.mp e).1
    have ex : xs[i]? = some xs[i] := List.getElem?_eq_getElem (by omega)
    have ey : ys[i]? = some ys[i] := List.getElem?_eq_getElem (by omega)
    refine ⟨⟨_, _, xs[i], ys[i], Same.seq s h1, Same.seq s h2, ex, ey⟩, fun y H' ⟨T, e2, hT, e3⟩ => ?_⟩
    subst e2
    obtain ⟨u, v, e4, e4', e5⟩ := e3 _ _ (Same.seq s h1) (Same.seq s h2)
    subst e5
    refine ⟨same_new hT _, fun hid tr sw => ?_⟩
    have hf : hid T = false := by
      cases eh : hid T with
      | false => rfl
      | true => obtain ⟨o, ho⟩ := tr T eh; rw [hT] at ho; cases ho
    obtain ⟨d', e6, r6⟩ := r1.get' e4
    obtain ⟨d'', e7, r7⟩ := r2.get' e4'
    have ed : d = .tup [d', d''] := by
      unfold zipD at e
      rw [List.getElem?_map, List.getElem?_range hi] at e
      have q1 : ds.getD i .non = d' := by simp [List.getD, e6]
      have q2 : es.getD i .non = d'' := by simp [List.getD, e7]
      rw [Option.map_some, q1, q2] at e
      exact (Option.some.inj e).symm
    rw [ed]
    exact rep_newT hT hf (.cons (r6.mono sw) (.cons (r7.mono sw) .nil))
  · rw [el]; omega
theorem apart_new (n l1 l2 : Nat) (h1 : l1 < n) (h2 : l2 < n) : ZipApart (n + 4) (n + 2) (n + 3) n (n + 1) l1 l2 := by
  constructor <;> (show ¬ @Eq Nat _ _) <;> omega
theorem dip_zip {e1 e2 : Expr} {f g : FE} (h1 : DP X c .s e1 f) (h2 : DP X c .s e2 g) (hm : X.mg "zip" = none) (hg : Gl X "zip" := by rfl) (hs : starEach [e1, e2] X.env = (false, eval e1 X.env) :: starEach [e2] X.env := by rfl) (hs2 : starEach [e2] X.env = [(false, eval e2 X.env)] := by rfl) : DIp X c (.Tuple es x1 tp) (.Call (.Name "zip" p) [e1, e2] [] pos) (zipA f g) := by
  intro hid ρ pins s σ H R I hq
  obtain ⟨sr, ds, hd, q⟩ := hq
  obtain ⟨xs, ys, a1, a2, rfl⟩ := zipA_some hd
  refine Call_ (ld_blt (u := .type "zip") I hg hm (by kernel_rfl) (PyProof.Rows.callWith_type1 (thn (pa_cons (h1 hid ρ) (pa_cons (h2 hid ρ) pa_nil hs2) hs pos pins s σ H (fun vs H' => ∃ v w, vs = [v, w] ∧ Same H H' ∧ Rep X.K (vw H' hid) v (.lst xs) ∧ Rep X.K (vw H' hid) w (.lst ys)) I ⟨sr, _, a1, fun v H' s' r => ⟨sr.ext s', _, a2, fun w H'' s'' r' => ⟨v, w, rfl, s'.trans s'', Rep.mono (vw_same s'') r, r'⟩⟩⟩) fun vs s1 ⟨ws, H1, I1, r1, v, w, e, s', r, r'⟩ => ?_) hs (by rw [hs2]; rfl)))
  subst e
  cases r1 with
  | cons ra rb =>
    cases rb with
    | cons rb rc =>
      cases rc
      cases r with
      | lst t1 t2 =>
        cases r' with
        | lst t3 t4 =>
          have t1 := SqL.of (K := X.K) t1
          have t3 := SqL.of (K := X.K) t3
          cases ra
          cases rb
          obtain ⟨itx, rvx, px, hzx⟩ := I1.list ((vw_le _ _).seq t1)
          obtain ⟨ity, rvy, py, hzy⟩ := I1.list ((vw_le _ _).seq t3)
          have b1 : ∀ {c : Addr} {us}, s1.heap.IsList c us → c < s1.heap.objs.size := fun h => let ⟨_, e, _⟩ := h; Heap.lt_size e
          have L1 : s1.heap.IsList _ itx.toArray := px.isList
          have L2' : s1.heap.IsList _ ity.toArray := py.isList
          have m1 := b1 L1
          have m2 := b1 L2'
          refine call_zip_2 L1 L2' fun g hz hTI hTO hi1 hi2 hsz hk => ?_
          refine wpAny_pyIter_zip hz ⟨_, [s1.heap.objs.size + 4, s1.heap.objs.size + 2, s1.heap.objs.size + 3, s1.heap.objs.size, s1.heap.objs.size + 1], _, _, H1, rfl, I1.kept (t' := s1.toks) fun b o e => hk b o e, turn_zip _ _ _ _ _ _ _ (apart_new _ _ _ m1 m2), ⟨hz, hTI, ⟨_, _, hTO⟩, hi1, hi2⟩, fun b hb => ?_, q _ H1 s' (itok_zip t1 t3 t2 t4)⟩
          have hb : s1.heap.objs.size ≤ b := by
            simp only [List.mem_cons, List.not_mem_nil, or_false] at hb
            rcases hb with rfl | rfl | rfl | rfl | rfl
            · exact Nat.le_add_right _ _
            · exact Nat.le_add_right _ _
            · exact Nat.le_add_right _ _
            · exact Nat.le_refl _
            · exact Nat.le_add_right _ _
          exact I1.fpOk hb (I1.hok.fresh hb)
end
end L2
set_option Elab.async false
set_option linter.all false
set_option maxRecDepth 100000
set_option maxHeartbeats 1000000
namespace L2
open PySem PySem.Spec PyProof.Rows
end L2
set_option Elab.async false
set_option linter.all false
set_option maxRecDepth 100000
set_option maxHeartbeats 1000000
namespace L2
open PySem PySem.Spec PyProof.Rows
end L2
set_option Elab.async false
set_option linter.all false
set_option maxRecDepth 100000
set_option maxHeartbeats 1000000
namespace L2
open PySem PySem.Spec PyProof.Rows
end L2
set_option Elab.async false
set_option linter.all false
set_option maxRecDepth 100000
set_option maxHeartbeats 1000000
namespace L2
open PySem PySem.Spec PyProof.Rows
end L2
set_option Elab.async false
set_option linter.all false
set_option maxRecDepth 100000
set_option maxHeartbeats 1000000
namespace L2
open PySem PySem.Spec PyProof.Rows
end L2
set_option Elab.async false
set_option linter.all false
set_option maxRecDepth 100000
set_option maxHeartbeats 1000000
namespace L2
open PySem PySem.Spec PyProof.Rows
end L2
set_option Elab.async false
set_option linter.all false
set_option maxRecDepth 100000
set_option maxHeartbeats 1000000
namespace L2
open PySem PySem.Spec PyProof.Rows
end L2
set_option Elab.async false
set_option linter.all false
set_option maxRecDepth 100000
set_option maxHeartbeats 1000000
namespace L2
open PySem PySem.Spec PyProof.Rows
end L2
set_option Elab.async false
set_option linter.all false
set_option maxRecDepth 100000
set_option maxHeartbeats 1000000
namespace L2
open PySem PySem.Spec PyProof.Rows
end L2
set_option Elab.async false
set_option linter.all false
set_option maxRecDepth 100000
set_option maxHeartbeats 1000000
namespace L2
open PySem PySem.Spec PyProof.Rows
end L2
set_option Elab.async false
set_option linter.all false
set_option maxRecDepth 100000
set_option maxHeartbeats 1000000
namespace L2
open PySem PySem.Spec PyProof.Rows
end L2
set_option Elab.async false
set_option linter.all false
set_option maxRecDepth 100000
set_option maxHeartbeats 1000000
namespace L2
open PySem PySem.Spec PyProof.Rows
end L2
set_option Elab.async false
set_option linter.all false
set_option maxRecDepth 100000
set_option maxHeartbeats 1000000
namespace L2
open PySem PySem.Spec PyProof.Rows
section
variable {X : Cx} {c : Ct} {e : Expr} {es : List Expr} {k : Kd} {pos p : Pos} {x : Str} {ps : List Str} {j n : Nat}
def seqA (f : FE) : FA := fun ρ => (f ρ).bind fun d => match d with
  | .lst ds => some ds
  | .tup ds => some ds
  | _ => none
theorem dip_seq {tg iter : Expr} {f : FE} (h : DP X c .s iter f) : DIp X c tg iter (seqA f) := fun hid ρ pins s σ H R I hq_ => by
  obtain ⟨sr, ds, e1, q⟩ := hq_
  unfold seqA at e1
  cases e2 : f ρ with
  | none => rw [e2] at e1; cases e1
  | some d =>
    rw [e2, Option.bind_some] at e1
    cases d with
    | lst xs => cases e1; exact dip_list h hid ρ pins s σ H R I ⟨sr, ds, by unfold lstA; rw [e2]; rfl, q⟩
    | tup xs => cases e1; exact dip_tup h hid ρ pins s σ H R I ⟨sr, ds, by unfold tupA; rw [e2]; rfl, q⟩
    | _ => cases e1
end
end L2
set_option Elab.async false
set_option linter.all false
namespace L2
open PySem PySem.Spec PyProof.Rows
theorem se_tup {es rest : List Expr} {x1} {pos : Pos} {env : Env} : starEach (.Tuple es x1 pos :: rest) env = (false, eval (.Tuple es x1 pos) env) :: starEach rest env := by rfl
@[elab_as_elim] theorem ar0 {motive : List Value → Prop} (us : List Value) (hl : us.length = 0) (h : motive []) : motive us := by
  cases us with
  | nil => exact h
  | cons a r => exact absurd hl (Nat.succ_ne_zero _)
@[elab_as_elim] theorem ar1 {motive : List Value → Prop} (us : List Value) (hl : us.length = 1) (h : ∀ a0, motive [a0]) : motive us := by
  cases us with
  | nil => exact absurd hl (by decide)
  | cons a0 r => exact ar0 (motive := fun r => motive (a0 :: r)) r (Nat.succ.inj hl) (h a0)
@[elab_as_elim] theorem ar2 {motive : List Value → Prop} (us : List Value) (hl : us.length = 2) (h : ∀ a0 a1, motive [a0, a1]) : motive us := by
  cases us with
  | nil => exact absurd hl (by decide)
  | cons a0 r => exact ar1 (motive := fun r => motive (a0 :: r)) r (Nat.succ.inj hl) (h a0)
@[elab_as_elim] theorem ar3 {motive : List Value → Prop} (us : List Value) (hl : us.length = 3) (h : ∀ a0 a1 a2, motive [a0, a1, a2]) : motive us := by
  cases us with
  | nil => exact absurd hl (by decide)
  | cons a0 r => exact ar2 (motive := fun r => motive (a0 :: r)) r (Nat.succ.inj hl) (h a0)
@[elab_as_elim] theorem ar4 {motive : List Value → Prop} (us : List Value) (hl : us.length = 4) (h : ∀ a0 a1 a2 a3, motive [a0, a1, a2, a3]) : motive us := by
  cases us with
  | nil => exact absurd hl (by decide)
  | cons a0 r => exact ar3 (motive := fun r => motive (a0 :: r)) r (Nat.succ.inj hl) (h a0)
@[elab_as_elim] theorem ar5 {motive : List Value → Prop} (us : List Value) (hl : us.length = 5) (h : ∀ a0 a1 a2 a3 a4, motive [a0, a1, a2, a3, a4]) : motive us := by
  cases us with
  | nil => exact absurd hl (by decide)
  | cons a0 r => exact ar4 (motive := fun r => motive (a0 :: r)) r (Nat.succ.inj hl) (h a0)
@[elab_as_elim] theorem ar6 {motive : List Value → Prop} (us : List Value) (hl : us.length = 6) (h : ∀ a0 a1 a2 a3 a4 a5, motive [a0, a1, a2, a3, a4, a5]) : motive us := by
  cases us with
  | nil => exact absurd hl (by decide)
  | cons a0 r => exact ar5 (motive := fun r => motive (a0 :: r)) r (Nat.succ.inj hl) (h a0)
end L2
set_option Elab.async false
set_option linter.all false
set_option maxRecDepth 100000
namespace L2
open PySem PySem.Spec PyProof.Rows
end L2
set_option Elab.async false
set_option linter.all false
set_option maxRecDepth 100000
namespace L2
open PySem PySem.Spec PyProof.Rows
end L2
set_option Elab.async false
set_option linter.all false
set_option maxRecDepth 100000
namespace L2
open PySem PySem.Spec PyProof.Rows
end L2
set_option Elab.async false
set_option linter.all false
set_option maxRecDepth 100000
namespace L2
open PySem PySem.Spec PyProof.Rows
section
variable {κ : Type} [DecidableEq κ]
def valV (kvs : List (κ × V)) (k : κ) : Option V := (kvs.find? fun kv => decide (kv.1 = k)).map (·.2)
def putK (kvs : List (κ × V)) (k : κ) (v : V) : List (κ × V) :=
  if (kvs.any fun kv => decide (kv.1 = k)) = true then kvs.map (fun kv => if kv.1 = k then (kv.1, v) else kv) else kvs ++ [(k, v)]
theorem valV_pos {p : κ × V} {r : List (κ × V)} {k : κ} (e : p.1 = k) : valV (p :: r) k = some p.2 := by simp [valV, List.find?_cons, e]
theorem valV_neg {p : κ × V} {r : List (κ × V)} {k : κ} (e : ¬ p.1 = k) : valV (p :: r) k = valV r k := by simp [valV, List.find?_cons, e]
theorem valV_any (k : κ) : ∀ kvs : List (κ × V), (kvs.any fun kv => decide (kv.1 = k)) = (valV kvs k).isSome
  | [] => rfl
  | p :: r => by
    rw [List.any_cons]
    by_cases e : p.1 = k
    · simp only [valV_pos e, decide_eq_true e, Bool.true_or, Option.isSome_some]
    · rw [valV_neg e, decide_eq_false e, Bool.false_or]; exact valV_any k r
theorem length_putK (kvs : List (κ × V)) (k : κ) (v : V) : (putK kvs k v).length ≤ kvs.length + 1 := by
  unfold putK
  split
  · rw [List.length_map]; omega
  · rw [List.length_append, List.length_cons, List.length_nil]; omega
theorem RelO.isSome_eq {o : Option V} {u : Option Value} (r : RelO o u) : o.isSome = u.isSome := by
  cases o with
  | none => cases u with
    | none => rfl
    | some _ => exact (show False from r).elim
  | some _ => cases u with
    | none => exact (show False from r).elim
    | some _ => rfl
theorem RelO.getD {o : Option V} {u : Option Value} {d : V} {d' : Value} (r : RelO o u) (rd : RelV d d') : RelV (o.getD d) (u.getD d') := by
  cases o with
  | none => cases u with
    | none => exact rd
    | some _ => exact (show False from r).elim
  | some _ => cases u with
    | none => exact (show False from r).elim
    | some _ => exact r
theorem KV.val {kvs : List (κ × V)} {vs : List (κ × Value)} (r : KV kvs vs) (k : κ) : RelO (valV kvs k) (valueAt vs k) := by
  unfold KV at r
  induction r with
  | nil => exact True.intro
  | @cons p q ps qs h t ih =>
    obtain ⟨h1, h2⟩ := h
    by_cases e : p.1 = k
    · have e' : q.1 = k := h1.symm.trans e
      have b : valueAt (q :: qs) k = some q.2 := by simp [valueAt, List.find?_cons, e']
      rw [valV_pos e, b]; exact h2
    · have e' : ¬ q.1 = k := fun z => e (h1.trans z)
      have b : valueAt (q :: qs) k = valueAt qs k := by simp [valueAt, List.find?_cons, e']
      rw [valV_neg e, b]; exact ih
theorem KV.any {kvs : List (κ × V)} {vs : List (κ × Value)} (r : KV kvs vs) (k : κ) : (kvs.any fun kv => decide (kv.1 = k)) = vs.any fun kv => decide (kv.1 = k) := by
  unfold KV at r
  induction r with
  | nil => rfl
  | cons h t ih => rw [List.any_cons, List.any_cons, ih, h.1]
theorem KV.repl {kvs : List (κ × V)} {vs : List (κ × Value)} (r : KV kvs vs) (k : κ) {y : V} {u : Value} (ry : RelV y u) :
    KV (kvs.map fun kv => if kv.1 = k then (kv.1, y) else kv) (vs.map fun kv => if kv.1 = k then (kv.1, u) else kv) := by
  unfold KV at r ⊢
  induction r with
  | nil => exact .nil
  | @cons p q ps qs h t ih =>
    rw [List.map_cons, List.map_cons]
    refine .cons ?_ ih
    obtain ⟨h1, h2⟩ := h
    by_cases e : p.1 = k
    · rw [if_pos e, if_pos (h1.symm.trans e)]; exact ⟨h1, ry⟩
    · rw [if_neg e, if_neg (fun z => e (h1.trans z))]; exact ⟨h1, h2⟩
theorem KV.put {kvs : List (κ × V)} {vs : List (κ × Value)} (r : KV kvs vs) (k : κ) {y : V} {u : Value} (ry : RelV y u) : KV (putK kvs k y) (stored vs k u) := by
  unfold putK stored
  rw [r.any k]
  by_cases e : (vs.any fun kv => decide (kv.1 = k)) = true
  · rw [if_pos e, if_pos e]; exact r.repl k ry
  · rw [if_neg e, if_neg e]; exact Paired.snoc r ⟨rfl, ry⟩
theorem KV.keys {kvs : List (κ × V)} {vs : List (κ × Value)} (r : KV kvs vs) : kvs.map (·.1) = vs.map (·.1) := by
  unfold KV at r
  induction r with
  | nil => rfl
  | cons h t ih => rw [List.map_cons, List.map_cons, ih, h.1]
theorem KV.length {kvs : List (κ × V)} {vs : List (κ × Value)} (r : KV kvs vs) : kvs.length = vs.length := Paired.length r
end
theorem kV_is {P : Program} {w : World} {k : Key} {u : Value} (r : RelV (kV k) u) : (mixKind P w).is k u = true := by
  cases k with
  | inl i => obtain ⟨t, e⟩ := (show ∃ t, u = Value.int i t from r); subst e; exact mixKind_int P w i t
  | inr x => obtain ⟨t, e⟩ := (show ∃ t, u = Value.str x t from r); subst e; exact mixKind_str P w x t
theorem items_are {P : Program} {w : World} : ∀ {ks : List Key} {us : List Value}, Vals (ks.map kV) us → ItemsAre (mixKind P w) ks us
  | [], _, r => by rw [List.map_nil] at r; cases r; exact .nil
  | k :: ks, _, r => by
    rw [List.map_cons] at r
    cases r with
    | cons h t => exact .cons (kV_is h) (items_are t)
abbrev KTd (H : Hp) : List (List Key × V) → List (List Key × Addr × Value) → Prop := Paired fun p q => p.1 = q.1 ∧ H q.2.1 = some (.tup (p.1.map kV)) ∧ RelV p.2 q.2.2
theorem KTd.val {H : Hp} {kvs : List (List Key × V)} {xs : List (List Key × Addr × Value)} (r : KTd H kvs xs) (k : List Key) : RelO (valV kvs k) ((atKey xs k).map (·.2)) := by
  induction r with
  | nil => exact True.intro
  | @cons p q ps qs h t ih =>
    obtain ⟨h1, _, h2⟩ := h
    by_cases e : p.1 = k
    · have e' : q.1 = k := h1.symm.trans e
      have b : atKey (q :: qs) k = some q.2 := by simp [atKey, List.find?_cons, e']
      rw [valV_pos e, b]; exact h2
    · have e' : ¬ q.1 = k := fun z => e (h1.trans z)
      have b : atKey (q :: qs) k = atKey qs k := by simp [atKey, List.find?_cons, e']
      rw [valV_neg e, b]; exact ih
theorem KTd.repl {H : Hp} {kvs : List (List Key × V)} {xs : List (List Key × Addr × Value)} (r : KTd H kvs xs) (k : List Key) {y : V} {u : Value} (ry : RelV y u) :
    KTd H (kvs.map fun kv => if kv.1 = k then (kv.1, y) else kv) (xs.map (putAt k u)) := by
  induction r with
  | nil => exact .nil
  | @cons p q ps qs h t ih =>
    rw [List.map_cons, List.map_cons]
    refine .cons ?_ ih
    obtain ⟨h1, h2, h3⟩ := h
    unfold putAt
    by_cases e : p.1 = k
    · rw [if_pos e, if_pos (h1.symm.trans e)]; exact ⟨h1, h2, ry⟩
    · rw [if_neg e, if_neg (fun z => e (h1.trans z))]; exact ⟨h1, h2, h3⟩
theorem KTd.put {H : Hp} {kvs : List (List Key × V)} {xs : List (List Key × Addr × Value)} (r : KTd H kvs xs) (k : List Key) {b : Addr} {y : V} {u : Value} (hb : H b = some (.tup (k.map kV))) (ry : RelV y u) :
    KTd H (putK kvs k y) (storedH xs k b u) := by
  have e : (kvs.any fun kv => decide (kv.1 = k)) = (atKey xs k).isSome := by
    rw [valV_any, (r.val k).isSome_eq, Option.isSome_map]
  unfold putK storedH
  rw [e]
  by_cases q : (atKey xs k).isSome = true
  · rw [if_pos q, if_pos q]; exact r.repl k ry
  · rw [if_neg q, if_neg q]; exact Paired.snoc r ⟨rfl, hb, ry⟩
theorem KTd.keeps {H H' : Hp} {kvs : List (List Key × V)} {xs : List (List Key × Addr × Value)} (r : KTd H kvs xs) (ht : ∀ b ys, H b = some (.tup ys) → H' b = some (.tup ys)) : KTd H' kvs xs :=
  Paired.mapP r fun _ _ z => ⟨z.1, ht _ _ z.2.1, z.2.2⟩
section
variable {P : Program} {w : World} {H : Hp} {h : Heap} {a : Addr}
theorem rd_of {u : HO} (ok : HOk P w H h) (e : Rd H a u) : ObjOk P w H h a u := e.ok ok
theorem dk_rd {kvs : List (Key × V)} (ok : HOk P w H h) (e : Rd H a (.dK kvs)) : kvs.length ≤ sizeLine ∧ (a == sysModules) = false ∧ ∃ vs, KV kvs vs ∧ h.DictOf (mixKind P w) a vs :=
  show ObjOk P w H h a (.dK kvs) from rd_of ok e
theorem dk_of {kvs : List (Key × V)} (ok : HOk P w H h) (e : H a = some (.dK kvs)) : kvs.length ≤ sizeLine ∧ (a == sysModules) = false ∧ ∃ vs, KV kvs vs ∧ h.DictOf (mixKind P w) a vs := dk_rd ok (.inl e)
theorem key_of {ks : List Key} (ok : HOk P w H h) (e : H a = some (.tup (ks.map kV))) : (tupleKind (mixKind P w)).is h ks a := by
  obtain ⟨_, its, r, ⟨o, h1, h2, n, h3⟩, _⟩ := (show ObjOk P w H h a (.tup (ks.map kV)) from ok a _ e)
  exact ⟨o, its.toArray, n, h1, h2, h3, by simpa using items_are r⟩
theorem dt_rd {kvs : List (List Key × V)} (ok : HOk P w H h) (e : Rd H a (.dT kvs)) : kvs.length ≤ sizeLine ∧ (a == sysModules) = false ∧
    ∃ xs, KTd H kvs xs ∧ h.DictOfH (tupleKind (mixKind P w)) a xs := by
  obtain ⟨z, y, xs, r, o, es, ep, h1, h2, h3, h4, h5⟩ := (show ObjOk P w H h a (.dT kvs) from rd_of ok e)
  refine ⟨z, y, xs, r, o, es, ep, h1, h2, h3, h4, fun x hx => ?_, h5⟩
  have all : ∀ {l : List (List Key × V)} {m : List (List Key × Addr × Value)}, KTd H l m → ∀ x ∈ m, (tupleKind (mixKind P w)).is h x.1 x.2.1 := by
    intro l m q
    induction q with
    | nil => intro x hx; exact nomatch hx
    | @cons p q ps qs hq t ih =>
      intro x hx
      rcases List.mem_cons.mp hx with e | hx
      · subst e
        exact key_of ok (by rw [← hq.1]; exact hq.2.1)
      · exact ih x hx
  exact all r x hx
theorem dt_of {kvs : List (List Key × V)} (ok : HOk P w H h) (e : H a = some (.dT kvs)) : kvs.length ≤ sizeLine ∧ (a == sysModules) = false ∧
    ∃ xs, KTd H kvs xs ∧ h.DictOfH (tupleKind (mixKind P w)) a xs := dt_rd ok (.inl e)
end
def DGet (H : Hp) (a : Addr) (y : V) (r : Option V) : Prop :=
  (∃ kvs k, Rd H a (.dK kvs) ∧ y = kV k ∧ r = valV kvs k) ∨ ∃ kvs k b, Rd H a (.dT kvs) ∧ y = .ref b ∧ H b = some (.tup (k.map kV)) ∧ r = valV kvs k
def DPut (H : Hp) (a : Addr) (y v : V) (H' : Hp) : Prop :=
  (∃ kvs k, H a = some (.dK kvs) ∧ y = kV k ∧ kvs.length < sizeLine ∧ H' = upd H a (.dK (putK kvs k v))) ∨
  ∃ kvs k b, H a = some (.dT kvs) ∧ y = .ref b ∧ H b = some (.tup (k.map kV)) ∧ kvs.length < sizeLine ∧ H' = upd H a (.dT (putK kvs k v))
theorem DGet.k {H : Hp} {a : Addr} {kvs : List (Key × V)} {k : Key} (e : H a = some (.dK kvs)) : DGet H a (kV k) (valV kvs k) := .inl ⟨kvs, k, .inl e, rfl, rfl⟩
theorem DPut.k {H : Hp} {a : Addr} {kvs : List (Key × V)} {k : Key} {v : V} (e : H a = some (.dK kvs)) (hl : kvs.length < sizeLine) : DPut H a (kV k) v (upd H a (.dK (putK kvs k v))) := .inl ⟨kvs, k, e, rfl, hl, rfl⟩
section
variable {X : Cx} {pins : List (Addr × Obj)} {σ : St} {H : Hp} {s : Shared} {a : Addr} {y v : V} {u r : Value} {o : Option V} {A : Around} {E : Value → Shared → Prop}
theorem Inv.big (I : Inv X pins σ H s) : sysModules < s.heap.objs.size := by
  have h : mainGlobals < s.heap.objs.size := (I.mod.glob.keeps I.bk).lt
  exact Nat.lt_trans (by decide) h
theorem d_getItem {Q : Value → Shared → Prop} (hu : A.units + 1 < cLine) (I : Inv X pins σ H s) (g : DGet H a y (some v)) (ry : RelV y u) (h : ∀ w' s', Inv X pins σ H s' → RelV v w' → Q w' s') :
    wpAny (model X.prog X.w) A (getItem (.ref a) u) Q E s := by
  rcases g with ⟨kvs, k, e, ey, l⟩ | ⟨kvs, k, b, e, ey, eb, l⟩
  · subst ey
    obtain ⟨z, hd, vs, rel, dd⟩ := dk_rd I.hok e
    obtain ⟨w', hw, rw'⟩ := RelO.some_of (v := v) (o := valueAt vs k) (by rw [l]; exact rel.val k)
    exact wpAny_getItem_of (kV_is ry) dd.mapOf hw (h w' _ (I.tok _) rw')
  · subst ey
    cases (show u = Value.ref b from ry)
    obtain ⟨z, hd, xs, rel, dd⟩ := dt_rd I.hok e
    obtain ⟨w', hw, rw'⟩ := RelO.some_of (v := v) (o := (atKey xs k).map (·.2)) (by rw [l]; exact rel.val k)
    obtain ⟨p, hp, hp2⟩ := Option.map_eq_some_iff.mp hw
    refine wpAny_getItem_heap (tupleKind_room_in1 hu) (key_of I.hok eb) dd hp ?_
    rw [hp2]
    exact h w' _ (I.tok _) rw'
theorem d_write {h' : Heap} {t' : Nat} {ob : HO} (I : Inv X pins σ H s) (mu : Mut (H a)) (hs : Heap.SameBut a s.heap h') (he : ∃ q, h'.get? a = some q) (new : ObjOk X.prog X.w (upd H a ob) h' a ob) :
    Inv X pins σ (upd H a ob) { s with heap := h', toks := t' } :=
  I.write (x := a) (e := a) mu (.inl rfl) (fun b q hb z => (hs.2 b hb).trans z) he new
theorem dk_new {P : Program} {w : World} {H' : Hp} {h' : Heap} {kvs : List (Key × V)} {vs : List (Key × Value)} (z : kvs.length ≤ sizeLine) (hd : (a == sysModules) = false) (rel : KV kvs vs) (dd : h'.DictOf (mixKind P w) a vs) :
    ObjOk P w H' h' a (.dK kvs) := ⟨z, hd, vs, rel, dd⟩
theorem d_setItem {H' : Hp} {Q : Unit → Shared → Prop} (hu : A.units + 1 < cLine) (I : Inv X pins σ H s) (g : DPut H a y v H') (ry : RelV y u) (rv : RelV v r) (h : ∀ s', Inv X pins σ H' s' → Q () s') :
    wpAny (model X.prog X.w) A (setItem (.ref a) u r) Q E s := by
  rcases g with ⟨kvs, k, e, ey, l, eH⟩ | ⟨kvs, k, b, e, ey, eb, l, eH⟩
  · subst ey eH
    obtain ⟨z, hd, vs, rel, dd⟩ := dk_of I.hok e
    have hz : vs.length ≤ sizeLine := by rw [← rel.length]; exact z
    have hl : (putK kvs k v).length ≤ sizeLine := by have := length_putK kvs k v; omega
    refine wpAny_setItem_pairs (hsz := hz) (kV_is ry) dd fun h' dd' hs => h _ ?_
    have he : ∃ q, h'.get? a = some q := let ⟨q, _, _, hq, _⟩ := dd'; ⟨q, hq⟩
    exact d_write I (by rw [e]; exact True.intro) hs he (dk_new hl hd (rel.put k rv) dd')
  · subst ey eH
    cases (show u = Value.ref b from ry)
    obtain ⟨z, hd, xs, rel, dd⟩ := dt_of I.hok e
    have hz : xs.length ≤ sizeLine := by rw [← Paired.length rel]; exact z
    have hl : (putK kvs k v).length ≤ sizeLine := by have := length_putK kvs k v; omega
    refine wpAny_setItem_heap (hsz := hz) (tupleKind_room_in1 hu) (key_of I.hok eb) dd fun h' dd' hs => h _ ?_
    obtain ⟨q, es, ep, hq, h2, h3, h4, _, h5⟩ := dd'
    refine d_write I (by rw [e]; exact True.intro) hs ⟨q, hq⟩ ⟨hl, hd, _, (rel.put k eb rv).keeps fun c ys ec => ?_, q, es, ep, hq, h2, h3, h4, h5⟩
    rw [upd_ne (ne_of ec e (fun z => nomatch z))]
    exact ec
end
def NoSl (i : Expr) : Prop := ∀ ov iv, subscripted i false ov iv = operate [ov, iv] (getItem ov iv)
theorem subD_of {prog : Program} {w : World} {A : Around} {E : Value → Shared → Prop} {s : Shared} {env : Env} {value slice : Expr} {pos : Pos} {T id : String} {Q : Value → Shared → Prop}
    (hl : typeLookup (.type T) "__getitem__" = pure (some (.builtin id))) (hs : NoSl slice)
    (h : wpAny (model prog w) A (eval value env) (fun o s₁ => wpAny (model prog w) A (eval slice env) (fun i s₂ => s₂.TypeIs o T ∧ wpAny (model prog w) A (getItem o i) Q E s₂) E s₁) E s) :
    wpAny (model prog w) A (eval (.Subscript value slice pos) env) Q E s := by
  refine Subscript_ (wpAny_mono h (fun o s₁ h₁ => wpAny_mono h₁ (fun i s₂ h₂ => ?_) fun _ _ x => x) fun _ _ x => x)
  obtain ⟨hT, h₂⟩ := h₂
  unfold subscriptTail
  refine wpAny_bind ?_
  rw [getitemInPython_of_ne hT.not_modules]
  refine wpAny_bind (wpAny_specialOf hT hl ?_)
  have fin : wpAny (model prog w) A (subscripted slice false o i) (fun r s₃ => wpAny (model prog w) A (letTemporaryGo value o r >>= fun _ => pure r) Q E s₃) E s₂ := by
    rw [hs o i]
    exact wpAny_operating (wpAny_mono h₂ (fun r s₃ h₃ => wpAny_bind (wpAny_letTemporaryGo (wpAny_pure h₃))) fun _ _ x => x)
  first
    | exact wpAny_pure (wpAny_bind fin)
    | exact wpAny_bind (wpAny_pure (wpAny_bind fin))
    | exact wpAny_bind fin
theorem dict_typeIs {X : Cx} {pins : List (Addr × Obj)} {σ : St} {H : Hp} {s : Shared} {a : Addr} {y : V} {o : Option V} (I : Inv X pins σ H s) (g : DGet H a y o) : s.TypeIs (.ref a) "dict" := by
  rcases g with ⟨kvs, k, e, _, _⟩ | ⟨kvs, k, b, e, _, _, _⟩
  · obtain ⟨_, _, vs, _, dd⟩ := dk_rd I.hok e
    exact dd.typeIs
  · obtain ⟨_, _, xs, _, dd⟩ := dt_rd I.hok e
    exact dd.typeIs
def tDGet (td ty : TE) : TE := fun σ H Q => td σ H fun x H1 => ty σ H1 fun y H2 => ∃ a v, x = .ref a ∧ DGet H2 a y (some v) ∧ Q v H2
def sDPut (td ty tv : TE) : TS := fun D σ H => tv σ H fun v H1 => td σ H1 fun x H2 => ty σ H2 fun y H3 => ∃ a H4, x = .ref a ∧ DPut H3 a y v H4 ∧ D.nx σ H4
section
variable {X : Cx} {o i e value : Expr} {pos pos' tpos : Pos} {td ty tv : TE}
theorem pe_dget (hu : X.A.units + 1 < cLine) (ho : PE X o td) (hi : PE X i ty) (hs : NoSl i) : PE X (.Subscript o i pos) (tDGet td ty) := by
  intro pins s σ H Q I h
  refine subD_of PySem.F.slot_dict_getitem.lookup hs (thn (ho pins s σ H _ I h) fun u s1 ⟨x, H1, I1, rx, q1⟩ => thn (hi pins s1 σ H1 _ I1 q1) fun iv s2 hq_ => ?_)
  obtain ⟨y, H2, I2, ry, a, v, ex, g, q2⟩ := hq_
  subst ex
  obtain rfl : u = Value.ref a := rx
  exact ⟨dict_typeIs I2 g, d_getItem hu I2 g ry fun w' s3 I3 rw' => ⟨v, H2, I3, rw', q2⟩⟩
theorem ps_dput (hu : X.A.units + 1 < cLine) (ho : PE X o td) (hi : PE X i ty) (hv : PE X value tv) (hs : swapsWith value (some (.Subscript o i pos')) pos.line X.env = pure false) :
    PS X (.Assign [.Subscript o i pos'] value pos) (sDPut td ty tv) := by
  intro pins s σ H D I h
  refine wpAny_Assign_Subscript (thn (hv pins s σ H _ I h) fun r s1 ⟨v, H1, I1, rv, q1⟩ => thn (ho pins s1 σ H1 _ I1 q1) fun u s2 ⟨x, H2, I2, rx, q2⟩ => thn (hi pins s2 σ H2 _ I2 q2) fun iv s3 ⟨y, H3, I3, ry, a, H4, ex, g, q3⟩ => ?_) hs
  subst ex
  obtain rfl : u = Value.ref a := rx
  exact d_setItem hu I3 g ry rv fun s4 I4 => ⟨σ, H4, I4, q3⟩
end
theorem dk_empty {P : Program} {w : World} {H : Hp} (h : Heap) (hb : sysModules < h.objs.size) : ObjOk P w H (h.push { cls := .type "dict", data := .dict #[] }) h.objs.size (.dK []) :=
  ⟨Nat.zero_le _, beq_eq_false_iff_ne.mpr (Ne.symm (Nat.ne_of_lt hb)), [], .nil, Heap.DictOf.new h⟩
def tDNewK : TE := fun _ H Q => ∀ p, H p = none → Q (.ref p) (upd H p (.dK []))
section
variable {X : Cx} {pos : Pos}
theorem pe_dnewK : PE X (.Dict [] [] pos) tDNewK := fun pins s σ H Q I h =>
  wpAny_Dict_empty ⟨.ref s.heap.objs.size, _, I.laid (a := s.heap.objs.size) (o := .dK []) (t' := s.toks) (fun _ _ q => Heap.get?_push_of_some _ q) (Nat.le_refl _) (dk_empty s.heap I.big), rfl, h _ (I.hok.fresh (Nat.le_refl _))⟩
end
structure M2 (X : Cx) (o : Expr) (m : Str) (apos : Pos) (e f : Expr) (cpos : Pos) : Prop where
  base : attributeBase o m X.env (eval o X.env) = eval o X.env
  few : ((backTo cpos (starEach [e, f] X.env)).all (fun x => !x.1) && (backToKw cpos (keywordEach [] X.env)).all (fun x => x.1.isSome)
    && decide (([e, f] : List Expr).length + ([] : List Keyword).length + (if ([] : List Keyword).isEmpty then 0 else 1) < 30)) = true
  line : (apos.endLine == cpos.line) = true
  trees : backTo cpos (starEach [e, f] X.env) = [(false, eval e X.env), (false, eval f X.env)]
def IsD (H : Hp) (a : Addr) : Prop := (∃ kvs, Rd H a (.dK kvs)) ∨ ∃ kvs, Rd H a (.dT kvs)
theorem isD_at {X : Cx} {pins : List (Addr × Obj)} {σ : St} {H : Hp} {s : Shared} {a : Addr} (I : Inv X pins σ H s) (d : IsD H a) :
    s.TypeIs (.ref a) "dict" ∧ (∀ b, Value.ref a = .ref b → ∃ ob, s.heap.get? b = some ob ∧ ob.dict = none) ∧ (a == sysModules) = false := by
  rcases d with ⟨kvs, e⟩ | ⟨kvs, e⟩
  · obtain ⟨_, hd, vs, _, dd⟩ := dk_rd I.hok e
    refine ⟨dd.typeIs, fun b q => ?_, hd⟩
    cases q
    obtain ⟨ob, _, _, h1, h2, _⟩ := dd
    exact ⟨ob, h1, h2.2.1⟩
  · obtain ⟨_, hd, xs, _, dd⟩ := dt_rd I.hok e
    refine ⟨dd.typeIs, fun b q => ?_, hd⟩
    cases q
    obtain ⟨ob, _, _, h1, h2, _⟩ := dd
    exact ⟨ob, h1, h2.2.1⟩
section
variable {X : Cx} {pins : List (Addr × Obj)} {σ : St} {H : Hp} {s : Shared} {a : Addr} {y d : V} {u r : Value} {o : Option V} {A : Around} {E : Value → Shared → Prop}
theorem d_get2 {Q : Value → Shared → Prop} (hu : A.units + 1 < cLine) (I : Inv X pins σ H s) (g : DGet H a y o) (ry : RelV y u) (rd : RelV d r) (h : ∀ w' s', Inv X pins σ H s' → RelV (o.getD d) w' → Q w' s') :
    wpAny (model X.prog X.w) A (call (.builtin "dict.get") [.ref a, u, r]) Q E s := by
  rcases g with ⟨kvs, k, e, ey, l⟩ | ⟨kvs, k, b, e, ey, eb, l⟩
  · subst ey
    obtain ⟨z, hd, vs, rel, dd⟩ := dk_rd I.hok e
    refine call_meetsIn PySem.F.slot_dict_get dd.typeIs PySem.F.entry_dict_get (PySem.F.args_dict_get_3 _ _ _) (meets_dict_get_default (mixKind X.prog X.w) a (kV_is ry) hd r) ⟨_, dd.mapOf, h _ _ (I.tok _) ?_⟩
    rw [l]
    exact (rel.val k).getD rd
  · subst ey
    cases (show u = Value.ref b from ry)
    obtain ⟨z, hd, xs, rel, dd⟩ := dt_rd I.hok e
    refine call_meetsIn PySem.F.slot_dict_get dd.typeIs PySem.F.entry_dict_get (PySem.F.args_dict_get_3 _ _ _) (meetsH_dict_get_default (tupleKind (mixKind X.prog X.w)) a b hd r) ⟨tupleKind_room_in1 hu, k, xs, key_of I.hok eb, dd, h _ _ (I.tok _) ?_⟩
    rw [l]
    exact (rel.val k).getD rd
end
def tDGet2 (td ty tx : TE) : TE := fun σ H Q => td σ H fun x H1 => ∃ a, x = .ref a ∧ IsD H1 a ∧ ty σ H1 fun y H2 => tx σ H2 fun z H3 => ∃ o, DGet H3 a y o ∧ Q (o.getD z) H3
section
variable {X : Cx} {o e f : Expr} {apos cpos : Pos} {td ty tx : TE}
theorem pe_dget2 (hu : X.A.units + 1 < cLine) (ho : PE X o td) (he : PE X e ty) (hf : PE X f tx) (m : M2 X o "get" apos e f cpos) : PE X (.Call (.Attribute o "get" apos) [e, f] [] cpos) (tDGet2 td ty tx) := by
  intro pins s σ H Q I h
  refine wpAny_Call_method m.base m.few m.line PySem.F.plainAttrs_dict PySem.F.slot_dict_get PySem.F.type_dict_get (thn (ho pins s σ H _ I h) fun u s1 hq_ => ?_)
  obtain ⟨x, H1, I1, rx, a, ex, d, q1⟩ := hq_
  subst ex
  obtain rfl : u = Value.ref a := rx
  obtain ⟨t1, t2, _⟩ := isD_at I1 d
  refine ⟨t1, t2, ?_⟩
  rw [m.trees]
  refine Calls.callWith_builtin rfl (Calls.evalArgs_plain (Calls.spliced_cons (thn (he pins s1 σ H1 _ I1 q1) fun iv s2 ⟨y, H2, I2, ry, q2⟩ =>
    Calls.spliced_cons (thn (hf pins s2 σ H2 _ I2 q2) fun fv s3 ⟨z, H3, I3, rz, ov, g, q3⟩ => Calls.spliced_nil ?_))))
  exact d_get2 hu I3 g ry rz fun w' s4 I4 rw' => ⟨_, H3, I4, rw', q3⟩
end
end L2
set_option Elab.async false
set_option linter.all false
set_option maxRecDepth 100000
namespace L2
open PySem PySem.Spec PyProof.Rows
end L2
set_option Elab.async false
set_option linter.all false
set_option maxRecDepth 100000
namespace PySem
open Sem (wp)
end PySem
set_option Elab.async false
set_option linter.all false
set_option maxRecDepth 100000
namespace L2
open PySem PySem.Spec PyProof.Rows
end L2
set_option Elab.async false
set_option linter.all false
set_option maxRecDepth 100000
namespace PySem
end PySem
namespace L2
open PySem PySem.Spec PyProof.Rows
end L2
set_option Elab.async false
set_option linter.all false
set_option maxRecDepth 100000
namespace L2
open PySem PySem.Spec PyProof.Rows
end L2
set_option Elab.async false
set_option linter.all false
set_option maxRecDepth 100000
namespace L2
open PySem PySem.Spec PyProof.Rows
end L2
set_option Elab.async false
set_option linter.all false
set_option maxRecDepth 100000
namespace L2
open PySem PySem.Spec PyProof.Rows
def getK (i : Nat) (ρ : Rho) : Option (List (Key × D)) := match ρ[i]? with
  | some (.ob (.dK kvs)) => some kvs
  | _ => none
theorem getK_some {i : Nat} {ρ : Rho} {kvs : List (Key × D)} (h : getK i ρ = some kvs) : ρ[i]? = some (.ob (.dK kvs)) := by
  unfold getK at h
  split at h
  · cases h; assumption
  · cases h
def keyOf : D → Option Key
  | .int i => some (.inl i)
  | _ => none
theorem keyOf_some {d : D} {k : Key} (h : keyOf d = some k) : ∃ i, d = .int i ∧ k = .inl i := by
  unfold keyOf at h
  split at h
  · cases h; exact ⟨_, rfl, rfl⟩
  · cases h
def valD (kvs : List (Key × D)) (k : Key) : Option D := (kvs.find? fun kv => decide (kv.1 = k)).map (·.2)
def putD (kvs : List (Key × D)) (k : Key) (d : D) : List (Key × D) :=
  if (kvs.any fun kv => decide (kv.1 = k)) = true then kvs.map (fun kv => if kv.1 = k then (kv.1, d) else kv) else kvs ++ [(k, d)]
def KRl (K : PySem.W.Frag) (F : Hp) (us : List (Key × V)) (kvs : List (Key × D)) : Prop := us.map (·.1) = kvs.map (·.1) ∧ Reps K F (us.map (·.2)) (kvs.map (·.2))
theorem KRl.inv {K : PySem.W.Frag} {F : Hp} : ∀ {us : List (Key × V)} {kvs : List (Key × D)}, KRl K F us kvs → (us = [] ∧ kvs = []) ∨ ∃ k v us' d kvs', us = (k, v) :: us' ∧ kvs = (k, d) :: kvs' ∧ Rep K F v d ∧ KRl K F us' kvs'
  | [], [], _ => .inl ⟨rfl, rfl⟩
  | [], _ :: _, h => by cases h.1
  | _ :: _, [], h => by cases h.1
  | (k, v) :: us, (k', d) :: kvs, h => by
    obtain ⟨h1, h2⟩ := h
    rw [List.map_cons, List.map_cons] at h1 h2
    injection h1 with e1 e2
    cases h2 with
    | cons r rs =>
      have e1 : k = k' := e1
      subst e1
      exact .inr ⟨k, v, us, d, kvs, rfl, rfl, r, e2, rs⟩
theorem KRl.val {K : PySem.W.Frag} {F : Hp} (k : Key) : ∀ {us : List (Key × V)} {kvs : List (Key × D)}, KRl K F us kvs → (valV us k = none ∧ valD kvs k = none) ∨ ∃ v d, valV us k = some v ∧ valD kvs k = some d ∧ Rep K F v d := by
  intro us
  induction us with
  | nil =>
    intro kvs h
    rcases h.inv with ⟨_, rfl⟩ | ⟨_, _, _, _, _, e, _⟩
    · exact .inl ⟨rfl, rfl⟩
    · cases e
  | cons p us ih =>
    intro kvs h
    rcases h.inv with ⟨e, _⟩ | ⟨k', v, us', d, kvs', e, rfl, r, rs⟩
    · cases e
    · cases e
      by_cases ek : k' = k
      · exact .inr ⟨v, d, valV_pos ek, by simp [valD, List.find?_cons, ek], r⟩
      · have e1 : valV ((k', v) :: us) k = valV us k := valV_neg ek
        have e2 : valD ((k', d) :: kvs') k = valD kvs' k := by simp [valD, List.find?_cons, ek]
        rw [e1, e2]
        exact ih rs
theorem KRl.any {K : PySem.W.Frag} {F : Hp} (k : Key) {us : List (Key × V)} {kvs : List (Key × D)} (h : KRl K F us kvs) : (us.any fun kv => decide (kv.1 = k)) = kvs.any fun kv => decide (kv.1 = k) := by
  have e1 : (us.any fun kv => decide (kv.1 = k)) = (us.map (·.1)).any fun x => decide (x = k) := by rw [List.any_map]; rfl
  have e2 : (kvs.any fun kv => decide (kv.1 = k)) = (kvs.map (·.1)).any fun x => decide (x = k) := by rw [List.any_map]; rfl
  rw [e1, e2, h.1]
theorem KRl.cons {K : PySem.W.Frag} {F : Hp} {k : Key} {v : V} {d : D} {us : List (Key × V)} {kvs : List (Key × D)} (r : Rep K F v d) (h : KRl K F us kvs) : KRl K F ((k, v) :: us) ((k, d) :: kvs) := ⟨by rw [List.map_cons, List.map_cons, h.1], .cons r h.2⟩
theorem KRl.repl {K : PySem.W.Frag} {F : Hp} (k : Key) {v : V} {d : D} (r : Rep K F v d) : ∀ {us : List (Key × V)} {kvs : List (Key × D)}, KRl K F us kvs → KRl K F (us.map (fun kv => if kv.1 = k then (kv.1, v) else kv)) (kvs.map (fun kv => if kv.1 = k then (kv.1, d) else kv)) := by
  intro us
  induction us with
  | nil =>
    intro kvs h
    rcases h.inv with ⟨_, rfl⟩ | ⟨_, _, _, _, _, e, _⟩
    · exact h
    · cases e
  | cons p us ih =>
    intro kvs h
    rcases h.inv with ⟨e, _⟩ | ⟨k', v', us', d', kvs', e, rfl, r', rs⟩
    · cases e
    · cases e
      rw [List.map_cons, List.map_cons]
      by_cases ek : k' = k
      · rw [if_pos ek, if_pos ek]; exact KRl.cons r (ih rs)
      · rw [if_neg ek, if_neg ek]; exact KRl.cons r' (ih rs)
theorem KRl.put {K : PySem.W.Frag} {F : Hp} (k : Key) {v : V} {d : D} (r : Rep K F v d) {us : List (Key × V)} {kvs : List (Key × D)} (h : KRl K F us kvs) : KRl K F (putK us k v) (putD kvs k d) := by
  unfold putK putD
  rw [h.any k]
  split
  · exact h.repl k r
  · refine ⟨by rw [List.map_append, List.map_append, h.1]; rfl, ?_⟩
    rw [List.map_append, List.map_append]
    exact h.2.append (.cons r .nil)
theorem KRl.len {K : PySem.W.Frag} {F : Hp} {us : List (Key × V)} {kvs : List (Key × D)} (h : KRl K F us kvs) : us.length = kvs.length := by
  have := congrArg List.length h.1
  simpa using this
section
variable {K : PySem.W.Frag} {c : Ct} {hid : Hid} {ρ : Rho} {σ : St} {H : Hp} {a : Addr}
theorem SR.dict (h : SR K c hid ρ σ H) {i : Nat} {kvs : List (Key × D)} (e : getK i ρ = some kvs) : ∃ a us, σ[i]? = some (some (.ref a)) ∧ hid a = true ∧ c.H₀ a = none ∧ H a = some (.dK us) ∧ KRl K (vw H hid) us kvs := by
  obtain ⟨a, h1, ⟨h2, h3⟩, us, h4, h5, h6⟩ := h.sl i _ (getK_some e)
  exact ⟨a, us, h1, h2, h3, h4, h5, h6⟩
theorem SR.setD {b : Ob} (h : SR K c hid ρ σ H) (ho : ObOk K c hid H a b) (no : ∀ i : Nat, Ow ρ[i]? → σ[i]? ≠ some (some (.ref a))) (i : Nat) :
    SR K c hid (ρ.set i (.ob b)) (σ.set i (some (.ref a))) H := by
  refine ⟨h.tr, h.ht, h.h0, h.kp, h.t0, h.c0, h.m0, by simp [h.len], fun j s q => ?_, fun j l z n o1 o2 q1 q2 => ?_⟩
  · by_cases e : j = i
    · subst e
      have lt : j < ρ.length := by
        have := (List.getElem?_eq_some_iff.mp q).1
        simpa using this
      rw [List.getElem?_set_self lt] at q
      cases q
      exact ⟨a, List.getElem?_set_self (by rw [h.len]; exact lt), ho⟩
    · rw [List.getElem?_set_ne (Ne.symm e)] at q
      have w := h.sl j s q
      have es : (σ.set i (some (V.ref a)))[j]? = σ[j]? := List.getElem?_set_ne (Ne.symm e)
      cases s with
      | no => trivial
      | v d => obtain ⟨x, h1, h2⟩ := w; exact ⟨x, es.trans h1, h2⟩
      | own ds => obtain ⟨a, xs, h1, h2⟩ := w; exact ⟨a, xs, es.trans h1, h2⟩
      | arg ds => obtain ⟨a, xs, h1, h2⟩ := w; exact ⟨a, xs, es.trans h1, h2⟩
      | ob b => obtain ⟨a, h1, h2⟩ := w; exact ⟨a, es.trans h1, h2⟩
  · by_cases e1 : j = i
    · subst e1
      have e2 : l ≠ j := fun e => n e.symm
      rw [List.getElem?_set_ne (Ne.symm e2)] at o2 q2
      by_cases lt : j < σ.length
      · rw [List.getElem?_set_self lt] at q1; cases q1; exact no l o2 q2
      · rw [List.getElem?_eq_none (by simpa using lt)] at q1; cases q1
    · rw [List.getElem?_set_ne (Ne.symm e1)] at o1 q1
      by_cases e2 : l = i
      · subst e2
        by_cases lt : l < σ.length
        · rw [List.getElem?_set_self lt] at q2; cases q2; exact no j o1 q1
        · rw [List.getElem?_eq_none (by simpa using lt)] at q2; cases q2
      · rw [List.getElem?_set_ne (Ne.symm e2)] at o2 q2
        exact h.ap j l z n o1 o2 q1 q2
theorem SR.putD {i : Nat} {kvs kvs' : List (Key × D)} {us' : List (Key × V)} (h : SR K c hid ρ σ H) (hg : getK i ρ = some kvs) (ha : σ[i]? = some (some (.ref a))) (r : KRl K (vw H hid) us' kvs') : SR K c hid (ρ.set i (.ob (.dK kvs'))) σ (upd H a (.dK us')) := by
  obtain ⟨a1, us, h1, h2, h3, h4, h5⟩ := h.dict hg
  rw [ha] at h1; cases h1
  have lt : i < ρ.length := (List.getElem?_eq_some_iff.mp (getK_some hg)).1
  have vv : vw (upd H a (.dK us')) hid = vw H hid := vw_upd h2
  have tr' : ∀ b o, H b = some o → ∃ o2, (upd H a (.dK us')) b = some o2 := fun b o q => by
    by_cases e : b = a
    · subst e; exact ⟨_, upd_same⟩
    · exact ⟨o, by rw [upd_ne e]; exact q⟩
  have owi : Ow ρ[i]? := by rw [getK_some hg]; trivial
  have ne : ∀ (j : Nat) (s : Sl) (a' : Addr), j ≠ i → ρ[j]? = some s → Ow (some s) → σ[j]? = some (some (.ref a')) → a' ≠ a := fun j s a' n e o q w => by
    subst w
    exact h.ap j i a' n (by rw [e]; exact o) owi q ha
  have ows : ∀ j : Nat, Ow (ρ.set i (.ob (.dK kvs')))[j]? → Ow ρ[j]? := fun j o => by
    by_cases e : j = i
    · subst e; exact owi
    · rw [List.getElem?_set_ne (Ne.symm e)] at o; exact o
  refine ⟨fun b hb => let ⟨o, q⟩ := h.tr b hb; tr' b o q, fun b xs hb q => by
    by_cases e : b = a
    · subst e; rw [upd_same] at q; cases q
    · rw [upd_ne e] at q; exact h.ht b xs hb q, h.h0, fun b o q m => ?_, fun b o q => let ⟨o2, q2⟩ := h.t0 b o q; tr' b o2 q2, h.c0, h.m0, by simp [h.len], fun j s e => ?_, fun j l z n o1 o2 => h.ap j l z n (ows j o1) (ows l o2)⟩
  · rw [upd_ne (ne_of_none q h3)]; exact h.kp b o q m
  · by_cases ej : j = i
    · subst ej
      rw [List.getElem?_set_self lt] at e
      cases e
      exact ⟨a, ha, ⟨h2, h3⟩, us', upd_same, r.1, by rw [vv]; exact r.2⟩
    · rw [List.getElem?_set_ne (Ne.symm ej)] at e
      have z := h.sl j s e
      cases s with
      | no => trivial
      | v d => obtain ⟨x, h1, h2⟩ := z; exact ⟨x, h1, by rw [vv]; exact h2⟩
      | own ds => obtain ⟨a', xs, h1, h2, h3, h4, h5⟩ := z; exact ⟨a', xs, h1, by rw [upd_ne (ne j _ a' ej e trivial h1)]; exact h2, h3, h4, by rw [vv]; exact h5⟩
      | arg ds => obtain ⟨a', xs, h1, h2, h3, h4, h5⟩ := z; exact ⟨a', xs, h1, by rw [upd_ne (ne j _ a' ej e trivial h1)]; exact h2, h3, h4, by rw [vv]; exact h5⟩
      | ob b => obtain ⟨a', h1, h2⟩ := z; exact ⟨a', h1, h2.mono (fun ow o q => by rw [upd_ne (ne j _ a' ej e ow h1)]; exact q) (by rw [vv]; exact Same.refl _) fun _ q => q⟩
end
section
variable {X : Cx} {c : Ct} {k k1 k2 : Kd} {e f ek ev : Expr} {fe ff fk fv : FE} {pos pos' py apos cpos p : Pos} {x y : Str}
def dnewS (i : Nat) : FS := fun ρ => .nx (ρ.set i (.ob (.dK [])))
theorem ds_dnew (i : Nat) (hn : X.N.Nodup) (hi : X.N[i]? = some x := by rfl) (hx : Loc X.env.scope x := by first | exact Or.inl rfl | exact Or.inr rfl) (hs : swapsWith (.Dict [] [] p) (some (.Name x pos')) pos.line X.env = pure false := by rfl)
    (hf : X.fn x = true ∨ X.env.scope.names.lookup x = some .local := by first | exact .inl rfl | exact .inr rfl | assumption) : DS X c k (.Assign [.Name x pos'] (.Dict [] [] p) pos) (dnewS i) := fun ρ => PS.imp (ps_set hn hi hx pe_dnewK hs hf) fun D σ H hq_ => by
  obtain ⟨hid, sr, q⟩ := hq_
  intro a ha
  have sm := same_new ha (.dK [])
  have nf := sr.fresh ha
  refine q _ _ (hadd hid a) (SR.setD (a := a) (b := .dK []) (sr.hide sm ha upd_same) ⟨⟨hadd_self, sr.fresh0 ha⟩, [], upd_same, rfl, .nil⟩ (sr.notOw nf) i) fun b o w => ?_
  obtain ⟨w1, w2⟩ := vw_some.mp w
  refine vw_some.mpr ⟨?_, sm b o w2⟩
  unfold hadd
  rw [w1]
  have : b ≠ a := ne_of_none w2 ha
  simp [this]
def dputS (i : Nat) (fk fv : FE) : FS := fun ρ => match getK i ρ with
  | some kvs => (match fv ρ with
    | some d => (match (fk ρ).bind keyOf with
      | some k => if kvs.length ≤ 1000 then .nx (ρ.set i (.ob (.dK (putD kvs k d)))) else .no
      | none => .no)
    | none => .no)
  | none => .no
theorem ds_dput (i : Nat) (hu : X.A.units + 1 < cLine) (hk : DP X c k1 ek fk) (hv : DP X c .s ev fv) (hN : X.N[i]? = some y := by rfl) (hv' : Vis X.env.scope y := by first | exact Or.inl rfl | exact Or.inr (Or.inl rfl) | exact Or.inr (Or.inr rfl)) (hd : (y == ("__debug__" : Str)) = false := by decide)
    (hcd : (y == ("__classdict__" : Str)) = false := by decide) (hs : swapsWith ev (some (.Subscript (.Name y py) ek pos')) pos.line X.env = pure false := by rfl) :
    DS X c k (.Assign [.Subscript (.Name y py) ek pos'] ev pos) (dputS i fk fv) := fun ρ => PS.imp (ps_dput hu (pv i hN hv' hd hcd) (exPE fun hid => hk hid ρ) (exPE fun hid => hv hid ρ) hs) fun D σ H hq_ => by
  obtain ⟨hid, sr, q⟩ := hq_
  unfold dputS at q
  split at q
  · rename_i kvs e0
    split at q
    · rename_i d e1
      split at q
      · rename_i kk e2
        split at q
        · rename_i hz
          obtain ⟨dk, e3, e4⟩ := Option.bind_eq_some_iff.mp e2
          obtain ⟨j, rfl, rfl⟩ := keyOf_some e4
          obtain ⟨a, us, a1, a2, a3, a4, a5⟩ := sr.dict e0
          refine ⟨hid, sr, d, e1, fun v H1 s1 r1 => ⟨.ref a, a1, hid, sr.ext s1, _, e3, fun z H2 s2 r2 => ?_⟩⟩
          have i1 := (RK.b k1 r2 fun a n => (sr.ext s1).fresh n).int
          cases i1
          have s12 := s1.trans s2
          have hh : H2 a = some (.dK us) := s12 _ _ a4
          refine ⟨a, _, rfl, DPut.k (k := Sum.inl j) hh (by rw [a5.len]; exact Nat.lt_of_le_of_lt hz (by decide)), ?_⟩
          have r1' : Rep X.K (vw H1 hid) v d := r1
          refine q _ _ hid ((sr.ext s12).putD e0 a1 (KRl.put (Sum.inl j) (r1'.mono (vw_same s2)) ⟨a5.1, a5.2.mono (vw_same s12)⟩)) ?_
          rw [vw_upd a2]
          exact vw_same s12
        · exact q.elim
      · exact q.elim
    · exact q.elim
  · exact q.elim
def dgetF (i : Nat) (fk fd : FE) : FE := fun ρ => (getK i ρ).bind fun kvs => ((fk ρ).bind keyOf).bind fun k => (fd ρ).map fun d => (valD kvs k).getD d
theorem dp_dget (i : Nat) (hu : X.A.units + 1 < cLine) (he : DP X c k1 e fe) (hf : DP X c .s f ff) (m : M2 X (.Name y py) "get" apos e f cpos) (hN : X.N[i]? = some y := by rfl) (hv' : Vis X.env.scope y := by first | exact Or.inl rfl | exact Or.inr (Or.inl rfl) | exact Or.inr (Or.inr rfl)) (hd : (y == ("__debug__" : Str)) = false := by decide)
    (hcd : (y == ("__classdict__" : Str)) = false := by decide) : DP X c .s (.Call (.Attribute (.Name y py) "get" apos) [e, f] [] cpos) (dgetF i fe ff) := fun hid ρ =>
  PE.imp (pe_dget2 hu (pv i hN hv' hd hcd) (he hid ρ) (hf hid ρ) m) fun σ H Q hq_ => by
    obtain ⟨sr, d, hd, q⟩ := hq_
    obtain ⟨kvs, e0, hd⟩ := Option.bind_eq_some_iff.mp hd
    obtain ⟨kk, e1, hd⟩ := Option.bind_eq_some_iff.mp hd
    obtain ⟨dd, e2, rfl⟩ := Option.map_eq_some_iff.mp hd
    obtain ⟨dk, e3, e4⟩ := Option.bind_eq_some_iff.mp e1
    obtain ⟨j, rfl, rfl⟩ := keyOf_some e4
    obtain ⟨a, us, a1, a2, a3, a4, a5⟩ := sr.dict e0
    refine ⟨.ref a, a1, a, rfl, .inl ⟨us, .inl a4⟩, sr, _, e3, fun z H2 s2 r2 => ⟨sr.ext s2, _, e2, fun w H3 s3 r3 => ?_⟩⟩
    have i1 := (RK.b k1 r2 fun a n => sr.fresh n).int
    cases i1
    have s23 := s2.trans s3
    have hh : H3 a = some (.dK us) := s23 _ _ a4
    have rr : KRl X.K (vw H3 hid) us kvs := ⟨a5.1, a5.2.mono (vw_same s23)⟩
    refine ⟨_, DGet.k (k := Sum.inl j) hh, q _ H3 s23 ?_⟩
    rcases rr.val (Sum.inl j) with ⟨v1, v2⟩ | ⟨v, d, v1, v2, v3⟩
    · rw [v1, v2]; exact r3
    · rw [v1, v2]; exact v3
def dixF (i : Nat) (fk : FE) : FE := fun ρ => (getK i ρ).bind fun kvs => ((fk ρ).bind keyOf).bind fun k => valD kvs k
theorem dp_dix (i : Nat) (hu : X.A.units + 1 < cLine) (he : DP X c k1 e fe) (hs : NoSl e) (hN : X.N[i]? = some y := by rfl) (hv' : Vis X.env.scope y := by first | exact Or.inl rfl | exact Or.inr (Or.inl rfl) | exact Or.inr (Or.inr rfl)) (hd : (y == ("__debug__" : Str)) = false := by decide)
    (hcd : (y == ("__classdict__" : Str)) = false := by decide) : DP X c .s (.Subscript (.Name y py) e pos) (dixF i fe) := fun hid ρ =>
  PE.imp (pe_dget hu (pv i hN hv' hd hcd) (he hid ρ) hs) fun σ H Q hq_ => by
    obtain ⟨sr, d, hd, q⟩ := hq_
    obtain ⟨kvs, e0, hd⟩ := Option.bind_eq_some_iff.mp hd
    obtain ⟨kk, e1, hd⟩ := Option.bind_eq_some_iff.mp hd
    obtain ⟨dk, e3, e4⟩ := Option.bind_eq_some_iff.mp e1
    obtain ⟨j, rfl, rfl⟩ := keyOf_some e4
    obtain ⟨a, us, a1, a2, a3, a4, a5⟩ := sr.dict e0
    refine ⟨.ref a, a1, sr, _, e3, fun z H2 s2 r2 => ?_⟩
    have i1 := (RK.b k1 r2 fun a n => sr.fresh n).int
    cases i1
    have hh : H2 a = some (.dK us) := s2 _ _ a4
    have rr : KRl X.K (vw H2 hid) us kvs := ⟨a5.1, a5.2.mono (vw_same s2)⟩
    rcases rr.val (Sum.inl j) with ⟨v1, v2⟩ | ⟨v, d', v1, v2, v3⟩
    · rw [v2] at hd; cases hd
    · rw [v2] at hd; cases hd
      exact ⟨a, v, rfl, v1 ▸ DGet.k (k := Sum.inl j) hh, q _ H2 s2 v3⟩
end
end L2
set_option Elab.async false
set_option linter.all false
set_option maxRecDepth 100000
namespace L2
open PySem PySem.W PySem.Spec PyProof.Rows
section
variable {prog : Program} {w : World} {A : Around} {E : Value → Shared → Prop} {s : Shared}
theorem gather_src {T : String} {r d : Addr} {n : Nat} {P : Nat → Value → Prop} {OK : Heap → Prop} {R : List Value → Shared → Prop} (src : KdlSrc prog w T r d n P OK) (calm : A.handled = none) (good : OK s.heap) (few : n ≤ sizeLine)
    (q : ∀ (g : Heap) (tk : Nat) (us : Array Value), (∀ b o, s.heap.get? b = some o → g.get? b = some o) → s.heap.objs.size < g.objs.size → ItemsOf P us n → R us.toList { s with heap := g, toks := tk }) : wpAny (model prog w) A (collect (.ref r)) R E s := by
  obtain ⟨rl, dl⟩ := src.there _ good
  unfold collect
  refine wpAny_bind (wpAny_runValue (codeAny_builtin F.entry_proto_collect ?_))
  rw [Around.under_plainId F.plain_proto_collect _]
  show wpAny _ A.in1 (newList [] >>= fun z => again (.builtin "list.__iadd__" ⟨[z, .ref r], []⟩)) _ _ s
  refine wpAny_bind (wpAny_newObj_type (wpAny_pure ⟨plainId_quiet F.plain_list_iadd _, codeAny_builtin F.entry_list_iadd ?_⟩))
  rw [Around.under_plainId F.plain_list_iadd _]
  show wpAny _ A.in1 (Builtin.List.listExtendWith (.ref s.heap.objs.size) (.ref r) (.ref s.heap.objs.size)) _ _ _
  have last : ∀ (g : Heap) (tk : Nat) (us : Array Value) (m : Nat), (∀ b o, s.heap.get? b = some o → g.get? b = some o) → g.get? s.heap.objs.size = some { cls := .type "list", dict := none, data := .seq us m, slots := #[] } → ItemsOf P us n →
      wpAny (model prog w) A (do
        match (← load s.heap.objs.size).data with
          | Data.seq xs _ => pure xs.toList
          | _ => unsupported "internal:collect") R E { s with heap := g, toks := tk } := fun g tk us m kg hg hi => wpAny_bind (wpAny_load hg (wpAny_pure (q g tk us kg (Heap.lt_size hg) hi)))
  have ext := kdl_extend (A := A) (s := { s with heap := s.heap.push { cls := .type "list", data := .seq ([] : List Value).toArray } })
    (R := fun z t => ∃ (g : Heap) (tk : Nat) (us : Array Value) (m : Nat), z = .ok (.ret (.ref s.heap.objs.size)) ∧ t = { s with heap := g, toks := tk } ∧ (∀ b o, s.heap.get? b = some o → g.get? b = some o) ∧ g.get? s.heap.objs.size = some { cls := .type "list", dict := none, data := .seq us m, slots := #[] } ∧ ItemsOf P us n)
    src calm (src.keep _ _ good fun b _ o e => Heap.get?_push_of_some _ e) s.heap.objs.size (Nat.ne_of_gt rl) (Nat.ne_of_gt dl) (.ref s.heap.objs.size) 0 (Heap.get?_push_size _ rfl)
    (fun g tk us m kg hg hi => ⟨g, tk, us, m, rfl, rfl, fun b o e => kg b o (Nat.ne_of_lt (Heap.lt_size e)) (Heap.get?_push_of_some _ e), hg, hi⟩) few
  refine wpAny_mono ext (fun z t h => ?_) fun z t h => by obtain ⟨_, _, _, _, e, _⟩ := h; cases e
  cases z with
  | done f => obtain ⟨g, tk, us, m, e, rfl, kg, hg, hi⟩ := h; cases e; exact last g tk us m kg hg hi
  | again c => exact ⟨h.1, codeAny_mono h.2 fun z t' hr => by obtain ⟨g, tk, us, m, rfl, rfl, kg, hg, hi⟩ := hr; exact last g tk us m kg hg hi⟩
end
section
variable {X : Cx} {c : Ct} {pos p py : Pos} {x y : Str}
theorem vals_int {us : List Value} {ns : List Int} (h : IntV us ns) : Vals (ns.map V.int) us := by
  induction h with
  | nil => exact .nil
  | cons h _ ih => exact .cons h ih
theorem ints_reps {K : PySem.W.Frag} {F : Hp} : ∀ ms : List Int, Reps K F (ms.map V.int) (ms.map D.int)
  | [] => .nil
  | m :: ms => .cons .int (ints_reps ms)
def intKeys : List (Key × D) → Option (List Int)
  | [] => some []
  | (.inl i, _) :: r => (intKeys r).map (i :: ·)
  | _ => none
theorem intKeys_eq : ∀ {kvs : List (Key × D)} {ns : List Int}, intKeys kvs = some ns → kvs.map (·.1) = ns.map Sum.inl
  | [], ns, h => by cases h; rfl
  | (.inl i, d) :: r, ns, h => by
    have h : (intKeys r).map (i :: ·) = some ns := h
    obtain ⟨t, e, rfl⟩ := Option.map_eq_some_iff.mp h
    rw [List.map_cons, intKeys_eq e]; rfl
  | (.inr _, _) :: _, _, h => by cases h
end
end L2
set_option Elab.async false
set_option linter.all false
set_option maxRecDepth 100000
namespace L2
open PySem PySem.Spec PyProof.Rows
mutual
def LF : D → Bool
  | .lst _ => false
  | .tup ds => LFs ds
  | .scr ds => LFs ds
  | _ => true
def LFs : List D → Bool
  | [] => true
  | d :: ds => LF d && LFs ds
end
def unl (hid : Hid) (H : Hp) : Hid := fun b => hid b && !isLO (H b)
theorem sqT_back {K : PySem.W.Frag} {H : Hp} {g g' : Hid} (h : ∀ t, g' t = false → g t = true → isLO (H t) = true) {a : Addr} {xs : List V} (s : SqT K (vw H g') a xs) : SqT K (vw H g) a xs := by
  rcases s with (s | ⟨o, s⟩) | s
  · obtain ⟨h1, h2⟩ := vw_some.mp s
    refine .inl (.inl (vw_some.mpr ⟨?_, h2⟩))
    cases e : g a with
    | false => rfl
    | true => have := h a h1 e; rw [h2] at this; cases this
  · obtain ⟨h1, h2⟩ := vw_some.mp s
    refine .inl (.inr ⟨o, vw_some.mpr ⟨?_, h2⟩⟩)
    cases e : g a with
    | false => rfl
    | true => have := h a h1 e; rw [h2] at this; cases this
  · exact .inr s
theorem sqR_back {K : PySem.W.Frag} {H : Hp} {g g' : Hid} (h : ∀ t, g' t = false → g t = true → isLO (H t) = true) {a : Addr} {xs : List V} (s : SqR K (vw H g') a xs) : SqR K (vw H g) a xs := by
  rcases s with ⟨o, s⟩ | s
  · obtain ⟨h1, h2⟩ := vw_some.mp s
    refine .inl ⟨o, vw_some.mpr ⟨?_, h2⟩⟩
    cases e : g a with
    | false => rfl
    | true => have := h a h1 e; rw [h2] at this; cases this
  · exact .inr s
mutual
theorem rep_back {K : PySem.W.Frag} {H : Hp} {g g' : Hid} (h : ∀ t, g' t = false → g t = true → isLO (H t) = true) : ∀ {v : V} {d : D}, Rep K (vw H g') v d → LF d = true → Rep K (vw H g) v d
  | _, _, .non, _ => .non
  | _, _, .bl, _ => .bl
  | _, _, .int, _ => .int
  | _, _, .str, _ => .str
  | _, _, .tup s r, l => .tup (sqT_back h s) (reps_back h r (by unfold LF at l; exact l))
  | _, _, .scr s r, l => .scr (sqR_back h s) (reps_back h r (by unfold LF at l; exact l))
  | _, _, .lst s r, l => by unfold LF at l; cases l
theorem reps_back {K : PySem.W.Frag} {H : Hp} {g g' : Hid} (h : ∀ t, g' t = false → g t = true → isLO (H t) = true) : ∀ {v : List V} {d : List D}, Reps K (vw H g') v d → LFs d = true → Reps K (vw H g) v d
  | _, _, .nil, _ => .nil
  | _, _, .cons r rs, l => by
    unfold LFs at l
    rw [Bool.and_eq_true] at l
    exact .cons (rep_back h r l.1) (reps_back h rs l.2)
end
theorem unl_le (hid : Hid) (H : Hp) : Same (vw H hid) (vw H (unl hid H)) := vw_less fun b w => by unfold unl at w; rw [Bool.and_eq_true] at w; exact w.1
theorem reps1_unl {K : PySem.W.Frag} {H : Hp} {hid : Hid} {vs : List V} {ds : List D} (r : Reps1 K H (vw H hid) vs ds) : Reps K (vw H (unl hid H)) vs ds := by
  induction r with
  | nil => exact .nil
  | cons r _ ih =>
    refine .cons ?_ ih
    rcases r with r | ⟨a, xs, es, rfl, rfl, h1, h2⟩
    · exact r.mono (unl_le hid H)
    · exact .lst (vw_some.mpr ⟨by unfold unl; rw [h1]; simp [isLO], h1⟩) (h2.mono (unl_le hid H))
theorem unl_back {hid : Hid} {H H' : Hp} (tr : ∀ b, hid b = true → ∃ o, H b = some o) (s : Same H H') : ∀ t, unl hid H t = false → hid t = true → isLO (H' t) = true := fun t h1 h2 => by
  unfold unl at h1
  rw [h2, Bool.true_and] at h1
  obtain ⟨o, ho⟩ := tr t h2
  rw [ho] at h1
  rw [s _ _ ho]
  simpa using h1
section
variable {X : Cx} {c : Ct} {e : Expr} {es : List Expr} {pos p : Pos} {x : Str} {ps : List Str} {j n : Nat}
theorem nF_some {P : List D → Option D} {ds : List D} {d : D} (h : nF n P ds = some d) : ds.length = n ∧ P ds = some d := by
  have h : (if ds.length = n then P ds else none) = some d := h
  split at h
  · exact ⟨‹_›, h⟩
  · cases h
def lfS (f : FE) : FE := fun ρ => (f ρ).bind fun d => if LF d = true then some d else none
def lfN (f : FE) : FE := fun ρ => (f ρ).bind fun d => match d with
  | .lst ds => if LFs ds = true then some (.lst ds) else none
  | _ => none
theorem dp_clBs {P : List D → Option D} {fs : FA} (C : Cl X.prog X.w X.K X.mg X.base j x ps (spP X.K .s n P)) (hr : Room j X.A)
    (ha : DB X c (e :: es) fs) (hg : Gl X x := by rfl) (hdb : (x == ("__debug__" : Str)) = false := by decide) (he : starEach (e :: es) X.env = (false, eval e X.env) :: starEach es X.env := by rfl) (hpl : (backTo pos (starEach es X.env)).any (·.1) = false := by rfl) :
    DP X c .s (.Call (.Name x p) (e :: es) [] pos) (lfS (callF (nF n P) fs)) := by
  obtain ⟨f, fd, F, hm, hk, hb⟩ := C.ex
  exact fun hid ρ => PE.imp (pe_call F hr hg hm hk hb .nil (pass0 (X := X)) (ha hid ρ) hdb he hpl) fun σ H Q hq_ => by
    obtain ⟨sr, d, hd, q⟩ := hq_
    obtain ⟨d', h1, h2⟩ := Option.bind_eq_some_iff.mp hd
    split at h2
    · rename_i hl
      cases h2
      obtain ⟨ds, g1, g2⟩ := callF_some h1
      obtain ⟨g3, g4⟩ := nF_some g2
      refine ⟨sr, ds, g1, fun vs H1 s1 r1 => ?_⟩
      have t1 := (sr.ext s1).tr
      show spP X.K .s n P (vs ++ []) H1 Q E0
      rw [List.append_nil]
      exact ⟨unl hid H1, ds, ⟨fun b w => t1 b (by unfold unl at w; rw [Bool.and_eq_true] at w; exact w.1), fun b xs w => (sr.ext s1).ht b xs (by unfold unl at w; rw [Bool.and_eq_true] at w; exact w.1)⟩, reps1_unl r1, g3, _, g4, fun v H' s' r => q v H' (s1.trans s') (rep_back (unl_back t1 s') r hl)⟩
    · cases h2
theorem dp_clBn {P : List D → Option D} {fs : FA} (C : Cl X.prog X.w X.K X.mg X.base j x ps (spP X.K .n n P)) (hr : Room j X.A)
    (ha : DB X c (e :: es) fs) (hg : Gl X x := by rfl) (hdb : (x == ("__debug__" : Str)) = false := by decide) (he : starEach (e :: es) X.env = (false, eval e X.env) :: starEach es X.env := by rfl) (hpl : (backTo pos (starEach es X.env)).any (·.1) = false := by rfl) :
    DP X c .n (.Call (.Name x p) (e :: es) [] pos) (lfN (callF (nF n P) fs)) := by
  obtain ⟨f, fd, F, hm, hk, hb⟩ := C.ex
  exact fun hid ρ => PE.imp (pe_call F hr hg hm hk hb .nil (pass0 (X := X)) (ha hid ρ) hdb he hpl) fun σ H Q hq_ => by
    obtain ⟨sr, d, hd, q⟩ := hq_
    obtain ⟨d', h1, h2⟩ := Option.bind_eq_some_iff.mp hd
    split at h2
    · rename_i ys
      split at h2
      · rename_i hl
        cases h2
        obtain ⟨ds, g1, g2⟩ := callF_some h1
        obtain ⟨g3, g4⟩ := nF_some g2
        refine ⟨sr, ds, g1, fun vs H1 s1 r1 => ?_⟩
        have t1 := (sr.ext s1).tr
        show spP X.K .n n P (vs ++ []) H1 Q E0
        rw [List.append_nil]
        refine ⟨unl hid H1, ds, ⟨fun b w => t1 b (by unfold unl at w; rw [Bool.and_eq_true] at w; exact w.1), fun b xs w => (sr.ext s1).ht b xs (by unfold unl at w; rw [Bool.and_eq_true] at w; exact w.1)⟩, reps1_unl r1, g3, _, g4, fun v H' s' r => q v H' (s1.trans s') ?_⟩
        obtain ⟨a, xs, zs, e1, rfl, e3, e4, e5⟩ := r
        cases e1
        refine ⟨a, xs, ys, rfl, rfl, s1.free e3, e4, reps_back (fun t w1 w2 => ?_) e5 hl⟩
        unfold hadd at w1 w2
        by_cases ta : t = a
        · subst ta; rw [e4]; rfl
        · refine unl_back t1 s' t ?_ ?_
          · simpa [ta] using w1
          · simpa [ta] using w2
      · cases h2
    · cases h2
end
end L2
set_option Elab.async false
set_option linter.all false
set_option maxRecDepth 100000
namespace L2
open PySem PySem.Spec PyProof.Rows
theorem preSum_is (ns : List Int) : ∀ j, j ≤ ns.length → preSum (fun i => ns.getD i 0) j = (ns.take j).sum := by
  intro j
  induction j with
  | zero => intro _; rfl
  | succ j ih =>
    intro h
    have e : ns.take (j + 1) = ns.take j ++ [ns.getD j 0] := by
      rw [List.take_succ, List.getElem?_eq_getElem (by omega), List.getD_eq_getElem?_getD, List.getElem?_eq_getElem (by omega)]; rfl
    rw [e, List.sum_append, ← ih (by omega)]
    show preSum (fun i => ns.getD i 0) j + ns.getD j 0 = _
    simp
section
variable {X : Cx} {c : Ct}
theorem call_sum (hc : X.calm = true) : CallR X (.builtin "sum") (fun xs H Q => ∃ (a : Addr) (ys : List V) (ns : List Int), xs = [.ref a] ∧ SqL X.K H a ys ∧ Reps X.K H ys (ns.map D.int) ∧ Q (.int ns.sum) H) := by
  intro pins s σ H xs us Q I r h
  obtain ⟨a, ys, ns, rfl, h1, h2, q⟩ := h
  obtain ⟨u, rfl, rx⟩ := vals1 r
  cases rx
  obtain ⟨its, rv, pl, hz⟩ := I.list h1
  have hlt : a < s.heap.objs.size := by obtain ⟨o, n, e, _⟩ := pl; exact Heap.lt_size e
  have hv := intV_of rv h2
  have l1 := rv.length
  have l2 := h2.length
  rw [List.length_map] at l2
  refine call_sum_walkAnyS (wpAny_pyIter_list pl.isList ?_)
  refine ⟨s.heap.objs.size, _, _, _, _, _, _, fun i => ns.getD i 0, rfl, (Walks.list (A := X.A.in1) (I.ok.hd hc) s.heap.objs.size a (Nat.ne_of_lt hlt) its.toArray).toS, ⟨⟨_, Heap.get?_push_size _ rfl, rfl, rfl⟩, ?_⟩, fun b hb => ?_, fun i v e => ?_, fun s' t' mv => ?_⟩
  · obtain ⟨o, ho, z⟩ := pl.isList
    exact ⟨o, Heap.get?_push_of_some _ ho, z⟩
  · show b < (s.heap.push _).objs.size
    rw [Heap.size_push]
    simp only [List.mem_cons, List.not_mem_nil, or_false] at hb
    rcases hb with rfl | rfl
    · exact Nat.lt_succ_self _
    · exact Nat.lt_succ_of_lt hlt
  · have e : its[i]? = some v := by simpa using e
    obtain ⟨m, e1, t, e2⟩ := intV_get hv e
    exact ⟨t, by rw [e2]; simp [List.getD, e1]⟩
  · have hk : ∀ b o, s.heap.get? b = some o → s'.heap.get? b = some o := fun b o e => mv.heap b o (fun hm => by
      have : b = s.heap.objs.size := by simpa using hm
      exact absurd (this ▸ Heap.lt_size e) (Nat.lt_irrefl _)) (Heap.get?_push_of_some _ e)
    have e0 : its.toArray.size = ns.length := by rw [List.size_toArray]; omega
    have hs : preSum (fun i => ns.getD i 0) its.toArray.size = ns.sum := by rw [e0, preSum_is ns _ (Nat.le_refl _), List.take_length]
    rw [hs]
    have es : s' = { s with heap := s'.heap, toks := s'.toks } := by
      obtain ⟨_, m2, m3, m4, _⟩ := mv
      cases s'
      simp only at m2 m3 m4
      subst m2 m3 m4
      rfl
    rw [es]
    exact ⟨.int _, H, I.kept hk, ⟨_, rfl⟩, q⟩
def sumD : List D → Option D
  | [.lst ds] => (intsD ds).map fun ns => .int ns.sum
  | _ => none
theorem cd_sum : CallD X.K .s (fun xs H Q => ∃ (a : Addr) (ys : List V) (ns : List Int), xs = [.ref a] ∧ SqL X.K H a ys ∧ Reps X.K H ys (ns.map D.int) ∧ Q (.int ns.sum) H) sumD := by
  intro H hid vs ds d Q hf h r q
  unfold sumD at h
  split at h
  · rename_i zs
    cases e1 : intsD zs with
    | none => rw [e1] at h; cases h
    | some ns =>
      rw [e1] at h; cases h
      obtain ⟨x, rfl, r1⟩ := Reps1.one r
      obtain ⟨a, xs, rfl, h1, h2⟩ := r1.lst
      rw [intsD_eq e1] at h2
      exact ⟨a, xs, ns, rfl, h1, h2.mono (vw_le _ _), q _ H (Same.refl _) .int⟩
  · cases h
end
end L2
set_option Elab.async false
set_option linter.all false
set_option maxRecDepth 100000
namespace L2
open PySem PySem.Spec PyProof.Rows
end L2
set_option Elab.async false
set_option linter.all false
set_option maxRecDepth 100000
namespace L2
open PySem PySem.Spec PyProof.Rows
end L2
set_option Elab.async false
set_option linter.all false
set_option maxRecDepth 100000
namespace L2
open PySem PySem.Spec PyProof.Rows
end L2
set_option Elab.async false
set_option linter.all false
set_option maxRecDepth 100000
namespace L2
open PySem PySem.Spec PyProof.Rows
end L2
set_option Elab.async false
set_option linter.all false
set_option maxRecDepth 100000
namespace L2
open PySem PySem.Spec PyProof.Rows
end L2
set_option Elab.async false
set_option linter.all false
set_option maxRecDepth 100000
namespace L2
open PySem PySem.Spec PyProof.Rows
end L2
set_option Elab.async false
set_option linter.all false
set_option maxRecDepth 100000
namespace L2
open PySem PySem.Spec PyProof.Rows
end L2
set_option Elab.async false
set_option linter.all false
set_option maxRecDepth 100000
namespace L2
open PySem PySem.Spec PyProof.Rows
end L2
set_option Elab.async false
set_option linter.all false
set_option maxRecDepth 100000
namespace L2
open PySem PySem.Spec PyProof.Rows
end L2
set_option Elab.async false
set_option linter.all false
set_option maxRecDepth 100000
namespace L2
open PySem PySem.W PySem.Spec PyProof.Rows
end L2
set_option Elab.async false
set_option linter.all false
set_option maxRecDepth 100000
namespace L2
open PySem PySem.Spec PyProof.Rows
end L2
set_option Elab.async false
set_option linter.all false
set_option maxRecDepth 100000
namespace L2
open PySem PyProof.Rows
def gallop' : Bool → Keyed → Array Keyed → Nat → Nat → Nat → StateT SortSt Sem (Option Nat) := sortPriv% PySem.Builtin.gallop
abbrev beyM (left : Bool) (key : Keyed) (arr : Array Keyed) (base i : Nat) : StateT SortSt Sem (Option Bool) := do
  let x ← elem' arr (base + i)
  if left then lt' x key else return (← lt' key x).map (!·)
theorem gallop'_eq (left : Bool) (key : Keyed) (arr : Array Keyed) (base n hint : Nat) : gallop' left key arr base n hint = (do
  let mut lastofs := 0
  let mut ofs := 1
  let mut lo := 0
  let mut hi := 0
  let some right ← beyM left key arr base hint | return none
  if right then
    let maxofs := n - hint
    for _ in [0:n] do
      if ofs ≥ maxofs then break
      let some more ← beyM left key arr base (hint + ofs) | return none
      if !more then break
      lastofs := ofs
      ofs := 2 * ofs + 1
    lo := hint + lastofs + 1
    hi := hint + min ofs maxofs
  else
    let maxofs := hint + 1
    for _ in [0:n] do
      if ofs ≥ maxofs then break
      let some found ← beyM left key arr base (hint - ofs) | return none
      if found then break
      lastofs := ofs
      ofs := 2 * ofs + 1
    lo := hint + 1 - min ofs maxofs
    hi := hint - lastofs
  for _ in [0:n] do
    if lo ≥ hi then break
    let m := lo + (hi - lo) / 2
    let some more ← beyM left key arr base m | return none
    if more then lo := m + 1 else hi := m
  return some hi) := rfl
abbrev kyd : Keyed := (Value.none, Value.none)
structure Cmp (prog : Program) (w : World) (A : Around) (E : Value → Shared → Prop) (s : Shared) (κ : SortKind) (P : Keyed → Prop) (L : Keyed → Keyed → Bool) : Prop where
  ask : ∀ x y, P x → P y → ∀ (st : SortSt) (Q : Option Bool → SortSt → Prop), kindOf st = κ → Q (some (L x y)) st → wpS (model prog w) A E s (lt' x y) Q st
  tr : ∀ x y z, P x → P y → P z → L y x = false → L z y = false → L z x = false
  as : ∀ x y, L x y = true → L y x = false
section
variable {prog : Program} {w : World} {A : Around} {E : Value → Shared → Prop} {s : Shared} {κ : SortKind} {P : Keyed → Prop} {L : Keyed → Keyed → Bool}
theorem wpS_elem {arr : Array Keyed} {i : Nat} {Q : Keyed → SortSt → Prop} {st : SortSt} (hi : i < arr.size) (h : Q (arr.getD i kyd) st) : wpS (model prog w) A E s (elem' arr i) Q st := by
  rw [elem'_eq, Array.getElem?_eq_getElem hi]
  refine wpS_pure ?_
  have : arr.getD i kyd = arr[i] := by simp [Array.getD, hi]
  rw [← this]; exact h
def beyB (L : Keyed → Keyed → Bool) (left : Bool) (key : Keyed) (arr : Array Keyed) (base i : Nat) : Bool := if left then L (arr.getD (base + i) kyd) key else !(L key (arr.getD (base + i) kyd))
theorem wpS_bey (C : Cmp prog w A E s κ P L) {left : Bool} {key : Keyed} {arr : Array Keyed} {base i : Nat} {st : SortSt} {Q : Option Bool → SortSt → Prop} (hk : kindOf st = κ) (hkey : P key) (hi : base + i < arr.size) (hP : P (arr.getD (base + i) kyd))
    (h : Q (some (beyB L left key arr base i)) st) : wpS (model prog w) A E s (beyM left key arr base i) Q st := by
  unfold beyM
  refine wpS_bind (wpS_elem hi ?_)
  unfold beyB at h
  cases left with
  | true => rw [if_pos rfl] at h ⊢; exact C.ask _ _ hP hkey _ _ hk h
  | false =>
    rw [if_neg (by decide)] at h ⊢
    exact wpS_bind (C.ask _ _ hkey hP _ _ hk (wpS_pure h))
def Seg (L : Keyed → Keyed → Bool) (arr : Array Keyed) (lo hi : Nat) : Prop := ∀ i j, lo ≤ i → i ≤ j → j < hi → L (arr.getD j kyd) (arr.getD i kyd) = false
theorem bey_mono (C : Cmp prog w A E s κ P L) {left : Bool} {key : Keyed} {arr : Array Keyed} {base n : Nat} (hkey : P key) (hP : ∀ i, i < n → P (arr.getD (base + i) kyd)) (hS : Seg L arr base (base + n)) {i j : Nat} (hij : i ≤ j) (hj : j < n)
    (h : beyB L left key arr base j = true) : beyB L left key arr base i = true := by
  unfold beyB at h ⊢
  have e := hS (base + i) (base + j) (by omega) (by omega) (by omega)
  cases left with
  | true =>
    rw [if_pos rfl] at h ⊢
    cases q : L (arr.getD (base + i) kyd) key with
    | true => rfl
    | false =>
      have := C.tr _ _ _ hkey (hP i (by omega)) (hP j hj) q e
      rw [this] at h; cases h
  | false =>
    rw [if_neg (by decide)] at h ⊢
    rw [Bool.not_eq_true'] at h ⊢
    exact C.tr _ _ _ (hP i (by omega)) (hP j hj) hkey e h
structure Cut (b : Nat → Bool) (n k : Nat) : Prop where
  leq : k ≤ n
  lo : ∀ i, i < k → b i = true
  hi : ∀ i, k ≤ i → i < n → b i = false
theorem wpS_gallop (C : Cmp prog w A E s κ P L) {left : Bool} {key : Keyed} {arr : Array Keyed} {base n hint : Nat} {st : SortSt} {Q : Option Nat → SortSt → Prop} (hk : kindOf st = κ) (hkey : P key) (hz : base + n ≤ arr.size) (hh : hint < n)
    (hP : ∀ i, i < n → P (arr.getD (base + i) kyd)) (hS : Seg L arr base (base + n)) (h : ∀ k, Cut (beyB L left key arr base) n k → Q (some k) st) : wpS (model prog w) A E s (gallop' left key arr base n hint) Q st := by
  rw [gallop'_eq]
  have mono := fun {i j : Nat} (hij : i ≤ j) (hj : j < n) => bey_mono C (left := left) hkey hP hS hij hj
  have askB : ∀ i, i < n → ∀ (R : Option Bool → SortSt → Prop), R (some (beyB L left key arr base i)) st → wpS (model prog w) A E s (beyM left key arr base i) R st := fun i hi R hR => wpS_bey C hk hkey (by omega) (hP i hi) hR
  generalize hb : beyB L left key arr base = b at mono askB h
  have second : ∀ (f : Nat → Option (Option Nat) × Nat × Nat → StateT SortSt Sem (ForInStep (Option (Option Nat) × Nat × Nat))) (lo hi : Nat) (R' : Option (Option Nat) × Nat × Nat → SortSt → Prop),
      (∀ x l u (R : ForInStep (Option (Option Nat) × Nat × Nat) → SortSt → Prop), l ≥ u → R (.done (none, l, u)) st → wpS (model prog w) A E s (f x (none, l, u)) R st) →
      (∀ x l u (R : ForInStep (Option (Option Nat) × Nat × Nat) → SortSt → Prop), ¬ l ≥ u → u ≤ n → (b (l + (u - l) / 2) = true → R (.yield (none, l + (u - l) / 2 + 1, u)) st) → (b (l + (u - l) / 2) = false → R (.yield (none, l, l + (u - l) / 2)) st) → wpS (model prog w) A E s (f x (none, l, u)) R st) →
      lo ≤ hi → hi ≤ n → (∀ i, i < lo → b i = true) → (∀ i, hi ≤ i → i < n → b i = false) → (∀ l, Cut b n l → R' (none, l, l) st) → wpS (model prog w) A E s (forIn [0:n] ((none, lo, hi) : Option (Option Nat) × Nat × Nat) f) R' st := fun f lo hi R' f1 f2 h1 h2 h3 h4 k => by
    refine wpS_mono (wpS_forRange
      (I := fun x c st' => st' = st ∧ ∃ l u, c = (none, l, u) ∧ l ≤ u ∧ u ≤ n ∧ (∀ i, i < l → b i = true) ∧ (∀ i, u ≤ i → i < n → b i = false) ∧ u - l ≤ n - x)
      (Q := fun c st' => st' = st ∧ ∃ l, c = (none, l, l) ∧ l ≤ n ∧ (∀ i, i < l → b i = true) ∧ (∀ i, l ≤ i → i < n → b i = false)) ?_ ?_ ⟨rfl, lo, hi, rfl, h1, h2, h3, h4, by omega⟩) ?_
    · rintro x c st' _ hx ⟨rfl, l, u, rfl, a1, a2, a3, a4, a5⟩
      by_cases hc : l ≥ u
      · refine f1 x l u _ hc ?_
        have : l = u := by omega
        subst this
        exact ⟨rfl, l, rfl, a2, a3, a4⟩
      · refine f2 x l u _ hc a2 (fun e => ?_) fun e => ?_
        · refine ⟨rfl, _, _, rfl, by omega, a2, fun i hi => ?_, a4, by omega⟩
          exact mono (show i ≤ l + (u - l) / 2 by omega) (by omega) e
        · refine ⟨rfl, _, _, rfl, by omega, by omega, a3, fun i hi hn => ?_, by omega⟩
          cases q : b i with
          | false => rfl
          | true => have := mono hi hn q; rw [e] at this; cases this
    · rintro c st' ⟨rfl, l, u, rfl, a1, a2, a3, a4, a5⟩
      have : l = u := by omega
      subst this
      exact ⟨rfl, l, rfl, a2, a3, a4⟩
    · rintro c st' ⟨rfl, l, rfl, a1, a2, a3⟩
      exact k l ⟨a1, a2, a3⟩
  refine wpS_bind (askB hint hh _ ?_)
  dsimp only
  cases e : b hint with
  | true =>
    rw [if_pos rfl]
    refine wpS_bind (wpS_mono (wpS_forRange
      (I := fun x c st' => st' = st ∧ ∃ l o, c = (none, l, o) ∧ l < o ∧ hint + l < n ∧ b (hint + l) = true ∧ x + 1 ≤ o)
      (Q := fun c st' => st' = st ∧ ∃ l o, c = (none, l, o) ∧ l < o ∧ hint + l < n ∧ b (hint + l) = true ∧ (o ≥ n - hint ∨ b (hint + o) = false)) ?_ ?_ ⟨rfl, 0, 1, rfl, by omega, by omega, e, by omega⟩) ?_)
    · rintro x c st' _ hx ⟨rfl, l, o, rfl, a1, a2, a3, a4⟩
      dsimp only
      by_cases hc : o ≥ n - hint
      · rw [if_pos hc]; exact wpS_pure ⟨rfl, l, o, rfl, a1, a2, a3, .inl hc⟩
      · rw [if_neg hc]
        refine wpS_bind (askB _ (by omega) _ ?_)
        dsimp only
        cases e2 : b (hint + o) with
        | false => exact wpS_pure ⟨rfl, l, o, rfl, a1, a2, a3, .inr e2⟩
        | true => exact wpS_pure ⟨rfl, o, _, rfl, by omega, by omega, e2, by omega⟩
    · rintro c st' ⟨rfl, l, o, rfl, a1, a2, a3, a4⟩
      exact ⟨rfl, l, o, rfl, a1, a2, a3, .inl (by omega)⟩
    · rintro c st' ⟨rfl, l, o, rfl, a1, a2, a3, a4⟩
      dsimp only
      refine wpS_bind (second _ (hint + l + 1) (hint + min o (n - hint)) _ (fun x l u R hc hR => by
        dsimp only; rw [if_pos hc]; exact wpS_pure hR) (fun x l u R hc hu r1 r2 => by
        dsimp only; rw [if_neg hc]
        refine wpS_bind (askB _ (by omega) _ ?_)
        dsimp only
        cases e9 : b (l + (u - l) / 2) with
        | true => rw [if_pos rfl]; exact wpS_pure (r1 e9)
        | false => rw [if_neg (by decide)]; exact wpS_pure (r2 e9)) (by omega) (by omega) (fun i hi => mono (show i ≤ hint + l by omega) a2 a3) (fun i hi hn => ?_) fun k hk => wpS_pure (h k hk))
      rcases a4 with a4 | a4
      · omega
      · cases q : b i with
        | false => rfl
        | true =>
          by_cases h9 : hint + o ≤ i
          · have := mono h9 hn q; rw [a4] at this; cases this
          · omega
  | false =>
    rw [if_neg (by decide)]
    refine wpS_bind (wpS_mono (wpS_forRange
      (I := fun x c st' => st' = st ∧ ∃ l o, c = (none, l, o) ∧ l < o ∧ l ≤ hint ∧ b (hint - l) = false ∧ x + 1 ≤ o)
      (Q := fun c st' => st' = st ∧ ∃ l o, c = (none, l, o) ∧ l < o ∧ l ≤ hint ∧ b (hint - l) = false ∧ (o ≥ hint + 1 ∨ b (hint - o) = true)) ?_ ?_ ⟨rfl, 0, 1, rfl, by omega, by omega, e, by omega⟩) ?_)
    · rintro x c st' _ hx ⟨rfl, l, o, rfl, a1, a2, a3, a4⟩
      dsimp only
      by_cases hc : o ≥ hint + 1
      · rw [if_pos hc]; exact wpS_pure ⟨rfl, l, o, rfl, a1, a2, a3, .inl hc⟩
      · rw [if_neg hc]
        refine wpS_bind (askB _ (by omega) _ ?_)
        dsimp only
        cases e2 : b (hint - o) with
        | true => exact wpS_pure ⟨rfl, l, o, rfl, a1, a2, a3, .inr e2⟩
        | false => exact wpS_pure ⟨rfl, o, _, rfl, by omega, by omega, e2, by omega⟩
    · rintro c st' ⟨rfl, l, o, rfl, a1, a2, a3, a4⟩
      exact ⟨rfl, l, o, rfl, a1, a2, a3, .inl (by omega)⟩
    · rintro c st' ⟨rfl, l, o, rfl, a1, a2, a3, a4⟩
      dsimp only
      refine wpS_bind (second _ (hint + 1 - min o (hint + 1)) (hint - l) _ (fun x l u R hc hR => by
        dsimp only; rw [if_pos hc]; exact wpS_pure hR) (fun x l u R hc hu r1 r2 => by
        dsimp only; rw [if_neg hc]
        refine wpS_bind (askB _ (by omega) _ ?_)
        dsimp only
        cases e9 : b (l + (u - l) / 2) with
        | true => rw [if_pos rfl]; exact wpS_pure (r1 e9)
        | false => rw [if_neg (by decide)]; exact wpS_pure (r2 e9)) (by omega) (by omega) (fun i hi => ?_) (fun i hi hn => ?_) fun k hk => wpS_pure (h k hk))
      · rcases a4 with a4 | a4
        · omega
        · by_cases h9 : o ≥ hint + 1
          · omega
          · exact mono (show i ≤ hint - o by omega) (by omega) a4
      · cases q : b i with
        | false => rfl
        | true => have := mono hi hn q; rw [a3] at this; cases this
end
end L2
set_option Elab.async false
set_option linter.all false
set_option maxRecDepth 100000
namespace L2
open PySem PyProof.Rows
def mergeLo' : Array Keyed → Array Keyed → StateT SortSt Sem (Array Keyed) := sortPriv% PySem.Builtin.mergeLo
def mergeHi' : Array Keyed → Array Keyed → StateT SortSt Sem (Array Keyed) := sortPriv% PySem.Builtin.mergeHi
abbrev setGallop (st : SortSt) (g : Nat) : SortSt := SortSt.mk' (kindOf st) (arrOf st) (pendingOf st) g (failedOf st)
theorem mergeLo'_eq (a b : Array Keyed) : mergeLo' a b = (do
  rule "list.sort.merge-lo"
  let total := a.size + b.size
  let done (out : Array Keyed) (ia ib : Nat) := out ++ a.extract ia a.size ++ b.extract ib b.size
  let lastOfA (out : Array Keyed) (ia ib : Nat) := out ++ b.extract ib b.size ++ a.extract ia a.size
  let mut out : Array Keyed := #[← elem' b 0]
  let mut ia := 0
  let mut ib := 1
  if ib == b.size then return done out ia ib
  if ia + 1 == a.size then return lastOfA out ia ib
  let mut minGallop := gallopOf (← get)
  for _ in [0:total] do
    let mut acount := 0
    let mut bcount := 0
    for _ in [0:total] do
      let some bWins ← lt' (← elem' b ib) (← elem' a ia) | return done out ia ib
      if bWins then
        out := out.push (← elem' b ib); ib := ib + 1; bcount := bcount + 1; acount := 0
        if ib == b.size then return done out ia ib
        if bcount ≥ minGallop then break
      else
        out := out.push (← elem' a ia); ia := ia + 1; acount := acount + 1; bcount := 0
        if ia + 1 == a.size then return lastOfA out ia ib
        if acount ≥ minGallop then break
    rule "list.sort.gallop"
    minGallop := minGallop + 1
    for _ in [0:total] do
      if minGallop > 1 then minGallop := minGallop - 1
      modify fun s => setGallop s minGallop
      let some k ← gallop' false (← elem' b ib) a ia (a.size - ia) 0 | return done out ia ib
      acount := k
      if k > 0 then
        out := out ++ a.extract ia (ia + k); ia := ia + k
        if ia + 1 == a.size then return lastOfA out ia ib
        if ia == a.size then return done out ia ib
      out := out.push (← elem' b ib); ib := ib + 1
      if ib == b.size then return done out ia ib
      let some k ← gallop' true (← elem' a ia) b ib (b.size - ib) 0 | return done out ia ib
      bcount := k
      if k > 0 then
        out := out ++ b.extract ib (ib + k); ib := ib + k
        if ib == b.size then return done out ia ib
      out := out.push (← elem' a ia); ia := ia + 1
      if ia + 1 == a.size then return lastOfA out ia ib
      if acount < 7 && bcount < 7 then break
    minGallop := minGallop + 1
    modify fun s => setGallop s minGallop
  unsupported "internal:list.sort.merge-bound") := rfl
section
variable {L : Keyed → Keyed → Bool} {P : Keyed → Prop}
abbrev leq (L : Keyed → Keyed → Bool) (x y : Keyed) : Prop := L y x = false
structure MJ (L : Keyed → Keyed → Bool) (A B : List Keyed) (out : List Keyed) (ia ib : Nat) : Prop where
  pm : out.Perm (A.take ia ++ B.take ib)
  so : out.Pairwise (leq L)
  up : ∀ x ∈ out, ∀ y ∈ A.drop ia ++ B.drop ib, leq L x y
structure MG (L : Keyed → Keyed → Bool) (A B : List Keyed) (out : List Keyed) : Prop where
  pm : out.Perm (A ++ B)
  so : out.Pairwise (leq L)
theorem take_more (A : List Keyed) (i k : Nat) : A.take (i + k) = A.take i ++ (A.drop i).take k := by rw [List.take_add]
theorem drop_mem {A : List Keyed} {i k : Nat} {y : Keyed} (h : y ∈ A.drop (i + k)) : y ∈ A.drop i := by
  rw [← List.drop_drop] at h; exact List.mem_of_mem_drop h
theorem so_parts {A : List Keyed} (h : A.Pairwise (leq L)) (i k : Nat) : ((A.drop i).take k).Pairwise (leq L) ∧ ∀ x ∈ (A.drop i).take k, ∀ y ∈ A.drop (i + k), leq L x y := by
  have h2 : (A.drop i).Pairwise (leq L) := List.Pairwise.sublist (List.drop_sublist i A) h
  rw [← List.take_append_drop k (A.drop i), List.pairwise_append] at h2
  refine ⟨h2.1, fun x hx y hy => h2.2.2 x hx y ?_⟩
  rw [List.drop_drop]; exact hy
theorem MJ.takeA {A B out : List Keyed} {ia ib k : Nat} (h : MJ L A B out ia ib) (hA : A.Pairwise (leq L)) (hb : ∀ x ∈ (A.drop ia).take k, ∀ y ∈ B.drop ib, leq L x y) : MJ L A B (out ++ (A.drop ia).take k) (ia + k) ib := by
  have ⟨s1, s2⟩ := so_parts hA ia k
  refine ⟨?_, ?_, ?_⟩
  · rw [take_more]
    refine (List.Perm.append_right _ h.pm).trans ?_
    rw [List.append_assoc, List.append_assoc]
    exact List.Perm.append_left _ List.perm_append_comm
  · rw [List.pairwise_append]
    exact ⟨h.so, s1, fun x hx y hy => h.up x hx y (List.mem_append_left _ (List.mem_of_mem_take hy))⟩
  · intro x hx y hy
    rcases List.mem_append.mp hy with hy | hy
    · rcases List.mem_append.mp hx with hx | hx
      · exact h.up x hx y (List.mem_append_left _ (drop_mem hy))
      · exact s2 x hx y hy
    · rcases List.mem_append.mp hx with hx | hx
      · exact h.up x hx y (List.mem_append_right _ hy)
      · exact hb x hx y hy
theorem MJ.takeB {A B out : List Keyed} {ia ib k : Nat} (h : MJ L A B out ia ib) (hB : B.Pairwise (leq L)) (ha : ∀ x ∈ (B.drop ib).take k, ∀ y ∈ A.drop ia, leq L x y) : MJ L A B (out ++ (B.drop ib).take k) ia (ib + k) := by
  have ⟨s1, s2⟩ := so_parts hB ib k
  refine ⟨?_, ?_, ?_⟩
  · rw [take_more, ← List.append_assoc]
    exact List.Perm.append_right _ h.pm
  · rw [List.pairwise_append]
    exact ⟨h.so, s1, fun x hx y hy => h.up x hx y (List.mem_append_right _ (List.mem_of_mem_take hy))⟩
  · intro x hx y hy
    rcases List.mem_append.mp hy with hy | hy
    · rcases List.mem_append.mp hx with hx | hx
      · exact h.up x hx y (List.mem_append_left _ hy)
      · exact ha x hx y hy
    · rcases List.mem_append.mp hx with hx | hx
      · exact h.up x hx y (List.mem_append_right _ (drop_mem hy))
      · exact s2 x hx y hy
theorem MJ.fin {A B out : List Keyed} {ia ib : Nat} (h : MJ L A B out ia ib) (hA : A.Pairwise (leq L)) (hB : B.Pairwise (leq L)) (hab : ∀ x ∈ A.drop ia, ∀ y ∈ B.drop ib, leq L x y) : MG L A B (out ++ A.drop ia ++ B.drop ib) := by
  refine ⟨?_, ?_⟩
  · have : (out ++ A.drop ia ++ B.drop ib).Perm ((A.take ia ++ A.drop ia) ++ (B.take ib ++ B.drop ib)) := by
      refine (List.Perm.append_right _ (List.Perm.append_right _ h.pm)).trans ?_
      rw [List.append_assoc, List.append_assoc, List.append_assoc]
      refine List.Perm.append_left _ ?_
      rw [← List.append_assoc, ← List.append_assoc]
      exact List.Perm.append_right _ List.perm_append_comm
    rw [List.take_append_drop, List.take_append_drop] at this
    exact this
  · rw [List.pairwise_append, List.pairwise_append]
    refine ⟨⟨h.so, List.Pairwise.sublist (List.drop_sublist _ _) hA, fun x hx y hy => h.up x hx y (List.mem_append_left _ hy)⟩, List.Pairwise.sublist (List.drop_sublist _ _) hB, fun x hx y hy => ?_⟩
    rcases List.mem_append.mp hx with hx | hx
    · exact h.up x hx y (List.mem_append_right _ hy)
    · exact hab x hx y hy
theorem MJ.fin2 {A B out : List Keyed} {ia ib : Nat} (h : MJ L A B out ia ib) (hA : A.Pairwise (leq L)) (hB : B.Pairwise (leq L)) (hab : ∀ y ∈ B.drop ib, ∀ x ∈ A.drop ia, leq L y x) : MG L A B (out ++ B.drop ib ++ A.drop ia) := by
  refine ⟨?_, ?_⟩
  · have := (MJ.fin (L := fun _ _ => false) ⟨h.pm, List.Pairwise.imp (fun _ => rfl) h.so, fun _ _ _ _ => rfl⟩ (List.Pairwise.imp (fun _ => rfl) hA) (List.Pairwise.imp (fun _ => rfl) hB) fun _ _ _ _ => rfl).pm
    refine List.Perm.trans ?_ this
    rw [List.append_assoc, List.append_assoc]
    exact List.Perm.append_left _ List.perm_append_comm
  · rw [List.pairwise_append, List.pairwise_append]
    refine ⟨⟨h.so, List.Pairwise.sublist (List.drop_sublist _ _) hB, fun x hx y hy => h.up x hx y (List.mem_append_right _ hy)⟩, List.Pairwise.sublist (List.drop_sublist _ _) hA, fun x hx y hy => ?_⟩
    rcases List.mem_append.mp hx with hx | hx
    · exact h.up x hx y (List.mem_append_left _ hy)
    · exact hab x hx y hy
theorem ext_list (a : Array Keyed) (i j : Nat) : (a.extract i j).toList = (a.toList.drop i).take (j - i) := by
  rw [Array.toList_extract, List.extract_eq_drop_take]
theorem ext_all (a : Array Keyed) (i : Nat) : (a.extract i a.size).toList = a.toList.drop i := by
  rw [ext_list, List.take_of_length_le (by simp)]
theorem one_at (a : Array Keyed) {i : Nat} (h : i < a.size) : (a.toList.drop i).take 1 = [a.getD i kyd] := by
  have e : a.getD i kyd = a.toList[i]'(by simpa using h) := by simp [Array.getD, h]
  rw [e, List.drop_eq_getElem_cons (by simpa using h)]; rfl
theorem drop_at {a : Array Keyed} {i : Nat} {y : Keyed} (h : y ∈ a.toList.drop i) : ∃ j, i ≤ j ∧ j < a.size ∧ y = a.getD j kyd := by
  obtain ⟨j, hj, e⟩ := List.getElem_of_mem h
  rw [List.getElem_drop] at e
  have hl : i + j < a.size := by simp at hj; omega
  exact ⟨i + j, by omega, hl, by rw [← e]; simp [Array.getD, hl]⟩
theorem take_at {a : Array Keyed} {i k : Nat} {y : Keyed} (h : y ∈ (a.toList.drop i).take k) : ∃ j, j < k ∧ i + j < a.size ∧ y = a.getD (i + j) kyd := by
  obtain ⟨j, hj, e⟩ := List.getElem_of_mem h
  rw [List.getElem_take, List.getElem_drop] at e
  have hj2 : j < k ∧ j < a.size - i := by simpa [Nat.lt_min] using hj
  have hl : i + j < a.size := by omega
  exact ⟨j, hj2.1, hl, by rw [← e]; simp [Array.getD, hl]⟩
theorem seg_of {a : Array Keyed} (h : a.toList.Pairwise (leq L)) (rf : ∀ x, L x x = false) : Seg L a 0 a.size := fun i j _ hij hj => by
  by_cases e : i = j
  · subst e; exact rf _
  · have := List.pairwise_iff_getElem.mp h i j (by simpa using (show i < a.size by omega)) (by simpa using hj) (by omega)
    have hi : i < a.size := by omega
    simpa [Array.getD, hi, hj] using this
end
end L2
set_option Elab.async false
set_option linter.all false
set_option maxRecDepth 100000
set_option maxHeartbeats 1000000
namespace L2
open PySem PyProof.Rows
section
variable {prog : Program} {w : World} {A : Around} {E : Value → Shared → Prop} {s : Shared} {κ : SortKind} {P : Keyed → Prop} {L : Keyed → Keyed → Bool}
theorem Cmp.rf (C : Cmp prog w A E s κ P L) (x : Keyed) : L x x = false := by
  cases h : L x x with
  | false => rfl
  | true => have := C.as _ _ h; rw [h] at this; exact this
structure TwoR (P : Keyed → Prop) (L : Keyed → Keyed → Bool) (a b : Array Keyed) : Prop where
  sa : a.toList.Pairwise (leq L)
  sb : b.toList.Pairwise (leq L)
  pa : ∀ i, i < a.size → P (a.getD i kyd)
  pb : ∀ i, i < b.size → P (b.getD i kyd)
  na : 1 ≤ a.size
  nb : 1 ≤ b.size
  first : ∀ i, i < a.size → L (b.getD 0 kyd) (a.getD i kyd) = true
  last : ∀ j, j < b.size → L (b.getD j kyd) (a.getD (a.size - 1) kyd) = true
variable {a b : Array Keyed}
structure MI (L : Keyed → Keyed → Bool) (a b out : Array Keyed) (ia ib : Nat) : Prop where
  j : MJ L a.toList b.toList out.toList ia ib
  ha : ia + 1 < a.size
  hb : ib < b.size
theorem mj_done (T : TwoR P L a b) {out : Array Keyed} {ia ib : Nat} (h : MJ L a.toList b.toList out.toList ia ib) (e : a.size ≤ ia ∨ b.size ≤ ib) : MG L a.toList b.toList (out ++ a.extract ia a.size ++ b.extract ib b.size).toList := by
  rw [Array.toList_append, Array.toList_append, ext_all, ext_all]
  refine h.fin T.sa T.sb fun x hx y hy => ?_
  obtain ⟨i, h1, h2, _⟩ := drop_at hx
  obtain ⟨j, h3, h4, _⟩ := drop_at hy
  omega
theorem mj_last (C : Cmp prog w A E s κ P L) (T : TwoR P L a b) {out : Array Keyed} {ia ib : Nat} (h : MJ L a.toList b.toList out.toList ia ib) (e : ia + 1 = a.size) : MG L a.toList b.toList (out ++ b.extract ib b.size ++ a.extract ia a.size).toList := by
  rw [Array.toList_append, Array.toList_append, ext_all, ext_all]
  refine h.fin2 T.sa T.sb fun y hy x hx => ?_
  obtain ⟨i, h1, h2, rfl⟩ := drop_at hx
  obtain ⟨j, h3, h4, rfl⟩ := drop_at hy
  have := T.last j h4
  rw [show a.size - 1 = i by omega] at this
  exact C.as _ _ this
theorem mj_pushA (T : TwoR P L a b) {out : Array Keyed} {ia ib : Nat} (h : MJ L a.toList b.toList out.toList ia ib) (hi : ia < a.size) (q : ∀ j, ib ≤ j → j < b.size → leq L (a.getD ia kyd) (b.getD j kyd)) : MJ L a.toList b.toList (out.push (a.getD ia kyd)).toList (ia + 1) ib := by
  have := h.takeA (k := 1) T.sa (by
    rw [one_at a hi]
    intro x hx y hy
    rw [List.mem_singleton] at hx
    subst hx
    obtain ⟨j, h3, h4, rfl⟩ := drop_at hy
    exact q j h3 h4)
  rw [one_at a hi] at this
  rw [Array.toList_push]; exact this
theorem mj_pushB (T : TwoR P L a b) {out : Array Keyed} {ia ib : Nat} (h : MJ L a.toList b.toList out.toList ia ib) (hi : ib < b.size) (q : ∀ j, ia ≤ j → j < a.size → leq L (b.getD ib kyd) (a.getD j kyd)) : MJ L a.toList b.toList (out.push (b.getD ib kyd)).toList ia (ib + 1) := by
  have := h.takeB (k := 1) T.sb (by
    rw [one_at b hi]
    intro x hx y hy
    rw [List.mem_singleton] at hx
    subst hx
    obtain ⟨j, h3, h4, rfl⟩ := drop_at hy
    exact q j h3 h4)
  rw [one_at b hi] at this
  rw [Array.toList_push]; exact this
theorem mj_manyA (T : TwoR P L a b) {out : Array Keyed} {ia ib k : Nat} (h : MJ L a.toList b.toList out.toList ia ib) (q : ∀ i, i < k → ia + i < a.size → ∀ j, ib ≤ j → j < b.size → leq L (a.getD (ia + i) kyd) (b.getD j kyd)) : MJ L a.toList b.toList (out ++ a.extract ia (ia + k)).toList (ia + k) ib := by
  rw [Array.toList_append, ext_list, Nat.add_sub_cancel_left]
  refine h.takeA (k := k) T.sa fun x hx y hy => ?_
  obtain ⟨i, h1, h2, rfl⟩ := take_at hx
  obtain ⟨j, h3, h4, rfl⟩ := drop_at hy
  exact q i h1 h2 j h3 h4
theorem mj_manyB (T : TwoR P L a b) {out : Array Keyed} {ia ib k : Nat} (h : MJ L a.toList b.toList out.toList ia ib) (q : ∀ i, i < k → ib + i < b.size → ∀ j, ia ≤ j → j < a.size → leq L (b.getD (ib + i) kyd) (a.getD j kyd)) : MJ L a.toList b.toList (out ++ b.extract ib (ib + k)).toList ia (ib + k) := by
  rw [Array.toList_append, ext_list, Nat.add_sub_cancel_left]
  refine h.takeB (k := k) T.sb fun x hx y hy => ?_
  obtain ⟨i, h1, h2, rfl⟩ := take_at hx
  obtain ⟨j, h3, h4, rfl⟩ := drop_at hy
  exact q i h1 h2 j h3 h4
theorem TwoR.sa' (C : Cmp prog w A E s κ P L) (T : TwoR P L a b) {i j : Nat} (h : i ≤ j) (hj : j < a.size) : leq L (a.getD i kyd) (a.getD j kyd) := seg_of T.sa C.rf i j (Nat.zero_le _) h hj
theorem TwoR.sb' (C : Cmp prog w A E s κ P L) (T : TwoR P L a b) {i j : Nat} (h : i ≤ j) (hj : j < b.size) : leq L (b.getD i kyd) (b.getD j kyd) := seg_of T.sb C.rf i j (Nat.zero_le _) h hj
theorem TwoR.bWin (C : Cmp prog w A E s κ P L) (T : TwoR P L a b) {ia ib : Nat} (hi : ia < a.size) (hb : ib < b.size) (h : L (b.getD ib kyd) (a.getD ia kyd) = true) : ∀ j, ia ≤ j → j < a.size → leq L (b.getD ib kyd) (a.getD j kyd) := fun j h1 h2 =>
  C.tr _ _ _ (T.pb _ hb) (T.pa _ hi) (T.pa _ h2) (C.as _ _ h) (T.sa' C h1 h2)
theorem TwoR.aWin (C : Cmp prog w A E s κ P L) (T : TwoR P L a b) {ia ib : Nat} (hi : ia < a.size) (hb : ib < b.size) (h : L (b.getD ib kyd) (a.getD ia kyd) = false) : ∀ j, ib ≤ j → j < b.size → leq L (a.getD ia kyd) (b.getD j kyd) := fun j h1 h2 =>
  C.tr _ _ _ (T.pa _ hi) (T.pb _ hb) (T.pb _ h2) h (T.sb' C h1 h2)
theorem wpS_galA (C : Cmp prog w A E s κ P L) (T : TwoR P L a b) {ia ib : Nat} {st : SortSt} {Q : Option Nat → SortSt → Prop} (hk : kindOf st = κ) (hi : ia < a.size) (hb : ib < b.size)
    (h : ∀ k, ia + k < a.size → (∀ i, i < k → L (b.getD ib kyd) (a.getD (ia + i) kyd) = false) → L (b.getD ib kyd) (a.getD (ia + k) kyd) = true → Q (some k) st) : wpS (model prog w) A E s (gallop' false (b.getD ib kyd) a ia (a.size - ia) 0) Q st := by
  refine wpS_gallop C hk (T.pb _ hb) (by omega) (by omega) (fun i hi => T.pa _ (by omega)) (fun i j h1 h2 h3 => T.sa' C h2 (by omega)) fun k c => ?_
  have hl := T.last ib hb
  have hk2 : ia + k < a.size := by
    apply Nat.lt_of_not_le
    intro h9
    have := c.lo (a.size - 1 - ia) (by have := c.leq; omega)
    unfold beyB at this
    rw [if_neg (by decide), show ia + (a.size - 1 - ia) = a.size - 1 by omega, hl] at this
    cases this
  refine h k hk2 (fun i hi => ?_) ?_
  · have := c.lo i hi
    unfold beyB at this
    rw [if_neg (by decide), Bool.not_eq_true'] at this
    exact this
  · have := c.hi k (Nat.le_refl _) (by omega)
    unfold beyB at this
    rw [if_neg (by decide), Bool.not_eq_false'] at this
    exact this
theorem wpS_galB (C : Cmp prog w A E s κ P L) (T : TwoR P L a b) {ia ib : Nat} {st : SortSt} {Q : Option Nat → SortSt → Prop} (hk : kindOf st = κ) (hi : ia < a.size) (hb : ib < b.size)
    (h : ∀ k, ib + k ≤ b.size → (∀ i, i < k → L (b.getD (ib + i) kyd) (a.getD ia kyd) = true) → (ib + k < b.size → L (b.getD (ib + k) kyd) (a.getD ia kyd) = false) → Q (some k) st) : wpS (model prog w) A E s (gallop' true (a.getD ia kyd) b ib (b.size - ib) 0) Q st := by
  refine wpS_gallop C hk (T.pa _ hi) (by omega) (by omega) (fun i hi => T.pb _ (by omega)) (fun i j h1 h2 h3 => T.sb' C h2 (by omega)) fun k c => ?_
  refine h k (by have := c.leq; omega) (fun i hi => ?_) fun h9 => ?_
  · have := c.lo i hi
    unfold beyB at this
    rw [if_pos rfl] at this
    exact this
  · have := c.hi k (Nat.le_refl _) (by omega)
    unfold beyB at this
    rw [if_pos rfl] at this
    exact this
end
end L2
set_option Elab.async false
set_option linter.all false
set_option maxRecDepth 100000
set_option maxHeartbeats 2000000
namespace L2
open PySem PyProof.Rows
section
variable {prog : Program} {w : World} {A : Around} {E : Value → Shared → Prop} {s : Shared} {κ : SortKind} {P : Keyed → Prop} {L : Keyed → Keyed → Bool} {a b : Array Keyed}
theorem beq_no {x y : Nat} (h : ¬ x = y) : ¬ (x == y) = true := by simpa using h
theorem wpS_mergeLo (C : Cmp prog w A E s κ P L) (T : TwoR P L a b) {st : SortSt} {Q : Array Keyed → SortSt → Prop} (hk : kindOf st = κ)
    (h : ∀ r g, MG L a.toList b.toList r.toList → Q r (setGallop st g)) : wpS (model prog w) A E s (mergeLo' a b) Q st := by
  rw [mergeLo'_eq]
  dsimp only
  have ha := T.na
  have hb := T.nb
  refine wpS_bind (wpS_lift (wpAny_rule ⟨rfl, ?_⟩))
  refine wpS_bind (wpS_elem (by omega) ?_)
  have hst : st = setGallop st (gallopOf st) := rfl
  have J0 : MJ L a.toList b.toList (#[b.getD 0 kyd] : Array Keyed).toList 0 1 := by
    have : MJ L a.toList b.toList (#[] : Array Keyed).toList 0 0 := ⟨by simp, by simp, by simp⟩
    exact mj_pushB T this (by omega) fun j _ h2 => C.as _ _ (T.first j h2)
  by_cases e1 : 1 = b.size
  · rw [if_pos (by simpa using e1)]
    refine wpS_pure ?_
    rw [hst]
    exact h _ _ (mj_done T J0 (.inr (by omega)))
  rw [if_neg (beq_no e1)]
  by_cases e2 : 0 + 1 = a.size
  · rw [if_pos (by simpa using e2)]
    refine wpS_pure ?_
    rw [hst]
    exact h _ _ (mj_last C T J0 e2)
  rw [if_neg (beq_no e2)]
  refine wpS_bind (wpS_get ?_)
  refine wpS_bind (wpS_mono (wpS_forRange
    (I := fun x c st' => ∃ out ia ib mg g, c = (none, out, ia, ib, mg) ∧ st' = setGallop st g ∧ MI L a b out ia ib ∧ x + 1 ≤ ia + ib)
    (Q := fun c st' => ∃ r y g, c = (some r, y) ∧ st' = setGallop st g ∧ MG L a.toList b.toList r.toList) ?step ?fin ⟨_, 0, 1, _, _, rfl, hst, ⟨J0, by omega, by omega⟩, by omega⟩) ?post)
  case fin =>
    rintro c st' ⟨out, ia, ib, mg, g, rfl, rfl, M, hx⟩
    have := M.ha; have := M.hb
    omega
  case post =>
    rintro c st' ⟨r, y, g, rfl, rfl, G⟩
    exact wpS_pure (h r g G)
  case step =>
    rintro x c st' _ hx ⟨out, ia, ib, mg, g, rfl, rfl, M, hx2⟩
    dsimp only
    refine wpS_bind (wpS_mono (wpS_forRange
      (I := fun x' c st' => ∃ out' ia' ib' ac bc, c = (none, out', ia', ib', ac, bc) ∧ st' = setGallop st g ∧ MI L a b out' ia' ib' ∧ ia + ib + x' ≤ ia' + ib')
      (Q := fun c st' => st' = setGallop st g ∧ ((∃ r y, c = (some r, y) ∧ MG L a.toList b.toList r.toList) ∨ ∃ out' ia' ib' ac bc, c = (none, out', ia', ib', ac, bc) ∧ MI L a b out' ia' ib' ∧ ia + ib + 1 ≤ ia' + ib')) ?step1 ?fin1 ⟨out, ia, ib, 0, 0, rfl, rfl, M, by omega⟩) ?post1)
    case fin1 =>
      rintro c st' ⟨out', ia', ib', ac, bc, rfl, rfl, M', hx'⟩
      exact ⟨rfl, .inr ⟨_, _, _, _, _, rfl, M', by omega⟩⟩
    case step1 =>
      rintro x' c st' _ hx' ⟨out', ia', ib', ac, bc, rfl, rfl, M', hx3⟩
      have m1 := M'.ha; have m2 := M'.hb
      dsimp only
      refine wpS_bind (wpS_elem m2 (wpS_bind (wpS_elem (by omega) ?_)))
      refine wpS_bind (C.ask _ _ (T.pb _ m2) (T.pa _ (by omega)) _ _ hk ?_)
      dsimp only
      cases e : L (b.getD ib' kyd) (a.getD ia' kyd) with
      | true =>
        rw [if_pos rfl]
        refine wpS_bind (wpS_elem m2 ?_)
        have J := mj_pushB T M'.j m2 (T.bWin C (by omega) m2 e)
        by_cases e3 : ib' + 1 = b.size
        · rw [if_pos (by simpa using e3)]
          exact wpS_pure ⟨rfl, .inl ⟨_, _, rfl, mj_done T J (.inr (by omega))⟩⟩
        · rw [if_neg (beq_no e3)]
          by_cases q9 : bc + 1 ≥ mg
          · rw [if_pos q9]; exact wpS_pure ⟨rfl, .inr ⟨_, _, _, _, _, rfl, ⟨J, m1, by omega⟩, by omega⟩⟩
          · rw [if_neg q9]; exact wpS_pure ⟨_, _, _, _, _, rfl, rfl, ⟨J, m1, by omega⟩, by omega⟩
      | false =>
        rw [if_neg (by decide)]
        refine wpS_bind (wpS_elem (by omega) ?_)
        have J := mj_pushA T M'.j (by omega) (T.aWin C (by omega) m2 e)
        by_cases e3 : ia' + 1 + 1 = a.size
        · rw [if_pos (by simpa using e3)]
          exact wpS_pure ⟨rfl, .inl ⟨_, _, rfl, mj_last C T J e3⟩⟩
        · rw [if_neg (beq_no e3)]
          by_cases q9 : ac + 1 ≥ mg
          · rw [if_pos q9]; exact wpS_pure ⟨rfl, .inr ⟨_, _, _, _, _, rfl, ⟨J, by omega, m2⟩, by omega⟩⟩
          · rw [if_neg q9]; exact wpS_pure ⟨_, _, _, _, _, rfl, rfl, ⟨J, by omega, m2⟩, by omega⟩
    case post1 =>
      rintro c st' ⟨rfl, ⟨r, y, rfl, G⟩ | ⟨out1, ia1, ib1, ac, bc, rfl, M1, hx1⟩⟩
      · exact wpS_pure ⟨r, _, g, rfl, rfl, G⟩
      · dsimp only
        refine wpS_bind (wpS_lift (wpAny_rule ⟨rfl, ?_⟩))
        refine wpS_bind (wpS_mono (wpS_forRange
          (I := fun _ c st' => ∃ out' ia' ib' mg ac bc g, c = (none, out', ia', ib', mg, ac, bc) ∧ st' = setGallop st g ∧ MI L a b out' ia' ib' ∧ ia1 + ib1 ≤ ia' + ib')
          (Q := fun c st' => ∃ g, st' = setGallop st g ∧ ((∃ r y, c = (some r, y) ∧ MG L a.toList b.toList r.toList) ∨ ∃ out' ia' ib' mg ac bc, c = (none, out', ia', ib', mg, ac, bc) ∧ MI L a b out' ia' ib' ∧ ia1 + ib1 ≤ ia' + ib')) ?step2 ?fin2 ⟨out1, ia1, ib1, _, _, _, _, rfl, rfl, M1, Nat.le_refl _⟩) ?post2)
        case fin2 =>
          rintro c st' ⟨out', ia', ib', mg, ac, bc, g, rfl, rfl, M', hx'⟩
          exact ⟨g, rfl, .inr ⟨_, _, _, _, _, _, rfl, M', hx'⟩⟩
        case post2 =>
          rintro c st' ⟨g2, rfl, ⟨r, y, rfl, G⟩ | ⟨out', ia', ib', mg, ac, bc, rfl, M', hx'⟩⟩
          · exact wpS_pure ⟨r, _, g2, rfl, rfl, G⟩
          · dsimp only
            refine wpS_bind (wpS_modify ?_)
            exact wpS_pure ⟨_, _, _, _, _, rfl, rfl, M', by omega⟩
        case step2 =>
          rintro x' c st' _ hx' ⟨out', ia', ib', mg', ac', bc', g', rfl, rfl, M', hx3⟩
          have m1 := M'.ha; have m2 := M'.hb
          dsimp only
          by_cases q1 : mg' > 1
          · rw [if_pos q1]
            refine wpS_bind (wpS_modify ?_)
            refine wpS_bind (wpS_elem m2 ?_)
            refine wpS_bind (wpS_galA C T hk (by omega) m2 fun k k1 k2 k3 => ?_)
            dsimp only
            by_cases q2 : k > 0
            · rw [if_pos q2]
              have J1 := mj_manyA T M'.j (k := k) fun i hi h2 => T.aWin C (by omega) m2 (k2 i hi)
              by_cases e5 : ia' + k + 1 = a.size
              · rw [if_pos (by simpa using e5)]
                exact wpS_pure ⟨_, rfl, .inl ⟨_, _, rfl, mj_last C T J1 e5⟩⟩
              rw [if_neg (beq_no e5), if_neg (beq_no (show ¬ ia' + k = a.size by omega))]
              refine wpS_bind (wpS_elem m2 ?_)
              have J2 := mj_pushB T J1 m2 (T.bWin C (by omega) m2 k3)
              by_cases e6 : ib' + 1 = b.size
              · rw [if_pos (by simpa using e6)]
                exact wpS_pure ⟨_, rfl, .inl ⟨_, _, rfl, mj_done T J2 (.inr (by omega))⟩⟩
              rw [if_neg (beq_no e6)]
              refine wpS_bind (wpS_elem (by omega) ?_)
              refine wpS_bind (wpS_galB C T hk (by omega) (by omega) fun l l1 l2 l3 => ?_)
              dsimp only
              by_cases q3 : l > 0
              · rw [if_pos q3]
                have J3 := mj_manyB T J2 (k := l) fun i hi h2 => T.bWin C (by omega) h2 (l2 i hi)
                by_cases e7 : ib' + 1 + l = b.size
                · rw [if_pos (by simpa using e7)]
                  exact wpS_pure ⟨_, rfl, .inl ⟨_, _, rfl, mj_done T J3 (.inr (by omega))⟩⟩
                rw [if_neg (beq_no e7)]
                refine wpS_bind (wpS_elem (by omega) ?_)
                have J4 := mj_pushA T J3 (by omega) (T.aWin C (by omega) (by omega) (l3 (by omega)))
                by_cases e8 : ia' + k + 1 + 1 = a.size
                · rw [if_pos (by simpa using e8)]
                  exact wpS_pure ⟨_, rfl, .inl ⟨_, _, rfl, mj_last C T J4 e8⟩⟩
                rw [if_neg (beq_no e8)]
                by_cases q4 : (decide (k < 7) && decide (l < 7)) = true
                · rw [if_pos q4]
                  exact wpS_pure ⟨_, rfl, .inr ⟨_, _, _, _, _, _, rfl, ⟨J4, by omega, by omega⟩, by omega⟩⟩
                · rw [if_neg q4]
                  exact wpS_pure ⟨_, _, _, _, _, _, _, rfl, rfl, ⟨J4, by omega, by omega⟩, by omega⟩
              · rw [if_neg q3]
                rw [show l = 0 by omega, Nat.add_zero] at l3
                have J3 := J2
                refine wpS_bind (wpS_elem (by omega) ?_)
                have J4 := mj_pushA T J3 (by omega) (T.aWin C (by omega) (by omega) (l3 (by omega)))
                by_cases e8 : ia' + k + 1 + 1 = a.size
                · rw [if_pos (by simpa using e8)]
                  exact wpS_pure ⟨_, rfl, .inl ⟨_, _, rfl, mj_last C T J4 e8⟩⟩
                rw [if_neg (beq_no e8)]
                by_cases q4 : (decide (k < 7) && decide (l < 7)) = true
                · rw [if_pos q4]
                  exact wpS_pure ⟨_, rfl, .inr ⟨_, _, _, _, _, _, rfl, ⟨J4, by omega, by omega⟩, by omega⟩⟩
                · rw [if_neg q4]
                  exact wpS_pure ⟨_, _, _, _, _, _, _, rfl, rfl, ⟨J4, by omega, by omega⟩, by omega⟩
            · rw [if_neg q2]
              rw [show k = 0 by omega, Nat.add_zero] at k3
              have J1 := M'.j
              refine wpS_bind (wpS_elem m2 ?_)
              have J2 := mj_pushB T J1 m2 (T.bWin C (by omega) m2 k3)
              by_cases e6 : ib' + 1 = b.size
              · rw [if_pos (by simpa using e6)]
                exact wpS_pure ⟨_, rfl, .inl ⟨_, _, rfl, mj_done T J2 (.inr (by omega))⟩⟩
              rw [if_neg (beq_no e6)]
              refine wpS_bind (wpS_elem (by omega) ?_)
              refine wpS_bind (wpS_galB C T hk (by omega) (by omega) fun l l1 l2 l3 => ?_)
              dsimp only
              by_cases q3 : l > 0
              · rw [if_pos q3]
                have J3 := mj_manyB T J2 (k := l) fun i hi h2 => T.bWin C (by omega) h2 (l2 i hi)
                by_cases e7 : ib' + 1 + l = b.size
                · rw [if_pos (by simpa using e7)]
                  exact wpS_pure ⟨_, rfl, .inl ⟨_, _, rfl, mj_done T J3 (.inr (by omega))⟩⟩
                rw [if_neg (beq_no e7)]
                refine wpS_bind (wpS_elem (by omega) ?_)
                have J4 := mj_pushA T J3 (by omega) (T.aWin C (by omega) (by omega) (l3 (by omega)))
                by_cases e8 : ia' + 1 + 1 = a.size
                · rw [if_pos (by simpa using e8)]
                  exact wpS_pure ⟨_, rfl, .inl ⟨_, _, rfl, mj_last C T J4 e8⟩⟩
                rw [if_neg (beq_no e8)]
                by_cases q4 : (decide (k < 7) && decide (l < 7)) = true
                · rw [if_pos q4]
                  exact wpS_pure ⟨_, rfl, .inr ⟨_, _, _, _, _, _, rfl, ⟨J4, by omega, by omega⟩, by omega⟩⟩
                · rw [if_neg q4]
                  exact wpS_pure ⟨_, _, _, _, _, _, _, rfl, rfl, ⟨J4, by omega, by omega⟩, by omega⟩
              · rw [if_neg q3]
                rw [show l = 0 by omega, Nat.add_zero] at l3
                have J3 := J2
                refine wpS_bind (wpS_elem (by omega) ?_)
                have J4 := mj_pushA T J3 (by omega) (T.aWin C (by omega) (by omega) (l3 (by omega)))
                by_cases e8 : ia' + 1 + 1 = a.size
                · rw [if_pos (by simpa using e8)]
                  exact wpS_pure ⟨_, rfl, .inl ⟨_, _, rfl, mj_last C T J4 e8⟩⟩
                rw [if_neg (beq_no e8)]
                by_cases q4 : (decide (k < 7) && decide (l < 7)) = true
                · rw [if_pos q4]
                  exact wpS_pure ⟨_, rfl, .inr ⟨_, _, _, _, _, _, rfl, ⟨J4, by omega, by omega⟩, by omega⟩⟩
                · rw [if_neg q4]
                  exact wpS_pure ⟨_, _, _, _, _, _, _, rfl, rfl, ⟨J4, by omega, by omega⟩, by omega⟩
          · rw [if_neg q1]
            refine wpS_bind (wpS_modify ?_)
            refine wpS_bind (wpS_elem m2 ?_)
            refine wpS_bind (wpS_galA C T hk (by omega) m2 fun k k1 k2 k3 => ?_)
            dsimp only
            by_cases q2 : k > 0
            · rw [if_pos q2]
              have J1 := mj_manyA T M'.j (k := k) fun i hi h2 => T.aWin C (by omega) m2 (k2 i hi)
              by_cases e5 : ia' + k + 1 = a.size
              · rw [if_pos (by simpa using e5)]
                exact wpS_pure ⟨_, rfl, .inl ⟨_, _, rfl, mj_last C T J1 e5⟩⟩
              rw [if_neg (beq_no e5), if_neg (beq_no (show ¬ ia' + k = a.size by omega))]
              refine wpS_bind (wpS_elem m2 ?_)
              have J2 := mj_pushB T J1 m2 (T.bWin C (by omega) m2 k3)
              by_cases e6 : ib' + 1 = b.size
              · rw [if_pos (by simpa using e6)]
                exact wpS_pure ⟨_, rfl, .inl ⟨_, _, rfl, mj_done T J2 (.inr (by omega))⟩⟩
              rw [if_neg (beq_no e6)]
              refine wpS_bind (wpS_elem (by omega) ?_)
              refine wpS_bind (wpS_galB C T hk (by omega) (by omega) fun l l1 l2 l3 => ?_)
              dsimp only
              by_cases q3 : l > 0
              · rw [if_pos q3]
                have J3 := mj_manyB T J2 (k := l) fun i hi h2 => T.bWin C (by omega) h2 (l2 i hi)
                by_cases e7 : ib' + 1 + l = b.size
                · rw [if_pos (by simpa using e7)]
                  exact wpS_pure ⟨_, rfl, .inl ⟨_, _, rfl, mj_done T J3 (.inr (by omega))⟩⟩
                rw [if_neg (beq_no e7)]
                refine wpS_bind (wpS_elem (by omega) ?_)
                have J4 := mj_pushA T J3 (by omega) (T.aWin C (by omega) (by omega) (l3 (by omega)))
                by_cases e8 : ia' + k + 1 + 1 = a.size
                · rw [if_pos (by simpa using e8)]
                  exact wpS_pure ⟨_, rfl, .inl ⟨_, _, rfl, mj_last C T J4 e8⟩⟩
                rw [if_neg (beq_no e8)]
                by_cases q4 : (decide (k < 7) && decide (l < 7)) = true
                · rw [if_pos q4]
                  exact wpS_pure ⟨_, rfl, .inr ⟨_, _, _, _, _, _, rfl, ⟨J4, by omega, by omega⟩, by omega⟩⟩
                · rw [if_neg q4]
                  exact wpS_pure ⟨_, _, _, _, _, _, _, rfl, rfl, ⟨J4, by omega, by omega⟩, by omega⟩
              · rw [if_neg q3]
                rw [show l = 0 by omega, Nat.add_zero] at l3
                have J3 := J2
                refine wpS_bind (wpS_elem (by omega) ?_)
                have J4 := mj_pushA T J3 (by omega) (T.aWin C (by omega) (by omega) (l3 (by omega)))
                by_cases e8 : ia' + k + 1 + 1 = a.size
                · rw [if_pos (by simpa using e8)]
                  exact wpS_pure ⟨_, rfl, .inl ⟨_, _, rfl, mj_last C T J4 e8⟩⟩
                rw [if_neg (beq_no e8)]
                by_cases q4 : (decide (k < 7) && decide (l < 7)) = true
                · rw [if_pos q4]
                  exact wpS_pure ⟨_, rfl, .inr ⟨_, _, _, _, _, _, rfl, ⟨J4, by omega, by omega⟩, by omega⟩⟩
                · rw [if_neg q4]
                  exact wpS_pure ⟨_, _, _, _, _, _, _, rfl, rfl, ⟨J4, by omega, by omega⟩, by omega⟩
            · rw [if_neg q2]
              rw [show k = 0 by omega, Nat.add_zero] at k3
              have J1 := M'.j
              refine wpS_bind (wpS_elem m2 ?_)
              have J2 := mj_pushB T J1 m2 (T.bWin C (by omega) m2 k3)
              by_cases e6 : ib' + 1 = b.size
              · rw [if_pos (by simpa using e6)]
                exact wpS_pure ⟨_, rfl, .inl ⟨_, _, rfl, mj_done T J2 (.inr (by omega))⟩⟩
              rw [if_neg (beq_no e6)]
              refine wpS_bind (wpS_elem (by omega) ?_)
              refine wpS_bind (wpS_galB C T hk (by omega) (by omega) fun l l1 l2 l3 => ?_)
              dsimp only
              by_cases q3 : l > 0
              · rw [if_pos q3]
                have J3 := mj_manyB T J2 (k := l) fun i hi h2 => T.bWin C (by omega) h2 (l2 i hi)
                by_cases e7 : ib' + 1 + l = b.size
                · rw [if_pos (by simpa using e7)]
                  exact wpS_pure ⟨_, rfl, .inl ⟨_, _, rfl, mj_done T J3 (.inr (by omega))⟩⟩
                rw [if_neg (beq_no e7)]
                refine wpS_bind (wpS_elem (by omega) ?_)
                have J4 := mj_pushA T J3 (by omega) (T.aWin C (by omega) (by omega) (l3 (by omega)))
                by_cases e8 : ia' + 1 + 1 = a.size
                · rw [if_pos (by simpa using e8)]
                  exact wpS_pure ⟨_, rfl, .inl ⟨_, _, rfl, mj_last C T J4 e8⟩⟩
                rw [if_neg (beq_no e8)]
                by_cases q4 : (decide (k < 7) && decide (l < 7)) = true
                · rw [if_pos q4]
                  exact wpS_pure ⟨_, rfl, .inr ⟨_, _, _, _, _, _, rfl, ⟨J4, by omega, by omega⟩, by omega⟩⟩
                · rw [if_neg q4]
                  exact wpS_pure ⟨_, _, _, _, _, _, _, rfl, rfl, ⟨J4, by omega, by omega⟩, by omega⟩
              · rw [if_neg q3]
                rw [show l = 0 by omega, Nat.add_zero] at l3
                have J3 := J2
                refine wpS_bind (wpS_elem (by omega) ?_)
                have J4 := mj_pushA T J3 (by omega) (T.aWin C (by omega) (by omega) (l3 (by omega)))
                by_cases e8 : ia' + 1 + 1 = a.size
                · rw [if_pos (by simpa using e8)]
                  exact wpS_pure ⟨_, rfl, .inl ⟨_, _, rfl, mj_last C T J4 e8⟩⟩
                rw [if_neg (beq_no e8)]
                by_cases q4 : (decide (k < 7) && decide (l < 7)) = true
                · rw [if_pos q4]
                  exact wpS_pure ⟨_, rfl, .inr ⟨_, _, _, _, _, _, rfl, ⟨J4, by omega, by omega⟩, by omega⟩⟩
                · rw [if_neg q4]
                  exact wpS_pure ⟨_, _, _, _, _, _, _, rfl, rfl, ⟨J4, by omega, by omega⟩, by omega⟩
end
end L2
set_option Elab.async false
set_option linter.all false
set_option maxRecDepth 100000
set_option maxHeartbeats 2000000
namespace L2
open PySem PyProof.Rows
section
variable {L : Keyed → Keyed → Bool} {P : Keyed → Prop}
structure MH (L : Keyed → Keyed → Bool) (A B : List Keyed) (R : List Keyed) (na nb : Nat) : Prop where
  pm : R.Perm (A.drop na ++ B.drop nb)
  so : R.Pairwise (leq L)
  up : ∀ x ∈ R, ∀ y ∈ A.take na ++ B.take nb, leq L y x
theorem lo_parts {A : List Keyed} (h : A.Pairwise (leq L)) (i k : Nat) : ((A.drop i).take k).Pairwise (leq L) ∧ ∀ x ∈ (A.drop i).take k, ∀ y ∈ A.take i, leq L y x := by
  refine ⟨(so_parts h i k).1, fun x hx y hy => ?_⟩
  rw [← List.take_append_drop i A, List.pairwise_append] at h
  exact h.2.2 y hy x (List.mem_of_mem_take hx)
theorem drop_parts (A : List Keyed) (i k : Nat) : (A.drop i).take k ++ A.drop (i + k) = A.drop i := by
  rw [← List.drop_drop, List.take_append_drop]
theorem MH.takeA {A B R : List Keyed} {na nb k : Nat} (h : MH L A B R (na + k) nb) (hA : A.Pairwise (leq L)) (hb : ∀ x ∈ (A.drop na).take k, ∀ y ∈ B.take nb, leq L y x) : MH L A B ((A.drop na).take k ++ R) na nb := by
  have ⟨s1, s2⟩ := lo_parts hA na k
  refine ⟨?_, ?_, ?_⟩
  · refine (List.Perm.append_left _ h.pm).trans (List.Perm.of_eq ?_)
    rw [← List.append_assoc, drop_parts]
  · rw [List.pairwise_append]
    exact ⟨s1, h.so, fun x hx y hy => h.up y hy x (List.mem_append_left _ (by rw [take_more]; exact List.mem_append_right _ hx))⟩
  · intro x hx y hy
    rcases List.mem_append.mp hy with hy | hy
    · rcases List.mem_append.mp hx with hx | hx
      · exact s2 x hx y hy
      · exact h.up x hx y (List.mem_append_left _ (by rw [take_more]; exact List.mem_append_left _ hy))
    · rcases List.mem_append.mp hx with hx | hx
      · exact hb x hx y hy
      · exact h.up x hx y (List.mem_append_right _ hy)
theorem MH.takeB {A B R : List Keyed} {na nb k : Nat} (h : MH L A B R na (nb + k)) (hB : B.Pairwise (leq L)) (ha : ∀ x ∈ (B.drop nb).take k, ∀ y ∈ A.take na, leq L y x) : MH L A B ((B.drop nb).take k ++ R) na nb := by
  have ⟨s1, s2⟩ := lo_parts hB nb k
  refine ⟨?_, ?_, ?_⟩
  · refine (List.Perm.append_left _ h.pm).trans ?_
    rw [← List.append_assoc]
    refine (List.Perm.append_right _ List.perm_append_comm).trans (List.Perm.of_eq ?_)
    rw [List.append_assoc, drop_parts]
  · rw [List.pairwise_append]
    exact ⟨s1, h.so, fun x hx y hy => h.up y hy x (List.mem_append_right _ (by rw [take_more]; exact List.mem_append_right _ hx))⟩
  · intro x hx y hy
    rcases List.mem_append.mp hy with hy | hy
    · rcases List.mem_append.mp hx with hx | hx
      · exact ha x hx y hy
      · exact h.up x hx y (List.mem_append_left _ hy)
    · rcases List.mem_append.mp hx with hx | hx
      · exact s2 x hx y hy
      · exact h.up x hx y (List.mem_append_right _ (by rw [take_more]; exact List.mem_append_left _ hy))
theorem MH.perm {A B R : List Keyed} {na nb : Nat} (h : MH L A B R na nb) : (A.take na ++ B.take nb ++ R).Perm (A ++ B) := by
  have : (A.take na ++ B.take nb ++ R).Perm ((A.take na ++ A.drop na) ++ (B.take nb ++ B.drop nb)) := by
    refine (List.Perm.append_left _ h.pm).trans ?_
    rw [List.append_assoc, List.append_assoc]
    refine List.Perm.append_left _ ?_
    rw [← List.append_assoc, ← List.append_assoc]
    exact List.Perm.append_right _ List.perm_append_comm
  rw [List.take_append_drop, List.take_append_drop] at this
  exact this
theorem MH.fin {A B R : List Keyed} {na nb : Nat} (h : MH L A B R na nb) (hA : A.Pairwise (leq L)) (hB : B.Pairwise (leq L)) (hab : ∀ x ∈ A.take na, ∀ y ∈ B.take nb, leq L x y) : MG L A B (A.take na ++ B.take nb ++ R) := by
  refine ⟨h.perm, ?_⟩
  rw [List.pairwise_append, List.pairwise_append]
  exact ⟨⟨List.Pairwise.sublist (List.take_sublist _ _) hA, List.Pairwise.sublist (List.take_sublist _ _) hB, hab⟩, h.so, fun x hx y hy => h.up y hy x hx⟩
theorem MH.fin2 {A B R : List Keyed} {na nb : Nat} (h : MH L A B R na nb) (hA : A.Pairwise (leq L)) (hB : B.Pairwise (leq L)) (hab : ∀ y ∈ B.take nb, ∀ x ∈ A.take na, leq L y x) : MG L A B (B.take nb ++ A.take na ++ R) := by
  refine ⟨(List.Perm.append_right _ List.perm_append_comm).trans h.perm, ?_⟩
  rw [List.pairwise_append, List.pairwise_append]
  refine ⟨⟨List.Pairwise.sublist (List.take_sublist _ _) hB, List.Pairwise.sublist (List.take_sublist _ _) hA, hab⟩, h.so, fun x hx y hy => h.up y hy x ?_⟩
  rcases List.mem_append.mp hx with hx | hx
  · exact List.mem_append_right _ hx
  · exact List.mem_append_left _ hx
theorem ext_fst (a : Array Keyed) (i : Nat) : (a.extract 0 i).toList = a.toList.take i := by rw [ext_list]; simp
theorem fst_at {a : Array Keyed} {k : Nat} {y : Keyed} (h : y ∈ a.toList.take k) : ∃ j, j < k ∧ j < a.size ∧ y = a.getD j kyd := by
  have := take_at (a := a) (i := 0) (k := k) (by simpa using h)
  obtain ⟨j, h1, h2, h3⟩ := this
  rw [Nat.zero_add] at h2 h3
  exact ⟨j, h1, h2, h3⟩
end
section
variable {prog : Program} {w : World} {A : Around} {E : Value → Shared → Prop} {s : Shared} {κ : SortKind} {P : Keyed → Prop} {L : Keyed → Keyed → Bool} {a b : Array Keyed}
abbrev MR (L : Keyed → Keyed → Bool) (a b out : Array Keyed) (na nb : Nat) : Prop := MH L a.toList b.toList out.toList.reverse na nb
structure MK (L : Keyed → Keyed → Bool) (a b out : Array Keyed) (na nb : Nat) : Prop where
  j : MR L a b out na nb
  ha : 1 ≤ na
  hb : 2 ≤ nb
  la : na ≤ a.size
  lb : nb ≤ b.size
theorem mr_done (T : TwoR P L a b) {out : Array Keyed} {na nb : Nat} (h : MR L a b out na nb) (e : na = 0 ∨ nb = 0) : MG L a.toList b.toList (a.extract 0 na ++ b.extract 0 nb ++ out.reverse).toList := by
  rw [Array.toList_append, Array.toList_append, ext_fst, ext_fst, Array.toList_reverse]
  refine h.fin T.sa T.sb fun x hx y hy => ?_
  obtain ⟨i, h1, h2, _⟩ := fst_at hx
  obtain ⟨j, h3, h4, _⟩ := fst_at hy
  omega
theorem mr_first (C : Cmp prog w A E s κ P L) (T : TwoR P L a b) {out : Array Keyed} {na nb : Nat} (h : MR L a b out na nb) (e : nb = 1) : MG L a.toList b.toList (b.extract 0 nb ++ a.extract 0 na ++ out.reverse).toList := by
  rw [Array.toList_append, Array.toList_append, ext_fst, ext_fst, Array.toList_reverse]
  refine h.fin2 T.sa T.sb fun y hy x hx => ?_
  obtain ⟨i, h1, h2, rfl⟩ := fst_at hx
  obtain ⟨j, h3, h4, rfl⟩ := fst_at hy
  rw [show j = 0 by omega]
  exact C.as _ _ (T.first i h2)
theorem mr_pushA (T : TwoR P L a b) {out : Array Keyed} {na nb : Nat} (h : MR L a b out (na + 1) nb) (hi : na < a.size) (q : ∀ j, j < nb → j < b.size → leq L (b.getD j kyd) (a.getD na kyd)) : MR L a b (out.push (a.getD na kyd)) na nb := by
  have := MH.takeA (k := 1) h T.sa (by
    rw [one_at a hi]
    intro x hx y hy
    rw [List.mem_singleton] at hx
    subst hx
    obtain ⟨j, h3, h4, rfl⟩ := fst_at hy
    exact q j h3 h4)
  rw [one_at a hi] at this
  show MH L _ _ _ _ _
  rw [Array.toList_push, List.reverse_append]; exact this
theorem mr_pushB (T : TwoR P L a b) {out : Array Keyed} {na nb : Nat} (h : MR L a b out na (nb + 1)) (hi : nb < b.size) (q : ∀ j, j < na → j < a.size → leq L (a.getD j kyd) (b.getD nb kyd)) : MR L a b (out.push (b.getD nb kyd)) na nb := by
  have := MH.takeB (k := 1) h T.sb (by
    rw [one_at b hi]
    intro x hx y hy
    rw [List.mem_singleton] at hx
    subst hx
    obtain ⟨j, h3, h4, rfl⟩ := fst_at hy
    exact q j h3 h4)
  rw [one_at b hi] at this
  show MH L _ _ _ _ _
  rw [Array.toList_push, List.reverse_append]; exact this
theorem mr_manyA (T : TwoR P L a b) {out : Array Keyed} {na na' nb : Nat} (hle : na' ≤ na) (h : MR L a b out na nb) (q : ∀ i, na' ≤ i → i < na → i < a.size → ∀ j, j < nb → j < b.size → leq L (b.getD j kyd) (a.getD i kyd)) : MR L a b (out ++ (a.extract na' na).reverse) na' nb := by
  have h' : MH L a.toList b.toList out.toList.reverse (na' + (na - na')) nb := by rw [show na' + (na - na') = na by omega]; exact h
  show MH L _ _ _ _ _
  rw [Array.toList_append, Array.toList_reverse, List.reverse_append, List.reverse_reverse, ext_list]
  refine MH.takeA h' T.sa fun x hx y hy => ?_
  obtain ⟨i, h1, h2, rfl⟩ := take_at hx
  obtain ⟨j, h3, h4, rfl⟩ := fst_at hy
  exact q _ (by omega) (by omega) h2 j h3 h4
theorem mr_manyB (T : TwoR P L a b) {out : Array Keyed} {na nb nb' : Nat} (hle : nb' ≤ nb) (h : MR L a b out na nb) (q : ∀ i, nb' ≤ i → i < nb → i < b.size → ∀ j, j < na → j < a.size → leq L (a.getD j kyd) (b.getD i kyd)) : MR L a b (out ++ (b.extract nb' nb).reverse) na nb' := by
  have h' : MH L a.toList b.toList out.toList.reverse na (nb' + (nb - nb')) := by rw [show nb' + (nb - nb') = nb by omega]; exact h
  show MH L _ _ _ _ _
  rw [Array.toList_append, Array.toList_reverse, List.reverse_append, List.reverse_reverse, ext_list]
  refine MH.takeB h' T.sb fun x hx y hy => ?_
  obtain ⟨i, h1, h2, rfl⟩ := take_at hx
  obtain ⟨j, h3, h4, rfl⟩ := fst_at hy
  exact q _ (by omega) (by omega) h2 j h3 h4
theorem TwoR.aTop (C : Cmp prog w A E s κ P L) (T : TwoR P L a b) {i j : Nat} (hi : i < a.size) (hj : j < b.size) (h : L (b.getD j kyd) (a.getD i kyd) = true) : ∀ k, k ≤ j → leq L (b.getD k kyd) (a.getD i kyd) := fun k hk =>
  C.tr _ _ _ (T.pb _ (by omega)) (T.pb _ hj) (T.pa _ hi) (T.sb' C hk hj) (C.as _ _ h)
theorem TwoR.bTop (C : Cmp prog w A E s κ P L) (T : TwoR P L a b) {i j : Nat} (hi : i < a.size) (hj : j < b.size) (h : L (b.getD j kyd) (a.getD i kyd) = false) : ∀ k, k ≤ i → leq L (a.getD k kyd) (b.getD j kyd) := fun k hk =>
  C.tr _ _ _ (T.pa _ (by omega)) (T.pa _ hi) (T.pb _ hj) (T.sa' C hk hi) h
theorem wpS_galA2 (C : Cmp prog w A E s κ P L) (T : TwoR P L a b) {na j : Nat} {st : SortSt} {Q : Option Nat → SortSt → Prop} (hk : kindOf st = κ) (h1 : 1 ≤ na) (h2 : na ≤ a.size) (hb : j < b.size)
    (h : ∀ k, k ≤ na → (∀ i, i < k → L (b.getD j kyd) (a.getD i kyd) = false) → (∀ i, k ≤ i → i < na → L (b.getD j kyd) (a.getD i kyd) = true) → Q (some k) st) : wpS (model prog w) A E s (gallop' false (b.getD j kyd) a 0 na (na - 1)) Q st := by
  refine wpS_gallop C hk (T.pb _ hb) (by omega) (by omega) (fun i hi => T.pa _ (by omega)) (fun i j h1 h2 h3 => T.sa' C h2 (by omega)) fun k c => ?_
  refine h k c.leq (fun i hi => ?_) fun i hi h9 => ?_
  · have := c.lo i hi
    unfold beyB at this
    rw [if_neg (by decide), Bool.not_eq_true', Nat.zero_add] at this
    exact this
  · have := c.hi i hi h9
    unfold beyB at this
    rw [if_neg (by decide), Bool.not_eq_false', Nat.zero_add] at this
    exact this
theorem wpS_galB2 (C : Cmp prog w A E s κ P L) (T : TwoR P L a b) {nb i0 : Nat} {st : SortSt} {Q : Option Nat → SortSt → Prop} (hk : kindOf st = κ) (h1 : 1 ≤ nb) (h2 : nb ≤ b.size) (hi : i0 < a.size)
    (h : ∀ k, k ≤ nb → (∀ i, i < k → L (b.getD i kyd) (a.getD i0 kyd) = true) → (∀ i, k ≤ i → i < nb → L (b.getD i kyd) (a.getD i0 kyd) = false) → Q (some k) st) : wpS (model prog w) A E s (gallop' true (a.getD i0 kyd) b 0 nb (nb - 1)) Q st := by
  refine wpS_gallop C hk (T.pa _ hi) (by omega) (by omega) (fun i hi => T.pb _ (by omega)) (fun i j h1 h2 h3 => T.sb' C h2 (by omega)) fun k c => ?_
  refine h k c.leq (fun i hi => ?_) fun i hi h9 => ?_
  · have := c.lo i hi
    unfold beyB at this
    rw [if_pos rfl, Nat.zero_add] at this
    exact this
  · have := c.hi i hi h9
    unfold beyB at this
    rw [if_pos rfl, Nat.zero_add] at this
    exact this
theorem mergeHi'_eq (a b : Array Keyed) : mergeHi' a b = (do
  rule "list.sort.merge-hi"
  let total := a.size + b.size
  let done (out : Array Keyed) (na nb : Nat) := a.extract 0 na ++ b.extract 0 nb ++ out.reverse
  let firstOfB (out : Array Keyed) (na nb : Nat) := b.extract 0 nb ++ a.extract 0 na ++ out.reverse
  let mut na := a.size - 1
  let mut nb := b.size
  let mut out : Array Keyed := #[← elem' a na]
  if na == 0 then return done out na nb
  if nb == 1 then return firstOfB out na nb
  let mut minGallop := gallopOf (← get)
  for _ in [0:total] do
    let mut acount := 0
    let mut bcount := 0
    for _ in [0:total] do
      let some aWins ← lt' (← elem' b (nb - 1)) (← elem' a (na - 1)) | return done out na nb
      if aWins then
        na := na - 1; out := out.push (← elem' a na); acount := acount + 1; bcount := 0
        if na == 0 then return done out na nb
        if acount ≥ minGallop then break
      else
        nb := nb - 1; out := out.push (← elem' b nb); bcount := bcount + 1; acount := 0
        if nb == 1 then return firstOfB out na nb
        if bcount ≥ minGallop then break
    rule "list.sort.gallop"
    minGallop := minGallop + 1
    for _ in [0:total] do
      if minGallop > 1 then minGallop := minGallop - 1
      modify fun s => setGallop s minGallop
      let some at_ ← gallop' false (← elem' b (nb - 1)) a 0 na (na - 1) | return done out na nb
      let k := na - at_
      acount := k
      if k > 0 then
        out := out ++ (a.extract at_ na).reverse; na := at_
        if na == 0 then return done out na nb
      nb := nb - 1; out := out.push (← elem' b nb)
      if nb == 1 then return firstOfB out na nb
      let some at_ ← gallop' true (← elem' a (na - 1)) b 0 nb (nb - 1) | return done out na nb
      let k := nb - at_
      bcount := k
      if k > 0 then
        out := out ++ (b.extract at_ nb).reverse; nb := at_
        if nb == 1 then return firstOfB out na nb
        if nb == 0 then return done out na nb
      na := na - 1; out := out.push (← elem' a na)
      if na == 0 then return done out na nb
      if acount < 7 && bcount < 7 then break
    minGallop := minGallop + 1
    modify fun s => setGallop s minGallop
  unsupported "internal:list.sort.merge-bound") := rfl
end
end L2
set_option Elab.async false
set_option linter.all false
set_option maxRecDepth 100000
set_option maxHeartbeats 2000000
namespace L2
open PySem PyProof.Rows
section
variable {prog : Program} {w : World} {A : Around} {E : Value → Shared → Prop} {s : Shared} {κ : SortKind} {P : Keyed → Prop} {L : Keyed → Keyed → Bool} {a b : Array Keyed}
theorem wpS_ite {α : Type} {c : Prop} [Decidable c] {m1 m2 : StateT SortSt Sem α} {Q : α → SortSt → Prop} {st : SortSt} (h1 : wpS (model prog w) A E s m1 Q st) (h2 : wpS (model prog w) A E s m2 Q st) : wpS (model prog w) A E s (if c then m1 else m2) Q st := by
  by_cases h : c
  · rw [if_pos h]; exact h1
  · rw [if_neg h]; exact h2
theorem wpS_mergeHi (C : Cmp prog w A E s κ P L) (T : TwoR P L a b) {st : SortSt} {Q : Array Keyed → SortSt → Prop} (hk : kindOf st = κ)
    (h : ∀ r g, MG L a.toList b.toList r.toList → Q r (setGallop st g)) : wpS (model prog w) A E s (mergeHi' a b) Q st := by
  rw [mergeHi'_eq]
  dsimp only
  have ha := T.na
  have hb := T.nb
  refine wpS_bind (wpS_lift (wpAny_rule ⟨rfl, ?_⟩))
  refine wpS_bind (wpS_elem (by omega) ?_)
  have hst : st = setGallop st (gallopOf st) := rfl
  have J0 : MR L a b #[a.getD (a.size - 1) kyd] (a.size - 1) b.size := by
    have z : MR L a b #[] (a.size - 1 + 1) b.size := ⟨by rw [List.drop_eq_nil_of_le (by simp; omega), List.drop_eq_nil_of_le (by simp)]; simp, by simp, by simp⟩
    exact mr_pushA T z (by omega) fun j _ h2 => C.as _ _ (T.last j h2)
  by_cases e1 : a.size - 1 = 0
  · rw [if_pos (by simpa using e1)]
    refine wpS_pure ?_
    rw [hst]
    exact h _ _ (mr_done T J0 (.inl e1))
  rw [if_neg (beq_no e1)]
  by_cases e2 : b.size = 1
  · rw [if_pos (by simpa using e2)]
    refine wpS_pure ?_
    rw [hst]
    exact h _ _ (mr_first C T J0 e2)
  rw [if_neg (beq_no e2)]
  refine wpS_bind (wpS_get ?_)
  refine wpS_bind (wpS_mono (wpS_forRange
    (I := fun x c st' => ∃ out na nb mg g, c = (none, na, nb, out, mg) ∧ st' = setGallop st g ∧ MK L a b out na nb ∧ na + nb + x + 1 ≤ a.size + b.size)
    (Q := fun c st' => ∃ r y g, c = (some r, y) ∧ st' = setGallop st g ∧ MG L a.toList b.toList r.toList) ?step ?fin ⟨_, _, _, _, _, rfl, hst, ⟨J0, by omega, by omega, by omega, by omega⟩, by omega⟩) ?post)
  case fin =>
    rintro c st' ⟨out, na, nb, mg, g, rfl, rfl, M, hx⟩
    have := M.ha; have := M.hb
    omega
  case post =>
    rintro c st' ⟨r, y, g, rfl, rfl, G⟩
    exact wpS_pure (h r g G)
  case step =>
    rintro x c st' _ hx ⟨out, na, nb, mg, g, rfl, rfl, M, hx2⟩
    dsimp only
    refine wpS_bind (wpS_mono (wpS_forRange
      (I := fun x' c st' => ∃ out' na' nb' ac bc, c = (none, na', nb', out', ac, bc) ∧ st' = setGallop st g ∧ MK L a b out' na' nb' ∧ na' + nb' + x' ≤ na + nb)
      (Q := fun c st' => st' = setGallop st g ∧ ((∃ r y, c = (some r, y) ∧ MG L a.toList b.toList r.toList) ∨ ∃ out' na' nb' ac bc, c = (none, na', nb', out', ac, bc) ∧ MK L a b out' na' nb' ∧ na' + nb' + 1 ≤ na + nb)) ?step1 ?fin1 ⟨out, na, nb, 0, 0, rfl, rfl, M, by omega⟩) ?post1)
    case fin1 =>
      rintro c st' ⟨out', na', nb', ac, bc, rfl, rfl, M', hx'⟩
      exact ⟨rfl, .inr ⟨_, _, _, _, _, rfl, M', by omega⟩⟩
    case step1 =>
      rintro x' c st' _ hx' ⟨out', na', nb', ac, bc, rfl, rfl, M', hx3⟩
      have m1 := M'.ha; have m2 := M'.hb; have m3 := M'.la; have m4 := M'.lb
      dsimp only
      refine wpS_bind (wpS_elem (show nb' - 1 < b.size by omega) (wpS_bind (wpS_elem (show na' - 1 < a.size by omega) ?_)))
      refine wpS_bind (C.ask _ _ (T.pb _ (by omega)) (T.pa _ (by omega)) _ _ hk ?_)
      dsimp only
      cases e : L (b.getD (nb' - 1) kyd) (a.getD (na' - 1) kyd) with
      | true =>
        rw [if_pos rfl]
        refine wpS_bind (wpS_elem (show na' - 1 < a.size by omega) ?_)
        have J := mr_pushA T (na := na' - 1) (show MR L a b _ (na' - 1 + 1) _ by rw [show na' - 1 + 1 = na' by omega]; exact M'.j) (by omega) fun j h1 _ => T.aTop C (by omega) (by omega) e j (by omega)
        by_cases e3 : na' - 1 = 0
        · rw [if_pos (by simpa using e3)]
          exact wpS_pure ⟨rfl, .inl ⟨_, _, rfl, mr_done T J (.inl e3)⟩⟩
        · rw [if_neg (beq_no e3)]
          by_cases q9 : ac + 1 ≥ mg
          · rw [if_pos q9]; exact wpS_pure ⟨rfl, .inr ⟨_, _, _, _, _, rfl, ⟨J, by omega, by omega, by omega, by omega⟩, by omega⟩⟩
          · rw [if_neg q9]; exact wpS_pure ⟨_, _, _, _, _, rfl, rfl, ⟨J, by omega, by omega, by omega, by omega⟩, by omega⟩
      | false =>
        rw [if_neg (by decide)]
        refine wpS_bind (wpS_elem (show nb' - 1 < b.size by omega) ?_)
        have J := mr_pushB T (nb := nb' - 1) (show MR L a b _ _ (nb' - 1 + 1) by rw [show nb' - 1 + 1 = nb' by omega]; exact M'.j) (by omega) fun j h1 _ => T.bTop C (show na' - 1 < a.size by omega) (by omega) e j (by omega)
        by_cases e3 : nb' - 1 = 1
        · rw [if_pos (by simpa using e3)]
          exact wpS_pure ⟨rfl, .inl ⟨_, _, rfl, mr_first C T J e3⟩⟩
        · rw [if_neg (beq_no e3)]
          by_cases q9 : bc + 1 ≥ mg
          · rw [if_pos q9]; exact wpS_pure ⟨rfl, .inr ⟨_, _, _, _, _, rfl, ⟨J, by omega, by omega, by omega, by omega⟩, by omega⟩⟩
          · rw [if_neg q9]; exact wpS_pure ⟨_, _, _, _, _, rfl, rfl, ⟨J, by omega, by omega, by omega, by omega⟩, by omega⟩
    case post1 =>
      rintro c st' ⟨rfl, ⟨r, y, rfl, G⟩ | ⟨out1, na1, nb1, ac, bc, rfl, M1, hx1⟩⟩
      · exact wpS_pure ⟨r, _, g, rfl, rfl, G⟩
      · dsimp only
        refine wpS_bind (wpS_lift (wpAny_rule ⟨rfl, ?_⟩))
        refine wpS_bind (wpS_mono (wpS_forRange
          (I := fun _ c st' => ∃ out' na' nb' mg ac bc g, c = (none, na', nb', out', mg, ac, bc) ∧ st' = setGallop st g ∧ MK L a b out' na' nb' ∧ na' + nb' ≤ na1 + nb1)
          (Q := fun c st' => ∃ g, st' = setGallop st g ∧ ((∃ r y, c = (some r, y) ∧ MG L a.toList b.toList r.toList) ∨ ∃ out' na' nb' mg ac bc, c = (none, na', nb', out', mg, ac, bc) ∧ MK L a b out' na' nb' ∧ na' + nb' ≤ na1 + nb1)) ?step2 ?fin2 ⟨out1, na1, nb1, _, _, _, _, rfl, rfl, M1, Nat.le_refl _⟩) ?post2)
        case fin2 =>
          rintro c st' ⟨out', na', nb', mg, ac, bc, g, rfl, rfl, M', hx'⟩
          exact ⟨g, rfl, .inr ⟨_, _, _, _, _, _, rfl, M', hx'⟩⟩
        case post2 =>
          rintro c st' ⟨g2, rfl, ⟨r, y, rfl, G⟩ | ⟨out', na', nb', mg, ac, bc, rfl, M', hx'⟩⟩
          · exact wpS_pure ⟨r, _, g2, rfl, rfl, G⟩
          · dsimp only
            refine wpS_bind (wpS_modify ?_)
            exact wpS_pure ⟨_, _, _, _, _, rfl, rfl, M', by omega⟩
        case step2 =>
          rintro x' c st' _ hx' ⟨out', na', nb', mg', ac', bc', g', rfl, rfl, M', hx3⟩
          have m1 := M'.ha; have m2 := M'.hb; have m3 := M'.la; have m4 := M'.lb
          dsimp only
          by_cases q1 : mg' > 1
          · rw [if_pos q1]
            refine wpS_bind (wpS_modify ?_)
            refine wpS_bind (wpS_elem (show nb' - 1 < b.size by omega) ?_)
            refine wpS_bind (wpS_galA2 C T hk m1 m3 (show nb' - 1 < b.size by omega) fun p p1 p2 p3 => ?_)
            dsimp only
            by_cases q2 : na' - p > 0
            · rw [if_pos q2]
              have J1 := mr_manyA T (na' := p) p1 M'.j fun i h1 h2 h3 j h4 h5 => T.aTop C h3 (show nb' - 1 < b.size by omega) (p3 i h1 h2) j (by omega)
              by_cases e5 : p = 0
              · rw [if_pos (by simpa using e5)]
                exact wpS_pure ⟨_, rfl, .inl ⟨_, _, rfl, mr_done T J1 (.inl e5)⟩⟩
              rw [if_neg (beq_no e5)]
              have k2 : ∀ j, j < p → j < a.size → leq L (a.getD j kyd) (b.getD (nb' - 1) kyd) := fun j h1 _ => p2 j h1
              refine wpS_bind (wpS_elem (show nb' - 1 < b.size by omega) ?_)
              have J2 := mr_pushB T (nb := nb' - 1) (show MR L a b _ _ (nb' - 1 + 1) by rw [show nb' - 1 + 1 = nb' by omega]; exact J1) (by omega) k2
              by_cases e6 : nb' - 1 = 1
              · rw [if_pos (by simpa using e6)]
                exact wpS_pure ⟨_, rfl, .inl ⟨_, _, rfl, mr_first C T J2 e6⟩⟩
              rw [if_neg (beq_no e6)]
              refine wpS_bind (wpS_elem (show p - 1 < a.size by omega) ?_)
              refine wpS_bind (wpS_galB2 C T hk (by omega) (by omega) (show p - 1 < a.size by omega) fun l l1 l2 l3 => ?_)
              dsimp only
              have l0 : 1 ≤ l := by
                apply Nat.lt_of_not_le
                intro h9
                have := l3 0 (by omega) (by omega)
                rw [T.first _ (by omega)] at this
                cases this
              replace l2 : ∀ j, j < l → j < b.size → leq L (b.getD j kyd) (a.getD (p - 1) kyd) := fun j h1 _ => C.as _ _ (l2 j h1)
              by_cases q3 : nb' - 1 - l > 0
              · rw [if_pos q3]
                have J3 := mr_manyB T (nb' := l) (by omega) J2 fun i h1 h2 h3 j h4 h5 => T.bTop C (show p - 1 < a.size by omega) h3 (l3 i h1 h2) j (by omega)
                by_cases e7 : l = 1
                · rw [if_pos (by simpa using e7)]
                  exact wpS_pure ⟨_, rfl, .inl ⟨_, _, rfl, mr_first C T J3 e7⟩⟩
                rw [if_neg (beq_no e7), if_neg (beq_no (show ¬ l = 0 by omega))]
                refine wpS_bind (wpS_elem (show p - 1 < a.size by omega) ?_)
                have J4 := mr_pushA T (na := p - 1) (show MR L a b _ (p - 1 + 1) _ by rw [show p - 1 + 1 = p by omega]; exact J3) (by omega) (l2 )
                by_cases e8 : p - 1 = 0
                · rw [if_pos (by simpa using e8)]
                  exact wpS_pure ⟨_, rfl, .inl ⟨_, _, rfl, mr_done T J4 (.inl e8)⟩⟩
                rw [if_neg (beq_no e8)]
                refine wpS_ite ?_ ?_
                · exact wpS_pure ⟨_, rfl, .inr ⟨_, _, _, _, _, _, rfl, ⟨J4, by omega, by omega, by omega, by omega⟩, by omega⟩⟩
                · exact wpS_pure ⟨_, _, _, _, _, _, _, rfl, rfl, ⟨J4, by omega, by omega, by omega, by omega⟩, by omega⟩
              · rw [if_neg q3]
                have hl : l = nb' - 1 := by omega
                subst hl
                have J3 := J2
                refine wpS_bind (wpS_elem (show p - 1 < a.size by omega) ?_)
                have J4 := mr_pushA T (na := p - 1) (show MR L a b _ (p - 1 + 1) _ by rw [show p - 1 + 1 = p by omega]; exact J3) (by omega) (l2 )
                by_cases e8 : p - 1 = 0
                · rw [if_pos (by simpa using e8)]
                  exact wpS_pure ⟨_, rfl, .inl ⟨_, _, rfl, mr_done T J4 (.inl e8)⟩⟩
                rw [if_neg (beq_no e8)]
                refine wpS_ite ?_ ?_
                · exact wpS_pure ⟨_, rfl, .inr ⟨_, _, _, _, _, _, rfl, ⟨J4, by omega, by omega, by omega, by omega⟩, by omega⟩⟩
                · exact wpS_pure ⟨_, _, _, _, _, _, _, rfl, rfl, ⟨J4, by omega, by omega, by omega, by omega⟩, by omega⟩
            · rw [if_neg q2]
              have hp : p = na' := by omega
              subst hp
              have J1 := M'.j
              have k2 : ∀ j, j < p → j < a.size → leq L (a.getD j kyd) (b.getD (nb' - 1) kyd) := fun j h1 _ => p2 j h1
              refine wpS_bind (wpS_elem (show nb' - 1 < b.size by omega) ?_)
              have J2 := mr_pushB T (nb := nb' - 1) (show MR L a b _ _ (nb' - 1 + 1) by rw [show nb' - 1 + 1 = nb' by omega]; exact J1) (by omega) k2
              by_cases e6 : nb' - 1 = 1
              · rw [if_pos (by simpa using e6)]
                exact wpS_pure ⟨_, rfl, .inl ⟨_, _, rfl, mr_first C T J2 e6⟩⟩
              rw [if_neg (beq_no e6)]
              refine wpS_bind (wpS_elem (show p - 1 < a.size by omega) ?_)
              refine wpS_bind (wpS_galB2 C T hk (by omega) (by omega) (show p - 1 < a.size by omega) fun l l1 l2 l3 => ?_)
              dsimp only
              have l0 : 1 ≤ l := by
                apply Nat.lt_of_not_le
                intro h9
                have := l3 0 (by omega) (by omega)
                rw [T.first _ (by omega)] at this
                cases this
              replace l2 : ∀ j, j < l → j < b.size → leq L (b.getD j kyd) (a.getD (p - 1) kyd) := fun j h1 _ => C.as _ _ (l2 j h1)
              by_cases q3 : nb' - 1 - l > 0
              · rw [if_pos q3]
                have J3 := mr_manyB T (nb' := l) (by omega) J2 fun i h1 h2 h3 j h4 h5 => T.bTop C (show p - 1 < a.size by omega) h3 (l3 i h1 h2) j (by omega)
                by_cases e7 : l = 1
                · rw [if_pos (by simpa using e7)]
                  exact wpS_pure ⟨_, rfl, .inl ⟨_, _, rfl, mr_first C T J3 e7⟩⟩
                rw [if_neg (beq_no e7), if_neg (beq_no (show ¬ l = 0 by omega))]
                refine wpS_bind (wpS_elem (show p - 1 < a.size by omega) ?_)
                have J4 := mr_pushA T (na := p - 1) (show MR L a b _ (p - 1 + 1) _ by rw [show p - 1 + 1 = p by omega]; exact J3) (by omega) (l2 )
                by_cases e8 : p - 1 = 0
                · rw [if_pos (by simpa using e8)]
                  exact wpS_pure ⟨_, rfl, .inl ⟨_, _, rfl, mr_done T J4 (.inl e8)⟩⟩
                rw [if_neg (beq_no e8)]
                refine wpS_ite ?_ ?_
                · exact wpS_pure ⟨_, rfl, .inr ⟨_, _, _, _, _, _, rfl, ⟨J4, by omega, by omega, by omega, by omega⟩, by omega⟩⟩
                · exact wpS_pure ⟨_, _, _, _, _, _, _, rfl, rfl, ⟨J4, by omega, by omega, by omega, by omega⟩, by omega⟩
              · rw [if_neg q3]
                have hl : l = nb' - 1 := by omega
                subst hl
                have J3 := J2
                refine wpS_bind (wpS_elem (show p - 1 < a.size by omega) ?_)
                have J4 := mr_pushA T (na := p - 1) (show MR L a b _ (p - 1 + 1) _ by rw [show p - 1 + 1 = p by omega]; exact J3) (by omega) (l2 )
                by_cases e8 : p - 1 = 0
                · rw [if_pos (by simpa using e8)]
                  exact wpS_pure ⟨_, rfl, .inl ⟨_, _, rfl, mr_done T J4 (.inl e8)⟩⟩
                rw [if_neg (beq_no e8)]
                refine wpS_ite ?_ ?_
                · exact wpS_pure ⟨_, rfl, .inr ⟨_, _, _, _, _, _, rfl, ⟨J4, by omega, by omega, by omega, by omega⟩, by omega⟩⟩
                · exact wpS_pure ⟨_, _, _, _, _, _, _, rfl, rfl, ⟨J4, by omega, by omega, by omega, by omega⟩, by omega⟩
          · rw [if_neg q1]
            refine wpS_bind (wpS_modify ?_)
            refine wpS_bind (wpS_elem (show nb' - 1 < b.size by omega) ?_)
            refine wpS_bind (wpS_galA2 C T hk m1 m3 (show nb' - 1 < b.size by omega) fun p p1 p2 p3 => ?_)
            dsimp only
            by_cases q2 : na' - p > 0
            · rw [if_pos q2]
              have J1 := mr_manyA T (na' := p) p1 M'.j fun i h1 h2 h3 j h4 h5 => T.aTop C h3 (show nb' - 1 < b.size by omega) (p3 i h1 h2) j (by omega)
              by_cases e5 : p = 0
              · rw [if_pos (by simpa using e5)]
                exact wpS_pure ⟨_, rfl, .inl ⟨_, _, rfl, mr_done T J1 (.inl e5)⟩⟩
              rw [if_neg (beq_no e5)]
              have k2 : ∀ j, j < p → j < a.size → leq L (a.getD j kyd) (b.getD (nb' - 1) kyd) := fun j h1 _ => p2 j h1
              refine wpS_bind (wpS_elem (show nb' - 1 < b.size by omega) ?_)
              have J2 := mr_pushB T (nb := nb' - 1) (show MR L a b _ _ (nb' - 1 + 1) by rw [show nb' - 1 + 1 = nb' by omega]; exact J1) (by omega) k2
              by_cases e6 : nb' - 1 = 1
              · rw [if_pos (by simpa using e6)]
                exact wpS_pure ⟨_, rfl, .inl ⟨_, _, rfl, mr_first C T J2 e6⟩⟩
              rw [if_neg (beq_no e6)]
              refine wpS_bind (wpS_elem (show p - 1 < a.size by omega) ?_)
              refine wpS_bind (wpS_galB2 C T hk (by omega) (by omega) (show p - 1 < a.size by omega) fun l l1 l2 l3 => ?_)
              dsimp only
              have l0 : 1 ≤ l := by
                apply Nat.lt_of_not_le
                intro h9
                have := l3 0 (by omega) (by omega)
                rw [T.first _ (by omega)] at this
                cases this
              replace l2 : ∀ j, j < l → j < b.size → leq L (b.getD j kyd) (a.getD (p - 1) kyd) := fun j h1 _ => C.as _ _ (l2 j h1)
              by_cases q3 : nb' - 1 - l > 0
              · rw [if_pos q3]
                have J3 := mr_manyB T (nb' := l) (by omega) J2 fun i h1 h2 h3 j h4 h5 => T.bTop C (show p - 1 < a.size by omega) h3 (l3 i h1 h2) j (by omega)
                by_cases e7 : l = 1
                · rw [if_pos (by simpa using e7)]
                  exact wpS_pure ⟨_, rfl, .inl ⟨_, _, rfl, mr_first C T J3 e7⟩⟩
                rw [if_neg (beq_no e7), if_neg (beq_no (show ¬ l = 0 by omega))]
                refine wpS_bind (wpS_elem (show p - 1 < a.size by omega) ?_)
                have J4 := mr_pushA T (na := p - 1) (show MR L a b _ (p - 1 + 1) _ by rw [show p - 1 + 1 = p by omega]; exact J3) (by omega) (l2 )
                by_cases e8 : p - 1 = 0
                · rw [if_pos (by simpa using e8)]
                  exact wpS_pure ⟨_, rfl, .inl ⟨_, _, rfl, mr_done T J4 (.inl e8)⟩⟩
                rw [if_neg (beq_no e8)]
                refine wpS_ite ?_ ?_
                · exact wpS_pure ⟨_, rfl, .inr ⟨_, _, _, _, _, _, rfl, ⟨J4, by omega, by omega, by omega, by omega⟩, by omega⟩⟩
                · exact wpS_pure ⟨_, _, _, _, _, _, _, rfl, rfl, ⟨J4, by omega, by omega, by omega, by omega⟩, by omega⟩
              · rw [if_neg q3]
                have hl : l = nb' - 1 := by omega
                subst hl
                have J3 := J2
                refine wpS_bind (wpS_elem (show p - 1 < a.size by omega) ?_)
                have J4 := mr_pushA T (na := p - 1) (show MR L a b _ (p - 1 + 1) _ by rw [show p - 1 + 1 = p by omega]; exact J3) (by omega) (l2 )
                by_cases e8 : p - 1 = 0
                · rw [if_pos (by simpa using e8)]
                  exact wpS_pure ⟨_, rfl, .inl ⟨_, _, rfl, mr_done T J4 (.inl e8)⟩⟩
                rw [if_neg (beq_no e8)]
                refine wpS_ite ?_ ?_
                · exact wpS_pure ⟨_, rfl, .inr ⟨_, _, _, _, _, _, rfl, ⟨J4, by omega, by omega, by omega, by omega⟩, by omega⟩⟩
                · exact wpS_pure ⟨_, _, _, _, _, _, _, rfl, rfl, ⟨J4, by omega, by omega, by omega, by omega⟩, by omega⟩
            · rw [if_neg q2]
              have hp : p = na' := by omega
              subst hp
              have J1 := M'.j
              have k2 : ∀ j, j < p → j < a.size → leq L (a.getD j kyd) (b.getD (nb' - 1) kyd) := fun j h1 _ => p2 j h1
              refine wpS_bind (wpS_elem (show nb' - 1 < b.size by omega) ?_)
              have J2 := mr_pushB T (nb := nb' - 1) (show MR L a b _ _ (nb' - 1 + 1) by rw [show nb' - 1 + 1 = nb' by omega]; exact J1) (by omega) k2
              by_cases e6 : nb' - 1 = 1
              · rw [if_pos (by simpa using e6)]
                exact wpS_pure ⟨_, rfl, .inl ⟨_, _, rfl, mr_first C T J2 e6⟩⟩
              rw [if_neg (beq_no e6)]
              refine wpS_bind (wpS_elem (show p - 1 < a.size by omega) ?_)
              refine wpS_bind (wpS_galB2 C T hk (by omega) (by omega) (show p - 1 < a.size by omega) fun l l1 l2 l3 => ?_)
              dsimp only
              have l0 : 1 ≤ l := by
                apply Nat.lt_of_not_le
                intro h9
                have := l3 0 (by omega) (by omega)
                rw [T.first _ (by omega)] at this
                cases this
              replace l2 : ∀ j, j < l → j < b.size → leq L (b.getD j kyd) (a.getD (p - 1) kyd) := fun j h1 _ => C.as _ _ (l2 j h1)
              by_cases q3 : nb' - 1 - l > 0
              · rw [if_pos q3]
                have J3 := mr_manyB T (nb' := l) (by omega) J2 fun i h1 h2 h3 j h4 h5 => T.bTop C (show p - 1 < a.size by omega) h3 (l3 i h1 h2) j (by omega)
                by_cases e7 : l = 1
                · rw [if_pos (by simpa using e7)]
                  exact wpS_pure ⟨_, rfl, .inl ⟨_, _, rfl, mr_first C T J3 e7⟩⟩
                rw [if_neg (beq_no e7), if_neg (beq_no (show ¬ l = 0 by omega))]
                refine wpS_bind (wpS_elem (show p - 1 < a.size by omega) ?_)
                have J4 := mr_pushA T (na := p - 1) (show MR L a b _ (p - 1 + 1) _ by rw [show p - 1 + 1 = p by omega]; exact J3) (by omega) (l2 )
                by_cases e8 : p - 1 = 0
                · rw [if_pos (by simpa using e8)]
                  exact wpS_pure ⟨_, rfl, .inl ⟨_, _, rfl, mr_done T J4 (.inl e8)⟩⟩
                rw [if_neg (beq_no e8)]
                refine wpS_ite ?_ ?_
                · exact wpS_pure ⟨_, rfl, .inr ⟨_, _, _, _, _, _, rfl, ⟨J4, by omega, by omega, by omega, by omega⟩, by omega⟩⟩
                · exact wpS_pure ⟨_, _, _, _, _, _, _, rfl, rfl, ⟨J4, by omega, by omega, by omega, by omega⟩, by omega⟩
              · rw [if_neg q3]
                have hl : l = nb' - 1 := by omega
                subst hl
                have J3 := J2
                refine wpS_bind (wpS_elem (show p - 1 < a.size by omega) ?_)
                have J4 := mr_pushA T (na := p - 1) (show MR L a b _ (p - 1 + 1) _ by rw [show p - 1 + 1 = p by omega]; exact J3) (by omega) (l2 )
                by_cases e8 : p - 1 = 0
                · rw [if_pos (by simpa using e8)]
                  exact wpS_pure ⟨_, rfl, .inl ⟨_, _, rfl, mr_done T J4 (.inl e8)⟩⟩
                rw [if_neg (beq_no e8)]
                refine wpS_ite ?_ ?_
                · exact wpS_pure ⟨_, rfl, .inr ⟨_, _, _, _, _, _, rfl, ⟨J4, by omega, by omega, by omega, by omega⟩, by omega⟩⟩
                · exact wpS_pure ⟨_, _, _, _, _, _, _, rfl, rfl, ⟨J4, by omega, by omega, by omega, by omega⟩, by omega⟩
end
end L2
set_option Elab.async false
set_option linter.all false
set_option maxRecDepth 100000
set_option maxHeartbeats 2000000
namespace L2
open PySem PyProof.Rows
abbrev SS (κ : SortKind) (arr : Array Keyed) (pend : Array (Nat × Nat × Nat)) (g : Nat) : SortSt := SortSt.mk' κ arr pend g none
abbrev gk (arr : Array Keyed) (i : Nat) : Keyed := arr.getD i kyd
section
variable {prog : Program} {w : World} {A : Around} {E : Value → Shared → Prop} {s : Shared} {κ : SortKind} {P : Keyed → Prop} {L : Keyed → Keyed → Bool} {arr arr' : Array Keyed} {pend : Array (Nat × Nat × Nat)} {g : Nat}
def AlP (P : Keyed → Prop) (arr : Array Keyed) : Prop := ∀ x ∈ arr.toList, P x
def DsL (L : Keyed → Keyed → Bool) (arr : Array Keyed) : Prop := arr.toList.Pairwise fun x y => L x y = true ∨ L y x = true
theorem AlP.gt (h : AlP P arr) {i : Nat} (hi : i < arr.size) : P (gk arr i) := h _ (by simp [gk, Array.getD, hi])
theorem AlP.perm (h : AlP P arr) (p : arr'.Perm arr) : AlP P arr' := fun x hx => h x (p.toList.mem_iff.mp hx)
theorem DsL.perm (h : DsL L arr) (p : arr'.Perm arr) : DsL L arr' := (p.toList.pairwise_iff (fun hxy => hxy.symm)).mpr h
theorem DsL.gt (h : DsL L arr) {i j : Nat} (hi : i < arr.size) (hj : j < arr.size) (ne : i ≠ j) : L (gk arr i) (gk arr j) = true ∨ L (gk arr j) (gk arr i) = true := by
  have key : ∀ i j, i < arr.size → j < arr.size → i < j → L (gk arr i) (gk arr j) = true ∨ L (gk arr j) (gk arr i) = true := fun i j hi hj hij => by
    have := List.pairwise_iff_getElem.mp h i j (by simpa using hi) (by simpa using hj) hij
    simpa [gk, Array.getD, hi, hj] using this
  rcases Nat.lt_or_gt_of_ne ne with h1 | h1
  · exact key i j hi hj h1
  · exact (key j i hj hi h1).symm
structure ChgK (lo hi : Nat) (arr arr' : Array Keyed) : Prop where
  perm : arr'.Perm arr
  same : ∀ i, i < lo ∨ hi ≤ i → gk arr' i = gk arr i
theorem ChgK.refl (lo hi : Nat) (arr : Array Keyed) : ChgK lo hi arr arr := ⟨.refl _, fun _ _ => rfl⟩
theorem ChgK.size {lo hi : Nat} (c : ChgK lo hi arr arr') : arr'.size = arr.size := c.perm.size_eq
theorem ChgK.trans {lo hi : Nat} {arr2 : Array Keyed} (c : ChgK lo hi arr arr') (d : ChgK lo hi arr' arr2) : ChgK lo hi arr arr2 := ⟨d.perm.trans c.perm, fun i h => (d.same i h).trans (c.same i h)⟩
theorem ChgK.mono {lo hi lo' hi' : Nat} (c : ChgK lo hi arr arr') (h1 : lo' ≤ lo) (h2 : hi ≤ hi') : ChgK lo' hi' arr arr' := ⟨c.perm, fun i h => c.same i (by omega)⟩
theorem wpS_ltAt2 (C : Cmp prog w A E s κ P L) (hP : AlP P arr) {i j : Nat} {Q : Option Bool → SortSt → Prop} (hi : i < arr.size) (hj : j < arr.size) (h : Q (some (L (gk arr i) (gk arr j))) (SS κ arr pend g)) : wpS (model prog w) A E s (ltAt' i j) Q (SS κ arr pend g) := by
  rw [ltAt'_eq]
  refine wpS_bind (wpS_get ?_)
  exact wpS_bind (wpS_elem hi (wpS_bind (wpS_elem hj (C.ask _ _ (hP.gt hi) (hP.gt hj) _ _ rfl h))))
theorem seg_succ (C : Cmp prog w A E s κ P L) (hP : AlP P arr) {lo n : Nat} (hn : 1 ≤ n) (hz : lo + n < arr.size) (h : Seg L arr lo (lo + n)) (e : L (gk arr (lo + n)) (gk arr (lo + n - 1)) = false) : Seg L arr lo (lo + (n + 1)) := fun i j h1 h2 h3 => by
  by_cases h4 : j < lo + n
  · exact h i j h1 h2 h4
  · have : j = lo + n := by omega
    subst this
    by_cases h5 : i = lo + n
    · subst h5; exact C.rf _
    · exact C.tr _ _ _ (hP.gt (by omega)) (hP.gt (by omega)) (hP.gt hz) (h i (lo + n - 1) h1 (by omega) (by omega)) e
theorem seg_one (C : Cmp prog w A E s κ P L) (lo : Nat) : Seg L arr lo (lo + 1) := fun i j h1 h2 h3 => by
  have : i = j := by omega
  subst this; exact C.rf _
theorem gk_mirror {i j : Nat} (hj : j ≤ arr.size) (k : Nat) : gk (mirror arr i j ((j - i) / 2)) k = if i ≤ k ∧ k < j then gk arr (i + j - 1 - k) else gk arr k := by
  have := getElem?_mirror_all (i := i) hj k
  unfold gk
  rw [Array.getD_eq_getD_getElem?, this]
  split
  · rw [Array.getD_eq_getD_getElem?]
  · rw [Array.getD_eq_getD_getElem?]
theorem chg_mirror {lo hi i j : Nat} (h1 : lo ≤ i) (h2 : j ≤ hi) (hj : j ≤ arr.size) : ChgK lo hi arr (mirror arr i j ((j - i) / 2)) := ⟨mirror_perm _ _ _ _, fun k hk => by rw [gk_mirror hj, if_neg (by omega)]⟩
theorem wpS_count (C : Cmp prog w A E s κ P L) (hP : AlP P arr) (hD : DsL L arr) {lo nrem : Nat} (hz : lo + nrem ≤ arr.size) (h1 : 1 ≤ nrem) {Q : Option Nat → SortSt → Prop}
    (h : ∀ n arr', 1 ≤ n → n ≤ nrem → ChgK lo (lo + nrem) arr arr' → Seg L arr' lo (lo + n) → Q (some n) (SS κ arr' pend g)) : wpS (model prog w) A E s (countRun' lo nrem) Q (SS κ arr pend g) := by
  rw [countRun'_eq]
  have asc : ∀ (ar : Array Keyed) (n0 : Nat), AlP P ar → lo + nrem ≤ ar.size → 1 ≤ n0 → n0 ≤ nrem → Seg L ar lo (lo + n0) → ∀ (f : Nat → Option (Option Nat) × Nat → StateT SortSt Sem (ForInStep (Option (Option Nat) × Nat))),
      (∀ x n (R : ForInStep (Option (Option Nat) × Nat) → SortSt → Prop), 1 ≤ n → n < nrem → (L (gk ar (lo + n)) (gk ar (lo + n - 1)) = true → R (.done (none, n)) (SS κ ar pend g)) → (L (gk ar (lo + n)) (gk ar (lo + n - 1)) = false → R (.yield (none, n + 1)) (SS κ ar pend g)) → wpS (model prog w) A E s (f x (none, n)) R (SS κ ar pend g)) →
      ∀ (R' : Option (Option Nat) × Nat → SortSt → Prop), (∀ n, n0 ≤ n → n ≤ nrem → Seg L ar lo (lo + n) → (n < nrem → L (gk ar (lo + n)) (gk ar (lo + n - 1)) = true) → R' (none, n) (SS κ ar pend g)) → wpS (model prog w) A E s (forIn [n0:nrem] ((none, n0) : Option (Option Nat) × Nat) f) R' (SS κ ar pend g) := fun ar n0 pA zA a1 a2 sA f hf R' hR => by
    refine wpS_mono (wpS_forRange (I := fun x c st' => c = (none, x) ∧ st' = SS κ ar pend g ∧ x ≤ nrem ∧ Seg L ar lo (lo + x))
      (Q := fun c st' => st' = SS κ ar pend g ∧ ∃ n, c = (none, n) ∧ n0 ≤ n ∧ n ≤ nrem ∧ Seg L ar lo (lo + n) ∧ (n < nrem → L (gk ar (lo + n)) (gk ar (lo + n - 1)) = true)) ?_ ?_ ⟨rfl, rfl, a2, sA⟩) ?_
    · rintro x c st' hx0 hx ⟨rfl, rfl, b1, b2⟩
      refine hf x x _ (by omega) hx (fun e => ⟨rfl, x, rfl, hx0, b1, b2, fun _ => e⟩) fun e => ⟨rfl, rfl, by omega, seg_succ C pA (by omega) (by omega) b2 e⟩
    · rintro c st' ⟨rfl, rfl, b1, b2⟩
      rw [show max n0 nrem = nrem by omega] at *
      exact ⟨rfl, _, rfl, a2, Nat.le_refl _, b2, fun z => absurd z (Nat.lt_irrefl _)⟩
    · rintro c st' ⟨rfl, n, rfl, b1, b2, b3, b4⟩
      exact hR n b1 b2 b3 b4
  refine wpS_bind (asc arr 1 hP hz (by omega) h1 (seg_one C lo) _ (fun x n R n1 n2 r1 r2 => ?_) _ fun n n1 n2 sn nx => ?_)
  · dsimp only
    refine wpS_bind (wpS_ltAt2 C hP (by omega) (by omega) ?_)
    cases e : L (gk arr (lo + n)) (gk arr (lo + n - 1)) with
    | true => exact wpS_pure (r1 e)
    | false => exact wpS_pure (r2 e)
  dsimp only
  by_cases e1 : n = nrem
  · rw [if_pos (by simpa using e1)]
    exact wpS_pure (h n arr n1 n2 (.refl _ _ _) sn)
  rw [if_neg (beq_no e1)]
  by_cases e2 : n > 1
  · rw [if_pos e2]
    refine wpS_bind (wpS_ltAt2 C hP (by omega) (by omega) ?_)
    have rise : L (gk arr lo) (gk arr (lo + n - 1)) = true := by
      rcases hD.gt (i := lo) (j := lo + n - 1) (by omega) (by omega) (by omega) with q | q
      · exact q
      · rw [sn lo (lo + n - 1) (Nat.le_refl _) (by omega) (by omega)] at q; cases q
    rw [rise]
    exact wpS_pure (h n arr n1 n2 (.refl _ _ _) sn)
  rw [if_neg e2]
  have hn : n = 1 := by omega
  subst hn
  refine wpS_bind (wpS_lift (wpAny_rule ⟨rfl, ?_⟩))
  refine wpS_bind (wpS_mono (wpS_forRange (I := fun x c st' => c = (none, x, 0) ∧ st' = SS κ arr pend g ∧ 2 ≤ x ∧ x ≤ nrem ∧ ∀ i j, lo ≤ i → i ≤ j → j < lo + x → L (gk arr i) (gk arr j) = false)
      (Q := fun c st' => st' = SS κ arr pend g ∧ ∃ n, c = (none, n, 0) ∧ 2 ≤ n ∧ n ≤ nrem ∧ ∀ i j, lo ≤ i → i ≤ j → j < lo + n → L (gk arr i) (gk arr j) = false) ?_ ?_ ⟨rfl, rfl, by omega, by omega, fun i j i1 i2 i3 => ?_⟩) ?_)
  · rintro x c st' hx0 hx ⟨rfl, rfl, b1, b2, b3⟩
    dsimp only
    refine wpS_bind (wpS_ltAt2 C hP (by omega) (by omega) ?_)
    dsimp only
    cases e : L (gk arr (lo + x)) (gk arr (lo + x - 1)) with
    | true =>
      rw [if_pos rfl, if_neg (by omega)]
      refine wpS_pure ⟨rfl, rfl, by omega, by omega, fun i j i1 i2 i3 => ?_⟩
      by_cases h4 : j < lo + x
      · exact b3 i j i1 i2 h4
      · have : j = lo + x := by omega
        subst this
        by_cases h5 : i = lo + x
        · subst h5; exact C.rf _
        · exact C.tr _ _ _ (hP.gt (by omega)) (hP.gt (by omega)) (hP.gt (by omega)) (C.as _ _ e) (b3 i (lo + x - 1) i1 (by omega) (by omega))
    | false =>
      rw [if_neg (by decide)]
      refine wpS_bind (wpS_ltAt2 C hP (by omega) (by omega) ?_)
      have lar : L (gk arr (lo + x - 1)) (gk arr (lo + x)) = true := by
        rcases hD.gt (i := lo + x - 1) (j := lo + x) (by omega) (by omega) (by omega) with q | q
        · exact q
        · rw [e] at q; cases q
      rw [lar]
      exact wpS_pure ⟨rfl, x, rfl, b1, b2, b3⟩
  · rintro c st' ⟨rfl, rfl, b1, b2, b3⟩
    exact ⟨rfl, _, rfl, b1, b2, b3⟩
  · by_cases h5 : i = j
    · subst h5; exact C.rf _
    · have : i = lo := by omega
      have hj : j = lo + 1 := by omega
      subst this; subst hj
      exact C.as _ _ (nx (by omega))
  · rintro c st' ⟨rfl, n, rfl, b1, b2, b3⟩
    dsimp only
    rw [if_neg (by omega)]
    refine wpS_bind (wpS_reverse ?_)
    have hz2 : lo + n ≤ arr.size := by omega
    have cm : ChgK lo (lo + nrem) arr (mirror arr lo (lo + n) ((lo + n - lo) / 2)) := chg_mirror (Nat.le_refl _) (by omega) hz2
    have sm : Seg L (mirror arr lo (lo + n) ((lo + n - lo) / 2)) lo (lo + n) := fun i j i1 i2 i3 => by
      have g1 := gk_mirror (i := lo) hz2 i
      have g2 := gk_mirror (i := lo) hz2 j
      rw [if_pos ⟨i1, by omega⟩] at g1
      rw [if_pos ⟨by omega, i3⟩] at g2
      show L (gk _ j) (gk _ i) = false
      rw [g1, g2]
      exact b3 _ _ (by omega) (by omega) (by omega)
    show wpS (model prog w) A E s _ Q (SS κ (mirror arr lo (lo + n) ((lo + n - lo) / 2)) pend g)
    refine wpS_bind (asc _ n (hP.perm cm.perm) (by rw [cm.size]; omega) (by omega) b2 sm _ (fun x n R n1 n2 r1 r2 => ?_) _ fun n' n1 n2 sn' nx' => wpS_pure (h n' _ (by omega) n2 cm sn'))
    dsimp only
    refine wpS_bind (wpS_ltAt2 C (hP.perm cm.perm) (by rw [cm.size]; omega) (by rw [cm.size]; omega) ?_)
    cases e : L (gk (mirror arr lo (lo + _) ((lo + _ - lo) / 2)) (lo + n)) (gk (mirror arr lo (lo + _) ((lo + _ - lo) / 2)) (lo + n - 1)) with
    | true => exact wpS_pure (r1 e)
    | false => exact wpS_pure (r2 e)
end
end L2
set_option Elab.async false
set_option linter.all false
set_option maxRecDepth 100000
set_option maxHeartbeats 2000000
namespace L2
open PySem PyProof.Rows
section
variable {prog : Program} {w : World} {A : Around} {E : Value → Shared → Prop} {s : Shared} {κ : SortKind} {P : Keyed → Prop} {L : Keyed → Keyed → Bool} {arr arr' : Array Keyed} {pend : Array (Nat × Nat × Nat)} {g : Nat}
theorem gk_bubble {src d : Nat} (hs : src < arr.size) (hd : d ≤ src) (k : Nat) : gk (bubble arr src d) k = if k = src - d then gk arr src else if src - d < k ∧ k ≤ src then gk arr (k - 1) else gk arr k := by
  have := getElem?_bubble hs d hd k
  simp only [gk, Array.getD_eq_getD_getElem?, this]
  by_cases h1 : k = src - d
  · rw [if_pos h1, if_pos h1]
  · rw [if_neg h1, if_neg h1]
    by_cases h2 : src - d < k ∧ k ≤ src
    · rw [if_pos h2, if_pos h2]
    · rw [if_neg h2, if_neg h2]
theorem wpS_bin (C : Cmp prog w A E s κ P L) (hP : AlP P arr) {lo n ok : Nat} (hz : lo + n ≤ arr.size) (h1 : 1 ≤ ok) (h2 : ok ≤ n) (hS : Seg L arr lo (lo + ok)) {Q : Bool → SortSt → Prop}
    (h : ∀ arr', ChgK lo (lo + n) arr arr' → Seg L arr' lo (lo + n) → Q true (SS κ arr' pend g)) : wpS (model prog w) A E s (binarySort' lo n ok) Q (SS κ arr pend g) := by
  rw [binarySort'_eq]
  refine wpS_bind (wpS_mono (wpS_forRange (I := fun k c st' => ∃ ar, c = (none, ()) ∧ st' = SS κ ar pend g ∧ ChgK lo (lo + n) arr ar ∧ k ≤ n ∧ 1 ≤ k ∧ Seg L ar lo (lo + k))
    (Q := fun c st' => ∃ ar, c = (none, ()) ∧ st' = SS κ ar pend g ∧ ChgK lo (lo + n) arr ar ∧ Seg L ar lo (lo + n)) ?step ?fin ⟨arr, rfl, rfl, .refl _ _ _, by omega, by omega, by rw [show max ok 1 = ok by omega]; exact hS⟩) ?post)
  case post =>
    rintro c st' ⟨ar, rfl, rfl, ch, sg⟩
    exact wpS_pure (h ar ch sg)
  case fin =>
    rintro c st' ⟨ar, rfl, rfl, ch, k1, k2, sg⟩
    rw [show max (max ok 1) n = n by omega] at sg
    exact ⟨ar, rfl, rfl, ch, sg⟩
  case step =>
    rintro k c st' _ hk ⟨ar, rfl, rfl, ch, k1, k2, sg⟩
    have pA := hP.perm ch.perm
    have za := ch.size
    have mono : ∀ i j, i ≤ j → j < k → L (gk ar (lo + k)) (gk ar (lo + j)) = false → L (gk ar (lo + k)) (gk ar (lo + i)) = false := fun i j hij hj e =>
      C.tr _ _ _ (pA.gt (by omega)) (pA.gt (by omega)) (pA.gt (by omega)) (sg (lo + i) (lo + j) (by omega) (by omega) (by omega)) e
    refine wpS_bind (wpS_mono (wpS_forRange (I := fun x c st' => st' = SS κ ar pend g ∧ ∃ l r, c = (none, l, r) ∧ l ≤ r ∧ r ≤ k ∧ r - l ≤ k - x ∧ (∀ i, i < l → L (gk ar (lo + k)) (gk ar (lo + i)) = false) ∧ (∀ i, r ≤ i → i < k → L (gk ar (lo + k)) (gk ar (lo + i)) = true))
      (Q := fun c st' => st' = SS κ ar pend g ∧ ∃ l, c = (none, l, l) ∧ l ≤ k ∧ (∀ i, i < l → L (gk ar (lo + k)) (gk ar (lo + i)) = false) ∧ (∀ i, l ≤ i → i < k → L (gk ar (lo + k)) (gk ar (lo + i)) = true)) ?_ ?_ ⟨rfl, 0, k, rfl, by omega, by omega, by omega, fun i hi => absurd hi (Nat.not_lt_zero _), fun i h1 h2 => absurd h2 (by omega)⟩) ?_)
    · rintro x c st' _ hx ⟨rfl, l, r, rfl, a1, a2, a3, a4, a5⟩
      dsimp only
      by_cases hc : l ≥ r
      · rw [if_pos hc]
        have : l = r := by omega
        subst this
        exact wpS_pure ⟨rfl, l, rfl, a2, a4, a5⟩
      · rw [if_neg hc]
        refine wpS_bind (wpS_ltAt2 C pA (by omega) (by omega) ?_)
        dsimp only
        cases e : L (gk ar (lo + k)) (gk ar (lo + (l + r) / 2)) with
        | true =>
          rw [if_pos rfl]
          refine wpS_pure ⟨rfl, _, _, rfl, by omega, by omega, by omega, a4, fun i i1 i2 => ?_⟩
          cases q : L (gk ar (lo + k)) (gk ar (lo + i)) with
          | true => rfl
          | false => have := mono _ i i1 i2 q; rw [e] at this; cases this
        | false =>
          rw [if_neg (by decide)]
          exact wpS_pure ⟨rfl, _, _, rfl, by omega, by omega, by omega, fun i hi => mono i _ (show i ≤ (l + r) / 2 by omega) (by omega) e, a5⟩
    · rintro c st' ⟨rfl, l, r, rfl, a1, a2, a3, a4, a5⟩
      have : l = r := by omega
      subst this
      exact ⟨rfl, l, rfl, a2, a4, a5⟩
    · rintro c st' ⟨rfl, l, rfl, a1, a2, a3⟩
      dsimp only
      rw [moveDown'_eq]
      have hb : ∀ q, gk (bubble ar (lo + k) (lo + k - (lo + l))) q = if q = lo + l then gk ar (lo + k) else if lo + l < q ∧ q ≤ lo + k then gk ar (q - 1) else gk ar q := fun q => by
        have := gk_bubble (arr := ar) (src := lo + k) (d := lo + k - (lo + l)) (by omega) (by omega) q
        rw [show lo + k - (lo + k - (lo + l)) = lo + l by omega] at this
        exact this
      refine wpS_bind (wpS_modify (wpS_pure ⟨bubble ar (lo + k) (lo + k - (lo + l)), rfl, rfl, ch.trans ⟨bubble_perm _ _ _, fun i hi => ?_⟩, by omega, by omega, fun i j i1 i2 i3 => ?_⟩))
      · rw [hb, if_neg (by omega), if_neg (by omega)]
      · show L (gk _ j) (gk _ i) = false
        rw [hb, hb]
        have low : ∀ q, lo ≤ q → q < lo + l → leq L (gk ar q) (gk ar (lo + k)) := fun q q1 q2 => by
          have := a2 (q - lo) (by omega)
          rw [show lo + (q - lo) = q by omega] at this
          exact this
        have high : ∀ q, lo + l ≤ q → q < lo + k → leq L (gk ar (lo + k)) (gk ar q) := fun q q1 q2 => by
          have := a3 (q - lo) (by omega) (by omega)
          rw [show lo + (q - lo) = q by omega] at this
          exact C.as _ _ this
        have mid : ∀ p q, lo ≤ p → p ≤ q → q < lo + k → leq L (gk ar p) (gk ar q) := fun p q q1 q2 q3 => sg p q q1 q2 q3
        by_cases c1 : j = lo + l
        · rw [if_pos c1]
          by_cases c2 : i = lo + l
          · rw [if_pos c2]; exact C.rf _
          · rw [if_neg c2, if_neg (by omega)]; exact low i i1 (by omega)
        · rw [if_neg c1]
          by_cases c3 : lo + l < j ∧ j ≤ lo + k
          · rw [if_pos c3]
            by_cases c2 : i = lo + l
            · rw [if_pos c2]; exact high (j - 1) (by omega) (by omega)
            · rw [if_neg c2]
              by_cases c4 : lo + l < i ∧ i ≤ lo + k
              · rw [if_pos c4]; exact mid _ _ (by omega) (by omega) (by omega)
              · rw [if_neg c4]; exact mid _ _ (by omega) (by omega) (by omega)
          · rw [if_neg c3, if_neg (by omega), if_neg (by omega)]
            exact mid _ _ i1 i2 (by omega)
theorem mergeAt'_eq (i : Nat) : mergeAt' i = (do
  let s ← get
  let (some (sa, na, power), some (sb, nb, _)) := ((pendingOf s)[i]?, (pendingOf s)[i + 1]?) | unsupported "internal:list.sort.pending"
  set (setPending s (((pendingOf s).setIfInBounds i (sa, na + nb, power)).eraseIdxIfInBounds (i + 1)))
  let some k ← gallop' false (← elem' (arrOf s) sb) (arrOf s) sa na 0 | return false
  let (sa, na) := (sa + k, na - k)
  if na == 0 then return true
  let some nb ← gallop' true (← elem' (arrOf s) (sa + na - 1)) (arrOf s) sb nb (nb - 1) | return false
  if nb == 0 then return true
  let x := (arrOf s).extract sa sb
  let y := (arrOf s).extract sb (sb + nb)
  let merged ← if na ≤ nb then mergeLo' x y else mergeHi' x y
  modify fun s => setArr s (merged.toList.zipIdx.foldl (fun a (p, j) => a.setIfInBounds (sa + j) p) (arrOf s))
  return (failedOf (← get)).isNone) := rfl
end
end L2
set_option Elab.async false
set_option linter.all false
set_option maxRecDepth 100000
set_option maxHeartbeats 2000000
namespace L2
open PySem PyProof.Rows
theorem wr_list (off : Nat) : ∀ (l : List Keyed) (j : Nat) (ar : Array Keyed), off + j + l.length ≤ ar.size → ((l.zipIdx j).foldl (fun (a : Array Keyed) (x : Keyed × Nat) => a.setIfInBounds (off + x.2) x.1) ar).toList = ar.toList.take (off + j) ++ l ++ ar.toList.drop (off + j + l.length)
  | [], j, ar, h => by simp
  | p :: l, j, ar, h => by
    rw [List.length_cons] at h
    rw [List.zipIdx_cons, List.foldl_cons, wr_list off l (j + 1) _ (by rw [Array.size_setIfInBounds]; omega)]
    rw [Array.toList_setIfInBounds]
    have hl : off + j < ar.toList.length := by rw [Array.length_toList]; omega
    rw [List.length_cons, show off + (j + 1) = off + j + 1 by omega, List.take_succ_eq_append_getElem (by rw [List.length_set]; exact hl), List.take_set_of_le (Nat.le_refl _), List.getElem_set_self, List.drop_set_of_lt (by omega), show off + j + 1 + l.length = off + j + (l.length + 1) by omega]
    simp
section
variable {prog : Program} {w : World} {A : Around} {E : Value → Shared → Prop} {s : Shared} {κ : SortKind} {P : Keyed → Prop} {L : Keyed → Keyed → Bool} {arr arr' : Array Keyed} {pend : Array (Nat × Nat × Nat)} {g : Nat}
theorem gk_list (ar : Array Keyed) (i : Nat) : gk ar i = ar.toList.getD i kyd := by
  unfold gk
  rw [Array.getD_eq_getD_getElem?, List.getD_eq_getElem?_getD, Array.getElem?_toList]
theorem wpS_set {st st' : SortSt} {Q : PUnit → SortSt → Prop} (h : Q ⟨⟩ st') : wpS (model prog w) A E s (set st' : StateT SortSt Sem PUnit) Q st := by
  unfold wpS; rw [StateT.run_set]; exact wpAny_pure ⟨rfl, h⟩
theorem gk_ext {a e i : Nat} (he : e ≤ arr.size) (hi : a + i < e) : gk (arr.extract a e) i = gk arr (a + i) := by
  rw [gk_list, gk_list, ext_list, List.getD_eq_getElem?_getD, List.getD_eq_getElem?_getD, List.getElem?_take_of_lt (by omega), List.getElem?_drop]
theorem ext_sz {a e : Nat} (he : e ≤ arr.size) : (arr.extract a e).size = e - a := by rw [Array.size_extract]; omega
theorem pw_ext {a e : Nat} (he : e ≤ arr.size) (h : Seg L arr a e) : (arr.extract a e).toList.Pairwise (leq L) := by
  rw [List.pairwise_iff_getElem]
  intro i j hi hj hij
  have z := ext_sz (a := a) he
  rw [Array.length_toList, z] at hi hj
  have e1 : (arr.extract a e).toList[i]'(by rw [Array.length_toList, z]; exact hi) = gk arr (a + i) := by
    rw [← gk_ext he (by omega)]; simp [gk, Array.getD, z, hi]
  have e2 : (arr.extract a e).toList[j]'(by rw [Array.length_toList, z]; exact hj) = gk arr (a + j) := by
    rw [← gk_ext he (by omega)]; simp [gk, Array.getD, z, hj]
  rw [e1, e2]
  exact h (a + i) (a + j) (by omega) (by omega) (by omega)
theorem ext_mem {a e : Nat} {y : Keyed} (he : e ≤ arr.size) (h : y ∈ (arr.extract a e).toList) : ∃ t, a ≤ t ∧ t < e ∧ y = gk arr t := by
  rw [ext_list] at h
  obtain ⟨j, h1, h2, h3⟩ := take_at h
  exact ⟨a + j, by omega, by omega, h3⟩
theorem merged_ok (C : Cmp prog w A E s κ P L) (hP : AlP P arr) {sa sb sc O Z : Nat} {r : Array Keyed} (h1 : sa ≤ O) (h2 : O < sb) (h3 : sb < Z) (h4 : Z ≤ sc) (hz : sc ≤ arr.size) (S1 : Seg L arr sa sb) (S2 : Seg L arr sb sc)
    (f1 : ∀ p, sa ≤ p → p < O → leq L (gk arr p) (gk arr sb)) (f2 : ∀ q, Z ≤ q → q < sc → leq L (gk arr (sb - 1)) (gk arr q)) (G : MG L (arr.extract O sb).toList (arr.extract sb Z).toList r.toList) :
    ChgK sa sc arr (r.toList.zipIdx.foldl (fun a (p, j) => a.setIfInBounds (O + j) p) arr) ∧ Seg L (r.toList.zipIdx.foldl (fun a (p, j) => a.setIfInBounds (O + j) p) arr) sa sc := by
  have lr : r.toList.length = Z - O := by
    have := G.pm.length_eq
    rw [List.length_append, Array.length_toList, Array.length_toList, Array.length_toList, ext_sz (by omega), ext_sz (by omega)] at this
    rw [Array.length_toList]; omega
  have e := wr_list O r.toList 0 arr (by rw [lr]; omega)
  rw [Nat.add_zero, lr, show O + (Z - O) = Z by omega] at e
  generalize hB : (r.toList.zipIdx.foldl (fun a (p, j) => a.setIfInBounds (O + j) p) arr) = B
  have eB : B.toList = arr.toList.take O ++ r.toList ++ arr.toList.drop Z := by rw [← hB]; exact e
  have lO : (arr.toList.take O).length = O := by rw [List.length_take, Array.length_toList]; omega
  have gB : ∀ q, gk B q = if q < O then gk arr q else if q < Z then r.toList.getD (q - O) kyd else gk arr q := fun q => by
    rw [gk_list, eB, gk_list, List.getD_eq_getElem?_getD, List.getD_eq_getElem?_getD, List.getD_eq_getElem?_getD, List.append_assoc, List.getElem?_append, lO]
    by_cases c1 : q < O
    · rw [if_pos c1, if_pos c1, List.getElem?_take_of_lt c1]
    · rw [if_neg c1, if_neg c1, List.getElem?_append, lr]
      by_cases c2 : q < Z
      · rw [if_pos (by omega), if_pos c2]
      · rw [if_neg (by omega), if_neg c2, List.getElem?_drop, show Z + (q - O - (Z - O)) = q by omega]
  have pm : B.toList.Perm arr.toList := by
    rw [eB]
    have ea : arr.toList = arr.toList.take O ++ ((arr.extract O sb).toList ++ (arr.extract sb Z).toList) ++ arr.toList.drop Z := by
      rw [ext_list, ext_list]
      have a1 := List.take_append_drop O arr.toList
      have a2 : arr.toList.drop O = (arr.toList.drop O).take (sb - O) ++ arr.toList.drop sb := by
        have := drop_parts arr.toList O (sb - O)
        rw [show O + (sb - O) = sb by omega] at this
        exact this.symm
      have a3 : arr.toList.drop sb = (arr.toList.drop sb).take (Z - sb) ++ arr.toList.drop Z := by
        have := drop_parts arr.toList sb (Z - sb)
        rw [show sb + (Z - sb) = Z by omega] at this
        exact this.symm
      rw [List.append_assoc, List.append_assoc, ← a3, ← a2, a1]
    refine List.Perm.trans ?_ (List.Perm.of_eq ea.symm)
    exact List.Perm.append_right _ (List.Perm.append_left _ G.pm)
  have inr : ∀ t, t < Z - O → ∃ u, r.toList.getD t kyd = gk arr u ∧ O ≤ u ∧ u < Z := fun t ht => by
    have hm : r.toList.getD t kyd ∈ r.toList := by
      rw [List.getD_eq_getElem?_getD, List.getElem?_eq_getElem (by rw [lr]; exact ht)]
      exact List.getElem_mem _
    rcases List.mem_append.mp (G.pm.mem_iff.mp hm) with q | q
    · obtain ⟨u, u1, u2, u3⟩ := ext_mem (by omega) q
      exact ⟨u, u3, u1, by omega⟩
    · obtain ⟨u, u1, u2, u3⟩ := ext_mem (by omega) q
      exact ⟨u, u3, by omega, u2⟩
  have top : ∀ p t, sa ≤ p → p < O → O ≤ t → t < sc → leq L (gk arr p) (gk arr t) := fun p t p1 p2 t1 t2 => by
    by_cases c : t < sb
    · exact S1 p t p1 (by omega) c
    · exact C.tr _ _ _ (hP.gt (by omega)) (hP.gt (by omega)) (hP.gt (by omega)) (f1 p p1 p2) (S2 sb t (Nat.le_refl _) (by omega) t2)
  have bot : ∀ t q, O ≤ t → t < Z → Z ≤ q → q < sc → leq L (gk arr t) (gk arr q) := fun t q t1 t2 q1 q2 => by
    by_cases c : t < sb
    · exact C.tr _ _ _ (hP.gt (by omega)) (hP.gt (by omega)) (hP.gt (by omega)) (S1 t (sb - 1) (by omega) (by omega) (by omega)) (f2 q q1 q2)
    · exact S2 t q (by omega) (by omega) q2
  refine ⟨⟨Array.perm_iff_toList_perm.mpr pm, fun i hi => ?_⟩, fun p q p1 p2 p3 => ?_⟩
  · rw [gB]
    by_cases c1 : i < O
    · rw [if_pos c1]
    · rw [if_neg c1, if_neg (by omega)]
  · show L (gk B q) (gk B p) = false
    rw [gB, gB]
    by_cases c1 : q < O
    · rw [if_pos c1, if_pos (by omega)]
      exact S1 p q p1 p2 (by omega)
    · rw [if_neg c1]
      by_cases c2 : q < Z
      · rw [if_pos c2]
        by_cases c3 : p < O
        · rw [if_pos c3]
          obtain ⟨u, u1, u2, u3⟩ := inr (q - O) (by omega)
          rw [u1]
          exact top p u p1 c3 u2 (by omega)
        · rw [if_neg c3, if_pos (by omega)]
          by_cases c4 : p = q
          · subst c4; exact C.rf _
          · have := List.pairwise_iff_getElem.mp G.so (p - O) (q - O) (by rw [lr]; omega) (by rw [lr]; omega) (by omega)
            rw [List.getD_eq_getElem?_getD, List.getD_eq_getElem?_getD, List.getElem?_eq_getElem (by rw [lr]; omega), List.getElem?_eq_getElem (by rw [lr]; omega)]
            exact this
      · rw [if_neg c2]
        by_cases c3 : p < O
        · rw [if_pos c3]
          exact top p q p1 c3 (by omega) p3
        · rw [if_neg c3]
          by_cases c4 : p < Z
          · rw [if_pos c4]
            obtain ⟨u, u1, u2, u3⟩ := inr (p - O) (by omega)
            rw [u1]
            exact bot u q u2 u3 (by omega) p3
          · rw [if_neg c4]
            exact S2 p q (by omega) p2 p3
theorem wpS_mergeAt (C : Cmp prog w A E s κ P L) (hP : AlP P arr) {i sa na pw sb nb pw2 : Nat} {Q : Bool → SortSt → Prop} (p0 : pend[i]? = some (sa, na, pw)) (p1 : pend[i + 1]? = some (sb, nb, pw2)) (hsb : sa + na = sb) (hz : sb + nb ≤ arr.size) (hna : 1 ≤ na) (hnb : 1 ≤ nb)
    (S1 : Seg L arr sa sb) (S2 : Seg L arr sb (sb + nb))
    (h : ∀ arr' g', ChgK sa (sb + nb) arr arr' → Seg L arr' sa (sb + nb) → Q true (SS κ arr' ((pend.setIfInBounds i (sa, na + nb, pw)).eraseIdxIfInBounds (i + 1)) g')) : wpS (model prog w) A E s (mergeAt' i) Q (SS κ arr pend g) := by
  rw [mergeAt'_eq]
  refine wpS_bind (wpS_get ?_)
  show wpS _ _ _ _ (match (pend[i]?, pend[i + 1]?) with | (some (sa, na, power), some (sb, nb, _)) => _ | _ => _) Q _
  rw [p0, p1]
  dsimp only
  refine wpS_bind (wpS_set ?_)
  refine wpS_bind (wpS_elem (show sb < arr.size by omega) ?_)
  refine wpS_bind (wpS_gallop C rfl (hP.gt (by omega)) (show sa + na ≤ arr.size by omega) (by omega) (fun j hj => hP.gt (by omega)) (by rw [hsb]; exact S1) fun k c => ?_)
  dsimp only
  have c1 : ∀ t, t < k → L (gk arr sb) (gk arr (sa + t)) = false := fun t ht => by
    have := c.lo t ht
    unfold beyB at this
    rw [if_neg (by decide), Bool.not_eq_true'] at this
    exact this
  have c2 : ∀ t, k ≤ t → t < na → L (gk arr sb) (gk arr (sa + t)) = true := fun t h1 h2 => by
    have := c.hi t h1 h2
    unfold beyB at this
    rw [if_neg (by decide), Bool.not_eq_false'] at this
    exact this
  have hk := c.leq
  by_cases e1 : na - k = 0
  · rw [if_pos (by simpa using e1)]
    refine wpS_pure (h arr g (.refl _ _ _) fun p q a1 a2 a3 => ?_)
    by_cases b1 : q < sb
    · exact S1 p q a1 a2 b1
    · by_cases b2 : p < sb
      · have := c1 (p - sa) (by omega)
        rw [show sa + (p - sa) = p by omega] at this
        exact C.tr _ _ _ (hP.gt (by omega)) (hP.gt (by omega)) (hP.gt (by omega)) this (S2 sb q (Nat.le_refl _) (by omega) a3)
      · exact S2 p q (by omega) a2 a3
  rw [if_neg (beq_no e1)]
  refine wpS_bind (wpS_elem (show sa + k + (na - k) - 1 < arr.size by omega) ?_)
  rw [show sa + k + (na - k) - 1 = sb - 1 by omega]
  refine wpS_bind (wpS_gallop C rfl (hP.gt (show sb - 1 < arr.size by omega)) (show sb + nb ≤ arr.size by omega) (by omega) (fun j hj => hP.gt (by omega)) S2 fun m d => ?_)
  dsimp only
  have d1 : ∀ t, t < m → L (gk arr (sb + t)) (gk arr (sb - 1)) = true := fun t ht => by
    have := d.lo t ht
    unfold beyB at this
    rw [if_pos rfl] at this
    exact this
  have d2 : ∀ t, m ≤ t → t < nb → L (gk arr (sb + t)) (gk arr (sb - 1)) = false := fun t h1 h2 => by
    have := d.hi t h1 h2
    unfold beyB at this
    rw [if_pos rfl] at this
    exact this
  have hm := d.leq
  have m0 : 1 ≤ m := by
    apply Nat.lt_of_not_le
    intro h9
    have a := d2 0 (by omega) (by omega)
    have b := c2 (na - 1) (by omega) (by omega)
    rw [show sa + (na - 1) = sb - 1 by omega] at b
    rw [Nat.add_zero, b] at a
    cases a
  rw [if_neg (beq_no (show ¬ m = 0 by omega))]
  have T : TwoR P L (arr.extract (sa + k) sb) (arr.extract sb (sb + m)) := by
    have zx := ext_sz (arr := arr) (a := sa + k) (e := sb) (by omega)
    have zy := ext_sz (arr := arr) (a := sb) (e := sb + m) (by omega)
    refine ⟨pw_ext (by omega) fun p q a1 a2 a3 => S1 p q (by omega) a2 a3, pw_ext (by omega) fun p q a1 a2 a3 => S2 p q a1 a2 (by omega), fun t ht => ?_, fun t ht => ?_, by omega, by omega, fun t ht => ?_, fun t ht => ?_⟩
    · rw [zx] at ht
      have := gk_ext (arr := arr) (a := sa + k) (e := sb) (i := t) (by omega) (by omega)
      show P (gk _ t)
      rw [this]; exact hP.gt (by omega)
    · rw [zy] at ht
      have := gk_ext (arr := arr) (a := sb) (e := sb + m) (i := t) (by omega) (by omega)
      show P (gk _ t)
      rw [this]; exact hP.gt (by omega)
    · rw [zx] at ht
      have e3 := gk_ext (arr := arr) (a := sa + k) (e := sb) (i := t) (by omega) (by omega)
      have e4 := gk_ext (arr := arr) (a := sb) (e := sb + m) (i := 0) (by omega) (by omega)
      show L (gk _ 0) (gk _ t) = true
      rw [e3, e4, Nat.add_zero, Nat.add_assoc]
      exact c2 (k + t) (by omega) (by omega)
    · rw [zy] at ht
      have e3 := gk_ext (arr := arr) (a := sa + k) (e := sb) (i := (arr.extract (sa + k) sb).size - 1) (by omega) (by omega)
      have e4 := gk_ext (arr := arr) (a := sb) (e := sb + m) (i := t) (by omega) (by omega)
      show L (gk _ t) (gk _ ((arr.extract (sa + k) sb).size - 1)) = true
      rw [e3, e4, show sa + k + ((arr.extract (sa + k) sb).size - 1) = sb - 1 by omega]
      exact d1 t (by omega)
  have fin : ∀ (r : Array Keyed) (g' : Nat), MG L (arr.extract (sa + k) sb).toList (arr.extract sb (sb + m)).toList r.toList → Q true (SS κ (r.toList.zipIdx.foldl (fun a (p, j) => a.setIfInBounds (sa + k + j) p) arr) ((pend.setIfInBounds i (sa, na + nb, pw)).eraseIdxIfInBounds (i + 1)) g') := fun r g' G => by
    have ⟨x1, x2⟩ := merged_ok C hP (sa := sa) (sb := sb) (sc := sb + nb) (O := sa + k) (Z := sb + m) (by omega) (by omega) (by omega) (by omega) hz S1 S2 (fun p a1 a2 => by
      have := c1 (p - sa) (by omega)
      rw [show sa + (p - sa) = p by omega] at this
      exact this) (fun q a1 a2 => by
      have := d2 (q - sb) (by omega) (by omega)
      rw [show sb + (q - sb) = q by omega] at this
      exact this) G
    exact h _ g' x1 x2
  by_cases e5 : na - k ≤ m
  · rw [if_pos e5]
    refine wpS_bind (wpS_mergeLo C T rfl fun r g' G => ?_)
    refine wpS_bind (wpS_modify ?_)
    refine wpS_bind (wpS_get ?_)
    exact wpS_pure (fin r g' G)
  · rw [if_neg e5]
    refine wpS_bind (wpS_mergeHi C T rfl fun r g' G => ?_)
    refine wpS_bind (wpS_modify ?_)
    refine wpS_bind (wpS_get ?_)
    exact wpS_pure (fin r g' G)
end
end L2
set_option Elab.async false
set_option linter.all false
set_option maxRecDepth 100000
set_option maxHeartbeats 2000000
namespace L2
open PySem PyProof.Rows
def Rn (L : Keyed → Keyed → Bool) (arr : Array Keyed) : Nat → List (Nat × Nat × Nat) → Nat → Prop
  | a, [], b => a = b
  | a, p :: t, b => p.1 = a ∧ 1 ≤ p.2.1 ∧ Seg L arr a (a + p.2.1) ∧ Rn L arr (a + p.2.1) t b
section
variable {prog : Program} {w : World} {A : Around} {E : Value → Shared → Prop} {s : Shared} {κ : SortKind} {P : Keyed → Prop} {L : Keyed → Keyed → Bool} {arr arr' : Array Keyed} {pend : Array (Nat × Nat × Nat)} {g : Nat}
theorem Rn.leq : ∀ {t : List (Nat × Nat × Nat)} {a b : Nat}, Rn L arr a t b → a + t.length ≤ b
  | [], a, b, h => by have : a = b := h; simp; omega
  | p :: t, a, b, h => by
    have := Rn.leq h.2.2.2
    have := h.2.1
    rw [List.length_cons]; omega
theorem Rn.app : ∀ {t u : List (Nat × Nat × Nat)} {a b : Nat}, Rn L arr a (t ++ u) b → ∃ m, Rn L arr a t m ∧ Rn L arr m u b
  | [], u, a, b, h => ⟨a, rfl, h⟩
  | p :: t, u, a, b, h => by
    obtain ⟨m, h1, h2⟩ := Rn.app (t := t) (u := u) h.2.2.2
    exact ⟨m, ⟨h.1, h.2.1, h.2.2.1, h1⟩, h2⟩
theorem Rn.cat : ∀ {t u : List (Nat × Nat × Nat)} {a m b : Nat}, Rn L arr a t m → Rn L arr m u b → Rn L arr a (t ++ u) b
  | [], u, a, m, b, h, h2 => by have : a = m := h; subst this; exact h2
  | p :: t, u, a, m, b, h, h2 => ⟨h.1, h.2.1, h.2.2.1, Rn.cat h.2.2.2 h2⟩
theorem seg_same {lo hi : Nat} (h : Seg L arr lo hi) (e : ∀ i, lo ≤ i → i < hi → gk arr' i = gk arr i) : Seg L arr' lo hi := fun i j h1 h2 h3 => by
  show L (gk arr' j) (gk arr' i) = false
  rw [e j (by omega) h3, e i h1 (by omega)]
  exact h i j h1 h2 h3
theorem Rn.same : ∀ {t : List (Nat × Nat × Nat)} {a b : Nat}, Rn L arr a t b → (∀ i, a ≤ i → i < b → gk arr' i = gk arr i) → Rn L arr' a t b
  | [], a, b, h, _ => h
  | p :: t, a, b, h, e => by
    have l := Rn.leq h.2.2.2
    exact ⟨h.1, h.2.1, seg_same h.2.2.1 fun i h1 h2 => e i h1 (by omega), Rn.same h.2.2.2 fun i h1 h2 => e i (by omega) h2⟩
theorem split2 : ∀ (l : List (Nat × Nat × Nat)) (i : Nat), i + 1 < l.length → ∃ p x y q, l = p ++ x :: y :: q ∧ p.length = i
  | [], i, h => by simp at h
  | [x], i, h => by simp at h
  | x :: y :: q, 0, _ => ⟨[], x, y, q, rfl, rfl⟩
  | x :: y :: q, i + 1, h => by
    obtain ⟨p, u, v, r, e, hl⟩ := split2 (y :: q) i (by simp at h ⊢; omega)
    exact ⟨x :: p, u, v, r, by rw [e]; rfl, by simp [hl]⟩
theorem wpS_mergeRun (C : Cmp prog w A E s κ P L) (hP : AlP P arr) {lo i : Nat} (R : Rn L arr 0 pend.toList lo) (hz : lo ≤ arr.size) (hi : i + 1 < pend.size) {Q : Bool → SortSt → Prop}
    (h : ∀ arr' pend' g', ChgK 0 lo arr arr' → Rn L arr' 0 pend'.toList lo → pend'.size + 1 = pend.size → Q true (SS κ arr' pend' g')) : wpS (model prog w) A E s (mergeAt' i) Q (SS κ arr pend g) := by
  obtain ⟨p, ⟨sa, na, pw⟩, ⟨sb, nb, pw2⟩, q, e, hl⟩ := split2 pend.toList i (by simpa using hi)
  rw [e] at R
  obtain ⟨m, R1, R2⟩ := Rn.app R
  obtain ⟨e1, n1, S1, e2, n2, S2, R3⟩ := R2
  dsimp only at e1 n1 S1 e2 n2 S2 R3
  subst e1
  have l1 := R1.leq
  have l3 := R3.leq
  have g0 : pend[i]? = some (sa, na, pw) := by rw [← Array.getElem?_toList, e, ← hl]; simp
  have g1 : pend[i + 1]? = some (sb, nb, pw2) := by rw [← Array.getElem?_toList, e, ← hl]; simp
  refine wpS_mergeAt C hP g0 g1 e2.symm (by omega) n1 n2 (by rw [e2]; exact S1) (by rw [e2]; exact S2) fun arr' g' c sg => h arr' _ g' (c.mono (Nat.zero_le _) (by omega)) ?_ ?_
  · have el : ((pend.setIfInBounds i (sa, na + nb, pw)).eraseIdxIfInBounds (i + 1)).toList = p ++ (sa, na + nb, pw) :: q := by
      have z : i + 1 < (pend.setIfInBounds i (sa, na + nb, pw)).size := by rw [Array.size_setIfInBounds]; exact hi
      rw [Array.eraseIdxIfInBounds, dif_pos z, Array.toList_eraseIdx, Array.toList_setIfInBounds, e, ← hl]
      rw [List.set_append_right _ _ (Nat.le_refl _), Nat.sub_self, List.eraseIdx_append_of_length_le (by omega), show p.length + 1 - p.length = 1 by omega]
      rfl
    rw [el]
    refine Rn.cat (R1.same fun j h1 h2 => c.same j (.inl h2)) ⟨rfl, by show 1 ≤ na + nb; omega, ?_, ?_⟩
    · show Seg L arr' sa (sa + (na + nb))
      rw [show sa + (na + nb) = sb + nb by omega]; exact sg
    · show Rn L arr' (sa + (na + nb)) q lo
      rw [show sa + (na + nb) = sa + na + nb by omega]
      exact R3.same fun j h1 h2 => c.same j (.inr (by omega))
  · have z : i + 1 < (pend.setIfInBounds i (sa, na + nb, pw)).size := by rw [Array.size_setIfInBounds]; exact hi
    rw [Array.eraseIdxIfInBounds, dif_pos z, Array.size_eraseIdx, Array.size_setIfInBounds]
    omega
theorem rn_pow {t : List (Nat × Nat × Nat)} {pw : Nat} {b : Nat} (h : Rn L arr 0 t b) : Rn L arr 0 (t.modify (t.length - 1) fun x => (x.1, x.2.1, pw)) b := by
  have key : ∀ (t : List (Nat × Nat × Nat)) (a k : Nat), Rn L arr a t b → Rn L arr a (t.modify k fun x => (x.1, x.2.1, pw)) b := by
    intro t
    induction t with
    | nil => intro a k h; cases k <;> exact h
    | cons p t ih =>
      intro a k h
      cases k with
      | zero => exact h
      | succ k => exact ⟨h.1, h.2.1, h.2.2.1, ih _ k h.2.2.2⟩
  exact key t 0 _ h
theorem ite_lt {c : Prop} [Decidable c] {a b n : Nat} (h1 : a + 1 < n) (h2 : b + 1 < n) : (if c then a else b) + 1 < n := by split <;> assumption
theorem wpS_sorted (C : Cmp prog w A E s κ P L) {a₀ : Array Keyed} (hP : AlP P a₀) (hD : DsL L a₀) (h2 : 1 ≤ a₀.size) {g : Nat} {Q : Unit → SortSt → Prop}
    (h : ∀ st', (arrOf st').Perm a₀ → failedOf st' = none → Seg L (arrOf st') 0 a₀.size → Q () st') : wpS (model prog w) A E s sortRuns' Q (SS κ a₀ #[] g) := by
  rw [sortRuns'_eq]
  refine wpS_bind (wpS_get ?_)
  generalize hsz : (arrOf (SS κ a₀ #[] g)).size = size
  obtain rfl : size = a₀.size := hsz.symm
  clear hsz
  dsimp only
  generalize minRun' a₀.size a₀.size 0 = mr
  refine wpS_bind (wpS_mono (wpS_forRange
    (I := fun x c st' => ∃ lo ar pe g, c = (none, lo) ∧ st' = SS κ ar pe g ∧ ar.Perm a₀ ∧ Rn L ar 0 pe.toList lo ∧ x ≤ lo ∧ lo ≤ a₀.size)
    (Q := fun c st' => ∃ ar pe g, c = (none, a₀.size) ∧ st' = SS κ ar pe g ∧ ar.Perm a₀ ∧ Rn L ar 0 pe.toList a₀.size) ?step ?fin ⟨0, a₀, #[], g, rfl, rfl, .refl _, rfl, Nat.le_refl _, Nat.zero_le _⟩) ?post)
  case fin =>
    rintro c st' ⟨lo, ar, pe, g, rfl, rfl, pm, R, hx, hl⟩
    have : lo = a₀.size := by omega
    subst this
    exact ⟨ar, pe, g, rfl, rfl, pm, R⟩
  case post =>
    rintro c st' ⟨ar, pe, g, rfl, rfl, pm, R⟩
    dsimp only
    refine wpS_bind (wpS_mono (wpS_forRange
      (I := fun x c st' => ∃ ar pe g, c = (none, ()) ∧ st' = SS κ ar pe g ∧ ar.Perm a₀ ∧ Rn L ar 0 pe.toList a₀.size ∧ pe.size + x ≤ a₀.size)
      (Q := fun c st' => ∃ ar pe g, c = (none, ()) ∧ st' = SS κ ar pe g ∧ ar.Perm a₀ ∧ Rn L ar 0 pe.toList a₀.size ∧ pe.size ≤ 1) ?step2 ?fin2 ⟨ar, pe, g, rfl, rfl, pm, R, by have := R.leq; simp at this; omega⟩) ?post2)
    case fin2 =>
      rintro c st' ⟨ar, pe, g, rfl, rfl, pm, R, hx⟩
      exact ⟨ar, pe, g, rfl, rfl, pm, R, by omega⟩
    case post2 =>
      rintro c st' ⟨ar, pe, g, rfl, rfl, pm, R, hx⟩
      refine wpS_pure (h _ pm rfl ?_)
      show Seg L ar 0 a₀.size
      have hl : pe.toList.length ≤ 1 := by simpa using hx
      match e : pe.toList, hl with
      | [], _ => rw [e] at R; have : 0 = a₀.size := R; omega
      | [p], _ =>
        rw [e] at R
        obtain ⟨r1, r2, r3, r4⟩ := R
        have : 0 + p.2.1 = a₀.size := r4
        rw [this] at r3
        exact r3
    case step2 =>
      rintro x c st' _ hx ⟨ar, pe, g, rfl, rfl, pm, R, hp⟩
      refine wpS_bind (wpS_get ?_)
      by_cases e1 : pe.size ≤ 1
      · rw [if_pos e1]
        exact wpS_pure ⟨ar, pe, g, rfl, rfl, pm, R, e1⟩
      · rw [if_neg e1]
        refine wpS_bind (wpS_mergeRun C (hP.perm pm) R (by rw [pm.size_eq]; exact Nat.le_refl _) (ite_lt (show pe.size - 2 - 1 + 1 < pe.size by omega) (show pe.size - 2 + 1 < pe.size by omega)) fun ar' pe' g' ch R' z => ?_)
        exact wpS_pure ⟨ar', pe', g', rfl, rfl, ch.perm.trans pm, R', by omega⟩
  case step =>
    rintro x c st' _ hx ⟨lo, ar, pe, g, rfl, rfl, pm, R, hx2, hlo⟩
    dsimp only
    by_cases e1 : lo ≥ a₀.size
    · rw [if_pos e1]
      have : lo = a₀.size := by omega
      subst this
      exact wpS_pure ⟨ar, pe, g, rfl, rfl, pm, R⟩
    rw [if_neg e1]
    have za := pm.size_eq
    refine wpS_bind (wpS_count C (hP.perm pm) (hD.perm pm) (lo := lo) (nrem := a₀.size - lo) (by omega) (by omega) fun n ar1 n1 n2 ch1 sg1 => ?_)
    dsimp only
    have pm1 := ch1.perm.trans pm
    have R1 : Rn L ar1 0 pe.toList lo := R.same fun i h1 h2 => ch1.same i (.inl h2)
    by_cases e2 : n < mr
    · rw [if_pos e2]
      refine wpS_bind (wpS_lift (wpAny_rule ⟨rfl, ?_⟩))
      refine wpS_bind (wpS_bin C (hP.perm pm1) (lo := lo) (n := min (a₀.size - lo) mr) (ok := n) (by rw [pm1.size_eq]; omega) n1 (by omega) sg1 fun ar2 ch2 sg2 => ?_)
      rw [if_neg (by decide)]
      have pm2 := ch2.perm.trans pm1
      have R2 : Rn L ar2 0 pe.toList lo := R1.same fun i h1 h2 => ch2.same i (.inl h2)
      have hN : 1 ≤ min (a₀.size - lo) mr := by omega
      refine wpS_bind (wpS_get ?_)
      rw [show (pendingOf (SS κ ar2 pe g)).back? = pe.back? from rfl]
      cases pe.back? with
      | none =>
        dsimp only
        refine wpS_bind (wpS_modify ?_)
        exact wpS_pure ⟨lo + min (a₀.size - lo) mr, ar2, pe.push (lo, min (a₀.size - lo) mr, 0), g, rfl, rfl, pm2, by rw [Array.toList_push]; exact R2.cat ⟨rfl, hN, sg2, rfl⟩, by omega, by omega⟩
      | some bk =>
        obtain ⟨s1, m1, b2⟩ := bk
        dsimp only
        refine wpS_bind (wpS_mono (wpS_forRange (I := fun _ c st' => ∃ ar pe g, c = (none, ()) ∧ st' = SS κ ar pe g ∧ ar.Perm a₀ ∧ Rn L ar 0 pe.toList lo ∧ Seg L ar lo (lo + min (a₀.size - lo) mr))
          (Q := fun c st' => ∃ ar pe g, c = (none, ()) ∧ st' = SS κ ar pe g ∧ ar.Perm a₀ ∧ Rn L ar 0 pe.toList lo ∧ Seg L ar lo (lo + min (a₀.size - lo) mr)) ?_ (fun _ _ z => z) ⟨_, _, _, rfl, rfl, pm2, R2, sg2⟩) ?_)
        · rintro y c st' _ _ ⟨ar3, pe3, g3, rfl, rfl, pm3, R3, sg3⟩
          refine wpS_bind (wpS_get ?_)
          by_cases q1 : pe3.size > 1
          · rw [if_pos (show (pendingOf (SS κ ar3 pe3 g3)).size > 1 from q1)]
            rw [show (pendingOf (SS κ ar3 pe3 g3))[(pendingOf (SS κ ar3 pe3 g3)).size - 2]? = pe3[pe3.size - 2]? from rfl]
            cases pe3[pe3.size - 2]? with
            | none => exact wpS_pure ⟨_, _, _, rfl, rfl, pm3, R3, sg3⟩
            | some o =>
              obtain ⟨o1, o2, o3⟩ := o
              dsimp only
              refine wpS_ite (wpS_pure ⟨_, _, _, rfl, rfl, pm3, R3, sg3⟩) ?_
              refine wpS_bind (wpS_mergeRun C (hP.perm pm3) R3 (by rw [pm3.size_eq]; omega) (show pe3.size - 2 + 1 < pe3.size by omega) fun ar4 pe4 g4 ch4 R4 _ => ?_)
              exact wpS_pure ⟨ar4, pe4, g4, rfl, rfl, ch4.perm.trans pm3, R4, seg_same sg3 fun i h1 h2 => ch4.same i (.inr h1)⟩
          · rw [if_neg (show ¬ (pendingOf (SS κ ar3 pe3 g3)).size > 1 from q1)]
            exact wpS_pure ⟨_, _, _, rfl, rfl, pm3, R3, sg3⟩
        · rintro c st' ⟨ar3, pe3, g3, rfl, rfl, pm3, R3, sg3⟩
          dsimp only
          refine wpS_bind (wpS_modify (wpS_bind (wpS_modify ?_)))
          refine wpS_pure ⟨lo + min (a₀.size - lo) mr, ar3, (pe3.modify (pe3.size - 1) fun x => (x.fst, x.2.fst, power' a₀.size (2 * s1 + m1) (2 * s1 + m1 + m1 + min (a₀.size - lo) mr) a₀.size)).push (lo, min (a₀.size - lo) mr, 0), g3, rfl, rfl, pm3, ?_, by omega, by omega⟩
          rw [Array.toList_push, Array.toList_modify]
          exact Rn.cat (by have := rn_pow (pw := power' a₀.size (2 * s1 + m1) (2 * s1 + m1 + m1 + min (a₀.size - lo) mr) a₀.size) R3; simpa using this) ⟨rfl, hN, sg3, rfl⟩
    · rw [if_neg e2]
      have pm2 := pm1
      have R2 := R1
      have sg2 := sg1
      have hN := n1
      refine wpS_bind (wpS_get ?_)
      rw [show (pendingOf (SS κ ar1 pe g)).back? = pe.back? from rfl]
      cases pe.back? with
      | none =>
        dsimp only
        refine wpS_bind (wpS_modify ?_)
        exact wpS_pure ⟨lo + n, ar1, pe.push (lo, n, 0), g, rfl, rfl, pm2, by rw [Array.toList_push]; exact R2.cat ⟨rfl, hN, sg2, rfl⟩, by omega, by omega⟩
      | some bk =>
        obtain ⟨s1, m1, b2⟩ := bk
        dsimp only
        refine wpS_bind (wpS_mono (wpS_forRange (I := fun _ c st' => ∃ ar pe g, c = (none, ()) ∧ st' = SS κ ar pe g ∧ ar.Perm a₀ ∧ Rn L ar 0 pe.toList lo ∧ Seg L ar lo (lo + n))
          (Q := fun c st' => ∃ ar pe g, c = (none, ()) ∧ st' = SS κ ar pe g ∧ ar.Perm a₀ ∧ Rn L ar 0 pe.toList lo ∧ Seg L ar lo (lo + n)) ?_ (fun _ _ z => z) ⟨_, _, _, rfl, rfl, pm2, R2, sg2⟩) ?_)
        · rintro y c st' _ _ ⟨ar3, pe3, g3, rfl, rfl, pm3, R3, sg3⟩
          refine wpS_bind (wpS_get ?_)
          by_cases q1 : pe3.size > 1
          · rw [if_pos (show (pendingOf (SS κ ar3 pe3 g3)).size > 1 from q1)]
            rw [show (pendingOf (SS κ ar3 pe3 g3))[(pendingOf (SS κ ar3 pe3 g3)).size - 2]? = pe3[pe3.size - 2]? from rfl]
            cases pe3[pe3.size - 2]? with
            | none => exact wpS_pure ⟨_, _, _, rfl, rfl, pm3, R3, sg3⟩
            | some o =>
              obtain ⟨o1, o2, o3⟩ := o
              dsimp only
              refine wpS_ite (wpS_pure ⟨_, _, _, rfl, rfl, pm3, R3, sg3⟩) ?_
              refine wpS_bind (wpS_mergeRun C (hP.perm pm3) R3 (by rw [pm3.size_eq]; omega) (show pe3.size - 2 + 1 < pe3.size by omega) fun ar4 pe4 g4 ch4 R4 _ => ?_)
              exact wpS_pure ⟨ar4, pe4, g4, rfl, rfl, ch4.perm.trans pm3, R4, seg_same sg3 fun i h1 h2 => ch4.same i (.inr h1)⟩
          · rw [if_neg (show ¬ (pendingOf (SS κ ar3 pe3 g3)).size > 1 from q1)]
            exact wpS_pure ⟨_, _, _, rfl, rfl, pm3, R3, sg3⟩
        · rintro c st' ⟨ar3, pe3, g3, rfl, rfl, pm3, R3, sg3⟩
          dsimp only
          refine wpS_bind (wpS_modify (wpS_bind (wpS_modify ?_)))
          refine wpS_pure ⟨lo + n, ar3, (pe3.modify (pe3.size - 1) fun x => (x.fst, x.2.fst, power' a₀.size (2 * s1 + m1) (2 * s1 + m1 + m1 + n) a₀.size)).push (lo, n, 0), g3, rfl, rfl, pm3, ?_, by omega, by omega⟩
          rw [Array.toList_push, Array.toList_modify]
          exact Rn.cat (by have := rn_pow (pw := power' a₀.size (2 * s1 + m1) (2 * s1 + m1 + m1 + n) a₀.size) R3; simpa using this) ⟨rfl, hN, sg3, rfl⟩
end
end L2
set_option Elab.async false
set_option linter.all false
set_option maxRecDepth 100000
set_option maxHeartbeats 1000000
namespace L2
open PySem PySem.W PySem.Calls PyProof.Rows
section
variable {prog : Program} {w : World} {A : Around} {E : Value → Shared → Prop} {s : Shared} {κ : SortKind} {P : Keyed → Prop} {L : Keyed → Keyed → Bool}
theorem Cmp.of (lt : ∀ x y, P x → P y → ∀ Q : Bool → Shared → Prop, Q (L x y) s → wpAny (model prog w) A (keyLt' κ x.1 y.1) Q (fun _ _ => False) s) (tr : ∀ x y z, P x → P y → P z → L y x = false → L z y = false → L z x = false) (as : ∀ x y, L x y = true → L y x = false) : Cmp prog w A E s κ P L := by
  refine ⟨fun x y hx hy st Q hk h => ?_, tr, as⟩
  rw [lt'_eq]
  refine wpS_bind (wpS_get ?_)
  rw [hk]
  refine wpS_bind (wpS_lift (wpAny_attempt (wpAny_mono (lt x y hx hy (fun b s' => s' = s ∧ b = L x y) ⟨rfl, rfl⟩) (fun b s' hb => ?_) fun _ _ z => z.elim)))
  obtain ⟨rfl, rfl⟩ := hb
  exact ⟨rfl, wpS_pure h⟩
theorem sort_big {a : Addr} {us : List Value} {n : Nat} {P : PySem.Fin → Shared → Prop} (ho : s.heap.get? a = some (seqObj "list" us.toArray n)) (hz : us.length ≤ 100000)
    (few : us.length < 2 → P (.done (.ret .none)) { s with heap := sortedHeap s.heap a us us.toArray })
    (many : 2 ≤ us.length → ∀ g : Heap, (∀ c o, c ≠ a → s.heap.get? c = some o → g.get? c = some o) → wpAny (model prog w) A (keyKind' us.toArray) (fun κ t => t = { s with heap := g } ∧
      ∃ Pk L, Cmp prog w A E { s with heap := g } κ Pk L ∧ AlP Pk (us.toArray.zip us.toArray) ∧ DsL L (us.toArray.zip us.toArray) ∧ ∀ ar : Array Keyed, ar.Perm (us.toArray.zip us.toArray) → Seg L ar 0 us.length → P (.done (.ret .none)) { s with heap := sortedHeap s.heap a us (ar.map (·.2)) }) (fun _ _ => False) { s with heap := g }) :
    wpAny (model prog w) A (Builtin.«list.sort» ⟨[.ref a], []⟩) P E s := by
  have la : a < s.heap.objs.size := Heap.lt_size ho
  have z1 : us.toArray.size ≤ sizeLine := by rw [List.size_toArray, sizeLine_eq]; omega
  obtain ⟨c1, h1⟩ : ∃ c, (s.heap.update a (Obj.mapSeq fun _ => #[])).get? a = some (seqObj "list" #[] c) := ⟨_, get?_update_seq ho (fun _ => #[])⟩
  have h2 : (((s.heap.update a (Obj.mapSeq fun _ => #[])).push (seqObj "tuple" us.toArray 0)).push (seqObj "list" #[] 0)).get? a = some (seqObj "list" #[] c1) := Heap.get?_push_of_some _ (Heap.get?_push_of_some _ h1)
  have kp : ∀ c o, c ≠ a → s.heap.get? c = some o → (((s.heap.update a (Obj.mapSeq fun _ => #[])).push (seqObj "tuple" us.toArray 0)).push (seqObj "list" #[] 0)).get? c = some o := fun c o nc e =>
    Heap.get?_push_of_some _ (Heap.get?_push_of_some _ (by rw [Heap.get?_update_ne _ _ _ _ nc]; exact e))
  rw [list_sort_plain]
  refine wpAny_bind (listItems_at ho rfl (wpAny_bind (listUpdate_at ho rfl ?_ z1 (Nat.zero_le _))))
  refine wpAny_bind (seqEpoch_at h1 rfl (wpAny_bind (wpAny_newTuple ?_ (show us.length ≤ _ by rw [sizeLine_eq]; omega))))
  refine wpAny_bind (wpAny_newList (wpAny_holding ?_) (Nat.zero_le _))
  show wpAny (model prog w) A _ P E { s with heap := ((s.heap.update a (Obj.mapSeq fun _ => #[])).push (seqObj "tuple" us.toArray 0)).push (seqObj "list" #[] 0) }
  dsimp only
  by_cases hs : us.toArray.size < 2
  · rw [if_pos hs, if_pos hs]
    refine wpAny_bind (wpAny_pure ?_)
    rw [StateT.run_pure]
    refine wpAny_bind (wpAny_pure ?_)
    dsimp only
    have ea : Array.map (fun x => x.2) (us.toArray.zip us.toArray) = us.toArray := by
      apply Array.toList_inj.mp
      simp [List.map_snd_zip]
    refine wpAny_bind (seqEpoch_at h2 rfl (wpAny_bind (listUpdate_at h2 rfl ?_ (Nat.zero_le _) ?_)))
    · simp only [bne_self_eq_false, Bool.false_eq_true, if_false]
      refine wpAny_pure ?_
      have := few (by simpa using hs)
      show P _ { s with heap := sortedHeap s.heap a us (Array.map (fun x => x.2) (us.toArray.zip us.toArray)) }
      rw [ea]; exact this
    · show (Array.map (fun x => x.2) (us.toArray.zip us.toArray)).size ≤ _
      rw [ea]; exact Nat.le_succ_of_le z1
  · rw [if_neg hs, if_neg hs]
    have h2' : 2 ≤ us.length := by simpa using hs
    have zp : (us.toArray.zip us.toArray).size = us.length := by simp
    refine wpAny_bind (wpAny_mono (many h2' _ kp) (fun κ t ht => ?_) fun _ _ x => x.elim)
    obtain ⟨et, Pk, L, C, hP, hD, fin⟩ := ht
    subst et
    refine wpAny_bind (wpAny_mono (wpS_sorted C hP hD (by rw [zp]; omega) (g := 7) (Q := fun _ st => failedOf st = none ∧ (arrOf st).Perm (us.toArray.zip us.toArray) ∧ Seg L (arrOf st) 0 us.length) fun st' a1 a2 a3 => ⟨a2, a1, by rw [zp] at a3; exact a3⟩) (fun r t' hr => ?_) fun _ _ x => x)
    obtain ⟨u, st⟩ := r
    obtain ⟨e1, hf, pm, sg⟩ := hr
    subst e1
    dsimp only at hf pm sg ⊢
    rw [hf]
    have zz : ((arrOf st).map (·.2)).size ≤ sizeLine := by rw [Array.size_map, pm.size_eq, zp, sizeLine_eq]; omega
    refine wpAny_bind (seqEpoch_at h2 rfl (wpAny_bind (listUpdate_at h2 rfl ?_ (Nat.zero_le _) (Nat.le_succ_of_le zz))))
    simp only [bne_self_eq_false, Bool.false_eq_true, if_false]
    exact wpAny_pure (fin _ pm sg)
end
def ikey (x : Keyed) : Int := match x.1 with
  | .int k _ => k
  | _ => 0
section
variable {prog : Program} {w : World} {A : Around} {E : Value → Shared → Prop} {s : Shared}
theorem sorted_dictB {d : Addr} {ns : List Int} {vs : List (Key × Value)} {Q : Value → Shared → Prop} (hk : vs.map (·.1) = ns.map Sum.inl) (hd : s.heap.DictOf (mixKind prog w) d vs) (lo : (d == sysModules) = false) (hh : A.handled = none) (hz : ns.length ≤ 100000) (nd : ns.Nodup)
    (fin : ∀ (g : Heap) (tk a e : Nat) (us : List Value), (∀ c o, s.heap.get? c = some o → g.get? c = some o) → s.heap.objs.size ≤ a → IntV us (isortG ltI ns) → g.get? a = some (seqObj "list" us.toArray e) → Q (.ref a) { s with heap := g, toks := tk }) :
    wpAny (model prog w) A (call (.builtin "sorted") [.ref d]) Q E s := by
  obtain ⟨ep, hd'⟩ := hd.dictAt
  have lv : vs.length = ns.length := by have := congrArg List.length hk; simpa using this
  refine Calls.call_function_entry kind_sorted plain_sorted entry_sorted (args_sorted1 _) ?_
  unfold Builtin.«sorted»
  refine wpAny_bind (m := checkCount "sorted" 1 1 _) (wpAny_pure (wpAny_bind (gather_src (A := A.in1) (kdl_dict lo) hh hd' (by rw [lv, sizeLine_eq]; omega) fun g tk acc kg sg0 hacc => ?_)))
  obtain ⟨us, hus⟩ : ∃ us, us = acc.toList := ⟨_, rfl⟩
  rw [← hus]
  have hl : us.length = ns.length := by rw [hus, Array.length_toList, hacc.1, lv]
  have gi : ∀ i, i < ns.length → ∃ t, us.getD i Value.none = Value.int (ns.getD i 0) t := fun i hi => by
    have e2 : us[i]? = some us[i] := List.getElem?_eq_getElem (by omega)
    have e3 : acc[i]? = some us[i] := by rw [← Array.getElem?_toList, ← hus]; exact e2
    obtain ⟨k, x, h1, h2⟩ := hacc.2 i _ e3
    have h3 : (vs.map (·.1))[i]? = some k := by rw [List.getElem?_map, h1]; rfl
    rw [hk, List.getElem?_map, List.getElem?_eq_getElem hi] at h3
    cases h3
    rw [mixKind_is] at h2
    rcases keyIs_shape h2 with ⟨j, t, q1, q2⟩ | ⟨_, _, q1, _⟩
    · cases q1
      exact ⟨t, by simp [List.getD, e2, q2, List.getElem?_eq_getElem hi]⟩
    · cases q1
  have pickI : ∀ (ix : List Nat) (ms : List Int), ix.map (fun i => ns.getD i 0) = ms → (∀ i ∈ ix, i < ns.length) → IntV (ix.map fun i => us.getD i Value.none) ms := by
    intro ix
    induction ix with
    | nil => intro ms e _; rw [← e]; exact .nil
    | cons i ix ih =>
      intro ms e hi
      rw [← e, List.map_cons, List.map_cons]
      exact .cons (gi i (hi i List.mem_cons_self)) (ih _ rfl fun j hj => hi j (List.mem_cons_of_mem _ hj))
  have sg : s.heap.objs.size ≤ g.objs.size := Nat.le_of_lt sg0
  refine wpAny_bind (wpAny_newList ?_ (by rw [sizeLine_eq]; omega))
  have hL : (g.push (seqObj "list" us.toArray 0)).get? g.objs.size = some (seqObj "list" us.toArray 0) := Heap.get?_push_size _ rfl
  show wpAny _ _ _ _ _ { s with heap := g.push (seqObj "list" us.toArray 0), toks := tk }
  have end_ : ∀ out : Array Value, IntV out.toList (isortG ltI ns) → Q (.ref g.objs.size) { s with heap := sortedHeap (g.push (seqObj "list" us.toArray 0)) g.objs.size us out, toks := tk } := fun out hG => by
    obtain ⟨e, he⟩ := sortedHeap_at (out := out) hL
    refine fin _ tk g.objs.size e out.toList (fun c u hu => ?_) sg hG he
    have lt := Heap.lt_size (kg c u hu)
    rw [sortedHeap_old (Nat.ne_of_lt lt) (by rw [size_push']; exact Nat.lt_succ_of_lt lt)]
    exact Heap.get?_push_of_some _ (kg c u hu)
  have full : IntV us ns := by
    have := pickI (List.range us.length) ns (by rw [hl]; exact range_getD _ _) fun i hi => by rw [List.mem_range] at hi; omega
    rw [show (List.range us.length).map (fun i => us.getD i Value.none) = us from List.ext_getElem? fun i => by
      by_cases hi : i < us.length
      · simp [hi]
      · simp [hi]] at this
    exact this
  refine wpAny_bind (wpAny_holding (wpAny_call_entry slot_list_sort ⟨_, hL, rfl⟩ entry_list_sort (sort_big (P := fun f t => ∃ v, f = .done (.ret v) ∧ wpAny (model prog w) A.in1 (pure (PySem.Fin.done (.ret (Value.ref g.objs.size)))) (fun f t => ∃ v, f = .done (.ret v) ∧ Q v t) E t) hL (by omega) (fun h => ?_) (fun h g' kg' => ?_)) (args_list_sort _)))
  · exact ⟨_, rfl, wpAny_pure ⟨_, rfl, end_ us.toArray (by rw [isortG_short (by omega)]; exact full)⟩⟩
  · refine kas_kind (T := .type "int") h (fun v hv' => ?_) (by rfl) (by rfl) ⟨rfl, ?_⟩
    · obtain ⟨i, hi, rfl⟩ := List.getElem_of_mem hv'
      obtain ⟨t, e⟩ := gi i (by omega)
      have : us[i] = us.getD i Value.none := by simp [List.getD, List.getElem?_eq_getElem hi]
      rw [this, e]
      exact Looks.now
    · have zl : (us.toArray.zip us.toArray).toList = us.map fun v => (v, v) := by simp [List.zip_eq_zipWith, List.zipWith_self]
      have itm : ∀ x ∈ (us.toArray.zip us.toArray).toList, ∃ k t, x = (Value.int k t, Value.int k t) := fun x hx => by
        rw [zl] at hx
        obtain ⟨v, hv, rfl⟩ := List.mem_map.mp hx
        obtain ⟨i, hi, rfl⟩ := List.getElem_of_mem hv
        obtain ⟨t, e⟩ := gi i (by omega)
        have : us[i] = us.getD i Value.none := by simp [List.getD, List.getElem?_eq_getElem hi]
        rw [this, e]
        exact ⟨_, t, rfl⟩
      have fst : (us.toArray.zip us.toArray).toList.map ikey = ns := by
        rw [zl, List.map_map]
        refine List.ext_getElem? fun i => ?_
        by_cases hi : i < ns.length
        · obtain ⟨t, e⟩ := gi i hi
          have : us[i]? = some (us.getD i Value.none) := by simp [List.getD, List.getElem?_eq_getElem (show i < us.length by omega)]
          rw [List.getElem?_map, this, e, List.getElem?_eq_getElem hi]
          simp [ikey, List.getD, List.getElem?_eq_getElem hi]
        · rw [List.getElem?_eq_none (by rw [List.length_map]; omega), List.getElem?_eq_none (by omega)]
      refine ⟨fun x => ∃ k t, x = (Value.int k t, Value.int k t), fun x y => ltI (ikey x) (ikey y), Cmp.of (fun x y hx hy Q' hQ => ?_) (fun x y z _ _ _ h1 h2 => ?_) (fun x y h1 => ?_), itm, ?_, fun ar pm sg => ⟨_, rfl, wpAny_pure ⟨_, rfl, end_ _ ?_⟩⟩⟩
      · obtain ⟨k, t, rfl⟩ := hx
        obtain ⟨k', t', rfl⟩ := hy
        exact kat_lt_int hQ
      · simp only [ltI, decide_eq_false_iff_not] at *; omega
      · simp only [ltI, decide_eq_false_iff_not, decide_eq_true_eq] at *; omega
      · have : ((us.toArray.zip us.toArray).toList.map ikey).Pairwise fun x y => ltI x y = true ∨ ltI y x = true := by
          rw [fst]
          refine List.Pairwise.imp (fun {x y} hxy => ?_) nd
          simp only [ltI, decide_eq_true_eq]; omega
        rw [List.pairwise_map] at this
        exact this
      · have pl := pm.toList
        have e1 : ar.toList.map ikey = isortG ltI ns := isortG_eq lt_I (by rw [← fst]; exact pl.map ikey) (by
          rw [List.pairwise_map, List.pairwise_iff_getElem]
          intro i j hi hj hij
          have := sg i j (Nat.zero_le _) (by omega) (by
            have := pl.length_eq
            rw [zl, List.length_map] at this
            omega)
          have hi' : i < ar.size := by simpa using hi
          have hj' : j < ar.size := by simpa using hj
          simpa [Array.getD, hi', hj'] using this)
        rw [← e1, Array.toList_map]
        have al : ∀ x ∈ ar.toList, ∃ k t, x = (Value.int k t, Value.int k t) := fun x hx => itm x (pl.mem_iff.mp hx)
        generalize ar.toList = l at al
        induction l with
        | nil => exact .nil
        | cons x l ih =>
          rw [List.map_cons, List.map_cons]
          refine .cons ?_ (ih fun y hy => al y (List.mem_cons_of_mem _ hy))
          obtain ⟨k, t, rfl⟩ := al x List.mem_cons_self
          exact ⟨t, rfl⟩
end
section
variable {X : Cx} {c : Ct} {pos p py : Pos} {x y : Str}
theorem call_sortedKB (hc : X.calm = true) : CallR X (.builtin "sorted") (fun xs H Q => ∃ a us ns, xs = [.ref a] ∧ H a = some (.dK us) ∧ us.map (·.1) = ns.map Sum.inl ∧ (ns.length ≤ 100000 ∧ ns.Nodup) ∧ ∀ l, H l = none → Q (.ref l) (upd H l (.lst ((isortG ltI ns).map V.int)))) := by
  intro pins s σ H xs us Q I r h
  obtain ⟨a, kvs, ns, rfl, ha, hk, hz, q⟩ := h
  obtain ⟨u, rfl, rx⟩ := vals1 r
  cases rx
  obtain ⟨z, lo, vs, rel, dd⟩ := dk_of I.hok ha
  refine sorted_dictB (vs := vs) (by rw [← rel.keys, hk]) dd lo (I.ok.hd hc) hz.1 hz.2 fun g tk a' e us kg sg hi hg => ?_
  have hn : H a' = none := I.hok.fresh sg
  refine ⟨.ref a', _, I.laid (t' := tk) (o := .lst ((isortG ltI ns).map V.int)) kg sg ?_, rfl, q a' hn⟩
  have ll : (isortG ltI ns).length = ns.length := (isortG_perm (lt := ltI) ns).length_eq
  exact ⟨by rw [List.length_map, ll, sizeLine_eq]; omega, us, e, vals_int hi, hg⟩
def dsrtB (i : Nat) : FE := fun ρ => (getK i ρ).bind fun kvs => (intKeys kvs).bind fun ns => if ns.length ≤ 100000 ∧ ns.Nodup then some (.lst ((isortG ltI ns).map D.int)) else none
theorem dp_dsrtB (i : Nat) (hcm : X.calm = true) (hm : X.mg "sorted" = none) (hN : X.N[i]? = some y := by rfl) (hv' : Vis X.env.scope y := by first | exact Or.inl rfl | exact Or.inr (Or.inl rfl) | exact Or.inr (Or.inr rfl)) (hd : (y == ("__debug__" : Str)) = false := by decide)
    (hcd : (y == ("__classdict__" : Str)) = false := by decide) (hg : Gl X "sorted" := by rfl) (hv : bootBuiltins "sorted" = some (.builtin "sorted") := by kernel_rfl)
    (he : starEach [.Name y py] X.env = (false, eval (.Name y py) X.env) :: starEach [] X.env := by rfl) (hpl : (backTo pos (starEach [] X.env)).any (·.1) = false := by rfl) : DP X c .n (.Call (.Name "sorted" p) [.Name y py] [] pos) (dsrtB i) := fun hid ρ =>
  PE.imp (pe_callB (call_sortedKB hcm) hg hm hv (pa_cons (pv i hN hv' hd hcd) pa_nil he) (by decide) (by decide) he hpl) fun σ H Q hq_ => by
    obtain ⟨sr, d, hd, q⟩ := hq_
    obtain ⟨kvs, e0, hd⟩ := Option.bind_eq_some_iff.mp hd
    obtain ⟨ns, e1, hd⟩ := Option.bind_eq_some_iff.mp hd
    split at hd
    · rename_i hz
      cases hd
      obtain ⟨a, us, a1, a2, a3, a4, a5⟩ := sr.dict e0
      refine ⟨.ref a, a1, a, us, ns, rfl, a4, by rw [a5.1]; exact intKeys_eq e1, hz, fun l hl => q _ _ (same_new hl _) ⟨l, _, _, rfl, rfl, hl, upd_same, ?_⟩⟩
      exact ints_reps _
    · cases hd
end
end L2
set_option Elab.async false
set_option linter.all false
set_option maxRecDepth 100000
set_option maxHeartbeats 4000000
namespace L2
open PySem PySem.Spec PyProof.Rows
def top (i : Nat) : Stmt := PySem.Challenge.pw_rookborders_k60_sums_multiplied.main.body.getD i (.Pass ⟨0, 0, 0, 0⟩)
structure Bt (mg : Str → Option Value) : Prop where
  b_abs : mg "abs" = none
  b_all : mg "all" = none
  b_bool : mg "bool" = none
  b_int : mg "int" = none
  b_isinstance : mg "isinstance" = none
  b_len : mg "len" = none
  b_list : mg "list" = none
  b_min : mg "min" = none
  b_range : mg "range" = none
  b_sorted : mg "sorted" = none
  b_sum : mg "sum" = none
  b_tuple : mg "tuple" = none
  b_zip : mg "zip" = none
theorem nd_0 : (["tuples", "found", "?power", "many", "power"] : List Str).Nodup := by decide +kernel
theorem nd_1 : (["one", "other", "power", "many", "raised", "often"] : List Str).Nodup := by decide +kernel
theorem nd_2 : (["one", "power", "many"] : List Str).Nodup := by decide +kernel
theorem nd_3 : (["_law_found", "?_law_one", "_law_one"] : List Str).Nodup := by decide +kernel
theorem nd_4 : (["_law_found", "?_law_one", "_law_one", "_law_two"] : List Str).Nodup := by decide +kernel
theorem nd_5 : (["_law_tuples_here", "_law_many", "?_law_power", "_law_number", "_law_power"] : List Str).Nodup := by decide +kernel
theorem nd_6 : (["_law_one", "_law_other", "_law_found", "_law_power", "_law_number", "_law_more", "_law_often"] : List Str).Nodup := by decide +kernel
theorem nd_7 : (["_law_one", "_law_other", "_law_handed", "_law_found", "_law_worth", "_law_again", "_law_power", "_law_number"] : List Str).Nodup := by decide +kernel
theorem nd_8 : (["_law_script", "_law_k", "_law_bag_here", "_law_one", "_law_other", "_law_pair", "_law_power", "_law_number"] : List Str).Nodup := by decide +kernel
section
variable {P : Program} {w : World} {K : PySem.W.Frag} {mg : Str → Option Value} {base : Heap}
abbrev s_tidy : Stmt := top 1
abbrev s_times : Stmt := top 2
abbrev s_at_one : Stmt := top 3
abbrev s_law_cell : Stmt := top 5
abbrev s_law_bag : Stmt := top 6
abbrev s_law_take : Stmt := top 7
abbrev s_law_whole : Stmt := top 8
abbrev s_law_is_sum : Stmt := top 9
abbrev s_law_summed : Stmt := top 10
abbrev s_law_product : Stmt := top 11
abbrev s_law_tuples : Stmt := top 12
abbrev s_law_right : Stmt := top 13
abbrev s_law : Stmt := top 14
theorem sc_tidy : FnScope ["tuples", "found", "power", "many"] ["tuples"] (defScope s_tidy) := ⟨rfl, rfl, rfl, by decide +kernel, rfl, by decide +kernel, by decide +kernel⟩
def t_tidy : FS :=
  seqS (dnewS 1)
  (seqS (forS (puA (seqA (nmF 0))) (gT 2 (gsC (gN 2) (gsC (gN 3) (gsN)))) (dputS 1 (nmF 2) (op2 addF (dgetF 1 (nmF 2) (cst (.int 0))) (nmF 3))))
  (retF (compF 1 (seqA (dsrtB 1)) (gN 4) (toB (op2 neF (dixF 1 (nmF 4)) (cst (.int 0)))) (tupF (consA (nmF 4) (consA (dixF 1 (nmF 4)) (nilA)))))))
def m_tidy : List D → Option D := fnP .n 4 t_tidy
theorem k_tidy (B : Bt mg) (F : Df K mg "tidy" s_tidy ["tuples"])  : Cl P w K mg base 1 "tidy" ["tuples"] (spP K .n 1 m_tidy) := by
  refine cl_pure (k := 0) F sc_tidy (by decide) rfl fun _ cdv A outer s H hid E hr => ?_
  exact (dss_cons (ds_dnew 1 sc_tidy.nd)
      (dss_cons (ds_for PassesOwn.never rfl (DIp.e (dip_seq (dp_nm 0))) (dgt_tup (n := 2) rfl (dgs_cons (dgt_name 2 sc_tidy.nd) (dgs_cons (dgt_name 3 sc_tidy.nd) dgs_nil))) (dss_one (ds_dput 1 (hu_of hr) (dp_nm 2) (dp_add (dp_dget 1 (hu_of hr) (dp_nm 2) dp_int ⟨rfl, rfl, rfl, rfl⟩) (dp_nm 3)))))
      (dss_one (ds_ret (dp_comp (N' := ["tuples", "found", "?power", "many", "power"]) rfl (tail_n (Nat.le_of_ble_eq_true rfl)) (DIp.b (dip_seq (DP.toS (dp_dsrtB 1 rfl B.b_sorted)))) (fun _ _ _ _ => (dgt_name 4 nd_0)) (fun _ _ _ _ => (dif_one (dt_cmp (op_neD hr.units) od_ne (dp_dix 1 (hu_of hr) (dp_nm 4) (fun _ _ => rfl)) dp_int (nomark _)))) (fun _ _ _ _ => (dp_tup (da_cons (dp_nm 4) (da_cons (dp_dix 1 (hu_of hr) (dp_nm 4) (fun _ _ => rfl)) da_nil)))))))))
theorem sc_times : FnScope ["one", "other"] ["one", "other"] (defScope s_times) := ⟨rfl, rfl, rfl, by decide +kernel, rfl, by decide +kernel, by decide +kernel⟩
def t_times : FS :=
  retF (callF (nF 1 m_tidy) (consA (cp2F 4 (seqA (nmF 0)) (gT 2 (gsC (gN 2) (gsC (gN 3) (gsN)))) (yesT) (seqA (nmF 1)) (gT 2 (gsC (gN 4) (gsC (gN 5) (gsN)))) (yesT) (tupF (consA (op2 addF (nmF 2) (nmF 4)) (consA (op2 mulF (nmF 3) (nmF 5)) (nilA))))) (nilA)))
def m_times : List D → Option D := fnP .n 2 t_times
theorem k_times (B : Bt mg) (F : Df K mg "times" s_times ["one", "other"]) (c_tidy : Cl P w K mg base 1 "tidy" ["tuples"] (spP K .n 1 m_tidy)) : Cl P w K mg base 2 "times" ["one", "other"] (spP K .n 2 m_times) := by
  refine cl_pure (k := 1) F sc_times (by decide) rfl fun _ cdv A outer s H hid E hr => ?_
  exact (dss_one (ds_ret (dp_cl c_tidy (hr.mono (by decide)) (da_cons (DP.toS (dp_comp2 (N' := ["one", "other", "power", "many", "raised", "often"]) rfl 4 (tail_t (tails_cons (tail_n (Nat.le_of_ble_eq_true rfl)) (tails_cons (tail_n (Nat.le_of_ble_eq_true rfl)) tails_nil))) (up_t (ups_cons (up_n (Nat.le_of_ble_eq_true rfl)) (ups_cons (up_n (Nat.le_of_ble_eq_true rfl)) ups_nil))) (tail_t (tails_cons (tail_n (Nat.le_of_ble_eq_true rfl)) (tails_cons (tail_n (Nat.le_of_ble_eq_true rfl)) tails_nil))) (DIp.b (dip_seq (dp_nm 0))) (fun _ _ _ _ => (dgt_tup (n := 2) rfl (dgs_cons (dgt_name 2 nd_1) (dgs_cons (dgt_name 3 nd_1) dgs_nil)))) (fun _ _ _ _ => dif_nil) (fun _ _ _ _ => (dip_seq (dp_nm 1))) (fun _ _ _ _ => (dgt_tup (n := 2) rfl (dgs_cons (dgt_name 4 nd_1) (dgs_cons (dgt_name 5 nd_1) dgs_nil)))) (fun _ _ _ _ => dif_nil) (fun _ _ _ _ => (dp_tup (da_cons (dp_add (dp_nm 2) (dp_nm 4)) (da_cons (dp_mul (dp_nm 3) (dp_nm 5)) da_nil)))))) da_nil))))
theorem sc_at_one : FnScope ["one"] ["one"] (defScope s_at_one) := ⟨rfl, rfl, rfl, by decide +kernel, rfl, by decide +kernel, by decide +kernel⟩
def t_at_one : FS :=
  retF (callF sumD (consA (compF 2 (seqA (nmF 0)) (gT 2 (gsC (gN 1) (gsC (gN 2) (gsN)))) (yesT) (nmF 2)) (nilA)))
def m_at_one : List D → Option D := fnP .s 1 t_at_one
theorem k_at_one (B : Bt mg) (F : Df K mg "at_one" s_at_one ["one"])  : Cl P w K mg base 1 "at_one" ["one"] (spP K .s 1 m_at_one) := by
  refine cl_pure (k := 0) F sc_at_one (by decide) rfl fun _ cdv A outer s H hid E hr => ?_
  exact (dss_one (ds_ret (dp_callB (call_sum rfl) cd_sum B.b_sum (db_cons (dp_comp (N' := ["one", "power", "many"]) rfl (tail_t (tails_cons (tail_n (Nat.le_of_ble_eq_true rfl)) (tails_cons (tail_n (Nat.le_of_ble_eq_true rfl)) tails_nil))) (DIp.b (dip_seq (dp_nm 0))) (fun _ _ _ _ => (dgt_tup (n := 2) rfl (dgs_cons (dgt_name 1 nd_2) (dgs_cons (dgt_name 2 nd_2) dgs_nil)))) (fun _ _ _ _ => dif_nil) (fun _ _ _ _ => (dp_nm 2))) db_nil) (hv := by kernel_rfl))))
theorem sc_law_cell : FnScope ["_law_script", "_law_k"] ["_law_script", "_law_k"] (defScope s_law_cell) := ⟨rfl, rfl, rfl, by decide +kernel, rfl, by decide +kernel, by decide +kernel⟩
def t_law_cell : FS :=
  seqS (ifS (toB (op2 ltF (nmF 1) (callF lenD (consA (nmF 0) (nilA))))) (retF (op2 ixD (nmF 0) (nmF 1))) (skip))
  (retF (cst (.int 0)))
def m_law_cell : List D → Option D := fnP .s 2 t_law_cell
theorem k_law_cell (B : Bt mg) (F : Df K mg "_law_cell" s_law_cell ["_law_script", "_law_k"])  : Cl P w K mg base 1 "_law_cell" ["_law_script", "_law_k"] (spP K .s 2 m_law_cell) := by
  refine cl_pure (k := 0) F sc_law_cell (by decide) rfl fun _ cdv A outer s H hid E hr => ?_
  exact (dss_cons (ds_if (dt_cmp op_lt od_B0 (dp_nm 1) (dp_callB call_len_seq cd_len B.b_len (db_cons (dp_nm 0) db_nil) (hv := by kernel_rfl)) (nomark _)) (dss_one (ds_ret (dp_ix ix_seq od_ix (dp_nm 0) (dp_nm 1) (fun _ _ => rfl)))) dss_nil)
      (dss_one (ds_ret dp_int)))
theorem sc_law_bag : FnScope ["_law_script", "_law_at", "_law_cell_here", "_law_mix", "_law_k"] ["_law_script", "_law_at"] (defScope s_law_bag) := ⟨rfl, rfl, rfl, by decide +kernel, rfl, by decide +kernel, by decide +kernel⟩
def t_law_bag : FS :=
  seqS (setF 2 (op2 modF (callF absI (consA (callF (nF 2 m_law_cell) (consA (nmF 0) (consA (nmF 1) (nilA)))) (nilA))) (op2 mulF (op2 mulF (op2 powF (cst (.int 10)) (cst (.int 60))) (op2 powF (cst (.int 10)) (cst (.int 60)))) (op2 powF (cst (.int 10)) (cst (.int 60))))))
  (seqS (ifS (toB (op2 geF (nmF 2) (op2 powF (cst (.int 10)) (cst (.int 18))))) (retF (lstF (consA (nmF 2) (consA (cst (.int 0)) (nilA))))) (skip))
  (seqS (setF 3 (op2 modF (op2 addF (op2 addF (nmF 2) (op2 mulF (cst (.int 7919)) (nmF 1))) (cst (.int 17))) (cst (.int 2147483647))))
  (seqS (forS (puA (rngA1 (consA (callF min2D (consA (callF lenD (consA (nmF 0) (nilA))) (consA (cst (.int 9)) (nilA)))) (nilA)))) (gN 4) (setF 3 (op2 modF (op2 addF (op2 addF (op2 powF (nmF 3) (cst (.int 5))) (op2 modF (op2 ixD (nmF 0) (nmF 4)) (cst (.int 2147483629)))) (op2 mulF (cst (.int 31)) (nmF 4))) (cst (.int 2147483647)))))
  (retF (lstF (consA (nmF 3) (consA (cst (.int 1)) (nilA))))))))
def m_law_bag : List D → Option D := fnP .n 5 t_law_bag
theorem k_law_bag (B : Bt mg) (F : Df K mg "_law_bag" s_law_bag ["_law_script", "_law_at"]) (c_law_cell : Cl P w K mg base 1 "_law_cell" ["_law_script", "_law_k"] (spP K .s 2 m_law_cell)) : Cl P w K mg base 2 "_law_bag" ["_law_script", "_law_at"] (spP K .n 2 m_law_bag) := by
  refine cl_pure (k := 1) F sc_law_bag (by decide) rfl fun _ cdv A outer s H hid E hr => ?_
  exact (dss_cons (ds_setF 2 sc_law_bag.nd (dp_mod (dp_callB call_abs cd_abs B.b_abs (db_cons (dp_cl c_law_cell (hr.mono (by decide)) (da_cons (dp_nm 0) (da_cons (dp_nm 1) da_nil))) db_nil) (hv := by kernel_rfl)) (dp_mul (dp_mul (dp_pow dp_int dp_int) (dp_pow dp_int dp_int)) (dp_pow dp_int dp_int))))
      (dss_cons (ds_if (dt_cmp op_ge od_B0 (dp_nm 2) (dp_pow dp_int dp_int) (nomark _)) (dss_one (ds_ret (dp_lst (da_cons (dp_nm 2) (da_cons dp_int da_nil))))) dss_nil)
      (dss_cons (ds_setF 3 sc_law_bag.nd (dp_mod (dp_add (dp_add (dp_nm 2) (dp_mul dp_int (dp_nm 1))) dp_int) dp_int))
      (dss_cons (ds_for PassesOwn.never rfl (DIp.e (dip_range1 B.b_range (da_cons (dp_callB (call_min2 rfl) cd_min2 B.b_min (db_cons (dp_callB call_len_seq cd_len B.b_len (db_cons (dp_nm 0) db_nil) (hv := by kernel_rfl)) (db_cons dp_int db_nil)) (hv := by kernel_rfl)) da_nil))) (dgt_name 4 sc_law_bag.nd) (dss_one (ds_setF 3 sc_law_bag.nd (dp_mod (dp_add (dp_add (dp_pow (dp_nm 3) dp_int) (dp_mod (dp_ix ix_seq od_ix (dp_nm 0) (dp_nm 4) (fun _ _ => rfl)) dp_int)) (dp_mul dp_int (dp_nm 4))) dp_int))))
      (dss_one (ds_ret (dp_lst (da_cons (dp_nm 3) (da_cons dp_int da_nil)))))))))
theorem sc_law_take : FnScope ["_law_bag_here", "_law_many", "_law_digit"] ["_law_bag_here", "_law_many"] (defScope s_law_take) := ⟨rfl, rfl, rfl, by decide +kernel, rfl, by decide +kernel, by decide +kernel⟩
def t_law_take : FS :=
  seqS (ifS (toB (op2 eqF (op2 ixD (nbF 0) (cst (.int 1))) (cst (.int 0)))) (seqS (setF 2 (op2 modF (op2 ixD (nbF 0) (cst (.int 0))) (nmF 1)))
  (seqS (asgE (setIx 0 (cst (.int 0))) (pu (op2 fdivF (op2 ixD (nbF 0) (cst (.int 0))) (nmF 1))))
  (retF (nmF 2)))) (skip))
  (seqS (asgE (setIx 0 (cst (.int 0))) (pu (op2 modF (op2 addF (op2 addF (op2 powF (op2 ixD (nbF 0) (cst (.int 0))) (cst (.int 5))) (op2 mulF (cst (.int 48271)) (op2 ixD (nbF 0) (cst (.int 1))))) (cst (.int 11))) (cst (.int 2147483647)))))
  (seqS (asgE (setIx 0 (cst (.int 1))) (pu (op2 addF (op2 ixD (nbF 0) (cst (.int 1))) (cst (.int 1)))))
  (retF (op2 modF (op2 fdivF (op2 modF (op2 mulF (op2 ixD (nbF 0) (cst (.int 0))) (cst (.int 69621))) (cst (.int 2147483629))) (cst (.int 8))) (nmF 1)))))
def m_law_take : List D → List D → Option (D × List D) := fnE .s 3 t_law_take
theorem k_law_take (B : Bt mg) (F : Df K mg "_law_take" s_law_take ["_law_bag_here", "_law_many"])  : Cl P w K mg base 1 "_law_take" ["_law_bag_here", "_law_many"] (spE K .s 1 m_law_take) := by
  refine cl_eff (k := 0) F sc_law_take (by decide) rfl fun _ cdv A outer s H hid a E hr => ?_
  exact (dss_cons (ds_if (dt_cmp (op_eqD hr.units) od_eq (dp_ix ix_seq od_ix (dp_nb 0) dp_int (fun _ _ => rfl)) dp_int (nomark _)) (dss_cons (ds_setF 2 sc_law_take.nd (dp_mod (dp_ix ix_seq od_ix (dp_nb 0) dp_int (fun _ _ => rfl)) (dp_nm 1)))
      (dss_cons (ds_put (DP.ef (dp_fdiv (dp_ix ix_seq od_ix (dp_nb 0) dp_int (fun _ _ => rfl)) (dp_nm 1))) (dht_sub 0 dp_int))
      (dss_one (ds_ret (dp_nm 2))))) dss_nil)
      (dss_cons (ds_put (DP.ef (dp_mod (dp_add (dp_add (dp_pow (dp_ix ix_seq od_ix (dp_nb 0) dp_int (fun _ _ => rfl)) dp_int) (dp_mul dp_int (dp_ix ix_seq od_ix (dp_nb 0) dp_int (fun _ _ => rfl)))) dp_int) dp_int)) (dht_sub 0 dp_int))
      (dss_cons (ds_put (DP.ef (dp_add (dp_ix ix_seq od_ix (dp_nb 0) dp_int (fun _ _ => rfl)) dp_int)) (dht_sub 0 dp_int))
      (dss_one (ds_ret (dp_mod (dp_fdiv (dp_mod (dp_mul (dp_ix ix_seq od_ix (dp_nb 0) dp_int (fun _ _ => rfl)) dp_int) dp_int) dp_int) (dp_nm 1)))))))
theorem sc_law_whole : FnScope ["_law_thing"] ["_law_thing"] (defScope s_law_whole) := ⟨rfl, rfl, rfl, by decide +kernel, rfl, by decide +kernel, by decide +kernel⟩
def t_law_whole : FS :=
  retF (asD (and2 (toB (isiF "int" (nmF 0))) (toB (asD (not1 (toB (isiF "bool" (nmF 0))))))))
def m_law_whole : List D → Option D := fnP .s 1 t_law_whole
theorem k_law_whole (B : Bt mg) (F : Df K mg "_law_whole" s_law_whole ["_law_thing"])  : Cl P w K mg base 1 "_law_whole" ["_law_thing"] (spP K .s 1 m_law_whole) := by
  refine cl_pure (k := 0) F sc_law_whole (by decide) rfl fun _ cdv A outer s H hid E hr => ?_
  exact (dss_one (ds_ret (dp_and (dp_isi "int" kt_int (dp_nm 0) B.b_isinstance B.b_int) (dp_one (dp_not (dp_isi "bool" kt_bool (dp_nm 0) B.b_isinstance B.b_bool))))))
theorem sc_law_is_sum : FnScope ["_law_found", "_law_one"] ["_law_found"] (defScope s_law_is_sum) := ⟨rfl, rfl, rfl, by decide +kernel, rfl, by decide +kernel, by decide +kernel⟩
def t_law_is_sum : FS :=
  seqS (ifS (not1 (tru1 (isiF "list" (nmF 0)))) (retF (cst (.bl false))) (skip))
  (seqS (forS (puA (seqA (nmF 0))) (gN 1) (ifS (or2 (not1 (tru1 (isiF "tuple" (nmF 1)))) (or2 (toB (op2 neF (callF lenD (consA (nmF 1) (nilA))) (cst (.int 2)))) (or2 (not1 (tru1 (callF (nF 1 m_law_whole) (consA (op2 ixD (nmF 1) (cst (.int 0))) (nilA))))) (not1 (tru1 (callF (nF 1 m_law_whole) (consA (op2 ixD (nmF 1) (cst (.int 1))) (nilA)))))))) (retF (cst (.bl false))) (skip)))
  (retF (asD (and2 (toB (callF allD (consA (compF 1 (seqA (nmF 0)) (gN 2) (yesT) (op2 neF (op2 ixD (nmF 2) (cst (.int 1))) (cst (.int 0)))) (nilA)))) (toB (callF allD (consA (compF 2 (zipA (nmF 0) (slLF (nmF 0) (toO (cst (.int 1))) noO)) (gT 2 (gsC (gN 2) (gsC (gN 3) (gsN)))) (yesT) (op2 ltF (op2 ixD (nmF 2) (cst (.int 0))) (op2 ixD (nmF 3) (cst (.int 0))))) (nilA))))))))
def m_law_is_sum : List D → Option D := fnP .s 2 t_law_is_sum
theorem k_law_is_sum (B : Bt mg) (F : Df K mg "_law_is_sum" s_law_is_sum ["_law_found"]) (c_law_whole : Cl P w K mg base 1 "_law_whole" ["_law_thing"] (spP K .s 1 m_law_whole)) : Cl P w K mg base 2 "_law_is_sum" ["_law_found"] (spP K .s 1 m_law_is_sum) := by
  refine cl_pure (k := 1) F sc_law_is_sum (by decide) rfl fun _ cdv A outer s H hid E hr => ?_
  exact (dss_cons (ds_if (dt_not (dt_val (dp_isi "list" kt_list (dp_nm 0) B.b_isinstance B.b_list))) (dss_one (ds_ret dp_bl)) dss_nil)
      (dss_cons (ds_for PassesOwn.never rfl (DIp.e (dip_seq (dp_nm 0))) (dgt_name 1 sc_law_is_sum.nd) (dss_one (ds_if (DW.dt (dw_or (dt_not (dt_val (dp_isi "tuple" kt_tuple (dp_nm 1) B.b_isinstance B.b_tuple))) (dw_or (dt_cmp (op_neD hr.units) od_ne (dp_callB call_len_seq cd_len B.b_len (db_cons (dp_nm 1) db_nil) (hv := by kernel_rfl)) dp_int (nomark _)) (dw_or (dt_not (dt_val (dp_cl c_law_whole (hr.mono (by decide)) (da_cons (dp_ix ix_seq od_ix (dp_nm 1) dp_int (fun _ _ => rfl)) da_nil)))) (dw_or1 (dt_not (dt_val (dp_cl c_law_whole (hr.mono (by decide)) (da_cons (dp_ix ix_seq od_ix (dp_nm 1) dp_int (fun _ _ => rfl)) da_nil))))))))) (dss_one (ds_ret dp_bl)) dss_nil)))
      (dss_one (ds_ret (dp_and (dp_callB (call_all rfl) cd_all B.b_all (db_cons (dp_comp (N' := ["_law_found", "?_law_one", "_law_one"]) rfl (tail_n (Nat.le_of_ble_eq_true rfl)) (DIp.b (dip_seq (dp_nm 0))) (fun _ _ _ _ => (dgt_name 2 nd_3)) (fun _ _ _ _ => dif_nil) (fun _ _ _ _ => (dp_cmp (op_neD hr.units) od_ne (dp_ix ix_seq od_ix (dp_nm 2) dp_int (fun _ _ => rfl)) dp_int (nomark _)))) db_nil) (hv := by kernel_rfl)) (dp_one (dp_callB (call_all rfl) cd_all B.b_all (db_cons (dp_comp (N' := ["_law_found", "?_law_one", "_law_one", "_law_two"]) rfl (tail_t (tails_cons (tail_n (Nat.le_of_ble_eq_true rfl)) (tails_cons (tail_n (Nat.le_of_ble_eq_true rfl)) tails_nil))) (DIp.b (dip_zip (dp_nm 0) (DP.toS (dp_slL (dp_nm 0) (do_some dp_int) do_none)) B.b_zip)) (fun _ _ _ _ => (dgt_tup (n := 2) rfl (dgs_cons (dgt_name 2 nd_4) (dgs_cons (dgt_name 3 nd_4) dgs_nil)))) (fun _ _ _ _ => dif_nil) (fun _ _ _ _ => (dp_cmp op_lt od_B0 (dp_ix ix_seq od_ix (dp_nm 2) dp_int (fun _ _ => rfl)) (dp_ix ix_seq od_ix (dp_nm 3) dp_int (fun _ _ => rfl)) (nomark _)))) db_nil) (hv := by kernel_rfl))))))))
theorem sc_law_summed : FnScope ["_law_tuples_here", "_law_many", "_law_power", "_law_number"] ["_law_tuples_here"] (defScope s_law_summed) := ⟨rfl, rfl, rfl, by decide +kernel, rfl, by decide +kernel, by decide +kernel⟩
def t_law_summed : FS :=
  seqS (dnewS 1)
  (seqS (forS (puA (seqA (nmF 0))) (gT 2 (gsC (gN 2) (gsC (gN 3) (gsN)))) (dputS 1 (nmF 2) (op2 addF (dgetF 1 (nmF 2) (cst (.int 0))) (nmF 3))))
  (retF (compF 1 (seqA (dsrtB 1)) (gN 4) (toB (op2 neF (dixF 1 (nmF 4)) (cst (.int 0)))) (tupF (consA (nmF 4) (consA (dixF 1 (nmF 4)) (nilA)))))))
def m_law_summed : List D → Option D := fnP .n 4 t_law_summed
theorem k_law_summed (B : Bt mg) (F : Df K mg "_law_summed" s_law_summed ["_law_tuples_here"])  : Cl P w K mg base 1 "_law_summed" ["_law_tuples_here"] (spP K .n 1 m_law_summed) := by
  refine cl_pure (k := 0) F sc_law_summed (by decide) rfl fun _ cdv A outer s H hid E hr => ?_
  exact (dss_cons (ds_dnew 1 sc_law_summed.nd)
      (dss_cons (ds_for PassesOwn.never rfl (DIp.e (dip_seq (dp_nm 0))) (dgt_tup (n := 2) rfl (dgs_cons (dgt_name 2 sc_law_summed.nd) (dgs_cons (dgt_name 3 sc_law_summed.nd) dgs_nil))) (dss_one (ds_dput 1 (hu_of hr) (dp_nm 2) (dp_add (dp_dget 1 (hu_of hr) (dp_nm 2) dp_int ⟨rfl, rfl, rfl, rfl⟩) (dp_nm 3)))))
      (dss_one (ds_ret (dp_comp (N' := ["_law_tuples_here", "_law_many", "?_law_power", "_law_number", "_law_power"]) rfl (tail_n (Nat.le_of_ble_eq_true rfl)) (DIp.b (dip_seq (DP.toS (dp_dsrtB 1 rfl B.b_sorted)))) (fun _ _ _ _ => (dgt_name 4 nd_5)) (fun _ _ _ _ => (dif_one (dt_cmp (op_neD hr.units) od_ne (dp_dix 1 (hu_of hr) (dp_nm 4) (fun _ _ => rfl)) dp_int (nomark _)))) (fun _ _ _ _ => (dp_tup (da_cons (dp_nm 4) (da_cons (dp_dix 1 (hu_of hr) (dp_nm 4) (fun _ _ => rfl)) da_nil)))))))))
theorem sc_law_product : FnScope ["_law_one", "_law_other", "_law_found", "_law_power", "_law_number"] ["_law_one", "_law_other"] (defScope s_law_product) := ⟨rfl, rfl, rfl, by decide +kernel, rfl, by decide +kernel, by decide +kernel⟩
def t_law_product : FS :=
  seqS (ownF 2 (lstF (nilA)))
  (seqS (forS (puA (seqA (nmF 0))) (gT 2 (gsC (gN 3) (gsC (gN 4) (gsN)))) (dropE (extN 2 (compF 2 (seqA (nmF 1)) (gT 2 (gsC (gN 5) (gsC (gN 6) (gsN)))) (yesT) (tupF (consA (op2 addF (nmF 3) (nmF 5)) (consA (op2 mulF (nmF 4) (nmF 6)) (nilA))))))))
  ((fun ρ => (retF (callF (nF 1 m_law_summed) (consA (nmF 2) (nilA)))) (frzF 2 ρ))))
def m_law_product : List D → Option D := fnP .n 5 t_law_product
theorem k_law_product (B : Bt mg) (F : Df K mg "_law_product" s_law_product ["_law_one", "_law_other"]) (c_law_summed : Cl P w K mg base 1 "_law_summed" ["_law_tuples_here"] (spP K .n 1 m_law_summed)) : Cl P w K mg base 2 "_law_product" ["_law_one", "_law_other"] (spP K .n 2 m_law_product) := by
  refine cl_pure (k := 1) F sc_law_product (by decide) rfl fun _ cdv A outer s H hid E hr => ?_
  exact (dss_cons (ds_ownF 2 sc_law_product.nd (dp_lst da_nil))
      (dss_cons (ds_for PassesOwn.never rfl (DIp.e (dip_seq (dp_nm 0))) (dgt_tup (n := 2) rfl (dgs_cons (dgt_name 3 sc_law_product.nd) (dgs_cons (dgt_name 4 sc_law_product.nd) dgs_nil))) (dss_one (ds_expr (de_extN 2 (dp_comp (N' := ["_law_one", "_law_other", "_law_found", "_law_power", "_law_number", "_law_more", "_law_often"]) rfl (tail_t (tails_cons (tail_n (Nat.le_of_ble_eq_true rfl)) (tails_cons (tail_n (Nat.le_of_ble_eq_true rfl)) tails_nil))) (DIp.b (dip_seq (dp_nm 1))) (fun _ _ _ _ => (dgt_tup (n := 2) rfl (dgs_cons (dgt_name 5 nd_6) (dgs_cons (dgt_name 6 nd_6) dgs_nil)))) (fun _ _ _ _ => dif_nil) (fun _ _ _ _ => (dp_tup (da_cons (dp_add (dp_nm 3) (dp_nm 5)) (da_cons (dp_mul (dp_nm 4) (dp_nm 6)) da_nil)))))))))
      (dss_one (ds_frz 2 (ds_ret (dp_cl c_law_summed (hr.mono (by decide)) (da_cons (dp_nm 2) da_nil)))))))
theorem sc_law_tuples : FnScope ["_law_bag_here", "_law_most", "_law_wide", "_law_great", "_law_found", "_law_k", "_law_power", "_law_number"] ["_law_bag_here", "_law_most"] (defScope s_law_tuples) := ⟨rfl, rfl, rfl, by decide +kernel, rfl, by decide +kernel, by decide +kernel⟩
def t_law_tuples : FS :=
  seqS (setE 2 (callE 0 1 m_law_take (puA (consA (cst (.int 2)) (nilA)))))
  (seqS (setE 3 (callE 0 1 m_law_take (puA (consA (cst (.int 8)) (nilA)))))
  (seqS (ownF 4 (lstF (nilA)))
  (seqS (forS (rng1 (consG (callE 0 1 m_law_take (puA (consA (op2 addF (nmF 1) (cst (.int 1))) (nilA)))) (puA (nilA)))) (gN 5) (seqS (setE 6 (op2E subF (callE 0 1 m_law_take (puA (consA (op2 ixD (lstF (consA (cst (.int 7)) (consA (cst (.int 121)) (nilA)))) (nmF 2)) (nilA)))) (pu (op2 ixD (lstF (consA (cst (.int 3)) (consA (cst (.int 60)) (nilA)))) (nmF 2)))))
  (seqS (setE 7 (op2E subF (callE 0 1 m_law_take (puA (consA (cst (.int 19)) (nilA)))) (pu (cst (.int 9)))))
  (dropE (callE 4 1 appM (puA (consA (tupF (consA (nmF 6) (consA (op2 ixD (lstF (consA (nmF 7) (consA (op2 mulF (nmF 7) (op2 powF (cst (.int 10)) (cst (.int 9)))) (nilA)))) (callF intF (consA (op2 eqF (nmF 3) (cst (.int 1))) (nilA)))) (nilA)))) (nilA))))))))
  (retO 4))))
def m_law_tuples : List D → List D → Option (D × List D) := fnE .n 8 t_law_tuples
theorem k_law_tuples (B : Bt mg) (F : Df K mg "_law_tuples" s_law_tuples ["_law_bag_here", "_law_most"]) (c_law_take : Cl P w K mg base 1 "_law_take" ["_law_bag_here", "_law_many"] (spE K .s 1 m_law_take)) : Cl P w K mg base 2 "_law_tuples" ["_law_bag_here", "_law_most"] (spE K .n 1 m_law_tuples) := by
  refine cl_eff (k := 1) F sc_law_tuples (by decide) rfl fun _ cdv A outer s H hid a E hr => ?_
  exact (dss_cons (ds_setE 2 sc_law_tuples.nd (de_cl 0 c_law_take (hr.mono (by decide)) (DA.gf (da_cons dp_int da_nil))))
      (dss_cons (ds_setE 3 sc_law_tuples.nd (de_cl 0 c_law_take (hr.mono (by decide)) (DA.gf (da_cons dp_int da_nil))))
      (dss_cons (ds_ownF 4 sc_law_tuples.nd (dp_lst da_nil))
      (dss_cons (ds_for PassesOwn.never rfl (di_range1 B.b_range (dg_cons (de_cl 0 c_law_take (hr.mono (by decide)) (DA.gf (da_cons (dp_add (dp_nm 1) dp_int) da_nil))) (DA.gf da_nil))) (dgt_name 5 sc_law_tuples.nd) (dss_cons (ds_setE 6 sc_law_tuples.nd (de_sub (de_cl 0 c_law_take (hr.mono (by decide)) (DA.gf (da_cons (dp_ix ix_seq od_ix (dp_lst (da_cons dp_int (da_cons dp_int da_nil))) (dp_nm 2) (fun _ _ => rfl)) da_nil))) (DP.ef (dp_ix ix_seq od_ix (dp_lst (da_cons dp_int (da_cons dp_int da_nil))) (dp_nm 2) (fun _ _ => rfl)))))
      (dss_cons (ds_setE 7 sc_law_tuples.nd (de_sub (de_cl 0 c_law_take (hr.mono (by decide)) (DA.gf (da_cons dp_int da_nil))) (DP.ef dp_int)))
      (dss_one (ds_expr (de_meth 4 md_append mt_append PySem.F.slot_list_append PySem.F.type_list_append (DA.gf (da_cons (dp_tup (da_cons (dp_nm 6) (da_cons (dp_ix ix_seq od_ix (dp_lst (da_cons (dp_nm 7) (da_cons (dp_mul (dp_nm 7) (dp_pow dp_int dp_int)) da_nil))) (dp_callTy call_int1 cd_int B.b_int (db_cons (dp_cmp (op_eqD hr.units) od_eq (dp_nm 3) dp_int (nomark _)) db_nil) (hv := by kernel_rfl)) (fun _ _ => rfl)) da_nil))) da_nil se_tup))))))))
      (dss_one (ds_retO 4))))))
theorem sc_law_right : FnScope ["_law_one", "_law_other", "_law_handed", "_law_found", "_law_worth", "_law_again"] ["_law_one", "_law_other"] (defScope s_law_right) := ⟨rfl, rfl, rfl, by decide +kernel, rfl, by decide +kernel, by decide +kernel⟩
def t_law_right : FS :=
  seqS (setF 2 (lstF (consA (callF listD (consA (nmF 0) (nilA))) (consA (callF listD (consA (nmF 1) (nilA))) (nilA)))))
  (seqS (ownF 3 (callF (nF 2 m_times) (consA (op2 ixD (nmF 2) (cst (.int 0))) (consA (op2 ixD (nmF 2) (cst (.int 1))) (nilA)))))
  (seqS (ifS (or2 (toB (op2 neF (nmF 2) (lstF (consA (nmF 0) (consA (nmF 1) (nilA)))))) (or2 (not1 (tru1 (lfS (callF (nF 1 m_law_is_sum) (consA (nbF 3) (nilA)))))) (toB (op2 neF (nbF 3) (callF (nF 2 m_law_product) (consA (nmF 0) (consA (nmF 1) (nilA)))))))) (retF (cst (.bl false))) (skip))
  (seqS (setF 4 (lfS (callF (nF 1 m_at_one) (consA (nbF 3) (nilA)))))
  (seqS (ifS (or2 (not1 (tru1 (callF (nF 1 m_law_whole) (consA (nmF 4) (nilA))))) (toB (op2 neF (nmF 4) (callF sumD (consA (compF 2 (lstA (nbF 3)) (gT 2 (gsC (gN 6) (gsC (gN 7) (gsN)))) (yesT) (nmF 7)) (nilA)))))) (retF (cst (.bl false))) (skip))
  (seqS (setF 5 (lfN (callF (nF 2 m_times) (consA (nbF 3) (consA (callF listD (consA (nmF 0) (nilA))) (nilA))))))
  (seqS (ifS (or2 (not1 (tru1 (callF (nF 1 m_law_is_sum) (consA (nmF 5) (nilA))))) (or2 (toB (op2 neF (nmF 5) (lfN (callF (nF 2 m_law_product) (consA (nbF 3) (consA (nmF 0) (nilA))))))) (toB (op2 neF (callF (nF 2 m_times) (consA (callF listD (consA (nmF 1) (nilA))) (consA (nmF 5) (nilA)))) (callF (nF 2 m_times) (consA (nmF 5) (consA (nmF 1) (nilA)))))))) (retF (cst (.bl false))) (skip))
  (seqS (ifS (or2 (toB (op2 neF (callF (nF 2 m_times) (consA (nmF 5) (consA (nmF 1) (nilA)))) (callF (nF 2 m_law_product) (consA (nmF 5) (consA (nmF 1) (nilA)))))) (toB (op2 neF (callF (nF 1 m_at_one) (consA (nmF 5) (nilA))) (op2 mulF (nmF 4) (callF (nF 1 m_at_one) (consA (callF listD (consA (nmF 0) (nilA))) (nilA))))))) (retF (cst (.bl false))) (skip))
  (seqS (dropE (callE 3 1 appM (puA (consA (tupF (consA (cst (.int 200)) (consA (cst (.int 1)) (nilA)))) (nilA)))))
  (retF (asD (and2 (toB (op2 eqF (nmF 2) (lstF (consA (nmF 0) (consA (nmF 1) (nilA)))))) (toB (op2 eqF (callF (nF 2 m_times) (consA (callF listD (consA (nmF 0) (nilA))) (consA (callF listD (consA (nmF 1) (nilA))) (nilA)))) (callF (nF 2 m_law_product) (consA (nmF 0) (consA (nmF 1) (nilA)))))))))))))))))
def m_law_right : List D → Option D := fnP .s 6 t_law_right
theorem k_law_right (B : Bt mg) (F : Df K mg "_law_right" s_law_right ["_law_one", "_law_other"]) (c_times : Cl P w K mg base 2 "times" ["one", "other"] (spP K .n 2 m_times)) (c_at_one : Cl P w K mg base 1 "at_one" ["one"] (spP K .s 1 m_at_one)) (c_law_is_sum : Cl P w K mg base 2 "_law_is_sum" ["_law_found"] (spP K .s 1 m_law_is_sum)) (c_law_product : Cl P w K mg base 2 "_law_product" ["_law_one", "_law_other"] (spP K .n 2 m_law_product)) (c_law_whole : Cl P w K mg base 1 "_law_whole" ["_law_thing"] (spP K .s 1 m_law_whole)) : Cl P w K mg base 3 "_law_right" ["_law_one", "_law_other"] (spP K .s 2 m_law_right) := by
  refine cl_pure (k := 2) F sc_law_right (by decide) rfl fun _ cdv A outer s H hid E hr => ?_
  exact (dss_cons (ds_setF 2 sc_law_right.nd (DP.toS (dp_lst (da_cons (DP.toS (dp_callTy call_list_of cd_list B.b_list (db_cons (dp_nm 0) db_nil) (hv := by kernel_rfl))) (da_cons (DP.toS (dp_callTy call_list_of cd_list B.b_list (db_cons (dp_nm 1) db_nil) (hv := by kernel_rfl))) da_nil)))))
      (dss_cons (ds_ownF 3 sc_law_right.nd (dp_cl c_times (hr.mono (by decide)) (da_cons (dp_ix ix_seq od_ix (dp_nm 2) dp_int (fun _ _ => rfl)) (da_cons (dp_ix ix_seq od_ix (dp_nm 2) dp_int (fun _ _ => rfl)) da_nil))))
      (dss_cons (ds_if (DW.dt (dw_or (dt_cmp (op_neD hr.units) od_ne (dp_nm 2) (dp_lst (da_cons (dp_nm 0) (da_cons (dp_nm 1) da_nil))) (nomark _)) (dw_or (dt_not (dt_val (dp_clBs c_law_is_sum (hr.mono (by decide)) (db_cons (dp_nb 3) db_nil)))) (dw_or1 (dt_cmp (op_neD hr.units) od_ne (dp_nb 3) (dp_cl c_law_product (hr.mono (by decide)) (da_cons (dp_nm 0) (da_cons (dp_nm 1) da_nil))) (nomark _)))))) (dss_one (ds_ret dp_bl)) dss_nil)
      (dss_cons (ds_setF 4 sc_law_right.nd (dp_clBs c_at_one (hr.mono (by decide)) (db_cons (dp_nb 3) db_nil)))
      (dss_cons (ds_if (DW.dt (dw_or (dt_not (dt_val (dp_cl c_law_whole (hr.mono (by decide)) (da_cons (dp_nm 4) da_nil)))) (dw_or1 (dt_cmp (op_neD hr.units) od_ne (dp_nm 4) (dp_callB (call_sum rfl) cd_sum B.b_sum (db_cons (dp_comp (N' := ["_law_one", "_law_other", "_law_handed", "_law_found", "_law_worth", "_law_again", "_law_power", "_law_number"]) rfl (tail_t (tails_cons (tail_n (Nat.le_of_ble_eq_true rfl)) (tails_cons (tail_n (Nat.le_of_ble_eq_true rfl)) tails_nil))) (dib_list (dp_nb 3)) (fun _ _ _ _ => (dgt_tup (n := 2) rfl (dgs_cons (dgt_name 6 nd_7) (dgs_cons (dgt_name 7 nd_7) dgs_nil)))) (fun _ _ _ _ => dif_nil) (fun _ _ _ _ => (dp_nm 7))) db_nil) (hv := by kernel_rfl)) (nomark _))))) (dss_one (ds_ret dp_bl)) dss_nil)
      (dss_cons (ds_setF 5 sc_law_right.nd (DP.toS (dp_clBn c_times (hr.mono (by decide)) (db_cons (dp_nb 3) (db_cons (dp_callTy call_list_of cd_list B.b_list (db_cons (dp_nm 0) db_nil) (hv := by kernel_rfl)) db_nil)))))
      (dss_cons (ds_if (DW.dt (dw_or (dt_not (dt_val (dp_cl c_law_is_sum (hr.mono (by decide)) (da_cons (dp_nm 5) da_nil)))) (dw_or (dt_cmp (op_neD hr.units) od_ne (dp_nm 5) (dp_clBn c_law_product (hr.mono (by decide)) (db_cons (dp_nb 3) (db_cons (dp_nm 0) db_nil))) (nomark _)) (dw_or1 (dt_cmp (op_neD hr.units) od_ne (dp_cl c_times (hr.mono (by decide)) (da_cons (DP.toS (dp_callTy call_list_of cd_list B.b_list (db_cons (dp_nm 1) db_nil) (hv := by kernel_rfl))) (da_cons (dp_nm 5) da_nil))) (dp_cl c_times (hr.mono (by decide)) (da_cons (dp_nm 5) (da_cons (dp_nm 1) da_nil))) (nomark _)))))) (dss_one (ds_ret dp_bl)) dss_nil)
      (dss_cons (ds_if (DW.dt (dw_or (dt_cmp (op_neD hr.units) od_ne (dp_cl c_times (hr.mono (by decide)) (da_cons (dp_nm 5) (da_cons (dp_nm 1) da_nil))) (dp_cl c_law_product (hr.mono (by decide)) (da_cons (dp_nm 5) (da_cons (dp_nm 1) da_nil))) (nomark _)) (dw_or1 (dt_cmp (op_neD hr.units) od_ne (dp_cl c_at_one (hr.mono (by decide)) (da_cons (dp_nm 5) da_nil)) (dp_mul (dp_nm 4) (dp_cl c_at_one (hr.mono (by decide)) (da_cons (DP.toS (dp_callTy call_list_of cd_list B.b_list (db_cons (dp_nm 0) db_nil) (hv := by kernel_rfl))) da_nil))) (nomark _))))) (dss_one (ds_ret dp_bl)) dss_nil)
      (dss_cons (ds_expr (de_meth 3 md_append mt_append PySem.F.slot_list_append PySem.F.type_list_append (DA.gf (da_cons (dp_tup (da_cons dp_int (da_cons dp_int da_nil))) da_nil se_tup))))
      (dss_one (ds_ret (dp_and (dp_cmp (op_eqD hr.units) od_eq (dp_nm 2) (dp_lst (da_cons (dp_nm 0) (da_cons (dp_nm 1) da_nil))) (nomark _)) (dp_one (dp_cmp (op_eqD hr.units) od_eq (dp_cl c_times (hr.mono (by decide)) (da_cons (DP.toS (dp_callTy call_list_of cd_list B.b_list (db_cons (dp_nm 0) db_nil) (hv := by kernel_rfl))) (da_cons (DP.toS (dp_callTy call_list_of cd_list B.b_list (db_cons (dp_nm 1) db_nil) (hv := by kernel_rfl))) da_nil))) (dp_cl c_law_product (hr.mono (by decide)) (da_cons (dp_nm 0) (da_cons (dp_nm 1) da_nil))) (nomark _)))))))))))))))
theorem sc_law : FnScope ["_law_script", "_law_k", "_law_bag_here", "_law_one", "_law_other", "_law_pair"] ["_law_script"] (defScope s_law) := ⟨rfl, rfl, rfl, by decide +kernel, rfl, by decide +kernel, by decide +kernel⟩
def t_law : FS :=
  seqS (forS (puA (rngA1 (consA (cst (.int 2)) (nilA)))) (gN 1) (seqS (ownF 2 (callF (nF 2 m_law_bag) (consA (nmF 0) (consA (nmF 1) (nilA)))))
  (seqS (setE 3 (callG (nF 1 m_law_summed) (consG (callE 2 1 m_law_tuples (puA (consA (cst (.int 20)) (nilA)))) (puA (nilA)))))
  (seqS (setE 4 (callG (nF 1 m_law_summed) (consG (callE 2 1 m_law_tuples (puA (consA (cst (.int 20)) (nilA)))) (puA (nilA)))))
  (seqS (forS (puA (seqA (lstF (consA (tupF (consA (nmF 3) (consA (nmF 4) (nilA)))) (consA (tupF (consA (nmF 4) (consA (nmF 3) (nilA)))) (consA (tupF (consA (nmF 3) (consA (lstF (nilA)) (nilA)))) (consA (tupF (consA (lstF (nilA)) (consA (nmF 4) (nilA)))) (consA (tupF (consA (nmF 3) (consA (lstF (consA (tupF (consA (cst (.int 0)) (consA (cst (.int 1)) (nilA)))) (nilA))) (nilA)))) (consA (tupF (consA (lstF (consA (tupF (consA (cst (.int 0)) (consA (cst (.int 1)) (nilA)))) (nilA))) (consA (nmF 4) (nilA)))) (nilA)))))))))) (gN 5) (ifS (not1 (tru1 (callF (nF 2 m_law_right) (consA (op2 ixD (nmF 5) (cst (.int 0))) (consA (op2 ixD (nmF 5) (cst (.int 1))) (nilA)))))) (retF (cst (.bl false))) (skip)))
  (ifS (or2 (toB (op2 neF (callF (nF 1 m_at_one) (consA (callF listD (consA (nmF 3) (nilA))) (nilA))) (callF sumD (consA (compF 2 (seqA (nmF 3)) (gT 2 (gsC (gN 6) (gsC (gN 7) (gsN)))) (yesT) (nmF 7)) (nilA))))) (toB (op2 neF (callF (nF 1 m_at_one) (consA (lstF (nilA)) (nilA))) (cst (.int 0))))) (retF (cst (.bl false))) (skip)))))))
  (retF (cst (.bl true)))
def m_law : List D → Option D := fnP .s 6 t_law
theorem kf_law {f : Addr} {fd : FuncData} (B : Bt mg) (F : Fun K "law" "law" s_law f fd) (c_law_bag : Cl P w K mg base 2 "_law_bag" ["_law_script", "_law_at"] (spP K .n 2 m_law_bag)) (c_law_summed : Cl P w K mg base 1 "_law_summed" ["_law_tuples_here"] (spP K .n 1 m_law_summed)) (c_law_tuples : Cl P w K mg base 2 "_law_tuples" ["_law_bag_here", "_law_most"] (spE K .n 1 m_law_tuples)) (c_law_right : Cl P w K mg base 3 "_law_right" ["_law_one", "_law_other"] (spP K .s 2 m_law_right)) (c_at_one : Cl P w K mg base 1 "at_one" ["one"] (spP K .s 1 m_at_one)) : FnOk P w K mg base CX0 4 f fd ["_law_script"] (spP K .s 1 m_law) := by
  refine fn_pure (k := 3) F sc_law (by decide) fun cdv A outer s H hid E hr => ?_
  exact (dss_cons (ds_for PassesOwn.never rfl (DIp.e (dip_range1 B.b_range (da_cons dp_int da_nil))) (dgt_name 1 sc_law.nd) (dss_cons (ds_ownF 2 sc_law.nd (dp_cl c_law_bag (hr.mono (by decide)) (da_cons (dp_nm 0) (da_cons (dp_nm 1) da_nil))))
      (dss_cons (ds_setE 3 sc_law.nd (DE.toS (de_clP c_law_summed (hr.mono (by decide)) (dg_cons (DE.toS (de_cl 2 c_law_tuples (hr.mono (by decide)) (DA.gf (da_cons dp_int da_nil)))) (DA.gf da_nil)))))
      (dss_cons (ds_setE 4 sc_law.nd (DE.toS (de_clP c_law_summed (hr.mono (by decide)) (dg_cons (DE.toS (de_cl 2 c_law_tuples (hr.mono (by decide)) (DA.gf (da_cons dp_int da_nil)))) (DA.gf da_nil)))))
      (dss_cons (ds_for PassesOwn.never rfl (DIp.e (dip_seq (DP.toS (dp_lst (da_cons (dp_tup (da_cons (dp_nm 3) (da_cons (dp_nm 4) da_nil))) (da_cons (dp_tup (da_cons (dp_nm 4) (da_cons (dp_nm 3) da_nil))) (da_cons (dp_tup (da_cons (dp_nm 3) (da_cons (DP.toS (dp_lst da_nil)) da_nil))) (da_cons (dp_tup (da_cons (DP.toS (dp_lst da_nil)) (da_cons (dp_nm 4) da_nil))) (da_cons (dp_tup (da_cons (dp_nm 3) (da_cons (DP.toS (dp_lst (da_cons (dp_tup (da_cons dp_int (da_cons dp_int da_nil))) da_nil se_tup))) da_nil))) (da_cons (dp_tup (da_cons (DP.toS (dp_lst (da_cons (dp_tup (da_cons dp_int (da_cons dp_int da_nil))) da_nil se_tup))) (da_cons (dp_nm 4) da_nil))) da_nil se_tup) se_tup) se_tup) se_tup) se_tup) se_tup))))) (dgt_name 5 sc_law.nd) (dss_one (ds_if (dt_not (dt_val (dp_cl c_law_right (hr.mono (by decide)) (da_cons (dp_ix ix_seq od_ix (dp_nm 5) dp_int (fun _ _ => rfl)) (da_cons (dp_ix ix_seq od_ix (dp_nm 5) dp_int (fun _ _ => rfl)) da_nil))))) (dss_one (ds_ret dp_bl)) dss_nil)))
      (dss_one (ds_if (DW.dt (dw_or (dt_cmp (op_neD hr.units) od_ne (dp_cl c_at_one (hr.mono (by decide)) (da_cons (DP.toS (dp_callTy call_list_of cd_list B.b_list (db_cons (dp_nm 3) db_nil) (hv := by kernel_rfl))) da_nil)) (dp_callB (call_sum rfl) cd_sum B.b_sum (db_cons (dp_comp (N' := ["_law_script", "_law_k", "_law_bag_here", "_law_one", "_law_other", "_law_pair", "_law_power", "_law_number"]) rfl (tail_t (tails_cons (tail_n (Nat.le_of_ble_eq_true rfl)) (tails_cons (tail_n (Nat.le_of_ble_eq_true rfl)) tails_nil))) (DIp.b (dip_seq (dp_nm 3))) (fun _ _ _ _ => (dgt_tup (n := 2) rfl (dgs_cons (dgt_name 6 nd_8) (dgs_cons (dgt_name 7 nd_8) dgs_nil)))) (fun _ _ _ _ => dif_nil) (fun _ _ _ _ => (dp_nm 7))) db_nil) (hv := by kernel_rfl)) (nomark _)) (dw_or1 (dt_cmp (op_neD hr.units) od_ne (dp_cl c_at_one (hr.mono (by decide)) (da_cons (DP.toS (dp_lst da_nil)) da_nil)) dp_int (nomark _))))) (dss_one (ds_ret dp_bl)) dss_nil)))))))
      (dss_one (ds_ret dp_bl)))
end
end L2
set_option Elab.async false
set_option linter.all false
set_option maxRecDepth 100000
set_option maxHeartbeats 4000000
namespace L2
open PySem PySem.Spec PyProof.Rows
end L2
set_option Elab.async false
set_option linter.all false
set_option maxRecDepth 100000
set_option maxHeartbeats 4000000
namespace L2
open PySem PySem.Spec PyProof.Rows
end L2
set_option Elab.async false
set_option linter.all false
set_option maxRecDepth 100000
set_option maxHeartbeats 4000000
namespace L2
open PySem PySem.Spec PyProof.Rows
end L2
set_option Elab.async false
set_option linter.all false
set_option maxRecDepth 100000
set_option maxHeartbeats 4000000
namespace L2
open PySem PySem.Spec PyProof.Rows
end L2
set_option Elab.async false
set_option linter.all false
set_option maxRecDepth 100000
set_option maxHeartbeats 4000000
namespace L2
open PySem PySem.Spec PyProof.Rows
theorem ifS_sk {p : FT} {t : FS} {ρ : Rho} (h : p ρ = some false) : ifS p t skip ρ = .nx ρ := (ifS_f h).trans rfl
theorem or2_bb {p q : FT} {ρ : Rho} {a b : Bool} (h1 : p ρ = some a) (h2 : q ρ = some b) : or2 p q ρ = some (a || b) := by
  cases a with
  | true => exact or2_t h1
  | false => exact or2_at h1 h2
theorem seqA_l {f : FE} {ρ : Rho} {ds : List D} (h : f ρ = some (.lst ds)) : seqA f ρ = some ds := by unfold seqA; rw [h]; rfl
end L2
set_option Elab.async false
set_option linter.all false
set_option maxRecDepth 100000
set_option maxHeartbeats 4000000
namespace L2
open PySem PySem.Spec PyProof.Rows
end L2
set_option Elab.async false
set_option linter.all false
set_option maxRecDepth 100000
set_option maxHeartbeats 1000000
namespace L2
open PySem PySem.Spec PyProof.Rows
theorem fnE_rt {kd : Kd} {n : Nat} {t : FS} {bs ds b' : List D} {d : D} {ρ : Rho} (h : t (rhoE n bs ds) = .rt d ρ) (h2 : arg0 ρ = some b') : fnE kd n t bs ds = some (d, b') := by unfold fnE; rw [h]; dsimp only; rw [h2]; rfl
theorem forL_cnt {g : FG} {b : FS} {P : Nat → Rho → Prop} : ∀ (l : List D) (j : Nat), (∀ d ∈ l, ∀ i ρ, i < j + l.length → P i ρ → ∃ ρ1 ρ2, g d ρ = some ρ1 ∧ b ρ1 = .nx ρ2 ∧ P (i + 1) ρ2) → ∀ ρ, P j ρ → ∃ ρ', forL g b l ρ = .nx ρ' ∧ P (j + l.length) ρ'
  | [], j, _, ρ, p => ⟨ρ, rfl, p⟩
  | d :: l, j, h, ρ, p => by
    obtain ⟨ρ1, ρ2, h1, h2, p2⟩ := h d (List.mem_cons_self ..) j ρ (by rw [List.length_cons]; omega) p
    obtain ⟨ρ', e, p'⟩ := forL_cnt l (j + 1) (fun d' hd i ρ hi => h d' (List.mem_cons_of_mem _ hd) i ρ (by rw [List.length_cons]; omega)) ρ2 p2
    exact ⟨ρ', (forL_cons h1 h2).trans e, by rw [List.length_cons, Nat.add_comm l.length 1, ← Nat.add_assoc]; exact p'⟩
end L2
set_option Elab.async false
set_option linter.all false
set_option maxRecDepth 100000
set_option maxHeartbeats 4000000
namespace L2
open PySem PySem.Spec PyProof.Rows
def tS_whole : FS :=
  retF (asD (and2 (toB (isiF "int" (nmF 0))) (toB (asD (not1 (toB (isiF "bool" (nmF 0))))))))
def mS_whole : List D → Option D := fnP .s 1 tS_whole
def tS_is_sum : FS :=
  seqS (ifS (not1 (tru1 (isiF "list" (nmF 0)))) (retF (cst (.bl false))) (skip))
  (seqS (forS (puA (seqA (nmF 0))) (gN 1) (ifS (or2 (not1 (tru1 (isiF "tuple" (nmF 1)))) (or2 (toB (op2 neF (callF lenD (consA (nmF 1) (nilA))) (cst (.int 2)))) (or2 (not1 (tru1 (callF (nF 1 mS_whole) (consA (op2 ixD (nmF 1) (cst (.int 0))) (nilA))))) (not1 (tru1 (callF (nF 1 mS_whole) (consA (op2 ixD (nmF 1) (cst (.int 1))) (nilA)))))))) (retF (cst (.bl false))) (skip)))
  (retF (asD (and2 (toB (callF allD (consA (compF 1 (seqA (nmF 0)) (gN 2) (yesT) (op2 neF (op2 ixD (nmF 2) (cst (.int 1))) (cst (.int 0)))) (nilA)))) (toB (callF allD (consA (compF 2 (zipA (nmF 0) (slLF (nmF 0) (toO (cst (.int 1))) noO)) (gT 2 (gsC (gN 2) (gsC (gN 3) (gsN)))) (yesT) (op2 ltF (op2 ixD (nmF 2) (cst (.int 0))) (op2 ixD (nmF 3) (cst (.int 0))))) (nilA))))))))
def mS_is_sum : List D → Option D := fnP .s 2 tS_is_sum
def tS_tuples : FS :=
  seqS (setE 2 (callE 0 1 mC_take (puA (consA (cst (.int 2)) (nilA)))))
  (seqS (setE 3 (callE 0 1 mC_take (puA (consA (cst (.int 8)) (nilA)))))
  (seqS (ownF 4 (lstF (nilA)))
  (seqS (forS (rng1 (consG (callE 0 1 mC_take (puA (consA (op2 addF (nmF 1) (cst (.int 1))) (nilA)))) (puA (nilA)))) (gN 5) (seqS (setE 6 (op2E subF (callE 0 1 mC_take (puA (consA (op2 ixD (lstF (consA (cst (.int 7)) (consA (cst (.int 121)) (nilA)))) (nmF 2)) (nilA)))) (pu (op2 ixD (lstF (consA (cst (.int 3)) (consA (cst (.int 60)) (nilA)))) (nmF 2)))))
  (seqS (setE 7 (op2E subF (callE 0 1 mC_take (puA (consA (cst (.int 19)) (nilA)))) (pu (cst (.int 9)))))
  (dropE (callE 4 1 appM (puA (consA (tupF (consA (nmF 6) (consA (op2 ixD (lstF (consA (nmF 7) (consA (op2 mulF (nmF 7) (op2 powF (cst (.int 10)) (cst (.int 9)))) (nilA)))) (callF intF (consA (op2 eqF (nmF 3) (cst (.int 1))) (nilA)))) (nilA)))) (nilA))))))))
  (retO 4))))
def mS_tuples : List D → List D → Option (D × List D) := fnE .n 8 tS_tuples
abbrev pD (p : Int × Int) : D := .tup [.int p.1, .int p.2]
def vI (kvs : List (Int × Int)) (k : Int) : Int := ((kvs.find? fun q => decide (q.1 = k)).map (·.2)).getD 0
def putI (kvs : List (Int × Int)) (k v : Int) : List (Int × Int) := if (kvs.any fun q => decide (q.1 = k)) = true then kvs.map (fun q => if q.1 = k then (q.1, v) else q) else kvs ++ [(k, v)]
def stepI (kvs : List (Int × Int)) (p : Int × Int) : List (Int × Int) := putI kvs p.1 (vI kvs p.1 + p.2)
def fdI (L : List (Int × Int)) : List (Int × Int) := L.foldl stepI []
abbrev kvD (kvs : List (Int × Int)) : List (Key × D) := kvs.map fun q => (Sum.inl q.1, D.int q.2)
theorem key_dec (a b : Int) : decide ((Sum.inl a : Key) = Sum.inl b) = decide (a = b) := by
  by_cases h : a = b
  · subst h; simp
  · rw [decide_eq_false h, decide_eq_false fun e => h (Sum.inl.inj e)]
theorem valD_kv (k : Int) : ∀ kvs : List (Int × Int), valD (kvD kvs) (.inl k) = (kvs.find? fun q => decide (q.1 = k)).map fun q => D.int q.2
  | [] => rfl
  | q :: r => by
    have ih := valD_kv k r
    unfold valD at ih ⊢
    rw [show kvD (q :: r) = (Sum.inl q.1, D.int q.2) :: kvD r from rfl, List.find?_cons, List.find?_cons]
    dsimp only
    rw [key_dec]
    by_cases h : q.1 = k
    · rw [decide_eq_true h]; rfl
    · rw [decide_eq_false h]; exact ih
theorem any_kv (k : Int) (kvs : List (Int × Int)) : ((kvD kvs).any fun kv => decide (kv.1 = Sum.inl k)) = kvs.any fun q => decide (q.1 = k) := by
  rw [List.any_map]
  congr 1
  funext q
  exact key_dec _ _
theorem putD_kv (k v : Int) (kvs : List (Int × Int)) : putD (kvD kvs) (.inl k) (.int v) = kvD (putI kvs k v) := by
  unfold putD putI
  rw [any_kv]
  split
  · show List.map _ (List.map _ kvs) = List.map _ (List.map _ kvs)
    rw [List.map_map, List.map_map]
    refine List.map_congr_left fun q _ => ?_
    show (if (Sum.inl q.1 : Key) = Sum.inl k then _ else _) = _
    by_cases h : q.1 = k
    · rw [if_pos (by rw [h])]; show _ = ((fun q => (Sum.inl q.1, D.int q.2)) (if q.1 = k then (q.1, v) else q) : Key × D); rw [if_pos h]
    · rw [if_neg fun e => h (Sum.inl.inj e)]; show _ = ((fun q => (Sum.inl q.1, D.int q.2)) (if q.1 = k then (q.1, v) else q) : Key × D); rw [if_neg h]
  · show _ = List.map _ (kvs ++ [(k, v)])
    rw [List.map_append]; rfl
theorem keys_kv : ∀ kvs : List (Int × Int), intKeys (kvD kvs) = some (kvs.map (·.1))
  | [] => rfl
  | q :: r => by show (intKeys (kvD r)).map (q.1 :: ·) = _; rw [keys_kv r]; rfl
theorem putI_len (kvs : List (Int × Int)) (k v : Int) : (putI kvs k v).length ≤ kvs.length + 1 := by
  unfold putI
  split
  · rw [List.length_map]; omega
  · rw [List.length_append]; simp
theorem fold_len : ∀ (L kvs : List (Int × Int)), (L.foldl stepI kvs).length ≤ kvs.length + L.length
  | [], kvs => by simp
  | p :: L, kvs => by
    rw [List.foldl_cons]
    have h1 := fold_len L (stepI kvs p)
    have h2 := putI_len kvs p.1 (vI kvs p.1 + p.2)
    have h3 : (stepI kvs p).length ≤ kvs.length + 1 := h2
    rw [List.length_cons]
    omega
theorem putI_keys (kvs : List (Int × Int)) (k v : Int) : (putI kvs k v).map (·.1) = if k ∈ kvs.map (·.1) then kvs.map (·.1) else kvs.map (·.1) ++ [k] := by
  have e : (kvs.any fun q => decide (q.1 = k)) = decide (k ∈ kvs.map (·.1)) := by
    rw [Bool.eq_iff_iff, List.any_eq_true, decide_eq_true_eq, List.mem_map]
    constructor
    · rintro ⟨q, h1, h2⟩; exact ⟨q, h1, by simpa using h2⟩
    · rintro ⟨q, h1, h2⟩; exact ⟨q, h1, by simpa using h2⟩
  unfold putI
  rw [e]
  by_cases h : k ∈ kvs.map (·.1)
  · rw [if_pos (decide_eq_true h), if_pos h, List.map_map]
    refine List.map_congr_left fun q _ => ?_
    show (if q.1 = k then (q.1, v) else q).1 = q.1
    split <;> rfl
  · rw [if_neg (by rw [decide_eq_false h]; simp), if_neg h, List.map_append]; rfl
theorem fold_nd : ∀ (L kvs : List (Int × Int)), (kvs.map (·.1)).Nodup → ((L.foldl stepI kvs).map (·.1)).Nodup
  | [], kvs, h => h
  | p :: L, kvs, h => by
    rw [List.foldl_cons]
    refine fold_nd L _ ?_
    show ((putI kvs p.1 (vI kvs p.1 + p.2)).map (·.1)).Nodup
    rw [putI_keys]
    split
    · exact h
    · rename_i hn
      rw [List.nodup_append]
      exact ⟨h, by simp, fun a ha b hb e => by rw [List.mem_singleton.mp hb] at e; exact hn (e ▸ ha)⟩
theorem find_of_mem {k : Int} : ∀ {kvs : List (Int × Int)}, k ∈ kvs.map (·.1) → (kvs.find? fun q => decide (q.1 = k)).map (fun q => D.int q.2) = some (.int (vI kvs k))
  | [], h => nomatch h
  | q :: r, h => by
    unfold vI
    rw [List.find?_cons]
    by_cases e : q.1 = k
    · rw [decide_eq_true e]; rfl
    · rw [decide_eq_false e]
      have : k ∈ r.map (·.1) := by
        rw [List.map_cons] at h
        rcases List.mem_cons.mp h with h | h
        · exact absurd h.symm e
        · exact h
      exact find_of_mem this
def tidyI (L : List (Int × Int)) : List (Int × Int) := ((isortG ltI ((fdI L).map (·.1))).filter fun p => !decide (vI (fdI L) p = 0)).map fun p => (p, vI (fdI L) p)
def SumI (S : List (Int × Int)) : Prop := (∀ p ∈ S, p.2 ≠ 0) ∧ S.Pairwise fun p q => p.1 < q.1
theorem isort_lt {l : List Int} (nd : l.Nodup) : (isortG ltI l).Pairwise (· < ·) := by
  have h1 := isortG_pw lt_I l
  have h2 : (isortG ltI l).Nodup := (isortG_perm (lt := ltI) l).nodup_iff.mpr nd
  have := List.pairwise_and_iff.mpr ⟨h1, h2⟩
  refine this.imp fun {a b} ⟨q1, q2⟩ => ?_
  simp only [ltI, decide_eq_false_iff_not] at q1
  have q2 : a ≠ b := q2
  omega
theorem tidy_sum (L : List (Int × Int)) : SumI (tidyI L) := by
  refine ⟨fun p hp => ?_, ?_⟩
  · obtain ⟨k, hk, rfl⟩ := List.mem_map.mp hp
    have := (List.mem_filter.mp hk).2
    simpa using this
  · unfold tidyI
    rw [List.pairwise_map]
    exact (isort_lt (fold_nd L [] List.nodup_nil)).filter _
theorem tidy_len (L : List (Int × Int)) : (tidyI L).length ≤ L.length := by
  unfold tidyI
  rw [List.length_map]
  refine Nat.le_trans (List.length_filter_le _ _) ?_
  rw [(isortG_perm (lt := ltI) _).length_eq, List.length_map]
  have := fold_len L []
  simpa [fdI] using this
theorem cutA1 (ds : List D) : cutD ds (some 1) none = ds.drop 1 := by
  unfold cutD
  rw [HT.sIx_none, show (some (1 : Int)) = some ((1 : Nat) : Int) from rfl, HT.sIx_nat]
  cases ds with
  | nil => rfl
  | cons x r =>
    rw [show min 1 (x :: r).length = 1 by simp, List.drop_succ_cons, List.drop_zero]
    rw [List.take_of_length_le (by simp)]
theorem isSum_ev {S : List (Int × Int)} (h : SumI S) (hl : S.length ≤ 900) : mS_is_sum [.lst (S.map pD)] = some (.bl true) := by
  apply fnP_ex (kd := .s) (n := 2) (t := tS_is_sum)
  unfold tS_is_sum
  rw [seq_at (ifS_sk (not_at (b := true) (tru_bl rfl)))]
  refine seq_ex (fun ρ => ∃ s1, ρ = [.v (.lst (S.map pD)), s1]) (forS_ex (ds := S.map pD) (puA_at (seqA_l rfl)) (forL_ex _ (fun d hd ρ hρ => ?_) _ ⟨_, rfl⟩)) fun ρ' hρ' => ?_
  · obtain ⟨p, hp, rfl⟩ := List.mem_map.mp hd
    obtain ⟨s1, rfl⟩ := hρ
    refine ⟨_, [.v (.lst (S.map pD)), .v (pD p)], rfl, ifS_sk (or2_bb (a := false) (b := false) (not_at (b := true) (tru_bl rfl)) (or2_bb (a := false) (b := false) (toB_at ?_) (or2_bb (a := false) (b := false) (not_at (b := true) (tru_bl rfl)) (not_at (b := true) (tru_bl rfl))))), ⟨_, rfl⟩⟩
    exact (op2_at (x := .int 2) (y := .int 2) rfl rfl).trans (ne_same (by rw [dep_int]; omega))
  · obtain ⟨s1, rfl⟩ := hρ'
    refine ⟨_, retF_at (asD_at (and2_at (toB_at ?_) (toB_at ?_)))⟩
    · refine (callF_at (ds := [.lst ((S.map fun _ => true).map D.bl)]) (consA_at (compF_at (ds := S.map pD) (seqA_l rfl) (by rw [List.length_map]; omega) ?_) rfl)).trans ((allD_of _).trans (by simp))
      refine (compL_map (h := pD) (o := fun _ => .bl true) S fun p hp => ⟨_, rfl, ?_⟩).trans (by rw [List.map_map]; rfl)
      refine (op2_at (x := .int p.2) (y := .int 0) rfl rfl).trans ?_
      rw [neF_ev (by rw [dep_int]; omega), eqD_int, decide_eq_false (h.1 p hp)]; rfl
    · have z : zipA (nmF 0) (slLF (nmF 0) (toO (cst (.int 1))) noO) [.v (.lst (S.map pD)), s1] = some ((List.range (S.length - 1)).map fun (i : Nat) => D.tup [pD (S.getD i (0, 0)), pD (S.getD (i + 1) (0, 0))]) := by
        have cut : slLF (nmF 0) (toO (cst (.int 1))) noO [.v (.lst (S.map pD)), s1] = some (.lst ((S.map pD).drop 1)) := by
          have : slLF (nmF 0) (toO (cst (.int 1))) noO [.v (.lst (S.map pD)), s1] = some (.lst (cutD (S.map pD) (some 1) none)) := rfl
          rw [this, cutA1]
        unfold zipA
        rw [cut]
        show some (zipD (S.map pD) ((S.map pD).drop 1)) = _
        unfold zipD
        rw [List.length_drop, List.length_map, show min S.length (S.length - 1) = S.length - 1 by omega]
        congr 1
        refine List.map_congr_left fun i hi => ?_
        rw [List.mem_range] at hi
        have g : ∀ j, j < S.length → (S.map pD)[j]? = some (pD (S.getD j (0, 0))) := fun j hj => by rw [List.getElem?_map, List.getElem?_eq_getElem hj, List.getD_eq_getElem?_getD, List.getElem?_eq_getElem hj]; rfl
        congr 2
        · rw [List.getD_eq_getElem?_getD, g i (by omega)]; rfl
        · congr 1
          rw [List.getD_eq_getElem?_getD, List.getElem?_drop, Nat.add_comm 1 i, g (i + 1) (by omega)]; rfl
      refine (callF_at (ds := [.lst (((List.range (S.length - 1)).map fun _ => true).map D.bl)]) (consA_at (compF_at z (by rw [List.length_map, List.length_range]; omega) ?_) rfl)).trans ((allD_of _).trans (by simp))
      refine (compL_map (h := fun (i : Nat) => D.tup [pD (S.getD i (0, 0)), pD (S.getD (i + 1) (0, 0))]) (o := fun _ => .bl true) (List.range (S.length - 1)) fun i hi => ⟨_, rfl, ?_⟩).trans (by rw [List.map_map]; rfl)
      rw [List.mem_range] at hi
      refine (op2_at (x := .int (S.getD i (0, 0)).1) (y := .int (S.getD (i + 1) (0, 0)).1) rfl rfl).trans ?_
      have lt : (S.getD i (0, 0)).1 < (S.getD (i + 1) (0, 0)).1 := by
        have := (List.pairwise_iff_getElem.mp h.2) i (i + 1) (by omega) (by omega) (by omega)
        rw [List.getD_eq_getElem?_getD, List.getD_eq_getElem?_getD, List.getElem?_eq_getElem (show i < S.length by omega), List.getElem?_eq_getElem (show i + 1 < S.length by omega)]
        exact this
      rw [ltF_int, decide_eq_true lt]
theorem Bag.mono {N M : Nat} {a b : Int} (B : Bag N a b) (h : N ≤ M) : Bag M a b := ⟨B.1, B.2, B.3, by have := B.4; omega, B.5⟩
end L2
set_option Elab.async false
set_option linter.all false
set_option maxRecDepth 100000
set_option maxHeartbeats 4000000
namespace L2
open PySem PySem.Spec PyProof.Rows
def sg (L : List (Int × Int)) (p : Int) : Int := ((L.filter fun q => decide (q.1 = p)).map (·.2)).sum
theorem sg_cons (q : Int × Int) (L : List (Int × Int)) (p : Int) : sg (q :: L) p = (if q.1 = p then q.2 else 0) + sg L p := by
  unfold sg
  rw [List.filter_cons]
  by_cases h : q.1 = p
  · rw [if_pos (by simpa using h), if_pos h]; simp
  · rw [if_neg (by simpa using h), if_neg h]; simp
theorem vI_nil (p : Int) : vI [] p = 0 := rfl
theorem vI_cons (q : Int × Int) (r : List (Int × Int)) (p : Int) : vI (q :: r) p = if q.1 = p then q.2 else vI r p := by
  unfold vI
  rw [List.find?_cons]
  by_cases h : q.1 = p
  · rw [decide_eq_true h, if_pos h]; rfl
  · rw [decide_eq_false h, if_neg h]
theorem vI_map (k v p : Int) : ∀ kvs : List (Int × Int), (k ∈ kvs.map (·.1)) → vI (kvs.map (fun q => if q.1 = k then (q.1, v) else q)) p = if p = k then v else vI kvs p
  | [], h => nomatch h
  | q :: r, h => by
    rw [List.map_cons, vI_cons, vI_cons]
    by_cases h1 : q.1 = k
    · rw [if_pos h1]
      by_cases h2 : p = k
      · rw [if_pos h2, if_pos (by show q.1 = p; rw [h1, h2])]
      · rw [if_neg h2, if_neg (by show ¬ q.1 = p; rw [h1]; exact fun e => h2 e.symm), if_neg (by rw [h1]; exact fun e => h2 e.symm)]
        by_cases h3 : k ∈ r.map (·.1)
        · rw [vI_map k v p r h3, if_neg h2]
        · have : r.map (fun q => if q.1 = k then (q.1, v) else q) = r := by
            conv => rhs; rw [← List.map_id r]
            refine List.map_congr_left fun x hx => ?_
            rw [if_neg]; rfl
            exact fun e => h3 (List.mem_map.mpr ⟨x, hx, e⟩)
          rw [this]
    · rw [if_neg h1]
      have h3 : k ∈ r.map (·.1) := by
        rw [List.map_cons] at h
        rcases List.mem_cons.mp h with h | h
        · exact absurd h.symm h1
        · exact h
      rw [vI_map k v p r h3]
      by_cases h2 : q.1 = p
      · rw [if_pos h2, if_pos h2, if_neg]
        intro e; exact h1 (h2.trans e)
      · rw [if_neg h2, if_neg h2]
theorem vI_snoc (k v p : Int) : ∀ kvs : List (Int × Int), (k ∉ kvs.map (·.1)) → vI (kvs ++ [(k, v)]) p = if p = k then v else vI kvs p
  | [], _ => by
    rw [List.nil_append, vI_cons]
    by_cases h : p = k
    · rw [if_pos h, if_pos h.symm]
    · rw [if_neg h, if_neg fun e => h e.symm]
  | q :: r, h => by
    rw [List.map_cons, List.mem_cons, not_or] at h
    rw [List.cons_append, vI_cons, vI_cons, vI_snoc k v p r h.2]
    by_cases h2 : q.1 = p
    · rw [if_pos h2, if_pos h2, if_neg]
      intro e; exact h.1 (e ▸ h2.symm)
    · rw [if_neg h2, if_neg h2]
theorem vI_put (kvs : List (Int × Int)) (k v p : Int) : vI (putI kvs k v) p = if p = k then v else vI kvs p := by
  have e : (kvs.any fun q => decide (q.1 = k)) = true ↔ k ∈ kvs.map (·.1) := by
    rw [List.any_eq_true, List.mem_map]
    constructor
    · rintro ⟨q, h1, h2⟩; exact ⟨q, h1, by simpa using h2⟩
    · rintro ⟨q, h1, h2⟩; exact ⟨q, h1, by simpa using h2⟩
  unfold putI
  split
  · rename_i h; exact vI_map k v p kvs (e.mp h)
  · rename_i h; exact vI_snoc k v p kvs fun z => h (e.mpr z)
theorem vI_fold (p : Int) : ∀ (L kvs : List (Int × Int)), vI (L.foldl stepI kvs) p = vI kvs p + sg L p
  | [], kvs => by rw [List.foldl_nil]; show _ = _ + 0; rw [Int.add_zero]
  | q :: L, kvs => by
    rw [List.foldl_cons, vI_fold p L, sg_cons]
    show vI (putI kvs q.1 (vI kvs q.1 + q.2)) p + _ = _
    rw [vI_put]
    by_cases h : p = q.1
    · rw [if_pos h, if_pos h.symm, h]; omega
    · rw [if_neg h, if_neg fun e => h e.symm]; omega
theorem keys_fold (p : Int) : ∀ (L kvs : List (Int × Int)), p ∈ (L.foldl stepI kvs).map (·.1) ↔ p ∈ kvs.map (·.1) ∨ p ∈ L.map (·.1)
  | [], kvs => by simp
  | q :: L, kvs => by
    rw [List.foldl_cons, keys_fold p L]
    show p ∈ (putI kvs q.1 (vI kvs q.1 + q.2)).map (·.1) ∨ _ ↔ _
    rw [putI_keys, List.map_cons, List.mem_cons]
    split
    · rename_i h
      constructor
      · rintro (h1 | h1)
        · exact .inl h1
        · exact .inr (.inr h1)
      · rintro (h1 | h1 | h1)
        · exact .inl h1
        · exact .inl (h1 ▸ h)
        · exact .inr h1
    · rw [List.mem_append, List.mem_singleton]
      constructor
      · rintro ((h1 | h1) | h1)
        · exact .inl h1
        · exact .inr (.inl h1)
        · exact .inr (.inr h1)
      · rintro (h1 | h1 | h1)
        · exact .inl (.inl h1)
        · exact .inl (.inr h1)
        · exact .inr h1
theorem vI_fd (L : List (Int × Int)) (p : Int) : vI (fdI L) p = sg L p := by unfold fdI; rw [vI_fold, vI_nil, Int.zero_add]
def Tells (M : List Int) (s : Int → Int) (S : List (Int × Int)) : Prop := (S.Pairwise fun p q => p.1 < q.1) ∧ ∀ x, x ∈ S ↔ x.1 ∈ M ∧ s x.1 ≠ 0 ∧ x.2 = s x.1
theorem tells_uniq {M : List Int} {s : Int → Int} {S T : List (Int × Int)} (h : Tells M s S) (h' : Tells M s T) : S = T := by
  have nd : ∀ {U : List (Int × Int)}, (U.Pairwise fun p q => p.1 < q.1) → U.Nodup := fun h => h.imp fun q e => by subst e; omega
  refine List.Perm.eq_of_pairwise (fun a b _ _ h1 h2 => ?_) h.1 h'.1 ((List.perm_ext_iff_of_nodup (nd h.1) (nd h'.1)).mpr fun x => by rw [h.2, h'.2])
  omega
theorem tidy_tells (L : List (Int × Int)) : Tells (L.map (·.1)) (sg L) (tidyI L) := by
  refine ⟨(tidy_sum L).2, fun x => ?_⟩
  unfold tidyI
  rw [List.mem_map]
  constructor
  · rintro ⟨p, hp, rfl⟩
    obtain ⟨h1, h2⟩ := List.mem_filter.mp hp
    have h3 := (isortG_perm (lt := ltI) _).mem_iff.mp h1
    have h4 := (keys_fold p L []).mp h3
    rw [vI_fd] at h2 ⊢
    refine ⟨?_, by simpa using h2, rfl⟩
    rcases h4 with h4 | h4
    · exact nomatch h4
    · exact h4
  · rintro ⟨h1, h2, h3⟩
    refine ⟨x.1, List.mem_filter.mpr ⟨(isortG_perm (lt := ltI) _).mem_iff.mpr ((keys_fold x.1 L []).mpr (.inr h1)), by rw [vI_fd]; simpa using h2⟩, ?_⟩
    rw [vI_fd, ← h3]
theorem depsS : ∀ M : List (Int × Int), deps (M.map pD) ≤ 1
  | [] => by rw [List.map_nil]; unfold deps; omega
  | p :: M => by
    rw [List.map_cons]
    unfold deps
    have ih := depsS M
    have : dep (pD p) = 1 := by
      show dep (.tup [.int p.1, .int p.2]) = 1
      unfold dep deps deps deps
      rw [dep_int, dep_int]; rfl
    omega
theorem dep_S (L : List (Int × Int)) : dep (.lst (L.map pD)) ≤ 32 := by unfold dep; have := depsS L; omega
theorem lf_S : ∀ L : List (Int × Int), LFs (L.map pD) = true
  | [] => by rw [List.map_nil]; unfold LFs; rfl
  | p :: L => by
    rw [List.map_cons]
    unfold LFs
    rw [lf_S L, Bool.and_true]
    show LF (.tup [.int p.1, .int p.2]) = true
    unfold LF LFs LFs LFs LF
    rfl
def pwI (L M : List (Int × Int)) : List (Int × Int) := L.flatMap fun p => M.map fun q => (p.1 + q.1, p.2 * q.2)
structure Bnd (R c N : Nat) (L : List (Int × Int)) : Prop where
  len : L.length ≤ N
  pow : ∀ q ∈ L, -(R : Int) ≤ q.1 ∧ q.1 ≤ R
  cf : ∀ q ∈ L, q.2.natAbs ≤ c
def totI (L : List (Int × Int)) : Int := (L.map (·.2)).sum
theorem Tells.congr {A B : List Int} {s t : Int → Int} {S : List (Int × Int)} (h : Tells A s S) (e : ∀ k, k ∈ A ↔ k ∈ B) (f : ∀ k, s k = t k) : Tells B t S := ⟨h.1, fun x => by rw [h.2, e, f]⟩
theorem sum_perm {l m : List Int} (h : l.Perm m) : l.sum = m.sum := by
  induction h with
  | nil => rfl
  | cons x _ ih => rw [List.sum_cons, List.sum_cons, ih]
  | swap x y l => rw [List.sum_cons, List.sum_cons, List.sum_cons, List.sum_cons]; omega
  | trans _ _ h1 h2 => exact h1.trans h2
theorem sg_perm {L M : List (Int × Int)} (h : L.Perm M) (p : Int) : sg L p = sg M p := sum_perm ((h.filter _).map _)
theorem tidy_perm {L M : List (Int × Int)} (h : L.Perm M) : tidyI L = tidyI M :=
  tells_uniq ((tidy_tells L).congr (fun k => (h.map (·.1)).mem_iff) (sg_perm h)) (tidy_tells M)
theorem flat_cons {α β : Type} (g : α → β) (h : α → List β) : ∀ M : List α, (M.flatMap fun q => g q :: h q).Perm (M.map g ++ M.flatMap h)
  | [] => .refl _
  | a :: M => by
    rw [List.flatMap_cons, List.flatMap_cons, List.map_cons]
    refine List.Perm.cons _ ?_
    refine (List.Perm.append_left _ (flat_cons g h M)).trans ?_
    show (h a ++ (M.map g ++ M.flatMap h)).Perm (M.map g ++ (h a ++ M.flatMap h))
    rw [← List.append_assoc, ← List.append_assoc]
    exact List.Perm.append_right _ List.perm_append_comm
theorem pw_comm : ∀ L M : List (Int × Int), (pwI L M).Perm (pwI M L)
  | [], M => by
    unfold pwI
    rw [List.flatMap_nil]
    have : ∀ M : List (Int × Int), (M.flatMap fun p => ([] : List (Int × Int)).map fun q => (p.1 + q.1, p.2 * q.2)) = [] := fun M => by induction M with
      | nil => rfl
      | cons a M ih => rw [List.flatMap_cons, ih]; rfl
    rw [this]
  | a :: L, M => by
    have ih := pw_comm L M
    unfold pwI at ih ⊢
    rw [List.flatMap_cons]
    refine List.Perm.trans ?_ (flat_cons (fun q : Int × Int => (q.1 + a.1, q.2 * a.2)) (fun q => L.map fun p => (q.1 + p.1, q.2 * p.2)) M).symm
    rw [show (M.map fun q => (a.1 + q.1, a.2 * q.2)) = M.map fun q => (q.1 + a.1, q.2 * a.2) from List.map_congr_left fun q _ => by rw [Int.add_comm, Int.mul_comm]]
    exact List.Perm.append_left _ ih
theorem tot_cons (q : Int × Int) (L : List (Int × Int)) : totI (q :: L) = q.2 + totI L := by unfold totI; rw [List.map_cons, List.sum_cons]
theorem tot_app (L M : List (Int × Int)) : totI (L ++ M) = totI L + totI M := by unfold totI; rw [List.map_append, List.sum_append]
theorem tot_mul (a : Int × Int) : ∀ M : List (Int × Int), totI (M.map fun q => (a.1 + q.1, a.2 * q.2)) = a.2 * totI M
  | [] => by simp [totI]
  | q :: M => by rw [List.map_cons, tot_cons, tot_cons, tot_mul a M, Int.mul_add]
theorem tot_pw : ∀ L M : List (Int × Int), totI (pwI L M) = totI L * totI M
  | [], M => by simp [totI, pwI]
  | a :: L, M => by
    have ih := tot_pw L M
    unfold pwI at ih ⊢
    rw [List.flatMap_cons, tot_app, tot_mul, ih, tot_cons, Int.add_mul]
theorem sum_one {a v : Int} : ∀ {K : List Int}, K.Nodup → a ∈ K → (K.map fun k => if a = k then v else 0).sum = v
  | [], _, h => nomatch h
  | k :: K, nd, h => by
    rw [List.nodup_cons] at nd
    rw [List.map_cons, List.sum_cons]
    by_cases e : a = k
    · subst e
      have : ∀ K : List Int, a ∉ K → (K.map fun k => if a = k then v else 0).sum = 0 := fun K hK => by
        induction K with
        | nil => rfl
        | cons x K ih =>
          rw [List.map_cons, List.sum_cons, ih fun z => hK (List.mem_cons_of_mem _ z), if_neg fun z => hK (by rw [z]; exact List.mem_cons_self)]; rfl
      rw [if_pos rfl, this K nd.1]; omega
    · rw [if_neg e, sum_one nd.2 (by rcases List.mem_cons.mp h with h | h; exact absurd h e; exact h)]; omega
theorem sum_add (f g : Int → Int) : ∀ K : List Int, (K.map fun k => f k + g k).sum = (K.map f).sum + (K.map g).sum
  | [] => rfl
  | k :: K => by rw [List.map_cons, List.sum_cons, sum_add f g K, List.map_cons, List.sum_cons, List.map_cons, List.sum_cons]; omega
theorem sum_sg {K : List Int} (nd : K.Nodup) : ∀ L : List (Int × Int), (∀ q ∈ L, q.1 ∈ K) → (K.map (sg L)).sum = totI L
  | [], _ => by
    have : ∀ K : List Int, (K.map (sg [])).sum = 0 := fun K => by induction K with
      | nil => rfl
      | cons k K ih => rw [List.map_cons, List.sum_cons, ih]; rfl
    rw [this]; rfl
  | q :: L, h => by
    rw [show K.map (sg (q :: L)) = K.map fun k => (if q.1 = k then q.2 else 0) + sg L k from List.map_congr_left fun k _ => sg_cons q L k, sum_add, sum_one nd (h q List.mem_cons_self), sum_sg nd L fun x hx => h x (List.mem_cons_of_mem _ hx), tot_cons]
theorem sum_nz (f : Int → Int) : ∀ K : List Int, ((K.filter fun p => !decide (f p = 0)).map f).sum = (K.map f).sum
  | [] => rfl
  | k :: K => by
    rw [List.filter_cons, List.map_cons, List.sum_cons, ← sum_nz f K]
    by_cases e : f k = 0
    · rw [if_neg (by simp [e]), e]; omega
    · rw [if_pos (by simp [e]), List.map_cons, List.sum_cons]
theorem tot_tidy (L : List (Int × Int)) : totI (tidyI L) = totI L := by
  have nd : (isortG ltI ((fdI L).map (·.1))).Nodup := (isortG_perm (lt := ltI) _).nodup_iff.mpr (fold_nd L [] (by simp))
  have e : totI (tidyI L) = (((isortG ltI ((fdI L).map (·.1))).filter fun p => !decide (sg L p = 0)).map (sg L)).sum := by
    unfold totI tidyI
    rw [List.map_map]
    simp only [vI_fd]
    rfl
  rw [e, sum_nz, sum_sg nd L fun q hq => (isortG_perm (lt := ltI) _).mem_iff.mpr ((keys_fold q.1 L []).mpr (.inr (List.mem_map_of_mem hq)))]
theorem rise_len {b : Int} : ∀ {l : List Int} {a : Int}, l.Pairwise (· < ·) → (∀ x ∈ l, a ≤ x ∧ x ≤ b) → (l.length : Int) ≤ max 0 (b - a + 1)
  | [], a, _, _ => by simp; omega
  | x :: l, a, h, r => by
    rw [List.pairwise_cons] at h
    have := rise_len (a := x + 1) h.2 fun y hy => ⟨h.1 y hy, (r y (List.mem_cons_of_mem _ hy)).2⟩
    have := r x List.mem_cons_self
    rw [List.length_cons]
    omega
theorem keys_len {R : Nat} {l : List Int} (nd : l.Nodup) (r : ∀ x ∈ l, -(R : Int) ≤ x ∧ x ≤ R) : l.length ≤ 2 * R + 1 := by
  have h := rise_len (a := -(R : Int)) (b := R) (isort_lt nd) fun x hx => r x ((isortG_perm (lt := ltI) _).mem_iff.mp hx)
  rw [(isortG_perm (lt := ltI) _).length_eq] at h
  omega
theorem sg_bnd {c : Nat} : ∀ {L : List (Int × Int)}, (∀ q ∈ L, q.2.natAbs ≤ c) → ∀ p, (sg L p).natAbs ≤ L.length * c
  | [], _, p => by simp [sg]
  | q :: L, h, p => by
    have := sg_bnd (fun x hx => h x (List.mem_cons_of_mem _ hx)) p
    have := h q List.mem_cons_self
    rw [sg_cons, List.length_cons, Nat.succ_mul]
    split <;> omega
theorem tot_bnd {c : Nat} : ∀ {L : List (Int × Int)}, (∀ q ∈ L, q.2.natAbs ≤ c) → (totI L).natAbs ≤ L.length * c
  | [], _ => by simp [totI]
  | q :: L, h => by
    have := tot_bnd (fun x hx => h x (List.mem_cons_of_mem _ hx))
    have := h q List.mem_cons_self
    rw [tot_cons, List.length_cons, Nat.succ_mul]
    omega
theorem Bnd.tidy {R c N : Nat} {L : List (Int × Int)} (h : Bnd R c N L) : Bnd R (N * c) (2 * R + 1) (tidyI L) := by
  have T := tidy_tells L
  have mem : ∀ q ∈ tidyI L, -(R : Int) ≤ q.1 ∧ q.1 ≤ R := fun q hq => by
    obtain ⟨z, hz, e⟩ := List.mem_map.mp ((T.2 q).mp hq).1
    rw [← e]; exact h.pow z hz
  refine ⟨?_, mem, fun q hq => ?_⟩
  · have := keys_len (R := R) (l := (tidyI L).map (·.1)) (by
      show List.Pairwise (· ≠ ·) _
      rw [List.pairwise_map]
      exact (tidy_sum L).2.imp fun z e => by omega) fun x hx => by
        obtain ⟨q, hq, rfl⟩ := List.mem_map.mp hx
        exact mem q hq
    rw [List.length_map] at this
    exact this
  · rw [((T.2 q).mp hq).2.2]
    exact Nat.le_trans (sg_bnd h.cf _) (Nat.mul_le_mul_right _ h.len)
theorem pw_len : ∀ L M : List (Int × Int), (pwI L M).length = L.length * M.length
  | [], M => by simp [pwI]
  | a :: L, M => by
    have ih := pw_len L M
    unfold pwI at ih ⊢
    rw [List.flatMap_cons, List.length_append, List.length_map, ih, List.length_cons, Nat.succ_mul]; omega
theorem Bnd.pw {R c N R' c' N' : Nat} {L M : List (Int × Int)} (h : Bnd R c N L) (h' : Bnd R' c' N' M) : Bnd (R + R') (c * c') (N * N') (pwI L M) := by
  refine ⟨by rw [pw_len]; exact Nat.mul_le_mul h.len h'.len, fun q hq => ?_, fun q hq => ?_⟩
  · obtain ⟨p, hp, hq⟩ := List.mem_flatMap.mp hq
    obtain ⟨r, hr, rfl⟩ := List.mem_map.mp hq
    have := h.pow p hp; have := h'.pow r hr
    dsimp only; omega
  · obtain ⟨p, hp, hq⟩ := List.mem_flatMap.mp hq
    obtain ⟨r, hr, rfl⟩ := List.mem_map.mp hq
    dsimp only
    rw [Int.natAbs_mul]
    exact Nat.mul_le_mul (h.cf p hp) (h'.cf r hr)
end L2
set_option Elab.async false
set_option linter.all false
set_option maxRecDepth 100000
set_option maxHeartbeats 4000000
namespace L2
open PySem PySem.Spec PyProof.Rows
theorem tuplesB_ev {N : Nat} {a b : Int} (B : Bag N a b) (hN : N ≤ 700000000) : ∃ (L : List (Int × Int)) (a' b' : Int), mS_tuples (bagD a b) [.int 20] = some (.lst (L.map pD), bagD a' b') ∧ Bnd 60 (9 * 10 ^ 9) 20 L ∧ Bag (N + 43) a' b' := by
  obtain ⟨w, a1, b1, e1, B1, w0, w1⟩ := take_ev (m := 2) B (by omega) (by decide) (by decide)
  obtain ⟨g, a2, b2, e2, B2, g0, g1⟩ := take_ev (m := 8) B1 (by omega) (by decide) (by decide)
  obtain ⟨t, a3, b3, e3, B3, t0, t1⟩ := take_ev (m := 20 + 1) B2 (by omega) (by decide) (by decide)
  obtain ⟨n, hn, rfl⟩ : ∃ n : Nat, n ≤ 20 ∧ t = n := ⟨t.toNat, by omega, by omega⟩
  obtain ⟨m1, d1, x1, x2, y1, y2⟩ : ∃ m1 d1 : Int, ixD (.lst [.int 7, .int 121]) (.int w) = some (.int m1) ∧ (0 < m1 ∧ m1.natAbs < 10 ^ 20) ∧ ixD (.lst [.int 3, .int 60]) (.int w) = some (.int d1) ∧ (m1 ≤ 121 ∧ 0 ≤ d1 ∧ m1 - d1 ≤ 61 ∧ d1 ≤ 60) := by
    have : w = 0 ∨ w = 1 := by omega
    rcases this with rfl | rfl
    · exact ⟨7, 3, rfl, ⟨by decide, by decide⟩, rfl, by decide⟩
    · exact ⟨121, 60, rfl, ⟨by decide, by decide⟩, rfl, by decide⟩
  have r0 : rhoE 8 (bagD a b) [.int 20] = [.arg (bagD a b), .v (.int 20), .no, .no, .no, .no, .no, .no] := rfl
  have q1 : setE 2 (callE 0 1 mC_take (puA (consA (cst (.int 2)) (nilA)))) (rhoE 8 (bagD a b) [.int 20]) = .nx [.arg (bagD a1 b1), .v (.int 20), .v (.int w), .no, .no, .no, .no, .no] := (setE_at (callE_at (i := 0) (n := 1) (b0 := bagD a b) (ds := [.int 2]) rfl (puA_at rfl) rfl rfl e1)).trans rfl
  have q2 : setE 3 (callE 0 1 mC_take (puA (consA (cst (.int 8)) (nilA)))) [.arg (bagD a1 b1), .v (.int 20), .v (.int w), .no, .no, .no, .no, .no] = .nx [.arg (bagD a2 b2), .v (.int 20), .v (.int w), .v (.int g), .no, .no, .no, .no] := (setE_at (callE_at (i := 0) (n := 1) (b0 := bagD a1 b1) (ds := [.int 8]) rfl (puA_at rfl) rfl rfl e2)).trans rfl
  have q3 : ownF 4 (lstF (nilA)) [.arg (bagD a2 b2), .v (.int 20), .v (.int w), .v (.int g), .no, .no, .no, .no] = .nx [.arg (bagD a2 b2), .v (.int 20), .v (.int w), .v (.int g), .own (([] : List (Int × Int)).map pD), .no, .no, .no] := (ownF_at (lstF_at rfl (by simp))).trans rfl
  have q4 : rng1 (consG (callE 0 1 mC_take (puA (consA (op2 addF (nmF 1) (cst (.int 1))) (nilA)))) (puA (nilA))) [.arg (bagD a2 b2), .v (.int 20), .v (.int w), .v (.int g), .own (([] : List (Int × Int)).map pD), .no, .no, .no] = some (ups 0 n, [.arg (bagD a3 b3), .v (.int 20), .v (.int w), .v (.int g), .own (([] : List (Int × Int)).map pD), .no, .no, .no]) := by
    have : consG (callE 0 1 mC_take (puA (consA (op2 addF (nmF 1) (cst (.int 1))) (nilA)))) (puA (nilA)) [.arg (bagD a2 b2), .v (.int 20), .v (.int w), .v (.int g), .own (([] : List (Int × Int)).map pD), .no, .no, .no] = some ([.int n], [.arg (bagD a3 b3), .v (.int 20), .v (.int w), .v (.int g), .own (([] : List (Int × Int)).map pD), .no, .no, .no]) :=
      consG_at (callE_at (i := 0) (n := 1) (b0 := bagD a2 b2) (ds := [.int (20 + 1)]) rfl (puA_at (consA_at ((op2_at (x := .int 20) (y := .int 1) rfl rfl).trans (addF_int _ _)) rfl)) rfl rfl e3) rfl
    unfold rng1
    rw [this]
    show (if (n : Int).natAbs < 4000000000 then _ else _) = _
    rw [if_pos (by omega), Int.toNat_natCast]
  have p9 : ∀ ρ : Rho, op2 powF (cst (.int 10)) (cst (.int 9)) ρ = some (.int (10 ^ 9)) := fun ρ => (op2_at (x := .int 10) (y := .int 9) rfl rfl).trans (powF_int (by decide) (by decide) (by decide))
  obtain ⟨ρ', lp, L, a', b', s5, s6, s7, ⟨hL, hL2, hL3⟩, B', rfl⟩ := forL_cnt (g := gN 5) (b := seqS (setE 6 (op2E subF (callE 0 1 mC_take (puA (consA (op2 ixD (lstF (consA (cst (.int 7)) (consA (cst (.int 121)) (nilA)))) (nmF 2)) (nilA)))) (pu (op2 ixD (lstF (consA (cst (.int 3)) (consA (cst (.int 60)) (nilA)))) (nmF 2)))))
    (seqS (setE 7 (op2E subF (callE 0 1 mC_take (puA (consA (cst (.int 19)) (nilA)))) (pu (cst (.int 9)))))
    (dropE (callE 4 1 appM (puA (consA (tupF (consA (nmF 6) (consA (op2 ixD (lstF (consA (nmF 7) (consA (op2 mulF (nmF 7) (op2 powF (cst (.int 10)) (cst (.int 9)))) (nilA)))) (callF intF (consA (op2 eqF (nmF 3) (cst (.int 1))) (nilA)))) (nilA)))) (nilA)))))))
    (P := fun i ρ => ∃ (L : List (Int × Int)) (a' b' : Int) (s5 s6 s7 : Sl), (L.length = i ∧ (∀ q ∈ L, -(60 : Int) ≤ q.1 ∧ q.1 ≤ 60) ∧ ∀ q ∈ L, q.2.natAbs ≤ 9 * 10 ^ 9) ∧ Bag (N + 3 + 2 * i) a' b' ∧ ρ = [.arg (bagD a' b'), .v (.int 20), .v (.int w), .v (.int g), .own (L.map pD), s5, s6, s7]) (ups 0 n) 0 (fun d hd i ρ hi hρ => by
      obtain ⟨L, a', b', s5, s6, s7, ⟨hL, hL2, hL3⟩, B', rfl⟩ := hρ
      have hi : i < n := by simpa [ups] using hi
      obtain ⟨u, a4, b4, e4, B4, u0, u1⟩ := take_ev (m := m1) B' (by omega) x2.1 x2.2
      obtain ⟨v, a5, b5, e5, B5, v0, v1⟩ := take_ev (m := 19) B4 (by omega) (by decide) (by decide)
      have z1 : setE 6 (op2E subF (callE 0 1 mC_take (puA (consA (op2 ixD (lstF (consA (cst (.int 7)) (consA (cst (.int 121)) (nilA)))) (nmF 2)) (nilA)))) (pu (op2 ixD (lstF (consA (cst (.int 3)) (consA (cst (.int 60)) (nilA)))) (nmF 2)))) [.arg (bagD a' b'), .v (.int 20), .v (.int w), .v (.int g), .own (L.map pD), .v d, s6, s7] = .nx [.arg (bagD a4 b4), .v (.int 20), .v (.int w), .v (.int g), .own (L.map pD), .v d, .v (.int (u - d1)), s7] :=
        (setE_at (op2E_at (callE_at (i := 0) (n := 1) (b0 := bagD a' b') (ds := [.int m1]) rfl (puA_at (consA_at ((op2_at (x := .lst [.int 7, .int 121]) (y := .int w) (lstF_at rfl (by simp)) rfl).trans x1) rfl)) rfl rfl e4) (pu_at ((op2_at (x := .lst [.int 3, .int 60]) (y := .int w) (lstF_at rfl (by simp)) rfl).trans y1)) (subF_int _ _))).trans rfl
      have z2 : setE 7 (op2E subF (callE 0 1 mC_take (puA (consA (cst (.int 19)) (nilA)))) (pu (cst (.int 9)))) [.arg (bagD a4 b4), .v (.int 20), .v (.int w), .v (.int g), .own (L.map pD), .v d, .v (.int (u - d1)), s7] = .nx [.arg (bagD a5 b5), .v (.int 20), .v (.int w), .v (.int g), .own (L.map pD), .v d, .v (.int (u - d1)), .v (.int (v - 9))] :=
        (setE_at (op2E_at (callE_at (i := 0) (n := 1) (b0 := bagD a4 b4) (ds := [.int 19]) rfl (puA_at rfl) rfl rfl e5) (pu_at rfl) (subF_int _ _))).trans rfl
      obtain ⟨r, hr, hr2⟩ : ∃ r : Int, op2 ixD (lstF (consA (nmF 7) (consA (op2 mulF (nmF 7) (op2 powF (cst (.int 10)) (cst (.int 9)))) (nilA)))) (callF intF (consA (op2 eqF (nmF 3) (cst (.int 1))) (nilA))) [.arg (bagD a5 b5), .v (.int 20), .v (.int w), .v (.int g), .own (L.map pD), .v d, .v (.int (u - d1)), .v (.int (v - 9))] = some (.int r) ∧ r.natAbs ≤ 9 * 10 ^ 9 := by
        have l1 : lstF (consA (nmF 7) (consA (op2 mulF (nmF 7) (op2 powF (cst (.int 10)) (cst (.int 9)))) (nilA))) [.arg (bagD a5 b5), .v (.int 20), .v (.int w), .v (.int g), .own (L.map pD), .v d, .v (.int (u - d1)), .v (.int (v - 9))] = some (.lst [.int (v - 9), .int ((v - 9) * 10 ^ 9)]) :=
          lstF_at (consA_at rfl (consA_at ((op2_at (x := .int (v - 9)) rfl (p9 _)).trans (mulF_int (Nat.lt_of_le_of_lt (show (v - 9).natAbs ≤ 100 by omega) (by decide)) (by decide))) rfl)) (by simp)
        have i1 : callF intF (consA (op2 eqF (nmF 3) (cst (.int 1))) (nilA)) [.arg (bagD a5 b5), .v (.int 20), .v (.int w), .v (.int g), .own (L.map pD), .v d, .v (.int (u - d1)), .v (.int (v - 9))] = some (.int (if decide (g = 1) = true then 1 else 0)) :=
          (callF_at (ds := [.bl (decide (g = 1))]) (consA_at ((op2_at (x := .int g) (y := .int 1) rfl rfl).trans (by rw [eqF_ev (by rw [dep_int]; omega), eqD_int])) rfl)).trans rfl
        by_cases hg : g = 1
        · rw [decide_eq_true hg, if_pos rfl] at i1
          exact ⟨_, (op2_at l1 i1).trans rfl, by omega⟩
        · rw [decide_eq_false hg, if_neg (by simp)] at i1
          exact ⟨_, (op2_at l1 i1).trans rfl, by omega⟩
      have z3 : dropE (callE 4 1 appM (puA (consA (tupF (consA (nmF 6) (consA (op2 ixD (lstF (consA (nmF 7) (consA (op2 mulF (nmF 7) (op2 powF (cst (.int 10)) (cst (.int 9)))) (nilA)))) (callF intF (consA (op2 eqF (nmF 3) (cst (.int 1))) (nilA)))) (nilA)))) (nilA)))) [.arg (bagD a5 b5), .v (.int 20), .v (.int w), .v (.int g), .own (L.map pD), .v d, .v (.int (u - d1)), .v (.int (v - 9))] = .nx [.arg (bagD a5 b5), .v (.int 20), .v (.int w), .v (.int g), .own ((L ++ [(u - d1, r)]).map pD), .v d, .v (.int (u - d1)), .v (.int (v - 9))] := by
        refine (app_at (b0 := L.map pD) (bs := L.map pD) (d := pD (u - d1, r)) rfl (puA_at (consA_at (tupF_at (consA_at rfl (consA_at hr rfl)) (by simp)) rfl)) rfl (by rw [List.length_map]; omega)).trans ?_
        rw [List.map_append]; rfl
      refine ⟨_, _, rfl, (seq_at z1).trans ((seq_at z2).trans z3), L ++ [(u - d1, r)], a5, b5, _, _, _, ⟨by rw [List.length_append, hL]; rfl, fun q hq => by
        rcases List.mem_append.mp hq with hq | hq
        · exact hL2 q hq
        · rw [List.mem_singleton] at hq; subst hq; dsimp only; omega, fun q hq => by
        rcases List.mem_append.mp hq with hq | hq
        · exact hL3 q hq
        · rw [List.mem_singleton] at hq; subst hq; exact hr2⟩, B5.mono (by omega), rfl⟩) [.arg (bagD a3 b3), .v (.int 20), .v (.int w), .v (.int g), .own (([] : List (Int × Int)).map pD), .no, .no, .no] ⟨[], a3, b3, _, _, _, ⟨rfl, by simp, by simp⟩, B3.mono (by omega), rfl⟩
  have hu : 0 + (ups 0 n).length = n := by simp [ups]
  rw [hu] at hL B'
  refine ⟨L, a', b', ?_, ⟨by omega, hL2, hL3⟩, B'.mono (by omega)⟩
  refine fnE_rt (kd := .n) (n := 8) (t := tS_tuples) (ρ := [.arg (bagD a' b'), .v (.int 20), .v (.int w), .v (.int g), .own (L.map pD), s5, s6, s7]) ?_ rfl
  unfold tS_tuples
  rw [seq_at q1, seq_at q2, seq_at q3, seq_at ((forS_at q4).trans lp)]
  rfl
theorem lineB {n : Nat} (h : n ≤ 100000) : n ≤ sizeLine := Nat.le_trans h (by decide)
theorem tidy_loopB (src : D) : ∀ (L kvs : List (Int × Int)) (s2 s3 : Sl), (kvs.map (·.1)).Nodup → (∀ k ∈ kvs.map (·.1), -(240 : Int) ≤ k ∧ k ≤ 240) → (∀ q ∈ L, -(240 : Int) ≤ q.1 ∧ q.1 ≤ 240) → ∃ s2' s3', forL (gT 2 (gsC (gN 2) (gsC (gN 3) (gsN)))) (dputS 1 (nmF 2) (op2 addF (dgetF 1 (nmF 2) (cst (.int 0))) (nmF 3))) (L.map pD) [.v src, .ob (.dK (kvD kvs)), s2, s3] = .nx [.v src, .ob (.dK (kvD (L.foldl stepI kvs))), s2', s3']
  | [], kvs, s2, s3, _, _, _ => ⟨s2, s3, rfl⟩
  | p :: L, kvs, s2, s3, nd, rg, hL => by
    have hl := keys_len (R := 240) nd rg
    rw [List.length_map] at hl
    have nd' : ((stepI kvs p).map (·.1)).Nodup := fold_nd [p] kvs nd
    have rg' : ∀ k ∈ (stepI kvs p).map (·.1), -(240 : Int) ≤ k ∧ k ≤ 240 := fun k hk => by
      rcases (keys_fold k [p] kvs).mp hk with h | h
      · exact rg k h
      · have : k = p.1 := by simpa using h
        rw [this]; exact hL p List.mem_cons_self
    obtain ⟨s2', s3', ih⟩ := tidy_loopB src L (stepI kvs p) (.v (.int p.1)) (.v (.int p.2)) nd' rg' fun q hq => hL q (List.mem_cons_of_mem _ hq)
    refine ⟨s2', s3', ?_⟩
    rw [List.map_cons, List.foldl_cons]
    have gt : dgetF 1 (nmF 2) (cst (.int 0)) [.v src, .ob (.dK (kvD kvs)), .v (.int p.1), .v (.int p.2)] = some (.int (vI kvs p.1)) := by
      show some ((valD (kvD kvs) (Sum.inl p.1)).getD (.int 0)) = _
      rw [valD_kv]
      unfold vI
      cases kvs.find? fun q => decide (q.1 = p.1) <;> rfl
    have st : dputS 1 (nmF 2) (op2 addF (dgetF 1 (nmF 2) (cst (.int 0))) (nmF 3)) [.v src, .ob (.dK (kvD kvs)), .v (.int p.1), .v (.int p.2)] = .nx [.v src, .ob (.dK (kvD (stepI kvs p))), .v (.int p.1), .v (.int p.2)] := by
      have e : op2 addF (dgetF 1 (nmF 2) (cst (.int 0))) (nmF 3) [.v src, .ob (.dK (kvD kvs)), .v (.int p.1), .v (.int p.2)] = some (.int (vI kvs p.1 + p.2)) := (op2_at gt (y := .int p.2) rfl).trans (addF_int _ _)
      unfold dputS
      rw [e]
      show (if (kvD kvs).length ≤ 1000 then Out.nx [.v src, .ob (.dK (putD (kvD kvs) (Sum.inl p.1) (.int (vI kvs p.1 + p.2)))), .v (.int p.1), .v (.int p.2)] else .no) = _
      rw [if_pos (by rw [List.length_map]; omega), putD_kv]; rfl
    exact (forL_cons (ρ1 := [.v src, .ob (.dK (kvD kvs)), .v (.int p.1), .v (.int p.2)]) rfl st).trans ih
theorem tidyB_ev (L : List (Int × Int)) (hL : ∀ q ∈ L, -(240 : Int) ≤ q.1 ∧ q.1 ≤ 240) : m_tidy [.lst (L.map pD)] = some (.lst ((tidyI L).map pD)) := by
  apply fnP_ex (kd := .n) (n := 4) (t := t_tidy)
  unfold t_tidy
  have s0 : dnewS 1 (rho0 4 [.lst (L.map pD)]) = .nx [.v (.lst (L.map pD)), .ob (.dK (kvD [])), .no, .no] := rfl
  rw [seq_at s0]
  obtain ⟨s2, s3, lp⟩ := tidy_loopB (.lst (L.map pD)) L [] .no .no (by simp) (by simp) hL
  rw [seq_at ((forS_at (ds := L.map pD) (puA_at (seqA_l rfl))).trans lp)]
  refine ⟨_, retF_at ?_⟩
  have nd : ((fdI L).map (·.1)).Nodup := fold_nd L [] (by simp)
  have hf : (fdI L).length ≤ 481 := by
    have := keys_len (R := 240) nd fun k hk => by
      rcases (keys_fold k L []).mp hk with h | h
      · exact nomatch h
      · obtain ⟨q, hq, rfl⟩ := List.mem_map.mp h
        exact hL q hq
    rw [List.length_map] at this
    exact this
  show compF 1 (seqA (dsrtB 1)) (gN 4) (toB (op2 neF (dixF 1 (nmF 4)) (cst (.int 0)))) (tupF (consA (nmF 4) (consA (dixF 1 (nmF 4)) (nilA)))) [.v (.lst (L.map pD)), .ob (.dK (kvD (fdI L))), s2, s3] = _
  have so : dsrtB 1 [.v (.lst (L.map pD)), .ob (.dK (kvD (fdI L))), s2, s3] = some (.lst ((isortG ltI ((fdI L).map (·.1))).map D.int)) := by
    show ((intKeys (kvD (fdI L))).bind fun ns => if ns.length ≤ 100000 ∧ ns.Nodup then some (D.lst ((isortG ltI ns).map D.int)) else none) = _
    rw [keys_kv, Option.bind_some, if_pos ⟨by rw [List.length_map]; omega, nd⟩]
  have sl : (isortG ltI ((fdI L).map (·.1))).length = (fdI L).length := by rw [(isortG_perm (lt := ltI) _).length_eq, List.length_map]
  refine (compF_at (ds := (isortG ltI ((fdI L).map (·.1))).map D.int) (seqA_l so) (by rw [List.length_map, sl]; omega) (compL_flt (h := D.int) (o := fun p => pD (p, vI (fdI L) p)) (q := fun p => !decide (vI (fdI L) p = 0)) (isortG ltI ((fdI L).map (·.1))) fun p hp => ?_)).trans (by unfold tidyI; rw [List.map_map]; rfl)
  have hm : p ∈ (fdI L).map (·.1) := (isortG_perm (lt := ltI) _).mem_iff.mp hp
  have ix : dixF 1 (nmF 4) [.v (.lst (L.map pD)), .ob (.dK (kvD (fdI L))), s2, s3, .v (.int p)] = some (.int (vI (fdI L) p)) := by
    show valD (kvD (fdI L)) (Sum.inl p) = _
    rw [valD_kv, find_of_mem hm]
  refine ⟨[.v (.lst (L.map pD)), .ob (.dK (kvD (fdI L))), s2, s3, .v (.int p)], rfl, toB_at ((op2_at ix (y := .int 0) rfl).trans (by rw [neF_ev (by rw [dep_int]; omega), eqD_int])), fun _ => tupF_at (consA_at rfl (consA_at ix rfl)) (by simp)⟩
def Sm (L : List (Int × Int)) : Prop := ∀ q ∈ L, q.2.natAbs < 10 ^ 200
theorem flt_true {α : Type} (l : List α) : (l.filter fun _ => true) = l := List.filter_eq_self.mpr fun _ _ => rfl
theorem flat_oneP {α β : Type} (f : α → β) : ∀ l : List α, (l.flatMap fun q => [f q]) = l.map f
  | [] => rfl
  | a :: l => by rw [List.flatMap_cons, flat_oneP f l]; rfl
theorem times_ev {R R' c c' N N' : Nat} {L M : List (Int × Int)} (h : Bnd R c N L) (h' : Bnd R' c' N' M) (hR : R + R' ≤ 240) (hN : N * N' ≤ 100000) (s1 : Sm L) (s2 : Sm M) : m_times [.lst (L.map pD), .lst (M.map pD)] = some (.lst ((tidyI (pwI L M)).map pD)) := by
  have hp := h.pw h'
  apply fnP_ret (kd := .n) (n := 2) (t := t_times)
  unfold t_times
  have inner : ∀ p ∈ L, inA (seqA (nmF 1)) (gT 2 (gsC (gN 4) (gsC (gN 5) (gsN)))) (yesT) (tupF (consA (op2 addF (nmF 2) (nmF 4)) (consA (op2 mulF (nmF 3) (nmF 5)) (nilA)))) [.v (.lst (L.map pD)), .v (.lst (M.map pD)), .v (.int p.1), .v (.int p.2), .no, .no] = some ((M.map fun q => (p.1 + q.1, p.2 * q.2)).map pD) := fun p hp => by
    refine (inA_at (ds := M.map pD) (seqA_l rfl) (cpL_map (h := pD) (q := fun _ => true) (o := fun q => [pD (p.1 + q.1, p.2 * q.2)]) M fun q hq => ⟨[.v (.lst (L.map pD)), .v (.lst (M.map pD)), .v (.int p.1), .v (.int p.2), .v (.int q.1), .v (.int q.2)], rfl, rfl, fun _ => oneA_at (tupF_at (consA_at ((op2_at (x := .int p.1) (y := .int q.1) rfl rfl).trans (addF_int _ _)) (consA_at ((op2_at (x := .int p.2) (y := .int q.2) rfl rfl).trans (mulF_int (s1 p hp) (s2 q hq))) rfl)) (by simp))⟩)).trans ?_
    rw [flt_true, flat_oneP, List.map_map]; rfl
  have e : cp2F 4 (seqA (nmF 0)) (gT 2 (gsC (gN 2) (gsC (gN 3) (gsN)))) (yesT) (seqA (nmF 1)) (gT 2 (gsC (gN 4) (gsC (gN 5) (gsN)))) (yesT) (tupF (consA (op2 addF (nmF 2) (nmF 4)) (consA (op2 mulF (nmF 3) (nmF 5)) (nilA)))) (rho0 2 [.lst (L.map pD), .lst (M.map pD)]) = some (.lst ((pwI L M).map pD)) := by
    have c := cpL_map (g := gT 2 (gsC (gN 2) (gsC (gN 3) (gsN)))) (p := yesT) (A := inA (seqA (nmF 1)) (gT 2 (gsC (gN 4) (gsC (gN 5) (gsN)))) (yesT) (tupF (consA (op2 addF (nmF 2) (nmF 4)) (consA (op2 mulF (nmF 3) (nmF 5)) (nilA))))) (ρ0 := [.v (.lst (L.map pD)), .v (.lst (M.map pD)), .no, .no, .no, .no]) (h := pD) (q := fun _ => true) (o := fun p => (M.map fun q => (p.1 + q.1, p.2 * q.2)).map pD) L fun p hp => ⟨[.v (.lst (L.map pD)), .v (.lst (M.map pD)), .v (.int p.1), .v (.int p.2), .no, .no], rfl, rfl, fun _ => inner p hp⟩
    rw [flt_true] at c
    have ef : (L.flatMap fun p => (M.map fun q => (p.1 + q.1, p.2 * q.2)).map pD) = (pwI L M).map pD := by unfold pwI; rw [List.map_flatMap]
    rw [ef] at c
    unfold cp2F
    rw [seqA_l (ds := L.map pD) rfl, Option.bind_some]
    show (cpL _ _ _ [.v (.lst (L.map pD)), .v (.lst (M.map pD)), .no, .no, .no, .no] _).bind _ = _
    rw [c, Option.bind_some, if_pos (by rw [List.length_map]; exact lineB (Nat.le_trans hp.len hN))]
  exact retF_at ((cl_at (ds := [.lst ((pwI L M).map pD)]) (consA_at e rfl) rfl).trans (tidyB_ev _ fun q hq => by have := hp.pow q hq; omega))
end L2
set_option Elab.async false
set_option linter.all false
set_option maxRecDepth 100000
set_option maxHeartbeats 4000000
namespace L2
open PySem PySem.Spec PyProof.Rows
theorem product_ev {R R' c c' N N' : Nat} {L M : List (Int × Int)} (h : Bnd R c N L) (h' : Bnd R' c' N' M) (hR : R + R' ≤ 240) (hN : N * N' ≤ 100000) (hM : N' ≤ 900) (s1 : Sm L) (s2 : Sm M) : m_law_product [.lst (L.map pD), .lst (M.map pD)] = some (.lst ((tidyI (pwI L M)).map pD)) := by
  have hp := h.pw h'
  have hML := h'.len
  apply fnP_ex (kd := .n) (n := 5) (t := t_law_product)
  unfold t_law_product
  have s0 : ownF 2 (lstF (nilA)) (rho0 5 [.lst (L.map pD), .lst (M.map pD)]) = .nx [.v (.lst (L.map pD)), .v (.lst (M.map pD)), .own (([] : List (Int × Int)).map pD), .no, .no] := rfl
  rw [seq_at s0]
  have lp : ∀ (K F : List (Int × Int)) (s3 s4 : Sl), (∀ p ∈ K, p.2.natAbs < 10 ^ 200) → F.length + K.length * M.length ≤ 100000 → ∃ s3' s4', forL (gT 2 (gsC (gN 3) (gsC (gN 4) (gsN)))) (dropE (extN 2 (compF 2 (seqA (nmF 1)) (gT 2 (gsC (gN 5) (gsC (gN 6) (gsN)))) (yesT) (tupF (consA (op2 addF (nmF 3) (nmF 5)) (consA (op2 mulF (nmF 4) (nmF 6)) (nilA))))))) (K.map pD) [.v (.lst (L.map pD)), .v (.lst (M.map pD)), .own (F.map pD), s3, s4] = .nx [.v (.lst (L.map pD)), .v (.lst (M.map pD)), .own ((F ++ pwI K M).map pD), s3', s4'] := by
    intro K
    induction K with
    | nil => intro F s3 s4 _ _; exact ⟨s3, s4, by unfold pwI; rw [List.flatMap_nil, List.append_nil]; rfl⟩
    | cons p K ih =>
      intro F s3 s4 hK hl
      rw [List.length_cons, Nat.succ_mul] at hl
      obtain ⟨s3', s4', e⟩ := ih (F ++ M.map fun q => (p.1 + q.1, p.2 * q.2)) (.v (.int p.1)) (.v (.int p.2)) (fun q hq => hK q (List.mem_cons_of_mem _ hq)) (by rw [List.length_append, List.length_map]; omega)
      refine ⟨s3', s4', ?_⟩
      have cp : compF 2 (seqA (nmF 1)) (gT 2 (gsC (gN 5) (gsC (gN 6) (gsN)))) (yesT) (tupF (consA (op2 addF (nmF 3) (nmF 5)) (consA (op2 mulF (nmF 4) (nmF 6)) (nilA)))) [.v (.lst (L.map pD)), .v (.lst (M.map pD)), .own (F.map pD), .v (.int p.1), .v (.int p.2)] = some (.lst ((M.map fun q => (p.1 + q.1, p.2 * q.2)).map pD)) :=
        (compF_at (ds := M.map pD) (seqA_l rfl) (by rw [List.length_map]; omega) (compL_map (h := pD) (o := fun q => pD (p.1 + q.1, p.2 * q.2)) M fun q hq => ⟨[.v (.lst (L.map pD)), .v (.lst (M.map pD)), .own (F.map pD), .v (.int p.1), .v (.int p.2), .v (.int q.1), .v (.int q.2)], rfl, tupF_at (consA_at ((op2_at (x := .int p.1) (y := .int q.1) rfl rfl).trans (addF_int _ _)) (consA_at ((op2_at (x := .int p.2) (y := .int q.2) rfl rfl).trans (mulF_int (hK p List.mem_cons_self) (s2 q hq))) rfl)) (by simp)⟩)).trans (by rw [List.map_map]; rfl)
      have st : dropE (extN 2 (compF 2 (seqA (nmF 1)) (gT 2 (gsC (gN 5) (gsC (gN 6) (gsN)))) (yesT) (tupF (consA (op2 addF (nmF 3) (nmF 5)) (consA (op2 mulF (nmF 4) (nmF 6)) (nilA)))))) [.v (.lst (L.map pD)), .v (.lst (M.map pD)), .own (F.map pD), .v (.int p.1), .v (.int p.2)] = .nx [.v (.lst (L.map pD)), .v (.lst (M.map pD)), .own ((F ++ M.map fun q => (p.1 + q.1, p.2 * q.2)).map pD), .v (.int p.1), .v (.int p.2)] := by
        refine (dropE_at (ρ1 := [.v (.lst (L.map pD)), .v (.lst (M.map pD)), .own ((F ++ M.map fun q => (p.1 + q.1, p.2 * q.2)).map pD), .v (.int p.1), .v (.int p.2)]) (d := .non) ?_)
        unfold extN
        rw [cp]
        dsimp only
        show (if (F.map pD).length + ((M.map fun q => (p.1 + q.1, p.2 * q.2)).map pD).length ≤ sizeLine then _ else _) = _
        rw [if_pos (by rw [List.length_map, List.length_map, List.length_map]; exact lineB (by omega)), List.map_append]
        rfl
      rw [List.map_cons, forL_cons (ρ1 := [.v (.lst (L.map pD)), .v (.lst (M.map pD)), .own (F.map pD), .v (.int p.1), .v (.int p.2)]) rfl st, e]
      unfold pwI
      rw [List.flatMap_cons, List.append_assoc]
  obtain ⟨s3, s4, e⟩ := lp L [] .no .no s1 (by have := Nat.mul_le_mul h.len h'.len; simp; omega)
  rw [seq_at ((forS_at (ds := L.map pD) (puA_at (seqA_l rfl))).trans e), List.nil_append]
  show ∃ ρ, retF (callF (nF 1 m_law_summed) (consA (nmF 2) (nilA))) [.v (.lst (L.map pD)), .v (.lst (M.map pD)), .v (.lst ((pwI L M).map pD)), s3, s4] = _
  exact ⟨_, retF_at ((cl_at (ds := [.lst ((pwI L M).map pD)]) rfl rfl).trans (tidyB_ev _ fun q hq => by have := hp.pow q hq; omega))⟩
theorem sum2_at {ρ : Rho} {f : FE} {L : List (Int × Int)} (hf : f ρ = some (.lst ((L.map (·.2)).map D.int))) : callF sumD (consA f (nilA)) ρ = some (.int (totI L)) := by
  refine (callF_at (ds := [.lst ((L.map (·.2)).map D.int)]) (consA_at hf rfl)).trans ?_
  show (intsD _).map (fun ns => D.int ns.sum) = _
  rw [intsD_of]; rfl
theorem at_one_ev (L : List (Int × Int)) (h : L.length ≤ 1000) : m_at_one [.lst (L.map pD)] = some (.int (totI L)) := by
  apply fnP_ret (kd := .s) (n := 1) (t := t_at_one)
  unfold t_at_one
  refine retF_at (sum2_at ((compF_at (ds := L.map pD) (seqA_l rfl) (by rw [List.length_map]; omega) (compL_map (h := pD) (o := fun q => D.int q.2) L fun q hq => ⟨[.v (.lst (L.map pD)), .v (.int q.1), .v (.int q.2)], rfl, rfl⟩)).trans ?_))
  rw [List.map_map]; rfl
theorem right_ev {L M : List (Int × Int)} (h : Bnd 60 (10 ^ 12) 20 L) (h' : Bnd 60 (10 ^ 12) 20 M) : m_law_right [.lst (L.map pD), .lst (M.map pD)] = some (.bl true) := by
  apply fnP_ex (kd := .s) (n := 6) (t := t_law_right)
  unfold t_law_right
  let A : D := .lst (L.map pD)
  let B : D := .lst (M.map pD)
  let F := tidyI (pwI L M)
  let G := tidyI (pwI F L)
  have bF : Bnd 120 (400 * 10 ^ 24) 241 F := (h.pw h').tidy
  have bG : Bnd 180 (241 * 20 * (400 * 10 ^ 24 * 10 ^ 12)) 361 G := (bF.pw h).tidy
  have lL := h.len; have lM := h'.len; have lF := bF.len; have lG := bG.len
  have sL : Sm L := fun q hq => Nat.lt_of_le_of_lt (h.cf q hq) (by decide)
  have sM : Sm M := fun q hq => Nat.lt_of_le_of_lt (h'.cf q hq) (by decide)
  have sF : Sm F := fun q hq => Nat.lt_of_le_of_lt (bF.cf q hq) (by decide)
  have sG : Sm G := fun q hq => Nat.lt_of_le_of_lt (bG.cf q hq) (by decide)
  have dS : ∀ S : List (Int × Int), dep (.lst (S.map pD)) ≤ 32 := dep_S
  have d2 : dep (.lst [A, B]) ≤ 32 := by
    unfold dep deps deps deps
    have h1 : dep (.lst (L.map pD)) ≤ 2 := by unfold dep; have := depsS L; omega
    have h2 : dep (.lst (M.map pD)) ≤ 2 := by unfold dep; have := depsS M; omega
    show max (dep (.lst (L.map pD))) (max (dep (.lst (M.map pD))) 0) + 1 ≤ 32
    omega
  have eF := times_ev h h' (by omega) (by omega) sL sM
  have eFp := product_ev h h' (by omega) (by omega) (by omega) sL sM
  have eG := times_ev bF h (by omega) (by omega) sF sL
  have eGp := product_ev bF h (by omega) (by omega) (by omega) sF sL
  have eH := times_ev bG h' (by omega) (by omega) sG sM
  have eHp := product_ev bG h' (by omega) (by omega) (by omega) sG sM
  have eH2 : m_times [.lst (M.map pD), .lst (G.map pD)] = some (.lst ((tidyI (pwI G M)).map pD)) := by
    rw [times_ev h' bG (by omega) (by omega) sM sG, tidy_perm (pw_comm M G)]
  have q1 : setF 2 (lstF (consA (callF listD (consA (nmF 0) (nilA))) (consA (callF listD (consA (nmF 1) (nilA))) (nilA)))) (rho0 6 [.lst (L.map pD), .lst (M.map pD)]) = .nx [.v A, .v B, .v (.lst [A, B]), .no, .no, .no] := (setF_at (lstF_at (ds := [A, B]) rfl (by simp))).trans rfl
  have q2 : ownF 3 (callF (nF 2 m_times) (consA (op2 ixD (nmF 2) (cst (.int 0))) (consA (op2 ixD (nmF 2) (cst (.int 1))) (nilA)))) [.v A, .v B, .v (.lst [A, B]), .no, .no, .no] = .nx [.v A, .v B, .v (.lst [A, B]), .own (F.map pD), .no, .no] := (ownF_at ((cl_at (ds := [A, B]) rfl rfl).trans eF)).trans rfl
  have lst2 : ∀ s2 s3 s4 s5 : Sl, lstF (consA (nmF 0) (consA (nmF 1) (nilA))) [.v A, .v B, s2, s3, s4, s5] = some (.lst [A, B]) := fun _ _ _ _ => lstF_at rfl (by simp)
  rw [seq_at q1, seq_at q2]
  have c1 : or2 (toB (op2 neF (nmF 2) (lstF (consA (nmF 0) (consA (nmF 1) (nilA)))))) (or2 (not1 (tru1 (lfS (callF (nF 1 m_law_is_sum) (consA (nbF 3) (nilA)))))) (toB (op2 neF (nbF 3) (callF (nF 2 m_law_product) (consA (nmF 0) (consA (nmF 1) (nilA))))))) [.v A, .v B, .v (.lst [A, B]), .own (F.map pD), .no, .no] = some false := by
    refine or2_bb (a := false) (b := false) (toB_at ((op2_at (x := .lst [A, B]) rfl (lst2 _ _ _ _)).trans (ne_same d2))) (or2_bb (a := false) (b := false) (not_at (b := true) (tru_bl ?_)) (toB_at ((op2_at (x := .lst (F.map pD)) rfl ((cl_at (ds := [A, B]) rfl rfl).trans eFp)).trans (ne_same (dS F)))))
    have e : callF (nF 1 m_law_is_sum) (consA (nbF 3) (nilA)) [.v A, .v B, .v (.lst [A, B]), .own (F.map pD), .no, .no] = some (.bl true) := (cl_at (ds := [.lst (F.map pD)]) rfl rfl).trans (isSum_ev (tidy_sum _) (by omega))
    unfold lfS
    rw [e]
    rfl
  rw [seq_at (ifS_sk c1)]
  have q3 : setF 4 (lfS (callF (nF 1 m_at_one) (consA (nbF 3) (nilA)))) [.v A, .v B, .v (.lst [A, B]), .own (F.map pD), .no, .no] = .nx [.v A, .v B, .v (.lst [A, B]), .own (F.map pD), .v (.int (totI F)), .no] := by
    have e : callF (nF 1 m_at_one) (consA (nbF 3) (nilA)) [.v A, .v B, .v (.lst [A, B]), .own (F.map pD), .no, .no] = some (.int (totI F)) := (cl_at (ds := [.lst (F.map pD)]) rfl rfl).trans (at_one_ev F (by omega))
    refine (setF_at (d := .int (totI F)) ?_).trans rfl
    unfold lfS
    rw [e]
    rfl
  rw [seq_at q3]
  have c2 : or2 (not1 (tru1 (callF (nF 1 m_law_whole) (consA (nmF 4) (nilA))))) (toB (op2 neF (nmF 4) (callF sumD (consA (compF 2 (lstA (nbF 3)) (gT 2 (gsC (gN 6) (gsC (gN 7) (gsN)))) (yesT) (nmF 7)) (nilA))))) [.v A, .v B, .v (.lst [A, B]), .own (F.map pD), .v (.int (totI F)), .no] = some false := by
    refine or2_bb (a := false) (b := false) (not_at (b := true) (tru_bl ((cl_at (ds := [.int (totI F)]) rfl rfl).trans rfl))) (toB_at ((op2_at (x := .int (totI F)) rfl (sum2_at (L := F) ?_)).trans (ne_same (by rw [dep_int]; omega))))
    refine (compF_at (ds := F.map pD) rfl (by rw [List.length_map]; omega) (compL_map (h := pD) (o := fun q => D.int q.2) F fun q hq => ⟨[.v A, .v B, .v (.lst [A, B]), .own (F.map pD), .v (.int (totI F)), .no, .v (.int q.1), .v (.int q.2)], rfl, rfl⟩)).trans ?_
    rw [List.map_map]; rfl
  rw [seq_at (ifS_sk c2)]
  have lfN_at : ∀ (f : FE) (ρ : Rho) (S : List (Int × Int)), f ρ = some (.lst (S.map pD)) → lfN f ρ = some (.lst (S.map pD)) := fun f ρ S e => by
    unfold lfN
    rw [e]
    show (if LFs (S.map pD) = true then _ else _) = _
    rw [if_pos (lf_S S)]
  have q4 : setF 5 (lfN (callF (nF 2 m_times) (consA (nbF 3) (consA (callF listD (consA (nmF 0) (nilA))) (nilA))))) [.v A, .v B, .v (.lst [A, B]), .own (F.map pD), .v (.int (totI F)), .no] = .nx [.v A, .v B, .v (.lst [A, B]), .own (F.map pD), .v (.int (totI F)), .v (.lst (G.map pD))] := (setF_at (lfN_at _ _ G ((cl_at (ds := [.lst (F.map pD), A]) rfl rfl).trans eG))).trans rfl
  rw [seq_at q4]
  have c3 : or2 (not1 (tru1 (callF (nF 1 m_law_is_sum) (consA (nmF 5) (nilA))))) (or2 (toB (op2 neF (nmF 5) (lfN (callF (nF 2 m_law_product) (consA (nbF 3) (consA (nmF 0) (nilA))))))) (toB (op2 neF (callF (nF 2 m_times) (consA (callF listD (consA (nmF 1) (nilA))) (consA (nmF 5) (nilA)))) (callF (nF 2 m_times) (consA (nmF 5) (consA (nmF 1) (nilA))))))) [.v A, .v B, .v (.lst [A, B]), .own (F.map pD), .v (.int (totI F)), .v (.lst (G.map pD))] = some false :=
    or2_bb (a := false) (b := false) (not_at (b := true) (tru_bl ((cl_at (ds := [.lst (G.map pD)]) rfl rfl).trans (isSum_ev (tidy_sum _) (by omega))))) (or2_bb (a := false) (b := false) (toB_at ((op2_at (x := .lst (G.map pD)) rfl (lfN_at _ _ G ((cl_at (ds := [.lst (F.map pD), A]) rfl rfl).trans eGp))).trans (ne_same (dS G)))) (toB_at ((op2_at ((cl_at (ds := [B, .lst (G.map pD)]) rfl rfl).trans eH2) ((cl_at (ds := [.lst (G.map pD), B]) rfl rfl).trans eH)).trans (ne_same (dS _)))))
  rw [seq_at (ifS_sk c3)]
  have tt : totI G = totI F * totI L := by show totI (tidyI (pwI F L)) = _; rw [tot_tidy, tot_pw]
  have c4 : or2 (toB (op2 neF (callF (nF 2 m_times) (consA (nmF 5) (consA (nmF 1) (nilA)))) (callF (nF 2 m_law_product) (consA (nmF 5) (consA (nmF 1) (nilA)))))) (toB (op2 neF (callF (nF 1 m_at_one) (consA (nmF 5) (nilA))) (op2 mulF (nmF 4) (callF (nF 1 m_at_one) (consA (callF listD (consA (nmF 0) (nilA))) (nilA)))))) [.v A, .v B, .v (.lst [A, B]), .own (F.map pD), .v (.int (totI F)), .v (.lst (G.map pD))] = some false := by
    refine or2_bb (a := false) (b := false) (toB_at ((op2_at ((cl_at (ds := [.lst (G.map pD), B]) rfl rfl).trans eH) ((cl_at (ds := [.lst (G.map pD), B]) rfl rfl).trans eHp)).trans (ne_same (dS _)))) (toB_at ((op2_at ((cl_at (ds := [.lst (G.map pD)]) rfl rfl).trans (at_one_ev G (by omega))) ((op2_at (x := .int (totI F)) rfl ((cl_at (ds := [A]) rfl rfl).trans (at_one_ev L (by omega)))).trans (mulF_int (Nat.lt_of_le_of_lt (Nat.le_trans (tot_bnd bF.cf) (Nat.mul_le_mul_right _ bF.len)) (by decide)) (Nat.lt_of_le_of_lt (Nat.le_trans (tot_bnd h.cf) (Nat.mul_le_mul_right _ h.len)) (by decide))))).trans ?_))
    rw [← tt]
    exact ne_same (by rw [dep_int]; omega)
  rw [seq_at (ifS_sk c4)]
  have q5 : dropE (callE 3 1 appM (puA (consA (tupF (consA (cst (.int 200)) (consA (cst (.int 1)) (nilA)))) (nilA)))) [.v A, .v B, .v (.lst [A, B]), .own (F.map pD), .v (.int (totI F)), .v (.lst (G.map pD))] = .nx [.v A, .v B, .v (.lst [A, B]), .own (F.map pD ++ [pD (200, 1)]), .v (.int (totI F)), .v (.lst (G.map pD))] :=
    (app_at (b0 := F.map pD) (bs := F.map pD) (d := pD (200, 1)) rfl (puA_at (consA_at (tupF_at rfl (by simp)) rfl)) rfl (by rw [List.length_map]; omega)).trans rfl
  rw [seq_at q5]
  exact ⟨_, retF_at (asD_at (and2_at (toB_at ((op2_at (x := .lst [A, B]) rfl (lst2 _ _ _ _)).trans (eq_same d2))) (toB_at ((op2_at ((cl_at (ds := [A, B]) rfl rfl).trans eF) ((cl_at (ds := [A, B]) rfl rfl).trans eFp)).trans (eq_same (dS F))))))⟩
theorem law_ev (ns : List Int) (hn : ns.length ≤ 63) : m_law [scD ns] = some (.bl true) := by
  refine fnP_ex (kd := .s) (n := 6) (t := t_law) ?_
  unfold t_law
  refine seq_ex (fun ρ => ∃ s1 s2 s3 s4 s5, ρ = [.v (scD ns), s1, s2, s3, s4, s5]) (forS_ex (ds := (List.range 2).map nI) (puA_at (rngA1_at (n := 2) rfl (by omega))) (forL_ex _ (fun d hd ρ hρ => ?_) _ ⟨_, _, _, _, _, rfl⟩)) fun ρ' hρ' => ⟨ρ', retF_at rfl⟩
  obtain ⟨k, hk, rfl⟩ := List.mem_map.mp hd
  rw [List.mem_range] at hk
  obtain ⟨s1, s2, s3, s4, s5, rfl⟩ := hρ
  obtain ⟨a0, b0, eb, B⟩ := bag_ev ns k (by omega) hn
  obtain ⟨L1, a2, b2, e2, l1, B2⟩ := tuplesB_ev B (by omega)
  obtain ⟨L2, a3, b3, e3, l2, B3⟩ := tuplesB_ev B2 (by omega)
  let S := tidyI L1
  let T := tidyI L2
  have bS : Bnd 60 (10 ^ 12) 20 S := ⟨Nat.le_trans (tidy_len _) l1.len, l1.tidy.pow, fun q hq => Nat.le_trans (l1.tidy.cf q hq) (by decide)⟩
  have bT : Bnd 60 (10 ^ 12) 20 T := ⟨Nat.le_trans (tidy_len _) l2.len, l2.tidy.pow, fun q hq => Nat.le_trans (l2.tidy.cf q hq) (by decide)⟩
  have b0' : Bnd 60 (10 ^ 12) 20 [] := ⟨by simp, by simp, by simp⟩
  have b1' : Bnd 60 (10 ^ 12) 20 [((0 : Int), (1 : Int))] := ⟨by simp, by simp, by simp⟩
  have q1 : ownF 2 (callF (nF 2 m_law_bag) (consA (nmF 0) (consA (nmF 1) (nilA)))) [.v (scD ns), .v (nI k), s2, s3, s4, s5] = .nx [.v (scD ns), .v (nI k), .own (bagD a0 b0), s3, s4, s5] := (ownF_at ((cl_at (ds := [scD ns, nI k]) rfl rfl).trans eb)).trans rfl
  have q3 : setE 3 (callG (nF 1 m_law_summed) (consG (callE 2 1 m_law_tuples (puA (consA (cst (.int 20)) (nilA)))) (puA (nilA)))) [.v (scD ns), .v (nI k), .own (bagD a0 b0), s3, s4, s5] = .nx [.v (scD ns), .v (nI k), .own (bagD a2 b2), .v (.lst (S.map pD)), s4, s5] :=
    (setE_at (clG_at (ds := [.lst (L1.map pD)]) (consG_at (callE_at (i := 2) (n := 1) (b0 := bagD a0 b0) (ds := [.int 20]) rfl (puA_at rfl) rfl rfl e2) rfl) rfl (tidyB_ev L1 fun q hq => by have := l1.pow q hq; omega))).trans rfl
  have q4 : setE 4 (callG (nF 1 m_law_summed) (consG (callE 2 1 m_law_tuples (puA (consA (cst (.int 20)) (nilA)))) (puA (nilA)))) [.v (scD ns), .v (nI k), .own (bagD a2 b2), .v (.lst (S.map pD)), s4, s5] = .nx [.v (scD ns), .v (nI k), .own (bagD a3 b3), .v (.lst (S.map pD)), .v (.lst (T.map pD)), s5] :=
    (setE_at (clG_at (ds := [.lst (L2.map pD)]) (consG_at (callE_at (i := 2) (n := 1) (b0 := bagD a2 b2) (ds := [.int 20]) rfl (puA_at rfl) rfl rfl e3) rfl) rfl (tidyB_ev L2 fun q hq => by have := l2.pow q hq; omega))).trans rfl
  let PL : List (List (Int × Int) × List (Int × Int)) := [(S, T), (T, S), (S, []), ([], T), (S, [(0, 1)]), ([(0, 1)], T)]
  let pr : List (Int × Int) × List (Int × Int) → D := fun z => .tup [.lst (z.1.map pD), .lst (z.2.map pD)]
  have hPL : ∀ z ∈ PL, Bnd 60 (10 ^ 12) 20 z.1 ∧ Bnd 60 (10 ^ 12) 20 z.2 := fun z hz => by
    simp only [PL, List.mem_cons, List.not_mem_nil, or_false] at hz
    rcases hz with rfl | rfl | rfl | rfl | rfl | rfl
    · exact ⟨bS, bT⟩
    · exact ⟨bT, bS⟩
    · exact ⟨bS, b0'⟩
    · exact ⟨b0', bT⟩
    · exact ⟨bS, b1'⟩
    · exact ⟨b1', bT⟩
  have it : seqA (lstF (consA (tupF (consA (nmF 3) (consA (nmF 4) (nilA)))) (consA (tupF (consA (nmF 4) (consA (nmF 3) (nilA)))) (consA (tupF (consA (nmF 3) (consA (lstF (nilA)) (nilA)))) (consA (tupF (consA (lstF (nilA)) (consA (nmF 4) (nilA)))) (consA (tupF (consA (nmF 3) (consA (lstF (consA (tupF (consA (cst (.int 0)) (consA (cst (.int 1)) (nilA)))) (nilA))) (nilA)))) (consA (tupF (consA (lstF (consA (tupF (consA (cst (.int 0)) (consA (cst (.int 1)) (nilA)))) (nilA))) (consA (nmF 4) (nilA)))) (nilA)))))))) [.v (scD ns), .v (nI k), .own (bagD a3 b3), .v (.lst (S.map pD)), .v (.lst (T.map pD)), s5] = some (PL.map pr) := seqA_l (lstF_at rfl (by simp [PL]))
  obtain ⟨ρ', lp, s5', rfl⟩ := forS_ex (f := puA (seqA (lstF (consA (tupF (consA (nmF 3) (consA (nmF 4) (nilA)))) (consA (tupF (consA (nmF 4) (consA (nmF 3) (nilA)))) (consA (tupF (consA (nmF 3) (consA (lstF (nilA)) (nilA)))) (consA (tupF (consA (lstF (nilA)) (consA (nmF 4) (nilA)))) (consA (tupF (consA (nmF 3) (consA (lstF (consA (tupF (consA (cst (.int 0)) (consA (cst (.int 1)) (nilA)))) (nilA))) (nilA)))) (consA (tupF (consA (lstF (consA (tupF (consA (cst (.int 0)) (consA (cst (.int 1)) (nilA)))) (nilA))) (consA (nmF 4) (nilA)))) (nilA)))))))))) (g := gN 5) (b := ifS (not1 (tru1 (callF (nF 2 m_law_right) (consA (op2 ixD (nmF 5) (cst (.int 0))) (consA (op2 ixD (nmF 5) (cst (.int 1))) (nilA)))))) (retF (cst (.bl false))) (skip)) (ρ := [.v (scD ns), .v (nI k), .own (bagD a3 b3), .v (.lst (S.map pD)), .v (.lst (T.map pD)), s5]) (P := fun ρ => ∃ s5, ρ = [.v (scD ns), .v (nI k), .own (bagD a3 b3), .v (.lst (S.map pD)), .v (.lst (T.map pD)), s5]) (puA_at it) (forL_ex _ (fun d hd ρ hρ => by
    obtain ⟨z, hz, rfl⟩ := List.mem_map.mp hd
    obtain ⟨s5, rfl⟩ := hρ
    have r : tru1 (callF (nF 2 m_law_right) (consA (op2 ixD (nmF 5) (cst (.int 0))) (consA (op2 ixD (nmF 5) (cst (.int 1))) (nilA)))) [.v (scD ns), .v (nI k), .own (bagD a3 b3), .v (.lst (S.map pD)), .v (.lst (T.map pD)), .v (pr z)] = some true := tru_bl ((cl_at (ds := [.lst (z.1.map pD), .lst (z.2.map pD)]) rfl rfl).trans (right_ev (hPL z hz).1 (hPL z hz).2))
    exact ⟨_, _, rfl, ifS_sk (not_at (b := true) r), ⟨_, rfl⟩⟩) _ ⟨_, rfl⟩)
  have lS := bS.len
  have c5 : or2 (toB (op2 neF (callF (nF 1 m_at_one) (consA (callF listD (consA (nmF 3) (nilA))) (nilA))) (callF sumD (consA (compF 2 (seqA (nmF 3)) (gT 2 (gsC (gN 6) (gsC (gN 7) (gsN)))) (yesT) (nmF 7)) (nilA))))) (toB (op2 neF (callF (nF 1 m_at_one) (consA (lstF (nilA)) (nilA))) (cst (.int 0)))) [.v (scD ns), .v (nI k), .own (bagD a3 b3), .v (.lst (S.map pD)), .v (.lst (T.map pD)), s5'] = some false := by
    refine or2_bb (a := false) (b := false) (toB_at ((op2_at ((cl_at (ds := [.lst (S.map pD)]) rfl rfl).trans (at_one_ev S (by omega))) (sum2_at (L := S) ?_)).trans (ne_same (by rw [dep_int]; omega)))) (toB_at ((op2_at (y := .int 0) ((cl_at (ds := [.lst (([] : List (Int × Int)).map pD)]) (consA_at (lstF_at rfl (by simp)) rfl) rfl).trans (at_one_ev [] (by simp))) rfl).trans (ne_same (x := .int 0) (by rw [dep_int]; omega))))
    refine (compF_at (ds := S.map pD) (seqA_l rfl) (by rw [List.length_map]; omega) (compL_map (h := pD) (o := fun q => D.int q.2) S fun q hq => ⟨[.v (scD ns), .v (nI k), .own (bagD a3 b3), .v (.lst (S.map pD)), .v (.lst (T.map pD)), s5', .v (.int q.1), .v (.int q.2)], rfl, rfl⟩)).trans ?_
    rw [List.map_map]; rfl
  exact ⟨_, _, rfl, (seq_at q1).trans ((seq_at q3).trans ((seq_at q4).trans ((seq_at lp).trans (ifS_sk c5)))), ⟨_, _, _, _, _, rfl⟩⟩
end L2
set_option Elab.async false
set_option linter.all false
set_option maxRecDepth 100000
set_option maxHeartbeats 4000000
namespace L2
open PySem PySem.Spec PyProof.Rows
theorem all_mk {l : PySem.W.OpenLaw} {w : World} {K : PySem.W.Frag} {h : Heap} {mg : Str → Option Value} {fa : Addr} {f0 : Addr} {od0 an0 : Option Addr} {sl0 : Array (Option Value)} {oc0 kV0 dc0 pm0 cd0 ct0 : Value} {f1 : Addr} {od1 an1 : Option Addr} {sl1 : Array (Option Value)} {oc1 kV1 dc1 pm1 cd1 ct1 : Value} {f2 : Addr} {od2 an2 : Option Addr} {sl2 : Array (Option Value)} {oc2 kV2 dc2 pm2 cd2 ct2 : Value} {f3 : Addr} {od3 an3 : Option Addr} {sl3 : Array (Option Value)} {oc3 kV3 dc3 pm3 cd3 ct3 : Value} {f4 : Addr} {od4 an4 : Option Addr} {sl4 : Array (Option Value)} {oc4 kV4 dc4 pm4 cd4 ct4 : Value} {f5 : Addr} {od5 an5 : Option Addr} {sl5 : Array (Option Value)} {oc5 kV5 dc5 pm5 cd5 ct5 : Value} {f6 : Addr} {od6 an6 : Option Addr} {sl6 : Array (Option Value)} {oc6 kV6 dc6 pm6 cd6 ct6 : Value} {f7 : Addr} {od7 an7 : Option Addr} {sl7 : Array (Option Value)} {oc7 kV7 dc7 pm7 cd7 ct7 : Value} {f8 : Addr} {od8 an8 : Option Addr} {sl8 : Array (Option Value)} {oc8 kV8 dc8 pm8 cd8 ct8 : Value} {f9 : Addr} {od9 an9 : Option Addr} {sl9 : Array (Option Value)} {oc9 kV9 dc9 pm9 cd9 ct9 : Value} {f10 : Addr} {od10 an10 : Option Addr} {sl10 : Array (Option Value)} {oc10 kV10 dc10 pm10 cd10 ct10 : Value} {f11 : Addr} {od11 an11 : Option Addr} {sl11 : Array (Option Value)} {oc11 kV11 dc11 pm11 cd11 ct11 : Value} {f12 : Addr} {od12 an12 : Option Addr} {sl12 : Array (Option Value)} {oc12 kV12 dc12 pm12 cd12 ct12 : Value} (X : K.In h) (G : h.Ns mainGlobals mg) (hfa : mg "law" = some (.ref fa))
    (a0 : PySem.W.nsIn K mainGlobals "tidy" = some (some (.ref f0))) (l0 : K.lookup f0 = some ⟨oc0, od0, .func (PySem.W.fnOf "tidy" "tidy" (defArgs s_tidy) (defBody s_tidy) (defScope s_tidy) .none kV0 dc0 pm0 an0 cd0 ct0), sl0⟩) (c0 : PySem.W.codeIn K cd0 "tidy" = true) (k0 : PySem.W.keepIn K (.ref f0) = true)
    (a1 : PySem.W.nsIn K mainGlobals "times" = some (some (.ref f1))) (l1 : K.lookup f1 = some ⟨oc1, od1, .func (PySem.W.fnOf "times" "times" (defArgs s_times) (defBody s_times) (defScope s_times) .none kV1 dc1 pm1 an1 cd1 ct1), sl1⟩) (c1 : PySem.W.codeIn K cd1 "times" = true) (k1 : PySem.W.keepIn K (.ref f1) = true)
    (a2 : PySem.W.nsIn K mainGlobals "at_one" = some (some (.ref f2))) (l2 : K.lookup f2 = some ⟨oc2, od2, .func (PySem.W.fnOf "at_one" "at_one" (defArgs s_at_one) (defBody s_at_one) (defScope s_at_one) .none kV2 dc2 pm2 an2 cd2 ct2), sl2⟩) (c2 : PySem.W.codeIn K cd2 "at_one" = true) (k2 : PySem.W.keepIn K (.ref f2) = true)
    (a3 : PySem.W.nsIn K mainGlobals "_law_cell" = some (some (.ref f3))) (l3 : K.lookup f3 = some ⟨oc3, od3, .func (PySem.W.fnOf "_law_cell" "_law_cell" (defArgs s_law_cell) (defBody s_law_cell) (defScope s_law_cell) .none kV3 dc3 pm3 an3 cd3 ct3), sl3⟩) (c3 : PySem.W.codeIn K cd3 "_law_cell" = true) (k3 : PySem.W.keepIn K (.ref f3) = true)
    (a4 : PySem.W.nsIn K mainGlobals "_law_bag" = some (some (.ref f4))) (l4 : K.lookup f4 = some ⟨oc4, od4, .func (PySem.W.fnOf "_law_bag" "_law_bag" (defArgs s_law_bag) (defBody s_law_bag) (defScope s_law_bag) .none kV4 dc4 pm4 an4 cd4 ct4), sl4⟩) (c4 : PySem.W.codeIn K cd4 "_law_bag" = true) (k4 : PySem.W.keepIn K (.ref f4) = true)
    (a5 : PySem.W.nsIn K mainGlobals "_law_take" = some (some (.ref f5))) (l5 : K.lookup f5 = some ⟨oc5, od5, .func (PySem.W.fnOf "_law_take" "_law_take" (defArgs s_law_take) (defBody s_law_take) (defScope s_law_take) .none kV5 dc5 pm5 an5 cd5 ct5), sl5⟩) (c5 : PySem.W.codeIn K cd5 "_law_take" = true) (k5 : PySem.W.keepIn K (.ref f5) = true)
    (a6 : PySem.W.nsIn K mainGlobals "_law_whole" = some (some (.ref f6))) (l6 : K.lookup f6 = some ⟨oc6, od6, .func (PySem.W.fnOf "_law_whole" "_law_whole" (defArgs s_law_whole) (defBody s_law_whole) (defScope s_law_whole) .none kV6 dc6 pm6 an6 cd6 ct6), sl6⟩) (c6 : PySem.W.codeIn K cd6 "_law_whole" = true) (k6 : PySem.W.keepIn K (.ref f6) = true)
    (a7 : PySem.W.nsIn K mainGlobals "_law_is_sum" = some (some (.ref f7))) (l7 : K.lookup f7 = some ⟨oc7, od7, .func (PySem.W.fnOf "_law_is_sum" "_law_is_sum" (defArgs s_law_is_sum) (defBody s_law_is_sum) (defScope s_law_is_sum) .none kV7 dc7 pm7 an7 cd7 ct7), sl7⟩) (c7 : PySem.W.codeIn K cd7 "_law_is_sum" = true) (k7 : PySem.W.keepIn K (.ref f7) = true)
    (a8 : PySem.W.nsIn K mainGlobals "_law_summed" = some (some (.ref f8))) (l8 : K.lookup f8 = some ⟨oc8, od8, .func (PySem.W.fnOf "_law_summed" "_law_summed" (defArgs s_law_summed) (defBody s_law_summed) (defScope s_law_summed) .none kV8 dc8 pm8 an8 cd8 ct8), sl8⟩) (c8 : PySem.W.codeIn K cd8 "_law_summed" = true) (k8 : PySem.W.keepIn K (.ref f8) = true)
    (a9 : PySem.W.nsIn K mainGlobals "_law_product" = some (some (.ref f9))) (l9 : K.lookup f9 = some ⟨oc9, od9, .func (PySem.W.fnOf "_law_product" "_law_product" (defArgs s_law_product) (defBody s_law_product) (defScope s_law_product) .none kV9 dc9 pm9 an9 cd9 ct9), sl9⟩) (c9 : PySem.W.codeIn K cd9 "_law_product" = true) (k9 : PySem.W.keepIn K (.ref f9) = true)
    (a10 : PySem.W.nsIn K mainGlobals "_law_tuples" = some (some (.ref f10))) (l10 : K.lookup f10 = some ⟨oc10, od10, .func (PySem.W.fnOf "_law_tuples" "_law_tuples" (defArgs s_law_tuples) (defBody s_law_tuples) (defScope s_law_tuples) .none kV10 dc10 pm10 an10 cd10 ct10), sl10⟩) (c10 : PySem.W.codeIn K cd10 "_law_tuples" = true) (k10 : PySem.W.keepIn K (.ref f10) = true)
    (a11 : PySem.W.nsIn K mainGlobals "_law_right" = some (some (.ref f11))) (l11 : K.lookup f11 = some ⟨oc11, od11, .func (PySem.W.fnOf "_law_right" "_law_right" (defArgs s_law_right) (defBody s_law_right) (defScope s_law_right) .none kV11 dc11 pm11 an11 cd11 ct11), sl11⟩) (c11 : PySem.W.codeIn K cd11 "_law_right" = true) (k11 : PySem.W.keepIn K (.ref f11) = true)
    (a12 : PySem.W.nsIn K mainGlobals "law" = some (some (.ref f12))) (l12 : K.lookup f12 = some ⟨oc12, od12, .func (PySem.W.fnOf "law" "law" (defArgs s_law) (defBody s_law) (defScope s_law) .none kV12 dc12 pm12 an12 cd12 ct12), sl12⟩) (c12 : PySem.W.codeIn K cd12 "law" = true) (k12 : PySem.W.keepIn K (.ref f12) = true)
    (z_abs : PySem.W.nsIn K mainGlobals "abs" = some none)
    (z_all : PySem.W.nsIn K mainGlobals "all" = some none)
    (z_bool : PySem.W.nsIn K mainGlobals "bool" = some none)
    (z_int : PySem.W.nsIn K mainGlobals "int" = some none)
    (z_isinstance : PySem.W.nsIn K mainGlobals "isinstance" = some none)
    (z_len : PySem.W.nsIn K mainGlobals "len" = some none)
    (z_list : PySem.W.nsIn K mainGlobals "list" = some none)
    (z_min : PySem.W.nsIn K mainGlobals "min" = some none)
    (z_range : PySem.W.nsIn K mainGlobals "range" = some none)
    (z_sorted : PySem.W.nsIn K mainGlobals "sorted" = some none)
    (z_sum : PySem.W.nsIn K mainGlobals "sum" = some none)
    (z_tuple : PySem.W.nsIn K mainGlobals "tuple" = some none)
    (z_zip : PySem.W.nsIn K mainGlobals "zip" = some none) :
    ∃ fd : FuncData, (∀ (s : Shared) (v : Value), BindsTo s fd ⟨[v], []⟩ [("_law_script", v)]) ∧ ∀ base : Heap, K.In base → base.Ns mainGlobals mg → FnOk l.prog w K mg base CX0 4 fa fd ["_law_script"] (spLaw K) := by
  have e := hfa.symm.trans (PySem.W.mg_of X G a12)
  cases e
  have F0 := fun_mk (st := s_tidy) l0 c0 k0
  have b0 := F0.binds (ps := ["tuples"]) fun _ _ _ _ _ _ us hl => ar1 us hl (fun _ => rfl)
  have d0 : Df K mg "tidy" s_tidy ["tuples"] := ⟨_, _, F0, PySem.W.mg_of X G a0, b0⟩
  have F1 := fun_mk (st := s_times) l1 c1 k1
  have b1 := F1.binds (ps := ["one", "other"]) fun _ _ _ _ _ _ us hl => ar2 us hl (fun _ _ => rfl)
  have d1 : Df K mg "times" s_times ["one", "other"] := ⟨_, _, F1, PySem.W.mg_of X G a1, b1⟩
  have F2 := fun_mk (st := s_at_one) l2 c2 k2
  have b2 := F2.binds (ps := ["one"]) fun _ _ _ _ _ _ us hl => ar1 us hl (fun _ => rfl)
  have d2 : Df K mg "at_one" s_at_one ["one"] := ⟨_, _, F2, PySem.W.mg_of X G a2, b2⟩
  have F3 := fun_mk (st := s_law_cell) l3 c3 k3
  have b3 := F3.binds (ps := ["_law_script", "_law_k"]) fun _ _ _ _ _ _ us hl => ar2 us hl (fun _ _ => rfl)
  have d3 : Df K mg "_law_cell" s_law_cell ["_law_script", "_law_k"] := ⟨_, _, F3, PySem.W.mg_of X G a3, b3⟩
  have F4 := fun_mk (st := s_law_bag) l4 c4 k4
  have b4 := F4.binds (ps := ["_law_script", "_law_at"]) fun _ _ _ _ _ _ us hl => ar2 us hl (fun _ _ => rfl)
  have d4 : Df K mg "_law_bag" s_law_bag ["_law_script", "_law_at"] := ⟨_, _, F4, PySem.W.mg_of X G a4, b4⟩
  have F5 := fun_mk (st := s_law_take) l5 c5 k5
  have b5 := F5.binds (ps := ["_law_bag_here", "_law_many"]) fun _ _ _ _ _ _ us hl => ar2 us hl (fun _ _ => rfl)
  have d5 : Df K mg "_law_take" s_law_take ["_law_bag_here", "_law_many"] := ⟨_, _, F5, PySem.W.mg_of X G a5, b5⟩
  have F6 := fun_mk (st := s_law_whole) l6 c6 k6
  have b6 := F6.binds (ps := ["_law_thing"]) fun _ _ _ _ _ _ us hl => ar1 us hl (fun _ => rfl)
  have d6 : Df K mg "_law_whole" s_law_whole ["_law_thing"] := ⟨_, _, F6, PySem.W.mg_of X G a6, b6⟩
  have F7 := fun_mk (st := s_law_is_sum) l7 c7 k7
  have b7 := F7.binds (ps := ["_law_found"]) fun _ _ _ _ _ _ us hl => ar1 us hl (fun _ => rfl)
  have d7 : Df K mg "_law_is_sum" s_law_is_sum ["_law_found"] := ⟨_, _, F7, PySem.W.mg_of X G a7, b7⟩
  have F8 := fun_mk (st := s_law_summed) l8 c8 k8
  have b8 := F8.binds (ps := ["_law_tuples_here"]) fun _ _ _ _ _ _ us hl => ar1 us hl (fun _ => rfl)
  have d8 : Df K mg "_law_summed" s_law_summed ["_law_tuples_here"] := ⟨_, _, F8, PySem.W.mg_of X G a8, b8⟩
  have F9 := fun_mk (st := s_law_product) l9 c9 k9
  have b9 := F9.binds (ps := ["_law_one", "_law_other"]) fun _ _ _ _ _ _ us hl => ar2 us hl (fun _ _ => rfl)
  have d9 : Df K mg "_law_product" s_law_product ["_law_one", "_law_other"] := ⟨_, _, F9, PySem.W.mg_of X G a9, b9⟩
  have F10 := fun_mk (st := s_law_tuples) l10 c10 k10
  have b10 := F10.binds (ps := ["_law_bag_here", "_law_most"]) fun _ _ _ _ _ _ us hl => ar2 us hl (fun _ _ => rfl)
  have d10 : Df K mg "_law_tuples" s_law_tuples ["_law_bag_here", "_law_most"] := ⟨_, _, F10, PySem.W.mg_of X G a10, b10⟩
  have F11 := fun_mk (st := s_law_right) l11 c11 k11
  have b11 := F11.binds (ps := ["_law_one", "_law_other"]) fun _ _ _ _ _ _ us hl => ar2 us hl (fun _ _ => rfl)
  have d11 : Df K mg "_law_right" s_law_right ["_law_one", "_law_other"] := ⟨_, _, F11, PySem.W.mg_of X G a11, b11⟩
  have F12 := fun_mk (st := s_law) l12 c12 k12
  have b12 := F12.binds (ps := ["_law_script"]) fun _ _ _ _ _ _ us hl => ar1 us hl (fun _ => rfl)
  have d12 : Df K mg "law" s_law ["_law_script"] := ⟨_, _, F12, PySem.W.mg_of X G a12, b12⟩
  have B : Bt mg := ⟨PySem.W.mg_none_of X G z_abs, PySem.W.mg_none_of X G z_all, PySem.W.mg_none_of X G z_bool, PySem.W.mg_none_of X G z_int, PySem.W.mg_none_of X G z_isinstance, PySem.W.mg_none_of X G z_len, PySem.W.mg_none_of X G z_list, PySem.W.mg_none_of X G z_min, PySem.W.mg_none_of X G z_range, PySem.W.mg_none_of X G z_sorted, PySem.W.mg_none_of X G z_sum, PySem.W.mg_none_of X G z_tuple, PySem.W.mg_none_of X G z_zip⟩
  refine ⟨PySem.W.fnOf "law" "law" (defArgs s_law) (defBody s_law) (defScope s_law) .none kV12 dc12 pm12 an12 cd12 ct12, fun s v => .of_eq rfl, fun base _ _ => ?_⟩
  have c_tidy := k_tidy (P := l.prog) (w := w) (base := base) B d0
  have c_times := k_times (P := l.prog) (w := w) (base := base) B d1 c_tidy
  have c_at_one := k_at_one (P := l.prog) (w := w) (base := base) B d2
  have c_law_cell := k_law_cell (P := l.prog) (w := w) (base := base) B d3
  have c_law_bag := k_law_bag (P := l.prog) (w := w) (base := base) B d4 c_law_cell
  have c_law_take := k_law_take (P := l.prog) (w := w) (base := base) B d5
  have c_law_whole := k_law_whole (P := l.prog) (w := w) (base := base) B d6
  have c_law_is_sum := k_law_is_sum (P := l.prog) (w := w) (base := base) B d7 c_law_whole
  have c_law_summed := k_law_summed (P := l.prog) (w := w) (base := base) B d8
  have c_law_product := k_law_product (P := l.prog) (w := w) (base := base) B d9 c_law_summed
  have c_law_tuples := k_law_tuples (P := l.prog) (w := w) (base := base) B d10 c_law_take
  have c_law_right := k_law_right (P := l.prog) (w := w) (base := base) B d11 c_times c_at_one c_law_is_sum c_law_product c_law_whole
  exact fn_law (kf_law (P := l.prog) (w := w) (base := base) B F12 c_law_bag c_law_summed c_law_tuples c_law_right c_at_one) law_ev
end L2
theorem PySem.W.Fast.tw18101598823841085304:True:=⟨⟩
theorem PySem.W.Fast.tw3743022912872960852:True:=⟨⟩
theorem PySem.W.Fast.tw698334799784849245:True:=⟨⟩
theorem PySem.W.Fast.tw5333185007059344993:True:=⟨⟩
theorem PySem.W.Fast.tw18038921723328123167:True:=⟨⟩
theorem PySem.W.Fast.tw8541478195861993502:True:=⟨⟩
theorem PySem.W.Fast.tw14923806592775577572:True:=⟨⟩
theorem PySem.W.Fast.tw12321286925909377296:True:=⟨⟩
theorem PySem.W.Fast.tw3529101012670653600:True:=⟨⟩
theorem PySem.W.Fast.tw12865529741533409131:True:=⟨⟩
open PySem PySem.W PyProof.Rows
set_option maxRecDepth 100000 in
set_option maxHeartbeats 0 in
theorem PySem.Challenge.cw_rookborders_k60_sums_multiplied_holds : PySem.Challenge.rw_rookborders_k60_sums_multiplied.Holds := by
  w_on; o_law; k_head; (case hw => w_witness2)
  k_fill
  refine L2.walkD (l := PySem.Challenge.rw_rookborders_k60_sums_multiplied) (k := 4) (x := "_law_script") rfl rfl ⟨rfl, by decide, by decide⟩ (fun w h Y => PySem.W.kIn_of Y) ?F
  case F =>
    intro w mg fa h KX G hmg
    refine' L2.all_mk KX G hmg ?a0 ?l0 ?c0 ?k0 ?a1 ?l1 ?c1 ?k1 ?a2 ?l2 ?c2 ?k2 ?a3 ?l3 ?c3 ?k3 ?a4 ?l4 ?c4 ?k4 ?a5 ?l5 ?c5 ?k5 ?a6 ?l6 ?c6 ?k6 ?a7 ?l7 ?c7 ?k7 ?a8 ?l8 ?c8 ?k8 ?a9 ?l9 ?c9 ?k9 ?a10 ?l10 ?c10 ?k10 ?a11 ?l11 ?c11 ?k11 ?a12 ?l12 ?c12 ?k12 ?z_abs ?z_all ?z_bool ?z_int ?z_isinstance ?z_len ?z_list ?z_min ?z_range ?z_sorted ?z_sum ?z_tuple ?z_zip
    (case a0 => k_is)
    (case l0 => k_is)
    (case c0 => k_is)
    (case k0 => k_is)
    (case a1 => k_is)
    (case l1 => k_is)
    (case c1 => k_is)
    (case k1 => k_is)
    (case a2 => k_is)
    (case l2 => k_is)
    (case c2 => k_is)
    (case k2 => k_is)
    (case a3 => k_is)
    (case l3 => k_is)
    (case c3 => k_is)
    (case k3 => k_is)
    (case a4 => k_is)
    (case l4 => k_is)
    (case c4 => k_is)
    (case k4 => k_is)
    (case a5 => k_is)
    (case l5 => k_is)
    (case c5 => k_is)
    (case k5 => k_is)
    (case a6 => k_is)
    (case l6 => k_is)
    (case c6 => k_is)
    (case k6 => k_is)
    (case a7 => k_is)
    (case l7 => k_is)
    (case c7 => k_is)
    (case k7 => k_is)
    (case a8 => k_is)
    (case l8 => k_is)
    (case c8 => k_is)
    (case k8 => k_is)
    (case a9 => k_is)
    (case l9 => k_is)
    (case c9 => k_is)
    (case k9 => k_is)
    (case a10 => k_is)
    (case l10 => k_is)
    (case c10 => k_is)
    (case k10 => k_is)
    (case a11 => k_is)
    (case l11 => k_is)
    (case c11 => k_is)
    (case k11 => k_is)
    (case a12 => k_is)
    (case l12 => k_is)
    (case c12 => k_is)
    (case k12 => k_is)
    (case z_abs => k_is)
    (case z_all => k_is)
    (case z_bool => k_is)
    (case z_int => k_is)
    (case z_isinstance => k_is)
    (case z_len => k_is)
    (case z_list => k_is)
    (case z_min => k_is)
    (case z_range => k_is)
    (case z_sorted => k_is)
    (case z_sum => k_is)
    (case z_tuple => k_is)
    (case z_zip => k_is)
