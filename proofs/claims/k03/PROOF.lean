import PyProof.Rows.All
import Wide.All
import OpenK.AllK
import Wide.FinOn
import PyProof.EqAt
import PyProof.EqKinds
import PyProof.TupleCall
import PyProof.NeKinds
import PyProof.FactsAll.tuple_2
import PyProof.FactsAll.tuple_3
import PyProof.ListRange
import KE.KSortTup
import PyProof.EnumMake
import PyProof.AutoSeq1
import PyProof.Rows.SeqMore
import KE.KIsAll
import PyProof.ExcArgsOwn
import PyProof.ExcBaseAll.ValueError
import PyProof.ExcAttrAll.ValueError
import OpenK.KOwn
import PyProof.RulesAs
import PyProof.AutoRange
import PyProof.SeqRoads2
import PyProof.ZipIter
import PyProof.StrCalls2
import KE.KDictSum
import PyProof.SumAny
import KE.KRevIter
import PyProof.Rows.FStr
import PyProof.Rows.FStrParts
import KE.KRevSl
import Lean
import PySem.Challenge.RW_rookborders_k03_crossings
set_option Elab.async false
set_option linter.all false
set_option maxRecDepth 100000
/-! THE HAND LAYER, for ints, bools, texts, own classes, LISTS and tuples (index, slices, in, append, pop ..), calls, loops. Paste it whole ahead of your own text; what your proof does not reach may be deleted. -/
namespace L2
open PySem PySem.Spec PyProof.Rows

/-- a key: an int or a str -/
abbrev Key := Sum Int Str
def keyIs : Key → Value → Bool
  | .inl k, v => Value.isInt k v
  | .inr x, v => Value.isStrOf x v
def keyH (w : World) : Key → Int
  | .inl k => hashInt k
  | .inr x => hashStr w x
theorem keyIs_shape : ∀ {k : Key} {v : Value}, keyIs k v = true → (∃ i t, k = Sum.inl i ∧ v = Value.int i t) ∨ (∃ x t, k = Sum.inr x ∧ v = Value.str x t)
  | .inl i, v, h => by
    obtain ⟨t, e⟩ := Value.isInt_shape (k := i) (v := v) h
    exact .inl ⟨i, t, rfl, e⟩
  | .inr x, v, h => by
    obtain ⟨t, e⟩ := Value.isStrOf_shape (x := x) (v := v) h
    exact .inr ⟨x, t, rfl, e⟩
theorem keyIs_int (i : Int) (t : Tok) : keyIs (.inl i) (.int i t) = true := by simp [keyIs, Value.isInt]
theorem keyIs_str (x : Str) (t : Tok) : keyIs (.inr x) (.str x t) = true := by simp [keyIs, Value.isStrOf]
theorem key_ll (a b : Int) : decide ((Sum.inl a : Key) = Sum.inl b) = (a == b) := by
  by_cases e : a = b
  · subst e; simp
  · have h : ¬ (Sum.inl a : Key) = Sum.inl b := fun q => e (Sum.inl.inj q)
    rw [decide_eq_false h]
    exact (beq_eq_false_iff_ne.mpr e).symm
theorem key_rr (a b : Str) : decide ((Sum.inr a : Key) = Sum.inr b) = decide (a = b) := by
  by_cases e : a = b
  · subst e; simp
  · have h : ¬ (Sum.inr a : Key) = Sum.inr b := fun q => e (Sum.inr.inj q)
    rw [decide_eq_false h, decide_eq_false e]
theorem key_lr (a : Int) (b : Str) : decide ((Sum.inl a : Key) = Sum.inr b) = false := decide_eq_false (fun q => nomatch q)
theorem key_rl (a : Str) (b : Int) : decide ((Sum.inr a : Key) = Sum.inl b) = false := decide_eq_false (fun q => nomatch q)

def mixKind (prog : Program) (w : World) : PySem.KeyKind prog w Key where
  is := keyIs
  hash := keyH w
  inj := fun v a b ha hb => by
    rcases keyIs_shape ha with ⟨i, t, rfl, rfl⟩ | ⟨x, t, rfl, rfl⟩
    · rcases keyIs_shape hb with ⟨j, u, rfl, e⟩ | ⟨y, u, rfl, e⟩
      · injection e with e1 _; rw [e1]
      · exact nomatch e
    · rcases keyIs_shape hb with ⟨j, u, rfl, e⟩ | ⟨y, u, rfl, e⟩
      · exact nomatch e
      · injection e with e1 _; rw [e1]
  byValue := fun k v h => by
    rcases keyIs_shape h with ⟨i, t, rfl, rfl⟩ | ⟨x, t, rfl, rfl⟩ <;> rfl
  pyHash := fun hv h => by
    rcases keyIs_shape hv with ⟨i, t, rfl, rfl⟩ | ⟨x, t, rfl, rfl⟩
    · exact wpAny_pyHash_int h
    · exact wpAny_pyHash_str h
  eqBool := fun hu hv h => by
    rcases keyIs_shape hu with ⟨i, t, rfl, rfl⟩ | ⟨x, t, rfl, rfl⟩
    · rcases keyIs_shape hv with ⟨j, u, rfl, rfl⟩ | ⟨y, u, rfl, rfl⟩
      · rw [key_ll] at h; exact wpAny_eqBool_int h
      · rw [key_lr] at h; exact SeqAt.EqAt.int_str i t y u _ _ _ _ h
    · rcases keyIs_shape hv with ⟨j, u, rfl, rfl⟩ | ⟨y, u, rfl, rfl⟩
      · rw [key_rl] at h; exact SeqAt.EqAt.str_int x t j u _ _ _ _ h
      · rw [key_rr] at h; exact wpAny_eqBool_str h
  «strs» := fun k x t v h => by
    rcases keyIs_shape h with ⟨i, u, rfl, e⟩ | ⟨y, u, rfl, e⟩
    · exact nomatch e
    · injection e with e1 _
      subst e1
      cases v <;> rfl

theorem mixKind_int (prog : Program) (w : World) (i : Int) (t : Tok) : (mixKind prog w).is (.inl i) (.int i t) = true := keyIs_int i t
theorem mixKind_str (prog : Program) (w : World) (x : Str) (t : Tok) : (mixKind prog w).is (.inr x) (.str x t) = true := keyIs_str x t
end L2

namespace L2
open PySem PySem.Spec PyProof.Rows

/-- a value, without the heap -/
inductive V where
  | non | bl (b : Bool) | int (i : Int) | str (x : Str) | byt (b : Array UInt8) | flt (b : UInt64) | ref (a : Addr) | ty (n : String)
  deriving DecidableEq

def RelV : V → Value → Prop
  | .non, u => u = Value.none
  | .bl b, u => u = Value.bool b
  | .int i, u => ∃ t, u = Value.int i t
  | .str x, u => ∃ t, u = Value.str x t
  | .byt b, u => ∃ t, u = Value.bytes b t
  | .flt b, u => ∃ t, u = Value.float b t
  | .ref a, u => u = Value.ref a
  | .ty n, u => u = Value.type n

abbrev Vals : List V → List Value → Prop := Paired RelV
theorem Vals.length {xs : List V} {us : List Value} (r : Vals xs us) : xs.length = us.length := Paired.length r
theorem Vals.get : ∀ {xs : List V} {us : List Value} {i : Nat} {x : V}, Vals xs us → xs[i]? = some x → ∃ u, us[i]? = some u ∧ RelV x u
  | _, _, _, _, .nil, e => by simp at e
  | _, _, 0, _, .cons r _, e => by simp at e; subst e; exact ⟨_, rfl, r⟩
  | _, _, i + 1, x, .cons _ t, e => by
    obtain ⟨u, h1, h2⟩ := Vals.get (i := i) (x := x) t (by simpa using e)
    exact ⟨u, by simpa using h1, h2⟩
theorem Vals.set {x : V} {u : Value} (r : RelV x u) : ∀ {xs : List V} {us : List Value} (i : Nat), Vals xs us → Vals (xs.set i x) (us.set i u)
  | _, _, _, .nil => .nil
  | _, _, 0, .cons _ t => .cons r t
  | _, _, i + 1, .cons q t => .cons q (Vals.set r i t)
theorem Vals.append : ∀ {xs ys : List V} {us ws : List Value}, Vals xs us → Vals ys ws → Vals (xs ++ ys) (us ++ ws)
  | _, _, _, _, .nil, s => s
  | _, _, _, _, .cons r t, s => .cons r (Vals.append t s)
theorem Vals.take : ∀ {xs : List V} {us : List Value} (n : Nat), Vals xs us → Vals (xs.take n) (us.take n)
  | _, _, 0, _ => .nil
  | _, _, _ + 1, .nil => .nil
  | _, _, n + 1, .cons r t => .cons r (Vals.take n t)
theorem Vals.drop : ∀ {xs : List V} {us : List Value} (n : Nat), Vals xs us → Vals (xs.drop n) (us.drop n)
  | _, _, 0, r => r
  | _, _, _ + 1, .nil => .nil
  | _, _, n + 1, .cons _ t => Vals.drop n t
def RelO : Option V → Option Value → Prop
  | some v, some u => RelV v u
  | none, none => True
  | _, _ => False
def KV {κ : Type} : List (κ × V) → List (κ × Value) → Prop := Paired fun (p : κ × V) (q : κ × Value) => p.1 = q.1 ∧ RelV p.2 q.2

/-- a key of a dict (00_mix): an int or a text -/
def kV : Key → V
  | .inl i => .int i
  | .inr x => .str x

/-- what stands at a tracked address -/
inductive HO where
  /-- a list -/
  | lst (xs : List V)
  /-- a tuple (never changes) -/
  | tup (xs : List V)
  /-- a dict whose keys are ints and texts; one whose keys are tuples of ints and texts (the empty one is both) -/
  | dK (kvs : List (Key × V)) | dT (kvs : List (List Key × V))
  /-- a set of ints: its members, its size -/
  | set (S : Int → Bool) (n : Nat)
  /-- an instance of the class at C, its dict at dx, its attributes -/
  | ins (C dx : Addr) (fs : List (Str × V))
  /-- the dict of the instance at x -/
  | own (x : Addr)
  /-- the dict of an exception -/
  | xd (fs : List (Str × V))
  /-- a bound method, f of x -/
  | met (f x : Addr)
  /-- a range object lo, lo + 1, .. below hi -/
  | rng (lo hi : Int)
  /-- a thing that is known to the object (the script; a dict while a loop walks it): read, never written while it is so -/
  | frz (o : Obj) (u : HO)
  /-- a code object's table -/
  | tbl (ps : Array Value)
  /-- any other thing, by what is true of its one object (a def of one's own: SetO a S n := HO.ext fun h => ..) -/
  | ext (φ : Heap → Prop)

abbrev Hp := Addr → Option HO
def upd (H : Hp) (a : Addr) (o : HO) : Hp := fun b => if b = a then some o else H b
theorem upd_same {H : Hp} {a : Addr} {o : HO} : upd H a o a = some o := by unfold upd; rw [if_pos rfl]
theorem upd_ne {H : Hp} {a b : Addr} {o : HO} (h : b ≠ a) : upd H a o b = H b := by unfold upd; rw [if_neg h]
/-- two objects of different content stand apart -/
theorem ne_of {H : Hp} {a b : Addr} {o u : HO} (h : H a = some o) (h' : H b = some u) (d : o ≠ u) : a ≠ b := by
  intro e; subst e; rw [h] at h'; exact d (Option.some.inj h')
theorem ne_of_none {H : Hp} {a b : Addr} {o : HO} (h : H a = some o) (h' : H b = none) : a ≠ b := by
  intro e; subst e; rw [h] at h'; cases h'

section
variable (P : Program) (w : World)
def ObjOk (H : Hp) (h : Heap) (a : Addr) : HO → Prop
  | .lst xs => xs.length ≤ sizeLine ∧ ∃ (its : List Value) (n : Nat), Vals xs its ∧ h.get? a = some { cls := .type "list", data := .seq its.toArray n }
  | .tup xs => xs.length ≤ sizeLine ∧ ∃ its : List Value, Vals xs its ∧ IsTup h a its.toArray ∧ ∃ o, h.get? a = some o ∧ o.dict = none
  | .dK kvs => kvs.length ≤ sizeLine ∧ (a == sysModules) = false ∧ ∃ vs, KV kvs vs ∧ h.DictOf (mixKind P w) a vs
  | .dT kvs => kvs.length ≤ sizeLine ∧ (a == sysModules) = false ∧ ∃ xs : List (List Key × Addr × Value),
      Paired (fun (p : List Key × V) (q : List Key × Addr × Value) => p.1 = q.1 ∧ H q.2.1 = some (.tup (p.1.map kV)) ∧ RelV p.2 q.2.2) kvs xs ∧
      ∃ o es ep, h.get? a = some o ∧ o.ExactDict ∧ o.data = .dict es ep ∧ es.toList = xs.map (entryOfKey (tupleKind (mixKind P w))) ∧ (xs.map (·.1)).Nodup
  | .set S n => h.SetOf (intKind P w) a S n
  | .ins C dx fs => H dx = some (.own a) ∧ fs.length ≤ 1000 ∧ dx ≠ a ∧ h.get? a = some (PySem.W.instObj C dx) ∧
      ∃ mA, h.Ns1 dx mA ∧ (∀ f, RelO (fs.lookup f) (mA f)) ∧ PySem.Within mA (fs.map (·.1))
  | .own _ => ∃ o, h.get? a = some o
  | .xd fs => ∃ mA, h.Ns1 a mA ∧ ∀ f, RelO (fs.lookup f) (mA f)
  | .rng lo hi => ∃ t u v, h.get? a = some { cls := .type "range", data := .fields #[.int lo t, .int hi u, .int 1 v] }
  | .frz o u => h.get? a = some o ∧ ObjOk H h a u
  | .tbl ps => h.get? a = some { cls := .none, data := .fields ps }
  | .met f x => h.get? a = some (PySem.W.methodObj (.ref f) (.ref x))
  | .ext φ => φ h ∧ (∃ o, h.get? a = some o) ∧ ∀ h1 h2 : Heap, φ h1 → (∀ o, h1.get? a = some o → h2.get? a = some o) → φ h2
/-- the abstract heap is held -/
def HOk (H : Hp) (h : Heap) : Prop := ∀ a o, H a = some o → ObjOk P w H h a o
end

section
variable {P : Program} {w : World} {H H' : Hp} {h h' : Heap} {a : Addr} {o : HO}
theorem ObjOk.lt (x : ObjOk P w H h a o) : a < h.objs.size := by
  cases o with
  | lst xs => obtain ⟨_, _, _, _, e⟩ := x; exact Heap.lt_size e
  | tup xs => obtain ⟨_, _, _, p, _⟩ := x; exact p.lt
  | dK kvs => obtain ⟨_, _, _, _, o, _, _, e, _⟩ := x; exact Heap.lt_size e
  | dT kvs => obtain ⟨_, _, _, _, o, _, _, e, _⟩ := x; exact Heap.lt_size e
  | set S n => obtain ⟨o, _, _, _, e, _⟩ := x; exact Heap.lt_size e
  | ins C dx fs => obtain ⟨_, _, _, e, _⟩ := x; exact Heap.lt_size e
  | own y => obtain ⟨_, e⟩ := x; exact Heap.lt_size e
  | xd fs => obtain ⟨_, ⟨_, _, _, e, _⟩, _⟩ := x; exact Heap.lt_size e
  | rng lo hi => obtain ⟨_, _, _, e⟩ := x; exact Heap.lt_size e
  | frz ob u => obtain ⟨e, _⟩ := x; exact Heap.lt_size e
  | tbl ps => exact Heap.lt_size (show h.get? a = some _ from x)
  | met f y => exact Heap.lt_size (show h.get? a = some _ from x)
  | ext φ => obtain ⟨_, ⟨_, e⟩, _⟩ := x; exact Heap.lt_size e
theorem Paired.mapP {α β : Type} {F G : α → β → Prop} : ∀ {l₁ : List α} {l₂ : List β}, Paired F l₁ l₂ → (∀ a b, F a b → G a b) → Paired G l₁ l₂
  | _, _, .nil, _ => .nil
  | _, _, .cons r t, f => .cons (f _ _ r) (Paired.mapP t f)
/-- what an object's description leans on: its own object, its own dict, the tuples -/
theorem ObjOk.stay (x : ObjOk P w H h a o) (k : ∀ b u, (b = a ∨ H b = some (.own a)) → h.get? b = some u → h'.get? b = some u)
    (ho : ∀ b, H b = some (.own a) → H' b = some (.own a)) (ht : ∀ b xs, H b = some (.tup xs) → H' b = some (.tup xs)) : ObjOk P w H' h' a o := by
  induction o with
  | lst xs => obtain ⟨z, its, n, r, e⟩ := x; exact ⟨z, its, n, r, k _ _ (.inl rfl) e⟩
  | tup xs => obtain ⟨z, its, r, ⟨ob, e, c⟩, ob2, e2, c2⟩ := x; exact ⟨z, its, r, ⟨ob, k _ _ (.inl rfl) e, c⟩, ob2, k _ _ (.inl rfl) e2, c2⟩
  | dK kvs => obtain ⟨z, y, vs, r, ob, es, ep, e, c⟩ := x; exact ⟨z, y, vs, r, ob, es, ep, k _ _ (.inl rfl) e, c⟩
  | dT kvs =>
    obtain ⟨z, y, xs, r, ob, es, ep, e, c⟩ := x
    exact ⟨z, y, xs, Paired.mapP r fun p q z => ⟨z.1, ht _ _ z.2.1, z.2.2⟩, ob, es, ep, k _ _ (.inl rfl) e, c⟩
  | set S n => obtain ⟨ob, es, ep, t, e, c⟩ := x; exact ⟨ob, es, ep, t, k _ _ (.inl rfl) e, c⟩
  | ins C dx fs =>
    obtain ⟨d, z, ne, e, mA, ⟨od, es, ep, e2, c⟩, r⟩ := x
    exact ⟨ho _ d, z, ne, k _ _ (.inl rfl) e, mA, ⟨od, es, ep, k _ _ (.inr d) e2, c⟩, r⟩
  | own y => obtain ⟨ob, e⟩ := x; exact ⟨ob, k _ _ (.inl rfl) e⟩
  | xd fs => obtain ⟨mA, ⟨od, es, ep, e, c⟩, r⟩ := x; exact ⟨mA, ⟨od, es, ep, k _ _ (.inl rfl) e, c⟩, r⟩
  | rng lo hi => obtain ⟨t, u, v, e⟩ := x; exact ⟨t, u, v, k _ _ (.inl rfl) e⟩
  | frz ob u ih => obtain ⟨e, q⟩ := x; exact ⟨k _ _ (.inl rfl) e, ih q⟩
  | tbl ps =>
    have e : h.get? a = some { cls := .none, data := .fields ps } := x
    show h'.get? a = some { cls := .none, data := .fields ps }
    exact k a _ (.inl rfl) e
  | met f y =>
    have e : h.get? a = some (PySem.W.methodObj (.ref f) (.ref y)) := x
    show h'.get? a = some (PySem.W.methodObj (.ref f) (.ref y))
    exact k a _ (.inl rfl) e
  | ext φ => obtain ⟨p, ⟨o, e⟩, st⟩ := x; exact ⟨st _ _ p fun o q => k _ _ (.inl rfl) q, ⟨o, k _ _ (.inl rfl) e⟩, st⟩
theorem HOk.lt (x : HOk P w H h) (e : H a = some o) : a < h.objs.size := (x a o e).lt
theorem HOk.fresh (x : HOk P w H h) (e : h.objs.size ≤ a) : H a = none := by
  cases q : H a with
  | none => rfl
  | some u => exact absurd (Nat.lt_of_lt_of_le (x.lt q) e) (Nat.lt_irrefl _)
/-- every object of the heap is kept -/
theorem HOk.kept (x : HOk P w H h) (k : ∀ b u, h.get? b = some u → h'.get? b = some u) : HOk P w H h' := fun a o e =>
  (x a o e).stay (fun b u _ q => k b u q) (fun _ q => q) fun _ _ q => q
/-- a new object is laid and tracked -/
theorem HOk.laid (x : HOk P w H h) (k : ∀ b u, h.get? b = some u → h'.get? b = some u) (hp : h.objs.size ≤ a) (new : ObjOk P w (upd H a o) h' a o) : HOk P w (upd H a o) h' := fun b u e => by
  have hn := x.fresh hp
  by_cases hb : b = a
  · subst hb; rw [upd_same] at e; cases e; exact new
  · rw [upd_ne hb] at e
    exact (x b u e).stay (fun c v _ q => k c v q) (fun c q => by rw [upd_ne (ne_of_none q hn)]; exact q) fun c xs q => by rw [upd_ne (ne_of_none q hn)]; exact q
end

/-- what may be read as u: it is u, or a known u -/
def Rd (H : Hp) (a : Addr) (u : HO) : Prop := H a = some u ∨ ∃ o, H a = some (.frz o u)
theorem Rd.of {H : Hp} {a : Addr} {u : HO} (h : H a = some u) : Rd H a u := .inl h
theorem Rd.ok {P : Program} {w : World} {H : Hp} {h : Heap} {a : Addr} {u : HO} (r : Rd H a u) (x : HOk P w H h) : ObjOk P w H h a u := by
  rcases r with r | ⟨o, r⟩
  · exact x a u r
  · obtain ⟨_, q⟩ := x a _ r
    exact q
/-- what may be written -/
def Mut : Option HO → Prop
  | some (.lst _) => True
  | some (.dK _) => True
  | some (.dT _) => True
  | some (.set _ _) => True
  | some (.ins _ _ _) => True
  | some (.ext _) => True
  | _ => False
section
variable {P : Program} {w : World} {H : Hp} {h h' : Heap} {x e : Addr} {o' : HO}
/-- the object at e is changed: x itself, or the dict of the instance x -/
theorem HOk.write (ok : HOk P w H h) (mu : Mut (H x)) (he : e = x ∨ H e = some (.own x)) (k : ∀ b u, b ≠ e → h.get? b = some u → h'.get? b = some u) (heo : ∃ u, h'.get? e = some u)
    (new : ObjOk P w (upd H x o') h' x o') : HOk P w (upd H x o') h' := fun b u q => by
  have nown : ∀ c y, H c = some (.own y) → c ≠ x := fun c y r z => by subst z; rw [r] at mu; exact mu
  have ntup : ∀ c xs, H c = some (.tup xs) → c ≠ x := fun c xs r z => by subst z; rw [r] at mu; exact mu
  by_cases hb : b = x
  · subst hb; rw [upd_same] at q; cases q; exact new
  · rw [upd_ne hb] at q
    by_cases hbe : b = e
    · have q' : H b = some (.own x) := by
        rcases he with z | z
        · exact absurd (hbe.trans z) hb
        · rw [hbe]; exact z
      rw [q] at q'; cases q'
      obtain ⟨v, hv⟩ := heo
      exact ⟨v, by rw [hbe]; exact hv⟩
    · refine (ok b u q).stay (fun c v hc r => k c v ?_ r) (fun c r => by rw [upd_ne (nown c b r)]; exact r) fun c xs r => by rw [upd_ne (ntup c xs r)]; exact r
      rcases hc with rfl | hc
      · exact hbe
      · rintro rfl
        rcases he with z | z
        · exact nown c b hc z
        · rw [hc] at z; cases z; exact hb rfl
end

/-! ### kept unless tracked; of the frames at fs (the callers') the slots may change (an exception that passes writes there); of the records at ex (iterators) nothing is said -/
structure Un (fs ex : List Addr) (H H' : Hp) (h h' : Heap) : Prop where
  keep : ∀ b o, h.get? b = some o → H b = none → b ∉ fs → b ∉ ex → h'.get? b = some o
  slot : ∀ b o, h.get? b = some o → H b = none → b ∈ fs → b ∉ ex → ∃ sl, h'.get? b = some { o with slots := sl }
  free : ∀ b o, h.get? b = some o → H b = none → b ∉ ex → H' b = none
  there : ∀ b o, h.get? b = some o → b ∉ ex → ∃ o', h'.get? b = some o'
  tups : ∀ b xs, H b = some (.tup xs) → H' b = some (.tup xs)
  frzs : ∀ b o u, H b = some (.frz o u) → H' b = some (.frz o u)
  tbls : ∀ b ps, H b = some (.tbl ps) → ∃ more, H' b = some (.tbl (ps ++ more))
section
variable {fs fs' ex ex' : List Addr} {H H1 H2 : Hp} {h h1 h2 h' : Heap} {a x e : Addr} {o : HO}
theorem Un.any (u : Un fs ex H H1 h h1) {b : Addr} {ob : Obj} (q : h.get? b = some ob) (n : H b = none) (hx : b ∉ ex) : ∃ sl, h1.get? b = some { ob with slots := sl } := by
  by_cases hb : b ∈ fs
  · exact u.slot b ob q n hb hx
  · exact ⟨ob.slots, u.keep b ob q n hb hx⟩
theorem Un.trans (a : Un fs ex H H1 h h1) (b : Un fs ex H1 H2 h1 h2) : Un fs ex H H2 h h2 where
  keep := fun c ob q n hc hx => b.keep c ob (a.keep c ob q n hc hx) (a.free c ob q n hx) hc hx
  slot := fun c ob q n hc hx => by
    obtain ⟨sl, e1⟩ := a.slot c ob q n hc hx
    obtain ⟨sl', e2⟩ := b.slot c _ e1 (a.free c ob q n hx) hc hx
    exact ⟨sl', e2⟩
  free := fun c ob q n hx => by
    obtain ⟨o', e1⟩ := a.there c ob q hx
    exact b.free c o' e1 (a.free c ob q n hx) hx
  there := fun c ob q hx => by
    obtain ⟨o', e1⟩ := a.there c ob q hx
    exact b.there c o' e1 hx
  tups := fun c xs q => b.tups c xs (a.tups c xs q)
  frzs := fun c ob xs q => b.frzs c ob xs (a.frzs c ob xs q)
  tbls := fun c ps q => by
    obtain ⟨m1, e1⟩ := a.tbls c ps q
    obtain ⟨m2, e2⟩ := b.tbls c _ e1
    exact ⟨m1 ++ m2, by rw [e2, Array.append_assoc]⟩
theorem Un.kept (k : ∀ b u, h.get? b = some u → h'.get? b = some u) : Un fs ex H H h h' :=
  ⟨fun b ob q _ _ _ => k b ob q, fun b ob q _ _ _ => ⟨ob.slots, k b ob q⟩, fun _ _ _ n _ => n, fun b ob q _ => ⟨ob, k b ob q⟩, fun _ _ q => q, fun _ _ _ q => q, fun _ ps q => ⟨#[], by rw [q]; simp⟩⟩
theorem Un.refl : Un fs ex H H h h := Un.kept fun _ _ q => q
theorem Un.laid (k : ∀ b u, h.get? b = some u → h'.get? b = some u) (hp : h.objs.size ≤ a) (hn : H a = none) : Un fs ex H (upd H a o) h h' where
  keep := fun b u q _ _ _ => k b u q
  slot := fun b u q _ _ _ => ⟨u.slots, k b u q⟩
  free := fun b u q n _ => by rw [upd_ne (Nat.ne_of_lt (Nat.lt_of_lt_of_le (Heap.lt_size q) hp))]; exact n
  there := fun b u q _ => ⟨u, k b u q⟩
  tups := fun b xs q => by rw [upd_ne (ne_of_none q hn)]; exact q
  frzs := fun b u xs q => by rw [upd_ne (ne_of_none q hn)]; exact q
  tbls := fun b ps q => ⟨#[], by rw [upd_ne (ne_of_none q hn), q]; simp⟩
theorem Un.write (mu : Mut (H x)) (he : e = x ∨ H e = some (.own x)) (k : ∀ b u, b ≠ e → h.get? b = some u → h'.get? b = some u) (heo : ∃ u, h'.get? e = some u) : Un fs ex H (upd H x o) h h' := by
  have hx : ∀ b, H b = none → b ≠ x := fun b n z => by subst z; rw [n] at mu; exact mu
  have hb : ∀ b, H b = none → b ≠ e := fun b n z => by
    subst z
    rcases he with r | r
    · exact hx b n r
    · rw [n] at r; cases r
  have hm : ∀ b u, H b = some u → ¬ Mut (some u) → b ≠ x := fun b u q nm z => by subst z; rw [q] at mu; exact nm mu
  refine ⟨fun b u q n _ _ => k b u (hb b n) q, fun b u q n _ _ => ⟨u.slots, k b u (hb b n) q⟩, fun b u q n _ => by rw [upd_ne (hx b n)]; exact n, fun b u q _ => ?_,
    fun b xs q => by rw [upd_ne (hm b _ q fun z => z)]; exact q, fun b u xs q => by rw [upd_ne (hm b _ q fun z => z)]; exact q, fun b ps q => ⟨#[], by rw [upd_ne (hm b _ q fun z => z), q]; simp⟩⟩
  by_cases hbe : b = e
  · subst hbe; exact heo
  · exact ⟨u, k b u hbe q⟩
theorem Un.mono (u : Un fs ex H H1 h h1) (hs : ∀ b ∈ fs, b ∈ fs') (hx : ∀ b ∈ ex, b ∈ ex') : Un fs' ex' H H1 h h1 :=
  ⟨fun b ob q n hb he => u.keep b ob q n (fun z => hb (hs b z)) fun z => he (hx b z), fun _ _ q n _ he => u.any q n fun z => he (hx _ z), fun b ob q n he => u.free b ob q n fun z => he (hx b z), fun b ob q he => u.there b ob q fun z => he (hx b z), u.tups, u.frzs, u.tbls⟩
end

/-! ### the heap without what is tracked -/
def trk (h : Heap) (H : Hp) : List Addr := (List.range h.objs.size).filter fun a => (H a).isSome
def hidT (h : Heap) (H : Hp) : Heap := PySem.W.hideAll h (trk h H)
theorem hidT_size (h : Heap) (H : Hp) : (hidT h H).objs.size = h.objs.size := PySem.W.hideAll_size _ _
theorem hidT_get {h : Heap} {H : Hp} {b : Addr} {o : Obj} (e : h.get? b = some o) (n : H b = none) : (hidT h H).get? b = some o :=
  PySem.W.hideAll_get _ e fun hm => by
    have q : (H b).isSome = true := (List.mem_filter.mp hm).2
    rw [n] at q; simp at q
theorem of_hidT {h : Heap} {H : Hp} {b : Addr} {o : Obj} (e : (hidT h H).get? b = some o) : h.get? b = some o ∧ H b = none := by
  have e' : h.get? b = some o := PySem.W.of_hideAll (trk h H) e
  refine ⟨e', ?_⟩
  cases q : H b with
  | none => rfl
  | some x =>
    have hm : b ∈ trk h H := List.mem_filter.mpr ⟨List.mem_range.mpr (Heap.lt_size e'), by simp [q]⟩
    have z : (hidT h H).get? b = none := PySem.W.hideAll_none (trk h H) hm
    rw [z] at e; cases e

/-! ### OpenK's ledger, filled with every new object but one -/
def allNews (g h : Heap) (L : Addr) : List (Addr × Obj) := (List.range h.objs.size).filterMap fun a => if a = L ∨ (g.get? a).isSome = true then none else (h.get? a).map fun o => (a, o)
def rest (g h : Heap) (L d : Addr) : List (Addr × Obj) := (allNews g h L).filter fun p => decide (p.1 ≠ d)
end L2

namespace L2
open PySem PySem.Spec PyProof.Rows

/-- the module's facts, over the base: the heap at the law's entry without what is tracked there -/
structure Mod (K : PySem.W.Frag) (mg : Str → Option Value) (base : Heap) : Prop where
  kin : K.In base
  glob : base.Ns mainGlobals mg
  blt : ∃ mb, base.Ns builtinsNs mb ∧ ∀ x : Str, x ≠ "__name__" → mb x = bootBuiltins x
  nolimit : base.NoLimit

/-- the context: a def's body (or a comprehension's block) running. base: fixed through the whole law; s₀, H₀: the entry; outer: the frames whose slots others may change (a def's callers); stack: all frames that run;
   ex: iterators that were made ahead of the entry and are walked here (a comprehension's); fn: the names whose cells were made at the entry (a def: all; a comprehension's block: its own); calm: not within an except suite; pn: pins that every state bears; xe: what is wanted of an exception that leaves the code -/
structure Cx where
  prog : Program
  w : World
  K : PySem.W.Frag
  mg : Str → Option Value
  base : Heap
  A : Around
  N : List Str
  s₀ : Shared
  H₀ : Hp
  env : Env
  outer : List Env
  stack : List Env
  ex : List Addr
  fn : Str → Bool
  calm : Bool
  pn : List (Addr × Obj)
  xe : Value → Shared → Prop
/-- the callers' frames -/
def frs (l : List Env) : List Addr := l.filterMap (·.frame)
abbrev Cx.fs (X : Cx) : List Addr := frs X.outer

def Vis (sc : Scope) (x : Str) : Prop := sc.names.lookup x = some .local ∨ sc.names.lookup x = some .cell ∨ sc.names.lookup x = some .free
def Loc (sc : Scope) (x : Str) : Prop := sc.names.lookup x = some .local ∨ sc.names.lookup x = some .cell
def Look (env : Env) (h : Heap) (m : Str → Option Value) (x : Str) (u : Value) : Prop :=
  (env.kindOf x = some .local ∧ m x = some u) ∨ ((env.kindOf x = some .cell ∨ env.kindOf x = some .free) ∧ ∃ c, env.cells.lookup x = some c ∧ h.IsCell c (some u))

structure Cx.Ok (X : Cx) : Prop where
  mod : Mod X.K X.mg X.base
  kind : X.env.scope.kind = .function
  glob : X.env.globals = mainGlobals
  blt : X.env.builtins = builtinsNs
  above : X.s₀.heap.objs.size ≤ X.env.locals
  inj : ∀ x y c, X.env.cells.lookup x = some c → X.env.cells.lookup y = some c → x = y
  has : ∀ x, (X.env.kindOf x = some .cell ∨ X.env.kindOf x = some .free) → ∃ c, X.env.cells.lookup x = some c
  cab : ∀ x c, X.fn x = true → X.env.cells.lookup x = some c → X.s₀.heap.objs.size ≤ c
  hd : X.calm = true → X.A.handled = none
  frames : X.A.frames = some X.stack
  stk : X.stack = X.outer ∨ (X.stack = X.env :: X.outer ∧ X.env.frame = some X.env.locals)
  exf : ∀ b ∈ X.ex, b ≠ X.env.locals ∧ ∀ x c, X.env.cells.lookup x = some c → c ≠ b
  bs : ∀ b o, X.base.get? b = some o → X.s₀.heap.get? b = some o ∧ X.H₀ b = none
  bsz : X.base.objs.size ≤ X.s₀.heap.objs.size
  noex : ∀ b o, X.base.get? b = some o → b ∉ X.ex
  exfs : ∀ b ∈ X.ex, b ∉ X.fs
  funs : X.s₀.heap.FunFrames X.base X.outer
  frf : ∀ b ∈ X.fs, X.H₀ b = none

structure Inv (X : Cx) (pins : List (Addr × Obj)) (σ : List (Option V)) (H : Hp) (s : Shared) : Prop where
  ok : X.Ok
  os : s.os = X.s₀.os
  bare : AllBare s.gens
  base : Un X.fs X.ex X.H₀ H X.s₀.heap s.heap
  loc : ∃ m, s.heap.Ns X.env.locals m ∧ ∀ (i : Nat) (x : Str) (v : V), X.N[i]? = some x → σ[i]? = some (some v) → Vis X.env.scope x → ∃ u, RelV v u ∧ Look X.env s.heap m x u
  cell : ∀ x c, X.env.cells.lookup x = some c → ∃ v, s.heap.IsCell c v
  free : H X.env.locals = none
  freeC : ∀ x c, X.env.cells.lookup x = some c → H c = none
  pin : ∀ p ∈ X.pn ++ pins, s.heap.get? p.1 = some p.2 ∧ H p.1 = none ∧ p.1 ≠ X.env.locals ∧ p.1 ∉ X.fs ∧ ∀ v, p.2.data ≠ .cell v
  hok : HOk X.prog X.w H s.heap
  len : σ.length = X.N.length

section
variable {X : Cx} {pins : List (Addr × Obj)} {σ : List (Option V)} {H H' : Hp} {s : Shared} {h' : Heap}

theorem Cx.Ok.nofr (ok : X.Ok) {b : Addr} {o : Obj} (e : X.base.get? b = some o) : b ∉ X.fs := fun hb => by
  have := (ok.funs.mem hb).1
  rw [e] at this; cases this
theorem Inv.bs (I : Inv X pins σ H s) : ∀ b o, X.base.get? b = some o → s.heap.get? b = some o ∧ H b = none := fun b o e =>
  ⟨I.base.keep b o (I.ok.bs b o e).1 (I.ok.bs b o e).2 (I.ok.nofr e) (I.ok.noex b o e), I.base.free b o (I.ok.bs b o e).1 (I.ok.bs b o e).2 (I.ok.noex b o e)⟩
theorem Inv.bk (I : Inv X pins σ H s) : ∀ b o, X.base.get? b = some o → s.heap.get? b = some o := fun b o e => (I.bs b o e).1
theorem Inv.mod (I : Inv X pins σ H s) : Mod X.K X.mg X.base := I.ok.mod
theorem Inv.kIn (I : Inv X pins σ H s) : X.K.In s.heap := I.ok.mod.kin.keeps I.bk
theorem Inv.nolimit (I : Inv X pins σ H s) : s.heap.NoLimit := I.ok.mod.nolimit.keeps I.bk
/-- the frame over the base: for OpenK's rules (K.In X.base is I.mod.kin) -/
theorem Inv.fr (I : Inv X pins σ H s) : ∃ m, Fr X.base X.env.locals s.heap m :=
  let ⟨m, hn, _⟩ := I.loc
  ⟨m, hn, I.bk, Nat.le_trans I.ok.bsz I.ok.above⟩
theorem Inv.lt (I : Inv X pins σ H s) : X.env.locals < s.heap.objs.size := let ⟨_, hn, _⟩ := I.loc; hn.lt
theorem Inv.sz (I : Inv X pins σ H s) : X.s₀.heap.objs.size ≤ s.heap.objs.size := Nat.le_trans I.ok.above (Nat.le_of_lt I.lt)
theorem Inv.nofs (I : Inv X pins σ H s) {a : Addr} (h : s.heap.objs.size ≤ a) : a ∉ X.fs := fun hb => by
  obtain ⟨_, o, ho, _⟩ := I.ok.funs.mem hb
  exact absurd (Nat.lt_of_lt_of_le (Heap.lt_size ho) (Nat.le_trans I.sz h)) (Nat.lt_irrefl _)
theorem Inv.cne (I : Inv X pins σ H s) : ∀ x c, X.env.cells.lookup x = some c → c ≠ X.env.locals := fun x c e z => by
  obtain ⟨v, o, ho, hd⟩ := I.cell x c e
  obtain ⟨m, ⟨o', es, ep, ho', hd', _⟩, _⟩ := I.loc
  rw [z, ho'] at ho; cases ho; rw [hd'] at hd; cases hd
theorem Inv.funs (I : Inv X pins σ H s) : s.heap.FunFrames X.base X.outer := by
  have all : ∀ (l : List Env), (∀ b ∈ frs l, b ∈ X.fs) → X.s₀.heap.FunFrames X.base l → s.heap.FunFrames X.base l := by
    intro l
    induction l with
    | nil => intro _ _; trivial
    | cons env r ih =>
      intro hs hl
      obtain ⟨hk, ⟨L, o, hf, hn, ho, hd⟩, hr⟩ := hl
      have hL : L ∈ X.fs := hs L (by unfold frs; rw [List.filterMap_cons, hf]; exact List.mem_cons_self)
      obtain ⟨sl, e⟩ := I.base.slot L o ho (I.ok.frf L hL) hL fun z => I.ok.exfs L z hL
      exact ⟨hk, ⟨L, _, hf, hn, e, hd⟩, ih (fun b hb => hs b (by unfold frs; rw [List.filterMap_cons, hf]; exact List.mem_cons_of_mem _ hb)) hr⟩
  exact all X.outer (fun _ hb => hb) I.ok.funs

/-- the frames that run, for a call -/
theorem Inv.stack (I : Inv X pins σ H s) : s.heap.FunFrames X.base X.stack := by
  rcases I.ok.stk with e | ⟨e, hf⟩
  · rw [e]; exact I.funs
  · rw [e]
    obtain ⟨m, hn, _⟩ := I.loc
    refine .cons (by rw [I.ok.kind]; decide) hf hn ?_ I.funs
    exact Heap.get?_none_of_le (Nat.le_trans I.ok.bsz I.ok.above)
theorem Inv.stkSub (I : Inv X pins σ H s) : ∀ b ∈ frs X.stack, b ∈ X.env.locals :: X.fs := fun b hb => by
  rcases I.ok.stk with e | ⟨e, hf⟩
  · rw [e] at hb; exact List.mem_cons_of_mem _ hb
  · rw [e] at hb
    unfold frs at hb
    rw [List.filterMap_cons, hf] at hb
    exact hb
theorem Inv.stkFree (I : Inv X pins σ H s) : ∀ b ∈ frs X.stack, H b = none := fun b hb => by
  rcases List.mem_cons.mp (I.stkSub b hb) with e | hb
  · rw [e]; exact I.free
  · obtain ⟨_, o, ho, _⟩ := I.ok.funs.mem hb
    exact I.base.free b o ho (I.ok.frf b hb) fun z => I.ok.exfs b z hb

/-- THE STEP: the untracked objects but the frame and the records at ch are kept (the callers' frames up to slots), the frame's map is kept, the new abstract heap is held -/
theorem Inv.step {g' : Array GenState} {t' : Nat} {d' : Drawn} {ch : List Addr} (I : Inv X pins σ H s)
    (hch : ∀ b ∈ ch, (b ∈ X.ex ∨ X.s₀.heap.objs.size ≤ b) ∧ b ≠ X.env.locals ∧ (∀ x c, X.env.cells.lookup x = some c → c ≠ b) ∧ ∀ p ∈ X.pn ++ pins, p.1 ≠ b)
    (keep : ∀ b o, b ≠ X.env.locals → b ∉ X.fs → b ∉ ch → s.heap.get? b = some o → H b = none → h'.get? b = some o)
    (slot : ∀ b o, b ≠ X.env.locals → b ∈ X.fs → b ∉ ch → s.heap.get? b = some o → H b = none → ∃ sl, h'.get? b = some { o with slots := sl }) (free : ∀ b o, b ∉ ch → s.heap.get? b = some o → H b = none → H' b = none)
    (there : ∀ b o, b ∉ ch → s.heap.get? b = some o → ∃ o', h'.get? b = some o')
    (tups : ∀ b xs, H b = some (.tup xs) → H' b = some (.tup xs)) (frzs : ∀ b o u, H b = some (.frz o u) → H' b = some (.frz o u)) (tbls : ∀ b ps, H b = some (.tbl ps) → ∃ more, H' b = some (.tbl (ps ++ more)))
    (ns : ∀ m, s.heap.Ns X.env.locals m → h'.Ns X.env.locals m) (hok : HOk X.prog X.w H' h') (hg : AllBare g') :
    Inv X pins σ H' { s with heap := h', gens := g', drawn := d', toks := t' } := by
  have neL : ∀ b o, X.s₀.heap.get? b = some o → b ≠ X.env.locals := fun b o e => Nat.ne_of_lt (Nat.lt_of_lt_of_le (Heap.lt_size e) I.ok.above)
  have neC : ∀ b o, X.s₀.heap.get? b = some o → b ∉ X.ex → b ∉ ch := fun b o e hx hb => by
    rcases (hch b hb).1 with z | z
    · exact hx z
    · exact absurd (Nat.lt_of_lt_of_le (Heap.lt_size e) z) (Nat.lt_irrefl _)
  have cellK : ∀ x c, X.env.cells.lookup x = some c → ∀ v, s.heap.IsCell c v → h'.IsCell c v := fun x c e v ⟨o, ho, hd⟩ => by
    have nch : c ∉ ch := fun z => (hch c z).2.2.1 x c e rfl
    by_cases hc : c ∈ X.fs
    · obtain ⟨sl, q⟩ := slot c o (I.cne x c e) hc nch ho (I.freeC x c e)
      exact ⟨_, q, hd⟩
    · exact ⟨o, keep c o (I.cne x c e) hc nch ho (I.freeC x c e), hd⟩
  refine ⟨I.ok, I.os, hg, ⟨fun b o e n hb hx => ?_, fun b o e n hb hx => ?_, fun b o e n hx => ?_, fun b o e hx => ?_, fun b xs e => tups b xs (I.base.tups b xs e), fun b o xs e => frzs b o xs (I.base.frzs b o xs e), fun b ps e => ?_⟩, ?_, fun x c e => ?_, ?_, fun x c e => ?_, fun p hp => ?_, hok, I.len⟩
  · exact keep b o (neL b o e) hb (neC b o e hx) (I.base.keep b o e n hb hx) (I.base.free b o e n hx)
  · obtain ⟨sl, e1⟩ := I.base.slot b o e n hb hx
    obtain ⟨sl', e2⟩ := slot b _ (neL b o e) hb (neC b o e hx) e1 (I.base.free b o e n hx)
    exact ⟨sl', e2⟩
  · obtain ⟨o', e1⟩ := I.base.there b o e hx
    exact free b o' (neC b o e hx) e1 (I.base.free b o e n hx)
  · obtain ⟨o', e1⟩ := I.base.there b o e hx
    exact there b o' (neC b o e hx) e1
  · obtain ⟨m1, e1⟩ := I.base.tbls b ps e
    obtain ⟨m2, e2⟩ := tbls b _ e1
    exact ⟨m1 ++ m2, by rw [e2, Array.append_assoc]⟩
  · obtain ⟨m, hn, hl⟩ := I.loc
    refine ⟨m, ns m hn, fun i x v e1 e2 e3 => ?_⟩
    obtain ⟨u, r, l⟩ := hl i x v e1 e2 e3
    refine ⟨u, r, ?_⟩
    rcases l with l | ⟨k, c, e, z⟩
    · exact .inl l
    · exact .inr ⟨k, c, e, cellK x c e _ z⟩
  · obtain ⟨v, z⟩ := I.cell x c e
    exact ⟨v, cellK x c e v z⟩
  · obtain ⟨m, ⟨o, _, _, ho, _⟩, _⟩ := I.loc
    exact free _ o (fun z => (hch _ z).2.1 rfl) ho I.free
  · obtain ⟨v, o, ho, hd⟩ := I.cell x c e
    exact free c o (fun z => (hch c z).2.2.1 x c e rfl) ho (I.freeC x c e)
  · obtain ⟨e, n, ne, nf, d⟩ := I.pin p hp
    have nch : p.1 ∉ ch := fun z => (hch p.1 z).2.2.2 p hp rfl
    exact ⟨keep p.1 p.2 ne nf nch e n, free p.1 p.2 nch e n, ne, nf, d⟩
/-- .. where the frame's own object is kept too -/
theorem Inv.un {t' : Nat} (I : Inv X pins σ H s) (u : Un X.fs [] H H' s.heap h') (hok : HOk X.prog X.w H' h') : Inv X pins σ H' { s with heap := h', toks := t' } := by
  obtain ⟨m, ⟨o, es, ep, ho, r⟩, _⟩ := id I.loc
  obtain ⟨sl, hL⟩ := u.any ho I.free (by simp)
  exact I.step (g' := s.gens) (d' := s.drawn) (ch := []) (fun _ z => nomatch z) (fun b o _ hb _ e n => u.keep b o e n hb (by simp)) (fun b o _ hb _ e n => u.slot b o e n hb (by simp)) (fun b o _ e n => u.free b o e n (by simp)) (fun b o _ e => u.there b o e (by simp)) u.tups u.frzs u.tbls (fun m' hm => by
    obtain ⟨o', es', ep', ho', r'⟩ := hm
    rw [ho] at ho'; cases ho'
    exact ⟨_, es', ep', hL, r'⟩) hok I.bare
/-- behind a call (or a comprehension's block): the slots of this frame may have changed too, the records at ch may have turned -/
theorem Inv.call {g' : Array GenState} {t' : Nat} {d' : Drawn} {ch : List Addr} (I : Inv X pins σ H s) (u : Un (frs X.stack) ch H H' s.heap h') (hok : HOk X.prog X.w H' h') (hg : AllBare g')
    (hch : ∀ b ∈ ch, (b ∈ X.ex ∨ X.s₀.heap.objs.size ≤ b) ∧ b ≠ X.env.locals ∧ (∀ x c, X.env.cells.lookup x = some c → c ≠ b) ∧ ∀ p ∈ X.pn ++ pins, p.1 ≠ b) :
    Inv X pins σ H' { s with heap := h', gens := g', drawn := d', toks := t' } := by
  obtain ⟨m, ⟨o, es, ep, ho, r⟩, _⟩ := id I.loc
  obtain ⟨sl, hL⟩ := u.any ho I.free fun z => (hch _ z).2.1 rfl
  exact I.step (ch := ch) hch (fun b o hL hb hc e n => u.keep b o e n (fun z => (List.mem_cons.mp (I.stkSub b z)).elim hL hb) hc) (fun b o _ _ hc e n => u.any e n hc) (fun b o hc e n => u.free b o e n hc) (fun b o hc e => u.there b o e hc) u.tups u.frzs u.tbls (fun m' hm => by
    obtain ⟨o', es', ep', ho', r'⟩ := hm
    rw [ho] at ho'; cases ho'
    exact ⟨_, es', ep', hL, r'⟩) hok hg
/-- an untracked record of ours (an iterator) has turned -/
theorem Inv.turned {t' : Nat} {it : Addr} (I : Inv X pins σ H s) (k : ∀ b o, b ≠ it → s.heap.get? b = some o → h'.get? b = some o) (hn : H it = none) (hL : it ≠ X.env.locals)
    (h1 : it ∈ X.ex ∨ X.s₀.heap.objs.size ≤ it) (h2 : ∀ x c, X.env.cells.lookup x = some c → c ≠ it) (h3 : ∀ p ∈ X.pn ++ pins, p.1 ≠ it) : Inv X pins σ H { s with heap := h', toks := t' } := by
  have nit : ∀ b u, H b = some u → b ≠ it := fun b u e z => by rw [z, hn] at e; cases e
  refine I.step (g' := s.gens) (d' := s.drawn) (ch := [it]) (fun b hb => ?_) (fun b o _ _ hc e _ => k b o (fun z => hc (by simp [z])) e) (fun b o _ _ hc e _ => ⟨o.slots, k b o (fun z => hc (by simp [z])) e⟩) (fun _ _ _ _ n => n)
    (fun b o hc e => ⟨o, k b o (fun z => hc (by simp [z])) e⟩) (fun _ _ e => e) (fun _ _ _ e => e) (fun b ps e => ⟨#[], by rw [e]; simp⟩) (fun m hm => ?_) (fun b u e => ?_) I.bare
  · have e : b = it := by simpa using hb
    subst e
    exact ⟨h1, hL, h2, h3⟩
  · obtain ⟨o, es, ep, ho, r⟩ := hm
    exact ⟨o, es, ep, k _ o (Ne.symm hL) ho, r⟩
  · refine (I.hok b u e).stay (fun c v hc q => k c v ?_ q) (fun _ q => q) fun _ _ q => q
    rcases hc with z | z
    · rw [z]; exact nit b u e
    · exact nit c _ z
theorem Inv.tok (I : Inv X pins σ H s) (t : Nat) : Inv X pins σ H { s with toks := t } := I.un (h' := s.heap) (t' := t) Un.refl I.hok
/-- all objects kept -/
theorem Inv.kept {t' : Nat} (I : Inv X pins σ H s) (k : ∀ b u, s.heap.get? b = some u → h'.get? b = some u) : Inv X pins σ H { s with heap := h', toks := t' } := I.un (Un.kept k) (I.hok.kept k)
/-- a new object laid and tracked -/
theorem Inv.laid {a : Addr} {o : HO} {t' : Nat} (I : Inv X pins σ H s) (k : ∀ b u, s.heap.get? b = some u → h'.get? b = some u) (hp : s.heap.objs.size ≤ a) (new : ObjOk X.prog X.w (upd H a o) h' a o) :
    Inv X pins σ (upd H a o) { s with heap := h', toks := t' } := I.un (Un.laid k hp (I.hok.fresh hp)) (I.hok.laid k hp new)
/-- an object written -/
theorem Inv.write {x e : Addr} {o : HO} {t' : Nat} (I : Inv X pins σ H s) (mu : Mut (H x)) (he : e = x ∨ H e = some (.own x)) (k : ∀ b u, b ≠ e → s.heap.get? b = some u → h'.get? b = some u) (heo : ∃ u, h'.get? e = some u)
    (new : ObjOk X.prog X.w (upd H x o) h' x o) : Inv X pins σ (upd H x o) { s with heap := h', toks := t' } := I.un (Un.write mu he k heo) (I.hok.write mu he k heo new)
theorem Inv.pins_of {pins' : List (Addr × Obj)} (I : Inv X pins σ H s) (h : ∀ p ∈ pins', s.heap.get? p.1 = some p.2 ∧ H p.1 = none ∧ p.1 ≠ X.env.locals ∧ p.1 ∉ X.fs ∧ ∀ v, p.2.data ≠ .cell v) : Inv X pins' σ H s :=
  ⟨I.ok, I.os, I.bare, I.base, I.loc, I.cell, I.free, I.freeC, fun p hp => (List.mem_append.mp hp).elim (fun z => I.pin p (List.mem_append_left _ z)) (h p), I.hok, I.len⟩

theorem nodup_ix {N : List Str} (hN : N.Nodup) {i j : Nat} {x : Str} (a : N[i]? = some x) (b : N[j]? = some x) : i = j := by
  obtain ⟨h1, e1⟩ := List.getElem?_eq_some_iff.mp a
  obtain ⟨h2, e2⟩ := List.getElem?_eq_some_iff.mp b
  exact (List.getElem_inj hN).mp (e1.trans e2.symm)

/-- a name is stored; what changed -/
theorem store_ok2 {M : Model} {A : Around} {E : Value → Shared → Prop} {i : Nat} {x : Str} {v : V} {u : Value} {Q : Unit → Shared → Prop} (I : Inv X pins σ H s) (hN : X.N.Nodup) (hi : X.N[i]? = some x) (hx : Loc X.env.scope x) (r : RelV v u)
    (h : ∀ s', Inv X pins (σ.set i (some v)) H s' → (∃ a, Heap.SameBut a s.heap s'.heap ∧ (a = X.env.locals ∨ X.env.cells.lookup x = some a)) → Q () s') (hf : X.fn x = true ∨ X.env.scope.names.lookup x = some .local := by first | exact .inl rfl | exact .inr rfl | assumption) : wpAny M A (storeName X.env x u) Q E s := by
  obtain ⟨m, hn, hl⟩ := id I.loc
  have hcls : (X.env.scope.kind == .class || (X.env.scope.kind == .module && X.env.locals != X.env.globals)) = false := by rw [I.ok.kind]; rfl
  have hiσ : i < σ.length := by rw [I.len]; exact (List.getElem?_eq_some_iff.mp hi).1
  have cne := I.cne
  have tracked : ∀ {a : Addr} {h' : Heap}, (∃ o, s.heap.get? a = some o ∧ H a = none) → Heap.SameBut a s.heap h' → HOk X.prog X.w H h' := fun {a h'} ha hs b ob e => by
    obtain ⟨_, _, hfree⟩ := ha
    refine (I.hok b ob e).stay (fun c w' hc q => (hs.2 c ?_).trans q) (fun _ q => q) fun _ _ q => q
    rintro rfl
    rcases hc with rfl | hc
    · rw [hfree] at e; cases e
    · rw [hfree] at hc; cases hc
  rcases hx with hk | hk
  · refine wpAny_storeName_local hk hn (fun h' hn' hs => ?_) hcls
    obtain ⟨oL, _, _, hoL, _⟩ := id hn
    refine h _ ⟨I.ok, I.os, I.bare, ⟨fun b o e n hb hx => ?_, fun b o e n hb hx => ?_, I.base.free, fun b o e hx => ?_, I.base.tups, I.base.frzs, I.base.tbls⟩, ⟨_, hn', fun j y v' e1 e2 e3 => ?_⟩, fun y c e => ?_, I.free, I.freeC, fun p hp => ?_, tracked ⟨oL, hoL, I.free⟩ hs, by simpa using I.len⟩ ⟨_, hs, .inl rfl⟩
    · exact (hs.2 b (Nat.ne_of_lt (Nat.lt_of_lt_of_le (Heap.lt_size e) I.ok.above))).trans (I.base.keep b o e n hb hx)
    · obtain ⟨sl, e1⟩ := I.base.slot b o e n hb hx
      exact ⟨sl, (hs.2 b (Nat.ne_of_lt (Nat.lt_of_lt_of_le (Heap.lt_size e) I.ok.above))).trans e1⟩
    · obtain ⟨o', e1⟩ := I.base.there b o e hx
      exact ⟨o', (hs.2 b (Nat.ne_of_lt (Nat.lt_of_lt_of_le (Heap.lt_size e) I.ok.above))).trans e1⟩
    · by_cases hj : j = i
      · subst hj
        rw [hi] at e1; cases e1
        rw [List.getElem?_set_self hiσ] at e2
        cases e2
        exact ⟨u, r, .inl ⟨hk, by simp⟩⟩
      · rw [List.getElem?_set_ne (Ne.symm hj)] at e2
        obtain ⟨u', r', q⟩ := hl j y v' e1 e2 e3
        refine ⟨u', r', ?_⟩
        rcases q with ⟨k, e⟩ | ⟨k, c, e, z⟩
        · refine .inl ⟨k, ?_⟩
          have : y ≠ x := fun e => hj (nodup_ix hN e1 (e ▸ hi))
          simp [this, e]
        · exact .inr ⟨k, c, e, z.sameBut hs (cne y c e)⟩
    · obtain ⟨w', z⟩ := I.cell y c e
      exact ⟨w', z.sameBut hs (cne y c e)⟩
    · obtain ⟨e, n, ne, nf, d⟩ := I.pin p hp
      exact ⟨(hs.2 p.1 ne).trans e, n, ne, nf, d⟩
  · have hfn : X.fn x = true := by
      rcases hf with z | z
      · exact z
      · rw [z] at hk; cases hk
    obtain ⟨c, hc⟩ := I.ok.has x (.inl hk)
    obtain ⟨w', z⟩ := I.cell x c hc
    refine wpAny_storeName_cell I.ok.kind hk hc z (fun h' hc' hs => ?_)
    obtain ⟨oc, hoc, hocd⟩ := id z
    refine h { s with heap := h' } ⟨I.ok, I.os, I.bare, ⟨fun b o e n hb hx => ?_, fun b o e n hb hx => ?_, I.base.free, fun b o e hx => ?_, I.base.tups, I.base.frzs, I.base.tbls⟩, ⟨m, hn.sameBut hs (Ne.symm (cne x c hc)), fun j y v' e1 e2 e3 => ?_⟩, fun y c' e => ?_, I.free, I.freeC, fun p hp => ?_, tracked ⟨oc, hoc, I.freeC x c hc⟩ hs, by simpa using I.len⟩ ⟨c, hs, .inr hc⟩
    · exact (hs.2 b (Nat.ne_of_lt (Nat.lt_of_lt_of_le (Heap.lt_size e) (I.ok.cab x c hfn hc)))).trans (I.base.keep b o e n hb hx)
    · obtain ⟨sl, e1⟩ := I.base.slot b o e n hb hx
      exact ⟨sl, (hs.2 b (Nat.ne_of_lt (Nat.lt_of_lt_of_le (Heap.lt_size e) (I.ok.cab x c hfn hc)))).trans e1⟩
    · obtain ⟨o', e1⟩ := I.base.there b o e hx
      exact ⟨o', (hs.2 b (Nat.ne_of_lt (Nat.lt_of_lt_of_le (Heap.lt_size e) (I.ok.cab x c hfn hc)))).trans e1⟩
    · by_cases hj : j = i
      · subst hj
        rw [hi] at e1; cases e1
        rw [List.getElem?_set_self hiσ] at e2
        cases e2
        exact ⟨u, r, .inr ⟨.inl hk, c, hc, hc'⟩⟩
      · rw [List.getElem?_set_ne (Ne.symm hj)] at e2
        obtain ⟨u', r', q⟩ := hl j y v' e1 e2 e3
        refine ⟨u', r', ?_⟩
        rcases q with q | ⟨k, c', e, z'⟩
        · exact .inl q
        · refine .inr ⟨k, c', e, z'.sameBut hs ?_⟩
          rintro rfl
          exact hj (nodup_ix hN e1 (I.ok.inj _ _ _ e hc ▸ hi))
    · by_cases hcc : c' = c
      · subst hcc; exact ⟨_, hc'⟩
      · obtain ⟨w2, z2⟩ := I.cell y c' e
        exact ⟨w2, z2.sameBut hs hcc⟩
    · obtain ⟨e, n, ne, nf, d⟩ := I.pin p hp
      refine ⟨(hs.2 p.1 ?_).trans e, n, ne, nf, d⟩
      intro q
      rw [q, hoc] at e
      have q' : oc = p.2 := Option.some.inj e
      exact d w' (by rw [← q']; exact hocd)
theorem store_ok {M : Model} {A : Around} {E : Value → Shared → Prop} {i : Nat} {x : Str} {v : V} {u : Value} {Q : Unit → Shared → Prop} (I : Inv X pins σ H s) (hN : X.N.Nodup) (hi : X.N[i]? = some x) (hx : Loc X.env.scope x) (r : RelV v u)
    (h : ∀ s', Inv X pins (σ.set i (some v)) H s' → Q () s') (hf : X.fn x = true ∨ X.env.scope.names.lookup x = some .local := by first | exact .inl rfl | exact .inr rfl | assumption) : wpAny M A (storeName X.env x u) Q E s :=
  store_ok2 I hN hi hx r (fun s' I' _ => h s' I') hf
/-- behind a call or a block, the state as it is -/
theorem Inv.call' {s' : Shared} {ch : List Addr} (I : Inv X pins σ H s) (ho : s'.os = s.os) (u : Un (frs X.stack) ch H H' s.heap s'.heap) (hok : HOk X.prog X.w H' s'.heap) (hg : AllBare s'.gens)
    (hch : ∀ b ∈ ch, (b ∈ X.ex ∨ X.s₀.heap.objs.size ≤ b) ∧ b ≠ X.env.locals ∧ (∀ x c, X.env.cells.lookup x = some c → c ≠ b) ∧ ∀ p ∈ X.pn ++ pins, p.1 ≠ b) : Inv X pins σ H' s' := by
  obtain ⟨h', g', d', t', o'⟩ := s'
  have e : o' = s.os := ho
  subst e
  exact I.call (g' := g') (t' := t') (d' := d') u hok hg hch
end

/-! ### the judgements -/
/-- an exception: its class, its own dict's address (where it has one), the abstract heap behind it -/
abbrev XK := Value → Option Addr → Hp → Prop
abbrev St := List (Option V)
abbrev VK := V → Hp → Prop
/-- an expression's reading; a test's; an argument list's -/
abbrev TE := St → Hp → VK → Prop
abbrev TT := St → Hp → (Bool → Hp → Prop) → Prop
abbrev TA := St → Hp → (List V → Hp → Prop) → Prop
/-- what is wanted behind a statement -/
structure Ends where
  nx : St → Hp → Prop
  rt : VK
  bk : St → Hp → Prop := fun _ _ => False
  ct : St → Hp → Prop := fun _ _ => False
abbrev TS := Ends → St → Hp → Prop

def EP (X : Cx) (pins : List (Addr × Obj)) (σ : St) (Q : VK) (u : Value) (s' : Shared) : Prop := ∃ v H', Inv X pins σ H' s' ∧ RelV v u ∧ Q v H'
def TP (X : Cx) (pins : List (Addr × Obj)) (σ : St) (Q : Bool → Hp → Prop) (b : Bool) (s' : Shared) : Prop := ∃ H', Inv X pins σ H' s' ∧ Q b H'
def AP (X : Cx) (pins : List (Addr × Obj)) (σ : St) (Q : List V → Hp → Prop) (us : List Value) (s' : Shared) : Prop := ∃ vs H', Inv X pins σ H' s' ∧ Vals vs us ∧ Q vs H'
def SP (X : Cx) (pins : List (Addr × Obj)) (D : Ends) (f : Flow) (s' : Shared) : Prop :=
  match f with
  | .next => ∃ σ' H', Inv X pins σ' H' s' ∧ D.nx σ' H'
  | .brk => ∃ σ' H', Inv X pins σ' H' s' ∧ D.bk σ' H'
  | .cont => ∃ σ' H', Inv X pins σ' H' s' ∧ D.ct σ' H'
  | .ret u => ∃ v σ' H', Inv X pins σ' H' s' ∧ RelV v u ∧ D.rt v H'

def PE (X : Cx) (e : Expr) (t : TE) : Prop :=
  ∀ (pins : List (Addr × Obj)) (s : Shared) (σ : St) (H : Hp) (Q : VK), Inv X pins σ H s → t σ H Q → wpAny (model X.prog X.w) X.A (eval e X.env) (EP X pins σ Q) X.xe s
def PT (X : Cx) (e : Expr) (t : TT) : Prop :=
  ∀ (pins : List (Addr × Obj)) (s : Shared) (σ : St) (H : Hp) (Q : Bool → Hp → Prop), Inv X pins σ H s → t σ H Q → wpAny (model X.prog X.w) X.A (isTrue e X.env (eval e X.env)) (TP X pins σ Q) X.xe s
/-- a test whatever its 'whole' is (and, or) -/
def PW (X : Cx) (e : Expr) (t : TT) : Prop :=
  ∀ (whole : Sem Value) (pins : List (Addr × Obj)) (s : Shared) (σ : St) (H : Hp) (Q : Bool → Hp → Prop), Inv X pins σ H s → t σ H Q → wpAny (model X.prog X.w) X.A (isTrue e X.env whole) (TP X pins σ Q) X.xe s
theorem PW.pt {X : Cx} {e : Expr} {t : TT} (h : PW X e t) : PT X e t := h _
/-- an argument list (no star), from the left -/
def PA (X : Cx) (es : List Expr) (t : TA) : Prop :=
  ∀ (pos : Pos) (pins : List (Addr × Obj)) (s : Shared) (σ : St) (H : Hp) (Q : List V → Hp → Prop), Inv X pins σ H s → t σ H Q → wpAny (model X.prog X.w) X.A (spliced (backTo pos (starEach es X.env))) (AP X pins σ Q) X.xe s
def PS (X : Cx) (st : Stmt) (t : TS) : Prop :=
  ∀ (pins : List (Addr × Obj)) (s : Shared) (σ : St) (H : Hp) (D : Ends), Inv X pins σ H s → t D σ H → wpAny (model X.prog X.w) X.A (exec st X.env) (SP X pins D) X.xe s
def PSs (X : Cx) (st : List Stmt) (t : TS) : Prop :=
  ∀ (pins : List (Addr × Obj)) (s : Shared) (σ : St) (H : Hp) (D : Ends), Inv X pins σ H s → t D σ H → wpAny (model X.prog X.w) X.A (execs st X.env) (SP X pins D) X.xe s
/-- weaken the end -/
theorem thn {α : Type} {t : Sem α} {Q Q' : α → Shared → Prop} {M : Model} {A : Around} {E : Value → Shared → Prop} {s : Shared} (h : wpAny M A t Q E s) (hQ : ∀ a s, Q a s → Q' a s) : wpAny M A t Q' E s := wpAny_mono h hQ fun _ _ x => x
end L2

namespace L2
open PySem PySem.Spec PyProof.Rows
section
variable {X : Cx}

/-! ### names and constants -/
def tVar (i : Nat) : TE := fun σ H Q => ∃ v, σ[i]? = some (some v) ∧ Q v H
def tC (v : V) : TE := fun _ H Q => Q v H
theorem pe_var {i : Nat} {x : Str} {pos : Pos} (hN : X.N[i]? = some x) (hv : Vis X.env.scope x) (hd : (x == ("__debug__" : Str)) = false := by decide) (hcd : (x == ("__classdict__" : Str)) = false := by decide) : PE X (.Name x pos) (tVar i) := by
  intro pins s σ H Q I h
  obtain ⟨v, e, h⟩ := h
  obtain ⟨m, hn, hl⟩ := I.loc
  obtain ⟨u, r, l⟩ := hl i x v hN e hv
  have fin : EP X pins σ Q u s := ⟨v, H, I, r, h⟩
  rcases l with ⟨hk, hm⟩ | ⟨hk, c, hc, hcell⟩
  · exact wpAny_Name (wpAny_loadName_local I.ok.kind hk hn hm fin) hd
  · rcases hk with hk | hk
    · exact wpAny_Name (wpAny_loadName_cell I.ok.kind hk hc hcell fin) hd
    · exact wpAny_Name (wpAny_loadName_free I.ok.kind hk hc hcell fin hcd) hd
theorem pe_int {i j pos} : PE X (.Constant (.int i) j pos) (tC (.int i)) := fun _ _ _ H _ I h => wpAny_Constant_int ⟨.int i, H, I.tok _, ⟨_, rfl⟩, h⟩
theorem pe_bl {b j pos} : PE X (.Constant (.bool b) j pos) (tC (.bl b)) := fun _ _ _ H _ I h => Constant_bool ⟨.bl b, H, I, rfl, h⟩
/-- a global name of the def -/
def Gl (X : Cx) (x : Str) : Prop := X.env.kindOf x = some .globalImplicit
theorem ld_glob {E : Value → Shared → Prop} {pins : List (Addr × Obj)} {s : Shared} {σ : St} {H : Hp} {x : Str} {u : Value} {pos : Pos} {Q : Value → Shared → Prop} (I : Inv X pins σ H s) (hg : Gl X x) (hm : X.mg x = some u) (h : Q u s)
    (hd : (x == ("__debug__" : Str)) = false := by decide) : wpAny (model X.prog X.w) X.A (eval (.Name x pos) X.env) Q E s :=
  Calls.Name_function_global I.ok.kind hg (Calls.loadGlobal_global (by rw [I.ok.glob]; exact I.mod.glob.keeps I.bk) hm h) hd
theorem ld_blt {E : Value → Shared → Prop} {pins : List (Addr × Obj)} {s : Shared} {σ : St} {H : Hp} {x : Str} {u : Value} {pos : Pos} {Q : Value → Shared → Prop} (I : Inv X pins σ H s) (hg : Gl X x) (hm : X.mg x = none) (hv : bootBuiltins x = some u) (h : Q u s)
    (hn : x ≠ "__name__" := by decide) (hd : (x == ("__debug__" : Str)) = false := by decide) : wpAny (model X.prog X.w) X.A (eval (.Name x pos) X.env) Q E s := by
  obtain ⟨mb, h1, h2⟩ := I.mod.blt
  exact Calls.Name_function_global I.ok.kind hg (Calls.loadGlobal_builtin (by rw [I.ok.glob]; exact I.mod.glob.keeps I.bk) hm (by rw [I.ok.blt]; exact h1.keeps I.bk) ((h2 x hn).trans hv) h) hd
theorem pe_bltn {x : Str} {v : V} {u : Value} {pos : Pos} (hg : Gl X x) (hm : X.mg x = none) (hv : bootBuiltins x = some u) (r : RelV v u) (hn : x ≠ "__name__" := by decide) (hd : (x == ("__debug__" : Str)) = false := by decide) : PE X (.Name x pos) (tC v) :=
  fun _ _ _ H _ I h => ld_blt I hg hm hv ⟨v, H, I, r, h⟩ hn hd

/-! ### arithmetic -/
variable {a b : Expr} {ta tb : TE} {pos : Pos}
/-! ### comparisons -/
def PC (X : Cx) (op : CmpOp) (a b : Expr) (t : TE) : Prop :=
  ∀ (pins : List (Addr × Obj)) (s : Shared) (σ : St) (H : Hp) (Q : VK), Inv X pins σ H s → t σ H Q →
    wpAny (model X.prog X.w) X.A (eval a X.env) (fun v s₁ => wpAny (model X.prog X.w) X.A (eval b X.env) (fun u s₂ => wpAny (model X.prog X.w) X.A (compareOp op v u) (EP X pins σ Q) X.xe s₂) X.xe s₁) X.xe s
theorem nobehind (b : Expr) {op : CmpOp} (h : op ≠ .In) (h2 : op ≠ .NotIn) : behindInMarks op b = false := by
  have e1 : (op == CmpOp.In) = false := by cases op <;> first | rfl | exact absurd rfl h
  have e2 : (op == CmpOp.NotIn) = false := by cases op <;> first | rfl | exact absurd rfl h2
  cases b <;> simp [behindInMarks, e1, e2]
/-- a comparison as a value, as a test -/
def tB (t : TE) : TT := fun σ H Q => t σ H fun x H1 => ∃ c, x = .bl c ∧ Q c H1
theorem pt_cmp {op : CmpOp} {t : TE} (h : PC X op a b t) (h1 : behindInMarks op b = false := by first | exact nobehind _ (by decide) (by decide) | rfl) : PT X (.Compare a [op] [b] pos) (tB t) := by
  intro pins s σ H Q I hw
  refine wpAny_isTrue_Compare1 (thn (h pins s σ H _ I hw) fun v s1 h1 => thn h1 fun u s2 h2 => thn h2 fun c s3 ⟨x, H1, I1, r1, q1⟩ => ?_) h1
  obtain ⟨d, rfl, q⟩ := q1
  cases r1
  exact wpAny_truthy_bool ⟨H1, I1, q⟩
/-! ### and, or, not -/
variable {tA tB' : TT} {rest : List Expr}
def tOr (t u : TT) : TT := fun σ H Q => t σ H fun c H1 => if c = true then Q true H1 else u σ H1 Q
def tNot (t : TT) : TT := fun σ H Q => t σ H fun c H1 => Q (!c) H1
theorem pw_or1 (ha : PT X a tA) : PW X (.BoolOp .Or [a] pos) tA := by
  intro wh pins s σ H Q I h
  refine isTrue_or (thn (ha pins s σ H Q I h) fun c s1 e => ?_)
  cases c with
  | false => exact isTrue_or_nil e
  | true => exact e
theorem pw_or (ha : PT X a tA) (hb : PW X (.BoolOp .Or (b :: rest) pos) tB') : PW X (.BoolOp .Or (a :: b :: rest) pos) (tOr tA tB') := by
  intro wh pins s σ H Q I h
  refine isTrue_or (thn (ha pins s σ H _ I h) fun c s1 ⟨H1, I1, q1⟩ => ?_)
  cases c with
  | true => exact ⟨H1, I1, q1⟩
  | false => exact hb wh pins s1 σ H1 Q I1 q1
theorem pt_not (ha : PT X a tA) : PT X (.UnaryOp .Not a pos) (tNot tA) := by
  intro pins s σ H Q I h
  exact isTrue_not (ha pins s σ H (fun c H1 => Q (!c) H1) I h)
/-- a if t else b -/
def tIf (t : TT) (ta tb : TE) : TE := fun σ H Q => t σ H fun c H1 => if c = true then ta σ H1 Q else tb σ H1 Q
theorem pe_ifExp {c : Expr} (hc : PT X c tA) (ha : PE X a ta) (hb : PE X b tb) : PE X (.IfExp c a b pos) (tIf tA ta tb) := by
  intro pins s σ H Q I h
  refine wpAny_IfExp (thn (hc pins s σ H _ I h) fun d s1 ⟨H1, I1, q1⟩ => ?_)
  cases d with
  | true => exact ha pins s1 σ H1 Q I1 q1
  | false => exact hb pins s1 σ H1 Q I1 q1
end
end L2

namespace L2
open PySem PySem.Spec PyProof.Rows

/-! ### a list, a tuple that is read: tracked, frozen, or an object of the module -/
def SqL (K : PySem.W.Frag) (H : Hp) (a : Addr) (xs : List V) : Prop :=
  Rd H a (.lst xs) ∨
    ∃ (o : Obj) (its : Array Value) (n : Nat), K.lookup a = some o ∧ o.cls = .type "list" ∧ o.dict = none ∧ o.data = .seq its n ∧ its.size ≤ sizeLine ∧ Vals xs its.toList
def SqT (K : PySem.W.Frag) (H : Hp) (a : Addr) (xs : List V) : Prop :=
  Rd H a (.tup xs) ∨
    ∃ (o : Obj) (its : Array Value) (n : Nat), K.lookup a = some o ∧ o.cls = .type "tuple" ∧ o.data = .seq its n ∧ its.size ≤ sizeLine ∧ Vals xs its.toList ∧ o.dict = none
def absV : Value → Option V
  | .none => some .non
  | .bool b => some (.bl b)
  | .int i _ => some (.int i)
  | .str x _ => some (.str x)
  | .bytes b _ => some (.byt b)
  | .float b _ => some (.flt b)
  | .ref a => some (.ref a)
  | .type n => some (.ty n)
  | _ => none
theorem RelV.abs {x : V} {u : Value} (r : RelV x u) : absV u = some x := by
  cases x with
  | non => cases r; rfl
  | bl _ => cases r; rfl
  | int _ => obtain ⟨t, rfl⟩ := r; rfl
  | str _ => obtain ⟨t, rfl⟩ := r; rfl
  | byt _ => obtain ⟨t, rfl⟩ := r; rfl
  | flt _ => obtain ⟨t, rfl⟩ := r; rfl
  | ref _ => cases r; rfl
  | ty _ => cases r; rfl
theorem RelV.inj {x y : V} {u : Value} (r : RelV x u) (q : RelV y u) : x = y := Option.some.inj (r.abs.symm.trans q.abs)
theorem Vals.inj : ∀ {xs ys : List V} {us : List Value}, Vals xs us → Vals ys us → xs = ys
  | _, _, _, .nil, .nil => rfl
  | _, _, _, .cons r t, .cons r' t' => by rw [r.inj r', Vals.inj t t']
section
variable {X : Cx} {pins : List (Addr × Obj)} {σ : St} {H : Hp} {s : Shared} {a : Addr} {xs ys : List V}
theorem SqL.of {K : PySem.W.Frag} (h : H a = some (.lst xs)) : SqL K H a xs := .inl (.inl h)
theorem SqT.of {K : PySem.W.Frag} (h : H a = some (.tup xs)) : SqT K H a xs := .inl (.inl h)
theorem Inv.list (I : Inv X pins σ H s) (h : SqL X.K H a xs) : ∃ its : List Value, Vals xs its ∧ PlainL s.heap a its.toArray ∧ xs.length ≤ sizeLine := by
  rcases h with h | ⟨o, its, n, hk, hc, hd, hs, hz, r⟩
  · obtain ⟨z, its, n, r, e⟩ := h.ok I.hok
    exact ⟨its, r, ⟨_, n, e, rfl, rfl, rfl⟩, z⟩
  · refine ⟨its.toList, r, ⟨o, n, I.kIn a o hk, hc, hd, by simpa using hs⟩, ?_⟩
    have e := r.length
    simp only [Array.length_toList] at e
    omega
theorem Inv.tuple (I : Inv X pins σ H s) (h : SqT X.K H a xs) : ∃ its : List Value, Vals xs its ∧ IsTup s.heap a its.toArray ∧ xs.length ≤ sizeLine := by
  rcases h with h | ⟨o, its, n, hk, hc, hs, hz, r, _⟩
  · obtain ⟨z, its, r, p, _⟩ := h.ok I.hok
    exact ⟨its, r, p, z⟩
  · refine ⟨its.toList, r, ⟨o, I.kIn a o hk, hc, n, by simpa using hs⟩, ?_⟩
    have e := r.length
    simp only [Array.length_toList] at e
    omega
theorem Inv.tupleN (I : Inv X pins σ H s) (h : SqT X.K H a xs) : (∃ o, s.heap.get? a = some o ∧ o.cls = .type "tuple") ∧ ∃ o, s.heap.get? a = some o ∧ o.dict = none := by
  rcases h with h | ⟨o, its, n, hk, hc, hs, hz, r, hd⟩
  · obtain ⟨z, its, r, ⟨ob, e, c, _⟩, o2, e2, d2⟩ := h.ok I.hok
    exact ⟨⟨ob, e, c⟩, o2, e2, d2⟩
  · exact ⟨⟨o, I.kIn a o hk, hc⟩, o, I.kIn a o hk, hd⟩
theorem Inv.list_inj (I : Inv X pins σ H s) (h : SqL X.K H a xs) (h' : SqL X.K H a ys) : xs = ys := by
  obtain ⟨its, r, ⟨o, n, e, _, _, d⟩, _⟩ := I.list h
  obtain ⟨its', r', ⟨o', n', e', _, _, d'⟩, _⟩ := I.list h'
  rw [e] at e'; cases e'
  rw [d] at d'
  injection d' with d1 _
  have : its = its' := by simpa using congrArg Array.toList d1
  subst this
  exact r.inj r'
theorem Inv.tuple_inj (I : Inv X pins σ H s) (h : SqT X.K H a xs) (h' : SqT X.K H a ys) : xs = ys := by
  obtain ⟨its, r, ⟨o, e, _, n, d⟩, _⟩ := I.tuple h
  obtain ⟨its', r', ⟨o', e', _, n', d'⟩, _⟩ := I.tuple h'
  rw [e] at e'; cases e'
  rw [d] at d'
  injection d' with d1 _
  have : its = its' := by simpa using congrArg Array.toList d1
  subst this
  exact r.inj r'
end

/-! ### another wish about exceptions -/
abbrev Cx.wish (X : Cx) (E : Value → Shared → Prop) : Cx := { X with xe := E }
/-- no exception leaves -/
abbrev Cx.nox (X : Cx) : Cx := X.wish fun _ _ => False
theorem Cx.Ok.wish {X : Cx} (ok : X.Ok) (E : Value → Shared → Prop) : (X.wish E).Ok :=
  ⟨ok.mod, ok.kind, ok.glob, ok.blt, ok.above, ok.inj, ok.has, ok.cab, ok.hd, ok.frames, ok.stk, ok.exf, ok.bs, ok.bsz, ok.noex, ok.exfs, ok.funs, ok.frf⟩
theorem Cx.Ok.unwish {X : Cx} {E : Value → Shared → Prop} (ok : (X.wish E).Ok) : X.Ok :=
  ⟨ok.mod, ok.kind, ok.glob, ok.blt, ok.above, ok.inj, ok.has, ok.cab, ok.hd, ok.frames, ok.stk, ok.exf, ok.bs, ok.bsz, ok.noex, ok.exfs, ok.funs, ok.frf⟩
section
variable {X : Cx} {pins : List (Addr × Obj)} {σ : St} {H : Hp} {s : Shared} {E : Value → Shared → Prop}
theorem Inv.wish (I : Inv X pins σ H s) (E : Value → Shared → Prop) : Inv (X.wish E) pins σ H s := ⟨I.ok.wish E, I.os, I.bare, I.base, I.loc, I.cell, I.free, I.freeC, I.pin, I.hok, I.len⟩
theorem Inv.unwish (I : Inv (X.wish E) pins σ H s) : Inv X pins σ H s := ⟨I.ok.unwish, I.os, I.bare, I.base, I.loc, I.cell, I.free, I.freeC, I.pin, I.hok, I.len⟩
theorem SP.unwish {D : Ends} {f : Flow} {s' : Shared} (h : SP (X.wish E) pins D f s') : SP X pins D f s' := by
  cases f with
  | next => obtain ⟨σ', H', I, q⟩ := h; exact ⟨σ', H', I.unwish, q⟩
  | brk => obtain ⟨σ', H', I, q⟩ := h; exact ⟨σ', H', I.unwish, q⟩
  | cont => obtain ⟨σ', H', I, q⟩ := h; exact ⟨σ', H', I.unwish, q⟩
  | ret u => obtain ⟨v, σ', H', I, r, q⟩ := h; exact ⟨v, σ', H', I.unwish, r, q⟩
theorem PE.nox {e : Expr} {t : TE} (h : PE X.nox e t) : PE X e t := fun pins s σ H Q I hw =>
  wpAny_mono (h pins s σ H Q (I.wish _) hw) (fun _ _ ⟨v, H', I', r, q⟩ => ⟨v, H', I'.unwish, r, q⟩) fun _ _ z => False.elim z
theorem PT.nox {e : Expr} {t : TT} (h : PT X.nox e t) : PT X e t := fun pins s σ H Q I hw =>
  wpAny_mono (h pins s σ H Q (I.wish _) hw) (fun _ _ ⟨H', I', q⟩ => ⟨H', I'.unwish, q⟩) fun _ _ z => False.elim z
theorem PSs.nox {st : List Stmt} {t : TS} (h : PSs X.nox st t) : PSs X st t := fun pins s σ H D I hw =>
  wpAny_mono (h pins s σ H D (I.wish _) hw) (fun _ _ q => q.unwish) fun _ _ z => False.elim z
end

/-! ### blocks and small statements -/
section
variable {X : Cx} {st : Stmt} {rest : List Stmt} {t u : TS} {e : Expr} {te : TE} {pos : Pos}
def tNext : TS := fun D σ H => D.nx σ H
def tSeq (t u : TS) : TS := fun D σ H => t { D with nx := u D } σ H
theorem pss_nil : PSs X [] tNext := fun _ _ σ H _ I h => wpAny_execs_nil ⟨σ, H, I, h⟩
theorem pss_cons (h1 : PS X st t) (h2 : PSs X rest u) : PSs X (st :: rest) (tSeq t u) := by
  intro pins s σ H D I h
  refine wpAny_execs_cons (thn (h1 pins s σ H { D with nx := u D } I h) fun f s1 q => ?_)
  cases f with
  | next =>
    obtain ⟨σ', H', I', q⟩ := q
    exact h2 pins s1 σ' H' D I' q
  | ret v => exact q
  | brk => exact q
  | cont => exact q
theorem pss_one (h1 : PS X st t) : PSs X [st] t := by
  intro pins s σ H D I h
  refine wpAny_execs_cons (thn (h1 pins s σ H D I h) fun f s1 q => ?_)
  cases f with
  | next => exact wpAny_execs_nil q
  | ret v => exact q
  | brk => exact q
  | cont => exact q
/-- in a def's body nothing is shown -/
theorem Inv.quiet {pins : List (Addr × Obj)} {σ : St} {H : Hp} {s : Shared} (I : Inv X pins σ H s) : interactive X.env = false := by simp [interactive, I.ok.kind]
/-- an expression whose value is dropped -/
def tDrop (te : TE) : TS := fun D σ H => te σ H fun _ H1 => D.nx σ H1
theorem ps_expr (he : PE X e te) (hs : swapsWith e none pos.line X.env = pure false := by rfl) : PS X (.Expr e pos) (tDrop te) := by
  intro pins s σ H D I h
  exact wpAny_Expr_any (thn (he pins s σ H _ I h) fun v s1 ⟨x, H1, I1, r1, q1⟩ => ⟨σ, H1, I1, q1⟩) I.quiet hs
def tRet (te : TE) : TS := fun D σ H => te σ H D.rt
theorem ps_ret (he : PE X e te) : PS X (.Return (some e) pos) (tRet te) := by
  intro pins s σ H D I h
  exact wpAny_Return_some (thn (he pins s σ H _ I h) fun v s1 ⟨x, H1, I1, r1, q1⟩ => ⟨x, σ, H1, I1, r1, q1⟩)
def tIfS (c : TT) (t u : TS) : TS := fun D σ H => c σ H fun b H1 => if b = true then t D σ H1 else u D σ H1
theorem ps_if {c : Expr} {a b : List Stmt} {tc : TT} (hc : PT X c tc) (ha : PSs X a t) (hb : PSs X b u) : PS X (.If c a b pos) (tIfS tc t u) := by
  intro pins s σ H D I h
  refine wpAny_If (thn (hc pins s σ H _ I h) fun d s1 ⟨H1, I1, q1⟩ => ?_)
  cases d with
  | true => exact ha pins s1 σ H1 D I1 q1
  | false => exact hb pins s1 σ H1 D I1 q1
end

/-! ### targets -/
abbrev TG := V → St → Hp → (St → Hp → Prop) → Prop
abbrev TGs := List V → St → Hp → (St → Hp → Prop) → Prop
def PG (X : Cx) (target : Expr) (t : TG) : Prop :=
  ∀ (pins : List (Addr × Obj)) (s : Shared) (σ : St) (H : Hp) (v : V) (u : Value) (Q : St → Hp → Prop), Inv X pins σ H s → RelV v u → t v σ H Q →
    wpAny (model X.prog X.w) X.A (assign target X.env u) (fun _ s' => ∃ σ' H', Inv X pins σ' H' s' ∧ Q σ' H') X.xe s
/-- several targets, one after another -/
def PGs (X : Cx) (ts : List Expr) (t : TGs) : Prop :=
  ∀ (pins : List (Addr × Obj)) (s : Shared) (σ : St) (H : Hp) (vs : List V) (us : List Value) (Q : St → Hp → Prop), Inv X pins σ H s → Vals vs us → t vs σ H Q →
    wpAny (model X.prog X.w) X.A (assignInOrder ((assignEach ts X.env).map (·.2)) us) (fun _ s' => ∃ σ' H', Inv X pins σ' H' s' ∧ Q σ' H') X.xe s
/-- o[i] = v, by values -/
abbrev TSet := V → V → V → Hp → (Hp → Prop) → Prop
def PSet (X : Cx) (t : TSet) : Prop :=
  ∀ (pins : List (Addr × Obj)) (s : Shared) (σ : St) (H : Hp) (o i v : V) (ov iv u : Value) (Q : Hp → Prop), Inv X pins σ H s → RelV o ov → RelV i iv → RelV v u → t o i v H Q →
    wpAny (model X.prog X.w) X.A (setItem ov iv u) (fun _ s' => ∃ H', Inv X pins σ H' s' ∧ Q H') X.xe s
section
variable {X : Cx} {pos : Pos}
def gName (i : Nat) : TG := fun v σ H Q => Q (σ.set i (some v)) H
theorem pg_name {i : Nat} {x : Str} (hN : X.N.Nodup) (hi : X.N[i]? = some x) (hx : Loc X.env.scope x) (hf : X.fn x = true ∨ X.env.scope.names.lookup x = some .local := by first | exact .inl rfl | exact .inr rfl | assumption) : PG X (.Name x pos) (gName i) := by
  intro pins s σ H v u Q I r h
  exact wpAny_assign_Name (store_ok I hN hi hx r (fun s' I' => ⟨_, H, I', h⟩) hf)
def gNil : TGs := fun vs σ H Q => vs = [] ∧ Q σ H
def gCons (t : TG) (u : TGs) : TGs := fun vs σ H Q => ∃ v r, vs = v :: r ∧ t v σ H fun σ' H' => u r σ' H' Q
theorem pgs_nil : PGs X [] gNil := by
  intro pins s σ H vs us Q I r h
  obtain ⟨e, h⟩ := h
  subst e
  cases r
  exact assignInOrder_nil ⟨σ, H, I, h⟩
theorem pgs_cons {e : Expr} {es : List Expr} {t : TG} {u : TGs} (h1 : PG X e t) (h2 : PGs X es u)
    (hs : (assignEach (e :: es) X.env).map (·.2) = assign e X.env :: (assignEach es X.env).map (·.2) := by rfl) : PGs X (e :: es) (gCons t u) := by
  intro pins s σ H vs us Q I r h
  obtain ⟨v, vr, e1, h⟩ := h
  subst e1
  cases r with
  | cons r rr =>
    rw [hs]
    refine assignInOrder_cons (thn (h1 pins s σ H _ _ _ I r h) fun _ s1 ⟨σ1, H1, I1, q1⟩ => ?_)
    exact h2 pins s1 σ1 H1 _ _ Q I1 rr q1
/-- (a, b, ..) = a tuple of that length -/
def gTup (K : PySem.W.Frag) (n : Nat) (t : TGs) : TG := fun v σ H Q => ∃ a xs, v = .ref a ∧ SqT K H a xs ∧ xs.length = n ∧ t xs σ H Q
theorem pg_tup {es : List Expr} {k : Nat} {t : TGs} {n : Nat} (hc : X.calm = true) (h : PGs X es t)
    (hn : (assignEach es X.env).length = n := by rfl) (hst : (assignEach es X.env).findIdx? (·.1) = none := by rfl) : PG X (.Tuple es k pos) (gTup X.K n t) := by
  intro pins s σ H v u Q I r hw
  obtain ⟨a, xs, e1, hq, hl, hw⟩ := hw
  subst e1
  cases r
  obtain ⟨its, rv, ht, hz⟩ := I.tuple hq
  refine assign_Tuple_tuple (I.ok.hd hc) ht (by simp [hn, ← hl, rv.length]) hst fun h' hx => ?_
  have I1 : Inv X pins σ H { s with heap := h' } := I.kept (t' := s.toks) fun b o e => hx b o (Nat.ne_of_lt (Heap.lt_size e)) e
  exact h pins _ σ H xs _ Q I1 (by simpa using rv) hw
/-- o[i] = .. -/
def gSub (to ti : TE) (t : TSet) : TG := fun v σ H Q => to σ H fun o H1 => ti σ H1 fun i H2 => t o i v H2 fun H3 => Q σ H3
theorem pg_sub {o i : Expr} {to ti : TE} {t : TSet} (ho : PE X o to) (hi : PE X i ti) (hs : PSet X t)
    (ha : ∀ v, assign (.Subscript o i pos) X.env v = (do
      let ov ← holding [v] (eval o X.env)
      let iv ← holding [v, ov] (eval i X.env)
      standAt pos
      holding [v, ov, iv] (setItem ov iv v)
      release [v, ov, iv] []) := by intro _; rfl) : PG X (.Subscript o i pos) (gSub to ti t) := by
  intro pins s σ H v u Q I r h
  rw [ha]
  refine wpAny_bind (wpAny_holding (thn (ho pins s σ H _ I h) fun ov s1 ⟨x, H1, I1, r1, q1⟩ => ?_))
  refine wpAny_bind (wpAny_holding (thn (hi pins s1 σ H1 _ I1 q1) fun iv s2 ⟨y, H2, I2, r2, q2⟩ => ?_))
  refine wpAny_bind (wpAny_standAt (wpAny_bind (wpAny_holding (thn (hs pins s2 σ H2 x y v ov iv u _ I2 r1 r2 r q2) fun _ s3 ⟨H3, I3, q3⟩ => ?_))))
  exact wpAny_release ⟨σ, H3, I3, q3⟩
/-- target = value -/
def tAsg (te : TE) (g : TG) : TS := fun D σ H => te σ H fun x H1 => g x σ H1 D.nx
theorem ps_asg {tg e : Expr} {te : TE} {g : TG} (he : PE X e te) (hg : PG X tg g) (hs : swapsWithSole [tg] e pos.line X.env = pure false := by rfl) (hw : swappedStores [tg] e X.env = pure none := by rfl)
    (h1 : (assignEach [tg] X.env).map (·.2) = [assign tg X.env] := by rfl) : PS X (.Assign [tg] e pos) (tAsg te g) := by
  intro pins s σ H D I h
  refine wpAny_Assign_stores (thn (he pins s σ H _ I h) fun v s1 ⟨x, H1, I1, r1, q1⟩ => ?_) hs hw
  rw [h1]
  exact thn (hg pins s1 σ H1 x v _ I1 r1 q1) fun _ s2 q => q
/-- name = value -/
theorem ps_set {i : Nat} {x : Str} {e : Expr} {te : TE} {pos' : Pos} (hN : X.N.Nodup) (hi : X.N[i]? = some x) (hx : Loc X.env.scope x) (he : PE X e te) (hs : swapsWith e (some (.Name x pos')) pos.line X.env = pure false := by rfl) (hf : X.fn x = true ∨ X.env.scope.names.lookup x = some .local := by first | exact .inl rfl | exact .inr rfl | assumption) :
    PS X (.Assign [.Name x pos'] e pos) (tAsg te (gName i)) := by
  intro pins s σ H D I h
  refine wpAny_Assign_Name (thn (he pins s σ H _ I h) fun v s1 ⟨y, H1, I1, r1, q1⟩ => ?_) hs
  exact store_ok I1 hN hi hx r1 (fun s2 I2 => ⟨_, H1, I2, q1⟩) hf
end

/-! ### while -/
section
variable {X : Cx} {pos : Pos}
/-- the invariant W with its measure -/
def tWhile (c : TT) (tb : TS) : TS := fun D σ H => ∃ W : Nat → St → Hp → Prop, (∃ m, W m σ H) ∧ ∀ m σ H, W m σ H →
  c σ H fun b H1 => if b = true then ∃ N : St → Hp → Prop, (∀ σ' H', N σ' H' → ∃ m', m' < m ∧ W m' σ' H') ∧ tb { D with nx := N, ct := N, bk := D.nx } σ H1 else D.nx σ H1
theorem ps_while {c : Expr} {body : List Stmt} {tc : TT} {tb : TS} (hp : PassesOwn (model X.prog X.w) X.A X.env X.xe) (hc : PT X c tc) (hb : PSs X body tb) : PS X (.While c body [] pos) (tWhile tc tb) := by
  intro pins s σ H D I h
  obtain ⟨W, ⟨m0, w0⟩, turn⟩ := h
  refine wpAny_While (codeAny_whileLoop (fun n s' => ∃ σ' H', Inv X pins σ' H' s' ∧ W n σ' H') ?_ m0 ⟨σ, H, I, w0⟩)
  rintro n s1 ⟨σ1, H1, I1, w1⟩
  refine wpAny_passesOwn hp (thn (hc pins s1 σ1 H1 _ I1 (turn n σ1 H1 w1)) fun b s2 ⟨H2, I2, q2⟩ => ?_)
  cases b with
  | true =>
    obtain ⟨N, hN, q2⟩ := q2
    rw [if_pos rfl]
    refine wpAny_passesOwn hp (thn (hb pins s2 σ1 H2 _ I2 q2) fun f s3 q3 => ?_)
    cases f with
    | next =>
      obtain ⟨σ3, H3, I3, n3⟩ := q3
      obtain ⟨m', hm, w3⟩ := hN σ3 H3 n3
      exact ⟨m', hm, σ3, H3, I3, w3⟩
    | cont =>
      obtain ⟨σ3, H3, I3, n3⟩ := q3
      obtain ⟨m', hm, w3⟩ := hN σ3 H3 n3
      exact ⟨m', hm, σ3, H3, I3, w3⟩
    | brk => exact q3
    | ret v => exact q3
  | false =>
    rw [if_neg Bool.false_ne_true]
    exact wpAny_execs_nil ⟨σ1, H2, I2, q2⟩
end

/-! ### what a loop or a comprehension walks -/
/-- at turn i: it yields x (the heap may grow), or it stops -/
structure It where
  go : Nat → Hp → Prop
  yld : Nat → Hp → V → Hp → Prop
  stop : Nat → Hp → Prop
/-- the iterator's own objects may turn: they are not the frame's, not pinned, younger than the entry (or a comprehension's own) -/
def FpOk (X : Cx) (pins : List (Addr × Obj)) (H : Hp) (b : Addr) : Prop :=
  H b = none ∧ b ≠ X.env.locals ∧ b ∉ X.fs ∧ (b ∈ X.ex ∨ X.s₀.heap.objs.size ≤ b) ∧ (∀ x c, X.env.cells.lookup x = some c → c ≠ b) ∧ ∀ p ∈ X.pn ++ pins, p.1 ≠ b
theorem Inv.fpOk {X : Cx} {pins : List (Addr × Obj)} {σ : St} {H H' : Hp} {s : Shared} {b : Addr} (I : Inv X pins σ H s) (hb : s.heap.objs.size ≤ b) (hn : H' b = none) : FpOk X pins H' b := by
  refine ⟨hn, Nat.ne_of_gt (Nat.lt_of_lt_of_le I.lt hb), I.nofs hb, .inr (Nat.le_trans I.sz hb), fun x c e z => ?_, fun p hp z => ?_⟩
  · obtain ⟨v, q⟩ := I.cell x c e
    exact absurd (Nat.lt_of_lt_of_le q.lt (by rw [z]; exact hb)) (Nat.lt_irrefl _)
  · exact absurd (Nat.lt_of_lt_of_le (Heap.lt_size (I.pin p hp).1) (by rw [z]; exact hb)) (Nat.lt_irrefl _)
structure Turn (P : Program) (w : World) (K : PySem.W.Frag) (tg : Expr) (J : It) (fp : List Addr) (it : Addr) (tn : Nat → Heap → Prop) : Prop where
  mem : it ∈ fp
  obj : ∀ i h, tn i h → ∀ b ∈ fp, ∃ o, h.get? b = some o ∧ ∀ v, o.data ≠ .cell v
  keep : ∀ i h h', tn i h → (∀ b ∈ fp, ∀ o, h.get? b = some o → h'.get? b = some o) → tn i h'
  item : ∀ (X : Cx), X.prog = P → X.w = w → X.K = K → X.calm = true → ∀ (i : Nat) (pins : List (Addr × Obj)) (s : Shared) (σ : St) (H : Hp) (E : Value → Shared → Prop), Inv X pins σ H s → (∀ b ∈ fp, FpOk X pins H b) → tn i s.heap → J.go i H →
    wpAny (model P w) X.A (pyNext (.ref it)) (fun r s1 => ∃ u, r = some u ∧
      wpAny (model P w) X.A (letOwnedTupleGo tg (.ref it) u) (fun _ s2 => ∃ x H', Inv X pins σ H' s2 ∧ RelV x u ∧ J.yld i H x H' ∧ tn (i + 1) s2.heap ∧ ∀ b ∈ fp, H' b = none) E s1) E s
  done : ∀ (X : Cx), X.prog = P → X.w = w → X.K = K → X.calm = true → ∀ (i : Nat) (pins : List (Addr × Obj)) (s : Shared) (σ : St) (H : Hp) (E : Value → Shared → Prop), Inv X pins σ H s → (∀ b ∈ fp, FpOk X pins H b) → tn i s.heap → J.stop i H →
    wpAny (model P w) X.A (pyNext (.ref it)) (fun r s1 => r = none ∧ Inv X pins σ H s1) E s
  self : ∀ (A : Around) (i : Nat) (s : Shared) (Q : Value → Shared → Prop) (E : Value → Shared → Prop), tn i s.heap → Q (.ref it) s → wpAny (model P w) A (pyIter (.ref it)) Q E s
abbrev TI := St → Hp → (It → Hp → Prop) → Prop
/-- an iterator has come -/
def PIE (X : Cx) (pins : List (Addr × Obj)) (σ : St) (tg : Expr) (R : It → Hp → Prop) (itv : Value) (s2 : Shared) : Prop :=
  ∃ (it : Addr) (fp : List Addr) (tn : Nat → Heap → Prop) (J : It) (H' : Hp), itv = .ref it ∧ Inv X pins σ H' s2 ∧ Turn X.prog X.w X.K tg J fp it tn ∧ tn 0 s2.heap ∧ (∀ b ∈ fp, FpOk X pins H' b) ∧ R J H'
def PI (X : Cx) (tg iter : Expr) (wi : TI) : Prop :=
  ∀ (pins : List (Addr × Obj)) (s : Shared) (σ : St) (H : Hp) (R : It → Hp → Prop), Inv X pins σ H s → wi σ H R →
    wpAny (model X.prog X.w) X.A (eval iter X.env) (fun v s1 => wpAny (model X.prog X.w) X.A (pyIter v) (PIE X pins σ tg R) X.xe s1) X.xe s

/-- the step ahead of the store is nothing for an iterator that keeps no tuple -/
theorem go_of {M : Model} {A : Around} {E : Value → Shared → Prop} {s : Shared} {tg : Expr} {it : Addr} {u : Value} {o : Obj} {n : String} {vs : Array Value} {Q : Unit → Shared → Prop} (ho : s.heap.get? it = some o) (hc : o.cls = .type n) (hd : o.data = .fields vs)
    (hn : ["enumerate", "zip", "dict_itemiterator", "dict_reverseitemiterator", "odict_iterator", "itertools.zip_longest", "itertools.pairwise"].contains n = false) (hQ : Q () s) : wpAny M A (letOwnedTupleGo tg (.ref it) u) Q E s := by
  unfold letOwnedTupleGo
  cases tg <;> first
    | exact wpAny_pure hQ
    | (cases u <;> first
        | exact wpAny_pure hQ
        | (refine wpAny_bind (wpAny_load ho ?_)
           rw [hc, hd]
           show wpAny M A (if (["enumerate", "zip", "dict_itemiterator", "dict_reverseitemiterator", "odict_iterator", "itertools.zip_longest", "itertools.pairwise"].contains n && vs[0]? == some (rawInt _)) = true then _ else _) Q E s
           rw [if_neg (by intro h; rw [hn, Bool.false_and] at h; cases h)]
           exact wpAny_pure hQ))

/-- the list at a, as it stands at each turn (a loop may append to it) -/
def Itl (K : PySem.W.Frag) (a : Addr) : It :=
  ⟨fun i H => ∃ xs x, SqL K H a xs ∧ xs[i]? = some x, fun i H x H' => H' = H ∧ ∀ xs, SqL K H a xs → xs[i]? = some x, fun i H => ∃ xs, SqL K H a xs ∧ xs.length ≤ i⟩
def Itt (K : PySem.W.Frag) (a : Addr) : It :=
  ⟨fun i H => ∃ xs x, SqT K H a xs ∧ xs[i]? = some x, fun i H x H' => H' = H ∧ ∀ xs, SqT K H a xs → xs[i]? = some x, fun i H => ∃ xs, SqT K H a xs ∧ xs.length ≤ i⟩
/-- lo, lo + 1, .. (n of them) -/
def Itr (lo : Int) (n : Nat) : It := ⟨fun i _ => i < n, fun i H x H' => H' = H ∧ x = .int (lo + i), fun i _ => n ≤ i⟩
theorem turn_list {P : Program} {w : World} {K : PySem.W.Frag} {tg : Expr} (a it : Addr) : Turn P w K tg (Itl K a) [it] it (fun i h => h.IsListIter it a i) where
  mem := by simp
  obj := fun i h st b hb => by
    have e : b = it := by simpa using hb
    subst e
    obtain ⟨o, e, c, d⟩ := st
    exact ⟨o, e, fun v z => by rw [d] at z; cases z⟩
  keep := fun i h h' st k => st.at fun o e => k it (by simp) o e
  item := by
    intro X hP hw hK hc i pins s σ H E I hf st hg
    subst hP hw hK
    obtain ⟨xs, x, hq, hx⟩ := hg
    obtain ⟨its, rv, p, hz⟩ := I.list hq
    obtain ⟨u, hu, ru⟩ := rv.get hx
    obtain ⟨f0, f1, f2, f3, f4, f5⟩ := hf it (by simp)
    refine wpAny_pyNext_list_item st p.isList (x := u) (by simpa using hu) fun h' st' sb => ?_
    have I1 : Inv X pins σ H { s with heap := h' } := I.turned (t' := s.toks) (fun b o hb e => (sb.2 b hb).trans e) f0 f1 f3 f4 f5
    obtain ⟨o, e, c, d⟩ := id st'
    exact ⟨u, rfl, go_of (s := { s with heap := h' }) e c d (by decide) ⟨x, H, I1, ru, ⟨rfl, fun ys hy => by rw [I.list_inj hy hq]; exact hx⟩, st', fun b hb => (hf b hb).1⟩⟩
  done := by
    intro X hP hw hK hc i pins s σ H E I hf st hg
    subst hP hw hK
    obtain ⟨xs, hq, hx⟩ := hg
    obtain ⟨its, rv, p, hz⟩ := I.list hq
    obtain ⟨f0, f1, f2, f3, f4, f5⟩ := hf it (by simp)
    have hl := rv.length
    exact wpAny_pyNext_list_end (I.ok.hd hc) st p.isList (by simp; omega) fun h' eb => ⟨rfl, I.turned (t' := s.toks) (fun b o hb e => eb b o hb e) f0 f1 f3 f4 f5⟩
  self := fun _ _ _ _ _ st h => wpAny_pyIter_listiter st h
theorem turn_tuple {P : Program} {w : World} {K : PySem.W.Frag} {tg : Expr} (a it : Addr) : Turn P w K tg (Itt K a) [it] it (fun i h => h.IsTupleIter it a i) where
  mem := by simp
  obj := fun i h st b hb => by
    have e : b = it := by simpa using hb
    subst e
    obtain ⟨o, e, c, d⟩ := st
    exact ⟨o, e, fun v z => by rw [d] at z; cases z⟩
  keep := fun i h h' st k => st.at fun o e => k it (by simp) o e
  item := by
    intro X hP hw hK hc i pins s σ H E I hf st hg
    subst hP hw hK
    obtain ⟨xs, x, hq, hx⟩ := hg
    obtain ⟨its, rv, p, hz⟩ := I.tuple hq
    obtain ⟨u, hu, ru⟩ := rv.get hx
    obtain ⟨f0, f1, f2, f3, f4, f5⟩ := hf it (by simp)
    refine wpAny_pyNext_tuple_item st (show s.heap.IsTuple a its.toArray from p) (x := u) (by simpa using hu) fun h' st' sb => ?_
    have I1 : Inv X pins σ H { s with heap := h' } := I.turned (t' := s.toks) (fun b o hb e => (sb.2 b hb).trans e) f0 f1 f3 f4 f5
    obtain ⟨o, e, c, d⟩ := id st'
    exact ⟨u, rfl, go_of (s := { s with heap := h' }) e c d (by decide) ⟨x, H, I1, ru, ⟨rfl, fun ys hy => by rw [I.tuple_inj hy hq]; exact hx⟩, st', fun b hb => (hf b hb).1⟩⟩
  done := by
    intro X hP hw hK hc i pins s σ H E I hf st hg
    subst hP hw hK
    obtain ⟨xs, hq, hx⟩ := hg
    obtain ⟨its, rv, p, hz⟩ := I.tuple hq
    obtain ⟨f0, f1, f2, f3, f4, f5⟩ := hf it (by simp)
    have hl := rv.length
    exact wpAny_pyNext_tuple_end (I.ok.hd hc) st (show s.heap.IsTuple a its.toArray from p) (by simp; omega) fun h' eb => ⟨rfl, I.turned (t' := s.toks) (fun b o hb e => eb b o hb e) f0 f1 f3 f4 f5⟩
  self := fun _ _ _ _ _ st h => wpAny_pyIter_tupleiter st h
theorem turn_range {P : Program} {w : World} {K : PySem.W.Frag} {tg : Expr} (it : Addr) (lo : Int) (n : Nat) : Turn P w K tg (Itr lo n) [it] it (fun i h => IsRangeIter h it (lo + (i : Nat) * 1) ((n : Int) - (i : Nat)) 1) where
  mem := by simp
  obj := fun i h st b hb => by
    have e : b = it := by simpa using hb
    subst e
    exact ⟨_, st, fun v z => by
      have z' : Data.fields _ = Data.cell v := z
      cases z'⟩
  keep := fun i h h' st k => k it (by simp) _ st
  item := by
    intro X hP hw hK hc i pins s σ H E I hf st hg
    subst hP hw hK
    obtain ⟨f0, f1, f2, f3, f4, f5⟩ := hf it (by simp)
    have W := Walks.range (prog := X.prog) (w := X.w) (I.ok.hd hc) it lo 1 n
    refine W.item i s _ _ hg st fun v h' tk hv st' kk => ?_
    obtain ⟨t, rfl⟩ := hv
    have I1 : Inv X pins σ H { s with heap := h', toks := tk } := I.turned (fun b o hb e => kk b o (by simpa using hb) e) f0 f1 f3 f4 f5
    refine ⟨_, rfl, go_of (s := { s with heap := h', toks := tk }) (n := "range_iterator") st' rfl rfl (by decide) ⟨.int (lo + i), H, I1, ⟨t, ?_⟩, ⟨rfl, rfl⟩, st', fun b hb => (hf b hb).1⟩⟩
    rw [Int.mul_one]
  done := by
    intro X hP hw hK hc i pins s σ H E I hf st hg
    subst hP hw hK
    obtain ⟨f0, f1, f2, f3, f4, f5⟩ := hf it (by simp)
    exact wpAny_pyNext_range_end (I.ok.hd hc) st (by have : n ≤ i := hg; omega) fun h' eb => ⟨rfl, I.turned (t' := s.toks) (fun b o hb e => eb b o hb e) f0 f1 f3 f4 f5⟩
  self := fun _ _ _ _ _ st h => wpAny_pyIter_rangeiter st h
end L2

namespace L2
open PySem PySem.Spec PyProof.Rows
section
variable {X : Cx} {tg : Expr}
def iList (K : PySem.W.Frag) (tl : TE) : TI := fun σ H R => tl σ H fun x H1 => ∃ a, x = .ref a ∧ (∃ xs, SqL K H1 a xs) ∧ R (Itl K a) H1
def iTup (K : PySem.W.Frag) (tl : TE) : TI := fun σ H R => tl σ H fun x H1 => ∃ a, x = .ref a ∧ (∃ xs, SqT K H1 a xs) ∧ R (Itt K a) H1
theorem pi_list {l : Expr} {tl : TE} (hl : PE X l tl) : PI X tg l (iList X.K tl) := by
  intro pins s σ H R I h
  refine thn (hl pins s σ H _ I h) fun v s1 ⟨x, H1, I1, r1, q1⟩ => ?_
  obtain ⟨a, e, ⟨xs, hq⟩, q⟩ := q1
  subst e
  cases r1
  obtain ⟨its, rv, p, hz⟩ := I1.list hq
  refine wpAny_pyIter_list p.isList ?_
  refine ⟨s1.heap.objs.size, [s1.heap.objs.size], _, _, H1, rfl, I1.kept (t' := s1.toks) fun b o e => Heap.get?_push_of_some _ e, turn_list a _, ⟨_, Heap.get?_push_size _ rfl, rfl, rfl⟩, fun b hb => ?_, q⟩
  have e : b = s1.heap.objs.size := by simpa using hb
  subst e
  exact I1.fpOk (Nat.le_refl _) (I1.hok.fresh (Nat.le_refl _))
theorem pi_tup {l : Expr} {tl : TE} (hl : PE X l tl) : PI X tg l (iTup X.K tl) := by
  intro pins s σ H R I h
  refine thn (hl pins s σ H _ I h) fun v s1 ⟨x, H1, I1, r1, q1⟩ => ?_
  obtain ⟨a, e, ⟨xs, hq⟩, q⟩ := q1
  subst e
  cases r1
  obtain ⟨its, rv, p, hz⟩ := I1.tuple hq
  refine wpAny_pyIter_tuple (show s1.heap.IsTuple a its.toArray from p) ?_
  refine ⟨s1.heap.objs.size, [s1.heap.objs.size], _, _, H1, rfl, I1.kept (t' := s1.toks) fun b o e => Heap.get?_push_of_some _ e, turn_tuple a _, ⟨_, Heap.get?_push_size _ rfl, rfl, rfl⟩, fun b hb => ?_, q⟩
  have e : b = s1.heap.objs.size := by simpa using hb
  subst e
  exact I1.fpOk (Nat.le_refl _) (I1.hok.fresh (Nat.le_refl _))
/-- a range object just made, walked -/
theorem range_it {pins : List (Addr × Obj)} {σ : St} {H : Hp} {s : Shared} {R : It → Hp → Prop} {E : Value → Shared → Prop} {lo hi : Int} {t u v : Tok} {tk : Nat} (I : Inv X pins σ H s) (h1 : -(2 ^ 62) ≤ lo) (h2 : lo < 2 ^ 62) (h3 : -(2 ^ 62) ≤ hi) (h4 : hi < 2 ^ 62)
    (q : R (Itr lo (hi - lo).toNat) H) : wpAny (model X.prog X.w) X.A (pyIter (.ref s.heap.objs.size)) (PIE X pins σ tg R) E { s with heap := s.heap.push { cls := .type "range", data := .fields #[.int lo t, .int hi u, .int 1 v] }, toks := tk } := by
  refine wpAny_pyIter_range (IsRange.new ..) (small_one h1 h2 h3 h4) ?_
  have I1 : Inv X pins σ H { s with heap := s.heap.push { cls := .type "range", data := .fields #[.int lo t, .int hi u, .int 1 v] }, toks := tk } := I.kept fun b o e => Heap.get?_push_of_some _ e
  refine ⟨(s.heap.push { cls := .type "range", data := .fields #[.int lo t, .int hi u, .int 1 v] }).objs.size, [(s.heap.push { cls := .type "range", data := .fields #[.int lo t, .int hi u, .int 1 v] }).objs.size], _, _, H, rfl,
    I1.kept (t' := tk) fun b o e => Heap.get?_push_of_some _ e, turn_range _ lo (hi - lo).toNat, ?_, fun b hb => ?_, q⟩
  · have e1 : lo + ((0 : Nat) : Int) * 1 = lo := by simp
    have e2 : (((hi - lo).toNat : Nat) : Int) - ((0 : Nat) : Int) = Builtin.Range.rangeSize lo hi 1 := by rw [rangeSize_one]; split <;> omega
    show IsRangeIter _ _ (lo + ((0 : Nat) : Int) * 1) ((((hi - lo).toNat : Nat) : Int) - ((0 : Nat) : Int)) 1
    rw [e1, e2]
    exact Heap.get?_push_size _ rfl
  · have e : b = (s.heap.push { cls := .type "range", data := .fields #[.int lo t, .int hi u, .int 1 v] }).objs.size := by simpa using hb
    subst e
    exact I1.fpOk (Nat.le_refl _) (I1.hok.fresh (Nat.le_refl _))
def iRng1 (ta : TA) : TI := fun σ H R => ta σ H fun vs H1 => ∃ j : Int, vs = [.int j] ∧ -(2 ^ 62) ≤ j ∧ j < 2 ^ 62 ∧ R (Itr 0 j.toNat) H1
def iRng2 (ta : TA) : TI := fun σ H R => ta σ H fun vs H1 => ∃ i j : Int, vs = [.int i, .int j] ∧ (-(2 ^ 62) ≤ i ∧ i < 2 ^ 62 ∧ -(2 ^ 62) ≤ j ∧ j < 2 ^ 62) ∧ R (Itr i (j - i).toNat) H1
theorem pi_range1 {a : Expr} {ta : TA} {p pos : Pos} (hg : Gl X "range") (hm : X.mg "range" = none) (ha : PA X [a] ta) (hs : starEach [a] X.env = [(false, eval a X.env)] := by rfl) : PI X tg (.Call (.Name "range" p) [a] [] pos) (iRng1 ta) := by
  intro pins s σ H R I h
  refine Call_ (ld_blt I hg hm boot_range (PyProof.Rows.callWith_type1 (thn (ha pos pins s σ H _ I h) fun us s1 ⟨vs, H1, I1, r1, q1⟩ => ?_) hs rfl))
  obtain ⟨j, e, q1, q2, q⟩ := q1
  subst e
  cases r1 with
  | cons r rr =>
    cases rr
    obtain ⟨t, rfl⟩ := r
    exact call_range_1 (range_it I1 (by omega) (by omega) q1 q2 (by simpa using q))
theorem pi_range2 {a b : Expr} {ta : TA} {p pos : Pos} (hg : Gl X "range") (hm : X.mg "range" = none) (ha : PA X [a, b] ta) (hs : starEach [a, b] X.env = [(false, eval a X.env), (false, eval b X.env)] := by rfl) (hs2 : starEach [b] X.env = [(false, eval b X.env)] := by rfl) :
    PI X tg (.Call (.Name "range" p) [a, b] [] pos) (iRng2 ta) := by
  intro pins s σ H R I h
  refine Call_ (ld_blt I hg hm boot_range (PyProof.Rows.callWith_type1 (thn (ha pos pins s σ H _ I h) fun us s1 ⟨vs, H1, I1, r1, q1⟩ => ?_) (by rw [hs, hs2]) (by rw [hs2]; rfl)))
  obtain ⟨i, j, e, ⟨q1, q2, q3, q4⟩, q⟩ := q1
  subst e
  cases r1 with
  | cons r rr =>
    cases rr with
    | cons r' rr =>
      cases rr
      obtain ⟨t, rfl⟩ := r
      obtain ⟨t', rfl⟩ := r'
      exact call_range_2 (range_it I1 q1 q2 q3 q4 q)

/-! ### for -/
/-- W: the invariant by the turn and a measure; N: what the body is to reach -/
def tFor (wi : TI) (g : TG) (tb : TS) : TS := fun D σ H => wi σ H fun J H1 => ∃ W : Nat → Nat → St → Hp → Prop, (∃ m, W 0 m σ H1) ∧ ∀ i m σ H, W i m σ H →
  (J.stop i H ∧ D.nx σ H) ∨ (J.go i H ∧ ∃ N : St → Hp → Prop, (∀ σ' H', N σ' H' → ∃ m', m' < m ∧ W (i + 1) m' σ' H') ∧ ∀ x H', J.yld i H x H' → g x σ H' fun σ2 H2 => tb { D with nx := N, ct := N, bk := D.nx } σ2 H2)
/-- the records at fp as they stand -/
def pinsAt (fp : List Addr) (h : Heap) : List (Addr × Obj) := fp.filterMap fun b => (h.get? b).map fun o => (b, o)
theorem mem_pinsAt {fp : List Addr} {h : Heap} {b : Addr} {o : Obj} (hb : b ∈ fp) (e : h.get? b = some o) : (b, o) ∈ pinsAt fp h := List.mem_filterMap.mpr ⟨b, hb, by rw [e]; rfl⟩
theorem of_pinsAt {fp : List Addr} {h : Heap} {p : Addr × Obj} (hp : p ∈ pinsAt fp h) : p.1 ∈ fp ∧ h.get? p.1 = some p.2 := by
  obtain ⟨b, hb, e⟩ := List.mem_filterMap.mp hp
  cases q : h.get? b with
  | none => rw [q] at e; cases e
  | some o =>
    rw [q] at e
    have e' : (b, o) = p := Option.some.inj e
    subst e'
    exact ⟨hb, q⟩
theorem Inv.pinned {pins : List (Addr × Obj)} {σ : St} {H : Hp} {s : Shared} {fp : List Addr} (I : Inv X pins σ H s) (hf : ∀ b ∈ fp, FpOk X pins H b) (ho : ∀ b ∈ fp, ∃ o, s.heap.get? b = some o ∧ ∀ v, o.data ≠ .cell v) : Inv X (pins ++ pinsAt fp s.heap) σ H s :=
  I.pins_of fun p hp => (List.mem_append.mp hp).elim (fun z => I.pin p (List.mem_append_right _ z)) fun z => by
    obtain ⟨hb, e⟩ := of_pinsAt z
    obtain ⟨f0, f1, f2, _⟩ := hf p.1 hb
    obtain ⟨o, e', d⟩ := ho p.1 hb
    rw [e] at e'; cases e'
    exact ⟨e, f0, f1, f2, d⟩
theorem Inv.unpinned {pins pl : List (Addr × Obj)} {σ : St} {H : Hp} {s : Shared} (I : Inv X (pins ++ pl) σ H s) : Inv X pins σ H s := I.pins_of fun p hp => I.pin p (List.mem_append_right _ (List.mem_append_left _ hp))
theorem ps_for {iter : Expr} {body : List Stmt} {wi : TI} {g : TG} {tb : TS} {pos : Pos} (hp : PassesOwn (model X.prog X.w) X.A X.env X.xe) (hc : X.calm = true) (hi : PI X tg iter wi) (hg : PG X tg g) (hb : PSs X body tb)
    (hs : ∀ x, foldedSetIterable iter X.env x = pure x := by intro _; rfl) : PS X (.For tg iter body [] pos) (tFor wi g tb) := by
  intro pins s σ H D I h
  refine wpAny_For (thn (hi pins s σ H _ I h) fun v s1 h1 => thn h1 fun itv s2 h2 => ?_) hs
  obtain ⟨it, fp, tn, J, H2, e, I2, T, st2, f2, W, ⟨m0, w0⟩, turn⟩ := h2
  subst e
  -- what stays true of the iterator's objects through the loop
  have stat : ∀ {H' : Hp}, (∀ b ∈ fp, H' b = none) → ∀ b ∈ fp, FpOk X pins H' b := fun hn b hb => ⟨hn b hb, (f2 b hb).2⟩
  refine codeAny_forLoop_any (fun n s' => ∃ i σ' H', Inv X pins σ' H' s' ∧ tn i s'.heap ∧ (∀ b ∈ fp, H' b = none) ∧ W i n σ' H') ?_ m0 ⟨0, σ, H2, I2, st2, fun b hb => (f2 b hb).1, w0⟩
  rintro n s3 ⟨i, σ3, H3, I3, st3, fr3, w3⟩
  rcases turn i n σ3 H3 w3 with ⟨stop, qn⟩ | ⟨go, N, hN, step⟩
  · refine wpAny_passesOwn hp (thn (T.done X rfl rfl rfl hc i pins s3 σ3 H3 X.xe I3 (stat fr3) st3 stop) fun r s4 ⟨hr, I4⟩ => ?_)
    subst hr
    exact wpAny_execs_nil ⟨σ3, H3, I4, qn⟩
  · refine wpAny_passesOwn hp (thn (T.item X rfl rfl rfl hc i pins s3 σ3 H3 X.xe I3 (stat fr3) st3 go) fun r s4 ⟨u, hr, h4⟩ => ?_)
    subst hr
    refine wpAny_passesOwn hp (thn h4 fun _ s5 ⟨x, H5, I5, r5, y5, st5, fr5⟩ => ?_)
    have I5' := I5.pinned (stat fr5) (T.obj _ _ st5)
    refine wpAny_passesOwn hp (thn (hg _ s5 σ3 H5 x u _ I5' r5 (step x H5 y5)) fun _ s6 ⟨σ6, H6, I6, q6⟩ => ?_)
    refine wpAny_passesOwn hp (thn (hb _ s6 σ6 H6 _ I6 q6) fun f s7 q7 => ?_)
    have again : ∀ {σ7 : St} {H7 : Hp}, Inv X (pins ++ pinsAt fp s5.heap) σ7 H7 s7 → N σ7 H7 → ∃ m, m < n ∧ ∃ i σ' H', Inv X pins σ' H' s7 ∧ tn i s7.heap ∧ (∀ b ∈ fp, H' b = none) ∧ W i m σ' H' := fun {σ7 H7} I7 n7 => by
      obtain ⟨m', hm, w7⟩ := hN σ7 H7 n7
      refine ⟨m', hm, i + 1, σ7, H7, I7.unpinned, T.keep _ _ _ st5 fun b hb o e => (I7.pin (b, o) (List.mem_append_right _ (List.mem_append_right _ (mem_pinsAt hb e)))).1, fun b hb => ?_, w7⟩
      obtain ⟨o, e, d⟩ := T.obj _ _ st5 b hb
      exact (I7.pin (b, o) (List.mem_append_right _ (List.mem_append_right _ (mem_pinsAt hb e)))).2.1
    cases f with
    | next => obtain ⟨σ7, H7, I7, n7⟩ := q7; exact again I7 n7
    | cont => obtain ⟨σ7, H7, I7, n7⟩ := q7; exact again I7 n7
    | brk => obtain ⟨σ7, H7, I7, q7⟩ := q7; exact ⟨σ7, H7, I7.unpinned, q7⟩
    | ret v => obtain ⟨x7, σ7, H7, I7, r7, q7⟩ := q7; exact ⟨x7, σ7, H7, I7.unpinned, r7, q7⟩
end

/-! ### the forms one uses -/
end L2

namespace L2
open PySem PySem.Spec PyProof.Rows

abbrev R2 := V → V → Hp → VK → Prop
/-- a two-place operation on values: f is binaryOp op, inplaceOp op or compareOp op -/
def OpR (X : Cx) (f : Value → Value → Sem Value) (r : R2) : Prop :=
  ∀ (pins : List (Addr × Obj)) (s : Shared) (σ : St) (H : Hp) (x y : V) (v u : Value) (Q : VK), Inv X pins σ H s → RelV x v → RelV y u → r x y H Q →
    wpAny (model X.prog X.w) X.A (f v u) (EP X pins σ Q) X.xe s
/-- a one-place operation -/
def UnR (X : Cx) (f : Value → Sem Value) (r : V → Hp → VK → Prop) : Prop :=
  ∀ (pins : List (Addr × Obj)) (s : Shared) (σ : St) (H : Hp) (x : V) (v : Value) (Q : VK), Inv X pins σ H s → RelV x v → r x H Q →
    wpAny (model X.prog X.w) X.A (f v) (EP X pins σ Q) X.xe s
/-- a call of a value that is known (a builtin, a type) with values -/
def CallR (X : Cx) (f : Value) (r : List V → Hp → VK → Prop) : Prop :=
  ∀ (pins : List (Addr × Obj)) (s : Shared) (σ : St) (H : Hp) (xs : List V) (us : List Value) (Q : VK), Inv X pins σ H s → Vals xs us → r xs H Q →
    wpAny (model X.prog X.w) X.A (call f us) (EP X pins σ Q) X.xe s
/-- a value's truth -/
def TruR (X : Cx) (r : V → Hp → (Bool → Hp → Prop) → Prop) : Prop :=
  ∀ (pins : List (Addr × Obj)) (s : Shared) (σ : St) (H : Hp) (x : V) (v : Value) (Q : Bool → Hp → Prop), Inv X pins σ H s → RelV x v → r x H Q →
    wpAny (model X.prog X.w) X.A (truthy v) (TP X pins σ Q) X.xe s

def tOp (r : R2) (ta tb : TE) : TE := fun σ H Q => ta σ H fun x H1 => tb σ H1 fun y H2 => r x y H2 Q
def tUn (r : V → Hp → VK → Prop) (ta : TE) : TE := fun σ H Q => ta σ H fun x H1 => r x H1 Q
/-- ints in, under C, and a value out -/
def rI (C : Int → Int → Prop) (g : Int → Int → V) : R2 := fun x y H Q => ∃ i j, x = .int i ∧ y = .int j ∧ C i j ∧ Q (g i j) H
def rI0 (g : Int → Int → V) : R2 := fun x y H Q => ∃ i j, x = .int i ∧ y = .int j ∧ Q (g i j) H
def rU (g : Int → V) : V → Hp → VK → Prop := fun x H Q => ∃ i, x = .int i ∧ Q (g i) H

section
variable {X : Cx} {a b c : Expr} {ta tb tc : TE} {pos : Pos}

theorem binT (ha : PE X a ta) (hb : PE X b tb) {pins : List (Addr × Obj)} {s : Shared} {σ : St} {H : Hp} {R : V → V → Hp → Prop} (I : Inv X pins σ H s)
    (h : ta σ H fun x H1 => tb σ H1 fun y H2 => R x y H2) {Q : Value → Shared → Prop} {f : Value → Value → Sem Value}
    (hf : ∀ v u s2 x y H2, Inv X pins σ H2 s2 → RelV x v → RelV y u → R x y H2 → wpAny (model X.prog X.w) X.A (f v u) Q X.xe s2) :
    wpAny (model X.prog X.w) X.A (eval a X.env) (fun v s₁ => wpAny (model X.prog X.w) X.A (eval b X.env) (fun u s₂ => wpAny (model X.prog X.w) X.A (f v u) Q X.xe s₂) X.xe s₁) X.xe s := by
  refine thn (ha pins s σ H _ I h) fun v s1 ⟨x, H1, I1, r1, q1⟩ => ?_
  refine thn (hb pins s1 σ H1 _ I1 q1) fun u s2 ⟨y, H2, I2, r2, q2⟩ => ?_
  exact hf v u s2 x y H2 I2 r1 r2 q2

theorem pe_op {op : Operator} {r : R2} (ho : OpR X (binaryOp op) r) (ha : PE X a ta) (hb : PE X b tb) : PE X (.BinOp a op b pos) (tOp r ta tb) := by
  intro pins s σ H Q I h
  exact wpAny_BinOp (binT ha hb I h fun v u s2 x y H2 I2 rx ry q => ho pins s2 σ H2 x y v u Q I2 rx ry q)
theorem pe_un {op : UnaryOp} {r : V → Hp → VK → Prop} (ho : UnR X (unaryOp op) r) (ha : PE X a ta) : PE X (.UnaryOp op a pos) (tUn r ta) := by
  intro pins s σ H Q I h
  exact UnaryOp_ (thn (ha pins s σ H _ I h) fun v s1 ⟨x, H1, I1, r1, q1⟩ => ho pins s1 σ H1 x v Q I1 r1 q1)
/-! ### ints -/
theorem opI {f : Value → Value → Sem Value} {C : Int → Int → Prop} {g : Int → Int → Int}
    (rule : ∀ (i j : Int) (t u : Tok) (s : Shared) (Q : Value → Shared → Prop) (E : Value → Shared → Prop), C i j → Q (.int (g i j) s.toks) { s with toks := s.toks + 1 } → wpAny (model X.prog X.w) X.A (f (.int i t) (.int j u)) Q E s) :
    OpR X f (rI C fun i j => .int (g i j)) := by
  intro pins s σ H x y v u Q I rx ry h
  obtain ⟨i, j, rfl, rfl, hc, q⟩ := h
  obtain ⟨t, rfl⟩ := rx
  obtain ⟨t', rfl⟩ := ry
  exact rule i j t t' s _ _ hc ⟨.int (g i j), H, I.tok _, ⟨_, rfl⟩, q⟩
theorem opI0 {f : Value → Value → Sem Value} {g : Int → Int → Int}
    (rule : ∀ (i j : Int) (t u : Tok) (s : Shared) (Q : Value → Shared → Prop) (E : Value → Shared → Prop), Q (.int (g i j) s.toks) { s with toks := s.toks + 1 } → wpAny (model X.prog X.w) X.A (f (.int i t) (.int j u)) Q E s) :
    OpR X f (rI0 fun i j => .int (g i j)) := by
  intro pins s σ H x y v u Q I rx ry h
  obtain ⟨i, j, rfl, rfl, q⟩ := h
  obtain ⟨t, rfl⟩ := rx
  obtain ⟨t', rfl⟩ := ry
  exact rule i j t t' s _ _ ⟨.int (g i j), H, I.tok _, ⟨_, rfl⟩, q⟩
theorem opB0 {f : Value → Value → Sem Value} {g : Int → Int → Bool}
    (rule : ∀ (i j : Int) (t u : Tok) (s : Shared) (Q : Value → Shared → Prop) (E : Value → Shared → Prop), Q (.bool (g i j)) s → wpAny (model X.prog X.w) X.A (f (.int i t) (.int j u)) Q E s) :
    OpR X f (rI0 fun i j => .bl (g i j)) := by
  intro pins s σ H x y v u Q I rx ry h
  obtain ⟨i, j, rfl, rfl, q⟩ := h
  obtain ⟨t, rfl⟩ := rx
  obtain ⟨t', rfl⟩ := ry
  exact rule i j t t' s _ _ ⟨.bl (g i j), H, I, rfl, q⟩

def CPow (i j : Int) : Prop := 0 ≤ j ∧ j ≤ 1000000 ∧ i.natAbs < 2 ^ 64
def CMul (i j : Int) : Prop := (-(2 ^ 64) < i ∧ i < 2 ^ 64) ∨ (-(2 ^ 64) < j ∧ j < 2 ^ 64)
theorem CMul.ok {i j : Int} (h : CMul i j) : IntMulOk i j := by
  rcases h with ⟨h1, h2⟩ | ⟨h1, h2⟩
  · exact .of_left (intBits_le_64 h1 h2)
  · exact .of_right (intBits_le_64 h1 h2)
theorem op_add : OpR X (binaryOp .Add) (rI0 fun i j => .int (i + j)) := opI0 fun _ _ _ _ _ _ _ q => add_int q
theorem op_sub : OpR X (binaryOp .Sub) (rI0 fun i j => .int (i - j)) := opI0 fun _ _ _ _ _ _ _ q => sub_int q
/-- % by a positive divisor of any size -/
theorem op_mod : OpR X (binaryOp .Mod) (rI (fun _ j => 0 < j) fun i j => .int (i % j)) := opI fun i j _ _ _ _ _ hc q => by
  have h1 : (0 : Int) < j := hc
  exact mod_int' (by omega) (by rw [Int.fmod_eq_emod_of_nonneg i (by omega)]; exact q)
theorem op_pow : OpR X (binaryOp .Pow) (rI CPow fun i j => .int (i ^ j.toNat)) := opI fun _ _ _ _ _ _ _ hc q => pow_int_small hc.1 hc.2.1 hc.2.2 q
theorem unI {f : Value → Sem Value} {g : Int → Int}
    (rule : ∀ (i : Int) (t : Tok) (s : Shared) (Q : Value → Shared → Prop) (E : Value → Shared → Prop), Q (.int (g i) s.toks) { s with toks := s.toks + 1 } → wpAny (model X.prog X.w) X.A (f (.int i t)) Q E s) :
    UnR X f (rU fun i => .int (g i)) := by
  intro pins s σ H x v Q I rx h
  obtain ⟨i, rfl, q⟩ := h
  obtain ⟨t, rfl⟩ := rx
  exact rule i t s _ _ ⟨.int (g i), H, I.tok _, ⟨_, rfl⟩, q⟩
theorem un_neg : UnR X (unaryOp .USub) (rU fun i => .int (-i)) := unI fun _ _ _ _ _ q => neg_int q
/-! ### bools among ints: n += (a < b) -/
end

/-! ### comparisons -/
section
variable {X : Cx} {a b c : Expr} {ta tb tc : TE} {pos : Pos}
theorem op_lt : OpR X (compareOp .Lt) (rI0 fun i j => .bl (decide (i < j))) := opB0 fun _ _ _ _ _ _ _ q => lt_int q
theorem op_gt : OpR X (compareOp .Gt) (rI0 fun i j => .bl (decide (j < i))) := opB0 fun _ _ _ _ _ _ _ q => gt_int q
theorem op_ge : OpR X (compareOp .GtE) (rI0 fun i j => .bl (decide (j ≤ i))) := opB0 fun _ _ _ _ _ _ _ q => ge_int q
/-- two rules for one operation: by cases -/
theorem OpR.or {f : Value → Value → Sem Value} {r r' : R2} (h : OpR X f r) (h' : OpR X f r') : OpR X f (fun x y H Q => r x y H Q ∨ r' x y H Q) := by
  intro pins s σ H x y v u Q I rx ry q
  rcases q with q | q
  · exact h pins s σ H x y v u Q I rx ry q
  · exact h' pins s σ H x y v u Q I rx ry q

theorem nomark (b : Expr) {op : CmpOp} (h : op ≠ .In := by decide) (h2 : op ≠ .NotIn := by decide) : behindInMarks op b = false := by
  have e1 : (op == CmpOp.In) = false := by cases op <;> first | rfl | exact absurd rfl h
  have e2 : (op == CmpOp.NotIn) = false := by cases op <;> first | rfl | exact absurd rfl h2
  cases b <;> simp [behindInMarks, e1, e2]
/-- a comparison as a value; hm: nomark b, or (for in, not in) by with_unfolding_all rfl -/
theorem pe_cmpR {op : CmpOp} {r : R2} (ho : OpR X (compareOp op) r) (ha : PE X a ta) (hb : PE X b tb) (hm : behindInMarks op b = false) : PE X (.Compare a [op] [b] pos) (tOp r ta tb) := by
  intro pins s σ H Q I h
  exact wpAny_Compare1 (binT ha hb I h fun v u s2 x y H2 I2 rx ry q => ho pins s2 σ H2 x y v u Q I2 rx ry q) hm
/-- a reading of a value as a test -/
def tTest (t : TE) : TT := fun σ H Q => t σ H fun x H' => ∃ k, x = .bl k ∧ Q k H'
theorem pt_cmpR {op : CmpOp} {r : R2} (ho : OpR X (compareOp op) r) (ha : PE X a ta) (hb : PE X b tb) (hm : behindInMarks op b = false) : PT X (.Compare a [op] [b] pos) (tTest (tOp r ta tb)) := by
  intro pins s σ H Q I h
  refine wpAny_isTrue_Compare1 (thn (ha pins s σ H _ I h) fun v s1 ⟨x, H1, I1, r1, q1⟩ => thn (hb pins s1 σ H1 _ I1 q1) fun u s2 ⟨y, H2, I2, r2, q2⟩ =>
    thn (ho pins s2 σ H2 x y v u _ I2 r1 r2 q2) fun c s3 ⟨z, H3, I3, r3, k, e, q3⟩ => ?_) hm
  subst e
  cases r3
  exact wpAny_truthy_bool ⟨H3, I3, q3⟩
/-- a op1 b op2 c -/
def tChain (r r' : R2) (ta tb tc : TE) : TE := fun σ H Q => ta σ H fun x H1 => tb σ H1 fun y H2 => r x y H2 fun z H3 => ∃ k, z = .bl k ∧
  (if k = true then tc σ H3 fun w' H4 => r' y w' H4 Q else Q (.bl false) H3)
theorem pe_chain {op op' : CmpOp} {r r' : R2} (ho : OpR X (compareOp op) r) (ho' : OpR X (compareOp op') r') (ha : PE X a ta) (hb : PE X b tb) (hc : PE X c tc)
    (hm : lastMarks [op, op'] [b, c] = false := by with_unfolding_all rfl) : PE X (.Compare a [op, op'] [b, c] pos) (tChain r r' ta tb tc) := by
  intro pins s σ H Q I h
  refine Compare_chain (thn (ha pins s σ H _ I h) fun v s1 ⟨x, H1, I1, r1, q1⟩ => chain_link (thn (hb pins s1 σ H1 _ I1 q1) fun u s2 ⟨y, H2, I2, r2, q2⟩ =>
    thn (ho pins s2 σ H2 x y v u _ I2 r1 r2 q2) fun d s3 ⟨z, H3, I3, r3, k, e, q3⟩ => ?_)) hm
  subst e
  cases r3
  refine wpAny_truthy_bool ?_
  cases k with
  | false => exact ite_ff ⟨.bl false, H3, I3, rfl, q3⟩
  | true => exact ite_tt (chain_last (thn (hc pins s3 σ H3 _ I3 q3) fun w' s4 ⟨z', H4, I4, r4, q4⟩ => ho' pins s4 σ H4 y z' u w' Q I4 r2 r4 q4))
/-! ### truth -/
/-- a value's truth by the abstract heap -/
def TruV (K : PySem.W.Frag) (x : V) (H : Hp) (k : Bool) : Prop :=
  match x with
  | .non => k = false
  | .bl b => k = b
  | .int i => k = (i != 0)
  | .str y => y.length ≤ sizeLine ∧ k = ((y.length : Int) != 0)
  | .byt y => y.size ≤ sizeLine ∧ k = ((y.size : Int) != 0)
  | .ref p => (∃ xs, SqL K H p xs ∧ k = !xs.isEmpty) ∨ (∃ xs, SqT K H p xs ∧ k = !xs.isEmpty) ∨ ∃ kvs, H p = some (.dK kvs) ∧ k = !kvs.isEmpty
  | _ => False
theorem isEmpty_kv {κ : Type} {kvs : List (κ × V)} {vs : List (κ × Value)} (r : KV kvs vs) : (!vs.isEmpty) = !kvs.isEmpty := by
  cases r <;> rfl
theorem isEmpty_of {xs : List V} {its : List Value} (r : Vals xs its) : (!its.toArray.isEmpty) = !xs.isEmpty := by
  cases r <;> simp
theorem line63 : (sizeLine : Nat) < 2 ^ 63 := by rw [sizeLine_eq]; decide
theorem tru_ok : TruR X (fun x H Q => ∃ k, TruV X.K x H k ∧ Q k H) := by
  intro pins s σ H x v Q I rx h
  obtain ⟨k, e, q⟩ := h
  have hl := line63
  have hs : sizeLine = 16777216 := sizeLine_eq
  cases x with
  | non =>
    cases rx
    have e' : k = false := e
    subst e'
    exact truthy_none ⟨H, I, q⟩
  | bl b =>
    cases rx
    have e' : k = b := e
    subst e'
    exact wpAny_truthy_bool ⟨H, I, q⟩
  | int i =>
    obtain ⟨t, rfl⟩ := rx
    have e' : k = (i != 0) := e
    subst e'
    exact PySem.P.truthy_int ⟨H, I, q⟩
  | str y =>
    obtain ⟨t, rfl⟩ := rx
    obtain ⟨hy, e'⟩ : y.length ≤ sizeLine ∧ k = ((y.length : Int) != 0) := e
    subst e'
    exact PySem.P.truthy_str (by omega) ⟨H, I.tok _, q⟩
  | byt y =>
    obtain ⟨t, rfl⟩ := rx
    obtain ⟨hy, e'⟩ : y.size ≤ sizeLine ∧ k = ((y.size : Int) != 0) := e
    subst e'
    exact PySem.W.truthy_bytes (by omega) ⟨H, I.tok _, q⟩
  | ref p =>
    cases rx
    have e' : (∃ xs, SqL X.K H p xs ∧ k = !xs.isEmpty) ∨ (∃ xs, SqT X.K H p xs ∧ k = !xs.isEmpty) ∨ ∃ kvs, H p = some (.dK kvs) ∧ k = !kvs.isEmpty := e
    rcases e' with ⟨xs, hx, e'⟩ | ⟨xs, hx, e'⟩ | ⟨kvs, hx, e'⟩
    · subst e'
      obtain ⟨its, r, pl, hz⟩ := I.list hx
      have hlen := r.length
      exact wpAny_truthy_list pl.isList (by simp only [List.size_toArray]; omega) ⟨H, I.tok _, by rw [isEmpty_of r]; exact q⟩
    · subst e'
      obtain ⟨its, r, pl, hz⟩ := I.tuple hx
      have hlen := r.length
      exact truthy_tuple pl (by simp only [List.size_toArray]; omega) ⟨H, I.tok _, by rw [isEmpty_of r]; exact q⟩
    · subst e'
      obtain ⟨hz, hS, vs, r, m⟩ : kvs.length ≤ sizeLine ∧ (p == sysModules) = false ∧ ∃ vs, KV kvs vs ∧ s.heap.DictOf (mixKind X.prog X.w) p vs := I.hok p _ hx
      have hlen : kvs.length = vs.length := Paired.length r
      exact wpAny_truthy_dict hS m (by omega) ⟨H, I.tok _, by rw [isEmpty_kv r]; exact q⟩
  | _ => exact (show False from e).elim
/-- any expression whose test is its value's truth (a name, a call, a subscript, a field ..: he by fun _ => rfl) -/
theorem pt_truth (ha : PE X a ta) (he : ∀ whole, isTrue a X.env whole = (do let v ← whole; standAt a.pos; holding [v] (truthy v))) :
    PT X a (fun σ H Q => ta σ H fun x H' => ∃ k, TruV X.K x H' k ∧ Q k H') := by
  intro pins s σ H Q I h
  exact isTrue_plain (thn (ha pins s σ H _ I h) fun v s1 ⟨x, H1, I1, r1, q1⟩ => tru_ok pins s1 σ H1 x v Q I1 r1 q1) (he _)

/-! ### strs and bytes -/
/-! ### scalar builtins, by CallR -/
theorem vals1 {x : V} {us : List Value} (r : Vals [x] us) : ∃ u, us = [u] ∧ RelV x u := by
  cases r with
  | cons r1 r2 => cases r2; exact ⟨_, rfl, r1⟩
theorem vals2 {x y : V} {us : List Value} (r : Vals [x, y] us) : ∃ u w', us = [u, w'] ∧ RelV x u ∧ RelV y w' := by
  cases r with
  | cons r1 r2 =>
    cases r2 with
    | cons r3 r4 => cases r4; exact ⟨_, _, rfl, r1, r3⟩
theorem call_abs : CallR X (.builtin "abs") (fun xs H Q => ∃ i, xs = [.int i] ∧ Q (.int (if i < 0 then -i else i)) H) := by
  intro pins s σ H xs us Q I r h
  obtain ⟨i, rfl, q⟩ := h
  obtain ⟨u, rfl, t, rfl⟩ := vals1 r
  exact call_abs_int fun u tk => ⟨.int (if i < 0 then -i else i), H, I.tok _, ⟨_, rfl⟩, q⟩
theorem call_max2 (hc : X.calm = true) : CallR X (.builtin "max") (fun xs H Q => ∃ i j, xs = [.int i, .int j] ∧ Q (.int (if j > i then j else i)) H) := by
  intro pins s σ H xs us Q I r h
  obtain ⟨i, j, rfl, q⟩ := h
  obtain ⟨u, w', rfl, ⟨t, rfl⟩, ⟨t', rfl⟩⟩ := vals2 r
  refine max_two_ints (I.ok.hd hc) fun h' tk k => ⟨_, H, I.kept k, ?_, q⟩
  by_cases hj : j > i
  · rw [if_pos hj, if_pos hj]; exact ⟨_, rfl⟩
  · rw [if_neg hj, if_neg hj]; exact ⟨_, rfl⟩
theorem call_min2 (hc : X.calm = true) : CallR X (.builtin "min") (fun xs H Q => ∃ i j, xs = [.int i, .int j] ∧ Q (.int (if j < i then j else i)) H) := by
  intro pins s σ H xs us Q I r h
  obtain ⟨i, j, rfl, q⟩ := h
  obtain ⟨u, w', rfl, ⟨t, rfl⟩, ⟨t', rfl⟩⟩ := vals2 r
  refine min_two_ints (I.ok.hd hc) fun h' tk k => ⟨_, H, I.kept k, ?_, q⟩
  by_cases hj : j < i
  · rw [if_pos hj, if_pos hj]; exact ⟨_, rfl⟩
  · rw [if_neg hj, if_neg hj]; exact ⟨_, rfl⟩
theorem call_int1 : CallR X (.type "int") (fun xs H Q => (∃ i, xs = [.int i] ∧ Q (.int i) H) ∨ ∃ k, xs = [.bl k] ∧ Q (.int (if k then 1 else 0)) H) := by
  intro pins s σ H xs us Q I r h
  rcases h with ⟨i, rfl, q⟩ | ⟨k, rfl, q⟩
  · obtain ⟨u, rfl, t, rfl⟩ := vals1 r
    exact call_int_int ⟨.int i, H, I, ⟨_, rfl⟩, q⟩
  · obtain ⟨u, rfl, r1⟩ := vals1 r
    cases r1
    exact call_int_bool ⟨.int (if k then 1 else 0), H, I.tok _, ⟨_, rfl⟩, q⟩
end
end L2

namespace L2
open PySem PySem.Spec PyProof.Rows

/-! ### an instance, its attributes a map -/
structure ObjM (h : Heap) (x dx C : Addr) (mA : Str → Option Value) : Prop where
  obj : h.get? x = some (PySem.W.instObj C dx)
  ns : h.Ns1 dx mA
  ne : dx ≠ x

section
variable {prog : Program} {w : World} {A : Around} {E : Value → Shared → Prop} {s : Shared} {K : PySem.W.Frag} {x dx C f : Addr} {mA : Str → Option Value} {name : Str} {v : Value}

end

/-! ### the attributes as a list of pairs -/
theorem RelO.some_of {v : V} {o : Option Value} (r : RelO (some v) o) : ∃ u, o = some u ∧ RelV v u := by
  cases o with
  | none => exact (show False from r).elim
  | some u => exact ⟨u, rfl, r⟩
section
variable {P : Program} {w : World} {H H' : Hp} {h h' : Heap} {a C dx : Addr} {fs fs' : List (Str × V)}
end

/-! ### what of the text a class must have -/
structure Cls (K : PySem.W.Frag) (C : Addr) : Prop where
  pg : PySem.W.plainGet K C Str.empty = true
  hd : PySem.W.hasDictIn K C = true
  po : PySem.W.plainOver K C = true
  sa : PySem.W.findIn K (.ref C) "__setattr__" = some (some (.builtin "object.__setattr__"))
theorem Cls.get {K : PySem.W.Frag} {C : Addr} (c : Cls K C) (f : Str) : PySem.W.plainGet K C f = true := c.pg
/-- a constant of the class -/
structure Con (K : PySem.W.Frag) (C : Addr) (f : Str) (v : V) (u : Value) : Prop where
  at_ : PySem.W.findIn K (.ref C) f = some (some u)
  rel : RelV v u
  get : PySem.W.specialIn K u "__get__" = some none
  cp : PySem.W.copiedNames.contains f = false
/-- a method: a plain def of the class or of one above it -/
structure Meth (K : PySem.W.Frag) (C : Addr) (m : Str) (f : Addr) : Prop where
  at_ : PySem.W.findIn K (.ref C) m = some (some (.ref f))
  fn : PySem.W.isFn K (.ref f) = true
  kp : PySem.W.keepIn K (.ref f) = true

section
variable {X : Cx} {pins : List (Addr × Obj)} {σ : St} {H : Hp} {s : Shared} {a C dx : Addr} {fs : List (Str × V)} {f : Str} {v : V} {A : Around} {E : Value → Shared → Prop}

/-- a new instance, tracked, without attributes -/
theorem Inv.made (I : Inv X pins σ H s) : Inv X pins σ (upd (upd H s.heap.objs.size (.own (s.heap.objs.size + 1))) (s.heap.objs.size + 1) (.ins C s.heap.objs.size []))
    { s with heap := (s.heap.push PySem.W.emptyDict).push (PySem.W.instObj C s.heap.objs.size) } := by
  have e1 : (s.heap.push PySem.W.emptyDict).get? s.heap.objs.size = some PySem.W.emptyDict := Heap.get?_push_size s.heap rfl
  have e2 : ((s.heap.push PySem.W.emptyDict).push (PySem.W.instObj C s.heap.objs.size)).get? (s.heap.objs.size + 1) = some (PySem.W.instObj C s.heap.objs.size) := by
    have := Heap.get?_push_size (s.heap.push PySem.W.emptyDict) (o := PySem.W.instObj C s.heap.objs.size) rfl
    rwa [Heap.size_push] at this
  have e3 : (s.heap.push PySem.W.emptyDict).Ns s.heap.objs.size (fun _ => none) := ⟨PySem.W.emptyDict, #[], _, e1, rfl, (fun e he => absurd he (by simp)), fun _ => rfl⟩
  have I1 := I.laid (a := s.heap.objs.size) (o := .own (s.heap.objs.size + 1)) (h' := s.heap.push PySem.W.emptyDict) (t' := s.toks) (fun b u q => Heap.get?_push_of_some _ q) (Nat.le_refl _) ⟨_, e1⟩
  refine I1.laid (a := s.heap.objs.size + 1) (o := .ins C s.heap.objs.size []) (t' := s.toks) (fun b u q => Heap.get?_push_of_some _ q) (Nat.le_of_eq (Heap.size_push _ _)) ?_
  have ne : s.heap.objs.size ≠ s.heap.objs.size + 1 := Nat.ne_of_lt (Nat.lt_succ_self _)
  refine ⟨by rw [upd_ne ne, upd_same], Nat.zero_le _, ne, e2, fun _ => none, (Heap.Ns1.of_empty e3).at fun o q => Heap.get?_push_of_some _ q, fun _ => True.intro, fun y hy => absurd rfl hy⟩

end

/-! ### readings and rules -/
section
variable {X : Cx} {o e value : Expr} {f : Str} {pos pos' tpos : Pos} {ta tv : TE}
end

/-! ### isinstance -/
section
variable {X : Cx} {pins : List (Addr × Obj)} {σ : St} {H : Hp} {s : Shared} {A : Around} {E : Value → Shared → Prop} {Q : Value → Shared → Prop} {c : Value} {b : Bool}
/-- the type of a value, as the fragment's deciders take it; for an instance its class -/
inductive TyOf (K : PySem.W.Frag) (H : Hp) : V → Value → Prop where
  | non : TyOf K H .non (.type "NoneType")
  | bl (x : Bool) : TyOf K H (.bl x) (.type "bool")
  | int (i : Int) : TyOf K H (.int i) (.type "int")
  | str (x : Str) : TyOf K H (.str x) (.type "str")
  | flt (x : UInt64) : TyOf K H (.flt x) (.type "float")
  | lst {a : Addr} {xs : List V} (e : H a = some (.lst xs)) : TyOf K H (.ref a) (.type "list")
  | frz {a : Addr} {o : Obj} {xs : List V} (e : H a = some (.frz o (.lst xs))) : TyOf K H (.ref a) (.type "list")
  | tup {a : Addr} {xs : List V} (e : H a = some (.tup xs)) : TyOf K H (.ref a) (.type "tuple")
  | dK {a : Addr} {kvs : List (Key × V)} (e : H a = some (.dK kvs)) : TyOf K H (.ref a) (.type "dict")
  | dT {a : Addr} {kvs : List (List Key × V)} (e : H a = some (.dT kvs)) : TyOf K H (.ref a) (.type "dict")
  | ins {a C dx : Addr} {fs : List (Str × V)} (e : H a = some (.ins C dx fs)) (cl : Cls K C) (ha : PySem.W.findIn K (.ref C) "__class__" = some (some (.builtin "object.__class__")))
      (hn : PySem.W.specialIn K (.builtin "object.__class__") "__get__" = some (some (.builtin "getset_descriptor.__get__"))) (htk : PySem.W.takesIn K (.builtin "object.__class__") = some true)
      (hm : PySem.W.mroIn K C (.type "object") = some true) : TyOf K H (.ref a) (.ref C)
end
end L2

namespace L2
open PySem PySem.Spec PyProof.Rows

/-! ### room -/
structure Room (k : Nat) (A : Around) : Prop where
  hd : A.handled = none
  dp : A.depth + 3 * k + 5 < recursionLimit
  un : A.units + 16 * k + 200 < cLine
theorem Room.mono {j k : Nat} {A : Around} (r : Room k A) (h : j ≤ k) : Room j A := ⟨r.hd, by have := r.dp; omega, by have := r.un; omega⟩
theorem Room.deeper {k : Nat} {A : Around} (r : Room (k + 1) A) (env : Env) : Room k (A.deeper env) :=
  ⟨r.hd, by have := r.dp; show A.depth + 1 + 3 * k + 5 < _; omega, by have := r.un; show A.units + 3 + 16 * k + 200 < _; omega⟩
theorem Room.in1 {k : Nat} {A : Around} (r : Room (k + 1) A) : Room k A.in1 :=
  ⟨r.hd, by have := r.dp; show A.depth + 3 * k + 5 < _; omega, by have := r.un; show A.units + 1 + 16 * k + 200 < _; omega⟩
theorem Room.depth {k : Nat} {A : Around} (r : Room k A) : A.depth < recursionLimit := by have := r.dp; omega
theorem Room.units {k : Nat} {A : Around} (r : Room k A) : A.units + 64 < cLine := by have := r.un; omega
/-! ### argument lists and displays -/
def tNil : TA := fun _ H Q => Q [] H
def tCons (ta : TE) (tr : TA) : TA := fun σ H Q => ta σ H fun x H1 => tr σ H1 fun xs H2 => Q (x :: xs) H2
section
variable {X : Cx} {e : Expr} {es : List Expr} {te : TE} {t : TA} {pos : Pos}
theorem pa_nil : PA X [] tNil := fun _ _ _ _ H Q I h => Calls.spliced_nil ⟨[], H, I, .nil, h⟩
theorem pa_cons (ha : PE X e te) (hr : PA X es t) (hs : starEach (e :: es) X.env = (false, eval e X.env) :: starEach es X.env := by rfl) : PA X (e :: es) (tCons te t) := by
  intro pos pins s σ H Q I h
  rw [hs]
  show wpAny _ _ (spliced ((false, eval e X.env) :: backTo pos (starEach es X.env))) _ _ s
  refine Calls.spliced_cons (thn (ha pins s σ H _ I h) fun u s1 ⟨x, H1, I1, r1, q1⟩ => ?_)
  exact thn (hr pos pins s1 σ H1 _ I1 q1) fun us s2 ⟨xs, H2, I2, r2, q2⟩ => ⟨x :: xs, H2, I2, .cons r1 r2, q2⟩

/-- a tuple, a list of written items -/
def tTup (t : TA) : TE := fun σ H Q => t σ H fun xs H1 => xs.length ≤ sizeLine ∧ ∀ p, H1 p = none → Q (.ref p) (upd H1 p (.tup xs))
def tLst (t : TA) : TE := fun σ H Q => t σ H fun xs H1 => xs.length ≤ sizeLine ∧ ∀ p, H1 p = none → Q (.ref p) (upd H1 p (.lst xs))
theorem pe_tup {x1} (h : PA X es t) : PE X (.Tuple es x1 pos) (tTup t) := by
  intro pins s σ H Q I hq
  refine wpAny_Tuple_spliced (thn (h pos pins s σ H _ I hq) fun us s1 ⟨xs, H1, I1, r, z, q⟩ => ⟨by rw [← r.length]; exact z, ?_⟩)
  have hf : H1 s1.heap.objs.size = none := I1.hok.fresh (Nat.le_refl _)
  refine ⟨.ref s1.heap.objs.size, upd H1 s1.heap.objs.size (.tup xs), I1.laid (t' := s1.toks) (fun b u e => Heap.get?_push_of_some _ e) (Nat.le_refl _) ?_, rfl, q _ hf⟩
  exact ⟨z, us, r, ⟨_, Heap.get?_push_size _ rfl, rfl, _, rfl⟩, _, Heap.get?_push_size _ rfl, rfl⟩
theorem pe_lst (h : PA X es t) : PE X (.List es pos) (tLst t) := by
  intro pins s σ H Q I hq
  refine wpAny_List_spliced (thn (h pos pins s σ H _ I hq) fun us s1 ⟨xs, H1, I1, r, z, q⟩ => ⟨by rw [← r.length]; exact z, ?_⟩)
  have hf : H1 s1.heap.objs.size = none := I1.hok.fresh (Nat.le_refl _)
  refine ⟨.ref s1.heap.objs.size, upd H1 s1.heap.objs.size (.lst xs), I1.laid (t' := s1.toks) (fun b u e => Heap.get?_push_of_some _ e) (Nat.le_refl _) ?_, rfl, q _ hf⟩
  exact ⟨z, us, 0, r, Heap.get?_push_size _ rfl⟩
end

/-! ### what a def promises -/
/-- a def's promise: the bound arguments in the parameters' order, the heap, the wanted end, the wanted exception -/
abbrev Sp := List V → Hp → VK → XK → Prop
/-- how an exception lies behind a call (file 08 gives it): the callers' frames, abstract heap and state ahead of the call, the wish, the exception, the state -/
abbrev CXT := List Env → Hp → Shared → XK → Value → Shared → Prop

/-- the state at a call -/
structure Env0 (P : Program) (w : World) (K : PySem.W.Frag) (mg : Str → Option Value) (base : Heap) (A : Around) (outer : List Env) (s : Shared) (H : Hp) : Prop where
  frames : A.frames = some outer
  mod : Mod K mg base
  bs : ∀ b o, base.get? b = some o → s.heap.get? b = some o ∧ H b = none
  bsz : base.objs.size ≤ s.heap.objs.size
  funs : s.heap.FunFrames base outer
  frf : ∀ b ∈ frs outer, H b = none
  hok : HOk P w H s.heap
  bare : AllBare s.gens
/-- a call's end -/
def CE (outer : List Env) (P : Program) (w : World) (H : Hp) (s : Shared) (Q : VK) (u : Value) (s' : Shared) : Prop :=
  ∃ v H', s'.os = s.os ∧ AllBare s'.gens ∧ Un (frs outer) [] H H' s.heap s'.heap ∧ HOk P w H' s'.heap ∧ RelV v u ∧ Q v H'
def CR (CX : CXT) (outer : List Env) (P : Program) (w : World) (H : Hp) (s : Shared) (Q : VK) (E : XK) (r : Result) (s' : Shared) : Prop :=
  match r with
  | .ok (.ret u) => CE outer P w H s Q u s'
  | .ok _ => False
  | .error e => CX outer H s E e s'
structure FnOk (P : Program) (w : World) (K : PySem.W.Frag) (mg : Str → Option Value) (base : Heap) (CX : CXT) (k : Nat) (f : Addr) (fd : FuncData) (ps : List Str) (sp : Sp) : Prop where
  len : ∀ vs H Q E, sp vs H Q E → vs.length = ps.length
  run : ∀ (A : Around) (outer : List Env) (s : Shared) (H : Hp) (args : Args) (us : List Value) (vs : List V) (Q : VK) (E : XK), Room k A → Env0 P w K mg base A outer s H → BindsTo s fd args (ps.zip us) → Vals vs us → sp vs H Q E →
    codeAny (model P w) A (.call (.ref f) args) (CR CX outer P w H s Q E) s
theorem FnOk.mono {P : Program} {w : World} {K : PySem.W.Frag} {mg : Str → Option Value} {base : Heap} {CX : CXT} {j k : Nat} {f : Addr} {fd : FuncData} {ps : List Str} {sp : Sp} (F : FnOk P w K mg base CX j f fd ps sp) (h : j ≤ k) :
    FnOk P w K mg base CX k f fd ps sp := ⟨F.len, fun A outer s H args us vs Q E hr => F.run A outer s H args us vs Q E (hr.mono h)⟩
/-- a weaker promise -/
theorem FnOk.imp {P : Program} {w : World} {K : PySem.W.Frag} {mg : Str → Option Value} {base : Heap} {CX : CXT} {k : Nat} {f : Addr} {fd : FuncData} {ps : List Str} {sp sp' : Sp} (F : FnOk P w K mg base CX k f fd ps sp)
    (h : ∀ vs H Q E, sp' vs H Q E → sp vs H Q E) : FnOk P w K mg base CX k f fd ps sp' :=
  ⟨fun vs H Q E q => F.len vs H Q E (h _ _ _ _ q), fun A outer s H args us vs Q E hr he hb hv hs => F.run A outer s H args us vs Q E hr he hb hv (h _ _ _ _ hs)⟩

theorem Env0.in1 {P : Program} {w : World} {K : PySem.W.Frag} {mg : Str → Option Value} {base : Heap} {A : Around} {outer : List Env} {s : Shared} {H : Hp} (e : Env0 P w K mg base A outer s H) :
    Env0 P w K mg base A.in1 outer s H := ⟨e.frames, e.mod, e.bs, e.bsz, e.funs, e.frf, e.hok, e.bare⟩

section
variable {X : Cx} {pins : List (Addr × Obj)} {σ : St} {H : Hp} {s s' : Shared}
/-- from a body: what a callee wants -/
theorem Inv.env0 (I : Inv X pins σ H s) : Env0 X.prog X.w X.K X.mg X.base X.A X.stack s H :=
  ⟨I.ok.frames, I.ok.mod, I.bs, Nat.le_trans I.ok.bsz I.sz, I.stack, I.stkFree, I.hok, I.bare⟩
/-- behind a call -/
theorem Inv.after {Q : VK} {u : Value} (I : Inv X pins σ H s) (h : CE X.stack X.prog X.w H s Q u s') : EP X pins σ Q u s' := by
  obtain ⟨v, H', os, bare, un, hok, r, q⟩ := h
  obtain ⟨hh, g, d, t, os'⟩ := s'
  obtain rfl : os' = s.os := os
  exact ⟨v, H', I.call (h' := hh) (g' := g) (d' := d) (t' := t) (ch := []) un hok bare (fun b z => absurd z (by simp)), r, q⟩
end

/-! ### calls -/
/-- f(..): the written arguments, then the defaults dvs; E: what is wanted of an exception -/
def tCall (sp : Sp) (dvs : List V) (E : XK) (t : TA) : TE := fun σ H Q => t σ H fun vs H1 => sp (vs ++ dvs) H1 Q E
/-- how the parameters are bound: us the positional arguments, kw the keywords' values by name, ds the defaults that fill up -/
def Binds (K : PySem.W.Frag) (fd : FuncData) (ps : List Str) (ds : List Value) : Prop :=
  ∀ (s : Shared) (us : List Value), K.In s.heap → (us ++ ds).length = ps.length → BindsTo s fd ⟨us, []⟩ (ps.zip (us ++ ds))
/-- every parameter is given -/
theorem Binds.all {K : PySem.W.Frag} {fd : FuncData} {ps : List Str} (h : ∀ us : List Value, us.length = ps.length → bindArgs fd ⟨us, []⟩ = pure (ps.zip us)) : Binds K fd ps [] := fun s us _ hl => by
  rw [List.append_nil] at hl ⊢
  exact .of_eq (h us hl)

/-- an exception of a callee reaches what this body wants of exceptions -/
def Passes (CX : CXT) (X : Cx) (E : XK) : Prop := ∀ (pins : List (Addr × Obj)) (σ : St) (H : Hp) (s : Shared) (e : Value) (s' : Shared), Inv X pins σ H s → CX X.stack H s E e s' → X.xe e s'

section
variable {X : Cx} {CX : CXT} {k : Nat} {f C : Addr} {fd : FuncData} {ps : List Str} {sp : Sp} {dvs : List V} {ds : List Value} {E : XK} {x m : Str} {p pos apos : Pos} {e o : Expr} {es : List Expr} {ta : TE} {t : TA}

/-- the callee runs -/
theorem run_fn {pins : List (Addr × Obj)} {σ : St} {H : Hp} {s : Shared} {Q : VK} {us : List Value} {vs : List V} (F : FnOk X.prog X.w X.K X.mg X.base CX k f fd ps sp) (hr : Room k X.A) (hb : Binds X.K fd ps ds) (hd : Vals dvs ds) (hx : Passes CX X E)
    (I : Inv X pins σ H s) (r : Vals vs us) (h : sp (vs ++ dvs) H Q E) : wpAny (model X.prog X.w) X.A (call (.ref f) us) (EP X pins σ Q) X.xe s := by
  have r2 : Vals (vs ++ dvs) (us ++ ds) := r.append hd
  have hl : (us ++ ds).length = ps.length := by rw [← r2.length]; exact F.len _ _ _ _ h
  refine wpAny_call (codeAny_mono (F.run X.A X.stack s H ⟨us, []⟩ (us ++ ds) (vs ++ dvs) Q E hr I.env0 (hb s us I.kIn hl) r2 h) fun r s' hq => ?_)
  cases r with
  | error e => exact hx pins σ H s e s' I hq
  | ok fl =>
    cases fl with
    | ret u => exact I.after hq
    | next => exact False.elim hq
    | brk => exact False.elim hq
    | cont => exact False.elim hq

theorem pe_call (F : FnOk X.prog X.w X.K X.mg X.base CX k f fd ps sp) (hr : Room k X.A) (hg : Gl X x) (hm : X.mg x = some (.ref f)) (hk : PySem.W.keepIn X.K (.ref f) = true) (hb : Binds X.K fd ps ds) (hd : Vals dvs ds) (hx : Passes CX X E)
    (ha : PA X (e :: es) t) (hdb : (x == ("__debug__" : Str)) = false := by decide) (he : starEach (e :: es) X.env = (false, eval e X.env) :: starEach es X.env := by rfl) (hpl : (backTo pos (starEach es X.env)).any (·.1) = false := by rfl) :
    PE X (.Call (.Name x p) (e :: es) [] pos) (tCall sp dvs E t) := by
  intro pins s σ H Q I h
  refine wpAny_Call_Name_kw (ld_glob I hg hm ?_ hdb)
  refine PySem.W.callWith_K (h₀ := X.base) I.ok.mod.kin hk (thn (ha pos pins s σ H _ I h) fun us s1 ⟨vs, H1, I1, r, q⟩ => ⟨I1.kIn, ?_⟩) he hpl
  exact run_fn F hr hb hd hx I1 r q
/-- what a class must have to be made -/
structure Mk (K : PySem.W.Frag) (C f : Addr) : Prop where
  makes : PySem.W.makesIn K C = true
  init : PySem.W.findIn K (.ref C) "__init__" = some (some (.ref f))
  fn : PySem.W.isFn K (.ref f) = true
  kp : PySem.W.keepIn K (.ref C) = true

end

/-! ### keywords -/
section
variable {X : Cx} {CX : CXT} {k : Nat} {f C : Addr} {fd : FuncData} {ps ks : List Str} {sp : Sp} {E : XK} {x m : Str} {p pos apos kpos : Pos} {e o : Expr} {es : List Expr} {kws : List Keyword} {te ta : TE} {t tk : TA} {nm : Option Str}
/-- how a call with keywords binds: g puts the positional values us and the keywords' values ws (names ks) in the parameters' order, defaults among them -/
structure KBinds (K : PySem.W.Frag) (fd : FuncData) (ps ks : List Str) (g : List Value → List Value → List Value) (gV : List V → List V → List V) : Prop where
  to : ∀ (s : Shared) (us ws : List Value), K.In s.heap → (g us ws).length = ps.length → BindsTo s fd ⟨us, ks.zip ws⟩ (ps.zip (g us ws))
  rel : ∀ {vs : List V} {us : List Value} {zs : List V} {ws : List Value}, Vals vs us → Vals zs ws → Vals (gV vs zs) (g us ws)
variable {g : List Value → List Value → List Value} {gV : List V → List V → List V}
end

/-! ### a def's body keeps its promise -/
/-- names: the parameters first -/
structure FnScope (N P : List Str) (sc : Scope) : Prop where
  kind : sc.kind = .function
  co : sc.isCoroutine = false
  gen : sc.isGenerator = false
  nd : N.Nodup
  pre : N.take P.length = P
  par : ∀ x ∈ P, sc.names.lookup x = some .local ∨ sc.names.lookup x = some .cell
  nofree : ∀ y ∈ sc.names, y.2 ≠ .free

theorem bindL_out {kindOf : Str → Option NameKind} {x : Str} : ∀ {binds : List (Str × Value)} {m : Str → Option Value}, (∀ v, (x, v) ∉ binds) → bindL kindOf binds m x = m x
  | [], _, _ => rfl
  | (n, v) :: r, m, h => by
    unfold bindL
    rw [bindL_out fun w hw => h w (List.mem_cons_of_mem _ hw)]
    split
    · have : x ≠ n := by rintro rfl; exact h v List.mem_cons_self
      simp [this]
    · rfl
theorem bindC_out {kindOf : Str → Option NameKind} {x : Str} : ∀ {binds : List (Str × Value)} {m : Str → Option Value}, (∀ v, (x, v) ∉ binds) → bindC kindOf binds m x = m x
  | [], _, _ => rfl
  | (n, v) :: r, m, h => by
    unfold bindC
    rw [bindC_out fun w hw => h w (List.mem_cons_of_mem _ hw)]
    split
    · rfl
    · have : x ≠ n := by rintro rfl; exact h v List.mem_cons_self
      simp [this]
theorem bindL_get {kindOf : Str → Option NameKind} {x : Str} {v : Value} : ∀ {P : List Str} {vs : List Value} {i : Nat} {m : Str → Option Value}, P.Nodup → P[i]? = some x → vs[i]? = some v → kindOf x = some .local →
    bindL kindOf (P.zip vs) m x = some v
  | [], _, _, _, _, h, _, _ => by simp at h
  | _ :: _, [], _, _, _, _, h, _ => by simp at h
  | p :: P, w :: vs, 0, m, nd, h1, h2, hk => by
    simp at h1 h2; subst h1; subst h2
    show bindL kindOf ((p, w) :: P.zip vs) m p = _
    unfold bindL
    rw [bindL_out fun v hv => (List.nodup_cons.mp nd).1 (List.of_mem_zip hv).1, if_pos hk]
    simp
  | p :: P, w :: vs, i + 1, m, nd, h1, h2, hk => by
    show bindL kindOf ((p, w) :: P.zip vs) m x = _
    unfold bindL
    exact bindL_get (i := i) (List.nodup_cons.mp nd).2 (by simpa using h1) (by simpa using h2) hk
theorem bindC_get {kindOf : Str → Option NameKind} {x : Str} {v : Value} : ∀ {P : List Str} {vs : List Value} {i : Nat} {m : Str → Option Value}, P.Nodup → P[i]? = some x → vs[i]? = some v → kindOf x ≠ some .local →
    bindC kindOf (P.zip vs) m x = some v
  | [], _, _, _, _, h, _, _ => by simp at h
  | _ :: _, [], _, _, _, _, h, _ => by simp at h
  | p :: P, w :: vs, 0, m, nd, h1, h2, hk => by
    simp at h1 h2; subst h1; subst h2
    show bindC kindOf ((p, w) :: P.zip vs) m p = _
    unfold bindC
    rw [bindC_out fun v hv => (List.nodup_cons.mp nd).1 (List.of_mem_zip hv).1, if_neg hk]
    simp
  | p :: P, w :: vs, i + 1, m, nd, h1, h2, hk => by
    show bindC kindOf ((p, w) :: P.zip vs) m x = _
    unfold bindC
    exact bindC_get (i := i) (List.nodup_cons.mp nd).2 (by simpa using h1) (by simpa using h2) hk

/-- the names' values at the entry -/
def start (N : List Str) (vs : List V) : St := vs.map some ++ List.replicate (N.length - vs.length) none

/-- the context of a def's body, at its entry; an exception leaves the frame, then lies as CX says -/
def cxOf (CX : CXT) (P : Program) (w : World) (K : PySem.W.Frag) (mg : Str → Option Value) (base : Heap) (N : List Str) (qual : Str) (scope : Scope) (f : Addr) (cd : Value) (A : Around) (outer : List Env) (s : Shared) (H : Hp) (E : XK) : Cx where
  prog := P
  w := w
  K := K
  mg := mg
  base := base
  A := A.deeper (envOfC qual scope s.heap.objs.size f cd)
  N := N
  s₀ := s
  H₀ := H
  env := envOfC qual scope s.heap.objs.size f cd
  outer := outer
  stack := envOfC qual scope s.heap.objs.size f cd :: outer
  ex := []
  calm := true
  fn := fun _ => true
  pn := []
  xe := fun e s' => wpAny (model P w) (A.deeper (envOfC qual scope s.heap.objs.size f cd)) (leaving (envOfC qual scope s.heap.objs.size f cd) e) (fun _ s'' => CX outer H s E e s'') (fun e' s'' => CX outer H s E e' s'') s'

theorem cell_has {sc : Scope} {n : Nat} {x : Str} (h : sc.names.lookup x = some .cell) : ∃ c, (cellsFrom n sc.names []).lookup x = some c := by
  have q := PySem.W.cellsFrom_some sc.names n [] (.inl h)
  exact Option.isSome_iff_exists.mp q

theorem inv_start {CX : CXT} {P : Program} {w : World} {K : PySem.W.Frag} {mg : Str → Option Value} {base : Heap} {N ps : List Str} {qual : Str} {scope : Scope} {f : Addr} {cd : Value} {A : Around} {outer : List Env} {s s1 : Shared} {H : Hp} {E : XK} {us : List Value} {vs : List V}
    (S : FnScope N ps scope) (hd : A.handled = none) (e0 : Env0 P w K mg base A outer s H) (hl : vs.length = ps.length) (r : Vals vs us)
    (x : InCallC s s.heap.objs.size (bindL (envOfC qual scope s.heap.objs.size f cd).kindOf (ps.zip us) fun _ => none) (cellsFrom (s.heap.objs.size + 1) scope.names []) (bindC (envOfC qual scope s.heap.objs.size f cd).kindOf (ps.zip us) fun _ => none) s1) :
    Inv (cxOf CX P w K mg base N qual scope f cd A outer s H E) [] (start N vs) H s1 := by
  have hpl : ps.length ≤ N.length := by have := congrArg List.length S.pre; rw [List.length_take] at this; omega
  obtain ⟨h1, tk, rfl, hk⟩ := x.done
  have noA : ∀ b : Addr, b ∉ (cxOf CX P w K mg base N qual scope f cd A outer s H E).ex := fun b z => absurd (show b ∈ ([] : List Addr) from z) (by simp)
  refine ⟨⟨e0.mod, S.kind, rfl, rfl, Nat.le_refl _, fun y z c h1 h2 => ?_, fun y hy => ?_, fun y c _ h => ?_, fun _ => hd, Around.frames_deeper e0.frames, .inr ⟨rfl, rfl⟩, fun b z => absurd z (noA b), e0.bs, e0.bsz, fun b _ _ => noA b, fun b z => absurd z (noA b), e0.funs, e0.frf⟩,
    rfl, e0.bare, Un.kept hk, ⟨_, x.toInCall.ns, fun i y v h1 h2 h3 => ?_⟩, fun y c h => ⟨_, x.cell y c h⟩, e0.hok.fresh (Nat.le_refl _), fun y c h => ?_, fun p hp => absurd (show p ∈ ([] : List (Addr × Obj)) from hp) (by simp), e0.hok.kept hk, ?_⟩
  · exact name_of_addr x.apart (PySem.mem_of_lookup h1) (PySem.mem_of_lookup h2)
  · have hy : scope.names.lookup y = some .cell ∨ scope.names.lookup y = some .free := hy
    rcases hy with hy | hy
    · exact cell_has hy
    · exact absurd rfl (S.nofree _ (PySem.mem_of_lookup hy))
  · exact Nat.le_of_lt (x.above y c (PySem.mem_of_lookup h))
  · have hi : i < vs.length := by
      unfold start at h2
      by_cases hi : i < vs.length
      · exact hi
      · rw [List.getElem?_append_right (by simpa using hi)] at h2
        rw [List.getElem?_replicate] at h2
        split at h2 <;> cases h2
    have ha : vs[i]? = some v := by
      unfold start at h2
      rw [List.getElem?_append_left (by simpa using hi), List.getElem?_map] at h2
      cases e : vs[i]? with
      | none => rw [e] at h2; cases h2
      | some a => rw [e] at h2; cases h2; rfl
    obtain ⟨u, hu, rv⟩ := r.get ha
    have hp : ps[i]? = some y := by
      rw [← S.pre, List.getElem?_take_of_lt (by omega)]; exact h1
    have ndP : ps.Nodup := by rw [← S.pre]; exact S.nd.sublist (List.take_sublist _ _)
    refine ⟨u, rv, ?_⟩
    rcases S.par y (List.mem_of_getElem? hp) with k | k
    · exact .inl ⟨k, bindL_get ndP hp hu k⟩
    · obtain ⟨c, e⟩ := cell_has (n := s.heap.objs.size + 1) k
      refine .inr ⟨.inl k, c, e, ?_⟩
      have q := x.cell y c e
      rw [bindC_get ndP hp hu (by show scope.names.lookup y ≠ _; rw [k]; decide)] at q
      exact q
  · exact e0.hok.fresh (Nat.le_of_lt (x.above y c (PySem.mem_of_lookup h)))
  · unfold start
    show _ = N.length
    rw [List.length_append, List.length_map, List.length_replicate]
    omega

/-- THE RULE: a def (or a method) of the text, by its body. The body's reading t is chosen for each entry; it is run at the parameters' values -/
theorem fn_of {CX : CXT} {P : Program} {w : World} {K : PySem.W.Frag} {mg : Str → Option Value} {base : Heap} {k : Nat} {f : Addr} {name qual : Str} {params : Arguments} {body : List Stmt} {scope : Scope} {dV kV doc pm cdv ct oc : Value} {an od : Option Addr}
    {osl : Array (Option Value)} {N ps : List Str} {sp : Sp} (lk : K.lookup f = some ⟨oc, od, .func (PySem.W.fnOf name qual params body scope dV kV doc pm an cdv ct), osl⟩) (hcd : PySem.W.codeIn K cdv qual = true) (S : FnScope N ps scope)
    (len : ∀ vs H Q E, sp vs H Q E → vs.length = ps.length)
    (hbody : ∀ (A : Around) (outer : List Env) (s : Shared) (H : Hp) (vs : List V) (Q : VK) (E : XK), Room k (A.deeper (envOfC qual scope s.heap.objs.size f cdv)) → sp vs H Q E →
      ∃ t, PSs (cxOf CX P w K mg base N qual scope f cdv A outer s H E) body t ∧ t { nx := fun _ H' => Q .non H', rt := Q } (start N vs) H) :
    FnOk P w K mg base CX (k + 1) f (PySem.W.fnOf name qual params body scope dV kV doc pm an cdv ct) ps sp := by
  refine ⟨len, fun A outer s H args us vs Q E hr e0 hb r hsp => ?_⟩
  have hl := len _ _ _ _ hsp
  have KX : K.In s.heap := e0.mod.kin.keeps fun b o e => (e0.bs b o e).1
  have lim : s.heap.NoLimit := e0.mod.nolimit.keeps fun b o e => (e0.bs b o e).1
  have hkind : ∀ y ∈ ps.zip us, scope.names.lookup y.1 = some .local ∨ (scope.names.lookup y.1 = some .cell ∧ ((cellsFrom (s.heap.objs.size + 1) scope.names []).lookup y.1).isSome = true) := fun ⟨n, v⟩ hy => by
    rcases S.par n (List.of_mem_zip hy).1 with q | q
    · exact .inl q
    · exact .inr ⟨q, PySem.W.cellsFrom_some _ _ _ (.inl q)⟩
  refine codeAny_call_function hr.depth (KX _ _ lk) rfl S.co S.gen rfl (PySem.W.codeRec_of KX hcd) (hb _ _ _ _ ?_)
  refine wpAny_newFunctionEnv_cells S.kind hkind fun env he s1 x => ?_
  subst he
  refine ⟨lim.keeps x.toInCall.keep, codeAny_func ?_⟩
  obtain ⟨t, ht, hq⟩ := hbody A outer s H vs Q E (hr.deeper _) hsp
  have I : Inv (cxOf CX P w K mg base N qual scope f cdv A outer s H E) [] (start N vs) H s1 := inv_start S hr.hd e0 hl r x
  refine wpAny_mono (ht [] s1 (start N vs) H _ I hq) (fun fl s' hs => ?_) fun e s' hs => hs
  have fin : ∀ {σ' : St} {H' : Hp} {v : V} {u : Value}, Inv (cxOf CX P w K mg base N qual scope f cdv A outer s H E) [] σ' H' s' → RelV v u → Q v H' → CE outer P w H s Q u s' :=
    fun {σ' H' v u} J rv q => ⟨v, H', J.os, J.bare, J.base, J.hok, rv, q⟩
  cases fl with
  | ret u =>
    obtain ⟨v, σ', H', J, rv, q⟩ := hs
    exact fin J rv q
  | next =>
    obtain ⟨σ', H', J, q⟩ := hs
    exact fin (v := V.non) (u := Value.none) J rfl q
  | brk =>
    obtain ⟨_, _, _, q⟩ := hs
    exact False.elim q
  | cont =>
    obtain ⟨_, _, _, q⟩ := hs
    exact False.elim q
end L2

namespace L2
open PySem PySem.Spec PyProof.Rows
section
variable {X : Cx} {x : Str} {p pos : Pos} {e : Expr} {es : List Expr} {t : TA} {id T : String} {r : List V → Hp → VK → Prop}

def tCB (r : List V → Hp → VK → Prop) (t : TA) : TE := fun σ H Q => t σ H fun vs H1 => r vs H1 Q
/-- f(e, ..), f a built-in function -/
theorem pe_callB (hc : CallR X (.builtin id) r) (hg : Gl X x) (hm : X.mg x = none) (hv : bootBuiltins x = some (.builtin id)) (ha : PA X (e :: es) t) (hn : x ≠ "__name__" := by decide) (hdb : (x == ("__debug__" : Str)) = false := by decide)
    (he : starEach (e :: es) X.env = (false, eval e X.env) :: starEach es X.env := by rfl) (hpl : (backTo pos (starEach es X.env)).any (·.1) = false := by rfl) : PE X (.Call (.Name x p) (e :: es) [] pos) (tCB r t) := by
  intro pins s σ H Q I h
  refine wpAny_Call_Name_kw (ld_blt I hg hm hv ?_ hn hdb)
  exact PyProof.Rows.callWith_builtin1 (thn (ha pos pins s σ H _ I h) fun us s1 ⟨vs, H1, I1, r1, q1⟩ => hc pins s1 σ H1 vs us Q I1 r1 q1) he hpl
/-- T(e, ..), T a built-in type -/
theorem pe_callTy (hc : CallR X (.type T) r) (hg : Gl X x) (hm : X.mg x = none) (hv : bootBuiltins x = some (.type T)) (ha : PA X (e :: es) t) (hn : x ≠ "__name__" := by decide) (hdb : (x == ("__debug__" : Str)) = false := by decide)
    (he : starEach (e :: es) X.env = (false, eval e X.env) :: starEach es X.env := by rfl) (hpl : (backTo pos (starEach es X.env)).any (·.1) = false := by rfl) : PE X (.Call (.Name x p) (e :: es) [] pos) (tCB r t) := by
  intro pins s σ H Q I h
  refine wpAny_Call_Name_kw (ld_blt I hg hm hv ?_ hn hdb)
  exact PyProof.Rows.callWith_type1 (thn (ha pos pins s σ H _ I h) fun us s1 ⟨vs, H1, I1, r1, q1⟩ => hc pins s1 σ H1 vs us Q I1 r1 q1) he hpl
end
end L2

namespace HT
open PySem PyProof.Rows

section
open PySem.SeqAt
open PySem.AutoSeq1 (wpAny_loadPart')
open PySem.MeetsSeq PySem.MeetsSeq2 PySem.MeetsSeq3

end

section
variable {prog : Program} {w : World} {A : Around} {E : Value → Shared → Prop} {s : Shared}

/-! ### t[a:b], not the whole -/
end
end HT

namespace L2
open PySem PySem.Spec PyProof.Rows

/-! ### the parts of a slice -/
abbrev TO := St → Hp → (Option Int → Hp → Prop) → Prop
/-- a slice's part (left out, or an int) -/
def PO (X : Cx) (e : Option Expr) (t : TO) : Prop :=
  ∀ (pins : List (Addr × Obj)) (s : Shared) (σ : St) (H : Hp) (Q : Option Int → Hp → Prop), Inv X pins σ H s → t σ H Q →
    wpAny (model X.prog X.w) X.A (evalPart e X.env) (fun u s' => ∃ o H', Inv X pins σ H' s' ∧ IsPart u o ∧ Q o H') X.xe s
section
variable {X : Cx} {e : Expr} {te : TE} {lo hi : Option Expr} {tl th : TO} {pos p2 : Pos}

/-- what a slice of a value is, by values: the slice object stands at sl -/
def SlR (X : Cx) (r : V → Option Int → Option Int → Hp → VK → Prop) : Prop :=
  ∀ (pins : List (Addr × Obj)) (s : Shared) (σ : St) (H : Hp) (x : V) (v vl vu : Value) (lo hi : Option Int) (sl : Addr) (Q : VK), Inv X pins σ H s → RelV x v → s.heap.IsSliceOf sl vl vu .none → IsPart vl lo → IsPart vu hi → r x lo hi H Q →
    ∃ T id, typeLookup (.type T) "__getitem__" = pure (some (.builtin id)) ∧ s.TypeIs v T ∧ wpAny (model X.prog X.w) X.A (getItem v (.ref sl)) (EP X pins σ Q) X.xe s
theorem SlR.or {r r' : V → Option Int → Option Int → Hp → VK → Prop} (h : SlR X r) (h' : SlR X r') : SlR X (fun x lo hi H Q => r x lo hi H Q ∨ r' x lo hi H Q) := by
  intro pins s σ H x v vl vu lo hi sl Q I rx hs pl pu q
  rcases q with q | q
  · exact h pins s σ H x v vl vu lo hi sl Q I rx hs pl pu q
  · exact h' pins s σ H x v vl vu lo hi sl Q I rx hs pl pu q
/-! ### t < u, t + u -/
end
end L2

namespace L2
open PySem PySem.Spec PyProof.Rows

/-! ### places -/
/-- the place that an index of any sign means -/
def ixN (n : Nat) (i : Int) : Option Nat := if 0 ≤ i then (if i < n then some i.toNat else none) else if -(n : Int) ≤ i then some (i + n).toNat else none
def atI {α : Type} (xs : List α) (i : Int) : Option α := (ixN xs.length i).bind fun j => xs[j]?
theorem ixN_seq {n : Nat} {i : Int} {j : Nat} (h : ixN n i = some j) : seqIndex? i n = some j ∧ j < n ∧ -(n : Int) ≤ i ∧ i < n := by
  unfold ixN at h
  by_cases h0 : 0 ≤ i
  · rw [if_pos h0] at h
    by_cases h1 : i < n
    · rw [if_pos h1] at h
      have e : i.toNat = j := Option.some.inj h
      exact ⟨by rw [seqIndex_of h0 h1, e], by omega, by omega, h1⟩
    · rw [if_neg h1] at h; cases h
  · rw [if_neg h0] at h
    by_cases h1 : -(n : Int) ≤ i
    · rw [if_pos h1] at h
      have e : (i + n).toNat = j := Option.some.inj h
      exact ⟨by rw [seqIndex_neg (by omega) h1, e], by omega, h1, by omega⟩
    · rw [if_neg h1] at h; cases h
theorem atI_get {α : Type} {xs : List α} {i : Int} {v : α} (h : atI xs i = some v) : ∃ j, seqIndex? i xs.length = some j ∧ xs[j]? = some v ∧ j < xs.length ∧ -(xs.length : Int) ≤ i ∧ i < xs.length := by
  unfold atI at h
  cases e : ixN xs.length i with
  | none => rw [e] at h; cases h
  | some j =>
    rw [e] at h
    obtain ⟨h1, h2, h3, h4⟩ := ixN_seq e
    exact ⟨j, h1, h, h2, h3, h4⟩
theorem atI_nat {α : Type} {xs : List α} {j : Nat} {v : α} (h : xs[j]? = some v) : atI xs (j : Int) = some v := by
  have hj : j < xs.length := (List.getElem?_eq_some_iff.mp h).1
  have e : ixN xs.length (j : Int) = some j := by
    unfold ixN
    rw [if_pos (by omega), if_pos (by omega)]; simp
  unfold atI; rw [e]; exact h
/-! ### what may be subscripted -/
/-- what stands as an index of a plain subscript -/
def PlainIx (b : Expr) : Prop := ∀ o i, subscripted b false o i = operate [o, i] (getItem o i)
/-- a subscript by values -/
def IxR (X : Cx) (r : R2) : Prop :=
  ∀ (value slice : Expr) (pins : List (Addr × Obj)) (s : Shared) (σ : St) (H : Hp) (x y : V) (v u : Value) (Q : VK), Inv X pins σ H s → RelV x v → RelV y u → r x y H Q →
    subscripted slice false v u = operate [v, u] (getItem v u) → wpAny (model X.prog X.w) X.A (subscriptTail value slice v u) (EP X pins σ Q) X.xe s
/-- a call of a builtin's method by values: the receiver, the arguments -/
def MtR (X : Cx) (id : String) (r : V → List V → Hp → VK → Prop) : Prop :=
  ∀ (pins : List (Addr × Obj)) (s : Shared) (σ : St) (H : Hp) (x : V) (xs : List V) (v : Value) (us : List Value) (Q : VK), Inv X pins σ H s → RelV x v → Vals xs us → r x xs H Q →
    wpAny (model X.prog X.w) X.A (call (.builtin id) (v :: us)) (EP X pins σ Q) X.xe s
section
variable {X : Cx} {a b : Expr} {ta tb : TE} {pos : Pos}
theorem IxR.or {r r' : R2} (h : IxR X r) (h' : IxR X r') : IxR X (fun x y H Q => r x y H Q ∨ r' x y H Q) := by
  intro value slice pins s σ H x y v u Q I rx ry q hs
  rcases q with q | q
  · exact h value slice pins s σ H x y v u Q I rx ry q hs
  · exact h' value slice pins s σ H x y v u Q I rx ry q hs
theorem MtR.or {id : String} {r r' : V → List V → Hp → VK → Prop} (h : MtR X id r) (h' : MtR X id r') : MtR X id (fun x xs H Q => r x xs H Q ∨ r' x xs H Q) := by
  intro pins s σ H x xs v us Q I rx rs q
  rcases q with q | q
  · exact h pins s σ H x xs v us Q I rx rs q
  · exact h' pins s σ H x xs v us Q I rx rs q
/-- a[b] -/
theorem pe_ix {r : R2} (hr : IxR X r) (ha : PE X a ta) (hb : PE X b tb) (hs : PlainIx b) : PE X (.Subscript a b pos) (tOp r ta tb) := by
  intro pins s σ H Q I h
  exact Subscript_ (binT ha hb I h fun v u s2 x y H2 I2 rx ry q => hr a b pins s2 σ H2 x y v u Q I2 rx ry q (hs _ _))

def rIxL (K : PySem.W.Frag) : R2 := fun x y H Q => ∃ p xs i v, x = .ref p ∧ y = .int i ∧ SqL K H p xs ∧ atI xs i = some v ∧ Q v H
def rIxT (K : PySem.W.Frag) : R2 := fun x y H Q => ∃ p xs i v, x = .ref p ∧ y = .int i ∧ SqT K H p xs ∧ atI xs i = some v ∧ Q v H
def rIxS : R2 := fun x y H Q => ∃ z i c, x = .str z ∧ y = .int i ∧ z.length ≤ sizeLine ∧ atI z.cps.toList i = some c ∧ Q (.str ⟨#[c]⟩) H
theorem ix_list : IxR X (rIxL X.K) := by
  intro value slice pins s σ H x y v u Q I rx ry h hs
  obtain ⟨p, xs, i, z, rfl, rfl, hq, he, q⟩ := h
  cases rx
  obtain ⟨t, rfl⟩ := ry
  obtain ⟨its, r, pl, hz⟩ := I.list hq
  obtain ⟨j, h1, h2, h3, h4, h5⟩ := atI_get he
  obtain ⟨w, ew, rw'⟩ := r.get h2
  have hl := r.length
  have hn := line63
  have fin : EP X pins σ Q w s := ⟨z, H, I, rw', q⟩
  by_cases h0 : 0 ≤ i
  · have hj : i.toNat = j := by
      rw [seqIndex_of h0 h5] at h1
      exact Option.some.inj h1
    exact item_listR pl.isList h0 (by omega) (by rw [hj]; simpa using ew) fin hs
  · have hj : (i + (its.toArray.size : Int)).toNat = j := by
      rw [seqIndex_neg (by omega) h4] at h1
      rw [List.size_toArray, ← hl]
      exact Option.some.inj h1
    exact subscriptTail_builtinR (x := w) pl.isList.typeIs slot_list_getitem.lookup
      (wpAny_getItem_list_neg (Q := fun r s' => r = w ∧ EP X pins σ Q r s') pl.isList (by omega) (by rw [List.size_toArray] <;> omega) (by omega) (by rw [hj]; simpa using ew) ⟨rfl, fin⟩) hs
theorem ix_tup : IxR X (rIxT X.K) := by
  intro value slice pins s σ H x y v u Q I rx ry h hs
  obtain ⟨p, xs, i, z, rfl, rfl, hq, he, q⟩ := h
  cases rx
  obtain ⟨t, rfl⟩ := ry
  obtain ⟨its, r, pl, hz⟩ := I.tuple hq
  obtain ⟨j, h1, h2, h3, h4, h5⟩ := atI_get he
  obtain ⟨w, ew, rw'⟩ := r.get h2
  have hl := r.length
  have hn := line63
  have fin : EP X pins σ Q w s := ⟨z, H, I, rw', q⟩
  exact subscriptTail_builtinR (x := w) pl.typeIs slot_tuple_getitem.lookup
    (getItem_tuple (j := j) (Q := fun r s' => r = w ∧ EP X pins σ Q r s') pl (by omega) (by omega) (by rw [List.size_toArray, ← hl]; exact h1) (by simpa using ew) ⟨rfl, fin⟩) hs
theorem ix_str : IxR X rIxS := by
  intro value slice pins s σ H x y v u Q I rx ry h hs
  obtain ⟨z, i, c, rfl, rfl, hz, he, q⟩ := h
  obtain ⟨t, rfl⟩ := rx
  obtain ⟨t', rfl⟩ := ry
  obtain ⟨j, h1, h2, h3, h4, h5⟩ := atI_get he
  have hl : z.cps.toList.length = z.length := by simp [Str.length]
  rw [hl] at h1 h4 h5
  have hn := line63
  exact tail_any (typeIs_str s z t) slot_str_getitem.lookup (getItem_str (c := c) (by
    have e1 : decide (i < -(2 ^ 63 : Int)) = false := decide_eq_false (by omega)
    have e2 : decide (i ≥ 2 ^ 63) = false := decide_eq_false (by omega)
    rw [e1, e2, Bool.or_false]) (by rw [h1]; simpa using h2) ⟨.str ⟨#[c]⟩, H, I.tok _, ⟨_, rfl⟩, q⟩) hs
/-- list, tuple or str -/
def rIx (K : PySem.W.Frag) : R2 := fun x y H Q => rIxL K x y H Q ∨ rIxT K x y H Q ∨ rIxS x y H Q
theorem ix_seq : IxR X (rIx X.K) := ix_list.or (ix_tup.or ix_str)

/-! ### xs[i] = v, any sign -/
/-- the list's object behind a store -/
theorem mapSeq_set (its : List Value) (n j : Nat) (u : Value) : Obj.mapSeq (·.setIfInBounds j u) { cls := .type "list", data := .seq its.toArray n } = { cls := .type "list", data := .seq (its.set j u).toArray n } := by
  simp [Obj.mapSeq]
theorem Inv.lst {pins : List (Addr × Obj)} {σ : St} {H : Hp} {s : Shared} {p : Addr} {xs : List V} (I : Inv X pins σ H s) (h : H p = some (.lst xs)) :
    ∃ (its : List Value) (n : Nat), Vals xs its ∧ s.heap.get? p = some { cls := .type "list", data := .seq its.toArray n } ∧ xs.length ≤ sizeLine := by
  obtain ⟨z, its, n, r, e⟩ := I.hok p _ h
  exact ⟨its, n, r, e, z⟩
/-- the list at p is written by an update of its object -/
theorem Inv.lstUpd {pins : List (Addr × Obj)} {σ : St} {H : Hp} {s : Shared} {p : Addr} {xs ys : List V} {its its' : List Value} {n n' : Nat} {f : Obj → Obj} (I : Inv X pins σ H s) (h : H p = some (.lst xs))
    (ho : s.heap.get? p = some { cls := .type "list", data := .seq its.toArray n }) (hf : f { cls := .type "list", data := .seq its.toArray n } = { cls := .type "list", data := .seq its'.toArray n' }) (r : Vals ys its') (hz : ys.length ≤ sizeLine) (t : Nat) :
    Inv X pins σ (upd H p (.lst ys)) { s with heap := s.heap.update p f, toks := t } := by
  have e : (s.heap.update p f).get? p = some { cls := .type "list", data := .seq its'.toArray n' } := by
    rw [Heap.get?_update_self f ho (by rw [hf] <;> rfl), hf]
  refine I.write (x := p) (e := p) (by rw [h]; trivial) (.inl rfl) (fun b u hb q => (Heap.get?_update_other _ _ (Ne.symm hb)).trans q) ⟨_, e⟩ ?_
  exact ⟨hz, its', n', r, e⟩
def rSetL : V → V → V → Hp → (Hp → Prop) → Prop := fun o i v H Q => ∃ p xs k j, o = .ref p ∧ i = .int k ∧ H p = some (.lst xs) ∧ ixN xs.length k = some j ∧ Q (upd H p (.lst (xs.set j v)))
theorem set_list : PSet X rSetL := by
  intro pins s σ H o i v ov iv u Q I ro ri rv h
  obtain ⟨p, xs, k, j, rfl, rfl, hp, hj, q⟩ := h
  cases ro
  obtain ⟨t, rfl⟩ := ri
  obtain ⟨its, n, r, ho, hz⟩ := I.lst hp
  obtain ⟨h1, h2, h3, h4⟩ := ixN_seq hj
  have hl := r.length
  have hn := line63
  have I' : Inv X pins σ (upd H p (.lst (xs.set j v))) { s with heap := s.heap.update p (Obj.mapSeq (·.setIfInBounds j u)) } :=
    I.lstUpd hp ho (mapSeq_set its n j u) (r.set rv j) (by rw [List.length_set]; exact hz) s.toks
  by_cases h0 : 0 ≤ k
  · have hk : k.toNat = j := by
      rw [seqIndex_of h0 h4] at h1
      exact Option.some.inj h1
    exact PySem.W.ki_setAt ho h0 (by omega) (by rw [List.size_toArray, ← hl]; exact h4) (by rw [hk]; exact ⟨_, I', q⟩)
  · have hk : (k + (its.toArray.size : Int)).toNat = j := by
      rw [seqIndex_neg (by omega) h3] at h1
      rw [List.size_toArray, ← hl]
      exact Option.some.inj h1
    exact PySem.W.ki_setBack ho (by omega) (by rw [List.size_toArray, ← hl]; exact h3) (by omega) (by rw [hk]; exact ⟨_, I', q⟩)

/-! ### slices -/
/-! ### in, not in: flat items -/
/-! ### len, list(x), tuple(x) of any list or tuple that is read -/
theorem call_len_seq : CallR X (.builtin "len") (fun xs H Q => ∃ p ys, xs = [.ref p] ∧ (SqL X.K H p ys ∨ SqT X.K H p ys) ∧ Q (.int ys.length) H) := by
  intro pins s σ H xs us Q I r h
  obtain ⟨p, ys, rfl, hq, q⟩ := h
  obtain ⟨u, rfl, rx⟩ := vals1 r
  cases rx
  have hn := line63
  rcases hq with hq | hq
  · obtain ⟨its, r', pl, hz⟩ := I.list hq
    have hlen := r'.length
    exact Calls.call_len_list pl.isList (by simp only [List.size_toArray] <;> omega) ⟨.int ys.length, H, I.tok _, ⟨s.toks + 1, by rw [List.size_toArray, hlen]⟩, q⟩
  · obtain ⟨its, r', pl, hz⟩ := I.tuple hq
    have hlen := r'.length
    exact len_tuple pl (by simp only [List.size_toArray] <;> omega) ⟨.int ys.length, H, I.tok _, ⟨s.toks + 1, by rw [List.size_toArray, hlen]⟩, q⟩
theorem CallR.or {f : Value} {r r' : List V → Hp → VK → Prop} (h : CallR X f r) (h' : CallR X f r') : CallR X f (fun xs H Q => r xs H Q ∨ r' xs H Q) := by
  intro pins s σ H xs us Q I rs q
  rcases q with q | q
  · exact h pins s σ H xs us Q I rs q
  · exact h' pins s σ H xs us Q I rs q
theorem call_tuple_of : CallR X (.type "tuple") (fun xs H Q => ∃ p ys, xs = [.ref p] ∧ ((SqL X.K H p ys ∧ ∀ l, H l = none → Q (.ref l) (upd H l (.tup ys))) ∨ (SqT X.K H p ys ∧ Q (.ref p) H))) := by
  intro pins s σ H xs us Q I r h
  obtain ⟨p, ys, rfl, h⟩ := h
  obtain ⟨u, rfl, rx⟩ := vals1 r
  cases rx
  rcases h with ⟨hq, q⟩ | ⟨hq, q⟩
  · obtain ⟨its, r', pl, hz⟩ := I.list hq
    have hlen := r'.length
    refine call_tuple_list pl.isList (fun h' kp => ?_) (by simp only [List.size_toArray] <;> omega)
    have I1 : Inv X pins σ H { s with heap := h' } := I.kept (t' := s.toks) kp
    have I2 : Inv X pins σ (upd H h'.objs.size (.tup ys)) { s with heap := h'.push { cls := .type "tuple", data := .seq its.toArray } } :=
      I1.laid (t' := s.toks) (fun b o e => Heap.get?_push_of_some _ e) (Nat.le_refl _) (show ObjOk X.prog X.w _ _ _ (.tup ys) from ⟨hz, its, r', IsTup.new _ _, _, Heap.get?_push_size _ rfl, rfl⟩)
    exact ⟨.ref h'.objs.size, _, I2, rfl, q _ (I1.hok.fresh (Nat.le_refl _))⟩
  · obtain ⟨its, r', pl, hz⟩ := I.tuple hq
    exact call_tuple_same pl ⟨.ref p, H, I, rfl, q⟩

/-! ### the call of a builtin's method: o.m(..) -/
/-- the value is of that builtin type -/
def tyV (K : PySem.W.Frag) (T : String) (x : V) (H : Hp) : Prop := match x with
  | .str _ => T = "str"
  | .int _ => T = "int"
  | .ref p => (T = "list" ∧ ∃ xs, SqL K H p xs) ∨ (T = "tuple" ∧ ∃ xs, SqT K H p xs) ∨
      (T = "dict" ∧ ((∃ kvs, H p = some (.dK kvs)) ∨ ∃ kvs, H p = some (.dT kvs))) ∨ (T = "set" ∧ ∃ S n, H p = some (.set S n))
  | _ => False
theorem tyV_is {pins : List (Addr × Obj)} {σ : St} {H : Hp} {s : Shared} {T : String} {x : V} {v : Value} (I : Inv X pins σ H s) (r : RelV x v) (ty : tyV X.K T x H) :
    s.TypeIs v T ∧ ∀ a, v = .ref a → ∃ ob, s.heap.get? a = some ob ∧ ob.dict = none := by
  cases x with
  | str z =>
    obtain ⟨t, rfl⟩ := r
    cases (show T = "str" from ty)
    exact ⟨typeIs_str s z t, fun _ e => nomatch e⟩
  | int i =>
    obtain ⟨t, rfl⟩ := r
    cases (show T = "int" from ty)
    exact ⟨typeIs_int s i t, fun _ e => nomatch e⟩
  | ref p =>
    cases r
    rcases ty with ⟨rfl, xs, hq⟩ | ⟨rfl, xs, hq⟩ | ⟨rfl, hk⟩ | ⟨rfl, S, n, hk⟩
    · obtain ⟨its, _, pl, _⟩ := I.list hq
      refine ⟨pl.isList.typeIs, fun a e => ?_⟩
      cases e
      obtain ⟨o, n, e, c, hd, _⟩ := pl
      exact ⟨o, e, hd⟩
    · obtain ⟨⟨ob, ho, hc⟩, o2, h2, hd⟩ := I.tupleN hq
      refine ⟨⟨ob, ho, hc⟩, fun a e => ?_⟩
      cases e
      exact ⟨o2, h2, hd⟩
    · have z : ∃ o, s.heap.get? p = some o ∧ o.ExactDict := by
        rcases hk with ⟨kvs, hk⟩ | ⟨kvs, hk⟩
        · obtain ⟨_, _, _, _, o, _, _, e, ex, _⟩ := I.hok p _ hk
          exact ⟨o, e, ex⟩
        · obtain ⟨_, _, _, _, o, _, _, e, ex, _⟩ := I.hok p _ hk
          exact ⟨o, e, ex⟩
      obtain ⟨o, e, ex⟩ := z
      refine ⟨⟨o, e, ex.1⟩, fun a e2 => ?_⟩
      cases e2
      exact ⟨o, e, ex.2.1⟩
    · obtain ⟨o, _, _, _, e, ex, _⟩ := I.hok p _ hk
      refine ⟨⟨o, e, ex.1⟩, fun a e2 => ?_⟩
      cases e2
      exact ⟨o, e, ex.2.1⟩
  | _ => exact False.elim ty
def tBM (K : PySem.W.Frag) (T : String) (r : V → List V → Hp → VK → Prop) (to : TE) (t : TA) : TE := fun σ H Q => to σ H fun x H1 => tyV K T x H1 ∧ t σ H1 fun xs H2 => r x xs H2 Q
variable {o e : Expr} {es : List Expr} {to : TE} {t : TA} {name : Str} {apos cpos : Pos} {T id : String} {r : V → List V → Hp → VK → Prop}
theorem pe_bm (pa : PlainAttrs T) (slot : Slot T name id) (hty : typeOf (.builtin id) = pure (.type "method_descriptor")) (hm : MtR X id r) (ho : PE X o to) (ha : PA X (e :: es) t)
    (hbase : attributeBase o name X.env (eval o X.env) = eval o X.env := by rfl)
    (hfew : ((backTo cpos (starEach (e :: es) X.env)).all (fun x => !x.1) && (backToKw cpos (keywordEach [] X.env)).all (fun x => x.1.isSome)
      && decide ((e :: es).length + ([] : List Keyword).length + (if ([] : List Keyword).isEmpty then 0 else 1) < 30)) = true := by rfl)
    (hline : (apos.endLine == cpos.line) = true := by rfl) (hs : starEach (e :: es) X.env = (false, eval e X.env) :: starEach es X.env := by rfl) (hplain : (backTo cpos (starEach es X.env)).any (·.1) = false := by rfl) :
    PE X (.Call (.Attribute o name apos) (e :: es) [] cpos) (tBM X.K T r to t) := by
  intro pins s σ H Q I h
  refine wpAny_Call_method_late hbase hfew hline rfl (thn (ho pins s σ H _ I h) fun v s1 ⟨x, H1, I1, r1, ty, q1⟩ => ?_)
  obtain ⟨h1, h2⟩ := tyV_is I1 r1 ty
  refine ⟨T, id, pa, slot, hty, h1, h2, ?_⟩
  have hA := ha cpos pins s1 σ H1 _ I1 q1
  rw [hs] at hA ⊢
  refine Calls.callWith_builtin (by show (false || (backTo cpos (starEach es X.env)).any (·.1)) = false; rw [hplain] <;> rfl) (Calls.evalArgs_plain ?_)
  exact thn hA fun us s2 ⟨vs, H2, I2, r2, q2⟩ => hm pins s2 σ H2 x vs v us Q I2 r1 r2 q2
/- xs.append(e), list.index on a module's tuple .. are MtR facts of 06m -/
end
end L2

namespace L2
open PySem PySem.Spec PyProof.Rows

def MtM (X : Cx) (id : String) (r : V → List V → Hp → VK → Prop) : Prop :=
  ∀ (pins : List (Addr × Obj)) (s : Shared) (σ : St) (H : Hp) (x : V) (xs : List V) (v : Value) (us : List Value) (Q : VK), Inv X pins σ H s → RelV x v → Vals xs us → r x xs H Q →
    wpAny (model X.prog X.w) X.A (call (.builtin id) (v :: us)) (EP X pins σ Q) X.xe s

/-! ### lists of values -/
theorem Vals.one : ∀ {x : V} {us : List Value}, Vals [x] us → ∃ u, us = [u] ∧ RelV x u
  | _, _, .cons r .nil => ⟨_, rfl, r⟩
theorem Vals.two : ∀ {x y : V} {us : List Value}, Vals [x, y] us → ∃ u v, us = [u, v] ∧ RelV x u ∧ RelV y v
  | _, _, _, .cons r (.cons q .nil) => ⟨_, _, rfl, r, q⟩
theorem Vals.zero : ∀ {us : List Value}, Vals [] us → us = []
  | _, .nil => rfl
theorem Vals.eraseIdx : ∀ {xs : List V} {us : List Value} (i : Nat), Vals xs us → Vals (xs.eraseIdx i) (us.eraseIdx i)
  | _, _, _, .nil => .nil
  | _, _, 0, .cons _ t => t
  | _, _, i + 1, .cons r t => .cons r (Vals.eraseIdx i t)
theorem Vals.reverse {xs : List V} {us : List Value} (h : Vals xs us) : Vals xs.reverse us.reverse := by
  induction h with
  | nil => exact .nil
  | cons r t ih => rw [List.reverse_cons, List.reverse_cons]; exact Vals.append ih (.cons r .nil)
theorem Vals.rep {xs : List V} {us : List Value} (h : Vals xs us) : ∀ k : Nat, Vals (List.replicate k xs).flatten (List.replicate k us).flatten
  | 0 => .nil
  | k + 1 => by
    rw [List.replicate_succ, List.replicate_succ, List.flatten_cons, List.flatten_cons]
    exact Vals.append h (Vals.rep h k)
theorem len_erase {α : Type} : ∀ (l : List α) (i : Nat), (l.eraseIdx i).length ≤ l.length
  | [], _ => Nat.le_refl _
  | _ :: _, 0 => Nat.le_succ _
  | _ :: r, i + 1 => Nat.succ_le_succ (len_erase r i)
section
variable {X : Cx} {pins : List (Addr × Obj)} {σ : St} {H : Hp} {s : Shared} {l b : Addr} {xs ys zs : List V}

/-! ### the two steps: a tracked list is rewritten, a new list is laid -/
theorem Inv.lset {its its' : List Value} {n : Nat} {f : Array Value → Array Value} {t' : Nat} (I : Inv X pins σ H s) (hH : H l = some (.lst xs))
    (e : s.heap.get? l = some { cls := .type "list", data := .seq its.toArray n }) (hf : f its.toArray = its'.toArray) (hv : Vals ys its') (hz : ys.length ≤ sizeLine) :
    Inv X pins σ (upd H l (.lst ys)) { s with heap := s.heap.update l (Obj.mapSeq f), toks := t' } := by
  have q := PySem.IsL.update e f
  rw [hf] at q
  refine I.write (x := l) (e := l) (by rw [hH]; exact trivial) (.inl rfl) (fun b' u hb hu => (Heap.get?_update_other s.heap (Obj.mapSeq f) (Ne.symm hb)).trans hu) ⟨_, q⟩ ?_
  exact ⟨hz, its', _, hv, q⟩
theorem Inv.fresh (I : Inv X pins σ H s) : H s.heap.objs.size = none := I.hok.fresh (Nat.le_refl _)
theorem Inv.lstM (I : Inv X pins σ H s) (hH : H l = some (.lst xs)) : xs.length ≤ sizeLine ∧ ∃ (its : List Value) (n : Nat), Vals xs its ∧ xs.length = its.length ∧ s.heap.get? l = some { cls := .type "list", data := .seq its.toArray n } := by
  obtain ⟨z, its, n, r, e⟩ := I.hok l _ hH
  exact ⟨z, its, n, r, r.length, e⟩

end

section
variable {X : Cx}

/-! ### methods -/
def rAppend : V → List V → Hp → VK → Prop := fun x vs H Q => ∃ l xs y, x = .ref l ∧ vs = [y] ∧ H l = some (.lst xs) ∧ xs.length < sizeLine ∧ Q .non (upd H l (.lst (xs ++ [y])))
theorem mt_append : MtM X "list.append" rAppend := by
  intro pins s σ H x vs v us Q I rx rv h
  obtain ⟨l, xs, y, rfl, rfl, hH, hz, q⟩ := h
  cases rx
  obtain ⟨u, rfl, ru⟩ := rv.one
  obtain ⟨z, its, n, r, hl, e⟩ := I.lstM hH
  refine call_meets F.slot_list_append ⟨_, e, rfl⟩ F.entry_list_append (F.args_list_append_2 _ _) (PySem.list_append l its.toArray n u (by rw [List.size_toArray]; omega)) ⟨e, ?_⟩
  refine ⟨.non, _, I.lset (its' := its ++ [u]) hH e (by simp) (r.append (.cons ru .nil)) ?_, rfl, q⟩
  rw [List.length_append, List.length_singleton]
  omega

def rPopAt : V → List V → Hp → VK → Prop := fun x vs H Q => ∃ l xs i k y, x = .ref l ∧ vs = [.int i] ∧ H l = some (.lst xs) ∧ -(2 ^ 63) ≤ i ∧ i < 2 ^ 63 ∧ seqIndex? i xs.length = some k ∧ xs[k]? = some y ∧ Q y (upd H l (.lst (xs.eraseIdx k)))
theorem mt_popAt : MtM X "list.pop" rPopAt := by
  intro pins s σ H x vs v us Q I rx rv h
  obtain ⟨l, xs, i, k, y, rfl, rfl, hH, h1, h2, hk, hy, q⟩ := h
  cases rx
  obtain ⟨u, rfl, ru⟩ := rv.one
  obtain ⟨t, rfl⟩ := ru
  obtain ⟨z, its, n, r, hl, e⟩ := I.lstM hH
  obtain ⟨w, hw, rw'⟩ := r.get hy
  refine call_meets F.slot_list_pop ⟨_, e, rfl⟩ F.entry_list_pop (F.args_list_pop_2 _ _)
    (MeetsSeq.list_pop_at l its.toArray n i t k w (fitsIndex_both h1 h2) (by rw [List.size_toArray, ← hl]; exact hk) (by rw [← Array.getElem?_toList]; exact hw) (by rw [List.size_toArray]; omega)) ⟨e, ?_⟩
  refine ⟨y, _, I.lset (its' := its.eraseIdx k) hH e ?_ (r.eraseIdx k) ?_, rw', q⟩
  · show its.toArray.eraseIdxIfInBounds k = (its.eraseIdx k).toArray
    rw [List.eraseIdxIfInBounds_toArray]
  · have := len_erase xs k
    omega

/-! ### list + list, list += list, list * int -/
/-! ### del xs[i] -/
end

/-! ### xs[a:b] = ys -/
section
variable {prog : Program} {w : World} {A : Around} {E : Value → Shared → Prop} {s : Shared}
end

section
variable {X : Cx}
end
end L2

namespace Att
open PySem PySem.W PySem.Calls PyProof.Rows

/-! ### the script -/
theorem ints_of_wellAll {P : Params} {h : Heap} : ∀ (ns : List Int) (vs : List Value), WellAll P h vs (ns.map WData.int) → IntsAre vs ns := by
  intro ns
  induction ns with
  | nil =>
    intro vs w
    rw [List.map_nil] at w
    cases w
    exact .nil
  | cons n ns ih =>
    intro vs w
    rw [List.map_cons] at w
    cases w with
    | cons a b =>
      cases a
      exact .cons _ _ (ih _ b)

theorem script_of {l : OpenLaw} {n : Nat} (hn : l.most = some n) {P : Params} {h : Heap} {args : List WData} {vals : List Value}
    (hpre : l.row.toRowW.claim.pre args = true) (hwl : WellAll P h vals args) :
    ∃ a vs ns, vals = [Value.ref a] ∧ args = [WData.list (ns.map WData.int)] ∧ h.get? a = some { cls := .type "list", data := .seq vs.toArray } ∧ IntsAre vs ns ∧ ns.length ≤ n := by
  have hsh : WShape.hasAll [] args [.list .int] = true := (pre_splitW hpre).1
  have hc : l.pre.holds [] { args := args } = true := (pre_splitW hpre).2
  obtain ⟨d, r, rfl, h1, h2⟩ := hasAllW_cons hsh
  obtain rfl := hasAllW_nil h2
  obtain ⟨xs, rfl, h3⟩ := hasW_list h1
  obtain ⟨ns, rfl⟩ := items_int h3
  have hlen : ns.length ≤ n := by
    unfold OpenLaw.pre at hc
    have h4 : (WTm.not (.lt (.lit (.int (n : Int))) (.len (.arg 0)))).holds [] { args := [.list (ns.map .int)] } = true := by
      have h4 := (holds_andW hc).1
      rw [hn] at h4
      exact h4
    have h5 := condW_of h4 (w_not (w_lt w_lit (w_len_list (w_arg rfl))))
    rw [List.length_map] at h5
    refine Nat.le_of_not_lt fun q => ?_
    have q' : (n : Int) < ((ns.length : Nat) : Int) := by omega
    first
      | (rw [decide_eq_true q'] at h5; exact absurd h5 (by decide))
      | (simp at h5; omega)
  cases hwl with
  | cons w1 w2 =>
    cases w2
    cases w1 with
    | list ho hall => exact ⟨_, _, ns, rfl, rfl, ho, ints_of_wellAll ns _ hall, hlen⟩

theorem post_true (l : OpenLaw) (args : List WData) : l.row.toRowW.claim.post args (.bool true) args = true :=
  postW_of (r := l.row.toRowW) (X := (true == true))
    (show WShape.has [] (.bool true) .bool = true by first | rfl | decide | simp [WShape.has, WShape.arms, WShape.armsAll])
    (show (WTm.eq .res (.lit (.bool true))).value [] { args := args, res := some (.bool true), after := args } = some (.bool (true == true)) from w_eq_bool (w_res rfl) w_lit) rfl

/-! ### the attachment: holds_open's last premise (the goal 'hc' behind k_head) from a wpAny of the law's body -/
/-- the same from a codeAny of the CALL (for a layer whose function contracts speak of calls) -/
theorem attach_call {l : OpenLaw} {n : Nat} {q : Program} {loose : List Str} {XP : (Str → Option Value) → Heap → Prop} {YP : World → Heap → Prop} {d : DefRec}
    (hn : l.most = some n) (hdf : d.params.defaults = [])
    (call : ∀ (w : World) (s₀ s₁ : Shared) (mg mb : Str → Option Value) (fa : Addr) (o : Obj) (pm cd doc : Value) (a : Addr) (vs : List Value) (ns : List Int),
      Ground q loose [] XP w s₀ mg mb s₁.heap → YP w s₁.heap →
      s₁.heap.get? fa = some o → o.data = .func (docDef d.name d.params d.body d.scope pm cd doc) → s₁.heap.CodeRec cd d.name → mg d.name = some (.ref fa) →
      s₁.heap.get? a = some { cls := .type "list", data := .seq vs.toArray } → IntsAre vs ns → ns.length ≤ n → s₁.gens = #[] →
      codeAny (model l.prog w) callerA (.call (.ref fa) ⟨[.ref a], []⟩) (fun r s' => r = .ok (.ret (.bool true)) ∧ OldK s₁.heap s'.heap ∧ s'.os = s₁.os ∧ AllBare s'.gens) s₁) :
    WalkO q loose XP YP l.row.toRowW d [] (fun f vs => PySem.call f vs) := by
  intro w s₀ s₁ mg mb G Y fa o pm cd doc dV kV ho hd hcd hD hmg hg args vals as hpre hlay hrd hwl hlo
  obtain rfl : dV = .none := Dflts.none hD hdf
  obtain rfl : kV = .none := Dflts.noKw hD
  obtain ⟨a, vs, ns, rfl, rfl, hobj, hints, hlen⟩ := script_of hn hpre hwl
  refine enter_call (codeAny_mono (call w s₀ s₁ mg mb fa o pm cd doc a vs ns G Y ho (fd_plain hd) hcd hmg hobj hints hlen hg) fun r s' hq => ?_)
  obtain ⟨rfl, h2, h3, h4⟩ := hq
  exact ⟨.inl ⟨.bool true, .bool true, [], rfl, fun _ => rfl, .bool true, post_true l _, fun _ => ⟨List.Pairwise.nil, fun _ hm => (nomatch hm)⟩⟩, h2, h3, h4⟩

/-! ### rules over ANY heap (no ledger) from facts about the written part K: the library's own take a ledger (News) for what they write -/
section
variable {prog : Program} {w : World} {A : Around} {E : Value → Shared → Prop} {s : Shared} {K : Frag}

/-! the whole heap as the ledger: makes every rule that writes through a ledger a rule over any heap -/
def ledger (h : Heap) (L d : Addr) : List (Addr × Obj) := (List.range h.objs.size).filterMap fun a => if a = L ∨ a = d then none else (h.get? a).map fun o => (a, o)
end
end Att

namespace L2
open PySem PySem.Spec PyProof.Rows

theorem vals_ints : ∀ {vs : List Value} {ns : List Int}, IntsAre vs ns → Vals (ns.map V.int) vs
  | _, _, .nil => .nil
  | _, _, .cons n t h => .cons ⟨t, rfl⟩ (vals_ints h)

/-- nothing is tracked but the script, known to the object (or it is an object of the module) -/
def Only (H : Hp) : Prop := ∀ b, H b = none ∨ ∃ o xs, H b = some (.frz o (.lst xs))

/-- THE HEAD: the law's promise, at the heap behind the top. F, the promise of the law's def, may use that base is part of the heap (so K.In base, base.Ns mainGlobals mg stand in Mod) -/
theorem law_call {P : Program} {w : World} {K : PySem.W.Frag} {mg mb : Str → Option Value} {CX : CXT} {k : Nat} {fa a : Addr} {fd : FuncData} {x : Str} {sp : Sp} {s₁ : Shared} {vs : List Value} {ns : List Int}
    (KX : K.In s₁.heap) (hns : s₁.heap.Ns mainGlobals mg) (hb : s₁.heap.Ns builtinsNs mb) (hbb : ∀ x : Str, x ≠ "__name__" → mb x = bootBuiltins x) (hlim : s₁.heap.NoLimit) (hg : s₁.gens = #[])
    (ha : s₁.heap.get? a = some { cls := .type "list", data := .seq vs.toArray }) (hi : IntsAre vs ns) (hl : ns.length ≤ sizeLine) (hr : Room k callerA)
    (F : ∀ base : Heap, K.In base → base.Ns mainGlobals mg → FnOk P w K mg base CX k fa fd [x] sp) (hbind : ∀ (s : Shared) (u : Value), BindsTo s fd ⟨[u], []⟩ [(x, u)])
    (hsp : ∀ H : Hp, Only H → SqL K H a (ns.map V.int) → sp [.ref a] H (fun v _ => v = .bl true) fun _ _ _ => False)
    (hCX : ∀ H e s', CX [] H s₁ (fun _ _ _ => False) e s' → False) :
    codeAny (model P w) callerA (.call (.ref fa) ⟨[.ref a], []⟩) (fun r s' => r = .ok (.ret (.bool true)) ∧ OldK s₁.heap s'.heap ∧ s'.os = s₁.os ∧ AllBare s'.gens) s₁ := by
  have rv := vals_ints hi
  have lenV := hi.length
  -- from an abstract heap in which nothing but the script may be tracked
  have core : ∀ H : Hp, Only H → SqL K H a (ns.map V.int) → HOk P w H s₁.heap → (∀ b, H b ≠ none → b = a) → (H a ≠ none → K.lookup a = none) →
      codeAny (model P w) callerA (.call (.ref fa) ⟨[.ref a], []⟩) (fun r s' => r = .ok (.ret (.bool true)) ∧ OldK s₁.heap s'.heap ∧ s'.os = s₁.os ∧ AllBare s'.gens) s₁ := by
    intro H hO hS hok hA hK
    have base_of : ∀ {b : Addr} {o : Obj}, s₁.heap.get? b = some o → H b = none → (hidT s₁.heap H).get? b = some o := fun e n => hidT_get e n
    have noA : ∀ {b : Addr} {o : Obj} {es : Array DictEntry} {ep : Nat}, s₁.heap.get? b = some o → o.data = .dict es ep → H b = none := fun {b o es ep} e d => by
      cases q : H b with
      | none => rfl
      | some u =>
        have e' : b = a := hA b (by rw [q]; simp)
        subst e'
        rw [ha] at e; cases e
        have d' : Data.seq vs.toArray _ = Data.dict es ep := d
        cases d'
    have nsK : ∀ {b : Addr} {m : Str → Option Value}, s₁.heap.Ns b m → (hidT s₁.heap H).Ns b m := fun {b m} ⟨o, es, ep, e, d, r⟩ => ⟨o, es, ep, base_of e (noA e d), d, r⟩
    have hKb : K.In (hidT s₁.heap H) := fun b o e => base_of (KX b o e) (by
      cases q : H b with
      | none => rfl
      | some u =>
        have e' : b = a := hA b (by rw [q]; simp)
        subst e'
        rw [hK (by rw [q]; simp)] at e; cases e)
    have hM : Mod K mg (hidT s₁.heap H) := ⟨hKb, nsK hns, ⟨mb, nsK hb, hbb⟩, let ⟨mc, h1, h2⟩ := hlim; ⟨mc, nsK h1, h2⟩⟩
    have e0 : Env0 P w K mg (hidT s₁.heap H) callerA [] s₁ H := ⟨rfl, hM, fun b o e => of_hidT e, Nat.le_of_eq (hidT_size _ _), trivial, fun b hb => absurd (show b ∈ ([] : List Addr) from hb) (by simp), hok, .of_eq hg⟩
    refine codeAny_mono ((F _ hKb (nsK hns)).run callerA [] s₁ H ⟨[.ref a], []⟩ [.ref a] [.ref a] _ _ hr e0 (hbind s₁ (.ref a)) (.cons rfl .nil) (hsp H hO hS)) fun r s' h => ?_
    cases r with
    | error e => exact (hCX H e s' h).elim
    | ok fl =>
      cases fl with
      | next => exact False.elim h
      | brk => exact False.elim h
      | cont => exact False.elim h
      | ret u =>
        obtain ⟨v, H', os, bare, un, hok', r', q⟩ := h
        have q' : v = .bl true := q
        subst q'
        obtain rfl : u = Value.bool true := r'
        refine ⟨rfl, OldK.of_keep fun b o e => ?_, os, bare⟩
        cases q : H b with
        | none => exact un.keep b o e q (by intro z; exact absurd (show b ∈ ([] : List Addr) from z) (by simp)) (by simp)
        | some u =>
          rcases hO b with z | ⟨ob, xs, z⟩
          · rw [q] at z; cases z
          · have z2 := un.frzs b ob _ z
            obtain ⟨e1, _⟩ := hok b _ z
            obtain ⟨e2, _⟩ := hok' b _ z2
            rw [e] at e1; cases e1
            exact e2
  cases hk : K.lookup a with
  | some o =>
    -- the script is one of the module's own objects
    have e := KX a o hk
    rw [ha] at e
    cases e
    refine core (fun _ => none) (fun _ => .inl rfl) (.inr ⟨_, vs.toArray, _, hk, rfl, rfl, rfl, by rw [List.size_toArray, lenV]; exact hl, by simpa using rv⟩) (fun b u z => by have z' : (none : Option HO) = some u := z; cases z') (fun b z => absurd rfl z) fun z => absurd rfl z
  | none =>
    refine core (fun b => if b = a then some (.frz { cls := .type "list", data := .seq vs.toArray } (.lst (ns.map V.int))) else none) (fun b => ?_) (.inl (.inr ⟨{ cls := .type "list", data := .seq vs.toArray }, if_pos rfl⟩)) (fun b u z => ?_) (fun b z => ?_) fun _ => hk
    · by_cases hb : b = a
      · exact .inr ⟨_, _, if_pos hb⟩
      · exact .inl (if_neg hb)
    · by_cases hb : b = a
      · have z' := (if_pos hb).symm.trans z
        cases z'
        subst hb
        exact ⟨ha, by rw [List.length_map]; exact hl, vs, _, rv, ha⟩
      · have z' := (if_neg hb).symm.trans z
        cases z'
    · by_cases hb : b = a
      · exact hb
      · exact absurd (if_neg hb) z
end L2

namespace L2
open PySem PySem.Spec PyProof.Rows

abbrev KOf {K : PySem.W.Frag} {h : Heap} (_ : K.In h) : PySem.W.Frag := K

/-- the goal that k_head leaves (case hc), from the law's promise. F gives the function object fd (K's own) once, then the promise over every base -/
theorem walk_of {l : PySem.W.OpenLaw} {n k : Nat} {q : Program} {loose : List Str} {XP : (Str → Option Value) → Heap → Prop} {YP : World → Heap → Prop} {d : DefRec} {K : Params → PySem.W.Frag} {CX : World → CXT} {sp : World → Sp} {x : Str}
    (hn : l.most = some n) (hn2 : n ≤ sizeLine) (hdf : d.params.defaults = []) (hr : Room k callerA)
    (hY : ∀ (w : World) (h : Heap), YP w h → (K w.params).In h)
    (F : ∀ (w : World) (mg : Str → Option Value) (fa : Addr) (h : Heap), (K w.params).In h → h.Ns mainGlobals mg → mg d.name = some (.ref fa) →
      ∃ fd : FuncData, (∀ (s : Shared) (u : Value), BindsTo s fd ⟨[u], []⟩ [(x, u)]) ∧
        ∀ base : Heap, (K w.params).In base → base.Ns mainGlobals mg → FnOk l.prog w (K w.params) mg base (CX w) k fa fd [x] (sp w))
    (hsp : ∀ (w : World) (H : Hp) (a : Addr) (ns : List Int), ns.length ≤ n → Only H → SqL (K w.params) H a (ns.map V.int) → sp w [.ref a] H (fun v _ => v = .bl true) fun _ _ _ => False)
    (hCX : ∀ (w : World) (H : Hp) (s : Shared) (e : Value) (s' : Shared), CX w [] H s (fun _ _ _ => False) e s' → False) :
    PySem.W.WalkO q loose XP YP l.row.toRowW d [] (fun f vs => PySem.call f vs) := by
  refine Att.attach_call hn hdf fun w s₀ s₁ mg mb fa o pm cd doc a vs ns G Y ho hd hcd hmg hobj hints hlen hg => ?_
  have KX := hY w _ Y
  obtain ⟨fd, hb, hF⟩ := F w mg fa _ KX G.T.g hmg
  exact law_call KX G.T.g G.T.b G.T.builtins G.T.nolimit hg hobj hints (Nat.le_trans hlen hn2) hr hF hb (fun H hO hS => hsp w H a ns hlen hO hS) fun H e s' => hCX w H s₁ e s'
end L2

/- THE LAST THEOREM (shape; LID, My.* are yours):
   My.Adr: a structure of the addresses that your layer names (classes, functions); My.Txt K t: a structure (Prop) of the equations over K;
   My.txt_mk : {K} {implicit addresses ..} (e1 : nsIn K mainGlobals "law" = some (some (.ref f))) (e2 : K.lookup f = some ⟨oc, od, .func (fnOf "law" "law" params body scope dV kV doc pm an cdv ct), sl⟩) (e3 : codeIn K cdv "law" = true) .. : ∃ t, My.Txt K t

set_option maxRecDepth 100000 in
set_option maxHeartbeats 0 in
theorem PySem.Challenge.cw_LID_holds : PySem.Challenge.rw_LID.Holds := by
  w_on; o_law; k_head; (case hw => w_witness2)
  k_fill
  refine L2.walk_of (l := PySem.Challenge.rw_LID) (n := 63) (k := 40) (x := "script") (CX := fun w => ..) (sp := fun _ => My.sp_law) rfl (by decide) rfl ⟨rfl, by decide, by decide⟩ (fun w h Y => PySem.W.kIn_of Y) ?F ?S ?C
  case F =>
    intro w mg fa h KX G hmg
    have T : ∃ t, My.Txt (L2.KOf KX) t := by
      dsimp only [L2.KOf]                          -- K must stand as «<heap const> w.params» for k_is
      refine' My.txt_mk ?e1 ?e2 ?e3 ..
      (case e1 => PySem.W.k_is)                    -- in the order: a name -> its address -> its object -> its parts
      (case e2 => PySem.W.k_is)
      ..
    obtain ⟨t, T⟩ := T
    have e0 := hmg.symm.trans (PySem.W.mg_of KX G T.law)
    cases e0                                       -- fa is the law's own address
    exact ⟨_, fun s u => .of_eq rfl, fun base kb nb => My.law_fn T kb nb⟩     -- if «.of_eq rfl» comes too early: refine' ⟨_, ?b, fun base kb nb => My.law_fn T kb nb⟩; exact fun s u => .of_eq rfl
  case S => exact fun w H a ns hl hO hS => ..
  case C => exact ..
(the tactic k_is has no namespace: write k_is) -/

/-! SHORT WORDS over the layer: a def of the text, its body, what a loop and a test want. -/
namespace L2
open PySem PySem.Spec PyProof.Rows

/-! ### the text by places -/
def defArgs (s : Stmt) : Arguments := match s with
  | .FunctionDef _ a _ _ _ _ _ _ _ _ => a
  | _ => { posonlyargs := [], args := [], vararg := none, kwonlyargs := [], kw_defaults := [], kwarg := none, defaults := [] }
def defBody (s : Stmt) : List Stmt := match s with
  | .FunctionDef _ _ b _ _ _ _ _ _ _ => b
  | _ => []
def defScope (s : Stmt) : Scope := match s with
  | .FunctionDef _ _ _ _ _ _ sc _ _ _ => sc
  | _ => { kind := .function, names := [], isGenerator := false, isCoroutine := false }

/-! ### no exception leaves a def -/
abbrev CX0 : CXT := fun _ _ _ _ _ _ => False
abbrev E0 : XK := fun _ _ _ => False
theorem pass0 {X : Cx} : Passes CX0 X E0 := fun _ _ _ _ _ _ _ h => h.elim

/-! ### a def (or method) of the text as it stands behind the top -/
structure Fun (K : PySem.W.Frag) (x qual : Str) (st : Stmt) (f : Addr) (fd : FuncData) : Prop where
  ex : ∃ (oc : Value) (od : Option Addr) (kV doc pm : Value) (an : Option Addr) (cdv ct : Value) (osl : Array (Option Value)),
    fd = PySem.W.fnOf x qual (defArgs st) (defBody st) (defScope st) .none kV doc pm an cdv ct ∧ K.lookup f = some ⟨oc, od, .func fd, osl⟩ ∧ PySem.W.codeIn K cdv qual = true
  kp : PySem.W.keepIn K (.ref f) = true
section
variable {P : Program} {w : World} {K : PySem.W.Frag} {mg : Str → Option Value} {base : Heap}
/-- THE RULE for a def: its body as a term of rules, and the reading of that term -/
theorem Fun.ok {x qual : Str} {st : Stmt} {f : Addr} {fd : FuncData} {N ps : List Str} {k : Nat} {sp : Sp} (F : Fun K x qual st f fd) (S : FnScope N ps (defScope st)) (len : ∀ vs H Q E, sp vs H Q E → vs.length = ps.length)
    (hbody : ∀ (cdv : Value) (A : Around) (outer : List Env) (s : Shared) (H : Hp) (vs : List V) (Q : VK) (E : XK), Room k (A.deeper (envOfC qual (defScope st) s.heap.objs.size f cdv)) → sp vs H Q E →
      ∃ t, PSs (cxOf CX0 P w K mg base N qual (defScope st) f cdv A outer s H E).nox (defBody st) t ∧ t { nx := fun _ H' => Q .non H', rt := Q } (start N vs) H) : FnOk P w K mg base CX0 (k + 1) f fd ps sp := by
  obtain ⟨oc, od, kV, doc, pm, an, cdv, ct, osl, rfl, lk, hcd⟩ := F.ex
  refine fn_of lk hcd S len fun A outer s H vs Q E hr hsp => ?_
  obtain ⟨t, h, q⟩ := hbody cdv A outer s H vs Q E hr hsp
  exact ⟨t, h.nox, q⟩
/-- how its arguments bind (no defaults): h is «fun _ _ _ _ _ _ us hl => match us, hl with | [_, _], _ => rfl», one _ a parameter -/
theorem Fun.binds {x qual : Str} {st : Stmt} {f : Addr} {fd : FuncData} {ps : List Str} (F : Fun K x qual st f fd)
    (h : ∀ (kV doc pm : Value) (an : Option Addr) (cdv ct : Value) (us : List Value), us.length = ps.length → bindArgs (PySem.W.fnOf x qual (defArgs st) (defBody st) (defScope st) .none kV doc pm an cdv ct) ⟨us, []⟩ = pure (ps.zip us)) : Binds K fd ps [] := by
  obtain ⟨oc, od, kV, doc, pm, an, cdv, ct, osl, rfl, lk, hcd⟩ := F.ex
  exact .all (h kV doc pm an cdv ct)
theorem fun_mk {x qual : Str} {st : Stmt} {f : Addr} {oc : Value} {od an : Option Addr} {osl : Array (Option Value)} {kV doc pm cdv ct : Value} (l : K.lookup f = some ⟨oc, od, .func (PySem.W.fnOf x qual (defArgs st) (defBody st) (defScope st) .none kV doc pm an cdv ct), osl⟩)
    (c : PySem.W.codeIn K cdv qual = true) (k : PySem.W.keepIn K (.ref f) = true) : Fun K x qual st f (PySem.W.fnOf x qual (defArgs st) (defBody st) (defScope st) .none kV doc pm an cdv ct) := ⟨⟨oc, od, kV, doc, pm, an, cdv, ct, osl, rfl, l, c⟩, k⟩
end
theorem hu_of {A : Around} {k : Nat} (hr : Room k A) : A.units + 1 < cLine := Nat.lt_of_le_of_lt (Nat.add_le_add_left (by decide : 1 ≤ 64) _) hr.units
theorem small1000 {n : Nat} (h : n ≤ 1000) : n < sizeLine := Nat.lt_of_le_of_lt h (by decide)

/-! ### expressions in short: the name that stands in the i-th slot -/
section
variable {X : Cx}
theorem pv (i : Nat) {x : Str} {pos : Pos} (hN : X.N[i]? = some x := by rfl) (hv : Vis X.env.scope x := by first | exact Or.inl rfl | exact Or.inr (Or.inl rfl) | exact Or.inr (Or.inr rfl)) (hd : (x == ("__debug__" : Str)) = false := by decide)
    (hcd : (x == ("__classdict__" : Str)) = false := by decide) : PE X (.Name x pos) (tVar i) := pe_var hN hv hd hcd
end

/-! ### tests -/
theorem iteF {A B : Prop} (h : B) : if false = true then A else B := by
  rw [if_neg Bool.false_ne_true]
  exact h
theorem iteT {A B : Prop} (h : A) : if true = true then A else B := by
  rw [if_pos rfl]
  exact h
/-! ### heaps -/
/-- all that was tracked is as it was -/
def Same (H H' : Hp) : Prop := ∀ b o, H b = some o → H' b = some o
theorem Same.refl (H : Hp) : Same H H := fun _ _ h => h
theorem Same.trans {H H1 H2 : Hp} (a : Same H H1) (b : Same H1 H2) : Same H H2 := fun c o h => b c o (a c o h)
theorem Same.free {H H' : Hp} (e : Same H H') {l : Addr} (h : H' l = Option.none) : H l = Option.none := by
  cases q : H l with
  | none => rfl
  | some o =>
    rw [e l o q] at h
    cases h
theorem Same.seq {K : PySem.W.Frag} {H H' : Hp} {a : Addr} {xs : List V} (e : Same H H') (h : SqL K H a xs) : SqL K H' a xs := by
  rcases h with (h | ⟨o, h⟩) | h
  · exact .inl (.inl (e _ _ h))
  · exact .inl (.inr ⟨o, e _ _ h⟩)
  · exact .inr h

end L2
set_option Elab.async false
set_option linter.all false
set_option maxRecDepth 100000
namespace L2
open PySem PySem.Spec PyProof.Rows

/-! data without addresses -/
inductive D where
  | non | bl (b : Bool) | int (i : Int) | str (x : Str) | tup (ds : List D) | lst (ds : List D)
  /-- a list that is only read: the script -/
  | scr (ds : List D)

def SqR (K : PySem.W.Frag) (H : Hp) (a : Addr) (xs : List V) : Prop :=
  (∃ o, H a = some (.frz o (.lst xs))) ∨
    ∃ (o : Obj) (its : Array Value) (n : Nat), K.lookup a = some o ∧ o.cls = .type "list" ∧ o.dict = none ∧ o.data = .seq its n ∧ its.size ≤ sizeLine ∧ Vals xs its.toList
theorem SqR.seq {K : PySem.W.Frag} {H : Hp} {a : Addr} {xs : List V} (h : SqR K H a xs) : SqL K H a xs := h.elim (fun h => .inl (.inr h)) .inr
theorem Same.seqR {K : PySem.W.Frag} {H H' : Hp} {a : Addr} {xs : List V} (e : Same H H') (h : SqR K H a xs) : SqR K H' a xs := h.elim (fun ⟨o, h⟩ => .inl ⟨o, e _ _ h⟩) .inr

mutual
inductive Rep (K : PySem.W.Frag) (F : Hp) : V → D → Prop
  | non : Rep K F .non .non
  | bl {b : Bool} : Rep K F (.bl b) (.bl b)
  | int {i : Int} : Rep K F (.int i) (.int i)
  | str {x : Str} : Rep K F (.str x) (.str x)
  | tup {a : Addr} {xs : List V} {ds : List D} : SqT K F a xs → Reps K F xs ds → Rep K F (.ref a) (.tup ds)
  | lst {a : Addr} {xs : List V} {ds : List D} : F a = some (.lst xs) → Reps K F xs ds → Rep K F (.ref a) (.lst ds)
  | scr {a : Addr} {xs : List V} {ds : List D} : SqR K F a xs → Reps K F xs ds → Rep K F (.ref a) (.scr ds)
inductive Reps (K : PySem.W.Frag) (F : Hp) : List V → List D → Prop
  | nil : Reps K F [] []
  | cons {x : V} {d : D} {xs : List V} {ds : List D} : Rep K F x d → Reps K F xs ds → Reps K F (x :: xs) (d :: ds)
end

theorem Same.seqT {K : PySem.W.Frag} {H H' : Hp} {a : Addr} {xs : List V} (e : Same H H') (h : SqT K H a xs) : SqT K H' a xs := by
  rcases h with (h | ⟨o, h⟩) | h
  · exact .inl (.inl (e _ _ h))
  · exact .inl (.inr ⟨o, e _ _ h⟩)
  · exact .inr h

mutual
theorem Rep.mono {K : PySem.W.Frag} {F G : Hp} (s : Same F G) : ∀ {v : V} {d : D}, Rep K F v d → Rep K G v d
  | _, _, .non => .non
  | _, _, .bl => .bl
  | _, _, .int => .int
  | _, _, .str => .str
  | _, _, .tup h r => .tup (Same.seqT s h) (Reps.mono s r)
  | _, _, .lst h r => .lst (s _ _ h) (Reps.mono s r)
  | _, _, .scr h r => .scr (Same.seqR s h) (Reps.mono s r)
theorem Reps.mono {K : PySem.W.Frag} {F G : Hp} (s : Same F G) : ∀ {v : List V} {d : List D}, Reps K F v d → Reps K G v d
  | _, _, .nil => .nil
  | _, _, .cons r t => .cons (Rep.mono s r) (Reps.mono s t)
end

section
variable {K : PySem.W.Frag} {F G H : Hp}
theorem Reps.length : ∀ {xs : List V} {ds : List D}, Reps K F xs ds → xs.length = ds.length
  | _, _, .nil => rfl
  | _, _, .cons _ t => by simp [t.length]
theorem Reps.get : ∀ {xs : List V} {ds : List D} {i : Nat} {d : D}, Reps K F xs ds → ds[i]? = some d → ∃ x, xs[i]? = some x ∧ Rep K F x d
  | _, _, _, _, .nil, e => by simp at e
  | _, _, 0, _, .cons r _, e => by simp at e; subst e; exact ⟨_, rfl, r⟩
  | _, _, i + 1, d, .cons _ t, e => by
    obtain ⟨u, h1, h2⟩ := Reps.get (i := i) (d := d) t (by simpa using e)
    exact ⟨u, by simpa using h1, h2⟩
theorem Reps.get' {xs : List V} {ds : List D} {i : Nat} {x : V} (r : Reps K F xs ds) (e : xs[i]? = some x) : ∃ d, ds[i]? = some d ∧ Rep K F x d := by
  have hl := r.length
  have hi := (List.getElem?_eq_some_iff.mp e).1
  have e2 : ds[i]? = some ds[i] := List.getElem?_eq_getElem (by omega)
  obtain ⟨y, h1, h2⟩ := r.get e2
  rw [e] at h1; cases h1
  exact ⟨_, e2, h2⟩
theorem Reps.append : ∀ {xs ys : List V} {us ws : List D}, Reps K F xs us → Reps K F ys ws → Reps K F (xs ++ ys) (us ++ ws)
  | _, _, _, _, .nil, s => s
  | _, _, _, _, .cons r t, s => .cons r (Reps.append t s)
theorem Reps.set {x : V} {u : D} (r : Rep K F x u) : ∀ {xs : List V} {us : List D} (i : Nat), Reps K F xs us → Reps K F (xs.set i x) (us.set i u)
  | _, _, _, .nil => .nil
  | _, _, 0, .cons _ t => .cons r t
  | _, _, i + 1, .cons q t => .cons q (Reps.set r i t)
theorem Reps.eraseIdx : ∀ {xs : List V} {us : List D} (i : Nat), Reps K F xs us → Reps K F (xs.eraseIdx i) (us.eraseIdx i)
  | _, _, _, .nil => .nil
  | _, _, 0, .cons _ t => t
  | _, _, i + 1, .cons q t => .cons q (Reps.eraseIdx i t)
theorem Reps.reverse {xs : List V} {us : List D} (h : Reps K F xs us) : Reps K F xs.reverse us.reverse := by
  induction xs generalizing us with
  | nil => cases h; exact .nil
  | cons x xs ih =>
    cases h with
    | cons r t => simp only [List.reverse_cons]; exact (ih t).append (.cons r .nil)
theorem Reps.take : ∀ {xs : List V} {us : List D} (n : Nat), Reps K F xs us → Reps K F (xs.take n) (us.take n)
  | _, _, 0, _ => .nil
  | _, _, _ + 1, .nil => .nil
  | _, _, n + 1, .cons r t => .cons r (Reps.take n t)
theorem Reps.drop : ∀ {xs : List V} {us : List D} (n : Nat), Reps K F xs us → Reps K F (xs.drop n) (us.drop n)
  | _, _, 0, r => r
  | _, _, _ + 1, .nil => .nil
  | _, _, n + 1, .cons _ t => Reps.drop n t
end

/-! what is hidden -/
abbrev Hid := Addr → Bool
def vw (H : Hp) (hid : Hid) : Hp := fun b => if hid b = true then none else H b
def hadd (hid : Hid) (a : Addr) : Hid := fun b => hid b || decide (b = a)
theorem vw_some {H : Hp} {hid : Hid} {b : Addr} {o : HO} : vw H hid b = some o ↔ hid b = false ∧ H b = some o := by
  unfold vw
  cases hb : hid b <;> simp
theorem vw_le (H : Hp) (hid : Hid) : Same (vw H hid) H := fun b o h => (vw_some.mp h).2
theorem vw_same {H H' : Hp} {hid : Hid} (s : Same H H') : Same (vw H hid) (vw H' hid) := fun b o h => vw_some.mpr ⟨(vw_some.mp h).1, s _ _ (vw_some.mp h).2⟩
theorem vw_keep {H H' : Hp} {hid : Hid} (s : ∀ b o, H b = some o → hid b = false → H' b = some o) : Same (vw H hid) (vw H' hid) := fun b o h => vw_some.mpr ⟨(vw_some.mp h).1, s _ _ (vw_some.mp h).2 (vw_some.mp h).1⟩
theorem vw_upd {H : Hp} {hid : Hid} {a : Addr} {o : HO} (h : hid a = true) : vw (upd H a o) hid = vw H hid := by
  funext b
  unfold vw upd
  by_cases e : b = a
  · subst e; simp [h]
  · simp [e]
theorem vw_less {H : Hp} {hid hid' : Hid} (h : ∀ b, hid' b = true → hid b = true) : Same (vw H hid) (vw H hid') := fun b o q => by
  obtain ⟨q1, q2⟩ := vw_some.mp q
  refine vw_some.mpr ⟨?_, q2⟩
  cases e : hid' b with
  | false => rfl
  | true => rw [h b e] at q1; cases q1
theorem vw_new {H : Hp} {hid : Hid} {a : Addr} {o : HO} (h : H a = none) : vw (upd H a o) (hadd hid a) = vw H hid := by
  funext b
  unfold vw upd hadd
  by_cases e : b = a
  · subst e
    cases hb : hid b <;> simp [h]
  · simp [e]

/-! the slots of a frame -/
/-- other things that a slot may hold: a caught exception, a dict held alone -/
inductive Ob where
  | exc (x : Str) (n : Int)
  | dK (kvs : List (Key × D))
  | dT (kvs : List (List Key × D))
  | set (ds : List D)
  | old (d : D)
  | jnk
inductive Sl where
  | no
  | v (d : D)
  | own (ds : List D)
  | arg (ds : List D)
  | ob (b : Ob)
abbrev Rho := List Sl

structure Ct where
  H₀ : Hp
  hid₀ : Hid
  mu : Addr → Bool

/-- a caught exception of the class that is known by the name x -/
def ExcAt (K : PySem.W.Frag) (x : Str) (n : Int) (a : Addr) (h : Heap) : Prop := ∃ C o, PySem.W.nsIn K mainGlobals x = some (some (.ref C)) ∧ h.get? a = some o ∧ o.cls = .ref C ∧ o.dict = none ∧ PySem.W.notCls o = true
/-- the lists that are new since the frame began (and all else), and what was there -/
def isLO : Option HO → Bool
  | some (.lst _) => true
  | _ => false
def fv (c : Ct) (F : Hp) : Hp := fun b => if (c.H₀ b).isSome = true ∧ isLO (F b) = true then none else F b
def ov (c : Ct) (F : Hp) : Hp := fun b => if (c.H₀ b).isSome = true then F b else none
theorem fv_some {c : Ct} {F : Hp} {b : Addr} {o : HO} : fv c F b = some o ↔ (isLO (some o) = true → c.H₀ b = none) ∧ F b = some o := by
  unfold fv
  constructor
  · intro h
    split at h
    · cases h
    · rename_i hn
      refine ⟨fun q => ?_, h⟩
      rw [h] at hn
      cases hb : c.H₀ b with
      | none => rfl
      | some u => exact absurd ⟨by rw [hb]; rfl, q⟩ hn
  · rintro ⟨h1, h2⟩
    rw [if_neg, h2]
    rintro ⟨q1, q2⟩
    rw [h2] at q2
    rw [h1 q2] at q1; cases q1
theorem ov_some {c : Ct} {F : Hp} {b : Addr} {o : HO} : ov c F b = some o ↔ (∃ u, c.H₀ b = some u) ∧ F b = some o := by
  unfold ov
  cases hb : c.H₀ b <;> simp
theorem fv_same {c : Ct} {F G : Hp} (s : Same F G) : Same (fv c F) (fv c G) := fun b o h => fv_some.mpr ⟨(fv_some.mp h).1, s _ _ (fv_some.mp h).2⟩
theorem ov_same {c : Ct} {F G : Hp} (s : Same F G) : Same (ov c F) (ov c G) := fun b o h => ov_some.mpr ⟨(ov_some.mp h).1, s _ _ (ov_some.mp h).2⟩
def ObOk (K : PySem.W.Frag) (c : Ct) (hid : Hid) (H : Hp) (a : Addr) : Ob → Prop
  | .exc x n => ∃ φ, vw H hid a = some (.ext φ) ∧ ∀ h, φ h → ExcAt K x n a h
  | .dK kvs => (hid a = true ∧ c.H₀ a = none) ∧ ∃ us : List (Key × V), H a = some (.dK us) ∧ us.map (·.1) = kvs.map (·.1) ∧ Reps K (vw H hid) (us.map (·.2)) (kvs.map (·.2))
  | .dT kvs => (hid a = true ∧ c.H₀ a = none) ∧ ∃ us : List (List Key × V), H a = some (.dT us) ∧ us.map (·.1) = kvs.map (·.1) ∧ Reps K (vw H hid) (us.map (·.2)) (kvs.map (·.2))
  | .set ds => (hid a = true ∧ c.H₀ a = none) ∧ ∃ xs : List V, H a = some (.lst xs) ∧ Reps K (fv c (vw H hid)) xs ds
  | .old d => Rep K (ov c (vw H hid)) (.ref a) d
  | .jnk => (hid a = true ∧ c.H₀ a = none) ∧ ∃ xs : List V, H a = some (.lst xs)
def ObOw : Ob → Prop
  | .exc _ _ => False
  | .old _ => False
  | _ => True
theorem ObOk.mono {K : PySem.W.Frag} {c : Ct} {hid hid' : Hid} {H H' : Hp} {a : Addr} {b : Ob} (h : ObOk K c hid H a b) (k : ObOw b → ∀ o, H a = some o → H' a = some o) (s : Same (vw H hid) (vw H' hid')) (w : ObOw b → hid a = true → hid' a = true) : ObOk K c hid' H' a b := by
  cases b with
  | exc x n => obtain ⟨φ, h1, h2⟩ := h; exact ⟨φ, s _ _ h1, h2⟩
  | dK kvs => obtain ⟨h1, us, h2, h3, h4⟩ := h; exact ⟨⟨w trivial h1.1, h1.2⟩, us, k trivial _ h2, h3, h4.mono s⟩
  | dT kvs => obtain ⟨h1, us, h2, h3, h4⟩ := h; exact ⟨⟨w trivial h1.1, h1.2⟩, us, k trivial _ h2, h3, h4.mono s⟩
  | set ds => obtain ⟨h1, us, h2, h3⟩ := h; exact ⟨⟨w trivial h1.1, h1.2⟩, us, k trivial _ h2, h3.mono (fv_same s)⟩
  | old d => exact Rep.mono (ov_same s) h
  | jnk => obtain ⟨h1, us, h2⟩ := h; exact ⟨⟨w trivial h1.1, h1.2⟩, us, k trivial _ h2⟩
theorem ObOk.hid {K : PySem.W.Frag} {c : Ct} {hid : Hid} {H : Hp} {a : Addr} {b : Ob} (h : ObOk K c hid H a b) (o : ObOw b) : hid a = true := by
  cases b with
  | exc x n => exact o.elim
  | dK kvs => exact h.1.1
  | dT kvs => exact h.1.1
  | set ds => exact h.1.1
  | old d => exact o.elim
  | jnk => exact h.1.1
def SlOk (K : PySem.W.Frag) (c : Ct) (hid : Hid) (σ : St) (H : Hp) (i : Nat) : Sl → Prop
  | .no => True
  | .v d => ∃ x, σ[i]? = some (some x) ∧ Rep K (vw H hid) x d
  | .own ds => ∃ a xs, σ[i]? = some (some (.ref a)) ∧ H a = some (.lst xs) ∧ hid a = true ∧ c.H₀ a = none ∧ Reps K (vw H hid) xs ds
  | .arg ds => ∃ a xs, σ[i]? = some (some (.ref a)) ∧ H a = some (.lst xs) ∧ hid a = true ∧ c.mu a = true ∧ Reps K (vw H hid) xs ds
  | .ob b => ∃ a, σ[i]? = some (some (.ref a)) ∧ ObOk K c hid H a b
def Ow : Option Sl → Prop
  | some (.own _) => True
  | some (.arg _) => True
  | some (.ob b) => ObOw b
  | _ => False

structure SR (K : PySem.W.Frag) (c : Ct) (hid : Hid) (ρ : Rho) (σ : St) (H : Hp) : Prop where
  tr : ∀ b, hid b = true → ∃ o, H b = some o
  ht : ∀ b xs, hid b = true → H b ≠ some (.tup xs)
  h0 : ∀ b, c.hid₀ b = true → hid b = true
  kp : ∀ b o, c.H₀ b = some o → c.mu b = false → H b = some o
  t0 : ∀ b o, c.H₀ b = some o → ∃ o', H b = some o'
  c0 : ∀ b, c.hid₀ b = true → ∃ o, c.H₀ b = some o
  m0 : ∀ b, c.mu b = true → c.hid₀ b = true
  len : σ.length = ρ.length
  sl : ∀ (i : Nat) (s : Sl), ρ[i]? = some s → SlOk K c hid σ H i s
  ap : ∀ (i j : Nat) (a : Addr), i ≠ j → Ow ρ[i]? → Ow ρ[j]? → σ[i]? = some (some (.ref a)) → σ[j]? = some (some (.ref a)) → False

section
variable {K : PySem.W.Frag} {c : Ct} {hid : Hid} {ρ : Rho} {σ : St} {H H' : Hp} {i : Nat}
theorem SlOk.ext {s : Sl} (h : SlOk K c hid σ H i s) (e : Same H H') : SlOk K c hid σ H' i s := by
  cases s with
  | no => trivial
  | v d => obtain ⟨x, h1, h2⟩ := h; exact ⟨x, h1, h2.mono (vw_same e)⟩
  | own ds => obtain ⟨a, xs, h1, h2, h3, h4, h5⟩ := h; exact ⟨a, xs, h1, e _ _ h2, h3, h4, h5.mono (vw_same e)⟩
  | arg ds => obtain ⟨a, xs, h1, h2, h3, h4, h5⟩ := h; exact ⟨a, xs, h1, e _ _ h2, h3, h4, h5.mono (vw_same e)⟩
  | ob b => obtain ⟨a, h1, h2⟩ := h; exact ⟨a, h1, h2.mono (fun _ => e a) (vw_same e) fun _ q => q⟩
theorem SR.ext (h : SR K c hid ρ σ H) (e : Same H H') : SR K c hid ρ σ H' where
  tr := fun b hb => let ⟨o, q⟩ := h.tr b hb; ⟨o, e _ _ q⟩
  ht := fun b xs hb q => let ⟨o, w⟩ := h.tr b hb; by have z := e _ _ w; rw [q] at z; cases z; exact h.ht b xs hb w
  h0 := h.h0
  kp := fun b o q m => e _ _ (h.kp b o q m)
  t0 := fun b o q => let ⟨o', q'⟩ := h.t0 b o q; ⟨o', e _ _ q'⟩
  c0 := h.c0
  m0 := h.m0
  len := h.len
  sl := fun i s q => (h.sl i s q).ext e
  ap := h.ap
/-- what is hidden is tracked, and no tuple -/
def Trk (hid : Hid) (H : Hp) : Prop := (∀ b, hid b = true → ∃ o, H b = some o) ∧ ∀ b xs, hid b = true → H b ≠ some (.tup xs)
theorem SR.trk (h : SR K c hid ρ σ H) : Trk hid H := ⟨h.tr, h.ht⟩
theorem SR.fresh (h : SR K c hid ρ σ H) {a : Addr} (n : H a = none) : hid a = false := by
  cases e : hid a with
  | false => rfl
  | true => obtain ⟨o, q⟩ := h.tr a e; rw [n] at q; cases q
theorem SR.fresh0 (h : SR K c hid ρ σ H) {a : Addr} (n : H a = none) : c.H₀ a = none := by
  cases e : c.H₀ a with
  | none => rfl
  | some o => obtain ⟨o', q⟩ := h.t0 a o e; rw [n] at q; cases q
end

/-! kinds of results -/
inductive Kd where
  | b | s | n
  deriving DecidableEq
def Rep1 (K : PySem.W.Frag) (H W : Hp) (v : V) (d : D) : Prop := Rep K W v d ∨ ∃ a xs ds, v = .ref a ∧ d = .lst ds ∧ H a = some (.lst xs) ∧ Reps K W xs ds
def RN (K : PySem.W.Frag) (H H' : Hp) (hid : Hid) (v : V) (d : D) : Prop := ∃ a xs ds, d = .lst ds ∧ v = .ref a ∧ H a = none ∧ H' a = some (.lst xs) ∧ Reps K (vw H' (hadd hid a)) xs ds
def RK (K : PySem.W.Frag) (k : Kd) (H H' : Hp) (hid : Hid) (v : V) (d : D) : Prop := match k with
  | .b => Rep1 K H' (vw H' hid) v d
  | .s => Rep K (vw H' hid) v d
  | .n => RN K H H' hid v d
section
variable {K : PySem.W.Frag} {c : Ct} {hid : Hid} {ρ : Rho} {σ : St} {H H' H'' : Hp} {i : Nat} {v : V} {d : D}
theorem RN.rep (h : RN K H H' hid v d) (hf : ∀ a, H a = none → hid a = false) : Rep K (vw H' hid) v d := by
  obtain ⟨a, xs, ds, rfl, rfl, h1, h2, h3⟩ := h
  refine .lst (vw_some.mpr ⟨hf a h1, h2⟩) (h3.mono (vw_less fun b q => ?_))
  unfold hadd; rw [q]; rfl
theorem RK.s (k : Kd) (hk : k ≠ .b) (h : RK K k H H' hid v d) (hf : ∀ a, H a = none → hid a = false) : Rep K (vw H' hid) v d := by
  cases k with
  | b => exact absurd rfl hk
  | s => exact h
  | n => exact RN.rep h hf
theorem RK.b (k : Kd) (h : RK K k H H' hid v d) (hf : ∀ a, H a = none → hid a = false) : Rep1 K H' (vw H' hid) v d := by
  cases k with
  | b => exact h
  | s => exact .inl h
  | n => exact .inl (RN.rep h hf)
theorem Rep1.ext {hid : Hid} (h : Rep1 K H (vw H hid) v d) (e : Same H H') : Rep1 K H' (vw H' hid) v d := by
  rcases h with h | ⟨a, xs, ds, h1, h2, h3, h4⟩
  · exact .inl (h.mono (vw_same e))
  · exact .inr ⟨a, xs, ds, h1, h2, e _ _ h3, h4.mono (vw_same e)⟩
/-- what a borrowed value is, by its datum -/
theorem Rep1.int {i : Int} (h : Rep1 K H (vw H hid) v (.int i)) : v = .int i := by
  rcases h with h | ⟨a, xs, ds, h1, h2, _⟩
  · cases h; rfl
  · cases h2
theorem Rep1.bl {i : Bool} (h : Rep1 K H (vw H hid) v (.bl i)) : v = .bl i := by
  rcases h with h | ⟨a, xs, ds, h1, h2, _⟩
  · cases h; rfl
  · cases h2
theorem Rep1.str {i : Str} (h : Rep1 K H (vw H hid) v (.str i)) : v = .str i := by
  rcases h with h | ⟨a, xs, ds, h1, h2, _⟩
  · cases h; rfl
  · cases h2
theorem Rep1.non (h : Rep1 K H (vw H hid) v .non) : v = .non := by
  rcases h with h | ⟨a, xs, ds, h1, h2, _⟩
  · cases h; rfl
  · cases h2
theorem Rep1.tup {ds : List D} (h : Rep1 K H (vw H hid) v (.tup ds)) : ∃ a xs, v = .ref a ∧ SqT K (vw H hid) a xs ∧ SqT K H a xs ∧ Reps K (vw H hid) xs ds := by
  rcases h with h | ⟨a, xs, ds, h1, h2, _⟩
  · cases h with
    | tup q r => exact ⟨_, _, rfl, q, Same.seqT (vw_le _ _) q, r⟩
  · cases h2
theorem Rep1.lst {ds : List D} (h : Rep1 K H (vw H hid) v (.lst ds)) : ∃ a xs, v = .ref a ∧ SqL K H a xs ∧ Reps K (vw H hid) xs ds := by
  rcases h with h | ⟨a, xs, ds, h1, h2, h3, h4⟩
  · cases h with
    | lst q r => exact ⟨_, _, rfl, SqL.of (vw_le _ _ _ _ q), r⟩
  · cases h2
    exact ⟨a, xs, h1, SqL.of h3, h4⟩
theorem Rep1.scr {ds : List D} (h : Rep1 K H (vw H hid) v (.scr ds)) : ∃ a xs, v = .ref a ∧ SqL K H a xs ∧ Reps K (vw H hid) xs ds := by
  rcases h with h | ⟨a, xs, ds, h1, h2, h3, h4⟩
  · cases h with
    | scr q r => exact ⟨_, _, rfl, (vw_le _ _).seq q.seq, r⟩
  · cases h2
end

/-! ### the judgements -/
theorem PE.imp {X : Cx} {e : Expr} {t t' : TE} (h : PE X e t) (i : ∀ σ H Q, t' σ H Q → t σ H Q) : PE X e t' := fun pins s σ H Q I q => h pins s σ H Q I (i σ H Q q)
theorem PT.imp {X : Cx} {e : Expr} {t t' : TT} (h : PT X e t) (i : ∀ σ H Q, t' σ H Q → t σ H Q) : PT X e t' := fun pins s σ H Q I q => h pins s σ H Q I (i σ H Q q)
theorem PW.imp {X : Cx} {e : Expr} {t t' : TT} (h : PW X e t) (i : ∀ σ H Q, t' σ H Q → t σ H Q) : PW X e t' := fun wh pins s σ H Q I q => h wh pins s σ H Q I (i σ H Q q)
theorem PA.imp {X : Cx} {e : List Expr} {t t' : TA} (h : PA X e t) (i : ∀ σ H Q, t' σ H Q → t σ H Q) : PA X e t' := fun p pins s σ H Q I q => h p pins s σ H Q I (i σ H Q q)
theorem PS.imp {X : Cx} {e : Stmt} {t t' : TS} (h : PS X e t) (i : ∀ D σ H, t' D σ H → t D σ H) : PS X e t' := fun pins s σ H D I q => h pins s σ H D I (i D σ H q)
theorem PSs.imp {X : Cx} {e : List Stmt} {t t' : TS} (h : PSs X e t) (i : ∀ D σ H, t' D σ H → t D σ H) : PSs X e t' := fun pins s σ H D I q => h pins s σ H D I (i D σ H q)

abbrev FE := Rho → Option D
abbrev FT := Rho → Option Bool
abbrev FA := Rho → Option (List D)
def rdP (K : PySem.W.Frag) (c : Ct) (hid : Hid) (k : Kd) (f : FE) (ρ : Rho) : TE := fun σ H Q => SR K c hid ρ σ H ∧ ∃ d, f ρ = some d ∧ ∀ v H', Same H H' → RK K k H H' hid v d → Q v H'
def rdT (K : PySem.W.Frag) (c : Ct) (hid : Hid) (f : FT) (ρ : Rho) : TT := fun σ H Q => SR K c hid ρ σ H ∧ ∃ d, f ρ = some d ∧ ∀ H', Same H H' → Q d H'
def rdA (K : PySem.W.Frag) (c : Ct) (hid : Hid) (f : FA) (ρ : Rho) : TA := fun σ H Q => SR K c hid ρ σ H ∧ ∃ d, f ρ = some d ∧ ∀ vs H', Same H H' → Reps K (vw H' hid) vs d → Q vs H'
/-- a pure expression -/
def DP (X : Cx) (c : Ct) (k : Kd) (e : Expr) (f : FE) : Prop := ∀ hid ρ, PE X e (rdP X.K c hid k f ρ)
def DT (X : Cx) (c : Ct) (e : Expr) (f : FT) : Prop := ∀ hid ρ, PT X e (rdT X.K c hid f ρ)
def DW (X : Cx) (c : Ct) (e : Expr) (f : FT) : Prop := ∀ hid ρ, PW X e (rdT X.K c hid f ρ)
def DA (X : Cx) (c : Ct) (es : List Expr) (f : FA) : Prop := ∀ hid ρ, PA X es (rdA X.K c hid f ρ)

section
variable {X : Cx} {c : Ct} {e a b : Expr} {es : List Expr} {f g : FE} {k : Kd} {pos : Pos}
theorem DP.toB (h : DP X c k e f) : DP X c .b e f := fun hid ρ => PE.imp (h hid ρ) fun σ H Q ⟨sr, d, hd, q⟩ => ⟨sr, d, hd, fun v H' s r => q v H' s (RK.b k r fun a n => sr.fresh n)⟩
theorem DP.toS (h : DP X c .n e f) : DP X c .s e f := fun hid ρ => PE.imp (h hid ρ) fun σ H Q ⟨sr, d, hd, q⟩ => ⟨sr, d, hd, fun v H' s r => q v H' s (RN.rep r fun a n => sr.fresh n)⟩

/-! names and constants -/
def nmF (i : Nat) : FE := fun ρ => match ρ[i]? with
  | some (.v d) => some d
  | _ => none
def nbF (i : Nat) : FE := fun ρ => match ρ[i]? with
  | some (.v d) => some d
  | some (.own ds) => some (.lst ds)
  | some (.arg ds) => some (.lst ds)
  | _ => none
theorem dp_nm (i : Nat) {x : Str} (hN : X.N[i]? = some x := by rfl) (hv : Vis X.env.scope x := by first | exact Or.inl rfl | exact Or.inr (Or.inl rfl) | exact Or.inr (Or.inr rfl)) (hd : (x == ("__debug__" : Str)) = false := by decide)
    (hcd : (x == ("__classdict__" : Str)) = false := by decide) : DP X c .s (.Name x pos) (nmF i) := fun hid ρ => PE.imp (pv i hN hv hd hcd) fun σ H Q ⟨sr, d, hd, q⟩ => by
  unfold nmF at hd
  split at hd
  · rename_i d' e'
    cases hd
    obtain ⟨x, h1, h2⟩ := sr.sl i _ e'
    exact ⟨x, h1, q x H (Same.refl _) h2⟩
  · cases hd
theorem dp_nb (i : Nat) {x : Str} (hN : X.N[i]? = some x := by rfl) (hv : Vis X.env.scope x := by first | exact Or.inl rfl | exact Or.inr (Or.inl rfl) | exact Or.inr (Or.inr rfl)) (hd : (x == ("__debug__" : Str)) = false := by decide)
    (hcd : (x == ("__classdict__" : Str)) = false := by decide) : DP X c .b (.Name x pos) (nbF i) := fun hid ρ => PE.imp (pv i hN hv hd hcd) fun σ H Q ⟨sr, d, hd, q⟩ => by
  unfold nbF at hd
  split at hd
  · rename_i d' e'
    cases hd
    obtain ⟨x, h1, h2⟩ := sr.sl i _ e'
    exact ⟨x, h1, q x H (Same.refl _) (.inl h2)⟩
  · rename_i d' e'
    cases hd
    obtain ⟨a, xs, h1, h2, h3, h4, h5⟩ := sr.sl i _ e'
    exact ⟨_, h1, q _ H (Same.refl _) (.inr ⟨a, xs, _, rfl, rfl, h2, h5⟩)⟩
  · rename_i d' e'
    cases hd
    obtain ⟨a, xs, h1, h2, h3, h4, h5⟩ := sr.sl i _ e'
    exact ⟨_, h1, q _ H (Same.refl _) (.inr ⟨a, xs, _, rfl, rfl, h2, h5⟩)⟩
  · cases hd
def cst (d : D) : FE := fun _ => some d
theorem dp_int {i : Int} {j pos} : DP X c .s (.Constant (.int i) j pos) (cst (.int i)) := fun hid ρ => PE.imp pe_int fun σ H Q ⟨sr, d, hd, q⟩ => by
  cases hd; exact q _ H (Same.refl _) .int
theorem dp_bl {i : Bool} {j pos} : DP X c .s (.Constant (.bool i) j pos) (cst (.bl i)) := fun hid ρ => PE.imp pe_bl fun σ H Q ⟨sr, d, hd, q⟩ => by
  cases hd; exact q _ H (Same.refl _) .bl
/-! two operands -/
def op2 (F : D → D → Option D) (f g : FE) : FE := fun ρ => (f ρ).bind fun x => (g ρ).bind fun y => F x y
theorem op2_some {F : D → D → Option D} {ρ : Rho} {d : D} (h : op2 F f g ρ = some d) : ∃ x y, f ρ = some x ∧ g ρ = some y ∧ F x y = some d := by
  unfold op2 at h
  cases e1 : f ρ with
  | none => rw [e1] at h; cases h
  | some x =>
    cases e2 : g ρ with
    | none => rw [e1, e2] at h; cases h
    | some y => rw [e1, e2] at h; exact ⟨x, y, rfl, rfl, h⟩
/-- what a rule of two values gives by data -/
def OpD (K : PySem.W.Frag) (k : Kd) (r : R2) (F : D → D → Option D) : Prop := ∀ (H : Hp) (hid : Hid) (v u : V) (x y d : D) (Q : VK), (∀ a, H a = none → hid a = false) → F x y = some d → Rep1 K H (vw H hid) v x → Rep1 K H (vw H hid) u y →
  (∀ w H', Same H H' → RK K k H H' hid w d → Q w H') → r v u H Q
theorem Same.none {H H' : Hp} {a : Addr} (s : Same H H') (n : H' a = none) : H a = none := s.free n
theorem RK.left {K : PySem.W.Frag} {H H1 H' : Hp} {hid : Hid} {v : V} {d : D} (s : Same H H1) (h : RK K k H1 H' hid v d) : RK K k H H' hid v d := by
  cases k with
  | b => exact h
  | s => exact h
  | n =>
    obtain ⟨a, xs, ds, h1, h2, h3, h4⟩ := h
    exact ⟨a, xs, ds, h1, h2, s.free h3, h4⟩
theorem rd2 {r : R2} {F : D → D → Option D} {k1 k2 : Kd} {hid : Hid} {ρ : Rho} (hF : OpD X.K k r F) {σ : St} {H : Hp} {Q : VK} (h : rdP X.K c hid k (op2 F f g) ρ σ H Q) : tOp r (rdP X.K c hid k1 f ρ) (rdP X.K c hid k2 g ρ) σ H Q := by
  obtain ⟨sr, d, hd, q⟩ := h
  obtain ⟨x, y, e1, e2, e3⟩ := op2_some hd
  refine ⟨sr, x, e1, fun v H1 s1 r1 => ⟨sr.ext s1, y, e2, fun u H2 s2 r2 => ?_⟩⟩
  have b1 := (RK.b k1 r1 fun a n => sr.fresh n).ext s2
  have b2 := RK.b k2 r2 fun a n => (sr.ext s1).fresh n
  exact hF H2 hid v u x y d Q (fun a n => ((sr.ext s1).ext s2).fresh n) e3 b1 b2 fun w H' s3 r3 => q w H' ((s1.trans s2).trans s3) (RK.left (s1.trans s2) r3)
theorem dp_op {op : Operator} {r : R2} {F : D → D → Option D} {k1 k2 : Kd} (ho : OpR X (binaryOp op) r) (hF : OpD X.K k r F) (ha : DP X c k1 a f) (hb : DP X c k2 b g) : DP X c k (.BinOp a op b pos) (op2 F f g) := fun hid ρ =>
  PE.imp (pe_op ho (ha hid ρ) (hb hid ρ)) fun σ H Q h => rd2 hF h
theorem dp_cmp {op : CmpOp} {r : R2} {F : D → D → Option D} {k1 k2 : Kd} (ho : OpR X (compareOp op) r) (hF : OpD X.K .s r F) (ha : DP X c k1 a f) (hb : DP X c k2 b g) (hm : behindInMarks op b = false) : DP X c .s (.Compare a [op] [b] pos) (op2 F f g) := fun hid ρ =>
  PE.imp (pe_cmpR ho (ha hid ρ) (hb hid ρ) hm) fun σ H Q h => rd2 hF h
def asB : Option D → Option Bool
  | some (.bl b) => some b
  | _ => none
theorem dt_cmp {op : CmpOp} {r : R2} {F : D → D → Option D} {k1 k2 : Kd} (ho : OpR X (compareOp op) r) (hF : OpD X.K .s r F) (ha : DP X c k1 a f) (hb : DP X c k2 b g) (hm : behindInMarks op b = false) : DT X c (.Compare a [op] [b] pos) (fun ρ => asB (op2 F f g ρ)) := fun hid ρ =>
  PT.imp (pt_cmpR ho (ha hid ρ) (hb hid ρ) hm) fun σ H Q ⟨sr, d, hd, q⟩ => by
    refine rd2 (X := X) (k := .s) (F := F) hF ?_
    dsimp only at hd
    cases e : op2 F f g ρ with
    | none => rw [e] at hd; cases hd
    | some x =>
      rw [e] at hd
      cases x with
      | bl z =>
        cases hd
        refine ⟨sr, _, e, fun v H' s r => ⟨d, ?_, q H' s⟩⟩
        cases r; rfl
      | _ => cases hd
theorem dp_ix {r : R2} {F : D → D → Option D} {k1 k2 : Kd} (hr : IxR X r) (hF : OpD X.K k r F) (ha : DP X c k1 a f) (hb : DP X c k2 b g) (hs : PlainIx b) : DP X c k (.Subscript a b pos) (op2 F f g) := fun hid ρ =>
  PE.imp (pe_ix hr (ha hid ρ) (hb hid ρ) hs) fun σ H Q h => rd2 hF h
end

/-! operations on ints -/
def i2 (C : Int → Int → Bool) (G : Int → Int → D) : D → D → Option D
  | .int i, .int j => if C i j = true then some (G i j) else none
  | _, _ => none
section
variable {K : PySem.W.Frag}
theorem i2_some {C : Int → Int → Bool} {G : Int → Int → D} {x y d : D} (h : i2 C G x y = some d) : ∃ i j, x = .int i ∧ y = .int j ∧ C i j = true ∧ d = G i j := by
  unfold i2 at h
  split at h
  · split at h
    · cases h; exact ⟨_, _, rfl, rfl, ‹_›, rfl⟩
    · cases h
  · cases h
theorem od_I {C : Int → Int → Prop} {B : Int → Int → Bool} {g : Int → Int → Int} (hC : ∀ i j, B i j = true → C i j) : OpD K .s (rI C fun i j => .int (g i j)) (i2 B fun i j => .int (g i j)) := by
  intro H hid v u x y d Q hf h r1 r2 q
  obtain ⟨i, j, rfl, rfl, hc, rfl⟩ := i2_some h
  cases r1.int; cases r2.int
  exact ⟨i, j, rfl, rfl, hC i j hc, q _ H (Same.refl _) .int⟩
theorem od_I0 {g : Int → Int → Int} : OpD K .s (rI0 fun i j => .int (g i j)) (i2 (fun _ _ => true) fun i j => .int (g i j)) := by
  intro H hid v u x y d Q hf h r1 r2 q
  obtain ⟨i, j, rfl, rfl, hc, rfl⟩ := i2_some h
  cases r1.int; cases r2.int
  exact ⟨i, j, rfl, rfl, q _ H (Same.refl _) .int⟩
theorem od_B0 {g : Int → Int → Bool} : OpD K .s (rI0 fun i j => .bl (g i j)) (i2 (fun _ _ => true) fun i j => .bl (g i j)) := by
  intro H hid v u x y d Q hf h r1 r2 q
  obtain ⟨i, j, rfl, rfl, hc, rfl⟩ := i2_some h
  cases r1.int; cases r2.int
  exact ⟨i, j, rfl, rfl, q _ H (Same.refl _) .bl⟩
end
end L2
set_option Elab.async false
set_option linter.all false
set_option maxRecDepth 100000
namespace L2
open PySem PySem.Spec PyProof.Rows

/-! ### tests -/
section
variable {X : Cx} {c : Ct} {e a b : Expr} {es rest : List Expr} {f g : FE} {p q : FT} {k : Kd} {pos : Pos}
def truD : D → Option Bool
  | .non => some false
  | .bl b => some b
  | .int i => some (i != 0)
  | .str y => if y.length ≤ sizeLine then some ((y.length : Int) != 0) else none
  | .lst ds => some (!ds.isEmpty)
  | .tup ds => some (!ds.isEmpty)
  | .scr ds => some (!ds.isEmpty)
theorem Reps.isEmpty {K : PySem.W.Frag} {F : Hp} {xs : List V} {ds : List D} (r : Reps K F xs ds) : xs.isEmpty = ds.isEmpty := by cases r <;> rfl
theorem tru_of {K : PySem.W.Frag} {H : Hp} {hid : Hid} {v : V} {d : D} {b : Bool} (h : truD d = some b) (r : Rep1 K H (vw H hid) v d) : TruV K v H b := by
  cases d with
  | non => cases r.non; cases h; rfl
  | bl x => cases r.bl; cases h; rfl
  | int i => cases r.int; cases h; rfl
  | str y =>
    cases r.str
    have h' : (if y.length ≤ sizeLine then some ((y.length : Int) != 0) else none) = some b := h
    split at h'
    · cases h'; exact ⟨‹_›, rfl⟩
    · cases h'
  | lst ds =>
    obtain ⟨a, xs, rfl, h1, h2⟩ := r.lst
    cases h
    exact .inl ⟨xs, h1, by rw [h2.isEmpty]⟩
  | tup ds =>
    obtain ⟨a, xs, rfl, _, h1, h2⟩ := r.tup
    cases h
    exact .inr (.inl ⟨xs, h1, by rw [h2.isEmpty]⟩)
  | scr ds =>
    obtain ⟨a, xs, rfl, h1, h2⟩ := r.scr
    cases h
    exact .inl ⟨xs, h1, by rw [h2.isEmpty]⟩
def tru1 (f : FE) : FT := fun ρ => (f ρ).bind truD
theorem dt_val (ha : DP X c k a f) (he : ∀ whole, isTrue a X.env whole = (do let v ← whole; standAt a.pos; holding [v] (truthy v)) := by intro _; rfl) : DT X c a (tru1 f) := fun hid ρ =>
  PT.imp (pt_truth (ha hid ρ) he) fun σ H Q ⟨sr, d, hd, q⟩ => by
    unfold tru1 at hd
    cases e : f ρ with
    | none => rw [e] at hd; cases hd
    | some x =>
      rw [e] at hd
      exact ⟨sr, x, e, fun v H' s r => ⟨d, tru_of hd (RK.b k r fun a n => sr.fresh n), q H' s⟩⟩
def or2 (p q : FT) : FT := fun ρ => (p ρ).bind fun b => if b = true then some true else q ρ
def not1 (p : FT) : FT := fun ρ => (p ρ).map (!·)
theorem dw_or1 (ha : DT X c a p) : DW X c (.BoolOp .Or [a] pos) p := fun hid ρ => pw_or1 (ha hid ρ)
theorem dw_or (ha : DT X c a p) (hb : DW X c (.BoolOp .Or (b :: rest) pos) q) : DW X c (.BoolOp .Or (a :: b :: rest) pos) (or2 p q) := fun hid ρ =>
  PW.imp (pw_or (ha hid ρ) (hb hid ρ)) fun σ H Q ⟨sr, d, hd, hq⟩ => by
    unfold or2 at hd
    cases e : p ρ with
    | none => rw [e] at hd; cases hd
    | some x =>
      rw [e] at hd
      refine ⟨sr, x, e, fun H1 s1 => ?_⟩
      cases x with
      | false => exact iteF ⟨sr.ext s1, d, hd, fun H2 s2 => hq H2 (s1.trans s2)⟩
      | true => cases hd; exact iteT (hq H1 s1)
theorem DW.dt (h : DW X c e p) : DT X c e p := fun hid ρ => (h hid ρ).pt
theorem dt_not (ha : DT X c a p) : DT X c (.UnaryOp .Not a pos) (not1 p) := fun hid ρ =>
  PT.imp (pt_not (ha hid ρ)) fun σ H Q ⟨sr, d, hd, hq⟩ => by
    unfold not1 at hd
    cases e : p ρ with
    | none => rw [e] at hd; cases hd
    | some x => rw [e] at hd; cases hd; exact ⟨sr, x, e, fun H1 s1 => hq H1 s1⟩
/-! bools as values -/
def toB (f : FE) : FT := fun ρ => asB (f ρ)
/-- a if t else b -/
def ifF (p : FT) (f g : FE) : FE := fun ρ => (p ρ).bind fun b => if b = true then f ρ else g ρ
theorem dp_if {t : Expr} (hk : k ≠ .n) (ht : DT X c t p) (ha : DP X c k a f) (hb : DP X c k b g) : DP X c k (.IfExp t a b pos) (ifF p f g) := fun hid ρ =>
  PE.imp (pe_ifExp (ht hid ρ) (ha hid ρ) (hb hid ρ)) fun σ H Q ⟨sr, d, hd, hq⟩ => by
    unfold ifF at hd
    cases e : p ρ with
    | none => rw [e] at hd; cases hd
    | some x =>
      rw [e] at hd
      refine ⟨sr, x, e, fun H1 s1 => ?_⟩
      have lf : ∀ {v H2}, RK X.K k H1 H2 hid v d → RK X.K k H H2 hid v d := fun {v H2} r => RK.left s1 r
      cases x with
      | true => exact iteT ⟨sr.ext s1, d, hd, fun v H2 s2 r => hq v H2 (s1.trans s2) (lf r)⟩
      | false => exact iteF ⟨sr.ext s1, d, hd, fun v H2 s2 r => hq v H2 (s1.trans s2) (lf r)⟩

/-! ### chains of comparisons -/
variable {r r' : R2} {h : FE} {e3 : Expr}
def ch3 (F G : D → D → Option D) (f g h : FE) : FE := fun ρ => (f ρ).bind fun x => (g ρ).bind fun y => (asB (F x y)).bind fun k => if k = true then (h ρ).bind fun z => G y z else some (.bl false)
theorem ch3_rd {F G : D → D → Option D} {k1 k2 k3 : Kd} {hid : Hid} {ρ : Rho} (hF : OpD X.K .s r F) (hG : OpD X.K .s r' G) {σ : St} {H : Hp} {Q : VK} (hh : rdP X.K c hid .s (ch3 F G f g h) ρ σ H Q) :
    tChain r r' (rdP X.K c hid k1 f ρ) (rdP X.K c hid k2 g ρ) (rdP X.K c hid k3 h ρ) σ H Q := by
  obtain ⟨sr, d, hd, q⟩ := hh
  unfold ch3 at hd
  cases e1 : f ρ with
  | none => rw [e1] at hd; cases hd
  | some x =>
    cases e2 : g ρ with
    | none => rw [e1, e2] at hd; cases hd
    | some y =>
      rw [e1, e2] at hd
      have hd' : (asB (F x y)).bind (fun k => if k = true then (h ρ).bind fun z => G y z else some (.bl false)) = some d := hd
      cases e3 : F x y with
      | none => rw [e3] at hd'; cases hd'
      | some z =>
        cases z with
        | bl kk =>
          rw [e3] at hd'
          refine ⟨sr, x, e1, fun v H1 s1 r1 => ⟨sr.ext s1, y, e2, fun u H2 s2 r2 => ?_⟩⟩
          have b1 := (RK.b k1 r1 fun a n => sr.fresh n).ext s2
          have b2 := RK.b k2 r2 fun a n => (sr.ext s1).fresh n
          have fr : ∀ a, H2 a = none → hid a = false := fun a n => ((sr.ext s1).ext s2).fresh n
          refine hF H2 hid v u x y _ _ fr e3 b1 b2 fun w H3 s3 r3 => ?_
          cases r3
          refine ⟨kk, rfl, ?_⟩
          cases kk with
          | false => cases hd'; exact iteF (q _ H3 ((s1.trans s2).trans s3) .bl)
          | true =>
            refine iteT ?_
            cases e4 : h ρ with
            | none => rw [e4] at hd'; cases hd'
            | some z =>
              rw [e4] at hd'
              have hd2 : G y z = some d := hd'
              refine ⟨((sr.ext s1).ext s2).ext s3, z, e4, fun w' H4 s4 r4 => ?_⟩
              have b3 := RK.b k3 r4 fun a n => (((sr.ext s1).ext s2).ext s3).fresh n
              exact hG H4 hid u w' y z d Q (fun a n => ((((sr.ext s1).ext s2).ext s3).ext s4).fresh n) hd2 ((b2.ext s3).ext s4) b3 fun w2 H5 s5 r5 => q w2 H5 ((((s1.trans s2).trans s3).trans s4).trans s5) r5
        | _ => rw [e3] at hd'; cases hd'
theorem dp_ch {op op' : CmpOp} {F G : D → D → Option D} {k1 k2 k3 : Kd} (ho : OpR X (compareOp op) r) (ho' : OpR X (compareOp op') r') (hF : OpD X.K .s r F) (hG : OpD X.K .s r' G) (ha : DP X c k1 a f) (hb : DP X c k2 b g) (hc : DP X c k3 e3 h)
    (hm : lastMarks [op, op'] [b, e3] = false := by with_unfolding_all rfl) : DP X c .s (.Compare a [op, op'] [b, e3] pos) (ch3 F G f g h) := fun hid ρ =>
  PE.imp (pe_chain ho ho' (ha hid ρ) (hb hid ρ) (hc hid ρ) hm) fun σ H Q hh => ch3_rd hF hG hh
end

/-! ### argument lists and displays -/
section
variable {X : Cx} {c : Ct} {e a b : Expr} {es rest : List Expr} {f g : FE} {fs : FA} {k : Kd} {pos : Pos}
def nilA : FA := fun _ => some []
def consA (f : FE) (fs : FA) : FA := fun ρ => (f ρ).bind fun d => (fs ρ).map fun r => d :: r
theorem consA_some {ρ : Rho} {ds : List D} (h : consA f fs ρ = some ds) : ∃ d r, f ρ = some d ∧ fs ρ = some r ∧ ds = d :: r := by
  unfold consA at h
  cases e1 : f ρ with
  | none => rw [e1] at h; cases h
  | some d =>
    cases e2 : fs ρ with
    | none => rw [e1, e2] at h; cases h
    | some r => rw [e1, e2] at h; cases h; exact ⟨d, r, rfl, rfl, rfl⟩
theorem da_nil : DA X c [] nilA := fun hid ρ => PA.imp pa_nil fun σ H Q ⟨sr, d, hd, q⟩ => by cases hd; exact q [] H (Same.refl _) .nil
theorem da_cons (ha : DP X c .s e f) (hr : DA X c es fs) (hs : starEach (e :: es) X.env = (false, eval e X.env) :: starEach es X.env := by rfl) : DA X c (e :: es) (consA f fs) := fun hid ρ =>
  PA.imp (pa_cons (ha hid ρ) (hr hid ρ) hs) fun σ H Q ⟨sr, d, hd, q⟩ => by
    obtain ⟨d1, r, e1, e2, rfl⟩ := consA_some hd
    exact ⟨sr, d1, e1, fun v H1 s1 r1 => ⟨sr.ext s1, r, e2, fun vs H2 s2 r2 => q _ H2 (s1.trans s2) (.cons (Rep.mono (vw_same s2) r1) r2)⟩⟩
def tupF (fs : FA) : FE := fun ρ => (fs ρ).bind fun ds => if ds.length ≤ sizeLine then some (.tup ds) else none
def lstF (fs : FA) : FE := fun ρ => (fs ρ).bind fun ds => if ds.length ≤ sizeLine then some (.lst ds) else none
theorem tupF_some {ρ : Rho} {d : D} (h : tupF fs ρ = some d) : ∃ ds, fs ρ = some ds ∧ ds.length ≤ sizeLine ∧ d = .tup ds := by
  unfold tupF at h
  cases e1 : fs ρ with
  | none => rw [e1] at h; cases h
  | some ds =>
    rw [e1] at h
    have h' : (if ds.length ≤ sizeLine then some (D.tup ds) else none) = some d := h
    split at h'
    · cases h'; exact ⟨ds, rfl, ‹_›, rfl⟩
    · cases h'
theorem lstF_some {ρ : Rho} {d : D} (h : lstF fs ρ = some d) : ∃ ds, fs ρ = some ds ∧ ds.length ≤ sizeLine ∧ d = .lst ds := by
  unfold lstF at h
  cases e1 : fs ρ with
  | none => rw [e1] at h; cases h
  | some ds =>
    rw [e1] at h
    have h' : (if ds.length ≤ sizeLine then some (D.lst ds) else none) = some d := h
    split at h'
    · cases h'; exact ⟨ds, rfl, ‹_›, rfl⟩
    · cases h'
theorem same_new {H : Hp} {p : Addr} (h : H p = none) (o : HO) : Same H (upd H p o) := fun b u q => by rw [upd_ne (ne_of_none q h)]; exact q
theorem rep_newT {K : PySem.W.Frag} {H : Hp} {hid : Hid} {p : Addr} {xs : List V} {ds : List D} (hn : H p = none) (hf : hid p = false) (r : Reps K (vw H hid) xs ds) : Rep K (vw (upd H p (.tup xs)) hid) (.ref p) (.tup ds) :=
  .tup (SqT.of (vw_some.mpr ⟨hf, upd_same⟩)) (r.mono (vw_same (same_new hn _)))
theorem rn_new {K : PySem.W.Frag} {H H0 : Hp} {hid : Hid} {p : Addr} {xs : List V} {ds : List D} (hn : H p = none) (s : Same H0 H) (r : Reps K (vw H hid) xs ds) : RN K H0 (upd H p (.lst xs)) hid (.ref p) (.lst ds) :=
  ⟨p, xs, ds, rfl, rfl, s.free hn, upd_same, by rw [vw_new hn]; exact r⟩
theorem dp_tup {x1} (h : DA X c es fs) : DP X c .s (.Tuple es x1 pos) (tupF fs) := fun hid ρ => PE.imp (pe_tup (h hid ρ)) fun σ H Q ⟨sr, d, hd, q⟩ => by
  obtain ⟨ds, e1, hz, rfl⟩ := tupF_some hd
  exact ⟨sr, ds, e1, fun vs H1 s1 r1 => ⟨by rw [r1.length]; exact hz, fun p hp => q _ _ (s1.trans (same_new hp _)) (rep_newT hp ((sr.ext s1).fresh hp) r1)⟩⟩
theorem dp_lst (h : DA X c es fs) : DP X c .n (.List es pos) (lstF fs) := fun hid ρ => PE.imp (pe_lst (h hid ρ)) fun σ H Q ⟨sr, d, hd, q⟩ => by
  obtain ⟨ds, e1, hz, rfl⟩ := lstF_some hd
  exact ⟨sr, ds, e1, fun vs H1 s1 r1 => ⟨by rw [r1.length]; exact hz, fun p hp => q _ _ (s1.trans (same_new hp _)) (rn_new hp s1 r1)⟩⟩

/-! ### built-ins upon borrowed arguments -/
abbrev Reps1 (K : PySem.W.Frag) (H W : Hp) : List V → List D → Prop := Paired (Rep1 K H W)
def rdB (K : PySem.W.Frag) (c : Ct) (hid : Hid) (f : FA) (ρ : Rho) : TA := fun σ H Q => SR K c hid ρ σ H ∧ ∃ d, f ρ = some d ∧ ∀ vs H', Same H H' → Reps1 K H' (vw H' hid) vs d → Q vs H'
def DB (X : Cx) (c : Ct) (es : List Expr) (f : FA) : Prop := ∀ hid ρ, PA X es (rdB X.K c hid f ρ)
theorem db_nil : DB X c [] nilA := fun hid ρ => PA.imp pa_nil fun σ H Q ⟨sr, d, hd, q⟩ => by cases hd; exact q [] H (Same.refl _) .nil
theorem db_cons (ha : DP X c k e f) (hr : DB X c es fs) (hs : starEach (e :: es) X.env = (false, eval e X.env) :: starEach es X.env := by rfl) : DB X c (e :: es) (consA f fs) := fun hid ρ =>
  PA.imp (pa_cons (ha hid ρ) (hr hid ρ) hs) fun σ H Q ⟨sr, d, hd, q⟩ => by
    obtain ⟨d1, r, e1, e2, rfl⟩ := consA_some hd
    exact ⟨sr, d1, e1, fun v H1 s1 r1 => ⟨sr.ext s1, r, e2, fun vs H2 s2 r2 => q _ H2 (s1.trans s2) (.cons ((RK.b k r1 fun a n => sr.fresh n).ext s2) r2)⟩⟩
def CallD (K : PySem.W.Frag) (k : Kd) (r : List V → Hp → VK → Prop) (F : List D → Option D) : Prop := ∀ (H : Hp) (hid : Hid) (vs : List V) (ds : List D) (d : D) (Q : VK), (∀ a, H a = none → hid a = false) → F ds = some d → Reps1 K H (vw H hid) vs ds →
  (∀ w H', Same H H' → RK K k H H' hid w d → Q w H') → r vs H Q
def callF (F : List D → Option D) (fs : FA) : FE := fun ρ => (fs ρ).bind F
theorem callF_some {F : List D → Option D} {ρ : Rho} {d : D} (h : callF F fs ρ = some d) : ∃ ds, fs ρ = some ds ∧ F ds = some d := by
  unfold callF at h
  cases e1 : fs ρ with
  | none => rw [e1] at h; cases h
  | some ds => rw [e1] at h; exact ⟨ds, rfl, h⟩
theorem rdCB {r : List V → Hp → VK → Prop} {F : List D → Option D} {hid : Hid} {ρ : Rho} (hF : CallD X.K k r F) {σ : St} {H : Hp} {Q : VK} (h : rdP X.K c hid k (callF F fs) ρ σ H Q) : tCB r (rdB X.K c hid fs ρ) σ H Q := by
  obtain ⟨sr, d, hd, q⟩ := h
  obtain ⟨ds, e1, e2⟩ := callF_some hd
  exact ⟨sr, ds, e1, fun vs H1 s1 r1 => hF H1 hid vs ds d Q (fun a n => (sr.ext s1).fresh n) e2 r1 fun w H' s2 r2 => q w H' (s1.trans s2) (RK.left s1 r2)⟩
variable {x : Str} {p : Pos} {id T : String} {r : List V → Hp → VK → Prop} {F : List D → Option D}
theorem dp_callB (hc : CallR X (.builtin id) r) (hF : CallD X.K k r F) (hm : X.mg x = none) (ha : DB X c (e :: es) fs) (hg : Gl X x := by rfl) (hv : bootBuiltins x = some (.builtin id) := by first | exact PySem.boot_len | rfl | kernel_rfl) (hn : x ≠ "__name__" := by decide) (hdb : (x == ("__debug__" : Str)) = false := by decide)
    (he : starEach (e :: es) X.env = (false, eval e X.env) :: starEach es X.env := by rfl) (hpl : (backTo pos (starEach es X.env)).any (·.1) = false := by rfl) : DP X c k (.Call (.Name x p) (e :: es) [] pos) (callF F fs) := fun hid ρ =>
  PE.imp (pe_callB hc hg hm hv (ha hid ρ) hn hdb he hpl) fun σ H Q h => rdCB hF h
theorem dp_callTy (hc : CallR X (.type T) r) (hF : CallD X.K k r F) (hm : X.mg x = none) (ha : DB X c (e :: es) fs) (hg : Gl X x := by rfl) (hv : bootBuiltins x = some (.type T) := by first | rfl | kernel_rfl) (hn : x ≠ "__name__" := by decide) (hdb : (x == ("__debug__" : Str)) = false := by decide)
    (he : starEach (e :: es) X.env = (false, eval e X.env) :: starEach es X.env := by rfl) (hpl : (backTo pos (starEach es X.env)).any (·.1) = false := by rfl) : DP X c k (.Call (.Name x p) (e :: es) [] pos) (callF F fs) := fun hid ρ =>
  PE.imp (pe_callTy hc hg hm hv (ha hid ρ) hn hdb he hpl) fun σ H Q h => rdCB hF h
end

/-! the built-ins by data -/
section
variable {K : PySem.W.Frag}
theorem Reps1.one {H W : Hp} {v : List V} {d : D} (r : Reps1 K H W v [d]) : ∃ x, v = [x] ∧ Rep1 K H W x d := by
  cases r with
  | cons r t => cases t; exact ⟨_, rfl, r⟩
theorem Reps1.two {H W : Hp} {v : List V} {d d' : D} (r : Reps1 K H W v [d, d']) : ∃ x y, v = [x, y] ∧ Rep1 K H W x d ∧ Rep1 K H W y d' := by
  cases r with
  | cons r t => cases t with
    | cons r' t => cases t; exact ⟨_, _, rfl, r, r'⟩
def lenD : List D → Option D
  | [.lst ds] => some (.int ds.length)
  | [.tup ds] => some (.int ds.length)
  | [.scr ds] => some (.int ds.length)
  | _ => none
theorem cd_len : CallD K .s (fun xs H Q => ∃ p ys, xs = [.ref p] ∧ (SqL K H p ys ∨ SqT K H p ys) ∧ Q (.int ys.length) H) lenD := by
  intro H hid vs ds d Q hf h r q
  unfold lenD at h
  split at h
  · cases h
    obtain ⟨x, rfl, r1⟩ := Reps1.one r
    obtain ⟨a, xs, rfl, h1, h2⟩ := r1.lst
    exact ⟨a, xs, rfl, .inl h1, by rw [h2.length]; exact q _ H (Same.refl _) .int⟩
  · cases h
    obtain ⟨x, rfl, r1⟩ := Reps1.one r
    obtain ⟨a, xs, rfl, _, h1, h2⟩ := r1.tup
    exact ⟨a, xs, rfl, .inr h1, by rw [h2.length]; exact q _ H (Same.refl _) .int⟩
  · cases h
    obtain ⟨x, rfl, r1⟩ := Reps1.one r
    obtain ⟨a, xs, rfl, h1, h2⟩ := r1.scr
    exact ⟨a, xs, rfl, .inl h1, by rw [h2.length]; exact q _ H (Same.refl _) .int⟩
  · cases h
def absI : List D → Option D
  | [.int i] => some (.int (if i < 0 then -i else i))
  | _ => none
theorem cd_abs : CallD K .s (fun xs H Q => ∃ i, xs = [.int i] ∧ Q (.int (if i < 0 then -i else i)) H) absI := by
  intro H hid vs ds d Q hf h r q
  unfold absI at h
  split at h
  · cases h
    obtain ⟨x, rfl, r1⟩ := Reps1.one r
    cases r1.int
    exact ⟨_, rfl, q _ H (Same.refl _) .int⟩
  · cases h
def max2D : List D → Option D
  | [.int i, .int j] => some (.int (if j > i then j else i))
  | _ => none
theorem cd_max2 : CallD K .s (fun xs H Q => ∃ i j, xs = [.int i, .int j] ∧ Q (.int (if j > i then j else i)) H) max2D := by
  intro H hid vs ds d Q hf h r q
  unfold max2D at h
  split at h
  · cases h
    obtain ⟨x, y, rfl, r1, r2⟩ := Reps1.two r
    cases r1.int; cases r2.int
    exact ⟨_, _, rfl, q _ H (Same.refl _) .int⟩
  · cases h
def min2D : List D → Option D
  | [.int i, .int j] => some (.int (if j < i then j else i))
  | _ => none
theorem cd_min2 : CallD K .s (fun xs H Q => ∃ i j, xs = [.int i, .int j] ∧ Q (.int (if j < i then j else i)) H) min2D := by
  intro H hid vs ds d Q hf h r q
  unfold min2D at h
  split at h
  · cases h
    obtain ⟨x, y, rfl, r1, r2⟩ := Reps1.two r
    cases r1.int; cases r2.int
    exact ⟨_, _, rfl, q _ H (Same.refl _) .int⟩
  · cases h
def tupleD : List D → Option D
  | [.lst ds] => some (.tup ds)
  | [.tup ds] => some (.tup ds)
  | _ => none
theorem cd_tuple : CallD K .s (fun xs H Q => ∃ p ys, xs = [.ref p] ∧ ((SqL K H p ys ∧ ∀ l, H l = none → Q (.ref l) (upd H l (.tup ys))) ∨ (SqT K H p ys ∧ Q (.ref p) H))) tupleD := by
  intro H hid vs ds d Q hf h r q
  unfold tupleD at h
  split at h
  · cases h
    obtain ⟨x, rfl, r1⟩ := Reps1.one r
    obtain ⟨a, xs, rfl, h1, h2⟩ := r1.lst
    exact ⟨a, xs, rfl, .inl ⟨h1, fun l hl => q _ _ (same_new hl _) (rep_newT hl (hf l hl) h2)⟩⟩
  · cases h
    obtain ⟨x, rfl, r1⟩ := Reps1.one r
    obtain ⟨a, xs, rfl, h0, h1, h2⟩ := r1.tup
    exact ⟨a, xs, rfl, .inr ⟨h1, q _ H (Same.refl _) (.tup h0 h2)⟩⟩
  · cases h
/-! items -/
def ixD : D → D → Option D
  | .lst ds, .int i => atI ds i
  | .tup ds, .int i => atI ds i
  | .scr ds, .int i => atI ds i
  | _, _ => none
theorem atI_rep {F : Hp} {xs : List V} {ds : List D} {i : Int} {d : D} (r : Reps K F xs ds) (h : atI ds i = some d) : ∃ x, atI xs i = some x ∧ Rep K F x d := by
  unfold atI at h ⊢
  rw [r.length]
  cases e : ixN ds.length i with
  | none => rw [e] at h; cases h
  | some j =>
    rw [e] at h
    obtain ⟨x, h1, h2⟩ := r.get (i := j) h
    exact ⟨x, h1, h2⟩
theorem od_ix : OpD K .s (rIx K) ixD := by
  intro H hid v u x y d Q hf h r1 r2 q
  unfold ixD at h
  split at h
  · cases r2.int
    obtain ⟨a, xs, rfl, h1, h2⟩ := r1.lst
    obtain ⟨z, h3, h4⟩ := atI_rep h2 h
    exact .inl ⟨a, xs, _, z, rfl, rfl, h1, h3, q _ H (Same.refl _) h4⟩
  · cases r2.int
    obtain ⟨a, xs, rfl, _, h1, h2⟩ := r1.tup
    obtain ⟨z, h3, h4⟩ := atI_rep h2 h
    exact .inr (.inl ⟨a, xs, _, z, rfl, rfl, h1, h3, q _ H (Same.refl _) h4⟩)
  · cases r2.int
    obtain ⟨a, xs, rfl, h1, h2⟩ := r1.scr
    obtain ⟨z, h3, h4⟩ := atI_rep h2 h
    exact .inl ⟨a, xs, _, z, rfl, rfl, h1, h3, q _ H (Same.refl _) h4⟩
  · cases h
end
end L2
set_option Elab.async false
set_option linter.all false
set_option maxRecDepth 100000
namespace L2
open PySem PySem.Spec PyProof.Rows

/-! ### expressions that change what the frame holds -/
abbrev GE := Rho → Option (D × Rho)
abbrev GA := Rho → Option (List D × Rho)
def Kept (hid : Hid) (H H' : Hp) : Prop := ∀ b o, H b = some o → hid b = false → H' b = some o
theorem Kept.of {hid : Hid} {H H' : Hp} (s : Same H H') : Kept hid H H' := fun b o q _ => s b o q
theorem Kept.trans {hid : Hid} {H H1 H2 : Hp} (a : Kept hid H H1) (b : Kept hid H1 H2) : Kept hid H H2 := fun c o q h => b c o (a c o q h) h
theorem Kept.vw {hid : Hid} {H H' : Hp} (a : Kept hid H H') : Same (vw H hid) (vw H' hid) := vw_keep a
def PostE (K : PySem.W.Frag) (c : Ct) (hid : Hid) (k : Kd) (ρ' : Rho) (σ : St) (H H' : Hp) (v : V) (d : D) : Prop := Kept hid H H' ∧ match k with
  | .n => ∃ a xs ds, d = .lst ds ∧ v = .ref a ∧ H a = none ∧ H' a = some (.lst xs) ∧ c.H₀ a = none ∧ hid a = false ∧ SR K c (hadd hid a) ρ' σ H' ∧ Reps K (vw H' (hadd hid a)) xs ds ∧ ∀ i : Nat, Ow ρ'[i]? → σ[i]? ≠ some (some (.ref a))
  | _ => SR K c hid ρ' σ H' ∧ Rep K (vw H' hid) v d
def rdE (K : PySem.W.Frag) (c : Ct) (hid : Hid) (k : Kd) (f : GE) (ρ : Rho) : TE := fun σ H Q => SR K c hid ρ σ H ∧ ∃ d ρ', f ρ = some (d, ρ') ∧ ∀ v H', PostE K c hid k ρ' σ H H' v d → Q v H'
def DE (X : Cx) (c : Ct) (k : Kd) (e : Expr) (f : GE) : Prop := ∀ hid ρ, PE X e (rdE X.K c hid k f ρ)
def pu (f : FE) : GE := fun ρ => (f ρ).map fun d => (d, ρ)
theorem pu_some {f : FE} {ρ ρ' : Rho} {d : D} (h : pu f ρ = some (d, ρ')) : f ρ = some d ∧ ρ' = ρ := by
  unfold pu at h
  cases e : f ρ with
  | none => rw [e] at h; cases h
  | some x => rw [e] at h; cases h; exact ⟨rfl, rfl⟩

section
variable {K : PySem.W.Frag} {c : Ct} {hid hid' : Hid} {ρ : Rho} {σ : St} {H H' : Hp} {i : Nat} {a : Addr}
theorem hadd_true {hid : Hid} {a b : Addr} (h : hid b = true) : hadd hid a b = true := by unfold hadd; rw [h]; rfl
theorem hadd_self {hid : Hid} {a : Addr} : hadd hid a a = true := by unfold hadd; simp
/-- what is newer than the state may be hidden -/
theorem SR.hide (h : SR K c hid ρ σ H) (e : Same H H') (n : H a = none) {o : HO} (ho : H' a = some o) (hn : ∀ xs, o ≠ .tup xs := by intro _ e; cases e) : SR K c (hadd hid a) ρ σ H' := by
  have sm : Same (vw H hid) (vw H' (hadd hid a)) := fun b o q => by
    obtain ⟨q1, q2⟩ := vw_some.mp q
    refine vw_some.mpr ⟨?_, e _ _ q2⟩
    unfold hadd
    rw [q1]
    have : b ≠ a := ne_of_none q2 n
    simp [this]
  refine ⟨fun b hb => ?_, fun b xs hb q => by
    by_cases eb : b = a
    · subst eb; rw [ho] at q; exact hn _ (Option.some.inj q)
    · unfold hadd at hb
      exact (h.ext e).ht b xs (by simpa [eb] using hb) q, fun b q => hadd_true (h.h0 b q), (h.ext e).kp, (h.ext e).t0, h.c0, h.m0, h.len, fun i s q => ?_, h.ap⟩
  · by_cases eb : b = a
    · subst eb; exact ⟨_, ho⟩
    · unfold hadd at hb
      have : hid b = true := by simpa [eb] using hb
      obtain ⟨o', q⟩ := h.tr b this
      exact ⟨o', e _ _ q⟩
  · have z := h.sl i s q
    cases s with
    | no => trivial
    | v d => obtain ⟨x, h1, h2⟩ := z; exact ⟨x, h1, h2.mono sm⟩
    | own ds => obtain ⟨a', xs, h1, h2, h3, h4, h5⟩ := z; exact ⟨a', xs, h1, e _ _ h2, hadd_true h3, h4, h5.mono sm⟩
    | arg ds => obtain ⟨a', xs, h1, h2, h3, h4, h5⟩ := z; exact ⟨a', xs, h1, e _ _ h2, hadd_true h3, h4, h5.mono sm⟩
    | ob b => obtain ⟨a', h1, h2⟩ := z; exact ⟨a', h1, h2.mono (fun _ => e a') sm fun _ => hadd_true⟩
/-- showing again what is hidden -/
theorem SR.show (h : SR K c (hadd hid a) ρ σ H) (h0 : ∀ b, c.hid₀ b = true → hid b = true) (no : ∀ i : Nat, Ow ρ[i]? → σ[i]? ≠ some (some (.ref a))) : SR K c hid ρ σ H := by
  have sm : Same (vw H (hadd hid a)) (vw H hid) := vw_less fun b q => hadd_true q
  have un : ∀ b, b ≠ a → hadd hid a b = true → hid b = true := fun b nb hb => by unfold hadd at hb; simpa [nb] using hb
  refine ⟨fun b hb => h.tr b (hadd_true hb), fun b xs hb => h.ht b xs (hadd_true hb), h0, h.kp, h.t0, h.c0, h.m0, h.len, fun i s q => ?_, h.ap⟩
  have z := h.sl i s q
  cases s with
  | no => trivial
  | v d => obtain ⟨x, h1, h2⟩ := z; exact ⟨x, h1, h2.mono sm⟩
  | own ds =>
    obtain ⟨a', xs, h1, h2, h3, h4, h5⟩ := z
    have : a' ≠ a := fun e => by subst e; exact no i (by rw [q]; trivial) h1
    exact ⟨a', xs, h1, h2, un a' this h3, h4, h5.mono sm⟩
  | arg ds =>
    obtain ⟨a', xs, h1, h2, h3, h4, h5⟩ := z
    have : a' ≠ a := fun e => by subst e; exact no i (by rw [q]; trivial) h1
    exact ⟨a', xs, h1, h2, un a' this h3, h4, h5.mono sm⟩
  | ob b =>
    obtain ⟨a', h1, h2⟩ := z
    exact ⟨a', h1, h2.mono (fun _ _ q => q) sm fun ow => un a' fun e => by subst e; exact no i (by rw [q]; exact ow) h1⟩
theorem SR.notOw (h : SR K c hid ρ σ H) (n : hid a = false) (i : Nat) (o : Ow ρ[i]?) : σ[i]? ≠ some (some (.ref a)) := fun e => by
  cases q : ρ[i]? with
  | none => rw [q] at o; exact o
  | some s =>
    rw [q] at o
    have z := h.sl i s q
    cases s with
    | no => exact o
    | v d => exact o
    | own ds => obtain ⟨a', xs, h1, h2, h3, _⟩ := z; rw [e] at h1; cases h1; rw [n] at h3; cases h3
    | arg ds => obtain ⟨a', xs, h1, h2, h3, _⟩ := z; rw [e] at h1; cases h1; rw [n] at h3; cases h3
    | ob b => obtain ⟨a', h1, h2⟩ := z; rw [e] at h1; cases h1; have := h2.hid o; rw [n] at this; cases this
/-- behind a pure expression -/
theorem SR.post {k : Kd} {v : V} {d : D} (h : SR K c hid ρ σ H) (e : Same H H') (r : RK K k H H' hid v d) (hk : k ≠ .b) : PostE K c hid k ρ σ H H' v d := by
  cases k with
  | b => exact absurd rfl hk
  | s => exact ⟨.of e, h.ext e, r⟩
  | n =>
    obtain ⟨a, xs, ds, h1, h2, h3, h4, h5⟩ := r
    exact ⟨.of e, a, xs, ds, h1, h2, h3, h4, h.fresh0 h3, h.fresh h3, h.hide e h3 h4, h5, h.notOw (h.fresh h3)⟩
theorem PostE.left {k : Kd} {ρ' : Rho} {H1 : Hp} {v : V} {d : D} (s : Kept hid H H1) (p : PostE K c hid k ρ' σ H1 H' v d) : PostE K c hid k ρ' σ H H' v d := by
  cases k with
  | b => exact ⟨s.trans p.1, p.2⟩
  | s => exact ⟨s.trans p.1, p.2⟩
  | n =>
    obtain ⟨kp, a, xs, ds, h1, h2, hn, h3, h4, h5, h6⟩ := p
    refine ⟨s.trans kp, a, xs, ds, h1, h2, ?_, h3, h4, h5, h6⟩
    cases e : H a with
    | none => rfl
    | some o => rw [s a o e h5] at hn; cases hn
theorem PostE.toS {ρ' : Rho} {v : V} {d : D} (h0 : ∀ b, c.hid₀ b = true → hid b = true) (p : PostE K c hid .n ρ' σ H H' v d) : PostE K c hid .s ρ' σ H H' v d := by
  obtain ⟨kp, a, xs, ds, rfl, rfl, hn, h1, h2, h3, h4, h5, h6⟩ := p
  exact ⟨kp, h4.show h0 h6, .lst (vw_some.mpr ⟨h3, h1⟩) (h5.mono (vw_less fun b q => hadd_true q))⟩
end

section
variable {X : Cx} {c : Ct} {e a b : Expr} {es rest : List Expr} {f g : GE} {k : Kd} {pos : Pos}
theorem DP.ef {f : FE} (h : DP X c k e f) (hk : k ≠ .b := by decide) : DE X c k e (pu f) := fun hid ρ => PE.imp (h hid ρ) fun σ H Q ⟨sr, d, ρ', hd, q⟩ => by
  obtain ⟨h1, rfl⟩ := pu_some hd
  exact ⟨sr, d, h1, fun v H' s r => q v H' (sr.post s r hk)⟩
theorem DE.toS (h : DE X c .n e f) : DE X c .s e f := fun hid ρ => PE.imp (h hid ρ) fun σ H Q ⟨sr, d, ρ', hd, q⟩ => ⟨sr, d, ρ', hd, fun v H' p => q v H' (p.toS sr.h0)⟩
def bE {α : Type} (f : GE) (g : D → Rho → Option α) : Rho → Option α := fun ρ => (f ρ).bind fun p => g p.1 p.2
theorem bE_some {α : Type} {g : D → Rho → Option α} {ρ : Rho} {z : α} (h : bE f g ρ = some z) : ∃ d ρ', f ρ = some (d, ρ') ∧ g d ρ' = some z := by
  unfold bE at h
  cases e : f ρ with
  | none => rw [e] at h; cases h
  | some p => rw [e] at h; exact ⟨p.1, p.2, rfl, h⟩
def op2E (F : D → D → Option D) (f g : GE) : GE := bE f fun x => bE g fun y ρ => (F x y).map fun d => (d, ρ)
theorem op2E_some {F : D → D → Option D} {ρ ρ' : Rho} {d : D} (h : op2E F f g ρ = some (d, ρ')) : ∃ x ρ1 y, f ρ = some (x, ρ1) ∧ g ρ1 = some (y, ρ') ∧ F x y = some d := by
  obtain ⟨x, ρ1, h1, h2⟩ := bE_some h
  obtain ⟨y, ρ2, h3, h4⟩ := bE_some h2
  cases e : F x y with
  | none => rw [e] at h4; cases h4
  | some z => rw [e] at h4; cases h4; exact ⟨x, ρ1, y, h1, h3, e⟩
theorem rd2E {r : R2} {F : D → D → Option D} {hid : Hid} {ρ : Rho} (hF : OpD X.K k r F) (hk : k ≠ .b) {σ : St} {H : Hp} {Q : VK} (h : rdE X.K c hid k (op2E F f g) ρ σ H Q) : tOp r (rdE X.K c hid .s f ρ) (fun σ H Q => ∃ ρ1, rdE X.K c hid .s g ρ1 σ H Q) σ H Q := by
  obtain ⟨sr, d, ρ', hd, q⟩ := h
  obtain ⟨x, ρ1, y, e1, e2, e3⟩ := op2E_some hd
  refine ⟨sr, x, ρ1, e1, fun v H1 ⟨k1, s1, r1⟩ => ⟨ρ1, s1, y, ρ', e2, fun u H2 ⟨k2, s2, r2⟩ => ?_⟩⟩
  exact hF H2 hid v u x y d Q (fun a n => s2.fresh n) e3 (.inl (r1.mono k2.vw)) (.inl r2) fun w H' s3 r3 => q w H' (PostE.left (k1.trans k2) (s2.post s3 r3 hk))
theorem exPE {α : Type} {t : α → TE} (h : ∀ z, PE X e (t z)) : PE X e (fun σ H Q => ∃ z, t z σ H Q) := fun pins s σ H Q I ⟨z, q⟩ => h z pins s σ H Q I q
theorem de_op {op : Operator} {r : R2} {F : D → D → Option D} (ho : OpR X (binaryOp op) r) (hF : OpD X.K k r F) (ha : DE X c .s a f) (hb : DE X c .s b g) (hk : k ≠ .b := by decide) : DE X c k (.BinOp a op b pos) (op2E F f g) := fun hid ρ =>
  PE.imp (pe_op ho (ha hid ρ) (exPE fun ρ1 => hb hid ρ1)) fun σ H Q h => rd2E hF hk h

/-! arguments -/
def rdG (K : PySem.W.Frag) (c : Ct) (hid : Hid) (f : GA) (ρ : Rho) : TA := fun σ H Q => SR K c hid ρ σ H ∧ ∃ d ρ', f ρ = some (d, ρ') ∧ ∀ vs H', Kept hid H H' → SR K c hid ρ' σ H' → Reps K (vw H' hid) vs d → Q vs H'
def DG (X : Cx) (c : Ct) (es : List Expr) (f : GA) : Prop := ∀ hid ρ, PA X es (rdG X.K c hid f ρ)
def puA (f : FA) : GA := fun ρ => (f ρ).map fun d => (d, ρ)
theorem puA_some {f : FA} {ρ ρ' : Rho} {d : List D} (h : puA f ρ = some (d, ρ')) : f ρ = some d ∧ ρ' = ρ := by
  unfold puA at h
  cases e : f ρ with
  | none => rw [e] at h; cases h
  | some x => rw [e] at h; cases h; exact ⟨rfl, rfl⟩
theorem DA.gf {f : FA} (h : DA X c es f) : DG X c es (puA f) := fun hid ρ => PA.imp (h hid ρ) fun σ H Q ⟨sr, d, ρ', hd, q⟩ => by
  obtain ⟨h1, rfl⟩ := puA_some hd
  exact ⟨sr, d, h1, fun v H' s r => q v H' (.of s) (sr.ext s) r⟩
def consG (f : GE) (fs : GA) : GA := bE f fun d ρ => (fs ρ).map fun p => (d :: p.1, p.2)
theorem exPA {α : Type} {t : α → TA} (h : ∀ z, PA X es (t z)) : PA X es (fun σ H Q => ∃ z, t z σ H Q) := fun p pins s σ H Q I ⟨z, q⟩ => h z p pins s σ H Q I q
theorem dg_cons {fs : GA} (ha : DE X c .s e f) (hr : DG X c es fs) (hs : starEach (e :: es) X.env = (false, eval e X.env) :: starEach es X.env := by rfl) : DG X c (e :: es) (consG f fs) := fun hid ρ =>
  PA.imp (pa_cons (ha hid ρ) (exPA fun ρ1 => hr hid ρ1) hs) fun σ H Q ⟨sr, d, ρ', hd, q⟩ => by
    obtain ⟨d1, ρ1, e1, h2⟩ := bE_some hd
    cases e2 : fs ρ1 with
    | none => rw [e2] at h2; cases h2
    | some p =>
      rw [e2] at h2
      obtain ⟨ds, ρ2⟩ := p
      cases h2
      exact ⟨sr, d1, ρ1, e1, fun v H1 ⟨k1, s1, r1⟩ => ⟨ρ1, s1, ds, _, e2, fun vs H2 k2 s2 r2 => q _ H2 (k1.trans k2) s2 (.cons (r1.mono k2.vw) r2)⟩⟩
end

/-! ### what a def promises -/
def spP (K : PySem.W.Frag) (k : Kd) (n : Nat) (P : List D → Option D) : Sp := fun vs H Q _ => ∃ hid ds, Trk hid H ∧ Reps K (vw H hid) vs ds ∧ ds.length = n ∧ ∃ d, P ds = some d ∧ ∀ v H', Same H H' → RK K k H H' hid v d → Q v H'
def EndE (K : PySem.W.Frag) (k : Kd) (hid : Hid) (H H' : Hp) (v : V) (d : D) (xs' : List V) (bs' : List D) : Prop := match k with
  | .n => ∃ p ys es, d = .lst es ∧ v = .ref p ∧ H p = none ∧ H' p = some (.lst ys) ∧ Reps K (vw H' (hadd hid p)) ys es ∧ Reps K (vw H' (hadd hid p)) xs' bs'
  | _ => Rep K (vw H' hid) v d ∧ Reps K (vw H' hid) xs' bs'
def spE (K : PySem.W.Frag) (k : Kd) (n : Nat) (M : List D → List D → Option (D × List D)) : Sp := fun vs H Q _ => ∃ hid a xs bs us ds, vs = .ref a :: us ∧ Trk hid H ∧ hid a = true ∧ H a = some (.lst xs) ∧ Reps K (vw H hid) xs bs ∧
  Reps K (vw H hid) us ds ∧ ds.length = n ∧ ∃ d bs', M bs ds = some (d, bs') ∧ ∀ v H' xs', (∀ b o, H b = some o → b ≠ a → H' b = some o) → H' a = some (.lst xs') → EndE K k hid H H' v d xs' bs' → Q v H'

section
variable {X : Cx} {c : Ct} {e a b : Expr} {es rest : List Expr} {k : Kd} {pos p : Pos} {x : Str} {f : Addr} {fd : FuncData} {ps : List Str} {j n : Nat}
/-- f(..) of a def without effect -/
theorem dp_call {P : List D → Option D} {fs : FA} (F : FnOk X.prog X.w X.K X.mg X.base CX0 j f fd ps (spP X.K k n P)) (hr : Room j X.A) (hm : X.mg x = some (.ref f)) (hk : PySem.W.keepIn X.K (.ref f) = true) (hb : Binds X.K fd ps [])
    (ha : DA X c (e :: es) fs) (hg : Gl X x := by rfl) (hdb : (x == ("__debug__" : Str)) = false := by decide) (he : starEach (e :: es) X.env = (false, eval e X.env) :: starEach es X.env := by rfl) (hpl : (backTo pos (starEach es X.env)).any (·.1) = false := by rfl) :
    DP X c k (.Call (.Name x p) (e :: es) [] pos) (callF (fun ds => if ds.length = n then P ds else none) fs) := fun hid ρ =>
  PE.imp (pe_call F hr hg hm hk hb .nil (pass0 (X := X)) (ha hid ρ) hdb he hpl) fun σ H Q ⟨sr, d, hd, q⟩ => by
    obtain ⟨ds, e1, e2⟩ := callF_some hd
    have e2' : (if ds.length = n then P ds else none) = some d := e2
    split at e2'
    · refine ⟨sr, ds, e1, fun vs H1 s1 r1 => ?_⟩
      show spP X.K k n P (vs ++ []) H1 Q E0
      rw [List.append_nil]
      exact ⟨hid, ds, (sr.ext s1).trk, r1, ‹_›, d, e2', fun v H' s2 r2 => q v H' (s1.trans s2) (RK.left s1 r2)⟩
    · cases e2'
def setB (i : Nat) (bs : List D) (ρ : Rho) : Rho := match ρ[i]? with
  | some (.own _) => ρ.set i (.own bs)
  | some (.arg _) => ρ.set i (.arg bs)
  | _ => ρ
def getB (i : Nat) (ρ : Rho) : Option (List D) := match ρ[i]? with
  | some (.own ds) => some ds
  | some (.arg ds) => some ds
  | _ => none
theorem getB_some {i : Nat} {ρ : Rho} {bs : List D} (h : getB i ρ = some bs) : ρ[i]? = some (.own bs) ∨ ρ[i]? = some (.arg bs) := by
  unfold getB at h
  split at h
  · cases h; exact .inl ‹_›
  · cases h; exact .inr ‹_›
  · cases h
/-- the list that the frame holds alone at slot i -/
theorem SR.held {K : PySem.W.Frag} {hid : Hid} {ρ : Rho} {σ : St} {H : Hp} {i : Nat} {bs : List D} (h : SR K c hid ρ σ H) (hg : getB i ρ = some bs) : ∃ a xs, σ[i]? = some (some (.ref a)) ∧ H a = some (.lst xs) ∧ hid a = true ∧ Reps K (vw H hid) xs bs ∧ (c.mu a = true ∨ c.H₀ a = none) := by
  rcases getB_some hg with e | e
  · obtain ⟨a, xs, h1, h2, h3, h4, h5⟩ := h.sl i _ e
    exact ⟨a, xs, h1, h2, h3, h5, .inr h4⟩
  · obtain ⟨a, xs, h1, h2, h3, h4, h5⟩ := h.sl i _ e
    exact ⟨a, xs, h1, h2, h3, h5, .inl h4⟩
theorem getElem?_setB {i j : Nat} {ρ : Rho} {bs : List D} (h : j ≠ i) : (setB i bs ρ)[j]? = ρ[j]? := by
  unfold setB
  split
  · rw [List.getElem?_set_ne (Ne.symm h)]
  · rw [List.getElem?_set_ne (Ne.symm h)]
  · rfl
theorem setB_len {i : Nat} {ρ : Rho} {bs : List D} : (setB i bs ρ).length = ρ.length := by
  unfold setB
  split
  · simp
  · simp
  · rfl
theorem ow_setB {i j : Nat} {ρ : Rho} {bs : List D} (h : Ow (setB i bs ρ)[j]?) : Ow ρ[j]? := by
  by_cases e : j = i
  · subst e
    unfold setB at h
    split at h
    · rw [‹ρ[j]? = _›]; trivial
    · rw [‹ρ[j]? = _›]; trivial
    · exact h
  · rw [getElem?_setB e] at h; exact h
/-- the list at slot i is another one, the rest is kept -/
theorem SR.put {K : PySem.W.Frag} {hid : Hid} {ρ : Rho} {σ : St} {H H' : Hp} {i : Nat} {bs bs' : List D} {a : Addr} {xs' : List V} (h : SR K c hid ρ σ H) (hg : getB i ρ = some bs) (ha : σ[i]? = some (some (.ref a))) (kp : ∀ b o, H b = some o → b ≠ a → H' b = some o)
    (hx : H' a = some (.lst xs')) (r : Reps K (vw H' hid) xs' bs') : SR K c hid (setB i bs' ρ) σ H' := by
  obtain ⟨a1, xs, h1, h2, h3, h4, h5⟩ := h.held hg
  rw [ha] at h1; cases h1
  have sm : Same (vw H hid) (vw H' hid) := vw_keep fun b o q hb => kp b o q (fun e => by subst e; rw [h3] at hb; cases hb)
  have tr' : ∀ b o, H b = some o → ∃ o', H' b = some o' := fun b o q => by
    by_cases e : b = a
    · subst e; exact ⟨_, hx⟩
    · exact ⟨o, kp b o q e⟩
  refine ⟨fun b hb => let ⟨o, q⟩ := h.tr b hb; tr' b o q, fun b xs hb q => by
    by_cases e : b = a
    · subst e; rw [hx] at q; cases q
    · obtain ⟨o, w⟩ := h.tr b hb
      have z := kp b o w e
      rw [q] at z; cases z
      exact h.ht b xs hb w, h.h0, fun b o q m => ?_, fun b o q => let ⟨o', q'⟩ := h.t0 b o q; tr' b o' q', h.c0, h.m0, by rw [setB_len]; exact h.len, fun j s q => ?_, fun j l z n o1 o2 => h.ap j l z n (ow_setB o1) (ow_setB o2)⟩
  · refine kp b o (h.kp b o q m) fun e => ?_
    subst e
    rcases h5 with h5 | h5
    · rw [h5] at m; cases m
    · rw [h5] at q; cases q
  · by_cases e : j = i
    · subst e
      rcases getB_some hg with w | w
      · have lt := (List.getElem?_eq_some_iff.mp w).1
        unfold setB at q
        rw [w] at q
        dsimp only at q
        rw [List.getElem?_set_self lt] at q
        cases q
        obtain ⟨a2, xs2, g1, g2, g3, g4, g5⟩ := h.sl j _ w
        rw [ha] at g1; cases g1
        exact ⟨_, xs', ha, hx, g3, g4, r⟩
      · have lt := (List.getElem?_eq_some_iff.mp w).1
        unfold setB at q
        rw [w] at q
        dsimp only at q
        rw [List.getElem?_set_self lt] at q
        cases q
        obtain ⟨a2, xs2, g1, g2, g3, g4, g5⟩ := h.sl j _ w
        rw [ha] at g1; cases g1
        exact ⟨_, xs', ha, hx, g3, g4, r⟩
    · rw [getElem?_setB e] at q
      have z := h.sl j s q
      cases s with
      | no => trivial
      | v d => obtain ⟨x, h1, h2⟩ := z; exact ⟨x, h1, h2.mono sm⟩
      | own ds =>
        obtain ⟨a', xs, z1, z2, z3, z4, z5⟩ := z
        have ne : a' ≠ a := fun e' => by
          subst e'
          refine h.ap j i a' e (by rw [q]; trivial) ?_ z1 ha
          rcases getB_some hg with w | w <;> rw [w] <;> trivial
        exact ⟨a', xs, z1, kp _ _ z2 ne, z3, z4, z5.mono sm⟩
      | arg ds =>
        obtain ⟨a', xs, z1, z2, z3, z4, z5⟩ := z
        have ne : a' ≠ a := fun e' => by
          subst e'
          refine h.ap j i a' e (by rw [q]; trivial) ?_ z1 ha
          rcases getB_some hg with w | w <;> rw [w] <;> trivial
        exact ⟨a', xs, z1, kp _ _ z2 ne, z3, z4, z5.mono sm⟩
      | ob b =>
        obtain ⟨a', z1, z2⟩ := z
        refine ⟨a', z1, z2.mono (fun ow o w => kp _ _ w fun e' => ?_) sm fun _ w => w⟩
        subst e'
        refine h.ap j i a' e (by rw [q]; exact ow) ?_ z1 ha
        rcases getB_some hg with w | w <;> rw [w] <;> trivial
/-- f(bag, ..) of a def that changes the list at slot i -/
def callE (i n : Nat) (M : List D → List D → Option (D × List D)) (fs : GA) : GE := fun ρ => match getB i ρ with
  | none => none
  | some _ => match fs ρ with
    | none => none
    | some (ds, ρ1) => match getB i ρ1 with
      | none => none
      | some bs => if ds.length = n then match M bs ds with
          | none => none
          | some (d, bs') => some (d, setB i bs' ρ1) else none
theorem callE_some {i : Nat} {M : List D → List D → Option (D × List D)} {fs : GA} {ρ ρ' : Rho} {d : D} (h : callE i n M fs ρ = some (d, ρ')) : ∃ bs0 ds ρ1 bs bs', getB i ρ = some bs0 ∧ fs ρ = some (ds, ρ1) ∧ getB i ρ1 = some bs ∧ ds.length = n ∧ M bs ds = some (d, bs') ∧ ρ' = setB i bs' ρ1 := by
  unfold callE at h
  split at h
  · cases h
  · split at h
    · cases h
    · split at h
      · cases h
      · split at h
        · split at h
          · cases h
          · cases h; exact ⟨_, _, _, _, _, ‹_›, ‹_›, ‹_›, ‹_›, ‹_›, rfl⟩
        · cases h
theorem de_callE (i : Nat) {y : Str} {py : Pos} {M : List D → List D → Option (D × List D)} {fs : GA} (F : FnOk X.prog X.w X.K X.mg X.base CX0 j f fd ps (spE X.K k n M)) (hr : Room j X.A) (hm : X.mg x = some (.ref f)) (hk : PySem.W.keepIn X.K (.ref f) = true) (hb : Binds X.K fd ps [])
    (ha : DG X c es fs) (hkb : k ≠ .b := by decide) (hN : X.N[i]? = some y := by rfl) (hv : Vis X.env.scope y := by first | exact Or.inl rfl | exact Or.inr (Or.inl rfl) | exact Or.inr (Or.inr rfl)) (hd : (y == ("__debug__" : Str)) = false := by decide)
    (hcd : (y == ("__classdict__" : Str)) = false := by decide) (hs : starEach (.Name y py :: es) X.env = (false, eval (.Name y py) X.env) :: starEach es X.env := by rfl) (hg : Gl X x := by rfl) (hdb : (x == ("__debug__" : Str)) = false := by decide) (hpl : (backTo pos (starEach es X.env)).any (·.1) = false := by rfl) :
    DE X c k (.Call (.Name x p) (.Name y py :: es) [] pos) (callE i n M fs) := fun hid ρ =>
  PE.imp (pe_call F hr hg hm hk hb .nil (pass0 (X := X)) (pa_cons (pv i hN hv hd hcd) (ha hid ρ) hs) hdb hs hpl) fun σ H Q ⟨sr, d, ρ', hd', q⟩ => by
    obtain ⟨bs0, ds, ρ1, bs, bs', e0, e1, e2, e3, e4, rfl⟩ := callE_some hd'
    obtain ⟨a, xs0, a1, _, a3, _, _⟩ := sr.held e0
    refine ⟨.ref a, a1, sr, ds, ρ1, e1, fun us H1 k1 s1 r1 => ?_⟩
    obtain ⟨a', xs, b1, b2, b3, b4, b5⟩ := s1.held e2
    rw [a1] at b1; cases b1
    show spE X.K k n M ((.ref a :: us) ++ []) H1 Q E0
    rw [List.append_nil]
    refine ⟨hid, a, xs, bs, us, ds, rfl, s1.trk, b3, b2, b4, r1, e3, d, bs', e4, fun v H' xs' kp hx hr' => q v H' ?_⟩
    have kp' : Kept hid H1 H' := fun b o q hb => kp b o q fun e => by subst e; rw [b3] at hb; cases hb
    cases k with
    | b => exact absurd rfl hkb
    | s => exact ⟨k1.trans kp', s1.put e2 a1 kp hx hr'.2, hr'.1⟩
    | n =>
      obtain ⟨p', ys, es', rfl, rfl, h1, h2, h3, h4⟩ := hr'
      have np : hid p' = false := s1.fresh h1
      have na : a ≠ p' := fun e => by subst e; rw [b2] at h1; cases h1
      -- hide the new list in the state behind: first in a heap that is H1 and it
      have sB : SR X.K c (hadd hid p') ρ1 σ (upd H1 p' (.lst ys)) := s1.hide (same_new h1 _) h1 upd_same
      have kp2 : ∀ b o, (upd H1 p' (.lst ys)) b = some o → b ≠ a → H' b = some o := fun b o z hb => by
        by_cases e : b = p'
        · subst e; rw [upd_same] at z; cases z; exact h2
        · rw [upd_ne e] at z; exact kp b o z hb
      have sC : SR X.K c (hadd hid p') (setB i bs' ρ1) σ H' := sB.put e2 a1 kp2 hx h4
      have hn : H p' = none := by
        cases e : H p' with
        | none => rfl
        | some o => rw [k1 p' o e np] at h1; cases h1
      refine ⟨k1.trans kp', p', ys, es', rfl, rfl, hn, h2, s1.fresh0 h1, np, sC, h3, fun m hm hσ => ?_⟩
      have := s1.notOw np m (ow_setB hm)
      exact this hσ
end
end L2
set_option Elab.async false
set_option linter.all false
set_option maxRecDepth 100000
namespace L2
open PySem PySem.Spec PyProof.Rows

section
variable {X : Cx} {c : Ct} {e a b : Expr} {es rest : List Expr} {k : Kd} {pos p : Pos} {x : Str} {f : Addr} {fd : FuncData} {ps : List Str} {j n : Nat}
end

/-! ### statements -/
inductive Out where
  | nx (ρ : Rho) | rt (d : D) (ρ : Rho) | bk (ρ : Rho) | ct (ρ : Rho) | no
abbrev FS := Rho → Out
def hret (c : Ct) (k : Kd) (v : V) : Hid := match k, v with
  | .n, .ref a => hadd c.hid₀ a
  | _, _ => c.hid₀
/-- behind a return: the value, and what is left of the list that was handed in -/
structure Ret (K : PySem.W.Frag) (c : Ct) (k : Kd) (ρ' : Rho) (H' : Hp) (v : V) (d : D) : Prop where
  kp : ∀ b o, c.H₀ b = some o → c.mu b = false → H' b = some o
  val : match k with
    | .n => ∃ a xs ds, d = .lst ds ∧ v = .ref a ∧ c.H₀ a = none ∧ H' a = some (.lst xs) ∧ Reps K (vw H' (hadd c.hid₀ a)) xs ds
    | _ => Rep K (vw H' c.hid₀) v d
  arg : ∀ (i : Nat) (bs : List D), ρ'[i]? = some (Sl.arg bs) → ∃ a xs, c.mu a = true ∧ H' a = some (.lst xs) ∧ Reps K (vw H' (hret c k v)) xs bs
def EndOk (K : PySem.W.Frag) (c : Ct) (k : Kd) (D : Ends) (W : Hp) : Out → Prop
  | .nx ρ' => ∀ σ' H' hid', SR K c hid' ρ' σ' H' → Same W (vw H' hid') → D.nx σ' H'
  | .rt d ρ' => ∀ v H', Ret K c k ρ' H' v d → D.rt v H'
  | .bk ρ' => ∀ σ' H' hid', SR K c hid' ρ' σ' H' → Same W (vw H' hid') → D.bk σ' H'
  | .ct ρ' => ∀ σ' H' hid', SR K c hid' ρ' σ' H' → Same W (vw H' hid') → D.ct σ' H'
  | .no => False
theorem EndOk.mono {K : PySem.W.Frag} {c : Ct} {k : Kd} {D : Ends} {W W' : Hp} {o : Out} (h : EndOk K c k D W o) (s : Same W W') : EndOk K c k D W' o := by
  cases o with
  | nx ρ => exact fun σ' H' hid' z w => h σ' H' hid' z (s.trans w)
  | rt d ρ => exact h
  | bk ρ => exact fun σ' H' hid' z w => h σ' H' hid' z (s.trans w)
  | ct ρ => exact fun σ' H' hid' z w => h σ' H' hid' z (s.trans w)
  | no => exact h
def rdS (K : PySem.W.Frag) (c : Ct) (k : Kd) (t : FS) (ρ : Rho) : TS := fun D σ H => ∃ hid, SR K c hid ρ σ H ∧ EndOk K c k D (vw H hid) (t ρ)
def DS (X : Cx) (c : Ct) (k : Kd) (st : Stmt) (t : FS) : Prop := ∀ ρ, PS X st (rdS X.K c k t ρ)
def DSs (X : Cx) (c : Ct) (k : Kd) (st : List Stmt) (t : FS) : Prop := ∀ ρ, PSs X st (rdS X.K c k t ρ)

section
variable {X : Cx} {c : Ct} {k : Kd} {st : Stmt} {sts rest : List Stmt} {t u : FS} {e : Expr} {pos : Pos}
theorem exPSs {α : Type} {t : α → TS} (h : ∀ z, PSs X sts (t z)) : PSs X sts (fun D σ H => ∃ z, t z D σ H) := fun pins s σ H D I ⟨z, q⟩ => h z pins s σ H D I q
theorem exPT {α : Type} {t : α → TT} (h : ∀ z, PT X e (t z)) : PT X e (fun D σ H => ∃ z, t z D σ H) := fun pins s σ H D I ⟨z, q⟩ => h z pins s σ H D I q
def skip : FS := fun ρ => .nx ρ
def seqS (t u : FS) : FS := fun ρ => match t ρ with
  | .nx ρ' => u ρ'
  | .rt d ρ' => .rt d ρ'
  | .bk ρ' => .bk ρ'
  | .ct ρ' => .ct ρ'
  | .no => .no
theorem dss_nil : DSs X c k [] skip := fun ρ => PSs.imp pss_nil fun D σ H ⟨hid, sr, q⟩ => q σ H hid sr (Same.refl _)
theorem dss_one (h : DS X c k st t) : DSs X c k [st] t := fun ρ => pss_one (h ρ)
theorem dss_cons (h1 : DS X c k st t) (h2 : DSs X c k rest u) : DSs X c k (st :: rest) (seqS t u) := fun ρ =>
  PSs.imp (pss_cons (h1 ρ) (exPSs fun ρ1 => h2 ρ1)) fun D σ H ⟨hid, sr, q⟩ => by
    refine ⟨hid, sr, ?_⟩
    unfold seqS at q
    cases e : t ρ with
    | nx ρ1 => rw [e] at q; exact fun σ1 H1 hid1 sr1 v1 => ⟨ρ1, hid1, sr1, EndOk.mono q v1⟩
    | rt d ρ1 => rw [e] at q; exact q
    | bk ρ1 => rw [e] at q; exact q
    | ct ρ1 => rw [e] at q; exact q
    | no => rw [e] at q; exact q
/-- if -/
def ifS (p : FT) (t u : FS) : FS := fun ρ => match p ρ with
  | some true => t ρ
  | some false => u ρ
  | none => .no
theorem ds_if {p : FT} {a b : List Stmt} (hp : DT X c e p) (ha : DSs X c k a t) (hb : DSs X c k b u) : DS X c k (.If e a b pos) (ifS p t u) := fun ρ =>
  PS.imp (ps_if (exPT fun hid => hp hid ρ) (ha ρ) (hb ρ)) fun D σ H ⟨hid, sr, q⟩ => by
    cases e1 : p ρ with
    | none => unfold ifS at q; rw [e1] at q; exact q.elim
    | some x =>
      refine ⟨hid, sr, x, e1, fun H1 s1 => ?_⟩
      unfold ifS at q
      rw [e1] at q
      cases x with
      | true => exact iteT ⟨hid, sr.ext s1, EndOk.mono q (vw_same s1)⟩
      | false => exact iteF ⟨hid, sr.ext s1, EndOk.mono q (vw_same s1)⟩
def retF (f : FE) : FS := fun ρ => match f ρ with
  | some d => .rt d ρ
  | none => .no
theorem retS_ {K : PySem.W.Frag} {hid : Hid} {ρ' : Rho} {σ : St} {H H' : Hp} {v : V} {d : D} (hk : k ≠ .b) (p : PostE K c hid k ρ' σ H H' v d) (h0 : ∀ b, c.hid₀ b = true → hid b = true) : Ret K c k ρ' H' v d := by
  cases k with
  | b => exact absurd rfl hk
  | s =>
    obtain ⟨_, sr, r⟩ := p
    refine ⟨sr.kp, r.mono (vw_less sr.h0), fun i bs e => ?_⟩
    obtain ⟨a, xs, z1, z2, z3, z4, z5⟩ := sr.sl i _ e
    refine ⟨a, xs, z4, z2, ?_⟩
    show Reps K (vw H' c.hid₀) xs bs
    exact z5.mono (vw_less sr.h0)
  | n =>
    obtain ⟨_, a, xs, ds, rfl, rfl, _, h1, h2, h3, sr, h5, h6⟩ := p
    have le : Same (vw H' (hadd hid a)) (vw H' (hadd c.hid₀ a)) := vw_less fun b q => by
      unfold hadd at q ⊢
      cases e : c.hid₀ b with
      | true => rw [h0 b e]; rfl
      | false => rw [e] at q; rw [Bool.or_eq_true]; right; simpa using q
    refine ⟨sr.kp, ⟨a, xs, ds, rfl, rfl, h2, h1, h5.mono le⟩, fun i bs e => ?_⟩
    obtain ⟨a', xs', z1, z2, z3, z4, z5⟩ := sr.sl i _ e
    exact ⟨a', xs', z4, z2, z5.mono le⟩
theorem ds_ret {f : FE} (he : DP X c k e f) (hk : k ≠ .b := by decide) : DS X c k (.Return (some e) pos) (retF f) := fun ρ => PS.imp (ps_ret (exPE fun hid => he hid ρ)) fun D σ H ⟨hid, sr, q⟩ => by
  unfold retF at q
  cases e1 : f ρ with
  | none => rw [e1] at q; exact q.elim
  | some z => rw [e1] at q; exact ⟨hid, sr, _, e1, fun v H' s r => q v H' (retS_ hk (sr.post s r hk) sr.h0)⟩
/-- return of a list that the frame holds alone -/
def getO : Option Sl → Option (List D)
  | some (.own ds) => some ds
  | _ => none
def retO (i : Nat) : FS := fun ρ => match getO ρ[i]? with
  | some ds => .rt (.lst ds) ρ
  | none => .no
theorem getO_some {o : Option Sl} {ds : List D} (h : getO o = some ds) : o = some (.own ds) := by
  unfold getO at h
  split at h
  · cases h; rfl
  · cases h
theorem ds_retO (i : Nat) {x : Str} {pos' : Pos} (hN : X.N[i]? = some x := by rfl) (hv : Vis X.env.scope x := by first | exact Or.inl rfl | exact Or.inr (Or.inl rfl) | exact Or.inr (Or.inr rfl)) (hd : (x == ("__debug__" : Str)) = false := by decide)
    (hcd : (x == ("__classdict__" : Str)) = false := by decide) : DS X c .n (.Return (some (.Name x pos')) pos) (retO i) := fun ρ => PS.imp (ps_ret (pv i hN hv hd hcd)) fun D σ H ⟨hid, sr, q⟩ => by
  unfold retO at q
  cases e0 : getO ρ[i]? with
  | none => rw [e0] at q; exact q.elim
  | some ds =>
    rw [e0] at q
    have e := getO_some e0
    obtain ⟨a, xs, z1, z2, z3, z4, z5⟩ := sr.sl i _ e
    have le : Same (vw H hid) (vw H (hadd c.hid₀ a)) := vw_less fun b w => by
      unfold hadd at w
      cases e : c.hid₀ b with
      | true => exact sr.h0 b e
      | false =>
        rw [e] at w
        have : b = a := by simpa using w
        rw [this]; exact z3
    refine ⟨_, z1, q _ H ⟨sr.kp, ⟨a, xs, ds, rfl, rfl, z4, z2, z5.mono le⟩, fun j bs e' => ?_⟩⟩
    obtain ⟨a', xs', w1, w2, w3, w4, w5⟩ := sr.sl j _ e'
    exact ⟨a', xs', w4, w2, w5.mono le⟩
end
end L2
set_option Elab.async false
set_option linter.all false
set_option maxRecDepth 100000
namespace L2
open PySem PySem.Spec PyProof.Rows

section
variable {K : PySem.W.Frag} {c : Ct} {hid : Hid} {ρ : Rho} {σ : St} {H H' : Hp} {i : Nat} {a : Addr} {v : V} {d : D}
theorem SR.setV (h : SR K c hid ρ σ H) (r : Rep K (vw H hid) v d) (i : Nat) : SR K c hid (ρ.set i (.v d)) (σ.set i (some v)) H := by
  refine ⟨h.tr, h.ht, h.h0, h.kp, h.t0, h.c0, h.m0, by simp [h.len], fun j s q => ?_, fun j l z n o1 o2 q1 q2 => ?_⟩
  · by_cases e : j = i
    · subst e
      have lt : j < ρ.length := by
        have := (List.getElem?_eq_some_iff.mp q).1
        simpa using this
      rw [List.getElem?_set_self lt] at q
      cases q
      exact ⟨v, List.getElem?_set_self (by rw [h.len]; exact lt), r⟩
    · rw [List.getElem?_set_ne (Ne.symm e)] at q
      have w := h.sl j s q
      have es : (σ.set i (some v))[j]? = σ[j]? := List.getElem?_set_ne (Ne.symm e)
      cases s with
      | no => trivial
      | v d => obtain ⟨x, h1, h2⟩ := w; exact ⟨x, es.trans h1, h2⟩
      | own ds => obtain ⟨a, xs, h1, h2⟩ := w; exact ⟨a, xs, es.trans h1, h2⟩
      | arg ds => obtain ⟨a, xs, h1, h2⟩ := w; exact ⟨a, xs, es.trans h1, h2⟩
      | ob b => obtain ⟨a, h1, h2⟩ := w; exact ⟨a, es.trans h1, h2⟩
  · have nj : ∀ m, Ow (ρ.set i (.v d))[m]? → m ≠ i := fun m o e => by
      subst e
      by_cases lt : m < ρ.length
      · rw [List.getElem?_set_self lt] at o; exact o
      · rw [List.getElem?_eq_none (by simpa using lt)] at o; exact o
    have e1 := nj j o1
    have e2 := nj l o2
    rw [List.getElem?_set_ne (Ne.symm e1)] at o1 q1
    rw [List.getElem?_set_ne (Ne.symm e2)] at o2 q2
    exact h.ap j l z n o1 o2 q1 q2
theorem SR.setO {xs : List V} {ds : List D} (h : SR K c hid ρ σ H) (ha : H a = some (.lst xs)) (hh : hid a = true) (h0 : c.H₀ a = none) (r : Reps K (vw H hid) xs ds) (no : ∀ i : Nat, Ow ρ[i]? → σ[i]? ≠ some (some (.ref a))) (i : Nat) :
    SR K c hid (ρ.set i (.own ds)) (σ.set i (some (.ref a))) H := by
  refine ⟨h.tr, h.ht, h.h0, h.kp, h.t0, h.c0, h.m0, by simp [h.len], fun j s q => ?_, fun j l z n o1 o2 q1 q2 => ?_⟩
  · by_cases e : j = i
    · subst e
      have lt : j < ρ.length := by
        have := (List.getElem?_eq_some_iff.mp q).1
        simpa using this
      rw [List.getElem?_set_self lt] at q
      cases q
      exact ⟨a, xs, List.getElem?_set_self (by rw [h.len]; exact lt), ha, hh, h0, r⟩
    · rw [List.getElem?_set_ne (Ne.symm e)] at q
      have w := h.sl j s q
      have es : (σ.set i (some (V.ref a)))[j]? = σ[j]? := List.getElem?_set_ne (Ne.symm e)
      cases s with
      | no => trivial
      | v d => obtain ⟨x, h1, h2⟩ := w; exact ⟨x, es.trans h1, h2⟩
      | own ds => obtain ⟨a, xs, h1, h2⟩ := w; exact ⟨a, xs, es.trans h1, h2⟩
      | arg ds => obtain ⟨a, xs, h1, h2⟩ := w; exact ⟨a, xs, es.trans h1, h2⟩
      | ob b => obtain ⟨a, h1, h2⟩ := w; exact ⟨a, es.trans h1, h2⟩
  · by_cases e1 : j = i
    · subst e1
      have e2 : l ≠ j := fun e => n e.symm
      rw [List.getElem?_set_ne (Ne.symm e2)] at o2 q2
      by_cases lt : j < σ.length
      · rw [List.getElem?_set_self lt] at q1; cases q1; exact no l o2 q2
      · rw [List.getElem?_eq_none (by simpa using lt)] at q1; cases q1
    · rw [List.getElem?_set_ne (Ne.symm e1)] at o1 q1
      by_cases e2 : l = i
      · subst e2
        by_cases lt : l < σ.length
        · rw [List.getElem?_set_self lt] at q2; cases q2; exact no j o1 q1
        · rw [List.getElem?_eq_none (by simpa using lt)] at q2; cases q2
      · rw [List.getElem?_set_ne (Ne.symm e2)] at o2 q2
        exact h.ap j l z n o1 o2 q1 q2
end

section
variable {X : Cx} {c : Ct} {k : Kd} {st : Stmt} {sts rest : List Stmt} {t u : FS} {e : Expr} {es : List Expr} {pos pos' : Pos} {x : Str} {i : Nat}
/-! name = value -/
def setE (i : Nat) (f : GE) : FS := fun ρ => match f ρ with
  | some (d, ρ') => .nx (ρ'.set i (.v d))
  | none => .no
def setF (i : Nat) (f : FE) : FS := fun ρ => match f ρ with
  | some d => .nx (ρ.set i (.v d))
  | none => .no
def asL : D → Option (List D)
  | .lst ds => some ds
  | _ => none
def ownE (i : Nat) (f : GE) : FS := fun ρ => match f ρ with
  | some (d, ρ') => (match asL d with
    | some ds => .nx (ρ'.set i (.own ds))
    | none => .no)
  | none => .no
def ownF (i : Nat) (f : FE) : FS := fun ρ => match f ρ with
  | some d => (match asL d with
    | some ds => .nx (ρ.set i (.own ds))
    | none => .no)
  | none => .no
theorem ds_setE (i : Nat) {f : GE} (hn : X.N.Nodup) (he : DE X c .s e f) (hi : X.N[i]? = some x := by rfl) (hx : Loc X.env.scope x := by first | exact Or.inl rfl | exact Or.inr rfl) (hs : swapsWith e (some (.Name x pos')) pos.line X.env = pure false := by rfl)
    (hf : X.fn x = true ∨ X.env.scope.names.lookup x = some .local := by first | exact .inl rfl | exact .inr rfl | assumption) : DS X c k (.Assign [.Name x pos'] e pos) (setE i f) := fun ρ => PS.imp (ps_set hn hi hx (exPE fun hid => he hid ρ) hs hf) fun D σ H ⟨hid, sr, q⟩ => by
  unfold setE at q
  cases e1 : f ρ with
  | none => rw [e1] at q; exact q.elim
  | some z =>
    rw [e1] at q
    exact ⟨hid, sr, z.1, z.2, e1, fun v H' ⟨kp, s', r⟩ => q _ H' hid (s'.setV r i) kp.vw⟩
theorem ds_setF (i : Nat) {f : FE} (hn : X.N.Nodup) (he : DP X c .s e f) (hi : X.N[i]? = some x := by rfl) (hx : Loc X.env.scope x := by first | exact Or.inl rfl | exact Or.inr rfl) (hs : swapsWith e (some (.Name x pos')) pos.line X.env = pure false := by rfl)
    (hf : X.fn x = true ∨ X.env.scope.names.lookup x = some .local := by first | exact .inl rfl | exact .inr rfl | assumption) : DS X c k (.Assign [.Name x pos'] e pos) (setF i f) := fun ρ => PS.imp (ps_set hn hi hx (exPE fun hid => he hid ρ) hs hf) fun D σ H ⟨hid, sr, q⟩ => by
  unfold setF at q
  cases e1 : f ρ with
  | none => rw [e1] at q; exact q.elim
  | some z =>
    rw [e1] at q
    exact ⟨hid, sr, z, e1, fun v H' s' r => q _ H' hid ((sr.ext s').setV r i) (vw_same s')⟩
theorem own_ {K : PySem.W.Frag} {hid : Hid} {ρ' : Rho} {σ : St} {H H' : Hp} {v : V} {d : D} {D : Ends} (p : PostE K c hid .n ρ' σ H H' v d) (q : EndOk K c k D (vw H hid) (match asL d with
    | some ds => .nx (ρ'.set i (.own ds))
    | none => .no)) : D.nx (σ.set i (some v)) H' := by
  obtain ⟨kp, a, xs, ds, rfl, rfl, hn, h1, h2, h3, h4, h5, h6⟩ := p
  refine q _ H' (hadd hid a) (h4.setO h1 hadd_self h2 h5 h6 i) fun b o w => ?_
  obtain ⟨w1, w2⟩ := vw_some.mp w
  refine vw_some.mpr ⟨?_, kp b o w2 w1⟩
  unfold hadd
  rw [w1]
  have : b ≠ a := ne_of_none w2 hn
  simp [this]
theorem ds_ownE (i : Nat) {f : GE} (hn : X.N.Nodup) (he : DE X c .n e f) (hi : X.N[i]? = some x := by rfl) (hx : Loc X.env.scope x := by first | exact Or.inl rfl | exact Or.inr rfl) (hs : swapsWith e (some (.Name x pos')) pos.line X.env = pure false := by rfl)
    (hf : X.fn x = true ∨ X.env.scope.names.lookup x = some .local := by first | exact .inl rfl | exact .inr rfl | assumption) : DS X c k (.Assign [.Name x pos'] e pos) (ownE i f) := fun ρ => PS.imp (ps_set hn hi hx (exPE fun hid => he hid ρ) hs hf) fun D σ H ⟨hid, sr, q⟩ => by
  unfold ownE at q
  cases e1 : f ρ with
  | none => rw [e1] at q; exact q.elim
  | some z =>
    rw [e1] at q
    exact ⟨hid, sr, z.1, z.2, e1, fun v H' p => own_ p q⟩
theorem ds_ownF (i : Nat) {f : FE} (hn : X.N.Nodup) (he : DP X c .n e f) (hi : X.N[i]? = some x := by rfl) (hx : Loc X.env.scope x := by first | exact Or.inl rfl | exact Or.inr rfl) (hs : swapsWith e (some (.Name x pos')) pos.line X.env = pure false := by rfl)
    (hf : X.fn x = true ∨ X.env.scope.names.lookup x = some .local := by first | exact .inl rfl | exact .inr rfl | assumption) : DS X c k (.Assign [.Name x pos'] e pos) (ownF i f) := fun ρ => PS.imp (ps_set hn hi hx (exPE fun hid => he hid ρ) hs hf) fun D σ H ⟨hid, sr, q⟩ => by
  unfold ownF at q
  cases e1 : f ρ with
  | none => rw [e1] at q; exact q.elim
  | some z =>
    rw [e1] at q
    exact ⟨hid, sr, z, e1, fun v H' s r => own_ (sr.post s r (by decide)) q⟩
/-- an expression's value dropped -/
def dropE (f : GE) : FS := fun ρ => match f ρ with
  | some (_, ρ') => .nx ρ'
  | none => .no
theorem ds_expr {f : GE} (he : DE X c .s e f) (hs : swapsWith e none pos.line X.env = pure false := by rfl) : DS X c k (.Expr e pos) (dropE f) := fun ρ => PS.imp (ps_expr (exPE fun hid => he hid ρ) hs) fun D σ H ⟨hid, sr, q⟩ => by
  unfold dropE at q
  cases e1 : f ρ with
  | none => rw [e1] at q; exact q.elim
  | some z =>
    rw [e1] at q
    exact ⟨hid, sr, z.1, z.2, e1, fun v H' ⟨kp, s', _⟩ => q _ H' hid s' kp.vw⟩
/-! methods of a held list -/
def MtD (K : PySem.W.Frag) (r : V → List V → Hp → VK → Prop) (n : Nat) (M : List D → List D → Option (D × List D)) : Prop := ∀ (H : Hp) (hid : Hid) (a : Addr) (xs us : List V) (bs ds bs' : List D) (d : D) (Q : VK), H a = some (.lst xs) → hid a = true → Reps K (vw H hid) xs bs → Reps K (vw H hid) us ds →
  ds.length = n → M bs ds = some (d, bs') → (∀ w xs', Reps K (vw H hid) xs' bs' → Rep K (vw H hid) w d → Q w (upd H a (.lst xs'))) → r (.ref a) us H Q
theorem meth_ {K : PySem.W.Frag} {r : V → List V → Hp → VK → Prop} {n : Nat} {M : List D → List D → Option (D × List D)} (hM : MtD K r n M) {hid : Hid} {ρ1 : Rho} {σ : St} {H H1 : Hp} {a : Addr} {us : List V} {bs ds bs' : List D} {d : D} {Q : VK} (k1 : Kept hid H H1) (s1 : SR K c hid ρ1 σ H1) (e2 : getB i ρ1 = some bs)
    (ha : σ[i]? = some (some (.ref a))) (r1 : Reps K (vw H1 hid) us ds) (hn : ds.length = n) (hm : M bs ds = some (d, bs')) (q : ∀ v H', PostE K c hid .s (setB i bs' ρ1) σ H H' v d → Q v H') : r (.ref a) us H1 Q := by
  obtain ⟨a', xs, b1, b2, b3, b4, b5⟩ := s1.held e2
  rw [ha] at b1; cases b1
  refine hM H1 hid a xs us bs ds bs' d Q b2 b3 b4 r1 hn hm fun w xs' rx rw' => q w _ ⟨k1.trans fun b o z hb => ?_, ?_, ?_⟩
  · rw [upd_ne (fun e => by subst e; rw [b3] at hb; cases hb)]; exact z
  · exact s1.put e2 ha (fun b o z hb => by rw [upd_ne hb]; exact z) upd_same (by rw [vw_upd b3]; exact rx)
  · rw [vw_upd b3]; exact rw'
variable {n : Nat} {M : List D → List D → Option (D × List D)} {fs : GA} {r : V → List V → Hp → VK → Prop} {y name : Str} {py apos : Pos} {id : String}
theorem de_meth (i : Nat) (hM : MtD X.K r n M) (hm : MtM X id r) (slot : Slot "list" name id) (hty : typeOf (.builtin id) = pure (.type "method_descriptor")) (ha : DG X c (e :: es) fs)
    (hN : X.N[i]? = some y := by rfl) (hv : Vis X.env.scope y := by first | exact Or.inl rfl | exact Or.inr (Or.inl rfl) | exact Or.inr (Or.inr rfl)) (hd : (y == ("__debug__" : Str)) = false := by decide) (hcd : (y == ("__classdict__" : Str)) = false := by decide)
    (hbase : attributeBase (.Name y py) name X.env (eval (.Name y py) X.env) = eval (.Name y py) X.env := by rfl)
    (hfew : ((backTo pos (starEach (e :: es) X.env)).all (fun x => !x.1) && (backToKw pos (keywordEach [] X.env)).all (fun x => x.1.isSome)
      && decide ((e :: es).length + ([] : List Keyword).length + (if ([] : List Keyword).isEmpty then 0 else 1) < 30)) = true := by rfl)
    (hline : (apos.endLine == pos.line) = true := by rfl) (hs : starEach (e :: es) X.env = (false, eval e X.env) :: starEach es X.env := by rfl) (hplain : (backTo pos (starEach es X.env)).any (·.1) = false := by rfl) :
    DE X c .s (.Call (.Attribute (.Name y py) name apos) (e :: es) [] pos) (callE i n M fs) := fun hid ρ =>
  PE.imp (pe_bm PySem.F.plainAttrs_list slot hty hm (pv i hN hv hd hcd) (ha hid ρ) hbase hfew hline hs hplain) fun σ H Q ⟨sr, d, ρ', hd', q⟩ => by
    obtain ⟨bs0, ds, ρ1, bs, bs', e0, e1, e2, e3, e4, rfl⟩ := callE_some hd'
    obtain ⟨a, xs0, a1, a2, a3, _, _⟩ := sr.held e0
    exact ⟨.ref a, a1, .inl ⟨rfl, _, SqL.of a2⟩, sr, ds, ρ1, e1, fun us H1 k1 s1 r1 => meth_ hM k1 s1 e2 a1 r1 e3 e4 q⟩
end
section
variable {K : PySem.W.Frag}
def appM : List D → List D → Option (D × List D) := fun bs ds => match ds with
  | [d] => if bs.length < sizeLine then some (.non, bs ++ [d]) else none
  | _ => none
theorem md_append : MtD K rAppend 1 appM := by
  intro H hid a xs us bs ds bs' d Q h1 h2 h3 h4 h5 h6 q
  unfold appM at h6
  split at h6
  · split at h6
    · cases h6
      cases h4 with
      | cons r t =>
        cases t
        exact ⟨a, xs, _, rfl, rfl, h1, by rw [h3.length]; assumption, q _ _ (h3.append (.cons r .nil)) .non⟩
    · cases h6
  · cases h6
def popM : List D → List D → Option (D × List D) := fun bs ds => match ds with
  | [.int i] => match (if bs.length ≤ sizeLine then ixN bs.length i else none) with
    | some j => (bs[j]?).map fun d => (d, bs.eraseIdx j)
    | none => none
  | _ => none
theorem md_pop : MtD K rPopAt 1 popM := by
  intro H hid a xs us bs ds bs' d Q h1 h2 h3 h4 h5 h6 q
  unfold popM at h6
  split at h6
  · split at h6
    · rename_i i _ j e
      cases e1 : bs[j]? with
      | none => rw [e1] at h6; cases h6
      | some z =>
        rw [e1] at h6; cases h6
        cases h4 with
        | cons r t =>
          cases t
          cases r
          obtain ⟨x, g1, g2⟩ := h3.get e1
          split at e
          · obtain ⟨w1, w2, w3, w4⟩ := ixN_seq e
            have hl := h3.length
            have l63 := line63
            refine ⟨a, xs, i, j, x, rfl, rfl, h1, by omega, by omega, by rw [hl]; exact w1, g1, q _ _ (h3.eraseIdx j) g2⟩
          · cases e
    · cases h6
  · cases h6
end
end L2
set_option Elab.async false
set_option linter.all false
set_option maxRecDepth 100000
namespace L2
open PySem PySem.Spec PyProof.Rows

/-! ### targets -/
abbrev FG := D → Rho → Option Rho
abbrev FGs := List D → Rho → Option Rho
/-- a target stores no list that is held alone -/
def OwK (ρ ρ' : Rho) (σ σ' : St) : Prop := ∀ i : Nat, Ow ρ'[i]? → Ow ρ[i]? ∧ σ'[i]? = σ[i]?
theorem OwK.trans {ρ ρ1 ρ2 : Rho} {σ σ1 σ2 : St} (a : OwK ρ ρ1 σ σ1) (b : OwK ρ1 ρ2 σ1 σ2) : OwK ρ ρ2 σ σ2 := fun i o => ⟨(a i (b i o).1).1, (b i o).2.trans (a i (b i o).1).2⟩
def rdGt (K : PySem.W.Frag) (c : Ct) (hid : Hid) (g : FG) (ρ : Rho) (d : D) : TG := fun v σ H Q => SR K c hid ρ σ H ∧ Rep K (vw H hid) v d ∧ ∃ ρ', g d ρ = some ρ' ∧ ∀ σ' , SR K c hid ρ' σ' H → OwK ρ ρ' σ σ' → Q σ' H
def DGt (X : Cx) (c : Ct) (tg : Expr) (g : FG) : Prop := ∀ hid ρ d, PG X tg (rdGt X.K c hid g ρ d)
def rdGs (K : PySem.W.Frag) (c : Ct) (hid : Hid) (g : FGs) (ρ : Rho) (d : List D) : TGs := fun v σ H Q => SR K c hid ρ σ H ∧ Reps K (vw H hid) v d ∧ ∃ ρ', g d ρ = some ρ' ∧ ∀ σ' , SR K c hid ρ' σ' H → OwK ρ ρ' σ σ' → Q σ' H
def DGs (X : Cx) (c : Ct) (tg : List Expr) (g : FGs) : Prop := ∀ hid ρ d, PGs X tg (rdGs X.K c hid g ρ d)
theorem PG.imp {X : Cx} {e : Expr} {t t' : TG} (h : PG X e t) (i : ∀ v σ H Q, t' v σ H Q → t v σ H Q) : PG X e t' := fun pins s σ H v u Q I r q => h pins s σ H v u Q I r (i v σ H Q q)
theorem PGs.imp {X : Cx} {e : List Expr} {t t' : TGs} (h : PGs X e t) (i : ∀ v σ H Q, t' v σ H Q → t v σ H Q) : PGs X e t' := fun pins s σ H v u Q I r q => h pins s σ H v u Q I r (i v σ H Q q)
theorem exPG {X : Cx} {e : Expr} {α : Type} {t : α → TG} (h : ∀ z, PG X e (t z)) : PG X e (fun v σ H Q => ∃ z, t z v σ H Q) := fun pins s σ H v u Q I r ⟨z, q⟩ => h z pins s σ H v u Q I r q
theorem exPGs {X : Cx} {e : List Expr} {α : Type} {t : α → TGs} (h : ∀ z, PGs X e (t z)) : PGs X e (fun v σ H Q => ∃ z, t z v σ H Q) := fun pins s σ H v u Q I r ⟨z, q⟩ => h z pins s σ H v u Q I r q
section
variable {X : Cx} {c : Ct} {k : Kd} {st : Stmt} {sts body : List Stmt} {t u : FS} {e tg iter : Expr} {es : List Expr} {pos pos' : Pos} {x : Str} {i : Nat}
def gN (i : Nat) : FG := fun d ρ => some (ρ.set i (.v d))
theorem dgt_name (i : Nat) (hn : X.N.Nodup) (hi : X.N[i]? = some x := by rfl) (hx : Loc X.env.scope x := by first | exact Or.inl rfl | exact Or.inr rfl) (hf : X.fn x = true ∨ X.env.scope.names.lookup x = some .local := by first | exact .inl rfl | exact .inr rfl | assumption) :
    DGt X c (.Name x pos) (gN i) := fun hid ρ d => PG.imp (pg_name (i := i) hn hi hx hf) fun v σ H Q ⟨sr, r, ρ', e, q⟩ => by
  cases e
  refine q _ (sr.setV r i) fun j o => ?_
  have ne : j ≠ i := fun e => by
    subst e
    by_cases lt : j < ρ.length
    · rw [List.getElem?_set_self lt] at o; exact o
    · rw [List.getElem?_eq_none (by simpa using lt)] at o; exact o
  rw [List.getElem?_set_ne (Ne.symm ne)] at o ⊢
  exact ⟨o, rfl⟩
def gsN : FGs := fun ds ρ => match ds with
  | [] => some ρ
  | _ => none
def gsC (g : FG) (gs : FGs) : FGs := fun ds ρ => match ds with
  | [] => none
  | d :: r => (g d ρ).bind fun ρ' => gs r ρ'
theorem dgs_nil : DGs X c [] gsN := fun hid ρ d => PGs.imp pgs_nil fun v σ H Q ⟨sr, r, ρ', e, q⟩ => by
  unfold gsN at e
  split at e
  · cases e; cases r; exact ⟨rfl, q σ sr fun i o => ⟨o, rfl⟩⟩
  · cases e
theorem dgs_cons {g : FG} {gs : FGs} (h1 : DGt X c e g) (h2 : DGs X c es gs) (hs : (assignEach (e :: es) X.env).map (·.2) = assign e X.env :: (assignEach es X.env).map (·.2) := by rfl) : DGs X c (e :: es) (gsC g gs) := fun hid ρ d =>
  PGs.imp (pgs_cons (exPG fun d => h1 hid ρ d) (exPGs fun z : Rho × List D => h2 hid z.1 z.2) hs) fun v σ H Q ⟨sr, r, ρ', e, q⟩ => by
    cases d with
    | nil => cases e
    | cons d1 ds =>
      cases r with
      | cons r1 r2 =>
        have e : (g d1 ρ).bind (fun ρ' => gs ds ρ') = some ρ' := e
        cases e1 : g d1 ρ with
        | none => rw [e1] at e; cases e
        | some ρ1 =>
          rw [e1] at e
          exact ⟨_, _, rfl, d1, sr, r1, ρ1, e1, fun σ1 s1 o1 => ⟨(ρ1, ds), s1, r2, ρ', e, fun σ2 s2 o2 => q σ2 s2 (o1.trans o2)⟩⟩
def gT (n : Nat) (gs : FGs) : FG := fun d ρ => match d with
  | .tup ds => if ds.length = n then gs ds ρ else none
  | _ => none
theorem dgt_tup {gs : FGs} {kk n : Nat} (hc : X.calm = true) (h : DGs X c es gs) (hn : (assignEach es X.env).length = n := by rfl) (hst : (assignEach es X.env).findIdx? (·.1) = none := by rfl) : DGt X c (.Tuple es kk pos) (gT n gs) := fun hid ρ d =>
  PG.imp (pg_tup hc (exPGs fun ds => h hid ρ ds) hn hst) fun v σ H Q ⟨sr, r, ρ', e, q⟩ => by
    unfold gT at e
    split at e
    · split at e
      · cases r with
        | tup h1 h2 => exact ⟨_, _, rfl, Same.seqT (vw_le _ _) h1, by rw [h2.length]; assumption, _, sr, h2, ρ', e, q⟩
      · cases e
    · cases e
/-- target = value -/
def outO : Option Rho → Out
  | some ρ => .nx ρ
  | none => .no
def asgE (g : FG) (f : GE) : FS := fun ρ => match f ρ with
  | some z => outO (g z.1 z.2)
  | none => .no
theorem ds_asg {g : FG} {f : GE} (he : DE X c .s e f) (hg : DGt X c tg g) (hs : swapsWithSole [tg] e pos.line X.env = pure false := by rfl) (hw : swappedStores [tg] e X.env = pure none := by rfl)
    (h1 : (assignEach [tg] X.env).map (·.2) = [assign tg X.env] := by rfl) : DS X c k (.Assign [tg] e pos) (asgE g f) := fun ρ =>
  PS.imp (ps_asg (exPE fun hid => he hid ρ) (exPG fun z : Hid × Rho × D => hg z.1 z.2.1 z.2.2) hs hw h1) fun D σ H ⟨hid, sr, q⟩ => by
    unfold asgE at q
    cases e1 : f ρ with
    | none => rw [e1] at q; exact q.elim
    | some z =>
      rw [e1] at q
      cases e2 : g z.1 z.2 with
      | none => dsimp only at q; rw [e2] at q; exact q.elim
      | some ρ2 =>
        dsimp only at q; rw [e2] at q
        exact ⟨hid, sr, z.1, z.2, e1, fun v H' ⟨kp, s', r⟩ => ⟨(hid, z.2, z.1), s', r, ρ2, e2, fun σ' s2 _ => q σ' H' hid s2 kp.vw⟩⟩
/-! xs[i] = v upon a held list: a target that changes the heap -/
def setIx (i : Nat) (fi : FE) (d : D) (ρ : Rho) : Option Rho := match getB i ρ with
  | some bs => (match fi ρ with
    | some (.int j) => (match ixN bs.length j with
      | some m => some (setB i (bs.set m d) ρ)
      | none => none)
    | _ => none)
  | none => none
theorem setIx_some {fi : FE} {d : D} {ρ ρ' : Rho} (h : setIx i fi d ρ = some ρ') : ∃ bs j m, getB i ρ = some bs ∧ fi ρ = some (.int j) ∧ ixN bs.length j = some m ∧ ρ' = setB i (bs.set m d) ρ := by
  unfold setIx at h
  split at h
  · split at h
    · split at h
      · cases h; exact ⟨_, _, _, ‹_›, ‹_›, ‹_›, rfl⟩
      · cases h
    · cases h
  · cases h
def rdHt (K : PySem.W.Frag) (c : Ct) (hid : Hid) (g : FG) (ρ : Rho) (d : D) : TG := fun v σ H Q => SR K c hid ρ σ H ∧ Rep K (vw H hid) v d ∧ ∃ ρ', g d ρ = some ρ' ∧ ∀ H' , Kept hid H H' → SR K c hid ρ' σ H' → Q σ H'
def DHt (X : Cx) (c : Ct) (tg : Expr) (g : FG) : Prop := ∀ hid ρ d, PG X tg (rdHt X.K c hid g ρ d)
theorem dht_sub (i : Nat) {y : Str} {py : Pos} {ix : Expr} {fi : FE} {k1 : Kd} (hi : DP X c k1 ix fi) (hN : X.N[i]? = some y := by rfl) (hv : Vis X.env.scope y := by first | exact Or.inl rfl | exact Or.inr (Or.inl rfl) | exact Or.inr (Or.inr rfl)) (hd : (y == ("__debug__" : Str)) = false := by decide) (hcd : (y == ("__classdict__" : Str)) = false := by decide)
    (ha : ∀ v, assign (.Subscript (.Name y py) ix pos) X.env v = (do
      let ov ← holding [v] (eval (.Name y py) X.env)
      let iv ← holding [v, ov] (eval ix X.env)
      standAt pos
      holding [v, ov, iv] (setItem ov iv v)
      release [v, ov, iv] []) := by intro _; rfl) : DHt X c (.Subscript (.Name y py) ix pos) (setIx i fi) := fun hid ρ d =>
  PG.imp (pg_sub (pv i hN hv hd hcd) (hi hid ρ) set_list ha) fun v σ H Q ⟨sr, r, ρ', e, q⟩ => by
    obtain ⟨bs, j, m, e1, e2, e3, rfl⟩ := setIx_some e
    obtain ⟨a, xs, a1, a2, a3, a4, a5⟩ := sr.held e1
    refine ⟨.ref a, a1, sr, _, e2, fun w H1 s1 r1 => ?_⟩
    have b1 := (RK.b k1 r1 fun a n => sr.fresh n).int
    cases b1
    have a4' := a4.mono (vw_same (hid := hid) s1)
    refine ⟨a, xs, j, m, rfl, rfl, s1 _ _ a2, by rw [a4.length]; exact e3, q _ (fun b o z hb => ?_) ?_⟩
    · rw [upd_ne (fun e => by subst e; rw [a3] at hb; cases hb)]; exact s1 _ _ z
    · exact (sr.ext s1).put e1 a1 (fun b o z hb => by rw [upd_ne hb]; exact z) upd_same (by rw [vw_upd a3]; exact Reps.set (r.mono (vw_same s1)) m a4')
theorem ds_put {g : FG} {f : GE} (he : DE X c .s e f) (hg : DHt X c tg g) (hs : swapsWithSole [tg] e pos.line X.env = pure false := by rfl) (hw : swappedStores [tg] e X.env = pure none := by rfl)
    (h1 : (assignEach [tg] X.env).map (·.2) = [assign tg X.env] := by rfl) : DS X c k (.Assign [tg] e pos) (asgE g f) := fun ρ =>
  PS.imp (ps_asg (exPE fun hid => he hid ρ) (exPG fun z : Hid × Rho × D => hg z.1 z.2.1 z.2.2) hs hw h1) fun D σ H ⟨hid, sr, q⟩ => by
    unfold asgE at q
    cases e1 : f ρ with
    | none => rw [e1] at q; exact q.elim
    | some z =>
      rw [e1] at q
      cases e2 : g z.1 z.2 with
      | none => dsimp only at q; rw [e2] at q; exact q.elim
      | some ρ2 =>
        dsimp only at q; rw [e2] at q
        exact ⟨hid, sr, z.1, z.2, e1, fun v H' ⟨kp, s', r⟩ => ⟨(hid, z.2, z.1), s', r, ρ2, e2, fun H2 k2 s2 => q σ H2 hid s2 (kp.trans k2).vw⟩⟩
/-- a target (t1, t2) of two such: the pair's items one after the other -/
def rdHs (K : PySem.W.Frag) (c : Ct) (hid : Hid) (g : FGs) (ρ : Rho) (d : List D) : TGs := fun v σ H Q => SR K c hid ρ σ H ∧ Reps K (vw H hid) v d ∧ ∃ ρ', g d ρ = some ρ' ∧ ∀ H' , Kept hid H H' → SR K c hid ρ' σ H' → Q σ H'
def DHs (X : Cx) (c : Ct) (tg : List Expr) (g : FGs) : Prop := ∀ hid ρ d, PGs X tg (rdHs X.K c hid g ρ d)
theorem dhs_nil : DHs X c [] gsN := fun hid ρ d => PGs.imp pgs_nil fun v σ H Q ⟨sr, r, ρ', e, q⟩ => by
  unfold gsN at e
  split at e
  · cases e; cases r; exact ⟨rfl, q H (.of (Same.refl _)) sr⟩
  · cases e
theorem dhs_cons {g : FG} {gs : FGs} (h1 : DHt X c e g) (h2 : DHs X c es gs) (hs : (assignEach (e :: es) X.env).map (·.2) = assign e X.env :: (assignEach es X.env).map (·.2) := by rfl) : DHs X c (e :: es) (gsC g gs) := fun hid ρ d =>
  PGs.imp (pgs_cons (exPG fun d => h1 hid ρ d) (exPGs fun z : Rho × List D => h2 hid z.1 z.2) hs) fun v σ H Q ⟨sr, r, ρ', e, q⟩ => by
    cases d with
    | nil => cases e
    | cons d1 ds =>
      cases r with
      | cons r1 r2 =>
        have e : (g d1 ρ).bind (fun ρ' => gs ds ρ') = some ρ' := e
        cases e1 : g d1 ρ with
        | none => rw [e1] at e; cases e
        | some ρ1 =>
          rw [e1] at e
          exact ⟨_, _, rfl, d1, sr, r1, ρ1, e1, fun H1 k1 s1 => ⟨(ρ1, ds), s1, r2.mono k1.vw, ρ', e, fun H2 k2 s2 => q H2 (k1.trans k2) s2⟩⟩
theorem dht_tup {gs : FGs} {kk n : Nat} (hc : X.calm = true) (h : DHs X c es gs) (hn : (assignEach es X.env).length = n := by rfl) (hst : (assignEach es X.env).findIdx? (·.1) = none := by rfl) : DHt X c (.Tuple es kk pos) (gT n gs) := fun hid ρ d =>
  PG.imp (pg_tup hc (exPGs fun ds => h hid ρ ds) hn hst) fun v σ H Q ⟨sr, r, ρ', e, q⟩ => by
    unfold gT at e
    split at e
    · split at e
      · cases r with
        | tup h1 h2 => exact ⟨_, _, rfl, Same.seqT (vw_le _ _) h1, by rw [h2.length]; assumption, _, sr, h2, ρ', e, q⟩
      · cases e
    · cases e

/-! ### loops -/
def ItOk (K : PySem.W.Frag) (W : Hp) (J : It) (ds : List D) : Prop :=
  (∀ (i : Nat) (d : D) (H : Hp), ds[i]? = some d → Same W H → J.go i H ∧ ∀ x H', J.yld i H x H' → Same H H' ∧ ∀ hid : Hid, (∀ b, hid b = true → ∃ o, H b = some o) → Same W (vw H hid) → Rep K (vw H' hid) x d) ∧ ∀ H, Same W H → J.stop ds.length H
def rdI (K : PySem.W.Frag) (c : Ct) (hid : Hid) (f : GA) (ρ : Rho) : TI := fun σ H R => SR K c hid ρ σ H ∧ ∃ ds ρ', f ρ = some (ds, ρ') ∧ ∀ J H', Kept hid H H' → SR K c hid ρ' σ H' → ItOk K (vw H' hid) J ds → R J H'
def DI (X : Cx) (c : Ct) (tg iter : Expr) (f : GA) : Prop := ∀ hid ρ, PI X tg iter (rdI X.K c hid f ρ)
theorem PI.imp {t t' : TI} (h : PI X tg iter t) (i : ∀ σ H Q, t' σ H Q → t σ H Q) : PI X tg iter t' := fun pins s σ H R I q => h pins s σ H R I (i σ H R q)
theorem exPI {α : Type} {t : α → TI} (h : ∀ z, PI X tg iter (t z)) : PI X tg iter (fun σ H R => ∃ z, t z σ H R) := fun pins s σ H R I ⟨z, q⟩ => h z pins s σ H R I q
theorem itok_tup {K : PySem.W.Frag} {W : Hp} {a : Addr} {xs : List V} {ds : List D} (h : SqT K W a xs) (r : Reps K W xs ds) : ItOk K W (Itt K a) ds := by
  refine ⟨fun i d H e s => ?_, fun H s => ⟨xs, Same.seqT s h, by rw [r.length]; exact Nat.le_refl _⟩⟩
  obtain ⟨x, e1, r1⟩ := r.get e
  refine ⟨⟨xs, x, Same.seqT s h, e1⟩, fun y H' ⟨e2, e3⟩ => ?_⟩
  subst e2
  have := e3 xs (Same.seqT s h)
  rw [e1] at this; cases this
  exact ⟨Same.refl _, fun hid _ sw => r1.mono sw⟩
/-- lo, lo + 1, .. -/
def ups (lo : Int) (n : Nat) : List D := (List.range n).map fun (i : Nat) => D.int (lo + i)
theorem itok_range {K : PySem.W.Frag} {W : Hp} {lo : Int} {n : Nat} : ItOk K W (Itr lo n) (ups lo n) := by
  refine ⟨fun i d H e s => ?_, fun H s => by show n ≤ (ups lo n).length; simp [ups]⟩
  unfold ups at e
  rw [List.getElem?_map] at e
  cases e1 : (List.range n)[i]? with
  | none => rw [e1] at e; cases e
  | some j =>
    rw [e1] at e
    obtain ⟨h1, h2⟩ := List.getElem?_eq_some_iff.mp e1
    simp at h1 h2
    subst h2
    cases e
    refine ⟨h1, fun y H' ⟨e2, e3⟩ => ?_⟩
    subst e2 e3
    exact ⟨Same.refl _, fun hid _ sw => .int⟩
/-- for -/
def forL (g : FG) (b : FS) : List D → FS
  | [], ρ => .nx ρ
  | d :: r, ρ => match g d ρ with
    | none => .no
    | some ρ1 => match b ρ1 with
      | .nx ρ2 => forL g b r ρ2
      | .ct ρ2 => forL g b r ρ2
      | .bk ρ2 => .nx ρ2
      | .rt d ρ2 => .rt d ρ2
      | .no => .no
def forS (f : GA) (g : FG) (b : FS) : FS := fun ρ => match f ρ with
  | some (ds, ρ') => forL g b ds ρ'
  | none => .no
theorem ds_for {f : GA} {g : FG} {tb : FS} (hp : PassesOwn (model X.prog X.w) X.A X.env X.xe) (hc : X.calm = true) (hi : DI X c tg iter f) (hg : DGt X c tg g) (hb : DSs X c k body tb)
    (hs : ∀ x, foldedSetIterable iter X.env x = pure x := by intro _; rfl) : DS X c k (.For tg iter body [] pos) (forS f g tb) := fun ρ =>
  PS.imp (ps_for hp hc (exPI fun hid => hi hid ρ) (exPG fun z : Hid × Rho × D => hg z.1 z.2.1 z.2.2) (exPSs fun ρ => hb ρ) hs) fun D σ H ⟨hid, sr, q⟩ => by
    unfold forS at q
    cases e1 : f ρ with
    | none => rw [e1] at q; exact q.elim
    | some z =>
      obtain ⟨ds, ρ0⟩ := z
      rw [e1] at q
      have q' : EndOk X.K c k D (vw H hid) (forL g tb ds ρ0) := q
      refine ⟨hid, sr, ds, ρ0, e1, fun J H1 kp s1 it => ?_⟩
      refine ⟨fun i m σ H => m = ds.length - i ∧ i ≤ ds.length ∧ ∃ hid2 ρ2, SR X.K c hid2 ρ2 σ H ∧ Same (vw H1 hid) (vw H hid2) ∧ EndOk X.K c k D (vw H hid2) (forL g tb (ds.drop i) ρ2), ⟨ds.length, by simp, Nat.zero_le _, hid, ρ0, s1, Same.refl _, EndOk.mono q' kp.vw⟩, ?_⟩
      rintro i m σ2 H2 ⟨rfl, hi', hid2, ρ2, s2, w2, q2⟩
      have wH : Same (vw H1 hid) H2 := w2.trans (vw_le _ _)
      by_cases hlt : i < ds.length
      · have hd : ds[i]? = some ds[i] := List.getElem?_eq_getElem hlt
        have e2 : ds.drop i = ds[i] :: ds.drop (i + 1) := List.drop_eq_getElem_cons hlt
        rw [e2] at q2
        unfold forL at q2
        obtain ⟨go, yl⟩ := it.1 i ds[i] H2 hd wH
        refine .inr ⟨go, fun σ' H' => ∃ hid3 ρ3, SR X.K c hid3 ρ3 σ' H' ∧ Same (vw H1 hid) (vw H' hid3) ∧ EndOk X.K c k D (vw H' hid3) (forL g tb (ds.drop (i + 1)) ρ3), fun σ' H' n3 => ⟨ds.length - (i + 1), by omega, rfl, hlt, n3⟩, fun x H3 y => ?_⟩
        obtain ⟨s3, rp⟩ := yl x H3 y
        have rx := rp hid2 s2.tr w2
        cases e3 : g ds[i] ρ2 with
        | none => rw [e3] at q2; exact q2.elim
        | some ρ3 =>
          rw [e3] at q2
          refine ⟨(hid2, ρ2, ds[i]), s2.ext s3, rx, ρ3, e3, fun σ4 s4 _ => ⟨ρ3, hid2, s4, ?_⟩⟩
          have w3 : Same (vw H2 hid2) (vw H3 hid2) := vw_same s3
          dsimp only at q2
          cases e4 : tb ρ3 with
          | nx ρ5 => rw [e4] at q2; exact fun σ' H' hid' z w => ⟨hid', ρ5, z, (w2.trans w3).trans w, EndOk.mono q2 (w3.trans w)⟩
          | ct ρ5 => rw [e4] at q2; exact fun σ' H' hid' z w => ⟨hid', ρ5, z, (w2.trans w3).trans w, EndOk.mono q2 (w3.trans w)⟩
          | bk ρ5 => rw [e4] at q2; exact fun σ' H' hid' z w => q2 σ' H' hid' z (w3.trans w)
          | rt d ρ5 => rw [e4] at q2; exact q2
          | no => rw [e4] at q2; exact q2.elim
      · have e : i = ds.length := by omega
        subst e
        rw [List.drop_eq_nil_of_le (Nat.le_refl _)] at q2
        exact .inl ⟨it.2 H2 wH, q2 σ2 H2 hid2 s2 (Same.refl _)⟩
/-- while: n turns are enough -/
def whL (p : FT) (b : FS) : Nat → FS
  | 0, _ => .no
  | n + 1, ρ => match p ρ with
    | none => .no
    | some false => .nx ρ
    | some true => match b ρ with
      | .nx ρ2 => whL p b n ρ2
      | .ct ρ2 => whL p b n ρ2
      | .bk ρ2 => .nx ρ2
      | .rt d ρ2 => .rt d ρ2
      | .no => .no
theorem ds_while (n : Nat) {p : FT} {tb : FS} (hp : PassesOwn (model X.prog X.w) X.A X.env X.xe) (hc : DT X c e p) (hb : DSs X c k body tb) : DS X c k (.While e body [] pos) (whL p tb n) := fun ρ =>
  PS.imp (ps_while hp (exPT fun z : Hid × Rho => hc z.1 z.2) (exPSs fun ρ => hb ρ)) fun D σ H ⟨hid, sr, q⟩ => by
    refine ⟨fun m σ H => ∃ hid2 ρ2, SR X.K c hid2 ρ2 σ H ∧ EndOk X.K c k D (vw H hid2) (whL p tb m ρ2), ⟨n, hid, ρ, sr, q⟩, ?_⟩
    rintro m σ2 H2 ⟨hid2, ρ2, s2, q2⟩
    cases m with
    | zero => exact q2.elim
    | succ m =>
      unfold whL at q2
      cases e1 : p ρ2 with
      | none => rw [e1] at q2; exact q2.elim
      | some b =>
        rw [e1] at q2
        refine ⟨(hid2, ρ2), s2, b, e1, fun H3 s3 => ?_⟩
        cases b with
        | false => exact iteF (q2 σ2 H3 hid2 (s2.ext s3) (vw_same s3))
        | true =>
          refine iteT ⟨fun σ' H' => ∃ hid3 ρ3, SR X.K c hid3 ρ3 σ' H' ∧ EndOk X.K c k D (vw H' hid3) (whL p tb m ρ3), fun σ' H' n3 => ⟨m, Nat.lt_succ_self _, n3⟩, ρ2, hid2, s2.ext s3, ?_⟩
          have w3 : Same (vw H2 hid2) (vw H3 hid2) := vw_same s3
          dsimp only at q2
          cases e4 : tb ρ2 with
          | nx ρ5 => rw [e4] at q2; exact fun σ' H' hid' z w => ⟨hid', ρ5, z, EndOk.mono q2 (w3.trans w)⟩
          | ct ρ5 => rw [e4] at q2; exact fun σ' H' hid' z w => ⟨hid', ρ5, z, EndOk.mono q2 (w3.trans w)⟩
          | bk ρ5 => rw [e4] at q2; exact fun σ' H' hid' z w => q2 σ' H' hid' z (w3.trans w)
          | rt d ρ5 => rw [e4] at q2; exact q2
          | no => rw [e4] at q2; exact q2.elim
end
end L2
set_option Elab.async false
set_option linter.all false
set_option maxRecDepth 100000
namespace L2
open PySem PySem.Spec PyProof.Rows

def rho0 (n : Nat) (ds : List D) : Rho := ds.map Sl.v ++ List.replicate (n - ds.length) .no
def fnP (kd : Kd) (n : Nat) (t : FS) (ds : List D) : Option D := match t (rho0 n ds) with
  | .rt d _ => some d
  | .nx _ => (match kd with
    | .n => none
    | _ => some .non)
  | _ => none
def rhoE (n : Nat) (bs ds : List D) : Rho := .arg bs :: (ds.map Sl.v ++ List.replicate (n - 1 - ds.length) .no)
def arg0 : Rho → Option (List D)
  | .arg bs :: _ => some bs
  | _ => none
def fnE (kd : Kd) (n : Nat) (t : FS) (bs ds : List D) : Option (D × List D) := match t (rhoE n bs ds) with
  | .rt d ρ => (arg0 ρ).map fun b => (d, b)
  | .nx ρ => (match kd with
    | .n => none
    | _ => (arg0 ρ).map fun b => (.non, b))
  | _ => none
theorem slots0 {K : PySem.W.Frag} {c : Ct} {hid : Hid} {H : Hp} (m : Nat) : ∀ {vs : List V} {ds : List D}, Reps K (vw H hid) vs ds → ∀ (i : Nat) (s : Sl), (ds.map Sl.v ++ List.replicate m .no)[i]? = some s → SlOk K c hid (vs.map some ++ List.replicate m none) H i s := by
  intro vs ds r i s e
  have hl := r.length
  by_cases hi : i < ds.length
  · rw [List.getElem?_append_left (by simpa using hi), List.getElem?_map] at e
    have e2 : ds[i]? = some ds[i] := List.getElem?_eq_getElem hi
    rw [e2] at e
    cases e
    obtain ⟨x, h1, h2⟩ := r.get e2
    exact ⟨x, by rw [List.getElem?_append_left (by simp; omega), List.getElem?_map, h1]; rfl, h2⟩
  · rw [List.getElem?_append_right (by simpa using hi), List.getElem?_replicate] at e
    split at e
    · cases e; trivial
    · cases e
theorem noOw {ds : List D} {m i : Nat} : ¬ Ow (ds.map Sl.v ++ List.replicate m Sl.no)[i]? := fun o => by
  by_cases hi : i < ds.length
  · rw [List.getElem?_append_left (by simpa using hi), List.getElem?_map, List.getElem?_eq_getElem hi] at o
    exact o
  · rw [List.getElem?_append_right (by simpa using hi), List.getElem?_replicate] at o
    split at o <;> exact o
theorem SR.begins {K : PySem.W.Frag} {hid : Hid} {H : Hp} {N : List Str} {vs : List V} {ds : List D} (tr : Trk hid H) (r : Reps K (vw H hid) vs ds) : SR K ⟨H, hid, fun _ => false⟩ hid (rho0 N.length ds) (start N vs) H := by
  have hl := r.length
  unfold start rho0
  rw [hl]
  exact ⟨tr.1, tr.2, fun _ h => h, fun _ _ h _ => h, fun b o h => ⟨o, h⟩, tr.1, (fun _ h => nomatch h), by simp [hl], fun i s e => slots0 _ r i s e, fun i j a _ o => absurd o noOw⟩
section
variable {P : Program} {w : World} {K : PySem.W.Frag} {mg : Str → Option Value} {base : Heap} {x qual : Str} {st : Stmt} {f : Addr} {fd : FuncData} {N ps : List Str} {k : Nat} {t : FS} {kd : Kd}
theorem fn_pure (F : Fun K x qual st f fd) (S : FnScope N ps (defScope st)) (hkd : kd ≠ .b)
    (body : ∀ (cdv : Value) (A : Around) (outer : List Env) (s : Shared) (H : Hp) (hid : Hid) (E : XK), Room k (A.deeper (envOfC qual (defScope st) s.heap.objs.size f cdv)) →
      DSs (cxOf CX0 P w K mg base N qual (defScope st) f cdv A outer s H E).nox ⟨H, hid, fun _ => false⟩ kd (defBody st) t) :
    FnOk P w K mg base CX0 (k + 1) f fd ps (spP K kd ps.length (fnP kd N.length t)) := by
  refine F.ok S (fun vs H Q E h => ?_) (fun cdv A outer s H vs Q E hr h => ?_)
  · obtain ⟨hid, ds, _, r, hl, _⟩ := h
    rw [r.length, hl]
  · obtain ⟨hid, ds, tr, r, hl, d, hP, q⟩ := h
    refine ⟨_, body cdv A outer s H hid E hr (rho0 N.length ds), hid, SR.begins tr r, ?_⟩
    unfold fnP at hP
    cases e : t (rho0 N.length ds) with
    | nx ρ =>
      rw [e] at hP
      intro σ' H' hid' sr _
      have sm : Same H H' := fun b o z => sr.kp b o z rfl
      cases kd with
      | b => exact absurd rfl hkd
      | s => cases hP; exact q _ H' sm .non
      | n => cases hP
    | rt d' ρ =>
      rw [e] at hP
      cases hP
      intro v H' R
      have sm : Same H H' := fun b o z => R.kp b o z rfl
      cases kd with
      | b => exact absurd rfl hkd
      | s => exact q v H' sm R.val
      | n => exact q v H' sm R.val
    | bk ρ => rw [e] at hP; cases hP
    | ct ρ => rw [e] at hP; cases hP
    | no => rw [e] at hP; cases hP
theorem SR.beginsE {hid : Hid} {H : Hp} {a : Addr} {xs us : List V} {bs ds : List D} (tr : Trk hid H) (ha : hid a = true) (hx : H a = some (.lst xs)) (rb : Reps K (vw H hid) xs bs) (r : Reps K (vw H hid) us ds) (hN : 0 < N.length) :
    SR K ⟨H, hid, fun b => decide (b = a)⟩ hid (rhoE N.length bs ds) (start N (.ref a :: us)) H := by
  have hl := r.length
  have es : start N (.ref a :: us) = some (V.ref a) :: (us.map some ++ List.replicate (N.length - 1 - ds.length) none) := by
    unfold start
    rw [List.map_cons, List.cons_append, List.length_cons, hl]
    congr 3
    omega
  rw [es]
  unfold rhoE
  refine ⟨tr.1, tr.2, fun _ h => h, fun _ _ h _ => h, fun b o h => ⟨o, h⟩, tr.1, fun b h => ?_, by simp [hl], fun i s e => ?_, fun i j z n o1 o2 q1 q2 => ?_⟩
  · have : b = a := by simpa using h
    rw [this]; exact ha
  · cases i with
    | zero =>
      cases e
      exact ⟨a, xs, rfl, hx, ha, by simp, rb⟩
    | succ i =>
      have z := slots0 (c := ⟨H, hid, fun b => decide (b = a)⟩) (N.length - 1 - ds.length) r i s (by simpa using e)
      cases s with
      | no => trivial
      | v d => obtain ⟨x, h1, h2⟩ := z; exact ⟨x, by simpa using h1, h2⟩
      | own ds => obtain ⟨x, xs, h1, h2⟩ := z; exact ⟨x, xs, by simpa using h1, h2⟩
      | arg ds => obtain ⟨x, xs, h1, h2⟩ := z; exact ⟨x, xs, by simpa using h1, h2⟩
      | ob b => obtain ⟨x, h1, h2⟩ := z; exact ⟨x, by simpa using h1, h2⟩
  · cases i with
    | zero =>
      cases j with
      | zero => exact n rfl
      | succ j => exact noOw (by simpa using o2)
    | succ i => exact noOw (by simpa using o1)
theorem arg0_some {ρ : Rho} {b : List D} (h : arg0 ρ = some b) : ρ[0]? = some (.arg b) := by
  unfold arg0 at h
  split at h
  · cases h; rfl
  · cases h
theorem fn_eff {n : Nat} (F : Fun K x qual st f fd) (S : FnScope N ps (defScope st)) (hkd : kd ≠ .b) (hn : ps.length = n + 1)
    (body : ∀ (cdv : Value) (A : Around) (outer : List Env) (s : Shared) (H : Hp) (hid : Hid) (a : Addr) (E : XK), Room k (A.deeper (envOfC qual (defScope st) s.heap.objs.size f cdv)) →
      DSs (cxOf CX0 P w K mg base N qual (defScope st) f cdv A outer s H E).nox ⟨H, hid, fun b => decide (b = a)⟩ kd (defBody st) t) :
    FnOk P w K mg base CX0 (k + 1) f fd ps (spE K kd n (fnE kd N.length t)) := by
  refine F.ok S (fun vs H Q E h => ?_) (fun cdv A outer s H vs Q E hr h => ?_)
  · obtain ⟨hid, a, xs, bs, us, ds, rfl, _, _, _, _, r, hl, _⟩ := h
    rw [List.length_cons, r.length, hl, hn]
  · obtain ⟨hid, a, xs, bs, us, ds, rfl, tr, ha, hx, rb, r, hl, d, bs', hM, q⟩ := h
    have hN : 0 < N.length := by have := congrArg List.length S.pre; rw [List.length_take] at this; omega
    refine ⟨_, body cdv A outer s H hid a E hr (rhoE N.length bs ds), hid, SR.beginsE tr ha hx rb r hN, ?_⟩
    have fin : ∀ (v : V) (H' : Hp) (ρ : Rho) (d : D), Ret K ⟨H, hid, fun b => decide (b = a)⟩ kd ρ H' v d → arg0 ρ = some bs' → (∀ v H' xs', (∀ b o, H b = some o → b ≠ a → H' b = some o) → H' a = some (.lst xs') → EndE K kd hid H H' v d xs' bs' → Q v H') → Q v H' := by
      intro v H' ρ d R h0 q
      obtain ⟨a', xs', m1, m2, m3⟩ := R.arg 0 _ (arg0_some h0)
      have : a' = a := by simpa using m1
      subst this
      refine q v H' xs' (fun b o z n => R.kp b o z (by simpa using n)) m2 ?_
      cases kd with
      | b => exact absurd rfl hkd
      | s => exact ⟨R.val, m3⟩
      | n =>
        obtain ⟨p, ys, es, rfl, rfl, h1, h2, h3⟩ := R.val
        exact ⟨p, ys, es, rfl, rfl, h1, h2, h3, m3⟩
    unfold fnE at hM
    cases e : t (rhoE N.length bs ds) with
    | nx ρ =>
      rw [e] at hM
      intro σ' H' hid' sr _
      cases kd with
      | b => exact absurd rfl hkd
      | s =>
        dsimp only at hM
        cases e0 : arg0 ρ with
        | none => rw [e0] at hM; cases hM
        | some b =>
          rw [e0] at hM; cases hM
          exact fin .non H' ρ .non (retS_ (k := .s) (by decide) (sr.post (k := .s) (Same.refl _) .non (by decide)) sr.h0) e0 q
      | n => cases hM
    | rt d' ρ =>
      rw [e] at hM
      dsimp only at hM
      cases e0 : arg0 ρ with
      | none => rw [e0] at hM; cases hM
      | some b =>
        rw [e0] at hM; cases hM
        intro v H' R
        exact fin v H' ρ _ R e0 q
    | bk ρ => rw [e] at hM; cases hM
    | ct ρ => rw [e] at hM; cases hM
    | no => rw [e] at hM; cases hM
end
/-! ### the law -/
def spLaw (K : PySem.W.Frag) : Sp := fun vs H Q _ => ∃ (a : Addr) (ns : List Int), vs = [.ref a] ∧ SqR K H a (ns.map V.int) ∧ ns.length ≤ 63 ∧ ∀ H', Q (.bl true) H'
theorem reps_ints {K : PySem.W.Frag} {F : Hp} : ∀ ns : List Int, Reps K F (ns.map V.int) (ns.map D.int)
  | [] => .nil
  | _ :: r => .cons .int (reps_ints r)
theorem fn_law {P : Program} {w : World} {K : PySem.W.Frag} {mg : Str → Option Value} {base : Heap} {f : Addr} {fd : FuncData} {x : Str} {k : Nat} {M : List D → Option D} (F : FnOk P w K mg base CX0 k f fd [x] (spP K .s 1 M)) (hM : ∀ ns : List Int, ns.length ≤ 63 → M [.scr (ns.map D.int)] = some (.bl true)) :
    FnOk P w K mg base CX0 k f fd [x] (spLaw K) := F.imp fun vs H Q E ⟨a, ns, e, hS, hl, q⟩ => by
  subst e
  have hv : vw H (fun _ => false) = H := by funext b; unfold vw; simp
  refine ⟨fun _ => false, [.scr (ns.map D.int)], ⟨(fun b h => nomatch h), (fun b xs h => nomatch h)⟩, ?_, rfl, .bl true, hM ns hl, fun v H' _ r => ?_⟩
  · rw [hv]; exact .cons (.scr hS (reps_ints ns)) .nil
  · cases r; exact q H'
theorem walkD {l : PySem.W.OpenLaw} {k : Nat} {x : Str} {q : Program} {loose : List Str} {XP : (Str → Option Value) → Heap → Prop} {YP : World → Heap → Prop} {d : DefRec} {K : Params → PySem.W.Frag} (hn : l.most = some 63) (hdf : d.params.defaults = []) (hr : Room k callerA)
    (hY : ∀ (w : World) (h : Heap), YP w h → (K w.params).In h)
    (F : ∀ (w : World) (mg : Str → Option Value) (fa : Addr) (h : Heap), (K w.params).In h → h.Ns mainGlobals mg → mg d.name = some (.ref fa) →
      ∃ fd : FuncData, (∀ (s : Shared) (u : Value), BindsTo s fd ⟨[u], []⟩ [(x, u)]) ∧ ∀ base : Heap, (K w.params).In base → base.Ns mainGlobals mg → FnOk l.prog w (K w.params) mg base CX0 k fa fd [x] (spLaw (K w.params))) :
    PySem.W.WalkO q loose XP YP l.row.toRowW d [] (fun f vs => PySem.call f vs) :=
  L2.walk_of (n := 63) (k := k) (x := x) (CX := fun _ => CX0) (sp := fun w => spLaw (K w.params)) hn (by decide) hdf hr hY F (fun _ H a ns hl hO hS => ⟨a, ns, rfl, hS.elim (fun r => r.elim (fun e => by rcases hO a with z | ⟨o, xs, z⟩ <;> rw [z] at e <;> cases e) .inl) .inr, hl, fun _ => rfl⟩) fun _ _ _ _ _ z => z
end L2
set_option Elab.async false
set_option linter.all false
set_option maxRecDepth 100000
namespace L2
open PySem PySem.Spec PyProof.Rows

/-! ### the cells that a comprehension sees -/
def clo (cells : List (Str × Addr)) : List (Str × NameKind) → List (Str × Addr) → List (Str × Addr)
  | [], acc => acc
  | (n, k) :: r, acc => clo cells r (if k == .free then (match cells.lookup n with
    | some c => (n, c) :: acc
    | none => acc) else acc)
theorem clo_mem {cells : List (Str × Addr)} : ∀ {names : List (Str × NameKind)} {acc : List (Str × Addr)}, (∀ p ∈ acc, cells.lookup p.1 = some p.2) → ∀ p ∈ clo cells names acc, cells.lookup p.1 = some p.2
  | [], acc, h, p, hp => h p hp
  | (n, k) :: r, acc, h, p, hp => by
    refine clo_mem (names := r) ?_ p hp
    intro q hq
    split at hq
    · split at hq
      · rename_i c e
        rcases List.mem_cons.mp hq with rfl | hq
        · exact e
        · exact h q hq
      · exact h q hq
    · exact h q hq
theorem clo_free {cells : List (Str × Addr)} : ∀ {names : List (Str × NameKind)} {acc : List (Str × Addr)} (p : Str × Addr), p ∈ clo cells names acc → p ∈ acc ∨ (p.1, NameKind.free) ∈ names
  | [], acc, p, hp => .inl hp
  | (n, k) :: r, acc, p, hp => by
    rcases clo_free (names := r) p hp with hq | hq
    · split at hq
      · rename_i ek
        split at hq
        · rcases List.mem_cons.mp hq with e | hq
          · subst e
            have : k = .free := by simpa using ek
            subst this
            exact .inr List.mem_cons_self
          · exact .inl hq
        · exact .inl hq
      · exact .inl hq
    · exact .inr (List.mem_cons_of_mem _ hq)
theorem clo_keep {cells : List (Str × Addr)} : ∀ {names : List (Str × NameKind)} {acc : List (Str × Addr)} {p : Str × Addr}, p ∈ acc → p ∈ clo cells names acc
  | [], acc, p, h => h
  | (n, k) :: r, acc, p, h => by
    refine clo_keep (names := r) ?_
    split
    · split
      · exact List.mem_cons_of_mem _ h
      · exact h
    · exact h
theorem clo_has {cells : List (Str × Addr)} {x : Str} {c : Addr} (hc : cells.lookup x = some c) : ∀ {names : List (Str × NameKind)} {acc : List (Str × Addr)}, (x, NameKind.free) ∈ names → (x, c) ∈ clo cells names acc
  | [], _, h => nomatch h
  | (n, k) :: r, acc, h => by
    rcases List.mem_cons.mp h with e | h
    · cases e
      refine clo_keep (names := r) ?_
      rw [if_pos (by rfl), hc]
      exact List.mem_cons_self
    · exact clo_has hc (names := r) h
theorem lookup_of_mem {l : List (Str × Addr)} {x : Str} {c : Addr} (h : (x, c) ∈ l) (u : ∀ p ∈ l, p.1 = x → p.2 = c) : l.lookup x = some c := by
  induction l with
  | nil => exact nomatch h
  | cons p r ih =>
    obtain ⟨n, a⟩ := p
    rw [List.lookup_cons]
    cases e : x == n with
    | true =>
      have e' : x = n := eq_of_beq e
      have := u (n, a) List.mem_cons_self e'.symm
      simpa using this
    | false =>
      have ne : x ≠ n := fun e' => by rw [e'] at e; simp at e
      rcases List.mem_cons.mp h with e' | h
      · cases e'; exact absurd rfl ne
      · exact ih h fun p hp => u p (List.mem_cons_of_mem _ hp)
theorem clo_lookup {cells : List (Str × Addr)} {names : List (Str × NameKind)} {x : Str} {c : Addr} (h : (clo cells names []).lookup x = some c) : cells.lookup x = some c :=
  clo_mem (names := names) (acc := []) (fun _ z => nomatch z) (x, c) (PySem.mem_of_lookup h)
theorem clo_lookup' {cells : List (Str × Addr)} {names : List (Str × NameKind)} {x : Str} {c : Addr} (hc : cells.lookup x = some c) (hf : (x, NameKind.free) ∈ names) : (clo cells names []).lookup x = some c :=
  lookup_of_mem (clo_has hc hf) fun p hp e => by
    have := clo_mem (names := names) (acc := []) (fun _ z => nomatch z) p hp
    rw [e, hc] at this
    exact (Option.some.inj this).symm
theorem closureFor_clo {scope : Scope} {env : Env} (h : ∀ x, (x, NameKind.free) ∈ scope.names → ∃ c, env.cells.lookup x = some c) : closureFor scope env = pure (clo env.cells scope.names []) := by
  unfold closureFor
  have key : ∀ (names : List (Str × NameKind)) (acc : List (Str × Addr)), (∀ x, (x, NameKind.free) ∈ names → ∃ c, env.cells.lookup x = some c) →
      (forIn names acc (fun (p : Str × NameKind) (r : List (Str × Addr)) => match p with
        | (name, kind) => if (kind == NameKind.free) = true then do
            let __do_lift ← cellOf env name
            pure (ForInStep.yield ((name, __do_lift) :: r)) else pure (ForInStep.yield r)) : Sem (List (Str × Addr))) = pure (clo env.cells names acc) := by
    intro names
    induction names with
    | nil => intro acc _; rfl
    | cons p r ih =>
      intro acc h
      obtain ⟨n, k⟩ := p
      rw [List.forIn_cons]
      have hr : ∀ x, (x, NameKind.free) ∈ r → ∃ c, env.cells.lookup x = some c := fun x hx => h x (List.mem_cons_of_mem _ hx)
      cases e : k == NameKind.free with
      | false =>
        simp only [e, Bool.false_eq_true, if_false, pure_bind]
        rw [ih acc hr]
        conv => rhs; unfold clo
        simp [e]
      | true =>
        have ek : k = .free := by simpa using e
        subst ek
        obtain ⟨c, hc⟩ := h n List.mem_cons_self
        have ec : cellOf env n = pure c := by unfold cellOf; rw [hc]
        simp only [beq_self_eq_true, if_true, ec, pure_bind]
        rw [ih _ hr]
        conv => rhs; unfold clo
        simp [hc]
  have := key scope.names [] h
  simp only [this, pure_bind]
theorem relabel_of {sc : Scope} {env : Env} {x : Str} {k : NameKind} (h : (relabel sc env).names.lookup x = some k) : ∃ k0, sc.names.lookup x = some k0 ∧ (k = k0 ∨ (k0 = .free ∧ k = .cell)) := by
  unfold relabel at h
  dsimp only at h
  generalize sc.names = l at h ⊢
  induction l with
  | nil => simp at h
  | cons p r ih =>
    obtain ⟨n, k1⟩ := p
    rw [List.map_cons] at h
    dsimp only at h
    rw [List.lookup_cons]
    cases hx : x == n with
    | true =>
      refine ⟨k1, rfl, ?_⟩
      split at h
      · rename_i hc
        rw [List.lookup_cons] at h
        simp only [hx] at h
        cases h
        have : k1 = .free := by
          simp only [Bool.and_eq_true] at hc
          exact eq_of_beq hc.1.1
        exact .inr ⟨this, rfl⟩
      · rw [List.lookup_cons] at h
        simp only [hx] at h
        cases h
        exact .inl rfl
    | false =>
      split at h
      · rw [List.lookup_cons] at h; simp only [hx] at h; exact ih h
      · rw [List.lookup_cons] at h; simp only [hx] at h; exact ih h

/-! ### the block's own cells -/
def ownC (cells : List (Str × Addr)) (scope : Scope) (C : Addr) : List (Str × Addr) := cellsFrom (C + 1) scope.names (clo cells scope.names [])
theorem cellsFrom_app : ∀ (names : List (Str × NameKind)) (n : Nat) (acc : List (Str × Addr)), cellsFrom n names acc = cellsFrom n names [] ++ acc
  | [], _, _ => rfl
  | (name, kind) :: r, n, acc => by
    unfold cellsFrom
    split
    · rw [cellsFrom_app r (n + 1) ((name, n) :: acc), cellsFrom_app r (n + 1) [(name, n)], List.append_assoc]; rfl
    · exact cellsFrom_app r n acc
theorem own_mem : ∀ {names : List (Str × NameKind)} {n : Nat} {p : Str × Addr}, p ∈ cellsFrom n names [] → (p.1, NameKind.cell) ∈ names
  | [], _, _, h => nomatch h
  | (name, kind) :: r, n, p, h => by
    unfold cellsFrom at h
    split at h
    · rename_i hk
      have hk' : kind = .cell := by simpa using hk
      subst hk'
      rw [cellsFrom_app] at h
      rcases List.mem_append.mp h with h | h
      · exact List.mem_cons_of_mem _ (own_mem h)
      · rw [List.mem_singleton.mp h]; exact List.mem_cons_self
    · exact List.mem_cons_of_mem _ (own_mem h)
theorem own_there : ∀ {names : List (Str × NameKind)} {n : Nat} {x : Str}, (x, NameKind.cell) ∈ names → ∃ c, (x, c) ∈ cellsFrom n names []
  | [], _, _, h => nomatch h
  | (name, kind) :: r, n, x, h => by
    unfold cellsFrom
    rcases List.mem_cons.mp h with e | h
    · cases e
      rw [if_pos (by rfl), cellsFrom_app]
      exact ⟨n, List.mem_append_right _ List.mem_cons_self⟩
    · split
      · obtain ⟨c, hc⟩ := own_there (n := n + 1) h
        rw [cellsFrom_app]
        exact ⟨c, List.mem_append_left _ hc⟩
      · exact own_there h
theorem lookup_mem {l : List (Str × Addr)} {x : Str} {c : Addr} (h : (x, c) ∈ l) : ∃ c', l.lookup x = some c' := by
  induction l with
  | nil => exact nomatch h
  | cons p r ih =>
    obtain ⟨n, a⟩ := p
    rw [List.lookup_cons]
    cases e : x == n with
    | true => exact ⟨a, rfl⟩
    | false =>
      rcases List.mem_cons.mp h with e' | h
      · cases e'; simp at e
      · exact ih h
theorem ownC_cases {cells : List (Str × Addr)} {sc : Scope} {C : Addr} {x : Str} {c : Addr} (h : (ownC cells sc C).lookup x = some c) : (x, c) ∈ cellsFrom (C + 1) sc.names [] ∨ (clo cells sc.names []).lookup x = some c := by
  unfold ownC at h
  rw [cellsFrom_app, List.lookup_append] at h
  cases e : (cellsFrom (C + 1) sc.names []).lookup x with
  | none => rw [e] at h; exact .inr h
  | some c' => rw [e] at h; cases h; exact .inl (PySem.mem_of_lookup e)
theorem ownC_own {cells : List (Str × Addr)} {sc : Scope} {C : Addr} {x : Str} (h : (x, NameKind.cell) ∈ sc.names) : ∃ c, (ownC cells sc C).lookup x = some c := by
  obtain ⟨c, hc⟩ := own_there (n := C + 1) h
  obtain ⟨c', e⟩ := lookup_mem hc
  exact ⟨c', by unfold ownC; rw [cellsFrom_app, List.lookup_append, e]; rfl⟩
theorem ownC_clo {cells : List (Str × Addr)} {sc : Scope} {C : Addr} {x : Str} (h : (x, NameKind.cell) ∉ sc.names) : (ownC cells sc C).lookup x = (clo cells sc.names []).lookup x := by
  unfold ownC
  rw [cellsFrom_app, List.lookup_append]
  cases e : (cellsFrom (C + 1) sc.names []).lookup x with
  | none => rfl
  | some c' => exact absurd (own_mem (PySem.mem_of_lookup e)) h
theorem nfe_own {M : Model} {A : Around} {E : Value → Shared → Prop} {s : Shared} {scope : Scope} {globals : Addr} {closure : List (Str × Addr)} {qual : Str} {outer : Env} {Q : Env → Shared → Prop}
    (hQ : ∀ h', h'.Ns s.heap.objs.size (fun _ => none) → (∀ b o, s.heap.get? b = some o → h'.get? b = some o) → CellsOk h' (s.heap.objs.size + 1) (cellsFrom (s.heap.objs.size + 1) scope.names []) →
      Q (newEnv scope s.heap.objs.size globals (cellsFrom (s.heap.objs.size + 1) scope.names closure) qual none .none (some outer) builtinsNs) { s with heap := h', toks := s.toks }) :
    wpAny M A (newFunctionEnv scope globals closure [] qual none .none (some outer)) Q E s := by
  simp only [newFunctionEnv, Option.isSome_some, if_true]
  refine wpAny_bind (wpAny_alloc ?_)
  refine wpAny_bind (wpAny_layCells _ (fun name kind cells => by cases hkc : kind == NameKind.cell <;> simp [hkc]) _ _ _ _ ?_)
  have ok := cellsFrom_ok scope.names (s.heap.push { cls := .type "dict", data := .dict #[] }) (s.heap.objs.size + 1) [] ⟨fun _ _ hm => (nomatch hm), List.Pairwise.nil⟩ (by rw [Heap.size_push]; exact Nat.le_refl _)
  rw [Heap.size_push] at ok
  rw [show ({ s with heap := s.heap.push { cls := .type "dict", data := .dict #[] } } : Shared).heap.objs.size = s.heap.objs.size + 1 from Heap.size_push ..]
  rw [List.forIn_nil]
  refine wpAny_bind (wpAny_pure (wpAny_pure ?_))
  exact hQ _ ((Heap.Ns.new s.heap (.type "dict")).keeps (pushCells_keeps _ _)) (fun b o e => pushCells_keeps _ _ b o (Heap.get?_push_of_some _ e)) ok

/-! ### the context of a comprehension's block -/
def compCx (X : Cx) (N' : List Str) (scope : Scope) (C : Addr) (s₀ : Shared) (H₀ : Hp) (ex : List Addr) : Cx where
  prog := X.prog
  w := X.w
  K := X.K
  mg := X.mg
  base := X.base
  A := X.A
  N := N'
  s₀ := s₀
  H₀ := H₀
  env := compEnvC scope (ownC X.env.cells scope C) C X.env
  outer := X.stack
  stack := X.stack
  ex := ex
  fn := fun x => scope.names.lookup x == some .local || scope.names.lookup x == some .cell
  calm := X.calm
  pn := []
  xe := fun _ _ => False
/-- the names: the outer ones in their slots (one that the block names anew by another word), then the block's own -/
def okN (N N' : List Str) (sc : Scope) : Bool :=
  decide (N.length ≤ N'.length) && ((N'.take N.length).zip N).all (fun p => (p.1 == p.2 && !(sc.names.lookup p.1 == some .local) && !(sc.names.lookup p.1 == some .cell)) || (sc.names.lookup p.1).isNone) &&
    (N'.drop N.length).all fun x => sc.names.lookup x == some .local || sc.names.lookup x == some .cell
/-- what the block asks of the scopes -/
def okS (sc : Scope) (outer : Scope) : Bool :=
  sc.names.all fun y => (y.2 != .cell || sc.names.lookup y.1 == some .cell) && (y.2 != .local || sc.names.lookup y.1 == some .local) && (y.2 != .free || (sc.names.lookup y.1 == some .free && (outer.names.lookup y.1 == some .cell || outer.names.lookup y.1 == some .free)))
theorem okS_cell {sc o : Scope} (h : okS sc o = true) : ∀ y ∈ sc.names, y.2 = .cell → sc.names.lookup y.1 = some .cell := fun y hy e => by
  have := List.all_eq_true.mp h y hy
  simpa [e] using this
theorem okS_local {sc o : Scope} (h : okS sc o = true) : ∀ y ∈ sc.names, y.2 = .local → sc.names.lookup y.1 = some .local := fun y hy e => by
  have := List.all_eq_true.mp h y hy
  simpa [e] using this
theorem okS_free {sc o : Scope} (h : okS sc o = true) : ∀ x, (x, NameKind.free) ∈ sc.names → o.names.lookup x = some .cell ∨ o.names.lookup x = some .free := fun x hx => by
  have := List.all_eq_true.mp h _ hx
  simpa using (by simpa using this : _ ∧ _).2
theorem okS_free' {sc o : Scope} (h : okS sc o = true) : ∀ x, (x, NameKind.free) ∈ sc.names → sc.names.lookup x = some .free := fun x hx => by
  have := List.all_eq_true.mp h _ hx
  simpa using (by simpa using this : _ ∧ _).1
theorem okN_outer {N N' : List Str} {sc : Scope} (h : okN N N' sc = true) {i : Nat} {x : Str} (hi : i < N.length) (e : N'[i]? = some x) (hv : ∃ k, sc.names.lookup x = some k ∧ (k = .local ∨ k = .cell ∨ k = .free)) : N[i]? = some x ∧ sc.names.lookup x = some .free := by
  unfold okN at h
  simp only [Bool.and_eq_true, decide_eq_true_eq] at h
  obtain ⟨⟨h1, h2⟩, _⟩ := h
  have hN : N[i]? = some N[i] := List.getElem?_eq_getElem hi
  have e1 : (N'.take N.length)[i]? = some x := by rw [List.getElem?_take_of_lt hi]; exact e
  have hm : (x, N[i]) ∈ (N'.take N.length).zip N := by
    refine List.mem_of_getElem? (i := i) ?_
    rw [List.getElem?_zip_eq_some]
    exact ⟨e1, hN⟩
  have := List.all_eq_true.mp h2 _ hm
  obtain ⟨k, hk, hk2⟩ := hv
  dsimp only at this
  rw [hk] at this
  simp only [Option.isNone_some, Bool.or_false, Bool.and_eq_true, Bool.not_eq_true'] at this
  obtain ⟨⟨t1, t2⟩, t3⟩ := this
  have ex : x = N[i] := eq_of_beq t1
  rcases hk2 with rfl | rfl | rfl
  · simp at t2
  · simp at t3
  · exact ⟨by rw [hN, ← ex], hk⟩
theorem okN_len {N N' : List Str} {sc : Scope} (h : okN N N' sc = true) : N.length ≤ N'.length := by
  unfold okN at h
  simp only [Bool.and_eq_true, decide_eq_true_eq] at h
  exact h.1.1

section
variable {X : Cx} {pins : List (Addr × Obj)} {σ : St} {H : Hp} {s : Shared} {scope : Scope} {N' : List Str} {fp : List Addr}
theorem frs_stack (I : Inv X pins σ H s) {b : Addr} (f : FpOk X pins H b) : b ∉ frs X.stack := fun z => by
  rcases List.mem_cons.mp (I.stkSub b z) with e | z
  · exact f.2.1 e
  · exact f.2.2.1 z
/-- the block begins -/
theorem inv_comp {h' : Heap} {tk : Nat} (I : Inv X pins σ H s) (hF : ∀ b ∈ fp, FpOk X pins H b) (hO : ∀ b ∈ fp, ∃ o, s.heap.get? b = some o) (hk : scope.kind = .function) (hs : okS scope X.env.scope = true) (hn : okN X.N N' scope = true)
    (ns : h'.Ns s.heap.objs.size fun _ => none) (kp : ∀ b o, s.heap.get? b = some o → h'.get? b = some o) (oc : CellsOk h' (s.heap.objs.size + 1) (cellsFrom (s.heap.objs.size + 1) scope.names [])) :
    Inv (compCx X N' scope s.heap.objs.size s H fp) [] (σ ++ List.replicate (N'.length - X.N.length) none) H { s with heap := h', toks := tk } := by
  have hlen := okN_len hn
  have cl : ∀ x c, (clo X.env.cells scope.names []).lookup x = some c → X.env.cells.lookup x = some c := fun x c e => clo_lookup e
  have clt : ∀ x c, (clo X.env.cells scope.names []).lookup x = some c → c < s.heap.objs.size := fun x c e => let ⟨_, z⟩ := I.cell x c (cl x c e); z.lt
  have newC : H s.heap.objs.size = none := I.hok.fresh (Nat.le_refl _)
  refine ⟨⟨I.ok.mod, hk, I.ok.glob, I.ok.blt, Nat.le_refl _, fun x y c h1 h2 => ?_, fun x hx => ?_, fun x c h1 h2 => ?_, I.ok.hd, I.ok.frames, .inl rfl, fun b hb => ⟨?_, fun x c e => ?_⟩, I.bs, Nat.le_trans I.ok.bsz I.sz, fun b o e hb => ?_, fun b hb => frs_stack I (hF b hb), I.stack, I.stkFree⟩,
    rfl, I.bare, Un.kept kp, ⟨_, ns, fun i x v e1 e2 e3 => ?_⟩, fun x c e => ?_, newC, fun x c e => ?_, fun p hp => absurd (show p ∈ ([] : List (Addr × Obj)) from hp) (by simp), I.hok.kept kp, ?_⟩
  · -- two names, one cell
    rcases ownC_cases h1 with h1 | h1 <;> rcases ownC_cases h2 with h2 | h2
    · exact name_of_addr oc.apart h1 h2
    · exact absurd (clt y c h2) (Nat.not_lt.mpr (Nat.le_of_succ_le (oc.empty _ _ h1).2))
    · exact absurd (clt x c h1) (Nat.not_lt.mpr (Nat.le_of_succ_le (oc.empty _ _ h2).2))
    · exact I.ok.inj x y c (cl x c h1) (cl y c h2)
  · -- a name of the outer frame has its cell
    have hx' : (relabel scope X.env).names.lookup x = some .cell ∨ (relabel scope X.env).names.lookup x = some .free := hx
    have : (x, NameKind.cell) ∈ scope.names ∨ (x, NameKind.free) ∈ scope.names := by
      rcases hx' with hx' | hx'
      · obtain ⟨k0, e0, e1 | ⟨e1, _⟩⟩ := relabel_of hx'
        · subst e1; exact .inl (PySem.mem_of_lookup e0)
        · subst e1; exact .inr (PySem.mem_of_lookup e0)
      · obtain ⟨k0, e0, e1 | ⟨_, e1⟩⟩ := relabel_of hx'
        · subst e1; exact .inr (PySem.mem_of_lookup e0)
        · cases e1
    rcases this with this | this
    · exact ownC_own this
    · have hc := okS_free hs x this
      obtain ⟨c, e⟩ := I.ok.has x hc
      exact ⟨c, (ownC_clo fun z => by have z1 := okS_cell hs _ z rfl; have z2 := okS_free' hs x this; rw [z2] at z1; cases z1).trans (clo_lookup' e this)⟩
  · -- own names: their cells are new
    have h1' : scope.names.lookup x = some .local ∨ scope.names.lookup x = some .cell := by
      have h1 : (scope.names.lookup x == some .local || scope.names.lookup x == some .cell) = true := h1
      simpa using h1
    rcases ownC_cases h2 with h2 | h2
    · exact Nat.le_of_succ_le (oc.empty _ _ h2).2
    · exfalso
      rcases clo_free _ (PySem.mem_of_lookup h2) with z | z
      · exact nomatch z
      · rw [okS_free' hs x z] at h1'; rcases h1' with h1' | h1' <;> cases h1'
  · obtain ⟨o, e⟩ := hO b hb
    exact Nat.ne_of_lt (Heap.lt_size e)
  · rcases ownC_cases e with e | e
    · obtain ⟨o, e'⟩ := hO b hb
      exact fun z => absurd (Heap.lt_size e') (Nat.not_lt.mpr (z ▸ Nat.le_of_succ_le (oc.empty _ _ e).2))
    · exact (hF b hb).2.2.2.2.1 x c (cl x c e)
  · obtain ⟨_, _, _, h4, _⟩ := hF b hb
    rcases h4 with h4 | h4
    · exact I.ok.noex b o e h4
    · exact absurd (Nat.lt_of_lt_of_le (Heap.lt_size e) (Nat.le_trans I.ok.bsz h4)) (Nat.lt_irrefl _)
  · have hi : i < X.N.length := by
      by_cases hi : i < σ.length
      · rw [← I.len]; exact hi
      · rw [List.getElem?_append_right (by omega), List.getElem?_replicate] at e2
        split at e2 <;> cases e2
    rw [List.getElem?_append_left (by rw [I.len]; exact hi)] at e2
    have e3' : (relabel scope X.env).names.lookup x = some .local ∨ (relabel scope X.env).names.lookup x = some .cell ∨ (relabel scope X.env).names.lookup x = some .free := e3
    have hv : ∃ k, scope.names.lookup x = some k ∧ (k = .local ∨ k = .cell ∨ k = .free) := by
      rcases e3' with z | z | z
      all_goals
        obtain ⟨k0, q0, q1 | ⟨q1, q2⟩⟩ := relabel_of z
        · subst q1; exact ⟨_, q0, by simp⟩
        · subst q1; exact ⟨_, q0, by simp⟩
    obtain ⟨hN, hf⟩ := okN_outer hn hi e1 hv
    have hfm := PySem.mem_of_lookup hf
    have hc := okS_free hs x hfm
    have nc : (x, NameKind.cell) ∉ scope.names := fun z => by have z1 := okS_cell hs _ z rfl; rw [hf] at z1; cases z1
    obtain ⟨m, hm, hl⟩ := I.loc
    obtain ⟨u, r, l⟩ := hl i x v hN e2 (.inr hc)
    refine ⟨u, r, .inr ⟨?_, ?_⟩⟩
    · show (relabel scope X.env).names.lookup x = some .cell ∨ (relabel scope X.env).names.lookup x = some .free
      rcases e3' with z | z | z
      · obtain ⟨k0, q0, q1 | ⟨q1, q2⟩⟩ := relabel_of z
        · subst q1; rw [hf] at q0; cases q0
        · cases q2
      · exact .inl z
      · exact .inr z
    · rcases l with ⟨l, _⟩ | ⟨_, c, ec, z⟩
      · have l' : X.env.scope.names.lookup x = some .local := l
        rcases hc with hc | hc <;> rw [hc] at l' <;> cases l'
      · exact ⟨c, (ownC_clo nc).trans (clo_lookup' ec hfm), z.keeps kp⟩
  · rcases ownC_cases e with e | e
    · exact ⟨_, (oc.empty _ _ e).1⟩
    · obtain ⟨v, z⟩ := I.cell x c (cl x c e)
      exact ⟨v, z.keeps kp⟩
  · rcases ownC_cases e with e | e
    · exact I.hok.fresh (Nat.le_of_succ_le (oc.empty _ _ e).2)
    · exact I.freeC x c (cl x c e)
  · show (σ ++ _).length = N'.length
    rw [List.length_append, List.length_replicate, I.len]
    omega
end
end L2
set_option Elab.async false
set_option linter.all false
set_option maxRecDepth 100000
namespace L2
open PySem PySem.Spec PyProof.Rows

/-! ### what is walked, without effect -/
def rdIp (K : PySem.W.Frag) (c : Ct) (hid : Hid) (f : FA) (ρ : Rho) : TI := fun σ H R => SR K c hid ρ σ H ∧ ∃ ds, f ρ = some ds ∧ ∀ J H', Same H H' → ItOk K (vw H' hid) J ds → R J H'
def DIp (X : Cx) (c : Ct) (tg iter : Expr) (f : FA) : Prop := ∀ hid ρ, PI X tg iter (rdIp X.K c hid f ρ)
/-- what is walked while nothing that stood is changed -/
def ItB (K : PySem.W.Frag) (L W : Hp) (J : It) (ds : List D) : Prop :=
  (∀ (i : Nat) (d : D) (H : Hp), ds[i]? = some d → Same L H → Same W H → J.go i H ∧ ∀ x H', J.yld i H x H' → Same H H' ∧ ∀ hid : Hid, (∀ b, hid b = true → ∃ o, H b = some o) → Same W (vw H hid) → Rep K (vw H' hid) x d) ∧ ∀ H, Same L H → Same W H → J.stop ds.length H
theorem ItOk.b {K : PySem.W.Frag} {L W : Hp} {J : It} {ds : List D} (h : ItOk K W J ds) : ItB K L W J ds := ⟨fun i d H e _ w => h.1 i d H e w, fun H _ w => h.2 H w⟩
def rdIb (K : PySem.W.Frag) (c : Ct) (hid : Hid) (f : FA) (ρ : Rho) : TI := fun σ H R => SR K c hid ρ σ H ∧ ∃ ds, f ρ = some ds ∧ ∀ J H', Same H H' → ItB K H' (vw H' hid) J ds → R J H'
def DIb (X : Cx) (c : Ct) (tg iter : Expr) (f : FA) : Prop := ∀ hid ρ, PI X tg iter (rdIb X.K c hid f ρ)
section
variable {X : Cx} {c : Ct} {k : Kd} {tg iter : Expr} {pos : Pos}
theorem DIp.b {f : FA} (h : DIp X c tg iter f) : DIb X c tg iter f := fun hid ρ => PI.imp (h hid ρ) fun σ H R ⟨sr, ds, e, q⟩ => ⟨sr, ds, e, fun J H' s io => q J H' s io.b⟩
theorem DIp.e {f : FA} (h : DIp X c tg iter f) : DI X c tg iter (puA f) := fun hid ρ => PI.imp (h hid ρ) fun σ H R ⟨sr, ds, ρ', e, q⟩ => by
  obtain ⟨e1, rfl⟩ := puA_some e
  exact ⟨sr, ds, e1, fun J H' s io => q J H' (.of s) (sr.ext s) io⟩
def lstA (f : FE) : FA := fun ρ => (f ρ).bind fun d => match d with
  | .lst ds => some ds
  | _ => none
def tupA (f : FE) : FA := fun ρ => (f ρ).bind fun d => match d with
  | .tup ds => some ds
  | _ => none
theorem lstA_some {f : FE} {ρ : Rho} {ds : List D} (h : lstA f ρ = some ds) : f ρ = some (.lst ds) := by
  unfold lstA at h
  cases e : f ρ with
  | none => rw [e] at h; cases h
  | some d =>
    rw [e] at h
    cases d with
    | lst z => cases h; rfl
    | _ => cases h
theorem tupA_some {f : FE} {ρ : Rho} {ds : List D} (h : tupA f ρ = some ds) : f ρ = some (.tup ds) := by
  unfold tupA at h
  cases e : f ρ with
  | none => rw [e] at h; cases h
  | some d =>
    rw [e] at h
    cases d with
    | tup z => cases h; rfl
    | _ => cases h
theorem itok_lst {K : PySem.W.Frag} {W : Hp} {a : Addr} {xs : List V} {ds : List D} (h1 : SqL K W a xs) (h2 : Reps K W xs ds) : ItOk K W (Itl K a) ds := by
  refine ⟨fun i d H e s => ?_, fun H s => ⟨_, s.seq h1, by rw [h2.length]; exact Nat.le_refl _⟩⟩
  obtain ⟨x, e1, r1⟩ := h2.get e
  refine ⟨⟨_, x, s.seq h1, e1⟩, fun y H' ⟨e2, e3⟩ => ?_⟩
  subst e2
  have := e3 _ (s.seq h1)
  rw [e1] at this; cases this
  exact ⟨Same.refl _, fun hid _ sw => r1.mono sw⟩
theorem dip_list {f : FE} (h : DP X c .s iter f) : DIp X c tg iter (lstA f) := fun hid ρ => PI.imp (pi_list (h hid ρ)) fun σ H R ⟨sr, ds, e, q⟩ => by
  refine ⟨sr, _, lstA_some e, fun v H' s' r => ?_⟩
  cases r with
  | lst h1 h2 => have h1 := SqL.of (K := X.K) h1; exact ⟨_, rfl, ⟨_, (vw_le _ _).seq h1⟩, q _ H' s' (itok_lst h1 h2)⟩
theorem dip_tup {f : FE} (h : DP X c .s iter f) : DIp X c tg iter (tupA f) := fun hid ρ => PI.imp (pi_tup (h hid ρ)) fun σ H R ⟨sr, ds, e, q⟩ => by
  refine ⟨sr, _, tupA_some e, fun v H' s' r => ?_⟩
  cases r with
  | tup h1 h2 => exact ⟨_, rfl, ⟨_, Same.seqT (vw_le _ _) h1⟩, q _ H' s' (itok_tup h1 h2)⟩
def rngA1 (f : FA) : FA := fun ρ => (f ρ).bind fun ds => match ds with
  | [.int j] => if j.natAbs < 4000000000 then some (ups 0 j.toNat) else none
  | _ => none
def rngA2 (f : FA) : FA := fun ρ => (f ρ).bind fun ds => match ds with
  | [.int i, .int j] => if i.natAbs < 4000000000 ∧ j.natAbs < 4000000000 then some (ups i (j - i).toNat) else none
  | _ => none
theorem dip_range1 {a : Expr} {f : FA} {p : Pos} (hm : X.mg "range" = none) (ha : DA X c [a] f) (hg : Gl X "range" := by rfl) (hs : starEach [a] X.env = [(false, eval a X.env)] := by rfl) : DIp X c tg (.Call (.Name "range" p) [a] [] pos) (rngA1 f) := fun hid ρ =>
  PI.imp (pi_range1 hg hm (ha hid ρ) hs) fun σ H R ⟨sr, ds, e, q⟩ => by
    unfold rngA1 at e
    cases e1 : f ρ with
    | none => rw [e1] at e; cases e
    | some z =>
      rw [e1] at e
      dsimp only [Option.bind] at e
      split at e
      · split at e
        · cases e
          refine ⟨sr, _, e1, fun vs H' s' r => ?_⟩
          cases r with
          | cons r t => cases t; cases r; exact ⟨_, rfl, by omega, by omega, q _ H' s' itok_range⟩
        · cases e
      · cases e
theorem dip_range2 {a b : Expr} {f : FA} {p : Pos} (hm : X.mg "range" = none) (ha : DA X c [a, b] f) (hg : Gl X "range" := by rfl) (hs : starEach [a, b] X.env = [(false, eval a X.env), (false, eval b X.env)] := by rfl) (hs2 : starEach [b] X.env = [(false, eval b X.env)] := by rfl) : DIp X c tg (.Call (.Name "range" p) [a, b] [] pos) (rngA2 f) := fun hid ρ =>
  PI.imp (pi_range2 hg hm (ha hid ρ) hs hs2) fun σ H R ⟨sr, ds, e, q⟩ => by
    unfold rngA2 at e
    cases e1 : f ρ with
    | none => rw [e1] at e; cases e
    | some z =>
      rw [e1] at e
      dsimp only [Option.bind] at e
      split at e
      · split at e
        · cases e
          refine ⟨sr, _, e1, fun vs H' s' r => ?_⟩
          cases r with
          | cons r t => cases t with
            | cons r' t => cases t; cases r; cases r'; exact ⟨_, _, rfl, by omega, q _ H' s' itok_range⟩
        · cases e
      · cases e
/-! ### the tests of a comprehension -/
def testsOf (ifs : List Expr) (env : Env) : Sem Bool := forIn ifs true fun c r => if r = true then do let ok ← isTrue c env (eval c env); pure (ForInStep.yield ok) else pure (ForInStep.yield r)
def DIf (X : Cx) (c : Ct) (ifs : List Expr) (p : FT) : Prop := ∀ hid ρ (pins : List (Addr × Obj)) (s : Shared) (σ : St) (H : Hp) (Q : Bool → Hp → Prop), Inv X pins σ H s → rdT X.K c hid p ρ σ H Q → wpAny (model X.prog X.w) X.A (testsOf ifs X.env) (TP X pins σ Q) X.xe s
def yesT : FT := fun _ => some true
theorem dif_nil : DIf X c [] yesT := fun hid ρ pins s σ H Q I ⟨sr, d, e, q⟩ => by
  cases e
  exact wpAny_tests_nil ⟨H, I, q H (Same.refl _)⟩
theorem dif_one {e : Expr} {p : FT} (h : DT X c e p) : DIf X c [e] p := fun hid ρ pins s σ H Q I q => wpAny_tests_one (h hid ρ pins s σ H Q I q)
end
/-- one generator: a turn with its tuple let go -/
theorem codeAny_compLoop_turns {prog : Program} {w : World} {A : Around} {R : Result → Shared → Prop} {s : Shared} {elt target iter : Expr} {ifs : List Expr} {scope : Scope} {pos : Pos} {it acc : Value} {env : Env} (I : Nat → Shared → Prop)
    (turn : ∀ n s, I n s → wpAny (model prog w) A (pyNext it) (fun r s₁ => match r with
      | none => R (.ok .next) s₁
      | some v => wpAny (model prog w) A (letOwnedTupleGo target it v) (fun _ s₁ => wpAny (model prog w) A (assign target env v) (fun _ s₂ =>
          wpAny (model prog w) A (testsOf ifs env) (fun ok s₃ =>
            if ok = true then wpAny (model prog w) A (eval elt env) (fun x s₄ =>
              wpAny (model prog w) A (call (.builtin "list.append") [acc, x]) (fun _ s₅ => ∃ m, m < n ∧ I m s₅) (fun _ _ => False) s₄) (fun _ _ => False) s₃
            else ∃ m, m < n ∧ I m s₃) (fun _ _ => False) s₂) (fun _ _ => False) s₁) (fun _ _ => False) s₁) (fun _ _ => False) s)
    (n : Nat) (h : I n s) :
    codeAny (model prog w) A (.compLoop (.ListComp elt [⟨target, iter, ifs, 0⟩] scope pos) 0 it acc env) R s := by
  have no : ∀ {E' : Value → Shared → Prop} (x : Value) (s : Shared), False → E' x s := fun _ _ z => z.elim
  refine codeAny_loop rfl I (fun n s hI => ?_) n h
  show wpAny _ A ((compTurn (.ListComp elt [⟨target, iter, ifs, 0⟩] scope pos) 0 it acc env).onRaise (fun x => do noteFrame x env; theTreesLotGoes x)) _ _ s
  refine wpAny_noted ?_
  rw [compTurn_list]
  refine wpAny_bind (wpAny_standAt (wpAny_bind (wpAny_mono (turn n s hI) (fun r s₁ h₁ => ?_) no)))
  cases r with
  | none => exact wpAny_pure h₁
  | some v =>
    refine wpAny_bind (wpAny_mono h₁ (fun _ s₁ h₁ => ?_) no)
    refine wpAny_bind (wpAny_mono h₁ (fun _ s₂ h₂ => wpAny_bind (wpAny_mono h₂ (fun ok s₃ h₃ => ?_) no)) no)
    cases ok with
    | false => exact wpAny_pure ⟨rfl, h₃⟩
    | true =>
      exact wpAny_bind (wpAny_bind (wpAny_mono h₃ (fun x s₄ h₄ => wpAny_bind (wpAny_mono h₄ (fun _ s₅ h₅ => wpAny_pure (wpAny_pure ⟨rfl, h₅⟩)) no)) no))

/-! ### the mirror of a comprehension -/
def compL (g : FG) (p : FT) (f : FE) (ρ0 : Rho) : List D → Option (List D)
  | [] => some []
  | d :: r => (g d ρ0).bind fun ρ1 => (p ρ1).bind fun b => if b = true then (f ρ1).bind fun y => (compL g p f ρ0 r).map (y :: ·) else compL g p f ρ0 r
def compF (m : Nat) (gi : FA) (g : FG) (p : FT) (f : FE) : FE := fun ρ => (gi ρ).bind fun ds => if ds.length ≤ sizeLine then (compL g p f (ρ ++ List.replicate m .no) ds).map D.lst else none
theorem compF_some {m : Nat} {gi : FA} {g : FG} {p : FT} {f : FE} {ρ : Rho} {d : D} (h : compF m gi g p f ρ = some d) : ∃ ds ys, gi ρ = some ds ∧ ds.length ≤ sizeLine ∧ compL g p f (ρ ++ List.replicate m .no) ds = some ys ∧ d = .lst ys := by
  unfold compF at h
  cases e1 : gi ρ with
  | none => rw [e1] at h; cases h
  | some ds =>
    rw [e1] at h
    dsimp only [Option.bind] at h
    split at h
    · cases e2 : compL g p f (ρ ++ List.replicate m .no) ds with
      | none => rw [e2] at h; cases h
      | some ys => rw [e2] at h; cases h; exact ⟨ds, ys, rfl, ‹_›, e2, rfl⟩
    · cases h
/-- a target of the block's own names -/
def Tail (n : Nat) (g : FG) : Prop := ∀ d (ρ0 ρ1 : Rho), g d ρ0 = some ρ1 → ρ1.length = ρ0.length ∧ ∀ i : Nat, i < n → ρ1[i]? = ρ0[i]?
theorem tail_n {n i : Nat} (h : n ≤ i) : Tail n (gN i) := fun d ρ0 ρ1 e => by
  cases e
  exact ⟨by simp, fun j hj => List.getElem?_set_ne (by omega)⟩
theorem SR.forget {K : PySem.W.Frag} {c : Ct} {hid : Hid} {ρ0 ρ1 : Rho} {σ : St} {H : Hp} (h : SR K c hid ρ1 σ H) (hl : ρ1.length = ρ0.length) (hs : ∀ (i : Nat) (s : Sl), ρ0[i]? = some s → s = .no ∨ ρ1[i]? = some s) : SR K c hid ρ0 σ H := by
  have ow : ∀ i : Nat, Ow ρ0[i]? → Ow ρ1[i]? := fun i o => by
    cases e : ρ0[i]? with
    | none => rw [e] at o; exact o.elim
    | some s =>
      rcases hs i s e with rfl | z
      · rw [e] at o; exact o.elim
      · rw [z, ← e]; exact o
  refine ⟨h.tr, h.ht, h.h0, h.kp, h.t0, h.c0, h.m0, h.len.trans hl, fun i s e => ?_, fun i j a n o1 o2 => h.ap i j a n (ow i o1) (ow j o2)⟩
  rcases hs i s e with rfl | z
  · trivial
  · exact h.sl i s z
theorem SR.more {K : PySem.W.Frag} {c : Ct} {hid : Hid} {ρ : Rho} {σ : St} {H : Hp} (h : SR K c hid ρ σ H) (m : Nat) : SR K c hid (ρ ++ List.replicate m .no) (σ ++ List.replicate m none) H := by
  have lt : ∀ {i : Nat}, Ow (ρ ++ List.replicate m Sl.no)[i]? → i < ρ.length := fun {i} o => by
    by_cases hi : i < ρ.length
    · exact hi
    · rw [List.getElem?_append_right (by omega), List.getElem?_replicate] at o
      split at o <;> exact o.elim
  refine ⟨h.tr, h.ht, h.h0, h.kp, h.t0, h.c0, h.m0, by simp [h.len], fun i s e => ?_, fun i j a n o1 o2 q1 q2 => ?_⟩
  · by_cases hi : i < ρ.length
    · rw [List.getElem?_append_left hi] at e
      have z := h.sl i s e
      have es : (σ ++ List.replicate m none)[i]? = σ[i]? := List.getElem?_append_left (by rw [h.len]; exact hi)
      cases s with
      | no => trivial
      | v d => obtain ⟨x, h1, h2⟩ := z; exact ⟨x, es.trans h1, h2⟩
      | own ds => obtain ⟨a, xs, h1, h2⟩ := z; exact ⟨a, xs, es.trans h1, h2⟩
      | arg ds => obtain ⟨a, xs, h1, h2⟩ := z; exact ⟨a, xs, es.trans h1, h2⟩
      | ob b => obtain ⟨a, h1, h2⟩ := z; exact ⟨a, es.trans h1, h2⟩
    · rw [List.getElem?_append_right (by omega), List.getElem?_replicate] at e
      split at e
      · cases e; trivial
      · cases e
  · have l1 := lt o1
    have l2 := lt o2
    rw [List.getElem?_append_left l1] at o1
    rw [List.getElem?_append_left l2] at o2
    rw [List.getElem?_append_left (by rw [h.len]; exact l1)] at q1
    rw [List.getElem?_append_left (by rw [h.len]; exact l2)] at q2
    exact h.ap i j a n o1 o2 q1 q2
end L2
set_option Elab.async false
set_option linter.all false
set_option maxRecDepth 100000
namespace L2
open PySem PySem.Spec PyProof.Rows
section
variable {X : Cx} {c : Ct} {elt tg iter : Expr} {ifs : List Expr} {scope : Scope} {pos : Pos} {N' : List Str} {m : Nat} {gi : FA} {g : FG} {p : FT} {f : FE}
theorem SR.write {K : PySem.W.Frag} {hid : Hid} {ρ : Rho} {σ : St} {H : Hp} {a : Addr} {o' : HO} (h : SR K c hid ρ σ H) (hh : hid a = true) (h0 : c.H₀ a = none) (na : ∀ i : Nat, Ow ρ[i]? → σ[i]? ≠ some (some (.ref a))) (hn : ∀ xs, o' ≠ .tup xs := by intro _ e; cases e) : SR K c hid ρ σ (upd H a o') := by
  have tr' : ∀ b o, H b = some o → ∃ o2, (upd H a o') b = some o2 := fun b o q => by
    by_cases e : b = a
    · subst e; exact ⟨_, upd_same⟩
    · exact ⟨o, by rw [upd_ne e]; exact q⟩
  refine ⟨fun b hb => let ⟨o, q⟩ := h.tr b hb; tr' b o q, fun b xs hb q => by
    by_cases e : b = a
    · subst e; rw [upd_same] at q; exact hn _ (Option.some.inj q)
    · rw [upd_ne e] at q; exact h.ht b xs hb q, h.h0, fun b o q m => ?_, fun b o q => let ⟨o2, q2⟩ := h.t0 b o q; tr' b o2 q2, h.c0, h.m0, h.len, fun i s e => ?_, h.ap⟩
  · rw [upd_ne (ne_of_none q h0)]; exact h.kp b o q m
  · have z := h.sl i s e
    have ne : ∀ a', Ow ρ[i]? → σ[i]? = some (some (.ref a')) → a' ≠ a := fun a' o q w => by subst w; exact na i o q
    cases s with
    | no => trivial
    | v d => obtain ⟨x, h1, h2⟩ := z; exact ⟨x, h1, by rw [vw_upd hh]; exact h2⟩
    | own ds => obtain ⟨a', xs, h1, h2, h3, h4, h5⟩ := z; exact ⟨a', xs, h1, by rw [upd_ne (ne a' (by rw [e]; trivial) h1)]; exact h2, h3, h4, by rw [vw_upd hh]; exact h5⟩
    | arg ds => obtain ⟨a', xs, h1, h2, h3, h4, h5⟩ := z; exact ⟨a', xs, h1, by rw [upd_ne (ne a' (by rw [e]; trivial) h1)]; exact h2, h3, h4, by rw [vw_upd hh]; exact h5⟩
    | ob b => obtain ⟨a', h1, h2⟩ := z; exact ⟨a', h1, h2.mono (fun ow o q => by rw [upd_ne (ne a' (by rw [e]; exact ow) h1)]; exact q) (by rw [vw_upd hh]; exact Same.refl _) fun _ q => q⟩
theorem comp_loop (hcalm : X.calm = true) (hT : Tail X.N.length g)
    (hg : ∀ C s₀ H₀ ex, DGt (compCx X N' scope C s₀ H₀ ex) c tg g) (hp : ∀ C s₀ H₀ ex, DIf (compCx X N' scope C s₀ H₀ ex) c ifs p) (he : ∀ C s₀ H₀ ex, DP (compCx X N' scope C s₀ H₀ ex) c .s elt f)
    {σ3 : St} {H H3 : Hp} {s3 s4 : Shared} {hid : Hid} {ρ : Rho} {J : It} {it D0 C : Addr} {fp : List Addr} {tn : Nat → Heap → Prop} {ds ys : List D} {R : Result → Shared → Prop} {W : Hp} (hρ : ρ.length = X.N.length)
    (I : Inv (compCx X N' scope C s3 H3 fp) [] σ3 H3 s4) (sr : SR X.K c hid (ρ ++ List.replicate m .no) σ3 H3) (hh : hid D0 = true) (h00 : c.H₀ D0 = none) (na : ∀ i : Nat, Ow (ρ ++ List.replicate m Sl.no)[i]? → σ3[i]? ≠ some (some (.ref D0))) (hacc : H3 D0 = some (.lst [])) (sm : Same H H3) (nD : H D0 = none) (wv : Same W (vw H3 hid)) (T : Turn X.prog X.w X.K tg J fp it tn) (st : tn 0 s4.heap) (hF : ∀ b ∈ fp, H3 b = none)
    (io : ItB X.K H W J ds) (hz : ds.length ≤ sizeLine) (hc : compL g p f (ρ ++ List.replicate m .no) ds = some ys)
    (hR : ∀ (s' : Shared) (σ' : St) (H' : Hp) (xs : List V), Inv (compCx X N' scope C s3 H3 fp) [] σ' H' s' → Same H H' → H' D0 = some (.lst xs) → Reps X.K (vw H' hid) xs ys → R (.ok .next) s') :
    codeAny (model X.prog X.w) X.A (.compLoop (.ListComp elt [⟨tg, iter, ifs, 0⟩] scope pos) 0 (.ref it) (.ref D0) (compEnvC scope (ownC X.env.cells scope C) C X.env)) R s4 := by
  have stat : ∀ {pins : List (Addr × Obj)} {H' : Hp}, (∀ q ∈ pins, q.1 ∉ fp) → (∀ b ∈ fp, H' b = none) → ∀ b ∈ fp, FpOk (compCx X N' scope C s3 H3 fp) pins H' b := fun {pins H'} hpn hn b hb =>
    ⟨hn b hb, (I.ok.exf b hb).1, I.ok.exfs b hb, .inl hb, (I.ok.exf b hb).2, fun q hq e => hpn q (by have hq' : q ∈ ([] : List (Addr × Obj)) ++ pins := hq; simpa using hq') (by rw [e]; exact hb)⟩
  have no : ∀ q ∈ ([] : List (Addr × Obj)), q.1 ∉ fp := fun q hq => nomatch hq
  refine codeAny_compLoop_turns (fun n s' => ∃ (i : Nat) (xs : List V) (ad : List D) (σ' : St) (H' : Hp), n = ds.length - i ∧ i ≤ ds.length ∧ Inv (compCx X N' scope C s3 H3 fp) [] σ' H' s' ∧ tn i s'.heap ∧ (∀ b ∈ fp, H' b = none) ∧
    SR X.K c hid (ρ ++ List.replicate m .no) σ' H' ∧ Same H H' ∧ H' D0 = some (.lst xs) ∧ Reps X.K (vw H' hid) xs ad ∧ Same W (vw H' hid) ∧ xs.length ≤ i ∧ (∀ i : Nat, Ow (ρ ++ List.replicate m Sl.no)[i]? → σ'[i]? ≠ some (some (.ref D0))) ∧ ∃ rest, compL g p f (ρ ++ List.replicate m .no) (ds.drop i) = some rest ∧ ad ++ rest = ys) ?_ ds.length
    ⟨0, [], [], σ3, H3, by simp, Nat.zero_le _, I, st, hF, sr, sm, hacc, .nil, wv, Nat.zero_le _, na, ys, by simpa using hc, rfl⟩
  rintro n s5 ⟨i, xs, ad, σ5, H5, rfl, hi, I5, st5, f5, sr5, sm5, ac5, rp5, w5, hl5, na5, rest, hc5, hy5⟩
  have wH : Same W H5 := w5.trans (vw_le _ _)
  by_cases hlt : i < ds.length
  · have hd : ds[i]? = some ds[i] := List.getElem?_eq_getElem hlt
    have e2 : ds.drop i = ds[i] :: ds.drop (i + 1) := List.drop_eq_getElem_cons hlt
    rw [e2] at hc5
    unfold compL at hc5
    obtain ⟨go, yl⟩ := io.1 i ds[i] H5 hd sm5 wH
    refine thn (T.item (compCx X N' scope C s3 H3 fp) rfl rfl rfl hcalm i [] s5 σ5 H5 (fun _ _ => False) I5 (stat no f5) st5 go) fun r s6 ⟨u, hr, h6⟩ => ?_
    subst hr
    refine thn h6 fun _ s7 ⟨x, H7, I7, r7, y7, st7, f7⟩ => ?_
    obtain ⟨s7', rp⟩ := yl x H7 y7
    have rx := rp hid sr5.tr w5
    have I7' := I7.pinned (stat no f7) (T.obj _ _ st7)
    cases e3 : g ds[i] (ρ ++ List.replicate m .no) with
    | none => rw [e3] at hc5; cases hc5
    | some ρ1 =>
      rw [e3] at hc5
      have hc5 : (p ρ1).bind (fun b => if b = true then (f ρ1).bind fun y => (compL g p f (ρ ++ List.replicate m .no) (ds.drop (i + 1))).map (y :: ·) else compL g p f (ρ ++ List.replicate m .no) (ds.drop (i + 1))) = some rest := hc5
      obtain ⟨tl1, tl2⟩ := hT _ _ _ e3
      have fg : ∀ {σ' : St} {H' : Hp}, SR X.K c hid ρ1 σ' H' → SR X.K c hid (ρ ++ List.replicate m .no) σ' H' := fun {σ' H'} z => z.forget tl1 fun j s e => by
        by_cases hj : j < X.N.length
        · exact .inr ((tl2 j hj).trans e)
        · refine .inl ?_
          rw [List.getElem?_append_right (by omega), List.getElem?_replicate] at e
          split at e
          · cases e; rfl
          · cases e
      -- what is kept of the iterator while the turn runs
      have keepT : ∀ {σ' : St} {H' : Hp} {s' : Shared}, Inv (compCx X N' scope C s3 H3 fp) ([] ++ pinsAt fp s7.heap) σ' H' s' → tn (i + 1) s'.heap ∧ ∀ b ∈ fp, H' b = none := fun {σ' H' s'} J' => by
        refine ⟨T.keep _ _ _ st7 fun b hb o e => (J'.pin (b, o) (List.mem_append_right _ (List.mem_append_right _ (mem_pinsAt hb e)))).1, fun b hb => ?_⟩
        obtain ⟨o, e, _⟩ := T.obj _ _ st7 b hb
        exact (J'.pin (b, o) (List.mem_append_right _ (List.mem_append_right _ (mem_pinsAt hb e)))).2.1
      refine thn (hg C s3 H3 fp hid _ ds[i] _ s7 σ5 H7 x u (fun σ' H' => H' = H7 ∧ SR X.K c hid ρ1 σ' H7 ∧ OwK (ρ ++ List.replicate m .no) ρ1 σ5 σ') I7' r7 ⟨sr5.ext s7', rx, ρ1, e3, fun σ' z o => ⟨rfl, z, o⟩⟩) fun _ s8 ⟨σ8, H8, I8, e8, q8, o8⟩ => ?_
      subst e8
      have na8 : ∀ i : Nat, Ow (ρ ++ List.replicate m Sl.no)[i]? → σ8[i]? ≠ some (some (.ref D0)) := fun j o => by
        have o1 : Ow ρ1[j]? := by
          by_cases hj : j < X.N.length
          · rw [tl2 j hj]; exact o
          · exfalso
            rw [List.getElem?_append_right (by omega), List.getElem?_replicate] at o
            split at o <;> exact o.elim
        rw [(o8 j o1).2]
        exact na5 j o
      cases e4 : p ρ1 with
      | none => rw [e4] at hc5; cases hc5
      | some b =>
        rw [e4] at hc5
        have hc5 : (if b = true then (f ρ1).bind fun y => (compL g p f (ρ ++ List.replicate m .no) (ds.drop (i + 1))).map (y :: ·) else compL g p f (ρ ++ List.replicate m .no) (ds.drop (i + 1))) = some rest := hc5
        refine thn (hp C s3 H3 fp hid ρ1 _ s8 σ8 H8 (fun b' H' => b' = b ∧ Same H8 H') I8 ⟨q8, b, e4, fun H' s' => ⟨rfl, s'⟩⟩) fun ok s9 ⟨H9, I9, e9, sm9⟩ => ?_
        subst e9
        have w9 : Same (vw H5 hid) (vw H9 hid) := vw_same (s7'.trans sm9)
        cases ok with
        | false =>
          have hc5 : compL g p f (ρ ++ List.replicate m .no) (ds.drop (i + 1)) = some rest := hc5
          obtain ⟨k1, k2⟩ := keepT I9
          exact ⟨ds.length - (i + 1), by omega, i + 1, xs, ad, σ8, H9, rfl, hlt, I9.unpinned, k1, k2, fg (q8.ext sm9), sm5.trans (s7'.trans sm9), sm9 _ _ (s7' _ _ ac5), rp5.mono w9, w5.trans w9, by omega, na8, rest, hc5, hy5⟩
        | true =>
          have hc5 : ((f ρ1).bind fun y => (compL g p f (ρ ++ List.replicate m .no) (ds.drop (i + 1))).map (y :: ·)) = some rest := hc5
          cases e5 : f ρ1 with
          | none => rw [e5] at hc5; cases hc5
          | some y =>
            rw [e5] at hc5
            have hc5 : (compL g p f (ρ ++ List.replicate m .no) (ds.drop (i + 1))).map (y :: ·) = some rest := hc5
            cases e6 : compL g p f (ρ ++ List.replicate m .no) (ds.drop (i + 1)) with
            | none => rw [e6] at hc5; cases hc5
            | some rest' =>
              rw [e6] at hc5
              cases hc5
              show wpAny (model X.prog X.w) X.A (eval elt _) _ _ s9
              refine thn (he C s3 H3 fp hid ρ1 _ s9 σ8 H9 (fun v H' => Same H9 H' ∧ Rep X.K (vw H' hid) v y) I9 ⟨q8.ext sm9, y, e5, fun v H' s' r => ⟨s', r⟩⟩) fun v s10 ⟨z, H10, I10, rz, sm10, rp10⟩ => ?_
              have sm' : Same H5 H10 := s7'.trans (sm9.trans sm10)
              have a10 : H10 D0 = some (.lst xs) := sm' _ _ ac5
              refine thn (mt_append (X := compCx X N' scope C s3 H3 fp) _ s10 σ8 H10 (.ref D0) [z] (.ref D0) [v] (fun _ H' => H' = upd H10 D0 (.lst (xs ++ [z]))) I10 rfl (.cons rz .nil) ⟨D0, xs, z, rfl, rfl, a10, by omega, rfl⟩) fun _ s11 ⟨_, H11, I11, _, e11⟩ => ?_
              subst e11
              obtain ⟨k1, k2⟩ := keepT I11
              have vv : vw (upd H10 D0 (.lst (xs ++ [z]))) hid = vw H10 hid := vw_upd hh
              have w10 : Same (vw H5 hid) (vw H10 hid) := vw_same sm'
              refine ⟨ds.length - (i + 1), by omega, i + 1, xs ++ [z], ad ++ [y], σ8, _, rfl, hlt, I11.unpinned, k1, k2, ?_, fun b o e => ?_, upd_same, ?_, ?_, by simp; omega, na8, rest', e6, by rw [← hy5]; simp⟩
              · -- the state with the list longer
                have q10 := fg ((q8.ext sm9).ext sm10)
                exact q10.write hh h00 na8
              · rw [upd_ne (ne_of_none e nD)]; exact sm' _ _ (sm5 _ _ e)
              · rw [vv]; exact (rp5.mono w10).append (.cons rp10 .nil)
              · rw [vv]; exact w5.trans w10
  · have e : i = ds.length := by omega
    subst e
    rw [List.drop_eq_nil_of_le (Nat.le_refl _)] at hc5
    cases hc5
    rw [List.append_nil] at hy5
    subst hy5
    refine thn (T.done (compCx X N' scope C s3 H3 fp) rfl rfl rfl hcalm ds.length [] s5 σ5 H5 (fun _ _ => False) I5 (stat no f5) st5 (io.2 H5 sm5 wH)) fun r s6 ⟨hr, I6⟩ => ?_
    subst hr
    exact hR s6 σ5 H5 xs I6 sm5 ac5 rp5
/-- the block: what stands behind the iterator -/
theorem comp_block (hcalm : X.calm = true) (hk : scope.kind = .function) (hs : okS scope X.env.scope = true) (hn : okN X.N N' scope = true) (hm : N'.length - X.N.length = m) (hT : Tail X.N.length g)
    (hg : ∀ C s₀ H₀ ex, DGt (compCx X N' scope C s₀ H₀ ex) c tg g) (hp : ∀ C s₀ H₀ ex, DIf (compCx X N' scope C s₀ H₀ ex) c ifs p) (he : ∀ C s₀ H₀ ex, DP (compCx X N' scope C s₀ H₀ ex) c .s elt f)
    {E : Value → Shared → Prop} {pins : List (Addr × Obj)} {σ : St} {H : Hp} {s : Shared} {hid : Hid} {ρ : Rho} {J : It} {it : Addr} {fp : List Addr} {tn : Nat → Heap → Prop} {ds ys : List D} {RR : Value → Addr → Result → Shared → Prop}
    (I : Inv X pins σ H s) (sr : SR X.K c hid ρ σ H) (T : Turn X.prog X.w X.K tg J fp it tn) (st : tn 0 s.heap) (hF : ∀ b ∈ fp, FpOk X pins H b) (io : ItB X.K H (vw H hid) J ds) (hz : ds.length ≤ sizeLine) (hc : compL g p f (ρ ++ List.replicate m .no) ds = some ys)
    (hR : ∀ (D C : Addr) (s' : Shared) (H' : Hp) (xs : List V), s.heap.objs.size ≤ D → s.heap.objs.size ≤ C → D ≠ C → H D = none → Same H H' → H' D = some (.lst xs) → Reps X.K (vw H' (hadd hid D)) xs ys → (∃ m, s'.heap.Ns C m) → H' C = none → s'.os = s.os → AllBare s'.gens → HOk X.prog X.w H' s'.heap → Un (frs X.stack) fp H H' s.heap s'.heap → RR (.ref D) C (.ok .next) s') :
    wpAny (model X.prog X.w) X.A (newList []) (fun acc s₃ => wpAny (model X.prog X.w) X.A (newFunctionEnv scope X.env.globals (clo X.env.cells scope.names []) [] X.env.qual none .none (some X.env)) (fun cenv s₄ =>
      codeAny (model X.prog X.w) X.A (.compStart (.ListComp elt [⟨tg, iter, ifs, 0⟩] scope pos) 0 (.ref it) acc { cenv with scope := relabel scope X.env }) (RR acc cenv.locals) s₄) E s₃) E s := by
  refine wpAny_newObj_type (nfe_own fun h₁ hns₁ kp1 oc₁ => ?_)
  dsimp only at hns₁ kp1 oc₁ ⊢
  generalize hH2 : s.heap.push { cls := .type "list", dict := none, data := .seq ([] : List Value).toArray } = H2 at hns₁ kp1 oc₁ ⊢
  have hC : H2.objs.size = s.heap.objs.size + 1 := by rw [← hH2, Heap.size_push]
  have hD : H s.heap.objs.size = none := I.hok.fresh (Nat.le_refl _)
  -- the list is tracked
  have I2 : Inv X pins σ (upd H s.heap.objs.size (.lst [])) { s with heap := H2 } := by
    rw [← hH2]
    exact I.laid (t' := s.toks) (fun b o e => Heap.get?_push_of_some _ e) (Nat.le_refl _) ⟨Nat.zero_le _, [], 0, .nil, Heap.get?_push_size _ rfl⟩
  have fpLt : ∀ b ∈ fp, b < s.heap.objs.size := fun b hb => let ⟨o, e, _⟩ := T.obj 0 s.heap st b hb; Heap.lt_size e
  have hF2 : ∀ b ∈ fp, FpOk X pins (upd H s.heap.objs.size (.lst [])) b := fun b hb => ⟨by rw [upd_ne (Nat.ne_of_lt (fpLt b hb))]; exact (hF b hb).1, (hF b hb).2⟩
  have kp0 : ∀ b o, s.heap.get? b = some o → H2.get? b = some o := fun b o e => by rw [← hH2]; exact Heap.get?_push_of_some _ e
  have IY := inv_comp (tk := s.toks) (N' := N') (fp := fp) I2 hF2 (fun b hb => let ⟨o, e, _⟩ := T.obj 0 s.heap st b hb; ⟨o, kp0 b o e⟩) hk hs hn hns₁ kp1 oc₁
  rw [hm] at IY
  dsimp only at IY
  have sr0 : SR X.K c (hadd hid s.heap.objs.size) (ρ ++ List.replicate m .no) (σ ++ List.replicate m none) (upd H s.heap.objs.size (.lst [])) := (sr.hide (same_new hD _) hD upd_same).more m
  have hρ : ρ.length = X.N.length := by rw [← sr.len]; exact I.len
  have nf : hid s.heap.objs.size = false := sr.fresh hD
  have st1 : tn 0 h₁ := T.keep _ _ _ st fun b hb o e => kp1 b o (kp0 b o e)
  have na0 : ∀ i : Nat, Ow (ρ ++ List.replicate m Sl.no)[i]? → (σ ++ List.replicate m none)[i]? ≠ some (some (V.ref s.heap.objs.size)) := (sr.more m).notOw nf
  have wv : Same (vw H hid) (vw (upd H s.heap.objs.size (.lst [])) (hadd hid s.heap.objs.size)) := by rw [vw_new hD]; exact Same.refl _
  have loop : ∀ s4 : Shared, s4 = { s with heap := h₁, toks := s.toks } →
      codeAny (model X.prog X.w) X.A (.compLoop (.ListComp elt [⟨tg, iter, ifs, 0⟩] scope pos) 0 (.ref it) (.ref s.heap.objs.size) (compEnvC scope (ownC X.env.cells scope H2.objs.size) H2.objs.size X.env)) (RR (.ref s.heap.objs.size) H2.objs.size) s4 := by
    rintro s4 rfl
    refine comp_loop (H := H) (hid := hadd hid s.heap.objs.size) (W := vw H hid) hcalm hT hg hp he hρ IY sr0 hadd_self (sr.fresh0 hD) na0 upd_same (same_new hD _) hD wv T st1 (fun b hb => (hF2 b hb).1) io hz hc ?_
    intro s' σ' H' xs I' sm' hx' rp'
    have un1 : Un (frs X.stack) fp H (upd H s.heap.objs.size (.lst [])) s.heap H2 := Un.laid (fun b o e => kp0 b o e) (Nat.le_refl _) hD
    refine hR s.heap.objs.size H2.objs.size s' H' xs (Nat.le_refl _) (by rw [hC]; exact Nat.le_succ _) (by rw [hC]; exact Nat.ne_of_lt (Nat.lt_succ_self _)) hD sm' hx' rp' (let ⟨m, hm, _⟩ := I'.loc; ⟨m, hm⟩) I'.free I'.os I'.bare I'.hok (un1.trans I'.base)
  exact codeAny_compStart_list (loop _ rfl) (T.self X.A 0 _ _ _ st1 (loop _ rfl))
/-- [elt for tg in iter if ..] -/
theorem dp_comp (hcalm : X.calm = true) (hT : Tail X.N.length g) (hi : DIb X c tg iter gi)
    (hg : ∀ C s₀ H₀ ex, DGt (compCx X N' scope C s₀ H₀ ex) c tg g) (hp : ∀ C s₀ H₀ ex, DIf (compCx X N' scope C s₀ H₀ ex) c ifs p) (he : ∀ C s₀ H₀ ex, DP (compCx X N' scope C s₀ H₀ ex) c .s elt f)
    (hk : scope.kind = .function := by rfl) (hs : okS scope X.env.scope = true := by kernel_rfl) (hn : okN X.N N' scope = true := by kernel_rfl) (hm : N'.length - X.N.length = m := by rfl) (hset : ∀ x, foldedSetIterable iter X.env x = pure x := by intro _; rfl) :
    DP X c .n (.ListComp elt [⟨tg, iter, ifs, 0⟩] scope pos) (compF m gi g p f) := by
  intro hid ρ pins s σ H Q I hq
  obtain ⟨sr, d, hd, q⟩ := hq
  obtain ⟨ds, ys, e1, hz, hc, rfl⟩ := compF_some hd
  rw [eval_ListComp]
  refine wpAny_comprehension_free (use := none) rfl hset (closureFor_clo fun x hx => I.ok.has x (okS_free hs x hx)) hk (okS_local hs) ?_
  refine thn (hi hid ρ pins s σ H (fun J H' => Same H H' ∧ ItB X.K H' (vw H' hid) J ds) I ⟨sr, ds, e1, fun J H' s1 io => ⟨s1, io⟩⟩) fun v s1 h1 => thn h1 fun itv s2 h2 => ?_
  obtain ⟨it, fp, tn, J, H2, rfl, I2, T, st2, f2, sm, io⟩ := h2
  refine comp_block (RR := fun acc C => compPost (model X.prog X.w) X.A X.xe none (EP X pins σ Q) acc C) hcalm hk hs hn hm hT hg hp he I2 (sr.ext sm) T st2 f2 io hz hc ?_
  intro D C s' H' xs hDge hCge hDC hD sm' hx rp ⟨mm, hns⟩ hC' hos hbare hok hun
  refine ⟨mm, hns, fun h' hsb => ⟨.ref D, H', ?_, rfl, q _ H' (sm.trans sm') ⟨D, xs, ys, rfl, rfl, sm.free hD, hx, rp⟩⟩⟩
  -- the outer state again
  have neC : ∀ b o, s2.heap.get? b = some o → b ≠ C := fun b o e z => by subst z; exact absurd (Heap.lt_size e) (Nat.not_lt.mpr hCge)
  have hun' : Un (frs X.stack) fp H2 H' s2.heap h' := ⟨fun b o e n h1 h2 => (hsb.2 b (neC b o e)).trans (hun.keep b o e n h1 h2), fun b o e n h1 h2 => let ⟨sl, z⟩ := hun.slot b o e n h1 h2; ⟨sl, (hsb.2 b (neC b o e)).trans z⟩, hun.free, fun b o e h2 => let ⟨o', z⟩ := hun.there b o e h2; ⟨o', (hsb.2 b (neC b o e)).trans z⟩, hun.tups, hun.frzs, hun.tbls⟩
  have hok' : HOk X.prog X.w H' h' := fun b o e => by
    have nb : ∀ b' o', H' b' = some o' → b' ≠ C := fun b' o' e' z => by subst z; rw [hC'] at e'; cases e'
    refine (hok b o e).stay (fun c' u hc' z => (hsb.2 c' ?_).trans z) (fun _ z => z) fun _ _ z => z
    rcases hc' with z' | z'
    · rw [z']; exact nb b o e
    · exact nb c' _ z'
  exact I2.call' (s' := { s' with heap := h' }) (ch := fp) hos hun' hok' hbare fun b hb => ⟨(f2 b hb).2.2.2.1, (f2 b hb).2.1, (f2 b hb).2.2.2.2.1, (f2 b hb).2.2.2.2.2⟩
end
end L2
set_option Elab.async false
set_option linter.all false
set_option maxRecDepth 100000
namespace L2
open PySem PySem.Spec PyProof.Rows
section
variable {X : Cx} {c : Ct} {elt tg iter : Expr} {ifs : List Expr} {scope : Scope} {pos spos py : Pos} {N' : List Str} {m : Nat} {gi : FA} {g : FG} {p : FT} {f : FE} {y : Str}
/-- name = [.. for ..] on one line: the store comes ahead of the names' end -/
theorem ps_comp (i : Nat) (hcalm : X.calm = true) (hN : X.N.Nodup) (hT : Tail X.N.length g) (hi : DIb X c tg iter gi)
    (hg : ∀ C s₀ H₀ ex, DGt (compCx X N' scope C s₀ H₀ ex) c tg g) (hp : ∀ C s₀ H₀ ex, DIf (compCx X N' scope C s₀ H₀ ex) c ifs p) (he : ∀ C s₀ H₀ ex, DP (compCx X N' scope C s₀ H₀ ex) c .s elt f)
    (hsw : swapsWith (.ListComp elt [⟨tg, iter, ifs, 0⟩] scope pos) (some (.Name y py)) spos.line X.env = pure true) (hyi : X.N[i]? = some y) (hy : X.env.scope.names.lookup y = some .local)
    (hk : scope.kind = .function) (hs : okS scope X.env.scope = true) (hn : okN X.N N' scope = true) (hm : N'.length - X.N.length = m) (hset : ∀ x, foldedSetIterable iter X.env x = pure x) (ρ : Rho) :
    PS X (.Assign [.Name y py] (.ListComp elt [⟨tg, iter, ifs, 0⟩] scope pos) spos) (tAsg (fun σ H Q => ∃ hid, rdP X.K c hid .n (compF m gi g p f) ρ σ H Q) (gName i)) := by
  intro pins s σ H E I hq
  obtain ⟨hid, sr, d, hd, q⟩ := hq
  obtain ⟨ds, ys, e1, hz, hc, rfl⟩ := compF_some hd
  rw [exec_Assign_Name_used _ _ _ _ hsw]
  refine wpAny_bind (wpAny_standAt (wpAny_bind ?_))
  show wpAny _ X.A (do let _ ← comprehension (.ListComp elt [⟨tg, iter, ifs, 0⟩] scope pos) scope X.env _ (newList []) false (eval iter X.env) (some (assign (.Name y py) X.env))) _ _ s
  refine wpAny_bind (wpAny_mono (wpAny_comprehension_free (use := some (assign (.Name y py) X.env)) (Q := fun _ s' => SP X pins E .next s') rfl hset (closureFor_clo fun x hx => I.ok.has x (okS_free hs x hx)) hk (okS_local hs) ?_) (fun _ s' hq => wpAny_pure (wpAny_pure hq)) fun _ _ e => e)
  refine thn (hi hid ρ pins s σ H (fun J H' => Same H H' ∧ ItB X.K H' (vw H' hid) J ds) I ⟨sr, ds, e1, fun J H' s1 io => ⟨s1, io⟩⟩) fun v s1 h1 => thn h1 fun itv s2 h2 => ?_
  obtain ⟨it, fp, tn, J, H2, rfl, I2, T, st2, f2, sm, io⟩ := h2
  refine comp_block (RR := fun acc C => compPost (model X.prog X.w) X.A X.xe (some (assign (.Name y py) X.env)) (fun _ s' => SP X pins E .next s') acc C) hcalm hk hs hn hm hT hg hp he I2 (sr.ext sm) T st2 f2 io hz hc ?_
  intro D C s' H' xs hDge hCge hDC hD sm' hx rp ⟨mm, hns⟩ hC' hos hbare hok hun
  have I3 : Inv X pins σ H' s' := I2.call' (ch := fp) hos hun hok hbare fun b hb => ⟨(f2 b hb).2.2.2.1, (f2 b hb).2.1, (f2 b hb).2.2.2.2.1, (f2 b hb).2.2.2.2.2⟩
  have fin := q _ H' (sm.trans sm') ⟨D, xs, ys, rfl, rfl, sm.free hD, hx, rp⟩
  have ltC : ∀ b o, s2.heap.get? b = some o → b ≠ C := fun b o e z => by subst z; exact absurd (Heap.lt_size e) (Nat.not_lt.mpr hCge)
  have hLC : C ≠ X.env.locals := fun z => by
    have := I2.lt
    rw [← z] at this
    exact absurd this (Nat.not_lt.mpr hCge)
  show wpAny _ X.A (assign (.Name y py) X.env (.ref D)) _ _ s'
  refine wpAny_assign_Name (store_ok2 (v := .ref D) I3 hN hyi (.inl hy) rfl (fun s'' I4 hb => ?_) (.inr hy))
  obtain ⟨a, hsb, ha⟩ := hb
  have hCa : C ≠ a := by
    rcases ha with rfl | ha
    · exact hLC
    · obtain ⟨w', o, ho, _⟩ := I2.cell y a ha
      exact fun z => ltC a o ho z.symm
  refine ⟨mm, hns.sameBut hsb hCa, fun h3 hs3 => ⟨_, H', ?_, fin⟩⟩
  refine I4.turned (t' := s''.toks) (it := C) (fun b o nb e => (hs3.2 b nb).trans e) hC' hLC (.inr (Nat.le_trans I2.sz hCge)) (fun x c' e z => ?_) (fun q hq z => ?_)
  · obtain ⟨w', o, ho, _⟩ := I2.cell x c' e
    exact ltC c' o ho z
  · exact ltC q.1 q.2 (I2.pin q hq).1 z
theorem ds_ownC (i : Nat) {k : Kd} (hcalm : X.calm = true) (hN : X.N.Nodup) (hT : Tail X.N.length g) (hi : DIb X c tg iter gi)
    (hg : ∀ C s₀ H₀ ex, DGt (compCx X N' scope C s₀ H₀ ex) c tg g) (hp : ∀ C s₀ H₀ ex, DIf (compCx X N' scope C s₀ H₀ ex) c ifs p) (he : ∀ C s₀ H₀ ex, DP (compCx X N' scope C s₀ H₀ ex) c .s elt f)
    (hsw : swapsWith (.ListComp elt [⟨tg, iter, ifs, 0⟩] scope pos) (some (.Name y py)) spos.line X.env = pure true := by rfl) (hyi : X.N[i]? = some y := by rfl) (hy : X.env.scope.names.lookup y = some .local := by rfl)
    (hk : scope.kind = .function := by rfl) (hs : okS scope X.env.scope = true := by kernel_rfl) (hn : okN X.N N' scope = true := by kernel_rfl) (hm : N'.length - X.N.length = m := by rfl) (hset : ∀ x, foldedSetIterable iter X.env x = pure x := by intro _; rfl) :
    DS X c k (.Assign [.Name y py] (.ListComp elt [⟨tg, iter, ifs, 0⟩] scope pos) spos) (ownF i (compF m gi g p f)) := fun ρ => PS.imp (ps_comp i hcalm hN hT hi hg hp he hsw hyi hy hk hs hn hm hset ρ) fun D σ H ⟨hid, sr, q⟩ => by
  unfold ownF at q
  cases e1 : compF m gi g p f ρ with
  | none => rw [e1] at q; exact q.elim
  | some z =>
    rw [e1] at q
    exact ⟨hid, sr, z, e1, fun v H' s r => own_ (sr.post s r (by decide)) q⟩
end
end L2
set_option Elab.async false
set_option linter.all false
set_option maxRecDepth 100000
namespace L2
open PySem PySem.Spec PyProof.Rows

/-! ### == by data -/
mutual
def eqD : D → D → Bool
  | .non, .non => true
  | .bl a, .bl b => a == b
  | .bl a, .int b => (if a then 1 else 0) == b
  | .int a, .bl b => a == (if b then 1 else 0)
  | .int a, .int b => a == b
  | .str a, .str b => a == b
  | .tup a, .tup b => eqDs a b
  | .lst a, .lst b => eqDs a b
  | .lst a, .scr b => eqDs a b
  | .scr a, .lst b => eqDs a b
  | .scr a, .scr b => eqDs a b
  | _, _ => false
def eqDs : List D → List D → Bool
  | [], [] => true
  | x :: xs, y :: ys => eqD x y && eqDs xs ys
  | _, _ => false
end
mutual
def dep : D → Nat
  | .tup a => deps a + 1
  | .lst a => deps a + 1
  | .scr _ => cLine
  | _ => 0
def deps : List D → Nat
  | [] => 0
  | x :: xs => max (dep x) (deps xs)
end
theorem deps_get : ∀ {xs : List D} {i : Nat} {d : D}, xs[i]? = some d → dep d ≤ deps xs
  | [], _, _, h => by simp at h
  | x :: xs, 0, d, h => by simp at h; subst h; unfold deps; exact Nat.le_max_left _ _
  | x :: xs, i + 1, d, h => by
    have := deps_get (xs := xs) (i := i) (d := d) (by simpa using h)
    unfold deps
    exact Nat.le_trans this (Nat.le_max_right _ _)
mutual
theorem eqD_refl : ∀ x : D, eqD x x = true
  | .non => by unfold eqD; rfl
  | .bl a => by unfold eqD; simp
  | .int a => by unfold eqD; simp
  | .str a => by unfold eqD; simp
  | .tup a => by unfold eqD; exact eqDs_refl a
  | .lst a => by unfold eqD; exact eqDs_refl a
  | .scr a => by unfold eqD; exact eqDs_refl a
theorem eqDs_refl : ∀ x : List D, eqDs x x = true
  | [] => by unfold eqDs; rfl
  | x :: xs => by unfold eqDs; rw [eqD_refl x, eqDs_refl xs]; rfl
end
def eqAtI (xs ys : List D) (j : Nat) : Bool := match xs[j]?, ys[j]? with
  | some x, some y => eqD x y
  | _, _ => false
theorem range_all {xs ys : List D} (h : xs.length = ys.length) : (List.range xs.length).all (eqAtI xs ys) = eqDs xs ys := by
  induction xs generalizing ys with
  | nil =>
    cases ys with
    | nil => unfold eqDs; rfl
    | cons y ys => simp at h
  | cons x xs ih =>
    cases ys with
    | nil => simp at h
    | cons y ys =>
      rw [List.length_cons, List.range_succ_eq_map, List.all_cons, List.all_map]
      have e0 : eqAtI (x :: xs) (y :: ys) 0 = eqD x y := rfl
      have e1 : ((eqAtI (x :: xs) (y :: ys)) ∘ Nat.succ) = eqAtI xs ys := by funext j; simp [eqAtI]
      rw [e0, e1, ih (by simpa using h)]
      conv => rhs; unfold eqDs
theorem eqDs_len : ∀ {xs ys : List D}, xs.length ≠ ys.length → eqDs xs ys = false
  | [], [], h => absurd rfl h
  | [], _ :: _, _ => by unfold eqDs; rfl
  | _ :: _, [], _ => by unfold eqDs; rfl
  | x :: xs, y :: ys, h => by unfold eqDs; rw [eqDs_len (xs := xs) (ys := ys) (by simpa using h)]; simp
section
variable {X : Cx} {pins : List (Addr × Obj)} {σ : St} {H : Hp} {s : Shared}
theorem list_tuple_no (I : Inv X pins σ H s) {a : Addr} {xs ys : List V} (h : SqL X.K H a xs) (h' : SqT X.K H a ys) : False := by
  obtain ⟨its, _, pl, _⟩ := I.list h
  obtain ⟨its', _, pt, _⟩ := I.tuple h'
  exact SeqAt.ne_of_list_tuple pl.isList pt rfl
theorem eqz {a b : List D} (h : ∀ zs, eqDs a zs = eqDs b zs) : (∀ z, eqD (.tup a) z = eqD (.tup b) z) ∧ (∀ z, eqD (.lst a) z = eqD (.lst b) z) ∧ ∀ z, eqD (.scr a) z = eqD (.lst b) z := by
  refine ⟨fun z => ?_, fun z => ?_, fun z => ?_⟩ <;> cases z <;> unfold eqD <;> first | exact h _ | rfl
theorem eqz2 {b : List D} : ∀ z, eqD (.scr b) z = eqD (.lst b) z := (eqz fun _ => rfl).2.2
mutual
theorem Rep.eqv (I : Inv X pins σ H s) : ∀ {v : V} {x y : D}, Rep X.K H v x → Rep X.K H v y → ∀ z, eqD x z = eqD y z
  | _, _, _, .non, .non => fun _ => rfl
  | _, _, _, .bl, .bl => fun _ => rfl
  | _, _, _, .int, .int => fun _ => rfl
  | _, _, _, .str, .str => fun _ => rfl
  | _, _, _, .tup h r, .tup h' r' => by rw [I.tuple_inj h h'] at r; exact (eqz (Reps.eqv I r r')).1
  | _, _, _, .lst h r, .lst h' r' => by rw [I.list_inj (SqL.of h) (SqL.of h')] at r; exact (eqz (Reps.eqv I r r')).2.1
  | _, _, _, .lst h r, .scr h' r' => by rw [I.list_inj (SqL.of h) h'.seq] at r; exact fun z => ((eqz (Reps.eqv I r r')).2.1 z).trans (eqz2 z).symm
  | _, _, _, .scr h r, .lst h' r' => by rw [I.list_inj h.seq (SqL.of h')] at r; exact (eqz (Reps.eqv I r r')).2.2
  | _, _, _, .scr h r, .scr h' r' => by rw [I.list_inj h.seq h'.seq] at r; exact fun z => ((eqz (Reps.eqv I r r')).2.2 z).trans (eqz2 z).symm
  | _, _, _, .tup h r, .lst h' r' => (list_tuple_no I (SqL.of h') h).elim
  | _, _, _, .lst h r, .tup h' r' => (list_tuple_no I (SqL.of h) h').elim
  | _, _, _, .tup h r, .scr h' r' => (list_tuple_no I h'.seq h).elim
  | _, _, _, .scr h r, .tup h' r' => (list_tuple_no I h.seq h').elim
theorem Reps.eqv (I : Inv X pins σ H s) : ∀ {v : List V} {x y : List D}, Reps X.K H v x → Reps X.K H v y → ∀ z, eqDs x z = eqDs y z
  | _, _, _, .nil, .nil => fun _ => rfl
  | _, _, _, .cons r t, .cons r' t' => fun z => by
    cases z with
    | nil => unfold eqDs; rfl
    | cons w ws => unfold eqDs; rw [Rep.eqv I r r' w, Reps.eqv I t t' ws]
end
theorem repList (I : Inv X pins σ H s) {a : Addr} {xs : List V} {ds : List D} (h : SqL X.K H a xs) (r : Reps X.K H xs ds) : ∃ its : List Value, s.heap.IsList a its.toArray ∧ its.length = ds.length ∧ ∀ (j : Nat) (hj : j < its.length), ∃ (v : V) (d : D), ds[j]? = some d ∧ RelV v its[j] ∧ Rep X.K H v d := by
  obtain ⟨its, rv, pl, _⟩ := I.list h
  have h1 := rv.length
  have h2 := r.length
  refine ⟨its, pl.isList, by omega, fun j hj => ?_⟩
  have e : xs[j]? = some xs[j] := List.getElem?_eq_getElem (by omega)
  obtain ⟨u, e1, r1⟩ := rv.get e
  obtain ⟨d, e2, r2⟩ := r.get' e
  have : its[j] = u := by rw [List.getElem?_eq_getElem hj] at e1; exact Option.some.inj e1
  rw [this]
  exact ⟨xs[j], d, e2, r1, r2⟩
theorem repTup (I : Inv X pins σ H s) {a : Addr} {xs : List V} {ds : List D} (h : SqT X.K H a xs) (r : Reps X.K H xs ds) : ∃ its : List Value, s.heap.IsTuple a its.toArray ∧ its.length = ds.length ∧ ∀ (j : Nat) (hj : j < its.length), ∃ (v : V) (d : D), ds[j]? = some d ∧ RelV v its[j] ∧ Rep X.K H v d := by
  obtain ⟨its, rv, pl, _⟩ := I.tuple h
  have h1 := rv.length
  have h2 := r.length
  refine ⟨its, pl, by omega, fun j hj => ?_⟩
  have e : xs[j]? = some xs[j] := List.getElem?_eq_getElem (by omega)
  obtain ⟨u, e1, r1⟩ := rv.get e
  obtain ⟨d, e2, r2⟩ := r.get' e
  have : its[j] = u := by rw [List.getElem?_eq_getElem hj] at e1; exact Option.some.inj e1
  rw [this]
  exact ⟨xs[j], d, e2, r1, r2⟩
end
section
variable {X : Cx} {pins : List (Addr × Obj)} {σ : St} {H : Hp} {s : Shared}
theorem in1_units (A : Around) : A.in1.units = A.units + 1 := rfl
/-- the items' answers -/
theorem els_D {A : Around} {n : Nat} (IH : ∀ {x y : D} {v u : V} {a b : Value} {A : Around}, dep x < n → A.units + dep x < cLine → RelV v a → RelV u b → Rep X.K H v x → Rep X.K H u y → SeqAt.EqAt A s a b (eqD x y)) {xs ys : List D} {its its2 : List Value} (hd : deps xs < n) (hu : A.units + deps xs < cLine)
    (g1 : ∀ (j : Nat) (hj : j < its.length), ∃ (v : V) (d : D), xs[j]? = some d ∧ RelV v its[j] ∧ Rep X.K H v d) (g2 : ∀ (j : Nat) (hj : j < its2.length), ∃ (v : V) (d : D), ys[j]? = some d ∧ RelV v its2[j] ∧ Rep X.K H v d) :
    ∀ j (h1 : j < its.toArray.size) (h2 : j < its2.toArray.size), SeqAt.EqAt A s its.toArray[j] its2.toArray[j] (eqAtI xs ys j) := fun j h1 h2 => by
  obtain ⟨v, d, e1, r1, p1⟩ := g1 j (by simpa using h1)
  obtain ⟨u, d', e2, r2, p2⟩ := g2 j (by simpa using h2)
  have ez : eqAtI xs ys j = eqD d d' := by unfold eqAtI; rw [e1, e2]
  rw [ez]
  have hdd := deps_get e1
  exact IH (by omega) (by omega) (by simpa using r1) (by simpa using r2) p1 p2
theorem lists_D (I : Inv X pins σ H s) {A : Around} {n : Nat} (IH : ∀ {x y : D} {v u : V} {a b : Value} {A : Around}, dep x < n → A.units + dep x < cLine → RelV v a → RelV u b → Rep X.K H v x → Rep X.K H u y → SeqAt.EqAt A s a b (eqD x y)) {xs ys : List D} {zs ws : List V} {a b : Addr} (hd : deps xs < n) (hu : A.units + (deps xs + 1) < cLine)
    (h1 : SqL X.K H a zs) (r1 : Reps X.K H zs xs) (h2 : SqL X.K H b ws) (r2 : Reps X.K H ws ys) : SeqAt.RcAt A s (.ref a) (.ref b) (eqDs xs ys) ∧ SeqAt.RcNeAt A s (.ref a) (.ref b) (!eqDs xs ys) := by
  obtain ⟨its, l1, n1, g1⟩ := repList I h1 r1
  obtain ⟨its2, l2, n2, g2⟩ := repList I h2 r2
  by_cases e : xs.length = ys.length
  · have hsz : its.toArray.size = its2.toArray.size := by simp; omega
    have he := els_D (A := A.in1) IH hd (by rw [in1_units]; omega) g1 g2
    have ea : (List.range its.toArray.size).all (eqAtI xs ys) = eqDs xs ys := by rw [List.size_toArray, n1]; exact range_all e
    rw [← ea]
    exact ⟨SeqAt.RcAt.lists l1 l2 hsz (by omega) he, SeqAt.RcNeAt.lists l1 l2 hsz (by omega) he⟩
  · rw [eqDs_len e]
    have hsz : (its.toArray.size != its2.toArray.size) = true := by simp; omega
    exact ⟨SeqAt.RcAt.lists_lengths l1 l2 hsz (by omega), SeqAt.RcNeAt.lists_lengths l1 l2 hsz (by omega)⟩
theorem tups_D (I : Inv X pins σ H s) {A : Around} {n : Nat} (IH : ∀ {x y : D} {v u : V} {a b : Value} {A : Around}, dep x < n → A.units + dep x < cLine → RelV v a → RelV u b → Rep X.K H v x → Rep X.K H u y → SeqAt.EqAt A s a b (eqD x y)) {xs ys : List D} {zs ws : List V} {a b : Addr} (hd : deps xs < n) (hu : A.units + (deps xs + 1) < cLine)
    (h1 : SqT X.K H a zs) (r1 : Reps X.K H zs xs) (h2 : SqT X.K H b ws) (r2 : Reps X.K H ws ys) : SeqAt.RcAt A s (.ref a) (.ref b) (eqDs xs ys) ∧ SeqAt.RcNeAt A s (.ref a) (.ref b) (!eqDs xs ys) := by
  obtain ⟨its, l1, n1, g1⟩ := repTup I h1 r1
  obtain ⟨its2, l2, n2, g2⟩ := repTup I h2 r2
  have he := els_D (A := A.in1) IH hd (by rw [in1_units]; omega) g1 g2
  have ea : ((List.range (min its.toArray.size its2.toArray.size)).all (eqAtI xs ys) && its.toArray.size == its2.toArray.size) = eqDs xs ys := by
    rw [List.size_toArray, List.size_toArray, n1, n2]
    by_cases e : xs.length = ys.length
    · rw [← e, Nat.min_self, range_all e]; simp
    · rw [eqDs_len e]; simp [e]
  rw [← ea]
  exact ⟨SeqAt.RcAt.tuples l1 l2 (by omega) he, SeqAt.RcNeAt.tuples l1 l2 (by omega) he⟩
theorem eqAt_same (I : Inv X pins σ H s) {A : Around} {a b : Addr} {x y : D} (r1 : Rep X.K H (.ref a) x) (r2 : Rep X.K H (.ref b) y) (e : a = b) : SeqAt.EqAt A s (.ref a) (.ref b) (eqD x y) := by
  subst e
  rw [Rep.eqv I r1 r2, eqD_refl]
  exact SeqAt.EqAt.same _
theorem eqAt_n (I : Inv X pins σ H s) {n : Nat} (IH : ∀ {x y : D} {v u : V} {a b : Value} {A : Around}, dep x < n → A.units + dep x < cLine → RelV v a → RelV u b → Rep X.K H v x → Rep X.K H u y → SeqAt.EqAt A s a b (eqD x y)) {x y : D} {v u : V} {a b : Value} {A : Around} (hd : dep x < n + 1) (hu : A.units + dep x < cLine) (hc : A.units < cLine)
    (ra : RelV v a) (rb : RelV u b) (px : Rep X.K H v x) (py : Rep X.K H u y) : SeqAt.EqAt A s a b (eqD x y) := by
  unfold eqD
  cases px with
  | non =>
    cases ra
    cases py with
    | non =>
      cases rb
      exact SeqAt.EqAt.same _
    | bl =>
      cases rb
      exact SeqAt.EqAt.none_bool _
    | int =>
      obtain ⟨t2, rfl⟩ := rb
      exact SeqAt.EqAt.none_int _ _
    | str =>
      obtain ⟨t2, rfl⟩ := rb
      exact SeqAt.EqAt.none_str _ _
    | @tup a2 _ _ h2 r2 =>
      cases rb
      obtain ⟨its2, l2, _⟩ := repTup I h2 r2
      exact SeqAt.EqAt.none_tuple l2 (by omega)
    | @lst a2 _ _ h2 r2 =>
      cases rb
      obtain ⟨its2, l2, _⟩ := repList I (SqL.of h2) r2
      exact SeqAt.EqAt.none_list l2 (by omega)
    | @scr a2 _ _ h2 r2 =>
      cases rb
      obtain ⟨its2, l2, _⟩ := repList I h2.seq r2
      exact SeqAt.EqAt.none_list l2 (by omega)
  | bl =>
    cases ra
    cases py with
    | non =>
      cases rb
      exact SeqAt.EqAt.bool_none _
    | bl =>
      cases rb
      exact SeqAt.EqAt.bool_bool _ _
    | int =>
      obtain ⟨t2, rfl⟩ := rb
      exact SeqAt.EqAt.bool_int _ _ _
    | str =>
      obtain ⟨t2, rfl⟩ := rb
      exact SeqAt.EqAt.bool_str _ _ _
    | @tup a2 _ _ h2 r2 =>
      cases rb
      obtain ⟨its2, l2, _⟩ := repTup I h2 r2
      exact SeqAt.EqAt.bool_tuple _ l2 (by omega)
    | @lst a2 _ _ h2 r2 =>
      cases rb
      obtain ⟨its2, l2, _⟩ := repList I (SqL.of h2) r2
      exact SeqAt.EqAt.bool_list _ l2 (by omega)
    | @scr a2 _ _ h2 r2 =>
      cases rb
      obtain ⟨its2, l2, _⟩ := repList I h2.seq r2
      exact SeqAt.EqAt.bool_list _ l2 (by omega)
  | int =>
    obtain ⟨t1, rfl⟩ := ra
    cases py with
    | non =>
      cases rb
      exact SeqAt.EqAt.int_none _ _
    | bl =>
      cases rb
      exact SeqAt.EqAt.int_bool _ _ _
    | int =>
      obtain ⟨t2, rfl⟩ := rb
      exact SeqAt.EqAt.int_int _ _ _ _
    | str =>
      obtain ⟨t2, rfl⟩ := rb
      exact SeqAt.EqAt.int_str _ _ _ _
    | @tup a2 _ _ h2 r2 =>
      cases rb
      obtain ⟨its2, l2, _⟩ := repTup I h2 r2
      exact SeqAt.EqAt.int_tuple _ _ l2 (by omega)
    | @lst a2 _ _ h2 r2 =>
      cases rb
      obtain ⟨its2, l2, _⟩ := repList I (SqL.of h2) r2
      exact SeqAt.EqAt.int_list _ _ l2 (by omega)
    | @scr a2 _ _ h2 r2 =>
      cases rb
      obtain ⟨its2, l2, _⟩ := repList I h2.seq r2
      exact SeqAt.EqAt.int_list _ _ l2 (by omega)
  | str =>
    obtain ⟨t1, rfl⟩ := ra
    cases py with
    | non =>
      cases rb
      exact SeqAt.EqAt.str_none _ _
    | bl =>
      cases rb
      exact SeqAt.EqAt.str_bool _ _ _
    | int =>
      obtain ⟨t2, rfl⟩ := rb
      exact SeqAt.EqAt.str_int _ _ _ _
    | str =>
      obtain ⟨t2, rfl⟩ := rb
      exact SeqAt.EqAt.str_str _ _ _ _
    | @tup a2 _ _ h2 r2 =>
      cases rb
      obtain ⟨its2, l2, _⟩ := repTup I h2 r2
      exact SeqAt.EqAt.str_tuple _ _ l2 (by omega)
    | @lst a2 _ _ h2 r2 =>
      cases rb
      obtain ⟨its2, l2, _⟩ := repList I (SqL.of h2) r2
      exact SeqAt.EqAt.str_list _ _ l2 (by omega)
    | @scr a2 _ _ h2 r2 =>
      cases rb
      obtain ⟨its2, l2, _⟩ := repList I h2.seq r2
      exact SeqAt.EqAt.str_list _ _ l2 (by omega)
  | @tup a1 _ _ h1 r1 =>
    cases ra
    obtain ⟨its, l1, _⟩ := repTup I h1 r1
    cases py with
    | non =>
      cases rb
      exact SeqAt.EqAt.tuple_none l1 (by omega)
    | bl =>
      cases rb
      exact SeqAt.EqAt.tuple_bool _ l1 (by omega)
    | int =>
      obtain ⟨t2, rfl⟩ := rb
      exact SeqAt.EqAt.tuple_int _ _ l1 (by omega)
    | str =>
      obtain ⟨t2, rfl⟩ := rb
      exact SeqAt.EqAt.tuple_str _ _ l1 (by omega)
    | @tup a2 _ _ h2 r2 =>
      cases rb
      obtain ⟨its2, l2, _⟩ := repTup I h2 r2
      by_cases e : a1 = a2
      · exact (eqAt_same I (.tup h1 r1) (.tup h2 r2) e)
      · exact SeqAt.EqAt.of_refs e (tups_D I IH (by unfold dep at hd; omega) (by unfold dep at hu; omega) h1 r1 h2 r2).1
    | @lst a2 _ _ h2 r2 =>
      cases rb
      obtain ⟨its2, l2, _⟩ := repList I (SqL.of h2) r2
      exact SeqAt.EqAt.tuple_list l1 l2 (by omega)
    | @scr a2 _ _ h2 r2 =>
      cases rb
      obtain ⟨its2, l2, _⟩ := repList I h2.seq r2
      exact SeqAt.EqAt.tuple_list l1 l2 (by omega)
  | @scr a1 _ _ h1 r1 => exact absurd hu (by unfold dep; omega)
  | @lst a1 _ _ h1 r1 =>
    cases ra
    obtain ⟨its, l1, _⟩ := repList I (SqL.of h1) r1
    cases py with
    | non =>
      cases rb
      exact SeqAt.EqAt.list_none l1 (by omega)
    | bl =>
      cases rb
      exact SeqAt.EqAt.list_bool _ l1 (by omega)
    | int =>
      obtain ⟨t2, rfl⟩ := rb
      exact SeqAt.EqAt.list_int _ _ l1 (by omega)
    | str =>
      obtain ⟨t2, rfl⟩ := rb
      exact SeqAt.EqAt.list_str _ _ l1 (by omega)
    | @tup a2 _ _ h2 r2 =>
      cases rb
      obtain ⟨its2, l2, _⟩ := repTup I h2 r2
      exact SeqAt.EqAt.list_tuple l1 l2 (by omega)
    | @lst a2 _ _ h2 r2 =>
      cases rb
      obtain ⟨its2, l2, _⟩ := repList I (SqL.of h2) r2
      by_cases e : a1 = a2
      · exact (eqAt_same I (.lst h1 r1) (.lst h2 r2) e)
      · exact SeqAt.EqAt.of_refs e (lists_D I IH (by unfold dep at hd; omega) (by unfold dep at hu; omega) (SqL.of h1) r1 (SqL.of h2) r2).1
    | @scr a2 _ _ h2 r2 =>
      cases rb
      obtain ⟨its2, l2, _⟩ := repList I h2.seq r2
      by_cases e : a1 = a2
      · exact (eqAt_same I (.lst h1 r1) (.scr h2 r2) e)
      · exact SeqAt.EqAt.of_refs e (lists_D I IH (by unfold dep at hd; omega) (by unfold dep at hu; omega) (SqL.of h1) r1 h2.seq r2).1
theorem eqAt_D (I : Inv X pins σ H s) : ∀ (n : Nat) {x y : D} {v u : V} {a b : Value} {A : Around}, dep x < n → A.units + dep x < cLine → RelV v a → RelV u b → Rep X.K H v x → Rep X.K H u y → SeqAt.EqAt A s a b (eqD x y)
  | 0, x, y, v, u, a, b, A, hd, hu, ra, rb, px, py => absurd hd (Nat.not_lt_zero _)
  | n + 1, x, y, v, u, a, b, A, hd, hu, ra, rb, px, py => eqAt_n I (fun h1 h2 h3 h4 h5 h6 => eqAt_D I n h1 h2 h3 h4 h5 h6) hd hu (by omega) ra rb px py
theorem rcAt_D (I : Inv X pins σ H s) {x y : D} {v u : V} {a b : Value} {A : Around} (hu : A.units + dep x < cLine) (hc : A.units < cLine) (ra : RelV v a) (rb : RelV u b) (px : Rep X.K H v x) (py : Rep X.K H u y) : SeqAt.RcAt A s a b (eqD x y) := by
  have IH := fun {x y : D} {v u : V} {a b : Value} {A : Around} (n : Nat) => @eqAt_D X pins σ H s I n x y v u a b A
  have IH : ∀ {n : Nat} {x y : D} {v u : V} {a b : Value} {A : Around}, dep x < n → A.units + dep x < cLine → RelV v a → RelV u b → Rep X.K H v x → Rep X.K H u y → SeqAt.EqAt A s a b (eqD x y) := fun {n x y v u a b A} => eqAt_D I n
  unfold eqD
  cases px with
  | non =>
    cases ra
    cases py with
    | non =>
      cases rb
      exact SeqAt.RcAt.none_none
    | bl =>
      cases rb
      exact SeqAt.RcAt.none_bool _
    | int =>
      obtain ⟨t2, rfl⟩ := rb
      exact SeqAt.RcAt.none_int _ _
    | str =>
      obtain ⟨t2, rfl⟩ := rb
      exact SeqAt.RcAt.none_str _ _
    | @tup a2 _ _ h2 r2 =>
      cases rb
      obtain ⟨its2, l2, _⟩ := repTup I h2 r2
      exact SeqAt.RcAt.none_tuple  l2 (by omega)
    | @lst a2 _ _ h2 r2 =>
      cases rb
      obtain ⟨its2, l2, _⟩ := repList I (SqL.of h2) r2
      exact SeqAt.RcAt.none_list  l2 (by omega)
    | @scr a2 _ _ h2 r2 =>
      cases rb
      obtain ⟨its2, l2, _⟩ := repList I h2.seq r2
      exact SeqAt.RcAt.none_list  l2 (by omega)
  | bl =>
    cases ra
    cases py with
    | non =>
      cases rb
      exact SeqAt.RcAt.bool_none _
    | bl =>
      cases rb
      exact SeqAt.RcAt.bool_bool _ _
    | int =>
      obtain ⟨t2, rfl⟩ := rb
      exact SeqAt.RcAt.bool_int _ _ _
    | str =>
      obtain ⟨t2, rfl⟩ := rb
      exact SeqAt.RcAt.bool_str _ _ _
    | @tup a2 _ _ h2 r2 =>
      cases rb
      obtain ⟨its2, l2, _⟩ := repTup I h2 r2
      exact SeqAt.RcAt.bool_tuple _ l2 (by omega)
    | @lst a2 _ _ h2 r2 =>
      cases rb
      obtain ⟨its2, l2, _⟩ := repList I (SqL.of h2) r2
      exact SeqAt.RcAt.bool_list _ l2 (by omega)
    | @scr a2 _ _ h2 r2 =>
      cases rb
      obtain ⟨its2, l2, _⟩ := repList I h2.seq r2
      exact SeqAt.RcAt.bool_list _ l2 (by omega)
  | int =>
    obtain ⟨t1, rfl⟩ := ra
    cases py with
    | non =>
      cases rb
      exact SeqAt.RcAt.int_none _ _
    | bl =>
      cases rb
      exact SeqAt.RcAt.int_bool _ _ _
    | int =>
      obtain ⟨t2, rfl⟩ := rb
      exact SeqAt.RcAt.int_int _ _ _ _
    | str =>
      obtain ⟨t2, rfl⟩ := rb
      exact SeqAt.RcAt.int_str _ _ _ _
    | @tup a2 _ _ h2 r2 =>
      cases rb
      obtain ⟨its2, l2, _⟩ := repTup I h2 r2
      exact SeqAt.RcAt.int_tuple _ _ l2 (by omega)
    | @lst a2 _ _ h2 r2 =>
      cases rb
      obtain ⟨its2, l2, _⟩ := repList I (SqL.of h2) r2
      exact SeqAt.RcAt.int_list _ _ l2 (by omega)
    | @scr a2 _ _ h2 r2 =>
      cases rb
      obtain ⟨its2, l2, _⟩ := repList I h2.seq r2
      exact SeqAt.RcAt.int_list _ _ l2 (by omega)
  | str =>
    obtain ⟨t1, rfl⟩ := ra
    cases py with
    | non =>
      cases rb
      exact SeqAt.RcAt.str_none _ _
    | bl =>
      cases rb
      exact SeqAt.RcAt.str_bool _ _ _
    | int =>
      obtain ⟨t2, rfl⟩ := rb
      exact SeqAt.RcAt.str_int _ _ _ _
    | str =>
      obtain ⟨t2, rfl⟩ := rb
      exact SeqAt.RcAt.str_str _ _ _ _
    | @tup a2 _ _ h2 r2 =>
      cases rb
      obtain ⟨its2, l2, _⟩ := repTup I h2 r2
      exact SeqAt.RcAt.str_tuple _ _ l2 (by omega)
    | @lst a2 _ _ h2 r2 =>
      cases rb
      obtain ⟨its2, l2, _⟩ := repList I (SqL.of h2) r2
      exact SeqAt.RcAt.str_list _ _ l2 (by omega)
    | @scr a2 _ _ h2 r2 =>
      cases rb
      obtain ⟨its2, l2, _⟩ := repList I h2.seq r2
      exact SeqAt.RcAt.str_list _ _ l2 (by omega)
  | @tup a1 _ _ h1 r1 =>
    cases ra
    obtain ⟨its, l1, _⟩ := repTup I h1 r1
    cases py with
    | non =>
      cases rb
      exact SeqAt.RcAt.tuple_none  l1 (by omega)
    | bl =>
      cases rb
      exact SeqAt.RcAt.tuple_bool _ l1 (by omega)
    | int =>
      obtain ⟨t2, rfl⟩ := rb
      exact SeqAt.RcAt.tuple_int _ _ l1 (by omega)
    | str =>
      obtain ⟨t2, rfl⟩ := rb
      exact SeqAt.RcAt.tuple_str _ _ l1 (by omega)
    | @tup a2 _ _ h2 r2 =>
      cases rb
      obtain ⟨its2, l2, _⟩ := repTup I h2 r2
      exact (tups_D I IH (Nat.lt_succ_self _) (by unfold dep at hu; omega) h1 r1 h2 r2).1
    | @lst a2 _ _ h2 r2 =>
      cases rb
      obtain ⟨its2, l2, _⟩ := repList I (SqL.of h2) r2
      exact SeqAt.RcAt.tuple_list l1 l2 (by omega)
    | @scr a2 _ _ h2 r2 =>
      cases rb
      obtain ⟨its2, l2, _⟩ := repList I h2.seq r2
      exact SeqAt.RcAt.tuple_list l1 l2 (by omega)
  | @scr a1 _ _ h1 r1 => exact absurd hu (by unfold dep; omega)
  | @lst a1 _ _ h1 r1 =>
    cases ra
    obtain ⟨its, l1, _⟩ := repList I (SqL.of h1) r1
    cases py with
    | non =>
      cases rb
      exact SeqAt.RcAt.list_none  l1 (by omega)
    | bl =>
      cases rb
      exact SeqAt.RcAt.list_bool _ l1 (by omega)
    | int =>
      obtain ⟨t2, rfl⟩ := rb
      exact SeqAt.RcAt.list_int _ _ l1 (by omega)
    | str =>
      obtain ⟨t2, rfl⟩ := rb
      exact SeqAt.RcAt.list_str _ _ l1 (by omega)
    | @tup a2 _ _ h2 r2 =>
      cases rb
      obtain ⟨its2, l2, _⟩ := repTup I h2 r2
      exact SeqAt.RcAt.list_tuple l1 l2 (by omega)
    | @lst a2 _ _ h2 r2 =>
      cases rb
      obtain ⟨its2, l2, _⟩ := repList I (SqL.of h2) r2
      exact (lists_D I IH (Nat.lt_succ_self _) (by unfold dep at hu; omega) (SqL.of h1) r1 (SqL.of h2) r2).1
    | @scr a2 _ _ h2 r2 =>
      cases rb
      obtain ⟨its2, l2, _⟩ := repList I h2.seq r2
      exact (lists_D I IH (Nat.lt_succ_self _) (by unfold dep at hu; omega) (SqL.of h1) r1 h2.seq r2).1
theorem rcNeAt_D (I : Inv X pins σ H s) {x y : D} {v u : V} {a b : Value} {A : Around} (hu : A.units + dep x < cLine) (hc : A.units < cLine) (ra : RelV v a) (rb : RelV u b) (px : Rep X.K H v x) (py : Rep X.K H u y) : SeqAt.RcNeAt A s a b (!eqD x y) := by
  have IH : ∀ {n : Nat} {x y : D} {v u : V} {a b : Value} {A : Around}, dep x < n → A.units + dep x < cLine → RelV v a → RelV u b → Rep X.K H v x → Rep X.K H u y → SeqAt.EqAt A s a b (eqD x y) := fun {n x y v u a b A} => eqAt_D I n
  unfold eqD
  cases px with
  | non =>
    cases ra
    cases py with
    | non =>
      cases rb
      exact SeqAt.RcNeAt.none_none
    | bl =>
      cases rb
      exact SeqAt.RcNeAt.none_bool _
    | int =>
      obtain ⟨t2, rfl⟩ := rb
      exact SeqAt.RcNeAt.none_int _ _
    | str =>
      obtain ⟨t2, rfl⟩ := rb
      exact SeqAt.RcNeAt.none_str _ _
    | @tup a2 _ _ h2 r2 =>
      cases rb
      obtain ⟨its2, l2, _⟩ := repTup I h2 r2
      exact SeqAt.RcNeAt.none_tuple  l2 (by omega)
    | @lst a2 _ _ h2 r2 =>
      cases rb
      obtain ⟨its2, l2, _⟩ := repList I (SqL.of h2) r2
      exact SeqAt.RcNeAt.none_list  l2 (by omega)
    | @scr a2 _ _ h2 r2 =>
      cases rb
      obtain ⟨its2, l2, _⟩ := repList I h2.seq r2
      exact SeqAt.RcNeAt.none_list  l2 (by omega)
  | bl =>
    cases ra
    cases py with
    | non =>
      cases rb
      exact SeqAt.RcNeAt.bool_none _
    | bl =>
      cases rb
      exact SeqAt.RcNeAt.bool_bool _ _
    | int =>
      obtain ⟨t2, rfl⟩ := rb
      exact SeqAt.RcNeAt.bool_int _ _ _
    | str =>
      obtain ⟨t2, rfl⟩ := rb
      exact SeqAt.RcNeAt.bool_str _ _ _
    | @tup a2 _ _ h2 r2 =>
      cases rb
      obtain ⟨its2, l2, _⟩ := repTup I h2 r2
      exact SeqAt.RcNeAt.bool_tuple _ l2 (by omega)
    | @lst a2 _ _ h2 r2 =>
      cases rb
      obtain ⟨its2, l2, _⟩ := repList I (SqL.of h2) r2
      exact SeqAt.RcNeAt.bool_list _ l2 (by omega)
    | @scr a2 _ _ h2 r2 =>
      cases rb
      obtain ⟨its2, l2, _⟩ := repList I h2.seq r2
      exact SeqAt.RcNeAt.bool_list _ l2 (by omega)
  | int =>
    obtain ⟨t1, rfl⟩ := ra
    cases py with
    | non =>
      cases rb
      exact SeqAt.RcNeAt.int_none _ _
    | bl =>
      cases rb
      exact SeqAt.RcNeAt.int_bool _ _ _
    | int =>
      obtain ⟨t2, rfl⟩ := rb
      exact SeqAt.RcNeAt.int_int _ _ _ _
    | str =>
      obtain ⟨t2, rfl⟩ := rb
      exact SeqAt.RcNeAt.int_str _ _ _ _
    | @tup a2 _ _ h2 r2 =>
      cases rb
      obtain ⟨its2, l2, _⟩ := repTup I h2 r2
      exact SeqAt.RcNeAt.int_tuple _ _ l2 (by omega)
    | @lst a2 _ _ h2 r2 =>
      cases rb
      obtain ⟨its2, l2, _⟩ := repList I (SqL.of h2) r2
      exact SeqAt.RcNeAt.int_list _ _ l2 (by omega)
    | @scr a2 _ _ h2 r2 =>
      cases rb
      obtain ⟨its2, l2, _⟩ := repList I h2.seq r2
      exact SeqAt.RcNeAt.int_list _ _ l2 (by omega)
  | str =>
    obtain ⟨t1, rfl⟩ := ra
    cases py with
    | non =>
      cases rb
      exact SeqAt.RcNeAt.str_none _ _
    | bl =>
      cases rb
      exact SeqAt.RcNeAt.str_bool _ _ _
    | int =>
      obtain ⟨t2, rfl⟩ := rb
      exact SeqAt.RcNeAt.str_int _ _ _ _
    | str =>
      obtain ⟨t2, rfl⟩ := rb
      exact SeqAt.RcNeAt.str_str _ _ _ _
    | @tup a2 _ _ h2 r2 =>
      cases rb
      obtain ⟨its2, l2, _⟩ := repTup I h2 r2
      exact SeqAt.RcNeAt.str_tuple _ _ l2 (by omega)
    | @lst a2 _ _ h2 r2 =>
      cases rb
      obtain ⟨its2, l2, _⟩ := repList I (SqL.of h2) r2
      exact SeqAt.RcNeAt.str_list _ _ l2 (by omega)
    | @scr a2 _ _ h2 r2 =>
      cases rb
      obtain ⟨its2, l2, _⟩ := repList I h2.seq r2
      exact SeqAt.RcNeAt.str_list _ _ l2 (by omega)
  | @tup a1 _ _ h1 r1 =>
    cases ra
    obtain ⟨its, l1, _⟩ := repTup I h1 r1
    cases py with
    | non =>
      cases rb
      exact SeqAt.RcNeAt.tuple_none  l1 (by omega)
    | bl =>
      cases rb
      exact SeqAt.RcNeAt.tuple_bool _ l1 (by omega)
    | int =>
      obtain ⟨t2, rfl⟩ := rb
      exact SeqAt.RcNeAt.tuple_int _ _ l1 (by omega)
    | str =>
      obtain ⟨t2, rfl⟩ := rb
      exact SeqAt.RcNeAt.tuple_str _ _ l1 (by omega)
    | @tup a2 _ _ h2 r2 =>
      cases rb
      obtain ⟨its2, l2, _⟩ := repTup I h2 r2
      exact (tups_D I IH (Nat.lt_succ_self _) (by unfold dep at hu; omega) h1 r1 h2 r2).2
    | @lst a2 _ _ h2 r2 =>
      cases rb
      obtain ⟨its2, l2, _⟩ := repList I (SqL.of h2) r2
      exact SeqAt.RcNeAt.tuple_list l1 l2 (by omega)
    | @scr a2 _ _ h2 r2 =>
      cases rb
      obtain ⟨its2, l2, _⟩ := repList I h2.seq r2
      exact SeqAt.RcNeAt.tuple_list l1 l2 (by omega)
  | @scr a1 _ _ h1 r1 => exact absurd hu (by unfold dep; omega)
  | @lst a1 _ _ h1 r1 =>
    cases ra
    obtain ⟨its, l1, _⟩ := repList I (SqL.of h1) r1
    cases py with
    | non =>
      cases rb
      exact SeqAt.RcNeAt.list_none  l1 (by omega)
    | bl =>
      cases rb
      exact SeqAt.RcNeAt.list_bool _ l1 (by omega)
    | int =>
      obtain ⟨t2, rfl⟩ := rb
      exact SeqAt.RcNeAt.list_int _ _ l1 (by omega)
    | str =>
      obtain ⟨t2, rfl⟩ := rb
      exact SeqAt.RcNeAt.list_str _ _ l1 (by omega)
    | @tup a2 _ _ h2 r2 =>
      cases rb
      obtain ⟨its2, l2, _⟩ := repTup I h2 r2
      exact SeqAt.RcNeAt.list_tuple l1 l2 (by omega)
    | @lst a2 _ _ h2 r2 =>
      cases rb
      obtain ⟨its2, l2, _⟩ := repList I (SqL.of h2) r2
      exact (lists_D I IH (Nat.lt_succ_self _) (by unfold dep at hu; omega) (SqL.of h1) r1 (SqL.of h2) r2).2
    | @scr a2 _ _ h2 r2 =>
      cases rb
      obtain ⟨its2, l2, _⟩ := repList I h2.seq r2
      exact (lists_D I IH (Nat.lt_succ_self _) (by unfold dep at hu; omega) (SqL.of h1) r1 h2.seq r2).2
end
/-! as rules of two values -/
theorem Rep1.full {K : PySem.W.Frag} {H : Hp} {hid : Hid} {v : V} {d : D} (h : Rep1 K H (vw H hid) v d) : Rep K H v d := by
  rcases h with h | ⟨a, xs, ds, rfl, rfl, h1, h2⟩
  · exact h.mono (vw_le _ _)
  · exact .lst h1 (h2.mono (vw_le _ _))
def rEqD (K : PySem.W.Frag) : R2 := fun v u H Q => ∃ x y, Rep K H v x ∧ Rep K H u y ∧ dep x ≤ 32 ∧ Q (.bl (eqD x y)) H
def rNeD (K : PySem.W.Frag) : R2 := fun v u H Q => ∃ x y, Rep K H v x ∧ Rep K H u y ∧ dep x ≤ 32 ∧ Q (.bl (!eqD x y)) H
theorem op_eqD {X : Cx} (hu : X.A.units + 64 < cLine) : OpR X (compareOp .Eq) (rEqD X.K) := by
  intro pins s σ H x y v u Q I rx ry h
  obtain ⟨dx, dy, p1, p2, hd, q⟩ := h
  exact rcAt_D I (by omega) (by omega) rx ry p1 p2 X.prog X.w _ _ ⟨.bl _, H, I, rfl, q⟩
theorem op_neD {X : Cx} (hu : X.A.units + 64 < cLine) : OpR X (compareOp .NotEq) (rNeD X.K) := by
  intro pins s σ H x y v u Q I rx ry h
  obtain ⟨dx, dy, p1, p2, hd, q⟩ := h
  exact rcNeAt_D I (by omega) (by omega) rx ry p1 p2 X.prog X.w _ _ ⟨.bl _, H, I, rfl, q⟩
def eqF : D → D → Option D := fun x y => if dep x ≤ 32 then some (.bl (eqD x y)) else none
def neF : D → D → Option D := fun x y => if dep x ≤ 32 then some (.bl (!eqD x y)) else none
theorem od_eq {K : PySem.W.Frag} : OpD K .s (rEqD K) eqF := by
  intro H hid v u x y d Q hf h r1 r2 q
  unfold eqF at h
  split at h
  · cases h; exact ⟨x, y, r1.full, r2.full, ‹_›, q _ H (Same.refl _) .bl⟩
  · cases h
theorem od_ne {K : PySem.W.Frag} : OpD K .s (rNeD K) neF := by
  intro H hid v u x y d Q hf h r1 r2 q
  unfold neF at h
  split at h
  · cases h; exact ⟨x, y, r1.full, r2.full, ‹_›, q _ H (Same.refl _) .bl⟩
  · cases h
/-! in, not in -/
end L2
set_option Elab.async false
set_option linter.all false
set_option maxRecDepth 100000
namespace L2
open PySem PySem.Spec PyProof.Rows

/-! ### isinstance with a built-in type -/
def isT (T : String) : D → Bool
  | .non => T == "NoneType"
  | .bl _ => T == "bool" || T == "int"
  | .int _ => T == "int"
  | .str _ => T == "str"
  | .tup _ => T == "tuple"
  | .lst _ => T == "list"
  | .scr _ => T == "list"
structure KT (T : String) : Prop where
  n : ∀ K, PySem.W.kitOne K (.type "NoneType") (.type T) = some (T == "NoneType")
  b : ∀ K, PySem.W.kitOne K (.type "bool") (.type T) = some (T == "bool" || T == "int")
  i : ∀ K, PySem.W.kitOne K (.type "int") (.type T) = some (T == "int")
  s : ∀ K, PySem.W.kitOne K (.type "str") (.type T) = some (T == "str")
  t : ∀ K, PySem.W.kitOne K (.type "tuple") (.type T) = some (T == "tuple")
  l : ∀ K, PySem.W.kitOne K (.type "list") (.type T) = some (T == "list")
theorem kt_bool : KT "bool" := ⟨fun _ => by kernel_rfl, fun _ => by kernel_rfl, fun _ => by kernel_rfl, fun _ => by kernel_rfl, fun _ => by kernel_rfl, fun _ => by kernel_rfl⟩
theorem kt_list : KT "list" := ⟨fun _ => by kernel_rfl, fun _ => by kernel_rfl, fun _ => by kernel_rfl, fun _ => by kernel_rfl, fun _ => by kernel_rfl, fun _ => by kernel_rfl⟩
theorem kt_tuple : KT "tuple" := ⟨fun _ => by kernel_rfl, fun _ => by kernel_rfl, fun _ => by kernel_rfl, fun _ => by kernel_rfl, fun _ => by kernel_rfl, fun _ => by kernel_rfl⟩
section
variable {X : Cx} {c : Ct} {e o : Expr} {k : Kd} {f g : FE} {pos p p2 : Pos}
theorem call_isi {T : String} (kt : KT T) : CallR X (.builtin "isinstance") (fun xs H Q => ∃ v d, xs = [v, .ty T] ∧ Rep X.K H v d ∧ Q (.bl (isT T d)) H) := by
  intro pins s σ H xs us Q I r h
  obtain ⟨v, d, rfl, rp, q⟩ := h
  obtain ⟨u, w', rfl, rx, ry⟩ := vals2 r
  cases ry
  have fin : ∀ tk, EP X pins σ Q (.bool (isT T d)) { s with toks := tk } := fun tk => ⟨.bl _, H, I.tok _, rfl, q⟩
  cases rp with
  | non => cases rx; exact PySem.W.kia_one PySem.W.kitx_none I.kIn True.intro (kt.n _) (fun z => nomatch z) fin
  | bl => cases rx; exact PySem.W.kia_one PySem.W.kitx_bool I.kIn True.intro (kt.b _) (fun z => nomatch z) fin
  | int => obtain ⟨t, rfl⟩ := rx; exact PySem.W.kia_one PySem.W.kitx_int I.kIn True.intro (kt.i _) (fun z => nomatch z) fin
  | str => obtain ⟨t, rfl⟩ := rx; exact PySem.W.kia_one PySem.W.kitx_str I.kIn True.intro (kt.s _) (fun z => nomatch z) fin
  | tup h1 h2 =>
    cases rx
    obtain ⟨⟨ob, ho, hc⟩, _⟩ := I.tupleN h1
    exact PySem.W.kia_one PySem.W.kitx_tuple I.kIn ⟨ob, ho, hc⟩ (kt.t _) (fun z => nomatch z) fin
  | lst h1 h2 =>
    cases rx
    obtain ⟨its, _, ⟨ob, n, ho, hc, _⟩, _⟩ := I.list (SqL.of h1)
    exact PySem.W.kia_one PySem.W.kitx_list I.kIn ⟨ob, ho, hc⟩ (kt.l _) (fun z => nomatch z) fin
  | scr h1 h2 =>
    cases rx
    obtain ⟨its, _, ⟨ob, n, ho, hc, _⟩, _⟩ := I.list h1.seq
    exact PySem.W.kia_one PySem.W.kitx_list I.kIn ⟨ob, ho, hc⟩ (kt.l _) (fun z => nomatch z) fin
def isiF (T : String) (f : FE) : FE := fun ρ => (f ρ).map fun d => .bl (isT T d)
theorem dp_isi (T : String) {y : Str} (kt : KT T) (he : DP X c k e f) (hm : X.mg "isinstance" = none) (hmT : X.mg y = none) (hg : Gl X "isinstance" := by rfl) (hgT : Gl X y := by rfl) (hv : bootBuiltins "isinstance" = some (.builtin "isinstance") := by kernel_rfl) (hvT : bootBuiltins y = some (.type T) := by kernel_rfl) (hn : y ≠ "__name__" := by decide) (hd : (y == ("__debug__" : Str)) = false := by decide)
    (hs1 : starEach [e, .Name y p2] X.env = (false, eval e X.env) :: starEach [.Name y p2] X.env := by rfl) (hs2 : starEach [.Name y p2] X.env = (false, eval (.Name y p2) X.env) :: starEach [] X.env := by rfl) (hpl : (backTo pos (starEach [.Name y p2] X.env)).any (·.1) = false := by rfl) :
    DP X c .s (.Call (.Name "isinstance" p) [e, .Name y p2] [] pos) (isiF T f) := fun hid ρ =>
  PE.imp (pe_callB (call_isi kt) hg hm hv (pa_cons (he hid ρ) (pa_cons (pe_bltn (v := .ty T) hgT hmT hvT rfl hn hd) pa_nil hs2) hs1) (by decide) (by decide) hs1 hpl) fun σ H Q ⟨sr, d, hd, q⟩ => by
    unfold isiF at hd
    cases e1 : f ρ with
    | none => rw [e1] at hd; cases hd
    | some z =>
      rw [e1] at hd; cases hd
      exact ⟨sr, z, e1, fun v H' s' r => ⟨v, z, rfl, (RK.b k r fun a n => sr.fresh n).full, q _ H' s' .bl⟩⟩

/-! ### any, all of bools -/
def blsD : List D → Option (List Bool)
  | [] => some []
  | .bl b :: r => (blsD r).map (b :: ·)
  | _ => none
theorem blsD_get : ∀ {ds : List D} {bs : List Bool} {i : Nat} {d : D}, blsD ds = some bs → ds[i]? = some d → ∃ b, d = .bl b ∧ bs[i]? = some b
  | [], _, _, _, _, h => by simp at h
  | x :: r, bs, i, d, h, e => by
    cases x with
    | bl b =>
      unfold blsD at h
      cases e1 : blsD r with
      | none => rw [e1] at h; cases h
      | some rs =>
        rw [e1] at h; cases h
        cases i with
        | zero => simp at e; subst e; exact ⟨b, rfl, rfl⟩
        | succ i =>
          obtain ⟨b', h1, h2⟩ := blsD_get (i := i) e1 (by simpa using e)
          exact ⟨b', h1, by simpa using h2⟩
    | _ => cases h
theorem blsD_len : ∀ {ds : List D} {bs : List Bool}, blsD ds = some bs → ds.length = bs.length
  | [], _, h => by cases h; rfl
  | x :: r, bs, h => by
    cases x with
    | bl b =>
      unfold blsD at h
      cases e1 : blsD r with
      | none => rw [e1] at h; cases h
      | some rs => rw [e1] at h; cases h; simp [blsD_len e1]
    | _ => cases h
theorem range_any (bs : List Bool) : (List.range bs.length).any (fun i => bs.getD i false) = bs.any id := by
  induction bs with
  | nil => rfl
  | cons b bs ih =>
    rw [List.length_cons, List.range_succ_eq_map, List.any_cons, List.any_map, List.any_cons]
    rw [show ((fun i => (b :: bs).getD i false) ∘ Nat.succ) = fun i => bs.getD i false by funext i; simp [List.getD], ih]
    rfl
theorem range_alls (bs : List Bool) : (List.range bs.length).all (fun i => bs.getD i false) = bs.all id := by
  induction bs with
  | nil => rfl
  | cons b bs ih =>
    rw [List.length_cons, List.range_succ_eq_map, List.all_cons, List.all_map, List.all_cons]
    rw [show ((fun i => (b :: bs).getD i false) ∘ Nat.succ) = fun i => bs.getD i false by funext i; simp [List.getD], ih]
    rfl
theorem walk_bools {pins : List (Addr × Obj)} {σ : St} {H : Hp} {s : Shared} {a : Addr} {xs : List V} {ds : List D} {bs : List Bool} (I : Inv X pins σ H s) (h1 : SqL X.K H a xs) (h2 : Reps X.K H xs ds) (hb : blsD ds = some bs) (hc : X.calm = true) {E : Value → Shared → Prop} {R : Value → Shared → Prop}
    (hR : ∀ (J : Addr) (s2 : Shared) (its : Array Value) (hl : its.size = bs.length), Walks X.prog X.w X.A.in1 J [J, a] [J] its.size (fun i v => its[i]? = some v) (fun i h => h.IsListIter J a i ∧ h.IsList a its) → s2.heap.IsListIter J a 0 → s2.heap.IsList a its → TruthOf X.prog X.w X.A.in1 (fun i v => its[i]? = some v) (fun i => bs.getD i false) →
      (∀ h' tk, (∀ b o, b ∉ [J] → s2.heap.get? b = some o → h'.get? b = some o) → Inv X pins σ H { s2 with heap := h', toks := tk }) → R (.ref J) s2) : wpAny (model X.prog X.w) X.A.in1 (pyIter (.ref a)) R E s := by
  obtain ⟨its, rv, pl, hz⟩ := I.list h1
  have l1 := rv.length
  have l2 := h2.length
  have l3 := blsD_len hb
  have hlt : a < s.heap.objs.size := by obtain ⟨o, n, e, _⟩ := pl; exact Heap.lt_size e
  refine wpAny_pyIter_list pl.isList (hR s.heap.objs.size _ its.toArray (by simp; omega) (Walks.list (A := X.A.in1) (I.ok.hd hc) _ a (Nat.ne_of_lt hlt) its.toArray) ⟨_, Heap.get?_push_size _ rfl, rfl, rfl⟩ ?_ ?_ ?_)
  · obtain ⟨o, ho, q⟩ := pl.isList
    exact ⟨o, Heap.get?_push_of_some _ ho, q⟩
  · intro i v s' Q E hv hq
    have hv' : its[i]? = some v := by simpa using hv
    have hi := (List.getElem?_eq_some_iff.mp hv').1
    have ex : xs[i]? = some xs[i] := List.getElem?_eq_getElem (by omega)
    obtain ⟨u, e1, r1⟩ := rv.get ex
    rw [hv'] at e1; cases e1
    obtain ⟨d, e2, r2⟩ := h2.get' ex
    obtain ⟨b, rfl, e3⟩ := blsD_get hb e2
    rcases hx : xs[i] with _ | _ | _ | _ | _ | _ | _ | _ <;> rw [hx] at r1 r2 <;> cases r2
    cases r1
    have : bs.getD i false = b := by simp [List.getD, e3]
    dsimp only at hq
    rw [this] at hq
    exact wpAny_truthy_bool hq
  · intro h' tk hk
    refine I.kept fun b o e => hk b o (fun hm => ?_) (Heap.get?_push_of_some _ e)
    have : b = s.heap.objs.size := by simpa using hm
    exact absurd (this ▸ Heap.lt_size e) (Nat.lt_irrefl _)
theorem call_any (hc : X.calm = true) : CallR X (.builtin "any") (fun xs H Q => ∃ a ys ds bs, xs = [.ref a] ∧ SqL X.K H a ys ∧ Reps X.K H ys ds ∧ blsD ds = some bs ∧ Q (.bl (bs.any id)) H) := by
  intro pins s σ H xs us Q I r h
  obtain ⟨a, ys, ds, bs, rfl, h1, h2, h3, q⟩ := h
  obtain ⟨u, rfl, rx⟩ := vals1 r
  cases rx
  refine call_any_walk (walk_bools I h1 h2 h3 hc fun J s2 its hl W st1 st2 tr kp => ?_)
  refine ⟨J, _, _, _, _, _, _, rfl, W, ⟨st1, st2⟩, tr, fun h' tk hk => ⟨.bl _, H, kp h' tk hk, rfl, ?_⟩⟩
  rw [hl, range_any]; exact q
theorem call_all (hc : X.calm = true) : CallR X (.builtin "all") (fun xs H Q => ∃ a ys ds bs, xs = [.ref a] ∧ SqL X.K H a ys ∧ Reps X.K H ys ds ∧ blsD ds = some bs ∧ Q (.bl (bs.all id)) H) := by
  intro pins s σ H xs us Q I r h
  obtain ⟨a, ys, ds, bs, rfl, h1, h2, h3, q⟩ := h
  obtain ⟨u, rfl, rx⟩ := vals1 r
  cases rx
  refine call_all_walk (walk_bools I h1 h2 h3 hc fun J s2 its hl W st1 st2 tr kp => ?_)
  refine ⟨J, _, _, _, _, _, _, rfl, W, ⟨st1, st2⟩, tr, fun h' tk hk => ⟨.bl _, H, kp h' tk hk, rfl, ?_⟩⟩
  rw [hl, range_alls]; exact q
def anyD : List D → Option D
  | [.lst ds] => (blsD ds).map fun bs => .bl (bs.any id)
  | _ => none
def allD : List D → Option D
  | [.lst ds] => (blsD ds).map fun bs => .bl (bs.all id)
  | _ => none
theorem cd_any : CallD X.K .s (fun xs H Q => ∃ a ys ds bs, xs = [.ref a] ∧ SqL X.K H a ys ∧ Reps X.K H ys ds ∧ blsD ds = some bs ∧ Q (.bl (bs.any id)) H) anyD := by
  intro H hid vs ds d Q hf h r q
  unfold anyD at h
  split at h
  · rename_i zs
    cases e1 : blsD zs with
    | none => rw [e1] at h; cases h
    | some bs =>
      rw [e1] at h; cases h
      obtain ⟨x, rfl, r1⟩ := Reps1.one r
      obtain ⟨a, xs, rfl, h1, h2⟩ := r1.lst
      exact ⟨a, xs, zs, bs, rfl, h1, h2.mono (vw_le _ _), e1, q _ H (Same.refl _) .bl⟩
  · cases h
theorem cd_all : CallD X.K .s (fun xs H Q => ∃ a ys ds bs, xs = [.ref a] ∧ SqL X.K H a ys ∧ Reps X.K H ys ds ∧ blsD ds = some bs ∧ Q (.bl (bs.all id)) H) allD := by
  intro H hid vs ds d Q hf h r q
  unfold allD at h
  split at h
  · rename_i zs
    cases e1 : blsD zs with
    | none => rw [e1] at h; cases h
    | some bs =>
      rw [e1] at h; cases h
      obtain ⟨x, rfl, r1⟩ := Reps1.one r
      obtain ⟨a, xs, rfl, h1, h2⟩ := r1.lst
      exact ⟨a, xs, zs, bs, rfl, h1, h2.mono (vw_le _ _), e1, q _ H (Same.refl _) .bl⟩
  · cases h
/-! ### min, max, sum of ints -/
def intsD : List D → Option (List Int)
  | [] => some []
  | .int b :: r => (intsD r).map (b :: ·)
  | _ => none
theorem intsD_eq : ∀ {ds : List D} {ns : List Int}, intsD ds = some ns → ds = ns.map D.int
  | [], _, h => by cases h; rfl
  | x :: r, bs, h => by
    cases x with
    | int b =>
      unfold intsD at h
      cases e1 : intsD r with
      | none => rw [e1] at h; cases h
      | some rs => rw [e1] at h; cases h; simp [intsD_eq e1]
    | _ => cases h
end
end L2
set_option Elab.async false
set_option linter.all false
set_option maxRecDepth 100000
namespace PySem.SeqAt
open AutoSeq1 (wpAny_loadPart')
open MeetsSeq MeetsSeq2 MeetsSeq3 SeqRoads2
theorem wpAny_forIn_rng {M : Model} {A : Around} {E : Value → Shared → Prop} {s : Shared} {β : Type} (f : Nat → β → Sem (ForInStep β)) (I : List Nat → β → Shared → Prop) (Q : β → Shared → Prop)
    (turn : ∀ x rest b s, I (x :: rest) b s → wpAny M A (f x b) (fun r s' => match r with | .yield b' => I rest b' s' | .done b' => Q b' s') E s)
    (fin : ∀ b s, I [] b s → Q b s) (a b : Nat) (c : β) (h : I (List.range' a (b - a)) c s) : wpAny M A (forIn [a:b] c f) Q E s := by
  rw [Std.Legacy.Range.forIn_eq_forIn_range']
  have hsz : ([a:b] : Std.Legacy.Range).size = b - a := by simp [Std.Legacy.Range.size]
  show wpAny M A (forIn (List.range' a ([a:b] : Std.Legacy.Range).size 1) c f) Q E s
  rw [hsz]
  exact wpAny_forIn_list f I Q turn fin _ c h
theorem tuple_indexAt (l : Addr) (items : Array Value) (n : Nat) (dd : Option Addr) (sl : Array (Option Value)) (x : Value) (e : Value → Bool) (j : Nat) (hj : j < items.size) (hit : e items[j] = true) (hno : ∀ m (hm : m < items.size), m < j → e items[m] = false) :
    Meets (Builtin.«tuple.index» ⟨[.ref l, x], []⟩)
      (fun A R s => s.heap.get? l = some { cls := .type "tuple", dict := dd, data := .seq items n, slots := sl } ∧ (∀ y, y ∈ items → EqAt A.in1 s y x (e y)) ∧ R (.ok (.ret (.int j s.toks))) { s with toks := s.toks + 1 }) :=
  .of_wp fun prog w A R s h => by
    obtain ⟨hp, g, d, tk, os⟩ := s; obtain ⟨hl, he, h⟩ := h
    wp_walk using wpAny_loadPart' hl, wpAny_forIn_rng _ (fun rest b s' => b.1 = none ∧ s' = ⟨hp, g, d, tk, os⟩ ∧ ∃ i, i ≤ j ∧ rest = List.range' i (items.size - i)) _
    case turn =>
      rintro y rest b s' ⟨hb, rfl, i, hij, hz⟩
      have lt : i < items.size := by omega
      have er : List.range' i (items.size - i) = i :: List.range' (i + 1) (items.size - (i + 1)) := by
        rw [show items.size - i = (items.size - (i + 1)) + 1 by omega]; rfl
      rw [er] at hz
      injection hz with e1 e2
      subst e1 e2
      rw [show items[y]? = some items[y] by simp [lt]]
      refine wpAny_bind (he _ (Array.getElem_mem lt) prog w _ _ ?_)
      by_cases ej : y = j
      · subst ej
        rw [hit]
        wp_walk
        exact ⟨_, rfl, h⟩
      · rw [hno y lt (by omega)]
        wp_walk
        exact ⟨rfl, rfl, y + 1, by omega, rfl⟩
    case fin =>
      rintro ⟨b1, b2⟩ s' ⟨hb, rfl, i, hij, hz⟩
      have := congrArg List.length hz
      simp at this
      omega
    case h =>
      exact ⟨rfl, rfl, 0, Nat.zero_le _, by simp⟩
end PySem.SeqAt
namespace L2
open PySem PySem.Spec PyProof.Rows
/-! ### index -/
def idxD (ds : List D) (x : D) : Option Nat := ds.findIdx? fun d => eqD d x
theorem idx_any {X : Cx} {pins : List (Addr × Obj)} {σ : St} {H : Hp} {s : Shared} (I : Inv X pins σ H s) {x : D} {v : V} {a : Value} {A : Around} (hx : Rep X.K H v x) (ra : RelV v a) : ∀ {ds : List D} {xs : List V} {its : List Value}, Reps X.K H xs ds → Vals xs its → A.units + deps ds < cLine →
    ∃ e : Value → Bool, (∀ y, y ∈ its → SeqAt.EqAt A s y a (e y)) ∧ ∀ (j : Nat) (hj : j < its.length) (d : D), ds[j]? = some d → e its[j] = eqD d x := by
  intro ds xs its r rv hu
  classical
  let e : Value → Bool := fun y => if h : ∃ (d : D) (u : V), RelV u y ∧ Rep X.K H u d then eqD h.choose x else false
  have key : ∀ y u d, RelV u y → Rep X.K H u d → e y = eqD d x := fun y u d h1 h2 => by
    have hex : ∃ (d : D) (u : V), RelV u y ∧ Rep X.K H u d := ⟨d, u, h1, h2⟩
    show (if h : ∃ (d : D) (u : V), RelV u y ∧ Rep X.K H u d then eqD h.choose x else false) = eqD d x
    rw [dif_pos hex]
    obtain ⟨u', s1, s2⟩ := hex.choose_spec
    have eu : u' = u := s1.inj h1
    rw [eu] at s2
    exact Rep.eqv I s2 h2 x
  have l1 := rv.length
  have l2 := r.length
  have at' : ∀ (j : Nat) (hj : j < its.length), ∃ u d, ds[j]? = some d ∧ RelV u its[j] ∧ Rep X.K H u d := fun j hj => by
    have ex : xs[j]? = some xs[j] := List.getElem?_eq_getElem (by omega)
    obtain ⟨w, e1, r1⟩ := rv.get ex
    obtain ⟨d, e2, r2⟩ := r.get' ex
    have : its[j] = w := by rw [List.getElem?_eq_getElem hj] at e1; exact Option.some.inj e1
    rw [this]
    exact ⟨_, d, e2, r1, r2⟩
  refine ⟨e, fun y hy => ?_, fun j hj d hd => ?_⟩
  · obtain ⟨j, hj, rfl⟩ := List.mem_iff_getElem.mp hy
    obtain ⟨u, d, e1, r1, r2⟩ := at' j hj
    rw [key _ _ _ r1 r2]
    have := deps_get e1
    exact eqAt_D I (dep d + 1) (Nat.lt_succ_self _) (by omega) r1 ra r2 hx
  · obtain ⟨u, d', e1, r1, r2⟩ := at' j hj
    rw [hd] at e1; cases e1
    exact key _ _ _ r1 r2
section
variable {X : Cx} {c : Ct} {e o : Expr} {k k2 : Kd} {f g : FE} {pos p p2 apos : Pos}
theorem mt_tupIndex (hu : X.A.units + 64 < cLine) : MtR X "tuple.index" (fun v vs H Q => ∃ a xs ds x y j, v = .ref a ∧ vs = [x] ∧ SqT X.K H a xs ∧ Reps X.K H xs ds ∧ Rep X.K H x y ∧ deps ds ≤ 32 ∧ idxD ds y = some j ∧ Q (.int j) H) := by
  intro pins s σ H v vs u us Q I rv rs h
  obtain ⟨a, xs, ds, x, y, j, rfl, rfl, h1, h2, h3, h4, h5, q⟩ := h
  cases rv
  obtain ⟨w, rfl, rw'⟩ := vals1 rs
  obtain ⟨its, r, pl, hz⟩ := I.tuple h1
  have l1 := r.length
  have l2 := h2.length
  obtain ⟨e, g1, g2⟩ := idx_any (A := X.A.in1.in1) I h3 rw' h2 r (by rw [in1_units, in1_units]; omega)
  unfold idxD at h5
  rw [List.findIdx?_eq_some_iff_getElem] at h5
  obtain ⟨hj, hp, hno⟩ := h5
  obtain ⟨⟨cls, dd, data, sl⟩, ho, hc, n, hd⟩ := id pl
  simp only at hc hd
  subst hc hd
  have hj' : j < its.length := by omega
  have gt : ∀ m (hm : m < its.length) (hm2 : m < ds.length), e its[m] = eqD ds[m] y := fun m hm hm2 => g2 m hm _ (List.getElem?_eq_getElem hm2)
  refine call_meets PySem.F.slot_tuple_index ⟨_, ho, rfl⟩ PySem.F.entry_tuple_index (PySem.F.args_tuple_index_2 _ _) (SeqAt.tuple_indexAt a its.toArray n dd sl w e j (by simpa using hj') ?_ ?_) ⟨ho, ?_, ?_⟩
  · simp only [List.getElem_toArray]; rw [gt j hj' hj]; exact hp
  · intro m hm hmj
    simp only [List.getElem_toArray]
    rw [gt m (by simpa using hm) (by omega)]
    have := hno m hmj
    simpa using this
  · intro z hz'
    exact SeqAt.EqAt.of_in1 (g1 z (by simpa using hz'))
  · exact ⟨.int j, H, I.tok _, ⟨_, rfl⟩, q⟩
end
end L2
set_option Elab.async false
set_option linter.all false
set_option maxRecDepth 100000
namespace L2
open PySem PySem.Spec PyProof.Rows
section
variable {X : Cx} {c : Ct} {e o : Expr} {k k2 : Kd} {f g : FE} {pos p p2 apos : Pos}
/-- t.index(x) of a tuple -/
def tidxF : D → D → Option D := fun t x => match t with
  | .tup ds => if deps ds ≤ 32 then (idxD ds x).map fun j => .int j else none
  | _ => none
theorem dp_tupIndex (hu : X.A.units + 64 < cLine) (ho : DP X c k o f) (he : DP X c k2 e g)
    (hbase : attributeBase o "index" X.env (eval o X.env) = eval o X.env := by rfl)
    (hfew : ((backTo pos (starEach [e] X.env)).all (fun x => !x.1) && (backToKw pos (keywordEach [] X.env)).all (fun x => x.1.isSome)
      && decide (([e] : List Expr).length + ([] : List Keyword).length + (if ([] : List Keyword).isEmpty then 0 else 1) < 30)) = true := by rfl)
    (hline : (apos.endLine == pos.line) = true := by rfl) (hs : starEach [e] X.env = (false, eval e X.env) :: starEach [] X.env := by rfl) (hplain : (backTo pos (starEach [] X.env)).any (·.1) = false := by rfl) :
    DP X c .s (.Call (.Attribute o "index" apos) [e] [] pos) (op2 tidxF f g) := fun hid ρ =>
  PE.imp (pe_bm PySem.F.plainAttrs_tuple PySem.F.slot_tuple_index PySem.F.type_tuple_index (mt_tupIndex hu) (ho hid ρ) (pa_cons (he hid ρ) pa_nil hs) hbase hfew hline hs hplain) fun σ H Q ⟨sr, d, hd, q⟩ => by
    obtain ⟨x, y, e1, e2, e3⟩ := op2_some hd
    unfold tidxF at e3
    split at e3
    · split at e3
      · rename_i ds _
        cases e4 : idxD ds y with
        | none => rw [e4] at e3; cases e3
        | some j =>
          rw [e4] at e3; cases e3
          refine ⟨sr, _, e1, fun v H1 s1 r1 => ?_⟩
          have b1 := RK.b k r1 fun a n => sr.fresh n
          obtain ⟨a, xs, rfl, t1, t2, t3⟩ := b1.tup
          refine ⟨.inr (.inl ⟨rfl, xs, t2⟩), sr.ext s1, y, e2, fun u H2 s2 r2 => ?_⟩
          have b2 := RK.b k2 r2 fun a n => (sr.ext s1).fresh n
          exact ⟨a, xs, ds, u, y, j, rfl, rfl, Same.seqT s2 t2, (t3.mono (vw_same s2)).mono (vw_le _ _), b2.full, ‹_›, e4, q _ H2 (s1.trans s2) .int⟩
      · cases e3
    · cases e3
/-! ### list(range(..)) -/
theorem call_rng1 : CallR X (.type "range") (fun xs H Q => ∃ j : Int, xs = [.int j] ∧ ∀ p, H p = none → Q (.ref p) (upd H p (.rng 0 j))) := by
  intro pins s σ H xs us Q I r h
  obtain ⟨j, rfl, q⟩ := h
  obtain ⟨u, rfl, t, rfl⟩ := vals1 r
  refine call_range_1 ⟨.ref s.heap.objs.size, _, I.laid (fun b o e => Heap.get?_push_of_some _ e) (Nat.le_refl _) ?_, rfl, q _ (I.hok.fresh (Nat.le_refl _))⟩
  exact ⟨_, _, _, Heap.get?_push_size _ rfl⟩
theorem ups_V (lo : Int) (n : Nat) : ∀ {K : PySem.W.Frag} {F : Hp}, Reps K F ((List.range n).map fun (i : Nat) => V.int (lo + i)) (ups lo n) := by
  intro K F
  unfold ups
  generalize List.range n = l
  induction l with
  | nil => exact .nil
  | cons a l ih => exact .cons .int ih
theorem call_list_rng (hc : X.calm = true) : CallR X (.type "list") (fun xs H Q => ∃ p lo hi, xs = [.ref p] ∧ H p = some (.rng lo hi) ∧ -(2 ^ 30) ≤ lo ∧ lo ≤ 2 ^ 30 ∧ -(2 ^ 30) ≤ hi ∧ hi - lo ≤ 1000000 ∧ hi ≤ 2 ^ 31 ∧ ∀ l, H l = none → Q (.ref l) (upd H l (.lst ((List.range (hi - lo).toNat).map fun (i : Nat) => V.int (lo + i))))) := by
  intro pins s σ H xs us Q I r h
  obtain ⟨p, lo, hi, rfl, hp, b1, b2, b3, b4, b5, q⟩ := h
  obtain ⟨u, rfl, rx⟩ := vals1 r
  cases rx
  obtain ⟨t, u, v, hr⟩ := I.hok p _ hp
  have hsz : Builtin.Range.rangeSize lo hi 1 = (hi - lo).toNat := by
    unfold Builtin.Range.rangeSize
    rw [if_pos (by decide)]
    split
    · rw [Int.ediv_one]; omega
    · omega
  refine call_list_range (a := lo) (b := hi) (c := 1) (n := (hi - lo).toNat) (I.ok.hd hc) hr ?_ hsz (by omega) fun h' tk acc' c' kp hS hacc => ?_
  · exact small_one (by omega) (by omega) (by omega) (by omega)
  · have hz : (hi - lo).toNat ≤ sizeLine := by rw [sizeLine_eq]; omega
    refine ⟨.ref s.heap.objs.size, _, I.laid (t' := tk) kp (Nat.le_refl _) (show ObjOk X.prog X.w _ h' _ (.lst _) from ⟨by simpa using hz, acc'.toList, c', ?_, by simpa using hS⟩), rfl, q _ (I.hok.fresh (Nat.le_refl _))⟩
    obtain ⟨ha, hb⟩ := hacc
    have key : ∀ (l : List Value) (k m : Nat), l.length = m → (∀ (j : Nat) v, l[j]? = some v → ∃ t, v = .int (lo + ((k + j : Nat) : Int) * 1) t) → Vals ((List.range' k m).map fun (i : Nat) => V.int (lo + i)) l := by
      intro l
      induction l with
      | nil => intro k m hm _; subst hm; exact .nil
      | cons x l ih =>
        intro k m hm hv
        subst hm
        rw [List.length_cons, List.range'_succ]
        refine .cons ?_ (ih (k + 1) l.length rfl fun j v e => ?_)
        · obtain ⟨t, rfl⟩ := hv 0 x rfl
          exact ⟨t, by simp⟩
        · obtain ⟨t, rfl⟩ := hv (j + 1) v (by simpa using e)
          exact ⟨t, by congr 3; omega⟩
    have := key acc'.toList 0 (hi - lo).toNat (by simpa using ha) fun j v e => by
      have := hb j v (by simpa using e)
      simpa using this
    rw [List.range_eq_range']
    exact this
def lrF1 : D → Option D
  | .int j => if j.natAbs ≤ 1000000 then some (.lst (ups 0 j.toNat)) else none
  | _ => none
def lr1 (f : FE) : FE := fun ρ => (f ρ).bind lrF1
theorem dp_listRange1 (hc : X.calm = true) (hml : X.mg "list" = none) (hmr : X.mg "range" = none) (he : DP X c k e f) (hgl : Gl X "list" := by rfl) (hgr : Gl X "range" := by rfl) (hvl : bootBuiltins "list" = some (.type "list") := by kernel_rfl) (hvr : bootBuiltins "range" = some (.type "range") := by kernel_rfl)
    (hs1 : starEach [e] X.env = (false, eval e X.env) :: starEach [] X.env := by rfl) (hpl1 : (backTo pos (starEach [] X.env)).any (·.1) = false := by rfl) (hpl2 : (backTo p2 (starEach [] X.env)).any (·.1) = false := by rfl) {p3 : Pos}
    (hs2 : starEach [.Call (.Name "range" p3) [e] [] p2] X.env = (false, eval (.Call (.Name "range" p3) [e] [] p2) X.env) :: starEach [] X.env := by rfl) :
    DP X c .n (.Call (.Name "list" p) [.Call (.Name "range" p3) [e] [] p2] [] pos) (lr1 f) := fun hid ρ =>
  PE.imp (pe_callTy (call_list_rng hc) hgl hml hvl (pa_cons (pe_callTy call_rng1 hgr hmr hvr (pa_cons (he hid ρ) pa_nil hs1) (by decide) (by decide) hs1 hpl2) pa_nil hs2) (by decide) (by decide) hs2 hpl1) fun σ H Q ⟨sr, d, hd, q⟩ => by
    unfold lr1 at hd
    cases e1 : f ρ with
    | none => rw [e1] at hd; cases hd
    | some z =>
      rw [e1] at hd
      have hd : lrF1 z = some d := hd
      unfold lrF1 at hd
      split at hd
      · split at hd
        · rename_i _ j _ _
          cases hd
          refine ⟨sr, _, e1, fun v H1 s1 r1 => ?_⟩
          have b1 := (RK.b k r1 fun a n => sr.fresh n).int
          cases b1
          refine ⟨j, rfl, fun r hr => ?_⟩
          refine ⟨r, 0, j, rfl, upd_same, by omega, by omega, by omega, by omega, by omega, fun l hl => ?_⟩
          have s2 : Same H (upd H1 r (.rng 0 j)) := s1.trans (same_new hr _)
          refine q _ _ (s2.trans (same_new hl _)) ?_
          have := rn_new (hid := hid) (K := X.K) hl s2 (ups_V 0 (j - 0).toNat)
          rw [show (j - 0).toNat = j.toNat by omega] at this ⊢
          exact this
        · cases hd
      · cases hd
/-! ### arithmetic by data -/
def addF := i2 (fun _ _ => true) fun i j => .int (i + j)
def subF := i2 (fun _ _ => true) fun i j => .int (i - j)
def mulF := i2 (fun i j => decide (i.natAbs < 2 ^ 1000) && decide (j.natAbs < 2 ^ 1000)) fun i j => .int (i * j)
def modF := i2 (fun _ j => decide (0 < j)) fun i j => .int (i % j)
def fdivF := i2 (fun _ j => decide (0 < j) && decide (j.natAbs < 2 ^ 1000)) fun i j => .int (i / j)
def powF := i2 (fun i j => decide (0 ≤ j) && decide (j ≤ 1000000) && decide (i.natAbs < 2 ^ 64)) fun i j => .int (i ^ j.toNat)
def ltF := i2 (fun _ _ => true) fun i j => .bl (decide (i < j))
def gtF := i2 (fun _ _ => true) fun i j => .bl (decide (j < i))
def geF := i2 (fun _ _ => true) fun i j => .bl (decide (j ≤ i))
theorem bits_of {i : Int} (h : i.natAbs < 2 ^ 1000) : Builtin.Int.intBits i ≤ 2 ^ 20 := by
  unfold Builtin.Int.intBits
  split
  · exact Nat.zero_le _
  · rename_i hz
    have h0 : i.natAbs ≠ 0 := by simp at hz; omega
    have := (Nat.log2_lt h0).mpr h
    omega
theorem op_mulB : OpR X (binaryOp .Mult) (rI IntMulOk fun i j => .int (i * j)) := opI fun _ _ _ _ _ _ _ hc q => mul_int q hc
variable {a b : Expr}
theorem dp_add {k1 k2 : Kd} (ha : DP X c k1 a f) (hb : DP X c k2 b g) : DP X c .s (.BinOp a .Add b pos) (op2 addF f g) := dp_op op_add od_I0 ha hb
theorem dp_sub {k1 k2 : Kd} (ha : DP X c k1 a f) (hb : DP X c k2 b g) : DP X c .s (.BinOp a .Sub b pos) (op2 subF f g) := dp_op op_sub od_I0 ha hb
theorem od_mul {K : PySem.W.Frag} : OpD K .s (rI IntMulOk fun i j => .int (i * j)) mulF := od_I fun i j h => by
  simp only [Bool.and_eq_true, decide_eq_true_eq] at h
  exact IntMulOk.of_bits (bits_of h.1) (bits_of h.2)
theorem dp_mul {k1 k2 : Kd} (ha : DP X c k1 a f) (hb : DP X c k2 b g) : DP X c .s (.BinOp a .Mult b pos) (op2 mulF f g) := dp_op op_mulB od_mul ha hb
theorem od_mod {K : PySem.W.Frag} : OpD K .s (rI (fun _ j => 0 < j) fun i j => .int (i % j)) modF := od_I fun i j h => by simpa using h
theorem dp_mod {k1 k2 : Kd} (ha : DP X c k1 a f) (hb : DP X c k2 b g) : DP X c .s (.BinOp a .Mod b pos) (op2 modF f g) := dp_op op_mod od_mod ha hb
theorem op_fdivB : OpR X (binaryOp .FloorDiv) (rI (fun _ j => 0 < j ∧ j.natAbs < 2 ^ 1000) fun i j => .int (i / j)) := opI fun i j _ _ _ _ _ hc q => by
  obtain ⟨h1, h2⟩ := hc
  refine floordiv_int (by omega) (by rw [Int.fdiv_eq_ediv_of_nonneg i (by omega)]; exact q) (.inl (PyProof.noPylong_of_log2 ?_))
  have := (Nat.log2_lt (n := j.natAbs) (by omega)).mpr h2
  omega
theorem od_fdiv {K : PySem.W.Frag} : OpD K .s (rI (fun _ j => 0 < j ∧ j.natAbs < 2 ^ 1000) fun i j => .int (i / j)) fdivF := od_I fun i j h => by
  simp only [Bool.and_eq_true, decide_eq_true_eq] at h
  exact ⟨h.1, h.2⟩
theorem dp_fdiv {k1 k2 : Kd} (ha : DP X c k1 a f) (hb : DP X c k2 b g) : DP X c .s (.BinOp a .FloorDiv b pos) (op2 fdivF f g) := dp_op op_fdivB od_fdiv ha hb
theorem od_pow {K : PySem.W.Frag} : OpD K .s (rI CPow fun i j => .int (i ^ j.toNat)) powF := od_I fun i j h => by
  simp only [Bool.and_eq_true, decide_eq_true_eq] at h
  exact ⟨h.1.1, h.1.2, h.2⟩
theorem dp_pow {k1 k2 : Kd} (ha : DP X c k1 a f) (hb : DP X c k2 b g) : DP X c .s (.BinOp a .Pow b pos) (op2 powF f g) := dp_op op_pow od_pow ha hb
theorem de_add {f g : GE} (ha : DE X c .s a f) (hb : DE X c .s b g) : DE X c .s (.BinOp a .Add b pos) (op2E addF f g) := de_op op_add od_I0 ha hb
/-- -e -/
def negF : D → Option D
  | .int i => some (.int (-i))
  | _ => none
def neg1 (f : FE) : FE := fun ρ => (f ρ).bind negF
theorem dp_neg' (ha : DP X c k a f) : DP X c .s (.UnaryOp .USub a pos) (neg1 f) := fun hid ρ => PE.imp (pe_un un_neg (ha hid ρ)) fun σ H Q ⟨sr, d, hd, q⟩ => by
  unfold neg1 at hd
  cases e1 : f ρ with
  | none => rw [e1] at hd; cases hd
  | some z =>
    rw [e1] at hd
    have hd : negF z = some d := hd
    unfold negF at hd
    split at hd
    · cases hd
      refine ⟨sr, _, e1, fun v H1 s1 r1 => ?_⟩
      cases (RK.b k r1 fun a n => sr.fresh n).int
      exact ⟨_, rfl, q _ H1 s1 .int⟩
    · cases hd
/-- int(b) of a bool, an int -/
def intF : List D → Option D
  | [.int i] => some (.int i)
  | [.bl b] => some (.int (if b then 1 else 0))
  | _ => none
theorem cd_int : CallD X.K .s (fun xs H Q => (∃ i, xs = [.int i] ∧ Q (.int i) H) ∨ ∃ k, xs = [.bl k] ∧ Q (.int (if k then 1 else 0)) H) intF := by
  intro H hid vs ds d Q hf h r q
  unfold intF at h
  split at h
  · cases h
    obtain ⟨x, rfl, r1⟩ := Reps1.one r
    cases r1.int
    exact .inl ⟨_, rfl, q _ H (Same.refl _) .int⟩
  · cases h
    obtain ⟨x, rfl, r1⟩ := Reps1.one r
    cases r1.bl
    exact .inr ⟨_, rfl, q _ H (Same.refl _) .int⟩
  · cases h
end
end L2
set_option Elab.async false
set_option linter.all false
set_option maxRecDepth 100000
namespace L2
open PySem PySem.Spec PyProof.Rows
/-- a def that keeps its promise, as callers need it -/
structure Cl (P : Program) (w : World) (K : PySem.W.Frag) (mg : Str → Option Value) (base : Heap) (k : Nat) (x : Str) (ps : List Str) (sp : Sp) : Prop where
  ex : ∃ f fd, FnOk P w K mg base CX0 k f fd ps sp ∧ mg x = some (.ref f) ∧ PySem.W.keepIn K (.ref f) = true ∧ Binds K fd ps []
/-- the def as the top has made it -/
structure Df (K : PySem.W.Frag) (mg : Str → Option Value) (x : Str) (st : Stmt) (ps : List Str) : Prop where
  ex : ∃ f fd, Fun K x x st f fd ∧ mg x = some (.ref f) ∧ Binds K fd ps []
section
variable {P : Program} {w : World} {K : PySem.W.Frag} {mg : Str → Option Value} {base : Heap} {x : Str} {st : Stmt} {N ps : List Str} {k n : Nat} {t : FS} {kd : Kd}
theorem cl_pure (F : Df K mg x st ps) (S : FnScope N ps (defScope st)) (hkd : kd ≠ .b) (hn : ps.length = n)
    (body : ∀ (f : Addr) (cdv : Value) (A : Around) (outer : List Env) (s : Shared) (H : Hp) (hid : Hid) (E : XK), Room k (A.deeper (envOfC x (defScope st) s.heap.objs.size f cdv)) →
      DSs (cxOf CX0 P w K mg base N x (defScope st) f cdv A outer s H E).nox ⟨H, hid, fun _ => false⟩ kd (defBody st) t) :
    Cl P w K mg base (k + 1) x ps (spP K kd n (fnP kd N.length t)) := by
  obtain ⟨f, fd, F, hm, hb⟩ := F.ex
  subst hn
  exact ⟨f, fd, fn_pure F S hkd (body f), hm, F.kp, hb⟩
theorem cl_eff (F : Df K mg x st ps) (S : FnScope N ps (defScope st)) (hkd : kd ≠ .b) (hn : ps.length = n + 1)
    (body : ∀ (f : Addr) (cdv : Value) (A : Around) (outer : List Env) (s : Shared) (H : Hp) (hid : Hid) (a : Addr) (E : XK), Room k (A.deeper (envOfC x (defScope st) s.heap.objs.size f cdv)) →
      DSs (cxOf CX0 P w K mg base N x (defScope st) f cdv A outer s H E).nox ⟨H, hid, fun b => decide (b = a)⟩ kd (defBody st) t) :
    Cl P w K mg base (k + 1) x ps (spE K kd n (fnE kd N.length t)) := by
  obtain ⟨f, fd, F, hm, hb⟩ := F.ex
  exact ⟨f, fd, fn_eff F S hkd hn (body f), hm, F.kp, hb⟩
theorem Cl.law {y : Str} {M : List D → Option D} (C : Cl P w K mg base k x [y] (spP K .s 1 M)) (hM : ∀ ns : List Int, ns.length ≤ 63 → M [.scr (ns.map D.int)] = some (.bl true)) : Cl P w K mg base k x [y] (spLaw K) := by
  obtain ⟨f, fd, F, r⟩ := C.ex
  exact ⟨f, fd, fn_law F hM, r⟩
end
section
variable {X : Cx} {c : Ct} {e a b : Expr} {es rest : List Expr} {k : Kd} {pos p : Pos} {x : Str} {ps : List Str} {j n : Nat}
def nF (n : Nat) (P : List D → Option D) : List D → Option D := fun ds => if ds.length = n then P ds else none
theorem dp_cl {P : List D → Option D} {fs : FA} (C : Cl X.prog X.w X.K X.mg X.base j x ps (spP X.K k n P)) (hr : Room j X.A)
    (ha : DA X c (e :: es) fs) (hg : Gl X x := by rfl) (hdb : (x == ("__debug__" : Str)) = false := by decide) (he : starEach (e :: es) X.env = (false, eval e X.env) :: starEach es X.env := by rfl) (hpl : (backTo pos (starEach es X.env)).any (·.1) = false := by rfl) :
    DP X c k (.Call (.Name x p) (e :: es) [] pos) (callF (nF n P) fs) := by
  obtain ⟨f, fd, F, hm, hk, hb⟩ := C.ex
  exact dp_call F hr hm hk hb ha hg hdb he hpl
theorem de_cl (i : Nat) {y : Str} {py : Pos} {M : List D → List D → Option (D × List D)} {fs : GA} (C : Cl X.prog X.w X.K X.mg X.base j x ps (spE X.K k n M)) (hr : Room j X.A)
    (ha : DG X c es fs) (hkb : k ≠ .b := by decide) (hN : X.N[i]? = some y := by rfl) (hv : Vis X.env.scope y := by first | exact Or.inl rfl | exact Or.inr (Or.inl rfl) | exact Or.inr (Or.inr rfl)) (hd : (y == ("__debug__" : Str)) = false := by decide)
    (hcd : (y == ("__classdict__" : Str)) = false := by decide) (hs : starEach (.Name y py :: es) X.env = (false, eval (.Name y py) X.env) :: starEach es X.env := by rfl) (hg : Gl X x := by rfl) (hdb : (x == ("__debug__" : Str)) = false := by decide) (hpl : (backTo pos (starEach es X.env)).any (·.1) = false := by rfl) :
    DE X c k (.Call (.Name x p) (.Name y py :: es) [] pos) (callE i n M fs) := by
  obtain ⟨f, fd, F, hm, hk, hb⟩ := C.ex
  exact de_callE i F hr hm hk hb ha hkb hN hv hd hcd hs hg hdb hpl
end
end L2
set_option Elab.async false
set_option linter.all false
set_option maxRecDepth 100000
namespace L2
open PySem PySem.W PyProof.Rows

/-! ### the sort by asked pairs, under an order -/
structure Od (b : Nat → Nat → Bool) : Prop where
  tr : ∀ {i j k : Nat}, b j i = false → b k j = false → b k i = false
  as : ∀ {i j : Nat}, b i j = true → b j i = false
theorem Od.rf {b : Nat → Nat → Bool} (O : Od b) (i : Nat) : b i i = false := by
  cases h : b i i with
  | false => rfl
  | true => have := O.as h; rw [h] at this; exact this
structure Pm (N : Nat) (p : Array Nat) : Prop where
  perm : p.Perm (List.toArray (List.range N))
theorem Pm.size {N : Nat} {p : Array Nat} (h : Pm N p) : p.size = N := by rw [h.perm.size_eq]; simp
theorem Pm.lt {N : Nat} {p : Array Nat} (h : Pm N p) (hN : 0 < N) (k : Nat) : p.getD k 0 < N := by
  by_cases hk : k < p.size
  · have e : p.getD k 0 = p[k] := by simp [Array.getD, hk]
    rw [e]
    have : p[k] ∈ (List.toArray (List.range N)) := h.perm.mem_iff.mp (Array.getElem_mem hk)
    simpa using this
  · have e : p.getD k 0 = 0 := by simp [Array.getD, hk]
    rw [e]; exact hN
theorem at_eq {p q : Array Nat} {i j : Nat} (h : p[i]? = q[j]?) : p.getD i 0 = q.getD j 0 := by
  rw [Array.getD_eq_getD_getElem?, Array.getD_eq_getD_getElem?, h]
section
variable {b : Nat → Nat → Bool} {N : Nat} {cmp : Nat → Nat → (Bool → Shared → Prop) → Shared → Prop} {s : Shared}
def Srt (b : Nat → Nat → Bool) (p : Array Nat) (n : Nat) : Prop := ∀ i j, i ≤ j → j < n → b (p.getD j 0) (p.getD i 0) = false
def Fal (b : Nat → Nat → Bool) (p : Array Nat) (n : Nat) : Prop := ∀ i j, i ≤ j → j < n → b (p.getD i 0) (p.getD j 0) = false
theorem Srt.succ (O : Od b) {p : Array Nat} {n : Nat} (h : Srt b p n) (hn : 1 ≤ n) (e : b (p.getD n 0) (p.getD (n - 1) 0) = false) : Srt b p (n + 1) := fun i j hij hj => by
  by_cases h1 : j < n
  · exact h i j hij h1
  · have : j = n := by omega
    subst this
    by_cases h2 : i = j
    · subst h2; exact O.rf _
    · exact O.tr (h i (j - 1) (by omega) (by omega)) e
theorem Fal.succ (O : Od b) {p : Array Nat} {n : Nat} (h : Fal b p n) (hn : 1 ≤ n) (e : b (p.getD (n - 1) 0) (p.getD n 0) = false) : Fal b p (n + 1) := fun i j hij hj => by
  by_cases h1 : j < n
  · exact h i j hij h1
  · have : j = n := by omega
    subst this
    by_cases h2 : i = j
    · subst h2; exact O.rf _
    · exact O.tr e (h i (j - 1) (by omega) (by omega))
theorem Fal.congr (O : Od b) {p q : Array Nat} {n : Nat} (h : Fal b p n) (e : ∀ k, k < n → b (p.getD k 0) (q.getD k 0) = false ∧ b (q.getD k 0) (p.getD k 0) = false) : Fal b q n := fun i j hij hj =>
  O.tr (O.tr (e j hj).1 (h i j hij hj)) (e i (by omega)).2
theorem srt_one (O : Od b) (p : Array Nat) : Srt b p 1 := fun i j hij hj => by
  have : i = j := by omega
  subst this; exact O.rf _
theorem fal_one (O : Od b) (p : Array Nat) : Fal b p 1 := fun i j hij hj => by
  have : i = j := by omega
  subst this; exact O.rf _
theorem rev_at {p : Array Nat} {i j : Nat} (hj : j ≤ p.size) (k : Nat) : (kas_rev p i j).getD k 0 = if i ≤ k ∧ k < j then p.getD (i + j - 1 - k) 0 else p.getD k 0 := by
  have := getElem?_mirror_all (i := i) hj k
  unfold kas_rev
  split
  · rename_i h; rw [if_pos h] at this; exact at_eq this
  · rename_i h; rw [if_neg h] at this; exact at_eq this
theorem Pm.rev {p : Array Nat} (h : Pm N p) (i j : Nat) : Pm N (kas_rev p i j) := ⟨(mirror_perm _ _ _ _).trans h.perm⟩
variable (O : Od b) (hN : 0 < N) (hc : ∀ (i j : Nat) (C : Bool → Shared → Prop), i < N → j < N → C (b i j) s → cmp i j C s)
include O hN hc
theorem asc_wp {p : Array Nat} (P : Pm N p) {Q : Nat → Shared → Prop} : ∀ (f n : Nat), 1 ≤ n → n + f ≤ N → Srt b p n →
    (∀ m, n ≤ m → m ≤ n + f → Srt b p m → (m < n + f → b (p.getD m 0) (p.getD (m - 1) 0) = true) → Q m s) → (kas_asc p f n).kasWp cmp Q s
  | 0, n, h1, h2, hs, q => q n (Nat.le_refl _) (Nat.le_refl _) hs fun z => absurd z (Nat.lt_irrefl _)
  | f + 1, n, h1, h2, hs, q => by
    unfold kas_asc
    refine hc _ _ _ (P.lt hN _) (P.lt hN _) ?_
    cases e : b (p.getD n 0) (p.getD (n - 1) 0) with
    | true => simp only [if_true]; exact q n (Nat.le_refl _) (by omega) hs fun _ => e
    | false =>
      simp only [Bool.false_eq_true, if_false]
      exact asc_wp P f (n + 1) (by omega) (by omega) (hs.succ O h1 e) fun m a1 a2 a3 a4 => q m (by omega) (by omega) a3 fun z => a4 (by omega)
def Eqs (b : Nat → Nat → Bool) (p : Array Nat) (n q : Nat) : Prop := ∀ i, n - (q + 1) ≤ i → i < n → b (p.getD i 0) (p.getD (n - 1) 0) = false ∧ b (p.getD (n - 1) 0) (p.getD i 0) = false
omit hN hc in
theorem Eqs.rev {p : Array Nat} {n q : Nat} (hn : n ≤ p.size) (hq : q < n) (h : Eqs b p n q) (k : Nat) : b (p.getD k 0) ((kas_rev p (n - (q + 1)) n).getD k 0) = false ∧ b ((kas_rev p (n - (q + 1)) n).getD k 0) (p.getD k 0) = false := by
  rw [rev_at hn]
  split
  · rename_i hk
    have h1 := h k hk.1 hk.2
    have h2 := h (n - (q + 1) + n - 1 - k) (by omega) (by omega)
    exact ⟨O.tr h2.2 h1.1, O.tr h1.2 h2.1⟩
  · exact ⟨O.rf _, O.rf _⟩
theorem desc_wp {Q : Array Nat × Nat × Nat → Shared → Prop} : ∀ (f : Nat) (p : Array Nat) (n q : Nat), Pm N p → 1 ≤ n → n + f ≤ N → q < n → Fal b p n → Eqs b p n q →
    (∀ p' n' q', Pm N p' → n ≤ n' → n' ≤ n + f → q' < n' → Fal b p' n' → Eqs b p' n' q' → Q (p', n', q') s) → (kas_desc f p n q).kasWp cmp Q s
  | 0, p, n, q, P, h1, h2, hq, hf, he, k => k p n q P (Nat.le_refl _) (Nat.le_refl _) hq hf he
  | f + 1, p, n, q, P, h1, h2, hq, hf, he, k => by
    have hz := P.size
    have e0 : ∀ p' : Array Nat, Eqs b p' (n + 1) 0 := fun p' i a1 a2 => by
      have : i = n := by omega
      subst this; exact ⟨O.rf _, O.rf _⟩
    unfold kas_desc
    refine hc _ _ _ (P.lt hN _) (P.lt hN _) ?_
    cases e : b (p.getD n 0) (p.getD (n - 1) 0) with
    | true =>
      simp only [if_true]
      split
      · rename_i hq0
        have ev := he.rev O (by omega) hq
        have hf' : Fal b (kas_rev p (n - (q + 1)) n) n := hf.congr O fun k _ => ev k
        refine desc_wp f _ (n + 1) 0 (P.rev _ _) (by omega) (by omega) (by omega) (hf'.succ O h1 ?_) (e0 _) fun p' n' q' a1 a2 a3 => k p' n' q' a1 (by omega) (by omega)
        have e1 : (kas_rev p (n - (q + 1)) n).getD n 0 = p.getD n 0 := by rw [rev_at (by omega), if_neg (by omega)]
        rw [e1]
        exact O.tr (O.as e) (ev (n - 1)).2
      · exact desc_wp f p (n + 1) 0 P (by omega) (by omega) (by omega) (hf.succ O h1 (O.as e)) (e0 _) fun p' n' q' a1 a2 a3 => k p' n' q' a1 (by omega) (by omega)
    | false =>
      simp only [Bool.false_eq_true, if_false]
      refine hc _ _ _ (P.lt hN _) (P.lt hN _) ?_
      cases e2 : b (p.getD (n - 1) 0) (p.getD n 0) with
      | true => simp only [if_true]; exact k p n q P (Nat.le_refl _) (by omega) hq hf he
      | false =>
        simp only [Bool.false_eq_true, if_false]
        refine desc_wp f p (n + 1) (q + 1) P (by omega) (by omega) (by omega) (hf.succ O h1 e2) (fun i a1 a2 => ?_) fun p' n' q' b1 b2 b3 => k p' n' q' b1 (by omega) (by omega)
        rw [show n + 1 - 1 = n by omega]
        by_cases hi : i = n
        · subst hi; exact ⟨O.rf _, O.rf _⟩
        · have z := he i (by omega) (by omega)
          exact ⟨O.tr e2 z.1, O.tr z.2 e⟩
theorem tail3_wp {p : Array Nat} (P : Pm N p) {n : Nat} (h1 : 1 ≤ n) (hn : n ≤ N) (hf : Fal b p n) {Q : Nat × Array Nat → Shared → Prop} (q : ∀ m p', Pm N p' → 1 ≤ m → m ≤ N → Srt b p' m → Q (m, p') s) : (kas_tail3 n N p).kasWp cmp Q s := by
  unfold kas_tail3
  rw [KasT.kasWp_bind]
  have hz := P.size
  have hs : Srt b (kas_rev p 0 n) n := fun i j hij hj => by
    rw [rev_at (by omega), rev_at (by omega), if_pos (by omega), if_pos (by omega)]
    exact hf _ _ (by omega) (by omega)
  exact asc_wp O hN hc (P.rev _ _) (N - n) n h1 (by omega) hs fun m a1 a2 a3 _ => q m _ (P.rev _ _) (by omega) (by omega) a3
theorem descPart_wp {p : Array Nat} (P : Pm N p) {n : Nat} (h1 : 1 ≤ n) (hn : n + 1 ≤ N) (hf : Fal b p (n + 1)) {Q : Nat × Array Nat → Shared → Prop} (q : ∀ m p', Pm N p' → 1 ≤ m → m ≤ N → Srt b p' m → Q (m, p') s) : (kas_descPart n N p).kasWp cmp Q s := by
  unfold kas_descPart
  rw [KasT.kasWp_bind]
  refine desc_wp O hN hc (N - (n + 1)) p (n + 1) 0 P (by omega) (by omega) (by omega) hf (fun i a1 a2 => ?_) fun p' n' q' a1 a2 a3 a4 a5 a6 => ?_
  · have : i = n := by omega
    subst this; exact ⟨O.rf _, O.rf _⟩
  · dsimp only
    have hz := a1.size
    split
    · exact tail3_wp O hN hc (a1.rev _ _) (by omega) (by omega) (a5.congr O fun k _ => a6.rev O (by omega) a4 k) q
    · exact tail3_wp O hN hc a1 (by omega) (by omega) a5 q
theorem count_wp {p : Array Nat} (P : Pm N p) {Q : Nat × Array Nat → Shared → Prop} (q : ∀ m p', Pm N p' → 1 ≤ m → m ≤ N → Srt b p' m → Q (m, p') s) : (kas_count N p).kasWp cmp Q s := by
  unfold kas_count
  rw [KasT.kasWp_bind]
  have hz := P.size
  refine asc_wp O hN hc P (N - 1) 1 (Nat.le_refl _) (by omega) (srt_one O p) fun m a1 a2 a3 a4 => ?_
  split
  · exact q m p P a1 (by omega) a3
  · rename_i hm
    have hm' : m ≠ N := by simpa using hm
    have lt := a4 (by omega)
    split
    · refine hc _ _ _ (P.lt hN _) (P.lt hN _) ?_
      cases e : b (p.getD 0 0) (p.getD (m - 1) 0) with
      | true => simp only [if_true]; exact q m p P a1 (by omega) a3
      | false =>
        simp only [Bool.false_eq_true, if_false]
        have eq : ∀ i j, i < m → j < m → b (p.getD i 0) (p.getD j 0) = false := fun i j hi hj => O.tr (O.tr (a3 j (m - 1) (by omega) (by omega)) e) (a3 0 i (by omega) hi)
        have hr : ∀ i, i < m → (kas_rev p 0 m).getD i 0 = p.getD (0 + m - 1 - i) 0 := fun i hi => by rw [rev_at (by omega), if_pos (by omega)]
        refine descPart_wp O hN hc (P.rev _ _) a1 (by omega) (Fal.succ O (fun i j hij hj => ?_) a1 ?_) q
        · rw [hr i (by omega), hr j hj]; exact eq _ _ (by omega) (by omega)
        · have e1 : (kas_rev p 0 m).getD m 0 = p.getD m 0 := by rw [rev_at (by omega), if_neg (by omega)]
          rw [e1, hr (m - 1) (by omega)]
          exact O.tr (O.as lt) (eq _ _ (by omega) (by omega))
    · have : m = 1 := by omega
      subst this
      exact descPart_wp O hN hc P (Nat.le_refl _) (by omega) ((fal_one O p).succ O (Nat.le_refl _) (O.as lt)) q
theorem place_wp {p : Array Nat} (P : Pm N p) {k : Nat} (hs : Srt b p k) {Q : Nat → Shared → Prop} : ∀ (f l r : Nat), l ≤ r → r ≤ k → r - l ≤ f → (∀ i, i < l → b (p.getD k 0) (p.getD i 0) = false) → (∀ i, r ≤ i → i < k → b (p.getD k 0) (p.getD i 0) = true) →
    (∀ m, m ≤ k → (∀ i, i < m → b (p.getD k 0) (p.getD i 0) = false) → (∀ i, m ≤ i → i < k → b (p.getD k 0) (p.getD i 0) = true) → Q m s) → (kas_place p k f l r).kasWp cmp Q s
  | 0, l, r, h1, h2, h3, a, c, q => q l (by omega) a fun i z => c i (by omega)
  | f + 1, l, r, h1, h2, h3, a, c, q => by
    unfold kas_place
    split
    · exact q l (by omega) a fun i z => c i (by omega)
    · rename_i hlr
      refine hc _ _ _ (P.lt hN _) (P.lt hN _) ?_
      cases e : b (p.getD k 0) (p.getD ((l + r) / 2) 0) with
      | true =>
        simp only [if_true]
        refine place_wp P hs f l _ (by omega) (by omega) (by omega) a (fun i z1 z2 => ?_) q
        cases e2 : b (p.getD k 0) (p.getD i 0) with
        | true => rfl
        | false =>
          have := O.tr (hs ((l + r) / 2) i z1 z2) e2
          rw [e] at this; exact this.symm
      | false =>
        simp only [Bool.false_eq_true, if_false]
        exact place_wp P hs f _ r (by omega) (by omega) (by omega) (fun i z => O.tr (hs i ((l + r) / 2) (by omega) (by omega)) e) c q
omit hN hc in
theorem bubble_srt {p : Array Nat} {k m : Nat} (hk : k < p.size) (hs : Srt b p k) (hm : m ≤ k) (a : ∀ i, i < m → b (p.getD k 0) (p.getD i 0) = false) (c : ∀ i, m ≤ i → i < k → b (p.getD k 0) (p.getD i 0) = true) : Srt b (bubble p k (k - m)) (k + 1) := by
  have g : ∀ j, (bubble p k (k - m)).getD j 0 = if j = m then p.getD k 0 else if m < j ∧ j ≤ k then p.getD (j - 1) 0 else p.getD j 0 := fun j => by
    have := getElem?_bubble hk (k - m) (by omega) j
    rw [show k - (k - m) = m by omega] at this
    by_cases h : j = m
    · rw [if_pos h] at this ⊢; exact at_eq this
    · rw [if_neg h] at this ⊢
      by_cases h2 : m < j ∧ j ≤ k
      · rw [if_pos h2] at this ⊢; exact at_eq this
      · rw [if_neg h2] at this ⊢; exact at_eq this
  intro i j hij hj
  rw [g, g]
  by_cases ej : j = m
  · rw [if_pos ej]
    by_cases ei : i = m
    · rw [if_pos ei]; exact O.rf _
    · rw [if_neg ei, if_neg (by omega)]; exact a i (by omega)
  · rw [if_neg ej]
    by_cases ei : i = m
    · rw [if_pos ei, if_pos (by omega)]; exact O.as (c _ (by omega) (by omega))
    · rw [if_neg ei]
      by_cases hj2 : m < j ∧ j ≤ k
      · rw [if_pos hj2]
        by_cases hi2 : m < i ∧ i ≤ k
        · rw [if_pos hi2]; exact hs _ _ (by omega) (by omega)
        · rw [if_neg hi2]; exact hs _ _ (by omega) (by omega)
      · rw [if_neg hj2, if_neg (by omega)]; exact hs _ _ hij (by omega)
theorem bin_wp {Q : Array Nat → Shared → Prop} : ∀ (f : Nat) (p : Array Nat) (k : Nat), Pm N p → 1 ≤ k → k + f = N → Srt b p k → (∀ p', Pm N p' → Srt b p' N → Q p' s) → (kas_bin f p k).kasWp cmp Q s
  | 0, p, k, P, h1, h2, hs, q => q p P (by rw [← h2]; exact hs)
  | f + 1, p, k, P, h1, h2, hs, q => by
    unfold kas_bin
    rw [KasT.kasWp_bind]
    have hz := P.size
    refine place_wp O hN hc P hs k 0 k (Nat.zero_le _) (Nat.le_refl _) (by omega) (fun i z => absurd z (by omega)) (fun i z1 z2 => absurd z2 (by omega)) fun m a1 a2 a3 => ?_
    exact bin_wp f _ (k + 1) ⟨(bubble_perm _ _ _).trans P.perm⟩ (by omega) (by omega) (bubble_srt O (by omega) hs a1 a2 a3) q
theorem sort_wp {Q : Array Nat → Shared → Prop} (q : ∀ p, Pm N p → Srt b p N → Q p s) : (kas_sort N).kasWp cmp Q s := by
  unfold kas_sort
  rw [KasT.kasWp_bind]
  refine count_wp O hN hc ⟨Array.Perm.refl _⟩ fun m p' P h1 h2 hs => ?_
  dsimp only
  split
  · exact bin_wp O hN hc _ p' _ P (by omega) (by omega) (by rw [show max m 1 = m by omega]; exact hs) q
  · have : m = N := by omega
    subst this
    exact q p' P hs
end
end L2
set_option Elab.async false
set_option linter.all false
set_option maxRecDepth 100000
namespace L2
open PySem PySem.W PySem.Calls PyProof.Rows

section
variable {prog : Program} {w : World} {A : Around} {E : Value → Shared → Prop} {s : Shared}
/-- list.sort of a list whose items are asked in pairs, nothing else changed -/
theorem sort_asked {a : Addr} {us : List Value} {n : Nat} {P : PySem.Fin → Shared → Prop} (ho : s.heap.get? a = some (seqObj "list" us.toArray n)) (hz : us.length < 64)
    (few : us.length < 2 → P (.done (.ret .none)) { s with heap := sortedHeap s.heap a us us.toArray })
    (many : 2 ≤ us.length → ∀ g : Heap, (∀ c o, c ≠ a → s.heap.get? c = some o → g.get? c = some o) → wpAny (model prog w) A (keyKind' us.toArray) (fun κ t => t = { s with heap := g } ∧
      (kas_sort us.length).kasWp (kas_ask prog w A κ us) (fun p t' => t' = t ∧ P (.done (.ret .none)) { s with heap := sortedHeap s.heap a us (List.toArray (p.toList.map fun i => us.getD i Value.none)) }) t) (fun _ _ => False) { s with heap := g }) :
    wpAny (model prog w) A (Builtin.«list.sort» ⟨[.ref a], []⟩) P E s := by
  have la : a < s.heap.objs.size := Heap.lt_size ho
  have z1 : us.toArray.size ≤ sizeLine := by rw [List.size_toArray, sizeLine_eq]; omega
  obtain ⟨c1, h1⟩ : ∃ c, (s.heap.update a (Obj.mapSeq fun _ => #[])).get? a = some (seqObj "list" #[] c) := ⟨_, get?_update_seq ho (fun _ => #[])⟩
  have h2 : (((s.heap.update a (Obj.mapSeq fun _ => #[])).push (seqObj "tuple" us.toArray 0)).push (seqObj "list" #[] 0)).get? a = some (seqObj "list" #[] c1) := Heap.get?_push_of_some _ (Heap.get?_push_of_some _ h1)
  have kp : ∀ c o, c ≠ a → s.heap.get? c = some o → (((s.heap.update a (Obj.mapSeq fun _ => #[])).push (seqObj "tuple" us.toArray 0)).push (seqObj "list" #[] 0)).get? c = some o := fun c o nc e =>
    Heap.get?_push_of_some _ (Heap.get?_push_of_some _ (by rw [Heap.get?_update_ne _ _ _ _ nc]; exact e))
  rw [list_sort_plain]
  refine wpAny_bind (listItems_at ho rfl (wpAny_bind (listUpdate_at ho rfl ?_ z1 (Nat.zero_le _))))
  refine wpAny_bind (seqEpoch_at h1 rfl (wpAny_bind (wpAny_newTuple ?_ (show us.length ≤ _ by rw [sizeLine_eq]; omega))))
  refine wpAny_bind (wpAny_newList (wpAny_holding ?_) (Nat.zero_le _))
  show wpAny (model prog w) A _ P E { s with heap := ((s.heap.update a (Obj.mapSeq fun _ => #[])).push (seqObj "tuple" us.toArray 0)).push (seqObj "list" #[] 0) }
  dsimp only
  by_cases hs : us.toArray.size < 2
  · rw [if_pos hs, if_pos hs]
    refine wpAny_bind (wpAny_pure ?_)
    rw [StateT.run_pure]
    refine wpAny_bind (wpAny_pure ?_)
    dsimp only
    have ea : Array.map (fun x => x.2) (us.toArray.zip us.toArray) = us.toArray := by
      apply Array.toList_inj.mp
      simp [List.map_snd_zip]
    refine wpAny_bind (seqEpoch_at h2 rfl (wpAny_bind (listUpdate_at h2 rfl ?_ (Nat.zero_le _) ?_)))
    · simp only [bne_self_eq_false, Bool.false_eq_true, if_false]
      refine wpAny_pure ?_
      have := few (by simpa using hs)
      show P _ { s with heap := sortedHeap s.heap a us (Array.map (fun x => x.2) (us.toArray.zip us.toArray)) }
      rw [ea]; exact this
    · show (Array.map (fun x => x.2) (us.toArray.zip us.toArray)).size ≤ _
      rw [ea]; exact Nat.le_succ_of_le z1
  · rw [if_neg hs, if_neg hs]
    have h2' : 2 ≤ us.length := by simpa using hs
    refine wpAny_bind (wpAny_mono (many h2' _ kp) (fun κ t ⟨et, ht⟩ => ?_) fun _ _ x => x.elim)
    subst et
    refine wpAny_bind (wpAny_mono (kat_run (ks := us) (vs := us) (G := fun p t' => t' = _ ∧ P (.done (.ret .none)) { s with heap := sortedHeap s.heap a us (List.toArray (p.toList.map fun i => us.getD i Value.none)) })
      (Q := fun st t' => t' = _ ∧ failedOf st = none ∧ ∃ p : Array Nat, p.size = us.length ∧ (arrOf st).map (·.2) = List.toArray (p.toList.map fun i => us.getD i Value.none) ∧ P (.done (.ret .none)) { s with heap := sortedHeap s.heap a us (List.toArray (p.toList.map fun i => us.getD i Value.none)) })
      rfl h2' hz (fun p st t' a1 a2 a3 a4 => ⟨a4.1, a3, p, a1, kat_snds rfl a2, a4.2⟩) ht) (fun r t' hr => ?_) fun _ _ x => x)
    obtain ⟨u, st⟩ := r
    obtain ⟨e1, hf, p, hp, ho', hP⟩ := hr
    subst e1
    dsimp only at hf ho' ⊢
    rw [ho', hf]
    have zz : (List.toArray (p.toList.map fun i => us.getD i Value.none)).size ≤ sizeLine := by rw [List.size_toArray, List.length_map, Array.length_toList, hp, sizeLine_eq]; omega
    refine wpAny_bind (seqEpoch_at h2 rfl (wpAny_bind (listUpdate_at h2 rfl ?_ (Nat.zero_le _) (Nat.le_succ_of_le zz))))
    simp only [bne_self_eq_false, Bool.false_eq_true, if_false]
    exact wpAny_pure hP
end
end L2
set_option Elab.async false
set_option linter.all false
set_option maxRecDepth 100000
namespace L2
open PySem PySem.W PySem.Spec PyProof.Rows

/-! ### orders, and sorting by insertion -/
def lexB : List Int → List Int → Bool
  | _, [] => false
  | [], _ :: _ => true
  | x :: xs, y :: ys => if x = y then lexB xs ys else decide (x < y)
structure Lt {α : Type} (lt : α → α → Bool) : Prop where
  tr : ∀ {a b c : α}, lt b a = false → lt c b = false → lt c a = false
  as : ∀ {a b : α}, lt a b = true → lt b a = false
  eq : ∀ {a b : α}, lt a b = false → lt b a = false → a = b
theorem lexB_as : ∀ {a b : List Int}, lexB a b = true → lexB b a = false
  | [], [], h => by simp [lexB] at h
  | x :: xs, [], h => by simp [lexB] at h
  | [], y :: ys, h => by simp [lexB]
  | x :: xs, y :: ys, h => by
    unfold lexB at h ⊢
    by_cases e : x = y
    · subst e; simp only [if_true] at h ⊢; exact lexB_as h
    · rw [if_neg e] at h; rw [if_neg (Ne.symm e)]; simp only [decide_eq_true_eq, decide_eq_false_iff_not] at *; omega
theorem lexB_eq : ∀ {a b : List Int}, lexB a b = false → lexB b a = false → a = b
  | [], [], _, _ => rfl
  | x :: xs, [], _, h => by simp [lexB] at h
  | [], y :: ys, h, _ => by simp [lexB] at h
  | x :: xs, y :: ys, h, h' => by
    unfold lexB at h h'
    by_cases e : x = y
    · subst e; simp only [if_true] at h h'; rw [lexB_eq h h']
    · rw [if_neg e] at h; rw [if_neg (Ne.symm e)] at h'; simp only [decide_eq_false_iff_not] at *; omega
theorem lexB_tr : ∀ {a b c : List Int}, lexB b a = false → lexB c b = false → lexB c a = false
  | [], _, _, _, _ => by unfold lexB; rfl
  | x :: xs, [], _, h, _ => by simp [lexB] at h
  | x :: xs, y :: ys, [], _, h => by simp [lexB] at h
  | x :: xs, y :: ys, z :: zs, h1, h2 => by
    unfold lexB at h1 h2 ⊢
    by_cases e1 : y = x
    · subst e1
      simp only [if_true] at h1
      by_cases e2 : z = y
      · subst e2; simp only [if_true] at h2 ⊢; exact lexB_tr h1 h2
      · rw [if_neg e2] at h2 ⊢; exact h2
    · rw [if_neg e1] at h1
      by_cases e2 : z = y
      · subst e2; rw [if_neg e1]; exact h1
      · rw [if_neg e2] at h2
        simp only [decide_eq_false_iff_not] at h1 h2
        rw [if_neg (by omega)]
        simp only [decide_eq_false_iff_not]; omega
theorem lt_L : Lt lexB := ⟨lexB_tr, lexB_as, lexB_eq⟩
def insG {α : Type} (lt : α → α → Bool) (x : α) : List α → List α
  | [] => [x]
  | y :: r => if lt x y = true then x :: y :: r else y :: insG lt x r
def isortG {α : Type} (lt : α → α → Bool) : List α → List α
  | [] => []
  | x :: r => insG lt x (isortG lt r)
section
variable {α : Type} {lt : α → α → Bool}
theorem insG_perm (x : α) : ∀ l : List α, (insG lt x l).Perm (x :: l)
  | [] => .refl _
  | y :: r => by
    unfold insG
    split
    · exact .refl _
    · exact ((insG_perm x r).cons y).trans (.swap _ _ _)
theorem isortG_perm : ∀ l : List α, (isortG lt l).Perm l
  | [] => .refl _
  | x :: r => (insG_perm x _).trans ((isortG_perm r).cons x)
theorem insG_pw (O : Lt lt) (x : α) : ∀ {l : List α}, l.Pairwise (fun a b => lt b a = false) → (insG lt x l).Pairwise (fun a b => lt b a = false)
  | [], _ => by simp [insG]
  | y :: r, h => by
    obtain ⟨h1, h2⟩ := List.pairwise_cons.mp h
    unfold insG
    split
    · rename_i e
      refine List.pairwise_cons.mpr ⟨fun z hz => ?_, h⟩
      rcases List.mem_cons.mp hz with rfl | hz
      · exact O.as e
      · exact O.tr (O.as e) (h1 z hz)
    · rename_i e
      refine List.pairwise_cons.mpr ⟨fun z hz => ?_, insG_pw O x h2⟩
      rcases List.mem_cons.mp ((insG_perm x r).mem_iff.mp hz) with rfl | hz
      · simpa using e
      · exact h1 z hz
theorem isortG_pw (O : Lt lt) : ∀ l : List α, (isortG lt l).Pairwise (fun a b => lt b a = false)
  | [] => .nil
  | x :: r => insG_pw O x (isortG_pw O r)
theorem isortG_eq (O : Lt lt) {l l' : List α} (p : l'.Perm l) (s : l'.Pairwise (fun a b => lt b a = false)) : l' = isortG lt l :=
  List.Perm.eq_of_pairwise (fun a b _ _ h1 h2 => O.eq h2 h1) s (isortG_pw O l) (p.trans (isortG_perm l).symm)
theorem range_getD (ts : List α) (d : α) : (List.range ts.length).map (fun i => ts.getD i d) = ts := List.ext_getElem? fun i => by
  by_cases hi : i < ts.length
  · simp [hi]
  · simp [hi]
theorem pick_sorted (O : Lt lt) {ts : List α} {d : α} {p : Array Nat} (P : Pm ts.length p) (S : Srt (fun i j => lt (ts.getD i d) (ts.getD j d)) p ts.length) : p.toList.map (fun i => ts.getD i d) = isortG lt ts := by
  refine isortG_eq O ?_ ?_
  · have h1 : p.toList.Perm (List.range ts.length) := by simpa using (Array.perm_iff_toList_perm.mp P.perm)
    have h2 := h1.map (fun i => ts.getD i d)
    rw [range_getD] at h2
    exact h2
  · rw [List.pairwise_map, List.pairwise_iff_getElem]
    intro i j hi hj hij
    have hz := P.size
    have e := S i j (by omega) (by simpa [hz] using hj)
    have g : ∀ k (hk : k < p.toList.length), p.getD k 0 = p.toList[k] := fun k hk => by
      have : k < p.size := by simpa using hk
      simp [Array.getD, this]
    rw [g i hi, g j hj] at e
    exact e
theorem od_of (O : Lt lt) (f : Nat → α) : Od (fun i j => lt (f i) (f j)) := ⟨fun h1 h2 => O.tr h1 h2, fun h => O.as h⟩
end

/-! ### what may be sorted -/
def tpI (k : List Int) : D := .tup (k.map D.int)
theorem intsD_of (ns : List Int) : intsD (ns.map D.int) = some ns := by
  induction ns with
  | nil => rfl
  | cons n ns ih => show (intsD (ns.map D.int)).map (n :: ·) = _; rw [ih]; rfl
theorem isortG_short {α : Type} {lt : α → α → Bool} {l : List α} (h : l.length < 2) : isortG lt l = l := by
  match l, h with
  | [], _ => rfl
  | [_], _ => rfl
end L2
set_option Elab.async false
set_option linter.all false
set_option maxRecDepth 100000
namespace L2
open PySem PySem.W PySem.Spec PyProof.Rows
theorem vals_getD {xs : List V} {us : List Value} (r : Vals xs us) (i : Nat) : RelV (xs.getD i .non) (us.getD i Value.none) := by
  cases e : xs[i]? with
  | none =>
    have hl := r.length
    have : us[i]? = none := by simp at e ⊢; omega
    simp [List.getD, e, this]; rfl
  | some x =>
    obtain ⟨u, h1, h2⟩ := r.get e
    simp [List.getD, e, h1]; exact h2
theorem vals_pick {xs : List V} {us : List Value} (r : Vals xs us) : ∀ ix : List Nat, Vals (ix.map fun i => xs.getD i .non) (ix.map fun i => us.getD i Value.none)
  | [] => .nil
  | i :: l => .cons (vals_getD r i) (vals_pick r l)
/-- values that are ints -/
def IntV : List Value → List Int → Prop := Paired fun u i => ∃ t, u = Value.int i t
section
variable {prog : Program} {w : World} {A : Around} {s : Shared} {b fin : Bool} {Q : Bool → Shared → Prop}
theorem lex_ask : ∀ {us ws : List Value} {ns ms : List Int} (i : Nat), IntV us ns → IntV ws ms → fin = decide (ns.length < ms.length) → Q (lexB ns ms) s → KatLex prog w A b fin Q (us.zip ws) i s
  | _, _, [], [], i, .nil, .nil, e, q => by subst e; exact kat_nil q
  | _, _, [], m :: ms, i, .nil, .cons _ _, e, q => by subst e; simp only [List.zip_nil_left]; refine kat_nil ?_; simpa [lexB] using q
  | _, _, n :: ns, [], i, .cons _ _, .nil, e, q => by subst e; simp only [List.zip_nil_right]; refine kat_nil ?_; simpa [lexB] using q
  | _, _, n :: ns, m :: ms, i, .cons h1 r1, .cons h2 r2, e, q => by
    obtain ⟨t, rfl⟩ := h1
    obtain ⟨t', rfl⟩ := h2
    rw [List.zip_cons_cons]
    refine kat_cons (wpAny_eqBool_int (kat_go (fun he => ?_) fun he => ?_))
    · have : n = m := by simpa using he
      subst this
      refine kat_yes (lex_ask (i + 1) r1 r2 (by rw [e]; simp) ?_)
      simpa [lexB] using q
    · have : n ≠ m := by simpa using he
      have q' : Q (decide (n < m)) s := by simpa [lexB, this] using q
      refine kat_no ?_
      cases (b && i == 0) with
      | true => exact oneLt_int q'
      | false => exact kat_one _ _ (lt_int q')
end
end L2
set_option Elab.async false
set_option linter.all false
set_option maxRecDepth 100000
namespace L2
open PySem PySem.Spec PyProof.Rows
section
variable {X : Cx} {c : Ct} {e a b : Expr} {es rest : List Expr} {f g : GE} {fs : GA} {k : Kd} {pos p : Pos} {x : Str} {id T : String} {r : List V → Hp → VK → Prop} {F : List D → Option D} {ps : List Str} {j n : Nat}
/-- built-ins with effects in their arguments -/
theorem Reps.b1 {K : PySem.W.Frag} {H W : Hp} : ∀ {vs : List V} {ds : List D}, Reps K W vs ds → Reps1 K H W vs ds
  | _, _, .nil => .nil
  | _, _, .cons r t => .cons (.inl r) (Reps.b1 t)
/-! tests with effects -/
end
section
variable {X : Cx} {c : Ct} {k : Kd} {t u : FS} {e : Expr} {pos : Pos}
end
end L2
set_option Elab.async false
set_option linter.all false
set_option maxRecDepth 100000
namespace L2
open PySem PySem.Spec PyProof.Rows

/-! ### comprehensions of two generators -/
section
variable {prog : Program} {w : World} {A : Around} {R : Result → Shared → Prop} {s : Shared} {elt t1 t2 i1 i2 : Expr} {ifs1 ifs2 : List Expr} {scope : Scope} {pos : Pos} {it acc : Value} {env : Env}
theorem turn_in : compTurn (.ListComp elt [⟨t1, i1, ifs1, 0⟩, ⟨t2, i2, ifs2, 0⟩] scope pos) 1 it acc env = (do
      standAt i2.pos
      match ← pyNext it with
      | none => pure (.done .next)
      | some v =>
        letOwnedTupleGo t2 it v
        assign t2 env v
        let ok ← testsOf ifs2 env
        if ok = true then do (do let _ ← call (.builtin "list.append") [acc, ← eval elt env]); again (.compLoop (.ListComp elt [⟨t1, i1, ifs1, 0⟩, ⟨t2, i2, ifs2, 0⟩] scope pos) 1 it acc env)
        else again (.compLoop (.ListComp elt [⟨t1, i1, ifs1, 0⟩, ⟨t2, i2, ifs2, 0⟩] scope pos) 1 it acc env)) := by rfl
theorem turn_out : compTurn (.ListComp elt [⟨t1, i1, ifs1, 0⟩, ⟨t2, i2, ifs2, 0⟩] scope pos) 0 it acc env = (do
      standAt i1.pos
      match ← pyNext it with
      | none => pure (.done .next)
      | some v =>
        letOwnedTupleGo t1 it v
        assign t1 env v
        let ok ← testsOf ifs1 env
        if ok = true then do
          let x ← eval i2 env
          standAt i2.pos
          let x ← foldedSetIterable i2 env x
          let _ ← runOwn (.compStart (.ListComp elt [⟨t1, i1, ifs1, 0⟩, ⟨t2, i2, ifs2, 0⟩] scope pos) 1 (← holding [x] (pyIter x)) acc env) env
          again (.compLoop (.ListComp elt [⟨t1, i1, ifs1, 0⟩, ⟨t2, i2, ifs2, 0⟩] scope pos) 0 it acc env)
        else again (.compLoop (.ListComp elt [⟨t1, i1, ifs1, 0⟩, ⟨t2, i2, ifs2, 0⟩] scope pos) 0 it acc env)) := by rfl
/-- what a turn does with an item that is let by -/
abbrev TAct := (Shared → Prop) → Shared → Prop
def emitW (prog : Program) (w : World) (A : Around) (elt : Expr) (acc : Value) (env : Env) : TAct := fun Q s =>
  wpAny (model prog w) A (eval elt env) (fun x s₄ => wpAny (model prog w) A (call (.builtin "list.append") [acc, x]) (fun _ s₅ => Q s₅) (fun _ _ => False) s₄) (fun _ _ => False) s
def innerW (prog : Program) (w : World) (A : Around) (e iter : Expr) (acc : Value) (env : Env) : TAct := fun Q s =>
  wpAny (model prog w) A (eval iter env) (fun x s₄ => wpAny (model prog w) A (pyIter x) (fun it s₅ => codeAny (model prog w) A (.compStart e 1 it acc env) (fun r s' => match r with
    | .ok _ => Q s'
    | .error _ => False) s₅) (fun _ _ => False) s₄) (fun _ _ => False) s
def TurnP (prog : Program) (w : World) (A : Around) (code : Code) (tg : Expr) (ifs : List Expr) (it : Value) (env : Env) (TA : TAct) (R : Result → Shared → Prop) : Prop := ∀ (I : Nat → Shared → Prop),
  (∀ n s, I n s → wpAny (model prog w) A (pyNext it) (fun r s₁ => match r with
      | none => R (.ok .next) s₁
      | some v => wpAny (model prog w) A (letOwnedTupleGo tg it v) (fun _ s₁ => wpAny (model prog w) A (assign tg env v) (fun _ s₂ =>
          wpAny (model prog w) A (testsOf ifs env) (fun ok s₃ =>
            if ok = true then TA (fun s₅ => ∃ m, m < n ∧ I m s₅) s₃
            else ∃ m, m < n ∧ I m s₃) (fun _ _ => False) s₂) (fun _ _ => False) s₁) (fun _ _ => False) s₁) (fun _ _ => False) s) →
  ∀ (n : Nat) (s : Shared), I n s → codeAny (model prog w) A code R s
theorem turnP_in : TurnP prog w A (.compLoop (.ListComp elt [⟨t1, i1, ifs1, 0⟩, ⟨t2, i2, ifs2, 0⟩] scope pos) 1 it acc env) t2 ifs2 it env (emitW prog w A elt acc env) R := by
  intro I turn n s h
  have no : ∀ {E' : Value → Shared → Prop} (x : Value) (s : Shared), False → E' x s := fun _ _ z => z.elim
  refine codeAny_loop rfl I (fun n s hI => ?_) n h
  show wpAny _ A ((compTurn (.ListComp elt [⟨t1, i1, ifs1, 0⟩, ⟨t2, i2, ifs2, 0⟩] scope pos) 1 it acc env).onRaise (fun x => do noteFrame x env; theTreesLotGoes x)) _ _ s
  refine wpAny_noted ?_
  rw [turn_in]
  refine wpAny_bind (wpAny_standAt (wpAny_bind (wpAny_mono (turn n s hI) (fun r s₁ h₁ => ?_) no)))
  cases r with
  | none => exact wpAny_pure h₁
  | some v =>
    refine wpAny_bind (wpAny_mono h₁ (fun _ s₁ h₁ => wpAny_bind (wpAny_mono h₁ (fun _ s₂ h₂ => wpAny_bind (wpAny_mono h₂ (fun ok s₃ h₃ => ?_) no)) no)) no)
    cases ok with
    | false => exact wpAny_pure ⟨rfl, h₃⟩
    | true => exact wpAny_bind (wpAny_bind (wpAny_mono h₃ (fun x s₄ h₄ => wpAny_bind (wpAny_mono h₄ (fun _ s₅ h₅ => wpAny_pure (wpAny_pure ⟨rfl, h₅⟩)) no)) no))
theorem turnP_out (hset : ∀ x, foldedSetIterable i2 env x = pure x) : TurnP prog w A (.compLoop (.ListComp elt [⟨t1, i1, ifs1, 0⟩, ⟨t2, i2, ifs2, 0⟩] scope pos) 0 it acc env) t1 ifs1 it env (innerW prog w A (.ListComp elt [⟨t1, i1, ifs1, 0⟩, ⟨t2, i2, ifs2, 0⟩] scope pos) i2 acc env) R := by
  intro I turn n s h
  have no : ∀ {E' : Value → Shared → Prop} (x : Value) (s : Shared), False → E' x s := fun _ _ z => z.elim
  refine codeAny_loop rfl I (fun n s hI => ?_) n h
  show wpAny _ A ((compTurn (.ListComp elt [⟨t1, i1, ifs1, 0⟩, ⟨t2, i2, ifs2, 0⟩] scope pos) 0 it acc env).onRaise (fun x => do noteFrame x env; theTreesLotGoes x)) _ _ s
  refine wpAny_noted ?_
  rw [turn_out]
  refine wpAny_bind (wpAny_standAt (wpAny_bind (wpAny_mono (turn n s hI) (fun r s₁ h₁ => ?_) no)))
  cases r with
  | none => exact wpAny_pure h₁
  | some v =>
    refine wpAny_bind (wpAny_mono h₁ (fun _ s₁ h₁ => wpAny_bind (wpAny_mono h₁ (fun _ s₂ h₂ => wpAny_bind (wpAny_mono h₂ (fun ok s₃ h₃ => ?_) no)) no)) no)
    cases ok with
    | false => exact wpAny_pure ⟨rfl, h₃⟩
    | true =>
      refine wpAny_bind (wpAny_mono h₃ (fun x s₄ h₄ => wpAny_bind (wpAny_standAt (wpAny_bind (wpAny_of_eq (hset x) (wpAny_bind (wpAny_holding (wpAny_mono h₄ (fun it2 s₅ h₅ => ?_) no))))))) no)
      refine wpAny_bind (wpAny_runOwn (codeAny_mono h₅ fun r s' hr => ?_))
      cases r with
      | ok f => exact wpAny_pure ⟨rfl, hr⟩
      | error e => exact hr.elim
end
end L2
set_option Elab.async false
set_option linter.all false
set_option maxRecDepth 100000
namespace L2
open PySem PySem.Spec PyProof.Rows
def cpL (g : FG) (p : FT) (A : FA) (ρ0 : Rho) : List D → Option (List D)
  | [] => some []
  | d :: r => (g d ρ0).bind fun ρ1 => (p ρ1).bind fun b => if b = true then (A ρ1).bind fun ys => (cpL g p A ρ0 r).map (ys ++ ·) else cpL g p A ρ0 r
def Nos (n : Nat) (ρ : Rho) : Prop := ∀ (i : Nat) (s : Sl), n ≤ i → ρ[i]? = some s → s = .no
/-- what is asked of the action upon an item: the told list grows by A's items -/
def ActOk (Y : Cx) (c : Ct) (hid : Hid) (D0 : Addr) (L W : Hp) (A : FA) (TA : TAct) (ρ1 : Rho) : Prop := ∀ (pins : List (Addr × Obj)) (s : Shared) (σ : St) (H : Hp) (xs : List V) (ad zs : List D) (Q : Shared → Prop), Inv Y pins σ H s → SR Y.K c hid ρ1 σ H →
  H D0 = some (.lst xs) → Reps Y.K (vw H hid) xs ad → xs.length + zs.length ≤ sizeLine → Same L H → Same W (vw H hid) → (∀ i : Nat, Ow ρ1[i]? → σ[i]? ≠ some (some (.ref D0))) → A ρ1 = some zs →
  (∀ (s' : Shared) (σ' : St) (H' : Hp) (xs' : List V), Inv Y pins σ' H' s' → SR Y.K c hid ρ1 σ' H' → H' D0 = some (.lst xs') → Reps Y.K (vw H' hid) xs' (ad ++ zs) → Same L H' → Same (vw H hid) (vw H' hid) → (∀ i : Nat, Ow ρ1[i]? → σ'[i]? ≠ some (some (.ref D0))) → Q s') → TA Q s
section
variable {Y : Cx} {c : Ct} {tg : Expr} {ifs : List Expr} {g : FG} {p : FT} {A : FA} {TA : TAct} {code : Code}
theorem gen_loop (hcalm : Y.calm = true) (hxe : Y.xe = fun _ _ => False) {n0 : Nat} (hT : Tail n0 g) (hg : DGt Y c tg g) (hp : DIf Y c ifs p)
    {pins : List (Addr × Obj)} {σ3 : St} {H3 L W : Hp} {s4 : Shared} {hid : Hid} {ρ0 : Rho} {J : It} {it D0 : Addr} {fp : List Addr} {tn : Nat → Heap → Prop} {ds ys ad0 : List D} {xs0 : List V} {R : Result → Shared → Prop}
    (hA : ∀ d ρ1, g d ρ0 = some ρ1 → ActOk Y c hid D0 L W A TA ρ1)
    (hN : Nos n0 ρ0) (I : Inv Y pins σ3 H3 s4) (sr : SR Y.K c hid ρ0 σ3 H3) (hh : hid D0 = true) (na : ∀ i : Nat, Ow ρ0[i]? → σ3[i]? ≠ some (some (.ref D0))) (hacc : H3 D0 = some (.lst xs0)) (rp0 : Reps Y.K (vw H3 hid) xs0 ad0) (sm : Same L H3) (wv : Same W (vw H3 hid)) (T : Turn Y.prog Y.w Y.K tg J fp it tn) (st : tn 0 s4.heap) (hF : ∀ b ∈ fp, FpOk Y pins H3 b)
    (io : ItB Y.K L W J ds) (hz : ad0.length + ys.length ≤ sizeLine) (hc : cpL g p A ρ0 ds = some ys)
    (hTP : TurnP Y.prog Y.w Y.A code tg ifs (.ref it) Y.env TA R)
    (hR : ∀ (s' : Shared) (σ' : St) (H' : Hp) (xs : List V), Inv Y pins σ' H' s' → SR Y.K c hid ρ0 σ' H' → Same L H' → H' D0 = some (.lst xs) → Reps Y.K (vw H' hid) xs (ad0 ++ ys) → Same (vw H3 hid) (vw H' hid) → (∀ i : Nat, Ow ρ0[i]? → σ'[i]? ≠ some (some (.ref D0))) → R (.ok .next) s') :
    codeAny (model Y.prog Y.w) Y.A code R s4 := by
  have stat : ∀ {H' : Hp}, (∀ b ∈ fp, H' b = none) → ∀ b ∈ fp, FpOk Y pins H' b := fun {H'} hn b hb => ⟨hn b hb, (hF b hb).2⟩
  refine hTP (fun n s' => ∃ (i : Nat) (xs : List V) (ad : List D) (σ' : St) (H' : Hp), n = ds.length - i ∧ i ≤ ds.length ∧ Inv Y pins σ' H' s' ∧ tn i s'.heap ∧ (∀ b ∈ fp, H' b = none) ∧
    SR Y.K c hid ρ0 σ' H' ∧ Same L H' ∧ H' D0 = some (.lst xs) ∧ Reps Y.K (vw H' hid) xs ad ∧ Same W (vw H' hid) ∧ Same (vw H3 hid) (vw H' hid) ∧ (∀ i : Nat, Ow ρ0[i]? → σ'[i]? ≠ some (some (.ref D0))) ∧ ∃ rest, cpL g p A ρ0 (ds.drop i) = some rest ∧ ad ++ rest = ad0 ++ ys) ?_ ds.length s4
    ⟨0, xs0, ad0, σ3, H3, by simp, Nat.zero_le _, I, st, fun b hb => (hF b hb).1, sr, sm, hacc, rp0, wv, Same.refl _, na, ys, by simpa using hc, rfl⟩
  rintro n s5 ⟨i, xs, ad, σ5, H5, rfl, hi, I5, st5, f5, sr5, sm5, ac5, rp5, w5, v5, na5, rest, hc5, hy5⟩
  have wH : Same W H5 := w5.trans (vw_le _ _)
  by_cases hlt : i < ds.length
  · have hd : ds[i]? = some ds[i] := List.getElem?_eq_getElem hlt
    have e2 : ds.drop i = ds[i] :: ds.drop (i + 1) := List.drop_eq_getElem_cons hlt
    rw [e2] at hc5
    unfold cpL at hc5
    obtain ⟨go, yl⟩ := io.1 i ds[i] H5 hd sm5 wH
    refine thn (T.item Y rfl rfl rfl hcalm i pins s5 σ5 H5 (fun _ _ => False) I5 (stat f5) st5 go) fun r s6 ⟨u, hr, h6⟩ => ?_
    subst hr
    refine thn h6 fun _ s7 ⟨x, H7, I7, r7, y7, st7, f7⟩ => ?_
    obtain ⟨s7', rp⟩ := yl x H7 y7
    have rx := rp hid sr5.tr w5
    have I7' := I7.pinned (stat f7) (T.obj _ _ st7)
    cases e3 : g ds[i] ρ0 with
    | none => rw [e3] at hc5; cases hc5
    | some ρ1 =>
      rw [e3] at hc5
      have hc5 : (p ρ1).bind (fun b => if b = true then (A ρ1).bind fun ys => (cpL g p A ρ0 (ds.drop (i + 1))).map (ys ++ ·) else cpL g p A ρ0 (ds.drop (i + 1))) = some rest := hc5
      obtain ⟨tl1, tl2⟩ := hT _ _ _ e3
      have fg : ∀ {σ' : St} {H' : Hp}, SR Y.K c hid ρ1 σ' H' → SR Y.K c hid ρ0 σ' H' := fun {σ' H'} z => z.forget tl1 fun j s e => by
        by_cases hj : j < n0
        · exact .inr ((tl2 j hj).trans e)
        · exact .inl (hN j s (by omega) e)
      have ow01 : ∀ j : Nat, Ow ρ0[j]? → Ow ρ1[j]? := fun j o => by
        by_cases hj : j < n0
        · rw [tl2 j hj]; exact o
        · exfalso
          cases e : ρ0[j]? with
          | none => rw [e] at o; exact o
          | some s => have := hN j s (by omega) e; subst this; rw [e] at o; exact o
      have keepT : ∀ {σ' : St} {H' : Hp} {s' : Shared}, Inv Y (pins ++ pinsAt fp s7.heap) σ' H' s' → tn (i + 1) s'.heap ∧ ∀ b ∈ fp, H' b = none := fun {σ' H' s'} J' => by
        refine ⟨T.keep _ _ _ st7 fun b hb o e => (J'.pin (b, o) (List.mem_append_right _ (List.mem_append_right _ (mem_pinsAt hb e)))).1, fun b hb => ?_⟩
        obtain ⟨o, e, _⟩ := T.obj _ _ st7 b hb
        exact (J'.pin (b, o) (List.mem_append_right _ (List.mem_append_right _ (mem_pinsAt hb e)))).2.1
      refine thn (hxe ▸ hg hid ρ0 ds[i] _ s7 σ5 H7 x u (fun σ' H' => H' = H7 ∧ SR Y.K c hid ρ1 σ' H7 ∧ OwK ρ0 ρ1 σ5 σ') I7' r7 ⟨sr5.ext s7', rx, ρ1, e3, fun σ' z o => ⟨rfl, z, o⟩⟩) fun _ s8 ⟨σ8, H8, I8, e8, q8, o8⟩ => ?_
      subst e8
      have na1 : ∀ j : Nat, Ow ρ1[j]? → σ8[j]? ≠ some (some (.ref D0)) := fun j o => by
        rw [(o8 j o).2]; exact na5 j (o8 j o).1
      cases e4 : p ρ1 with
      | none => rw [e4] at hc5; cases hc5
      | some b =>
        rw [e4] at hc5
        have hc5 : (if b = true then (A ρ1).bind fun ys => (cpL g p A ρ0 (ds.drop (i + 1))).map (ys ++ ·) else cpL g p A ρ0 (ds.drop (i + 1))) = some rest := hc5
        refine thn (hxe ▸ hp hid ρ1 _ s8 σ8 H8 (fun b' H' => b' = b ∧ Same H8 H') I8 ⟨q8, b, e4, fun H' s' => ⟨rfl, s'⟩⟩) fun ok s9 ⟨H9, I9, e9, sm9⟩ => ?_
        subst e9
        have w9 : Same (vw H5 hid) (vw H9 hid) := vw_same (s7'.trans sm9)
        cases ok with
        | false =>
          have hc5 : cpL g p A ρ0 (ds.drop (i + 1)) = some rest := hc5
          obtain ⟨k1, k2⟩ := keepT I9
          exact ⟨ds.length - (i + 1), by omega, i + 1, xs, ad, σ8, H9, rfl, hlt, I9.unpinned, k1, k2, fg (q8.ext sm9), sm5.trans (s7'.trans sm9), sm9 _ _ (s7' _ _ ac5), rp5.mono w9, w5.trans w9, v5.trans w9, fun j o => na1 j (ow01 j o), rest, hc5, hy5⟩
        | true =>
          have hc5 : ((A ρ1).bind fun ys => (cpL g p A ρ0 (ds.drop (i + 1))).map (ys ++ ·)) = some rest := hc5
          cases e5 : A ρ1 with
          | none => rw [e5] at hc5; cases hc5
          | some zs =>
            rw [e5] at hc5
            have hc5 : (cpL g p A ρ0 (ds.drop (i + 1))).map (zs ++ ·) = some rest := hc5
            cases e6 : cpL g p A ρ0 (ds.drop (i + 1)) with
            | none => rw [e6] at hc5; cases hc5
            | some rest' =>
              rw [e6] at hc5
              cases hc5
              have l1 := rp5.length
              have l2 := congrArg List.length hy5
              simp only [List.length_append] at l2
              refine hA ds[i] ρ1 e3 _ s9 σ8 H9 xs ad zs _ I9 (q8.ext sm9) (sm9 _ _ (s7' _ _ ac5)) (rp5.mono w9) (by omega) (sm5.trans (s7'.trans sm9)) (w5.trans w9) na1 e5 fun s10 σ10 H10 xs' I10 q10 a10 rp10 smL v10 na10 => ?_
              obtain ⟨k1, k2⟩ := keepT I10
              exact ⟨ds.length - (i + 1), by omega, i + 1, xs', ad ++ zs, σ10, H10, rfl, hlt, I10.unpinned, k1, k2, fg q10, smL, a10, rp10, (w5.trans w9).trans v10, (v5.trans w9).trans v10, fun j o => na10 j (ow01 j o), rest', e6, by rw [← hy5]; simp⟩
  · have e : i = ds.length := by omega
    subst e
    rw [List.drop_eq_nil_of_le (Nat.le_refl _)] at hc5
    cases hc5
    rw [List.append_nil] at hy5
    subst hy5
    refine thn (T.done Y rfl rfl rfl hcalm ds.length pins s5 σ5 H5 (fun _ _ => False) I5 (stat f5) st5 (io.2 H5 sm5 wH)) fun r s6 ⟨hr, I6⟩ => ?_
    subst hr
    exact hR s6 σ5 H5 xs I6 sr5 sm5 ac5 rp5 v5 na5
end
end L2
set_option Elab.async false
set_option linter.all false
set_option maxRecDepth 100000
namespace L2
open PySem PySem.Spec PyProof.Rows
def oneA (f : FE) : FA := fun ρ => (f ρ).map fun d => [d]
def inA (gi : FA) (g : FG) (p : FT) (f : FE) : FA := fun ρ1 => (gi ρ1).bind fun ds => cpL g p (oneA f) ρ1 ds
def cp2F (m : Nat) (gi1 : FA) (g1 : FG) (p1 : FT) (gi2 : FA) (g2 : FG) (p2 : FT) (f : FE) : FE := fun ρ => (gi1 ρ).bind fun ds => (cpL g1 p1 (inA gi2 g2 p2 f) (ρ ++ List.replicate m .no) ds).bind fun ys => if ys.length ≤ sizeLine then some (.lst ys) else none
theorem cp2F_some {m : Nat} {gi1 gi2 : FA} {g1 g2 : FG} {p1 p2 : FT} {f : FE} {ρ : Rho} {d : D} (h : cp2F m gi1 g1 p1 gi2 g2 p2 f ρ = some d) : ∃ ds ys, gi1 ρ = some ds ∧ cpL g1 p1 (inA gi2 g2 p2 f) (ρ ++ List.replicate m .no) ds = some ys ∧ ys.length ≤ sizeLine ∧ d = .lst ys := by
  unfold cp2F at h
  cases e1 : gi1 ρ with
  | none => rw [e1] at h; cases h
  | some ds =>
    rw [e1] at h
    dsimp only [Option.bind] at h
    cases e2 : cpL g1 p1 (inA gi2 g2 p2 f) (ρ ++ List.replicate m .no) ds with
    | none => rw [e2] at h; cases h
    | some ys =>
      rw [e2] at h
      dsimp only at h
      split at h
      · cases h; exact ⟨ds, ys, rfl, e2, ‹_›, rfl⟩
      · cases h
/-- a target that leaves the slots from n on -/
def Upto (n : Nat) (g : FG) : Prop := ∀ d (ρ0 ρ1 : Rho), g d ρ0 = some ρ1 → ∀ i : Nat, n ≤ i → ρ1[i]? = ρ0[i]?
theorem up_n {n i : Nat} (h : i < n) : Upto n (gN i) := fun d ρ0 ρ1 e => by
  cases e
  exact fun j hj => List.getElem?_set_ne (by omega)
section
variable {prog : Program} {w : World} {A : Around} {R : Result → Shared → Prop} {s : Shared} {elt t1 t2 i1 i2 : Expr} {ifs1 ifs2 : List Expr} {scope : Scope} {pos : Pos} {it acc : Value} {env : Env}
theorem start_in
    (h0 : codeAny (model prog w) A (.compLoop (.ListComp elt [⟨t1, i1, ifs1, 0⟩, ⟨t2, i2, ifs2, 0⟩] scope pos) 1 it acc env) R s)
    (h : wpAny (model prog w) A (pyIter it) (fun it' s' => codeAny (model prog w) A (.compLoop (.ListComp elt [⟨t1, i1, ifs1, 0⟩, ⟨t2, i2, ifs2, 0⟩] scope pos) 1 it' acc env) R s')
      (notedBy (model prog w) A env fun x s' => R (.error x) s') s) :
    codeAny (model prog w) A (.compStart (.ListComp elt [⟨t1, i1, ifs1, 0⟩, ⟨t2, i2, ifs2, 0⟩] scope pos) 1 it acc env) R s := by
  refine codeAny_of_tree (show wpAny _ _ ((compStart (.ListComp elt [⟨t1, i1, ifs1, 0⟩, ⟨t2, i2, ifs2, 0⟩] scope pos) 1 it acc env).onRaise (fun x => do noteFrame x env; standAt theWindowsPlace)) _ _ s from wpAny_notedAt ?_)
  unfold compStart
  show wpAny _ _ (ask >>= _) _ _ s
  refine wpAny_bind (wpAny_askSetting (wpAny_ite ?_))
  split
  · first
      | exact wpAny_bind (wpAny_pure (wpAny_pure (And.intro rfl h0)))
      | exact wpAny_pure (And.intro rfl h0)
  · first
      | exact wpAny_bind (wpAny_rule (wpAny_bind (wpAny_standAt (wpAny_bind (wpAny_mono h (fun it' s' h' => wpAny_pure (And.intro rfl h')) fun _ _ x => x)))))
      | (refine wpAny_bind (wpAny_rule ?_); show wpAny _ _ (standAt i2.pos >>= _) _ _ s; exact wpAny_bind (wpAny_standAt (wpAny_bind (wpAny_mono h (fun it' s' h' => wpAny_pure (And.intro rfl h')) fun _ _ x => x))))
end
section
variable {Y : Cx} {c : Ct} {elt t1 t2 i1 i2 : Expr} {ifs1 ifs2 : List Expr} {scope : Scope} {pos : Pos} {f : FE} {g2 : FG} {p2 : FT} {gi2 : FA} {hid : Hid} {D0 : Addr} {L W : Hp} {ρ1 : Rho}
theorem act_emit (hxe : Y.xe = fun _ _ => False) (he : DP Y c .s elt f) (hh : hid D0 = true) (h00 : c.H₀ D0 = none) (nD : L D0 = none) : ActOk Y c hid D0 L W (oneA f) (emitW Y.prog Y.w Y.A elt (.ref D0) Y.env) ρ1 := by
  intro pins s σ H xs ad zs Q I sr ac rp hz smL wv na hA hQ
  unfold oneA at hA
  cases e5 : f ρ1 with
  | none => rw [e5] at hA; cases hA
  | some y =>
    rw [e5] at hA; cases hA
    unfold emitW
    refine thn (hxe ▸ he hid ρ1 _ s σ H (fun v H' => Same H H' ∧ Rep Y.K (vw H' hid) v y) I ⟨sr, y, e5, fun v H' s' r => ⟨s', r⟩⟩) fun v s10 ⟨z, H10, I10, rz, sm10, rp10⟩ => ?_
    have a10 : H10 D0 = some (.lst xs) := sm10 _ _ ac
    refine thn (hxe ▸ mt_append (X := Y) _ s10 σ H10 (.ref D0) [z] (.ref D0) [v] (fun _ H' => H' = upd H10 D0 (.lst (xs ++ [z]))) I10 rfl (.cons rz .nil) ⟨D0, xs, z, rfl, rfl, a10, by simp at hz; omega, rfl⟩) fun _ s11 ⟨_, H11, I11, _, e11⟩ => ?_
    subst e11
    have vv : vw (upd H10 D0 (.lst (xs ++ [z]))) hid = vw H10 hid := vw_upd hh
    have w10 : Same (vw H hid) (vw H10 hid) := vw_same sm10
    refine hQ s11 σ _ (xs ++ [z]) I11 ((sr.ext sm10).write hh h00 na) upd_same ?_ (fun b o e => ?_) ?_ na
    · rw [vv]; exact (rp.mono w10).append (.cons rp10 .nil)
    · rw [upd_ne (ne_of_none e nD)]; exact sm10 _ _ (smL _ _ e)
    · rw [vv]; exact w10
theorem act_inner (hcalm : Y.calm = true) (hxe : Y.xe = fun _ _ => False) {n1 : Nat} (hT : Tail n1 g2) (hN : Nos n1 ρ1) (hi : DIp Y c t2 i2 gi2) (hg : DGt Y c t2 g2) (hp : DIf Y c ifs2 p2) (he : DP Y c .s elt f) (hh : hid D0 = true) (h00 : c.H₀ D0 = none) (nD : L D0 = none) :
    ActOk Y c hid D0 L W (inA gi2 g2 p2 f) (innerW Y.prog Y.w Y.A (.ListComp elt [⟨t1, i1, ifs1, 0⟩, ⟨t2, i2, ifs2, 0⟩] scope pos) i2 (.ref D0) Y.env) ρ1 := by
  intro pins s σ H xs ad zs Q I sr ac rp hz smL wv na hA hQ
  unfold inA at hA
  cases e5 : gi2 ρ1 with
  | none => rw [e5] at hA; cases hA
  | some ds =>
    rw [e5] at hA
    have hA : cpL g2 p2 (oneA f) ρ1 ds = some zs := hA
    unfold innerW
    refine thn (hxe ▸ hi hid ρ1 pins s σ H (fun J H' => Same H H' ∧ ItOk Y.K (vw H' hid) J ds) I ⟨sr, ds, e5, fun J H' s1 io => ⟨s1, io⟩⟩) fun v s1 h1 => thn h1 fun itv s2 h2 => ?_
    obtain ⟨it, fp, tn, J, H2, rfl, I2, T, st2, f2, sm, io⟩ := h2
    have l1 := rp.length
    have loop : codeAny (model Y.prog Y.w) Y.A (.compLoop (.ListComp elt [⟨t1, i1, ifs1, 0⟩, ⟨t2, i2, ifs2, 0⟩] scope pos) 1 (.ref it) (.ref D0) Y.env) (fun r s' => match r with
        | .ok _ => Q s'
        | .error _ => False) s2 := by
      refine gen_loop (L := L) (W := vw H2 hid) (ad0 := ad) (xs0 := xs) (A := oneA f) (TA := emitW Y.prog Y.w Y.A elt (.ref D0) Y.env) hcalm hxe hT hg hp (fun d ρ2 _ => act_emit hxe he hh h00 nD) hN I2 (sr.ext sm) hh na (sm _ _ ac) (rp.mono (vw_same sm)) (smL.trans sm) (Same.refl _) T st2 f2 io.b (by omega) hA turnP_in ?_
      intro s' σ' H' xs' I' sr' smL' ac' rp' v' na'
      exact hQ s' σ' H' xs' I' sr' ac' rp' smL' ((vw_same sm).trans v') na'
    exact start_in loop (T.self Y.A 0 _ _ _ st2 loop)
end
end L2
set_option Elab.async false
set_option linter.all false
set_option maxRecDepth 100000
namespace L2
open PySem PySem.Spec PyProof.Rows
section
variable {X : Cx} {c : Ct} {elt t1 t2 i1 i2 : Expr} {ifs1 ifs2 : List Expr} {scope : Scope} {pos : Pos} {N' : List Str} {m n1 : Nat} {gi1 gi2 : FA} {g1 g2 : FG} {p1 p2 : FT} {f : FE}
theorem comp2_block (hcalm : X.calm = true) (hk : scope.kind = .function) (hs : okS scope X.env.scope = true) (hn : okN X.N N' scope = true) (hm : N'.length - X.N.length = m) (hT1 : Tail X.N.length g1) (hU1 : Upto n1 g1) (hn1 : X.N.length ≤ n1) (hT2 : Tail n1 g2)
    (hset : ∀ C s₀ H₀ ex, ∀ x, foldedSetIterable i2 (compCx X N' scope C s₀ H₀ ex).env x = pure x)
    (hg1 : ∀ C s₀ H₀ ex, DGt (compCx X N' scope C s₀ H₀ ex) c t1 g1) (hp1 : ∀ C s₀ H₀ ex, DIf (compCx X N' scope C s₀ H₀ ex) c ifs1 p1) (hi2 : ∀ C s₀ H₀ ex, DIp (compCx X N' scope C s₀ H₀ ex) c t2 i2 gi2)
    (hg2 : ∀ C s₀ H₀ ex, DGt (compCx X N' scope C s₀ H₀ ex) c t2 g2) (hp2 : ∀ C s₀ H₀ ex, DIf (compCx X N' scope C s₀ H₀ ex) c ifs2 p2) (he : ∀ C s₀ H₀ ex, DP (compCx X N' scope C s₀ H₀ ex) c .s elt f)
    {E : Value → Shared → Prop} {pins : List (Addr × Obj)} {σ : St} {H : Hp} {s : Shared} {hid : Hid} {ρ : Rho} {J : It} {it : Addr} {fp : List Addr} {tn : Nat → Heap → Prop} {ds ys : List D} {RR : Value → Addr → Result → Shared → Prop}
    (I : Inv X pins σ H s) (sr : SR X.K c hid ρ σ H) (T : Turn X.prog X.w X.K t1 J fp it tn) (st : tn 0 s.heap) (hF : ∀ b ∈ fp, FpOk X pins H b) (io : ItB X.K H (vw H hid) J ds) (hz : ys.length ≤ sizeLine) (hc : cpL g1 p1 (inA gi2 g2 p2 f) (ρ ++ List.replicate m .no) ds = some ys)
    (hR : ∀ (D C : Addr) (s' : Shared) (H' : Hp) (xs : List V), s.heap.objs.size ≤ D → s.heap.objs.size ≤ C → D ≠ C → H D = none → Same H H' → H' D = some (.lst xs) → Reps X.K (vw H' (hadd hid D)) xs ys → (∃ m, s'.heap.Ns C m) → H' C = none → s'.os = s.os → AllBare s'.gens → HOk X.prog X.w H' s'.heap → Un (frs X.stack) fp H H' s.heap s'.heap → RR (.ref D) C (.ok .next) s') :
    wpAny (model X.prog X.w) X.A (newList []) (fun acc s₃ => wpAny (model X.prog X.w) X.A (newFunctionEnv scope X.env.globals (clo X.env.cells scope.names []) [] X.env.qual none .none (some X.env)) (fun cenv s₄ =>
      codeAny (model X.prog X.w) X.A (.compStart (.ListComp elt [⟨t1, i1, ifs1, 0⟩, ⟨t2, i2, ifs2, 0⟩] scope pos) 0 (.ref it) acc { cenv with scope := relabel scope X.env }) (RR acc cenv.locals) s₄) E s₃) E s := by
  refine wpAny_newObj_type (nfe_own fun h₁ hns₁ kp1 oc₁ => ?_)
  dsimp only at hns₁ kp1 oc₁ ⊢
  generalize hH2 : s.heap.push { cls := .type "list", dict := none, data := .seq ([] : List Value).toArray } = H2 at hns₁ kp1 oc₁ ⊢
  have hC : H2.objs.size = s.heap.objs.size + 1 := by rw [← hH2, Heap.size_push]
  have hD : H s.heap.objs.size = none := I.hok.fresh (Nat.le_refl _)
  have I2 : Inv X pins σ (upd H s.heap.objs.size (.lst [])) { s with heap := H2 } := by
    rw [← hH2]
    exact I.laid (t' := s.toks) (fun b o e => Heap.get?_push_of_some _ e) (Nat.le_refl _) ⟨Nat.zero_le _, [], 0, .nil, Heap.get?_push_size _ rfl⟩
  have fpLt : ∀ b ∈ fp, b < s.heap.objs.size := fun b hb => let ⟨o, e, _⟩ := T.obj 0 s.heap st b hb; Heap.lt_size e
  have hF2 : ∀ b ∈ fp, FpOk X pins (upd H s.heap.objs.size (.lst [])) b := fun b hb => ⟨by rw [upd_ne (Nat.ne_of_lt (fpLt b hb))]; exact (hF b hb).1, (hF b hb).2⟩
  have kp0 : ∀ b o, s.heap.get? b = some o → H2.get? b = some o := fun b o e => by rw [← hH2]; exact Heap.get?_push_of_some _ e
  have IY := inv_comp (tk := s.toks) (N' := N') (fp := fp) I2 hF2 (fun b hb => let ⟨o, e, _⟩ := T.obj 0 s.heap st b hb; ⟨o, kp0 b o e⟩) hk hs hn hns₁ kp1 oc₁
  rw [hm] at IY
  dsimp only at IY
  have sr0 : SR X.K c (hadd hid s.heap.objs.size) (ρ ++ List.replicate m .no) (σ ++ List.replicate m none) (upd H s.heap.objs.size (.lst [])) := (sr.hide (same_new hD _) hD upd_same).more m
  have hρ : ρ.length = X.N.length := by rw [← sr.len]; exact I.len
  have nf : hid s.heap.objs.size = false := sr.fresh hD
  have st1 : tn 0 h₁ := T.keep _ _ _ st fun b hb o e => kp1 b o (kp0 b o e)
  have na0 : ∀ i : Nat, Ow (ρ ++ List.replicate m Sl.no)[i]? → (σ ++ List.replicate m none)[i]? ≠ some (some (V.ref s.heap.objs.size)) := (sr.more m).notOw nf
  have wv : Same (vw H hid) (vw (upd H s.heap.objs.size (.lst [])) (hadd hid s.heap.objs.size)) := by rw [vw_new hD]; exact Same.refl _
  have nos : Nos X.N.length (ρ ++ List.replicate m Sl.no) := fun i s hi e => by
    rw [List.getElem?_append_right (by omega), List.getElem?_replicate] at e
    split at e
    · cases e; rfl
    · cases e
  have loop : ∀ s4 : Shared, s4 = { s with heap := h₁, toks := s.toks } →
      codeAny (model X.prog X.w) X.A (.compLoop (.ListComp elt [⟨t1, i1, ifs1, 0⟩, ⟨t2, i2, ifs2, 0⟩] scope pos) 0 (.ref it) (.ref s.heap.objs.size) (compEnvC scope (ownC X.env.cells scope H2.objs.size) H2.objs.size X.env)) (RR (.ref s.heap.objs.size) H2.objs.size) s4 := by
    rintro s4 rfl
    have fpY : ∀ b ∈ fp, FpOk (compCx X N' scope H2.objs.size { s with heap := H2 } (upd H s.heap.objs.size (.lst [])) fp) [] (upd H s.heap.objs.size (.lst [])) b := fun b hb =>
      ⟨(hF2 b hb).1, (IY.ok.exf b hb).1, IY.ok.exfs b hb, .inl hb, (IY.ok.exf b hb).2, fun q hq => by have hq' : q ∈ ([] : List (Addr × Obj)) ++ [] := hq; simp at hq'⟩
    refine gen_loop (Y := compCx X N' scope H2.objs.size { s with heap := H2 } (upd H s.heap.objs.size (.lst [])) fp) (L := H) (hid := hadd hid s.heap.objs.size) (W := vw H hid) (ad0 := []) (xs0 := []) (A := inA gi2 g2 p2 f) (TA := innerW X.prog X.w X.A (.ListComp elt [⟨t1, i1, ifs1, 0⟩, ⟨t2, i2, ifs2, 0⟩] scope pos) i2 (.ref s.heap.objs.size) (compEnvC scope (ownC X.env.cells scope H2.objs.size) H2.objs.size X.env))
      hcalm rfl hT1 (hg1 _ _ _ _) (hp1 _ _ _ _) (fun d ρ1 e => act_inner (Y := compCx X N' scope H2.objs.size { s with heap := H2 } (upd H s.heap.objs.size (.lst [])) fp) hcalm rfl hT2 (fun i s hi e' => ?_) (hi2 _ _ _ _) (hg2 _ _ _ _) (hp2 _ _ _ _) (he _ _ _ _) hadd_self (sr.fresh0 hD) hD) nos IY sr0 hadd_self na0 upd_same .nil (same_new hD _) wv T st1 fpY io (by simpa using hz) hc (turnP_out (hset H2.objs.size { s with heap := H2 } (upd H s.heap.objs.size (.lst [])) fp)) ?_
    · rw [hU1 _ _ _ e i hi] at e'
      exact nos i s (by omega) e'
    · intro s' σ' H' xs I' _ sm' hx' rp' _ _
      have un1 : Un (frs X.stack) fp H (upd H s.heap.objs.size (.lst [])) s.heap H2 := Un.laid (fun b o e => kp0 b o e) (Nat.le_refl _) hD
      exact hR s.heap.objs.size H2.objs.size s' H' xs (Nat.le_refl _) (by rw [hC]; exact Nat.le_succ _) (by rw [hC]; exact Nat.ne_of_lt (Nat.lt_succ_self _)) hD sm' hx' rp' (let ⟨m, hm, _⟩ := I'.loc; ⟨m, hm⟩) I'.free I'.os I'.bare I'.hok (un1.trans I'.base)
  exact codeAny_compStart_list (loop _ rfl) (T.self X.A 0 _ _ _ st1 (loop _ rfl))
/-- [elt for t1 in i1 if .. for t2 in i2 if ..] -/
theorem dp_comp2 (hcalm : X.calm = true) (n1 : Nat) (hT1 : Tail X.N.length g1) (hU1 : Upto n1 g1) (hT2 : Tail n1 g2) (hi : DIb X c t1 i1 gi1)
    (hg1 : ∀ C s₀ H₀ ex, DGt (compCx X N' scope C s₀ H₀ ex) c t1 g1) (hp1 : ∀ C s₀ H₀ ex, DIf (compCx X N' scope C s₀ H₀ ex) c ifs1 p1) (hi2 : ∀ C s₀ H₀ ex, DIp (compCx X N' scope C s₀ H₀ ex) c t2 i2 gi2)
    (hg2 : ∀ C s₀ H₀ ex, DGt (compCx X N' scope C s₀ H₀ ex) c t2 g2) (hp2 : ∀ C s₀ H₀ ex, DIf (compCx X N' scope C s₀ H₀ ex) c ifs2 p2) (he : ∀ C s₀ H₀ ex, DP (compCx X N' scope C s₀ H₀ ex) c .s elt f)
    (hk : scope.kind = .function := by rfl) (hs : okS scope X.env.scope = true := by kernel_rfl) (hn : okN X.N N' scope = true := by kernel_rfl) (hm : N'.length - X.N.length = m := by rfl) (hn1 : X.N.length ≤ n1 := by exact Nat.le_of_ble_eq_true rfl) (hset : ∀ x, foldedSetIterable i1 X.env x = pure x := by intro _; rfl)
    (hset2 : ∀ C s₀ H₀ ex, ∀ x, foldedSetIterable i2 (compCx X N' scope C s₀ H₀ ex).env x = pure x := by intros; rfl) :
    DP X c .n (.ListComp elt [⟨t1, i1, ifs1, 0⟩, ⟨t2, i2, ifs2, 0⟩] scope pos) (cp2F m gi1 g1 p1 gi2 g2 p2 f) := by
  intro hid ρ pins s σ H Q I hq
  obtain ⟨sr, d, hd, q⟩ := hq
  obtain ⟨ds, ys, e1, hc, hz, rfl⟩ := cp2F_some hd
  rw [eval_ListComp]
  refine wpAny_comprehension_free (use := none) rfl hset (closureFor_clo fun x hx => I.ok.has x (okS_free hs x hx)) hk (okS_local hs) ?_
  refine thn (hi hid ρ pins s σ H (fun J H' => Same H H' ∧ ItB X.K H' (vw H' hid) J ds) I ⟨sr, ds, e1, fun J H' s1 io => ⟨s1, io⟩⟩) fun v s1 h1 => thn h1 fun itv s2 h2 => ?_
  obtain ⟨it, fp, tn, J, H2, rfl, I2, T, st2, f2, sm, io⟩ := h2
  refine comp2_block (RR := fun acc C => compPost (model X.prog X.w) X.A X.xe none (EP X pins σ Q) acc C) hcalm hk hs hn hm hT1 hU1 hn1 hT2 hset2 hg1 hp1 hi2 hg2 hp2 he I2 (sr.ext sm) T st2 f2 io hz hc ?_
  intro D C s' H' xs hDge hCge hDC hD sm' hx rp ⟨mm, hns⟩ hC' hos hbare hok hun
  refine ⟨mm, hns, fun h' hsb => ⟨.ref D, H', ?_, rfl, q _ H' (sm.trans sm') ⟨D, xs, ys, rfl, rfl, sm.free hD, hx, rp⟩⟩⟩
  have neC : ∀ b o, s2.heap.get? b = some o → b ≠ C := fun b o e z => by subst z; exact absurd (Heap.lt_size e) (Nat.not_lt.mpr hCge)
  have hun' : Un (frs X.stack) fp H2 H' s2.heap h' := ⟨fun b o e n h1 h2 => (hsb.2 b (neC b o e)).trans (hun.keep b o e n h1 h2), fun b o e n h1 h2 => let ⟨sl, z⟩ := hun.slot b o e n h1 h2; ⟨sl, (hsb.2 b (neC b o e)).trans z⟩, hun.free, fun b o e h2 => let ⟨o', z⟩ := hun.there b o e h2; ⟨o', (hsb.2 b (neC b o e)).trans z⟩, hun.tups, hun.frzs, hun.tbls⟩
  have hok' : HOk X.prog X.w H' h' := fun b o e => by
    have nb : ∀ b' o', H' b' = some o' → b' ≠ C := fun b' o' e' z => by subst z; rw [hC'] at e'; cases e'
    refine (hok b o e).stay (fun c' u hc' z => (hsb.2 c' ?_).trans z) (fun _ z => z) fun _ _ z => z
    rcases hc' with z' | z'
    · rw [z']; exact nb b o e
    · exact nb c' _ z'
  exact I2.call' (s' := { s' with heap := h' }) (ch := fp) hos hun' hok' hbare fun b hb => ⟨(f2 b hb).2.2.2.1, (f2 b hb).2.1, (f2 b hb).2.2.2.2.1, (f2 b hb).2.2.2.2.2⟩
end
end L2
set_option Elab.async false
set_option linter.all false
set_option maxRecDepth 100000
namespace L2
open PySem PySem.Spec PyProof.Rows
section
variable {K : PySem.W.Frag}
end
/-! ### slices -/
/-- a bound of a slice: none, or an int -/
abbrev FO := Rho → Option (Option Int)
theorem PO.imp {X : Cx} {e : Option Expr} {t t' : TO} (h : PO X e t) (i : ∀ σ H Q, t' σ H Q → t σ H Q) : PO X e t' := fun pins s σ H Q I q => h pins s σ H Q I (i σ H Q q)
section
variable {X : Cx} {c : Ct} {e a b : Expr} {f g : FE} {k : Kd} {pos p2 : Pos} {lo hi : Option Expr} {l u : FO}
/-! t + u -/
end
end L2
set_option Elab.async false
set_option linter.all false
set_option maxRecDepth 100000
namespace PySem
open Sem (wp)
open AutoSeq1 (wpAny_loadPart')
section
variable {prog : Program} {w : World} {A : Around} {E : Value → Shared → Prop} {s : Shared}
end
section
variable {prog : Program} {w : World} {A : Around} {E : Value → Shared → Prop} {s : Shared}
end
end PySem
namespace L2
open PySem PySem.Spec PyProof.Rows
section
variable {X : Cx} {c : Ct} {k : Kd} {es : List Expr} {x1 : Nat} {tp pos p : Pos}
end
end L2
set_option Elab.async false
set_option linter.all false
set_option maxRecDepth 100000
namespace L2
open PySem PySem.W PySem.Calls PyProof.Rows
section
variable {prog : Program} {w : World} {A : Around} {E : Value → Shared → Prop} {s : Shared} {κ : SortKind} {it : Array Keyed}
end
/-! by data: a rising list of tuples of ints, of any length -/
/-! xs.extend(a new list) -/
section
variable {X : Cx} {c : Ct} {e : Expr} {y : Str} {py apos pos : Pos} {g : FE}
end
end L2
set_option Elab.async false
set_option linter.all false
set_option maxRecDepth 100000
set_option maxHeartbeats 1000000
namespace L2
open PySem PySem.Spec PyProof.Rows
/-! ### evaluation of mirrors -/
def szK {α : Type} (d : α) (n : Nat) : Option α := if n ≤ sizeLine then some d else none
def szL {α : Type} (d : α) (n : Nat) : Option α := if n < sizeLine then some d else none
theorem szK_small {α : Type} {d : α} {n : Nat} (h : n ≤ 1000) : szK d n = some d := if_pos (Nat.le_of_lt (small1000 h))
theorem szL_small {α : Type} {d : α} {n : Nat} (h : n ≤ 1000) : szL d n = some d := if_pos (small1000 h)
theorem tupF_ev (fs : FA) (ρ : Rho) : tupF fs ρ = (fs ρ).bind fun ds => szK (.tup ds) ds.length := rfl
theorem lstF_ev (fs : FA) (ρ : Rho) : lstF fs ρ = (fs ρ).bind fun ds => szK (.lst ds) ds.length := rfl
theorem compF_ev (m : Nat) (gi : FA) (g : FG) (p : FT) (f : FE) (ρ : Rho) : compF m gi g p f ρ = (gi ρ).bind fun ds => (szK () ds.length).bind fun _ => (compL g p f (ρ ++ List.replicate m .no) ds).map D.lst := by
  unfold compF szK
  congr 1; funext ds
  split <;> rfl
theorem appM_ev (bs : List D) (d : D) : appM bs [d] = szL (.non, bs ++ [d]) bs.length := rfl
theorem popM_ev (bs : List D) (i : Int) : popM bs [.int i] = (szK () bs.length).bind fun _ => (ixN bs.length i).bind fun j => (bs[j]?).map fun d => (d, bs.eraseIdx j) := by
  unfold popM szK
  dsimp only
  split
  · rename_i j e
    split at e
    · rw [if_pos ‹_›, e]; rfl
    · cases e
  · rename_i e
    split at e
    · rw [if_pos ‹_›, e]; rfl
    · rw [if_neg ‹_›]; rfl
def rngK (ds : List D) : Option (List D) := match ds with
  | [.int j] => if j.natAbs < 4000000000 then some (ups 0 j.toNat) else none
  | _ => none
theorem rngA1_ev (f : FA) (ρ : Rho) : rngA1 f ρ = (f ρ).bind rngK := rfl
theorem rngK_int {j : Int} (h : j.natAbs ≤ 1000) : rngK [.int j] = some (ups 0 j.toNat) := by
  show (if j.natAbs < 4000000000 then some (ups 0 j.toNat) else none) = _
  rw [if_pos (by omega)]
theorem addF_int (i j : Int) : addF (.int i) (.int j) = some (.int (i + j)) := rfl
theorem ltF_int (i j : Int) : ltF (.int i) (.int j) = some (.bl (decide (i < j))) := rfl
theorem geF_int (i j : Int) : geF (.int i) (.int j) = some (.bl (decide (j ≤ i))) := rfl
theorem modF_int {i j : Int} (h : 0 < j) : modF (.int i) (.int j) = some (.int (i % j)) := by
  unfold modF i2
  dsimp only
  rw [if_pos (by simpa using h)]
theorem lt1000 {n : Nat} (h : n < 10 ^ 200) : n < 2 ^ 1000 := Nat.lt_of_lt_of_le h (by decide)
theorem mulF_int {i j : Int} (h1 : i.natAbs < 10 ^ 200) (h2 : j.natAbs < 10 ^ 200) : mulF (.int i) (.int j) = some (.int (i * j)) := by
  unfold mulF i2
  dsimp only
  rw [if_pos (by rw [decide_eq_true (lt1000 h1), decide_eq_true (lt1000 h2)]; rfl)]
theorem fdivF_int {i j : Int} (h1 : 0 < j) (h2 : j.natAbs < 10 ^ 200) : fdivF (.int i) (.int j) = some (.int (i / j)) := by
  unfold fdivF i2
  dsimp only
  rw [if_pos (by rw [decide_eq_true h1, decide_eq_true (lt1000 h2)]; rfl)]
theorem powF_int {i j : Int} (h0 : 0 ≤ j) (h1 : j ≤ 1000000) (h2 : i.natAbs < 2 ^ 64) : powF (.int i) (.int j) = some (.int (i ^ j.toNat)) := by
  unfold powF i2
  dsimp only
  rw [if_pos (by rw [decide_eq_true h0, decide_eq_true h1, decide_eq_true h2]; rfl)]
theorem eqF_ev {x y : D} (h : dep x ≤ 32) : eqF x y = some (.bl (eqD x y)) := if_pos h
theorem neF_ev {x y : D} (h : dep x ≤ 32) : neF x y = some (.bl (!eqD x y)) := if_pos h
theorem eqD_int (i j : Int) : eqD (.int i) (.int j) = decide (i = j) := by
  unfold eqD
  rw [Bool.eq_iff_iff]; simp
theorem dep_int (i : Int) : dep (.int i) = 0 := by unfold dep; rfl
/-- a bag of digits -/
structure Bag (N : Nat) (a b : Int) : Prop where
  a0 : 0 ≤ a
  a1 : a.natAbs < 10 ^ 180
  b0 : 0 ≤ b
  b1 : b ≤ N
  lo : b ≠ 0 → a.natAbs < 2147483647
abbrev bagD (a b : Int) : List D := [.int a, .int b]
def tC_cell : FS :=
  seqS (ifS (toB (op2 ltF (nmF 1) (callF lenD (consA (nmF 0) (nilA))))) (retF (op2 ixD (nmF 0) (nmF 1))) (skip))
  (retF (cst (.int 0)))
def mC_cell : List D → Option D := fnP .s 2 tC_cell
def tC_bag : FS :=
  seqS (setF 2 (op2 modF (callF absI (consA (callF (nF 2 mC_cell) (consA (nmF 0) (consA (nmF 1) (nilA)))) (nilA))) (op2 mulF (op2 mulF (op2 powF (cst (.int 10)) (cst (.int 60))) (op2 powF (cst (.int 10)) (cst (.int 60)))) (op2 powF (cst (.int 10)) (cst (.int 60))))))
  (seqS (ifS (toB (op2 geF (nmF 2) (op2 powF (cst (.int 10)) (cst (.int 18))))) (retF (lstF (consA (nmF 2) (consA (cst (.int 0)) (nilA))))) (skip))
  (seqS (setF 3 (op2 modF (op2 addF (op2 addF (nmF 2) (op2 mulF (cst (.int 7919)) (nmF 1))) (cst (.int 17))) (cst (.int 2147483647))))
  (seqS (forS (puA (rngA1 (consA (callF min2D (consA (callF lenD (consA (nmF 0) (nilA))) (consA (cst (.int 9)) (nilA)))) (nilA)))) (gN 4) (setF 3 (op2 modF (op2 addF (op2 addF (op2 powF (nmF 3) (cst (.int 5))) (op2 modF (op2 ixD (nmF 0) (nmF 4)) (cst (.int 2147483629)))) (op2 mulF (cst (.int 31)) (nmF 4))) (cst (.int 2147483647)))))
  (retF (lstF (consA (nmF 3) (consA (cst (.int 1)) (nilA))))))))
def mC_bag : List D → Option D := fnP .n 5 tC_bag
def tC_take : FS :=
  seqS (ifS (toB (op2 eqF (op2 ixD (nbF 0) (cst (.int 1))) (cst (.int 0)))) (seqS (setF 2 (op2 modF (op2 ixD (nbF 0) (cst (.int 0))) (nmF 1)))
  (seqS (asgE (setIx 0 (cst (.int 0))) (pu (op2 fdivF (op2 ixD (nbF 0) (cst (.int 0))) (nmF 1))))
  (retF (nmF 2)))) (skip))
  (seqS (asgE (setIx 0 (cst (.int 0))) (pu (op2 modF (op2 addF (op2 addF (op2 powF (op2 ixD (nbF 0) (cst (.int 0))) (cst (.int 5))) (op2 mulF (cst (.int 48271)) (op2 ixD (nbF 0) (cst (.int 1))))) (cst (.int 11))) (cst (.int 2147483647)))))
  (seqS (asgE (setIx 0 (cst (.int 1))) (pu (op2 addF (op2 ixD (nbF 0) (cst (.int 1))) (cst (.int 1)))))
  (retF (op2 modF (op2 fdivF (op2 modF (op2 mulF (op2 ixD (nbF 0) (cst (.int 0))) (cst (.int 69621))) (cst (.int 2147483629))) (cst (.int 8))) (nmF 1)))))
def mC_take : List D → List D → Option (D × List D) := fnE .s 3 tC_take
def tC_order : FS :=
  seqS (ownF 2 (lr1 (nmF 1)))
  (seqS (ownF 3 (lstF (nilA)))
  (seqS (whL (toB (op2 neF (nbF 2) (lstF (nilA)))) (dropE (callE 3 1 appM (consG (callE 2 1 popM (consG (callE 0 1 mC_take (puA (consA (callF lenD (consA (nbF 2) (nilA))) (nilA)))) (puA (nilA)))) (puA (nilA))))) 16)
  (retO 3)))
def mC_order : List D → List D → Option (D × List D) := fnE .n 4 tC_order
theorem natAbs_mod {i m : Int} (h : 0 < m) : 0 ≤ i % m ∧ i % m < m := ⟨Int.emod_nonneg _ (by omega), Int.emod_lt_of_pos _ h⟩
theorem take_ev {N : Nat} {a b m : Int} (B : Bag N a b) (hN : N ≤ 1000000000) (hm : 0 < m) (hm2 : m.natAbs < 10 ^ 20) : ∃ d a' b', mC_take (bagD a b) [.int m] = some (.int d, bagD a' b') ∧ Bag (N + 1) a' b' ∧ 0 ≤ d ∧ d < m := by
  have hm3 : m.natAbs < 10 ^ 200 := Nat.lt_of_lt_of_le hm2 (by decide)
  by_cases hb : b = 0
  · subst hb
    refine ⟨a % m, a / m, 0, ?_, ⟨Int.ediv_nonneg B.a0 (by omega), ?_, by omega, by omega, fun z => absurd rfl z⟩, natAbs_mod hm⟩
    · simp [mC_take, fnE, tC_take, rhoE, bagD, seqS, ifS, toB, op2, ixD, nbF, nmF, cst, eqF_ev, eqD_int, dep_int, asB, atI, ixN, setF, modF_int hm, asgE, pu, fdivF_int hm hm3, setIx, getB, setB, outO, retF, arg0]
    · have h1 := B.a1
      have : a / m ≤ a := Int.ediv_le_self _ B.a0
      have : 0 ≤ a / m := Int.ediv_nonneg B.a0 (by omega)
      omega
  · have lo := B.lo hb
    have p1 : a.natAbs < 2 ^ 64 := Nat.lt_trans lo (by decide)
    have p2 : b.natAbs < 10 ^ 200 := Nat.lt_of_lt_of_le (show b.natAbs < 10 ^ 10 by have := B.b1; have := B.b0; omega) (by decide)
    generalize hA : (a ^ 5 + 48271 * b + 11) % 2147483647 = A
    have hA' : 0 ≤ A ∧ A < 2147483647 := by rw [← hA]; exact natAbs_mod (by decide)
    have p3 : A.natAbs < 10 ^ 200 := Nat.lt_of_lt_of_le (show A.natAbs < 10 ^ 10 by omega) (by decide)
    refine ⟨A * 69621 % 2147483629 / 8 % m, A, b + 1, ?_, ⟨hA'.1, ?_, by have := B.b0; omega, by have := B.b1; omega, fun _ => by omega⟩, natAbs_mod hm⟩
    · have c1 : (48271 : Int).natAbs < 10 ^ 200 := Nat.lt_of_lt_of_le (show (48271 : Int).natAbs < 10 ^ 10 by decide) (by decide)
      have c2 : (69621 : Int).natAbs < 10 ^ 200 := Nat.lt_of_lt_of_le (show (69621 : Int).natAbs < 10 ^ 10 by decide) (by decide)
      have c3 : (8 : Int).natAbs < 10 ^ 200 := Nat.lt_of_lt_of_le (show (8 : Int).natAbs < 10 ^ 10 by decide) (by decide)
      have e1 : powF (.int a) (.int 5) = some (.int (a ^ 5)) := powF_int (by decide) (by decide) p1
      have e2 : mulF (.int 48271) (.int b) = some (.int (48271 * b)) := mulF_int c1 p2
      have e3 : ∀ i : Int, modF (.int i) (.int 2147483647) = some (.int (i % 2147483647)) := fun i => modF_int (by decide)
      have e4 : ∀ i : Int, modF (.int i) (.int 2147483629) = some (.int (i % 2147483629)) := fun i => modF_int (by decide)
      have e5 : mulF (.int A) (.int 69621) = some (.int (A * 69621)) := mulF_int p3 c2
      have e6 : ∀ i : Int, fdivF (.int i) (.int 8) = some (.int (i / 8)) := fun i => fdivF_int (by decide) c3
      simp [mC_take, fnE, tC_take, rhoE, bagD, seqS, ifS, toB, op2, ixD, nbF, nmF, cst, eqF_ev, eqD_int, dep_int, asB, atI, ixN, hb, skip, e1, e2, e3, e4, addF_int, asgE, pu, setIx, getB, setB, outO, retF, arg0, hA, e5, e6, modF_int hm]
    · exact Nat.lt_of_lt_of_le (show A.natAbs < 10 ^ 10 by omega) (by decide)
end L2
set_option Elab.async false
set_option linter.all false
set_option maxRecDepth 100000
set_option maxHeartbeats 1000000
namespace L2
open PySem PySem.Spec PyProof.Rows
theorem seq_at {t u : FS} {ρ ρ' : Rho} (h : t ρ = .nx ρ') : seqS t u ρ = u ρ' := by unfold seqS; rw [h]
abbrev nI (i : Nat) : D := .int (i : Int)
abbrev scD (ns : List Int) : D := .scr (ns.map D.int)
theorem ups_N (n : Nat) : ups 0 n = (List.range n).map nI := by
  unfold ups
  simp
theorem ixN_nat {n j : Nat} (h : j < n) : ixN n (j : Int) = some j := by
  unfold ixN
  rw [if_pos (by omega), if_pos (by omega)]; simp
theorem cell_ev (ns : List Int) (k : Nat) : ∃ c, mC_cell [scD ns, nI k] = some (.int c) := by
  by_cases h : k < ns.length
  · refine ⟨ns[k], ?_⟩
    simp [mC_cell, fnP, tC_cell, rho0, seqS, ifS, toB, op2, nmF, callF, consA, nilA, lenD, ltF_int, asB, h, retF, ixD, atI, ixN_nat (show k < (ns.map D.int).length by simpa using h)]
    simp [ixN_nat h, h]
  · refine ⟨0, ?_⟩
    simp [mC_cell, fnP, tC_cell, rho0, seqS, ifS, toB, op2, nmF, callF, consA, nilA, lenD, ltF_int, asB, h, retF, skip, cst]
theorem bag_loop (ns : List Int) (k : D) (c : D) : ∀ (l : List Nat), (∀ i ∈ l, i < ns.length ∧ i < 1000) → ∀ (x : Int) (s4 : Sl), 0 ≤ x → x < 2147483647 → ∃ (x' : Int) (s4' : Sl), 0 ≤ x' ∧ x' < 2147483647 ∧
    forL (gN 4) (setF 3 (op2 modF (op2 addF (op2 addF (op2 powF (nmF 3) (cst (.int 5))) (op2 modF (op2 ixD (nmF 0) (nmF 4)) (cst (.int 2147483629)))) (op2 mulF (cst (.int 31)) (nmF 4))) (cst (.int 2147483647)))) (l.map nI) [.v (scD ns), .v k, .v c, .v (.int x), s4] = .nx [.v (scD ns), .v k, .v c, .v (.int x'), s4']
  | [], _, x, s4, h1, h2 => ⟨x, s4, h1, h2, rfl⟩
  | i :: l, hl, x, s4, h1, h2 => by
    obtain ⟨hi, hi2⟩ := hl i (by simp)
    have e1 : powF (.int x) (.int 5) = some (.int (x ^ 5)) := powF_int (by decide) (by decide) (Nat.lt_of_lt_of_le (show x.natAbs < 10 ^ 10 by omega) (by decide))
    have e2 : mulF (.int 31) (nI i) = some (.int (31 * i)) := mulF_int (Nat.lt_of_lt_of_le (show (31 : Int).natAbs < 10 ^ 10 by decide) (by decide)) (Nat.lt_of_lt_of_le (show (i : Int).natAbs < 10 ^ 10 by omega) (by decide))
    have e3 : ∀ i : Int, modF (.int i) (.int 2147483647) = some (.int (i % 2147483647)) := fun i => modF_int (by decide)
    have e4 : ∀ i : Int, modF (.int i) (.int 2147483629) = some (.int (i % 2147483629)) := fun i => modF_int (by decide)
    obtain ⟨y1, y2⟩ := natAbs_mod (i := x ^ 5 + ns[i] % 2147483629 + 31 * i) (m := 2147483647) (by decide)
    obtain ⟨x', s4', g1, g2, g3⟩ := bag_loop ns k c l (fun j hj => hl j (by simp [hj])) _ (.v (nI i)) y1 y2
    refine ⟨x', s4', g1, g2, ?_⟩
    rw [← g3]
    simp [forL, gN, setF, op2, nmF, cst, e1, e2, e3, e4, ixD, atI, ixN_nat (show i < (ns.map D.int).length by simpa using hi), ixN_nat hi, hi, addF_int]
theorem bag_ev (ns : List Int) (k : Nat) (hk : k ≤ 1000) (hn : ns.length ≤ 63) : ∃ a b, mC_bag [scD ns, nI k] = some (.lst (bagD a b)) ∧ Bag 1 a b := by
  obtain ⟨c, hc⟩ := cell_ev ns k
  have p1 : powF (.int 10) (.int 60) = some (.int (10 ^ 60)) := powF_int (by decide) (by decide) (by decide)
  have p2 : powF (.int 10) (.int 18) = some (.int (10 ^ 18)) := powF_int (by decide) (by decide) (by decide)
  have q60 : ((10 : Int) ^ 60).natAbs < 10 ^ 200 := by decide
  have q120 : ((10 : Int) ^ 60 * 10 ^ 60).natAbs < 10 ^ 200 := by decide
  have m1 : mulF (.int (10 ^ 60)) (.int (10 ^ 60)) = some (.int (10 ^ 60 * 10 ^ 60)) := mulF_int q60 q60
  have m2 : mulF (.int (10 ^ 60 * 10 ^ 60)) (.int (10 ^ 60)) = some (.int (10 ^ 60 * 10 ^ 60 * 10 ^ 60)) := mulF_int q120 q60
  have m3 : mulF (.int 7919) (nI k) = some (.int (7919 * k)) := mulF_int (Nat.lt_of_lt_of_le (show (7919 : Int).natAbs < 10 ^ 10 by decide) (by decide)) (Nat.lt_of_lt_of_le (show (k : Int).natAbs < 10 ^ 10 by omega) (by decide))
  generalize hA : (if c < 0 then -c else c) % (10 ^ 60 * 10 ^ 60 * 10 ^ 60) = A
  have hA' : 0 ≤ A ∧ A < 10 ^ 60 * 10 ^ 60 * 10 ^ 60 := by rw [← hA]; exact natAbs_mod (by decide)
  have s1 : setF 2 (op2 modF (callF absI (consA (callF (nF 2 mC_cell) (consA (nmF 0) (consA (nmF 1) (nilA)))) (nilA))) (op2 mulF (op2 mulF (op2 powF (cst (.int 10)) (cst (.int 60))) (op2 powF (cst (.int 10)) (cst (.int 60)))) (op2 powF (cst (.int 10)) (cst (.int 60))))) [.v (scD ns), .v (nI k), .no, .no, .no] = .nx [.v (scD ns), .v (nI k), .v (.int A), .no, .no] := by
    have m4 : ∀ i : Int, modF (.int i) (.int (10 ^ 60 * 10 ^ 60 * 10 ^ 60)) = some (.int (i % (10 ^ 60 * 10 ^ 60 * 10 ^ 60))) := fun i => modF_int (by decide)
    unfold setF
    have : op2 modF (callF absI (consA (callF (nF 2 mC_cell) (consA (nmF 0) (consA (nmF 1) (nilA)))) (nilA))) (op2 mulF (op2 mulF (op2 powF (cst (.int 10)) (cst (.int 60))) (op2 powF (cst (.int 10)) (cst (.int 60)))) (op2 powF (cst (.int 10)) (cst (.int 60)))) [.v (scD ns), .v (nI k), .no, .no, .no] = some (.int A) := by
      have ec : callF (nF 2 mC_cell) (consA (nmF 0) (consA (nmF 1) nilA)) [.v (scD ns), .v (nI k), .no, .no, .no] = some (.int c) := hc
      simp only [op2, callF, consA, nilA, cst, Option.bind_some, p1, m1, m2, absI]
      have ec' : ((nmF 0 [.v (scD ns), .v (nI k), .no, .no, .no]).bind fun d => ((nmF 1 [.v (scD ns), .v (nI k), .no, .no, .no]).bind fun d => (some []).map fun r => d :: r).map fun r => d :: r).bind (nF 2 mC_cell) = some (.int c) := hc
      rw [ec']
      simp only [Option.bind_some, Option.map_some, m4, absI, hA]
    rw [this]; rfl
  have r0 : rho0 5 [scD ns, nI k] = [.v (scD ns), .v (nI k), .no, .no, .no] := rfl
  unfold mC_bag fnP tC_bag
  rw [r0, seq_at s1]
  have hA180 : A.natAbs < 10 ^ 180 := by
    have : (10 : Int) ^ 60 * 10 ^ 60 * 10 ^ 60 = ((10 ^ 180 : Nat) : Int) := by decide
    rw [this] at hA'
    omega
  by_cases hb : (10 : Int) ^ 18 ≤ A
  · refine ⟨A, 0, ?_, ⟨hA'.1, hA180, by decide, by decide, fun z => absurd rfl z⟩⟩
    simp only [seqS, ifS, toB, op2, nmF, List.getElem?_cons_succ, List.getElem?_cons_zero, Option.bind_some, cst, p2, geF_int, asB, decide_eq_true hb, retF, lstF_ev, consA, nilA, Option.map_some]
    rw [szK_small (by simp)]
  · generalize hx : (A + 7919 * (k : Int) + 17) % 2147483647 = x
    have hx' : 0 ≤ x ∧ x < 2147483647 := by rw [← hx]; exact natAbs_mod (by decide)
    have m4 : modF (.int (A + 7919 * (k : Int) + 17)) (.int 2147483647) = some (.int x) := by rw [modF_int (by decide), hx]
    have hr : rngA1 (consA (callF min2D (consA (callF lenD (consA (nmF 0) (nilA))) (consA (cst (.int 9)) (nilA)))) (nilA)) [.v (scD ns), .v (nI k), .v (.int A), .v (.int x), .no] = some ((List.range (min ns.length 9)).map nI) := by
      rw [rngA1_ev]
      simp only [callF, consA, nilA, nmF, cst, List.getElem?_cons_zero, Option.bind_some, Option.map_some, lenD, min2D, List.length_map]
      have : (if (9 : Int) < (ns.length : Int) then (9 : Int) else (ns.length : Int)) = ((min ns.length 9 : Nat) : Int) := by split <;> omega
      rw [this, rngK_int (by omega), ups_N, Int.toNat_natCast]
    obtain ⟨x', s4', g1, g2, g3⟩ := bag_loop ns (nI k) (.int A) (List.range (min ns.length 9)) (fun i hi => by have := List.mem_range.mp hi; omega) x .no hx'.1 hx'.2
    refine ⟨x', 1, ?_, ⟨g1, Nat.lt_of_lt_of_le (show x'.natAbs < 10 ^ 10 by omega) (by decide), by decide, by decide, fun _ => by omega⟩⟩
    have f1 : forS (puA (rngA1 (consA (callF min2D (consA (callF lenD (consA (nmF 0) (nilA))) (consA (cst (.int 9)) (nilA)))) (nilA)))) (gN 4) (setF 3 (op2 modF (op2 addF (op2 addF (op2 powF (nmF 3) (cst (.int 5))) (op2 modF (op2 ixD (nmF 0) (nmF 4)) (cst (.int 2147483629)))) (op2 mulF (cst (.int 31)) (nmF 4))) (cst (.int 2147483647)))) [.v (scD ns), .v (nI k), .v (.int A), .v (.int x), .no] = .nx [.v (scD ns), .v (nI k), .v (.int A), .v (.int x'), s4'] := by
      unfold forS puA
      rw [hr]
      exact g3
    have i1 : ifS (toB (op2 geF (nmF 2) (op2 powF (cst (.int 10)) (cst (.int 18))))) (retF (lstF (consA (nmF 2) (consA (cst (.int 0)) (nilA))))) (skip) [.v (scD ns), .v (nI k), .v (.int A), .no, .no] = .nx [.v (scD ns), .v (nI k), .v (.int A), .no, .no] := by
      simp only [ifS, toB, op2, nmF, List.getElem?_cons_succ, List.getElem?_cons_zero, Option.bind_some, cst, p2, geF_int, asB, decide_eq_false hb, skip]
    have i2 : setF 3 (op2 modF (op2 addF (op2 addF (nmF 2) (op2 mulF (cst (.int 7919)) (nmF 1))) (cst (.int 17))) (cst (.int 2147483647))) [.v (scD ns), .v (nI k), .v (.int A), .no, .no] = .nx [.v (scD ns), .v (nI k), .v (.int A), .v (.int x), .no] := by
      simp only [setF, op2, nmF, List.getElem?_cons_succ, List.getElem?_cons_zero, Option.bind_some, cst, m3, addF_int, m4, List.set_cons_succ, List.set_cons_zero]
    rw [seq_at i1, seq_at i2, seq_at f1]
    simp only [retF, lstF_ev, consA, nilA, nmF, cst, List.getElem?_cons_succ, List.getElem?_cons_zero, Option.bind_some, Option.map_some]
    rw [szK_small (by simp)]
end L2
set_option Elab.async false
set_option linter.all false
set_option maxRecDepth 100000
set_option maxHeartbeats 1000000
namespace L2
open PySem PySem.Spec PyProof.Rows
theorem callE_at {i n : Nat} {M : List D → List D → Option (D × List D)} {fs : GA} {ρ ρ1 : Rho} {b0 bs ds bs' : List D} {d : D} (h0 : getB i ρ = some b0) (h1 : fs ρ = some (ds, ρ1)) (h2 : getB i ρ1 = some bs) (h3 : ds.length = n) (h4 : M bs ds = some (d, bs')) : callE i n M fs ρ = some (d, setB i bs' ρ1) := by
  unfold callE
  rw [h0]; dsimp only; rw [h1]; dsimp only; rw [h2]; dsimp only; rw [if_pos h3, h4]
theorem consG_at {f : GE} {fs : GA} {ρ ρ1 ρ2 : Rho} {d : D} {ds : List D} (h1 : f ρ = some (d, ρ1)) (h2 : fs ρ1 = some (ds, ρ2)) : consG f fs ρ = some (d :: ds, ρ2) := by
  unfold consG bE; rw [h1]; dsimp only [Option.bind]; rw [h2]; rfl
theorem puA_at {f : FA} {ρ : Rho} {ds : List D} (h : f ρ = some ds) : puA f ρ = some (ds, ρ) := by unfold puA; rw [h]; rfl
theorem pu_at {f : FE} {ρ : Rho} {d : D} (h : f ρ = some d) : pu f ρ = some (d, ρ) := by unfold pu; rw [h]; rfl
theorem erase_map {α β : Type} (f : α → β) : ∀ (l : List α) (j : Nat), (l.map f).eraseIdx j = (l.eraseIdx j).map f
  | [], _ => rfl
  | _ :: _, 0 => rfl
  | x :: l, j + 1 => by simp [erase_map f l j]
theorem erase_perm {α : Type} : ∀ (l : List α) (j : Nat) (h : j < l.length), (l[j] :: l.eraseIdx j).Perm l
  | _ :: _, 0, _ => .refl _
  | x :: l, j + 1, h => by
    have ih := erase_perm l j (by simpa using h)
    exact (List.Perm.swap _ _ _).trans (ih.cons x)
theorem deps_N : ∀ r : List Nat, deps (r.map nI) = 0
  | [] => by simp [deps]
  | a :: r => by
    rw [List.map_cons]
    unfold deps
    rw [deps_N r]
    simp [dep]
theorem dep_lstN (r : List Nat) : dep (.lst (r.map nI)) ≤ 32 := by unfold dep; rw [deps_N]; omega
abbrev whO : FS → Nat → FS := fun b n => whL (toB (op2 neF (nbF 2) (lstF (nilA)))) b n
abbrev bodyO : FS := dropE (callE 3 1 appM (consG (callE 2 1 popM (consG (callE 0 1 mC_take (puA (consA (callF lenD (consA (nbF 2) (nilA))) (nilA)))) (puA (nilA)))) (puA (nilA))))
theorem testO (n : D) (bg : List D) (left found : List Nat) : toB (op2 neF (nbF 2) (lstF (nilA))) [.arg bg, .v n, .own (left.map nI), .own (found.map nI)] = some (!left.isEmpty) := by
  have h0 : lstF nilA [.arg bg, .v n, .own (left.map nI), .own (found.map nI)] = some (.lst []) := by
    rw [lstF_ev]; simp only [nilA, Option.bind_some]; exact szK_small (by simp)
  unfold toB op2
  rw [h0]
  simp only [nbF, List.getElem?_cons_succ, List.getElem?_cons_zero, Option.bind_some]
  rw [neF_ev (dep_lstN left)]
  cases left with
  | nil => simp [asB, eqD, eqDs]
  | cons x r => simp [asB, eqD, eqDs]
theorem bodyO_ev (n : D) {N : Nat} {a b : Int} (B : Bag N a b) (hN : N ≤ 1000000000) (left found : List Nat) (h0 : 0 < left.length) (h1 : left.length ≤ 100) (h2 : found.length ≤ 100) :
    ∃ (j : Nat) (hj : j < left.length) (a' b' : Int), bodyO [.arg (bagD a b), .v n, .own (left.map nI), .own (found.map nI)] = .nx [.arg (bagD a' b'), .v n, .own ((left.eraseIdx j).map nI), .own ((found ++ [left[j]]).map nI)] ∧ Bag (N + 1) a' b' := by
  obtain ⟨d, a', b', e, B', d0, d1⟩ := take_ev (m := left.length) B hN (by omega) (Nat.lt_of_lt_of_le (show (left.length : Int).natAbs < 10 ^ 10 by omega) (by decide))
  obtain ⟨j, rfl⟩ : ∃ j : Nat, d = (j : Int) := ⟨d.toNat, by omega⟩
  have hj : j < left.length := by omega
  refine ⟨j, hj, a', b', ?_, B'⟩
  have e2 : popM (left.map nI) [.int (j : Int)] = some (nI left[j], (left.eraseIdx j).map nI) := by
    rw [popM_ev, szK_small (by simp; omega)]
    simp only [Option.bind_some]
    rw [ixN_nat (by simpa using hj)]
    simp [hj, erase_map]
  have e3 : appM (found.map nI) [nI left[j]] = some (.non, (found ++ [left[j]]).map nI) := by
    rw [appM_ev, szL_small (by simp; omega)]; simp
  have g : callE 0 1 mC_take (puA (consA (callF lenD (consA (nbF 2) (nilA))) (nilA))) [.arg (bagD a b), .v n, .own (left.map nI), .own (found.map nI)] = some (nI j, [.arg (bagD a' b'), .v n, .own (left.map nI), .own (found.map nI)]) := by
    simp [callE, getB, puA, consA, callF, nbF, nilA, lenD, e, setB]
  have g2 : callE 2 1 popM (consG (callE 0 1 mC_take (puA (consA (callF lenD (consA (nbF 2) (nilA))) (nilA)))) (puA (nilA))) [.arg (bagD a b), .v n, .own (left.map nI), .own (found.map nI)] = some (nI left[j], [.arg (bagD a' b'), .v n, .own ((left.eraseIdx j).map nI), .own (found.map nI)]) := by
    refine (callE_at (i := 2) (n := 1) (b0 := left.map nI) (ds := [nI j]) (ρ1 := [.arg (bagD a' b'), .v n, .own (left.map nI), .own (found.map nI)]) rfl (consG_at g rfl) rfl rfl e2).trans rfl
  have g3 : callE 3 1 appM (consG (callE 2 1 popM (consG (callE 0 1 mC_take (puA (consA (callF lenD (consA (nbF 2) (nilA))) (nilA)))) (puA (nilA)))) (puA (nilA))) [.arg (bagD a b), .v n, .own (left.map nI), .own (found.map nI)] = some (.non, [.arg (bagD a' b'), .v n, .own ((left.eraseIdx j).map nI), .own ((found ++ [left[j]]).map nI)]) := by
    refine (callE_at (i := 3) (n := 1) (b0 := found.map nI) (ds := [nI left[j]]) (ρ1 := [.arg (bagD a' b'), .v n, .own ((left.eraseIdx j).map nI), .own (found.map nI)]) rfl (consG_at g2 rfl) rfl rfl e3).trans rfl
  unfold bodyO dropE
  rw [g3]
theorem loopO (n : D) : ∀ (f : Nat) (left found : List Nat) (N : Nat) (a b : Int), left.length < f → left.length ≤ 50 → found.length + left.length ≤ 100 → Bag N a b → N + left.length ≤ 1000000000 →
    ∃ (o : List Nat) (a' b' : Int), whO bodyO f [.arg (bagD a b), .v n, .own (left.map nI), .own (found.map nI)] = .nx [.arg (bagD a' b'), .v n, .own [], .own ((found ++ o).map nI)] ∧ o.Perm left ∧ Bag (N + left.length) a' b'
  | 0, left, found, N, a, b, h, _, _, _, _ => absurd h (Nat.not_lt_zero _)
  | f + 1, left, found, N, a, b, h, h1, h2, B, hN => by
    unfold whO whL
    rw [testO]
    cases e : left.isEmpty with
    | true =>
      have : left = [] := by simpa using e
      subst this
      exact ⟨[], a, b, by simp, .refl _, by simpa using B⟩
    | false =>
      have h0 : 0 < left.length := by cases left with
        | nil => cases e
        | cons x r => simp
      obtain ⟨j, hj, a1, b1, e1, B1⟩ := bodyO_ev n B (by omega) left found h0 (by omega) (by omega)
      have hl : (left.eraseIdx j).length = left.length - 1 := by rw [List.length_eraseIdx]; simp [hj]
      obtain ⟨o, a2, b2, e2, p, B2⟩ := loopO n f (left.eraseIdx j) (found ++ [left[j]]) (N + 1) a1 b1 (by omega) (by omega) (by simp; omega) B1 (by omega)
      refine ⟨left[j] :: o, a2, b2, ?_, ?_, ?_⟩
      · simp only [Bool.not_false]
        rw [e1]
        dsimp only
        have : whL (toB (op2 neF (nbF 2) (lstF nilA))) bodyO f = whO bodyO f := rfl
        rw [this, e2]
        simp
      · exact (p.cons _).trans (erase_perm left j hj)
      · rw [show N + left.length = N + 1 + (left.eraseIdx j).length by omega]; exact B2
/-- an order of 0 .. n - 1 -/
structure Ord (n : Nat) (r : List Nat) : Prop where
  perm : r.Perm (List.range n)
theorem Ord.len {n : Nat} {r : List Nat} (o : Ord n r) : r.length = n := by rw [o.perm.length_eq]; simp
theorem Ord.lt {n : Nat} {r : List Nat} (o : Ord n r) {v : Nat} (h : v ∈ r) : v < n := by simpa using o.perm.mem_iff.mp h
theorem Ord.has {n : Nat} {r : List Nat} (o : Ord n r) {v : Nat} (h : v < n) : v ∈ r := o.perm.mem_iff.mpr (by simpa using h)
theorem Ord.nd {n : Nat} {r : List Nat} (o : Ord n r) : r.Nodup := o.perm.nodup_iff.mpr List.nodup_range
theorem lr_ev {n : Nat} (h : n ≤ 1000) (f : FE) (ρ : Rho) (e : f ρ = some (nI n)) : lr1 f ρ = some (.lst ((List.range n).map nI)) := by
  unfold lr1 lrF1
  rw [e]
  simp only [Option.bind_some]
  rw [if_pos (by omega), ups_N]; rfl
theorem order_ev {N : Nat} {a b : Int} (B : Bag N a b) {n : Nat} (hn : n ≤ 12) (hN : N ≤ 900000000) : ∃ (o : List Nat) (a' b' : Int), mC_order (bagD a b) [nI n] = some (.lst (o.map nI), bagD a' b') ∧ Ord n o ∧ Bag (N + n) a' b' := by
  obtain ⟨o, a', b', e, p, B'⟩ := loopO (nI n) 16 (List.range n) [] N a b (by simp; omega) (by simp; omega) (by simp; omega) B (by simp; omega)
  refine ⟨o, a', b', ?_, ⟨p⟩, by simpa using B'⟩
  have r0 : rhoE 4 (bagD a b) [nI n] = [.arg (bagD a b), .v (nI n), .no, .no] := rfl
  have s1 : ownF 2 (lr1 (nmF 1)) [.arg (bagD a b), .v (nI n), .no, .no] = .nx [.arg (bagD a b), .v (nI n), .own ((List.range n).map nI), .no] := by
    unfold ownF
    rw [lr_ev (n := n) (by omega) (nmF 1) _ rfl]
    rfl
  have s2 : ownF 3 (lstF (nilA)) [.arg (bagD a b), .v (nI n), .own ((List.range n).map nI), .no] = .nx [.arg (bagD a b), .v (nI n), .own ((List.range n).map nI), .own []] := by
    unfold ownF
    rw [lstF_ev]
    simp only [nilA, Option.bind_some]
    rw [szK_small (by simp)]
    rfl
  unfold mC_order fnE tC_order
  rw [r0, seq_at s1, seq_at s2]
  have e' : whL (toB (op2 neF (nbF 2) (lstF (nilA)))) bodyO 16 [.arg (bagD a b), .v (nI n), .own ((List.range n).map nI), .own []] = .nx [.arg (bagD a' b'), .v (nI n), .own [], .own (o.map nI)] := e
  rw [seq_at e']
  simp [retO, getO, arg0]
end L2
set_option Elab.async false
set_option linter.all false
set_option maxRecDepth 100000
set_option maxHeartbeats 1000000
namespace L2
open PySem PySem.Spec PyProof.Rows
theorem op2_at {F : D → D → Option D} {f g : FE} {ρ : Rho} {x y : D} (h1 : f ρ = some x) (h2 : g ρ = some y) : op2 F f g ρ = F x y := by unfold op2; rw [h1, Option.bind_some, h2, Option.bind_some]
theorem op2E_at {F : D → D → Option D} {f g : GE} {ρ ρ1 ρ2 : Rho} {x y d : D} (h1 : f ρ = some (x, ρ1)) (h2 : g ρ1 = some (y, ρ2)) (h3 : F x y = some d) : op2E F f g ρ = some (d, ρ2) := by
  unfold op2E bE; rw [h1]; dsimp only [Option.bind]; rw [h2]; dsimp only [Option.bind]; rw [h3]; rfl
theorem setF_at {i : Nat} {f : FE} {ρ : Rho} {d : D} (h : f ρ = some d) : setF i f ρ = .nx (ρ.set i (.v d)) := by unfold setF; rw [h]
theorem setE_at {i : Nat} {f : GE} {ρ ρ1 : Rho} {d : D} (h : f ρ = some (d, ρ1)) : setE i f ρ = .nx (ρ1.set i (.v d)) := by unfold setE; rw [h]
theorem ownE_at {i : Nat} {f : GE} {ρ ρ1 : Rho} {ds : List D} (h : f ρ = some (.lst ds, ρ1)) : ownE i f ρ = .nx (ρ1.set i (.own ds)) := by unfold ownE; rw [h]; rfl
theorem ownF_at {i : Nat} {f : FE} {ρ : Rho} {ds : List D} (h : f ρ = some (.lst ds)) : ownF i f ρ = .nx (ρ.set i (.own ds)) := by unfold ownF; rw [h]; rfl
theorem tupF_at {f : FA} {ρ : Rho} {ds : List D} (h : f ρ = some ds) (h2 : ds.length ≤ 1000) : tupF f ρ = some (.tup ds) := by
  rw [tupF_ev, h, Option.bind_some, szK_small h2]
theorem lstF_at {f : FA} {ρ : Rho} {ds : List D} (h : f ρ = some ds) (h2 : ds.length ≤ 1000) : lstF f ρ = some (.lst ds) := by
  rw [lstF_ev, h, Option.bind_some, szK_small h2]
theorem consA_at {f : FE} {fs : FA} {ρ : Rho} {d : D} {ds : List D} (h1 : f ρ = some d) (h2 : fs ρ = some ds) : consA f fs ρ = some (d :: ds) := by unfold consA; rw [h1, h2]; rfl
theorem callF_at {F : List D → Option D} {f : FA} {ρ : Rho} {ds : List D} (h : f ρ = some ds) : callF F f ρ = F ds := by unfold callF; rw [h]; rfl
theorem atI_N {r : List Nat} {c : Nat} (h : c < r.length) : atI (r.map nI) (c : Int) = some (nI (r.getD c 0)) := atI_nat (by rw [List.getElem?_map, List.getElem?_eq_getElem h]; simp [List.getD, h])
theorem ixL_N {r : List Nat} {c : Nat} (h : c < r.length) : ixD (.lst (r.map nI)) (nI c) = some (nI (r.getD c 0)) := atI_N h
theorem ixT_N {r : List Nat} {c : Nat} (h : c < r.length) : ixD (.tup (r.map nI)) (nI c) = some (nI (r.getD c 0)) := atI_N h
theorem eqD_nI (a b : Nat) : eqD (nI a) (nI b) = decide (a = b) := by
  rw [eqD_int]; rw [Bool.eq_iff_iff]; simp; omega
theorem addN (a b : Nat) : addF (nI a) (nI b) = some (nI (a + b)) := by rw [addF_int]; simp
theorem add1 (a : Nat) : addF (nI a) (.int 1) = some (nI (a + 1)) := by rw [addF_int]; simp
theorem modN {a n : Nat} (h : 0 < n) : modF (nI a) (nI n) = some (nI (a % n)) := by rw [modF_int (by omega)]; rfl
theorem setIx_at {i : Nat} {fi : FE} {d : D} {ρ : Rho} {bs : List D} {j : Nat} (h1 : getB i ρ = some bs) (h2 : fi ρ = some (nI j)) (h3 : j < bs.length) : setIx i fi d ρ = some (setB i (bs.set j d) ρ) := by
  unfold setIx
  rw [h1]; dsimp only; rw [h2]; dsimp only; rw [ixN_nat h3]
theorem map_setN (x : List Nat) (j v : Nat) : (x.map nI).set j (nI v) = (x.set j v).map nI := by rw [List.map_set]
/-! the law's square -/
def fixS (n : Nat) (r x : List Nat) (c : Nat) : List Nat := if x.getD c 0 = r.getD c 0 then (x.set c (x.getD ((c + 1) % n) 0)).set ((c + 1) % n) (x.getD c 0) else x
abbrev turnQ : FS := seqS (setF 7 (op2 modF (op2 addF (nmF 6) (cst (.int 1))) (nmF 1)))
  (ifS (toB (op2 eqF (op2 ixD (nbF 5) (nmF 6)) (op2 ixD (nmF 4) (nmF 6)))) (asgE (gT 2 (gsC (setIx 5 (nmF 6)) (gsC (setIx 5 (nmF 7)) (gsN)))) (pu (tupF (consA (op2 ixD (nbF 5) (nmF 7)) (consA (op2 ixD (nbF 5) (nmF 6)) (nilA)))))) (skip))
theorem turnQ_ev (bg : List D) (p q : D) (n : Nat) (r x : List Nat) (c : Nat) (s7 : Sl) (hr : r.length = n) (hx : x.length = n) (hc : c < n) :
    turnQ [.arg bg, .v (nI n), .v p, .v q, .v (.lst (r.map nI)), .own (x.map nI), .v (nI c), s7] = .nx [.arg bg, .v (nI n), .v p, .v q, .v (.lst (r.map nI)), .own ((fixS n r x c).map nI), .v (nI c), .v (nI ((c + 1) % n))] := by
  have hd : (c + 1) % n < n := Nat.mod_lt _ (by omega)
  have e1 : setF 7 (op2 modF (op2 addF (nmF 6) (cst (.int 1))) (nmF 1)) [.arg bg, .v (nI n), .v p, .v q, .v (.lst (r.map nI)), .own (x.map nI), .v (nI c), s7] = .nx [.arg bg, .v (nI n), .v p, .v q, .v (.lst (r.map nI)), .own (x.map nI), .v (nI c), .v (nI ((c + 1) % n))] :=
    (setF_at ((op2_at (op2_at (x := nI c) (y := .int 1) rfl rfl |>.trans (add1 c)) (y := nI n) rfl).trans (modN (by omega)))).trans rfl
  unfold turnQ
  rw [seq_at e1]
  have i1 : op2 ixD (nbF 5) (nmF 6) [.arg bg, .v (nI n), .v p, .v q, .v (.lst (r.map nI)), .own (x.map nI), .v (nI c), .v (nI ((c + 1) % n))] = some (nI (x.getD c 0)) := (op2_at (x := .lst (x.map nI)) (y := nI c) rfl rfl).trans (ixL_N (by omega))
  have i2 : op2 ixD (nmF 4) (nmF 6) [.arg bg, .v (nI n), .v p, .v q, .v (.lst (r.map nI)), .own (x.map nI), .v (nI c), .v (nI ((c + 1) % n))] = some (nI (r.getD c 0)) := (op2_at (x := .lst (r.map nI)) (y := nI c) rfl rfl).trans (ixL_N (by omega))
  have i3 : op2 ixD (nbF 5) (nmF 7) [.arg bg, .v (nI n), .v p, .v q, .v (.lst (r.map nI)), .own (x.map nI), .v (nI c), .v (nI ((c + 1) % n))] = some (nI (x.getD ((c + 1) % n) 0)) := (op2_at (x := .lst (x.map nI)) (y := nI ((c + 1) % n)) rfl rfl).trans (ixL_N (by omega))
  unfold ifS toB
  rw [op2_at i1 i2, eqF_ev (by rw [dep_int]; omega), eqD_nI]
  by_cases e : x.getD c 0 = r.getD c 0
  · rw [decide_eq_true e]
    simp only [asB]
    unfold asgE
    rw [pu_at (tupF_at (consA_at i3 (consA_at i1 rfl)) (by simp))]
    simp only [gT, List.length_cons, List.length_nil, gsC]
    unfold fixS
    rw [if_pos e]
    rw [setIx_at (bs := x.map nI) (j := c) rfl rfl (by simp; omega)]
    simp only [Option.bind_some]
    rw [setIx_at (bs := (x.map nI).set c (nI (x.getD ((c + 1) % n) 0))) (j := (c + 1) % n) rfl rfl (by simp; omega)]
    simp only [Option.bind_some, gsN, map_setN]
    rfl
  · rw [decide_eq_false e]
    simp only [asB, skip]
    unfold fixS
    rw [if_neg e]
theorem swap_perm (x : List Nat) (c d : Nat) (hc : c < x.length) (hd : d < x.length) : ((x.set c (x.getD d 0)).set d (x.getD c 0)).Perm x := by
  have e : (x.toArray.swap c d (by simpa using hc) (by simpa using hd)).toList = (x.set c (x.getD d 0)).set d (x.getD c 0) := by
    simp [Array.toList_swap, List.getD, hc, hd]
  rw [← e]
  have := Array.swap_perm (xs := x.toArray) (i := c) (j := d) (by simpa using hc) (by simpa using hd)
  simpa using (Array.perm_iff_toList_perm.mp this)
theorem nd_inj {x : List Nat} (h : x.Nodup) {i j : Nat} (hi : i < x.length) (hj : j < x.length) (e : x.getD i 0 = x.getD j 0) : i = j := by
  have : x[i] = x[j] := by simpa [List.getD, hi, hj] using e
  exact (List.getElem_inj h).mp this
theorem Ord.fix {n : Nat} {r x : List Nat} (or : Ord n r) (ox : Ord n x) {c : Nat} (hc : c < n) (hn : 2 ≤ n) : Ord n (fixS n r x c) ∧ ((∀ i, i < c → x.getD i 0 ≠ r.getD i 0) → ∀ i, i < c + 1 → (fixS n r x c).getD i 0 ≠ r.getD i 0) := by
  have lx := ox.len
  have lr := or.len
  have hd : (c + 1) % n < n := Nat.mod_lt _ (by omega)
  have gx : ∀ i, i < n → x.getD i 0 = x[i]! := fun i hi => by simp [List.getD, lx, hi]
  unfold fixS
  by_cases e : x.getD c 0 = r.getD c 0
  · rw [if_pos e]
    have ne : (c + 1) % n ≠ c := by
      by_cases h : c + 1 < n
      · rw [Nat.mod_eq_of_lt h]; omega
      · rw [show c + 1 = n by omega, Nat.mod_self]; omega
    refine ⟨⟨(swap_perm x c _ (by omega) (by omega)).trans ox.perm⟩, fun h i hi => ?_⟩
    have g : ((x.set c (x.getD ((c + 1) % n) 0)).set ((c + 1) % n) (x.getD c 0)).getD i 0 = if i = (c + 1) % n then x.getD c 0 else if i = c then x.getD ((c + 1) % n) 0 else x.getD i 0 := by
      simp only [List.getD, List.getElem?_set, List.length_set]
      by_cases h1 : (c + 1) % n = i
      · subst h1; simp [lx, hd]
      · rw [if_neg h1, if_neg (Ne.symm h1)]
        by_cases h2 : c = i
        · subst h2; simp [lx, hc]
        · rw [if_neg h2, if_neg (Ne.symm h2)]
    rw [g]
    by_cases h1 : i = (c + 1) % n
    · rw [if_pos h1, e]
      intro z
      have := nd_inj or.nd (by omega) (by omega) z
      omega
    · rw [if_neg h1]
      by_cases h2 : i = c
      · rw [if_pos h2, h2, ← e]
        intro z
        have := nd_inj ox.nd (by omega) (by omega) z
        omega
      · rw [if_neg h2]; exact h i (by omega)
  · rw [if_neg e]
    refine ⟨ox, fun h i hi => ?_⟩
    by_cases hic : i = c
    · subst hic; exact e
    · exact h i (by omega)
theorem loopQ (bg : List D) (p q : D) {n : Nat} {r : List Nat} (or : Ord n r) (hn : 2 ≤ n) : ∀ (k c : Nat) (x : List Nat) (s6 s7 : Sl), c + k = n → Ord n x → (∀ i, i < c → x.getD i 0 ≠ r.getD i 0) →
    ∃ (x' : List Nat) (s6' s7' : Sl), forL (gN 6) turnQ ((List.range' c k).map nI) [.arg bg, .v (nI n), .v p, .v q, .v (.lst (r.map nI)), .own (x.map nI), s6, s7] = .nx [.arg bg, .v (nI n), .v p, .v q, .v (.lst (r.map nI)), .own (x'.map nI), s6', s7'] ∧ Ord n x' ∧ ∀ i, i < n → x'.getD i 0 ≠ r.getD i 0
  | 0, c, x, s6, s7, h, ox, hi => ⟨x, s6, s7, rfl, ox, fun i h' => hi i (by omega)⟩
  | k + 1, c, x, s6, s7, h, ox, hi => by
    obtain ⟨o1, o2⟩ := or.fix ox (c := c) (by omega) hn
    obtain ⟨x', a, b, e, o3, o4⟩ := loopQ bg p q or hn k (c + 1) (fixS n r x c) (.v (nI c)) (.v (nI ((c + 1) % n))) (by omega) o1 (o2 hi)
    refine ⟨x', a, b, ?_, o3, o4⟩
    rw [List.range'_succ, List.map_cons]
    unfold forL
    have : gN 6 (nI c) [.arg bg, .v (nI n), .v p, .v q, .v (.lst (r.map nI)), .own (x.map nI), s6, s7] = some [.arg bg, .v (nI n), .v p, .v q, .v (.lst (r.map nI)), .own (x.map nI), .v (nI c), s7] := rfl
    rw [this]
    dsimp only
    rw [turnQ_ev bg p q n r x c s7 or.len ox.len (by omega)]
    exact e
theorem compL_map {α : Type} {g : FG} {f : FE} {ρ0 : Rho} {h o : α → D} : ∀ (l : List α), (∀ i ∈ l, ∃ ρ1, g (h i) ρ0 = some ρ1 ∧ f ρ1 = some (o i)) → compL g yesT f ρ0 (l.map h) = some (l.map o)
  | [], _ => rfl
  | a :: l, H => by
    obtain ⟨ρ1, h1, h2⟩ := H a (by simp)
    have ih := compL_map l fun i hi => H i (by simp [hi])
    rw [List.map_cons]
    unfold compL
    rw [h1, Option.bind_some]
    simp only [yesT, Option.bind_some, if_true, h2, ih]
    rfl
theorem compF_at {m : Nat} {gi : FA} {g : FG} {p : FT} {f : FE} {ρ : Rho} {ds ys : List D} (h1 : gi ρ = some ds) (h2 : ds.length ≤ 1000) (h3 : compL g p f (ρ ++ List.replicate m .no) ds = some ys) : compF m gi g p f ρ = some (.lst ys) := by
  rw [compF_ev, h1, Option.bind_some, szK_small h2, Option.bind_some, h3]; rfl
theorem rot_ord : ∀ n, 2 ≤ n → n ≤ 6 → ∀ b, 1 ≤ b → b < n → Ord n ((List.range n).map fun i => (i + b) % n) := by
  intro n h1 h2 b h3 h4
  refine ⟨?_⟩
  have : ∀ n : _root_.Fin 7, ∀ b : _root_.Fin 7, ((List.range n.val).map fun i => (i + b.val) % n.val).isPerm (List.range n.val) = true ∨ ¬ (b.val < n.val) := by decide
  rcases this ⟨n, by omega⟩ ⟨b, by omega⟩ with h | h
  · exact List.isPerm_iff.mp h
  · exact absurd h4 h
abbrev tupN (r : List Nat) : D := .tup (r.map nI)
abbrev sqD (r x : List Nat) : D := .tup [tupN r, tupN x]
structure Sq (n : Nat) (r x : List Nat) : Prop where
  hr : Ord n r
  hx : Ord n x
  ne : ∀ i, i < n → x.getD i 0 ≠ r.getD i 0
theorem rngA1_at {f : FA} {ρ : Rho} {n : Nat} (h : f ρ = some [nI n]) (hn : n ≤ 1000) : rngA1 f ρ = some ((List.range n).map nI) := by
  rw [rngA1_ev, h, Option.bind_some, rngK_int (by omega), ups_N]; rfl
end L2
set_option Elab.async false
set_option linter.all false
set_option maxRecDepth 100000
set_option maxHeartbeats 1000000
namespace L2
open PySem PySem.Spec PyProof.Rows
theorem toN {j : Int} (h : 0 ≤ j) : D.int j = nI j.toNat := by show D.int j = D.int (j.toNat : Int); rw [Int.toNat_of_nonneg h]
theorem nF_at {n : Nat} {P : List D → Option D} {ds : List D} (h : ds.length = n) : nF n P ds = P ds := if_pos h
theorem asg_at {g : FG} {f : GE} {ρ ρ1 ρ2 : Rho} {d : D} (h1 : f ρ = some (d, ρ1)) (h2 : g d ρ1 = some ρ2) : asgE g f ρ = .nx ρ2 := by unfold asgE; rw [h1]; dsimp only; rw [h2]; rfl
theorem cl_at {n : Nat} {P : List D → Option D} {fs : FA} {ρ : Rho} {ds : List D} (h : fs ρ = some ds) (hl : ds.length = n) : callF (nF n P) fs ρ = P ds := (callF_at h).trans (nF_at hl)
theorem fnP_ret {kd : Kd} {n : Nat} {t : FS} {ds : List D} {ρ : Rho} {d : D} (h : t (rho0 n ds) = .rt d ρ) : fnP kd n t ds = some d := by unfold fnP; rw [h]
theorem retF_at {f : FE} {ρ : Rho} {d : D} (h : f ρ = some d) : retF f ρ = .rt d ρ := by unfold retF; rw [h]
theorem blsD_of : ∀ bs : List Bool, blsD (bs.map D.bl) = some bs
  | [] => rfl
  | b :: r => by show (blsD (r.map D.bl)).map (b :: ·) = _; rw [blsD_of r]; rfl
theorem anyD_of (bs : List Bool) : anyD [.lst (bs.map D.bl)] = some (.bl (bs.any id)) := by
  show (blsD (bs.map D.bl)).map (fun bs => D.bl (bs.any id)) = _
  rw [blsD_of]; rfl
theorem ifS_f {p : FT} {t u : FS} {ρ : Rho} (h : p ρ = some false) : ifS p t u ρ = u ρ := by unfold ifS; rw [h]
theorem ifS_t {p : FT} {t u : FS} {ρ : Rho} (h : p ρ = some true) : ifS p t u ρ = t ρ := by unfold ifS; rw [h]
theorem or2_at {p q : FT} {ρ : Rho} {b : Bool} (h1 : p ρ = some false) (h2 : q ρ = some b) : or2 p q ρ = some b := by unfold or2; rw [h1]; exact h2
theorem dropE_at {f : GE} {ρ ρ1 : Rho} {d : D} (h : f ρ = some (d, ρ1)) : dropE f ρ = .nx ρ1 := by unfold dropE; rw [h]
theorem toB_at {f : FE} {ρ : Rho} {b : Bool} (h : f ρ = some (.bl b)) : toB f ρ = some b := by unfold toB; rw [h]; rfl
theorem tru_bl {f : FE} {ρ : Rho} {b : Bool} (h : f ρ = some (.bl b)) : tru1 f ρ = some b := by unfold tru1; rw [h]; rfl
theorem not_at {p : FT} {ρ : Rho} {b : Bool} (h : p ρ = some b) : not1 p ρ = some (!b) := by unfold not1; rw [h]; rfl
theorem ne_same {x : D} (h : dep x ≤ 32) : neF x x = some (.bl false) := by rw [neF_ev h, eqD_refl]; rfl
theorem forL_cons {g : FG} {b : FS} {d : D} {r : List D} {ρ ρ1 ρ2 : Rho} (h1 : g d ρ = some ρ1) (h2 : b ρ1 = .nx ρ2) : forL g b (d :: r) ρ = forL g b r ρ2 := by
  show (match g d ρ with
    | none => Out.no
    | some ρ1 => match b ρ1 with
      | .nx ρ2 => forL g b r ρ2
      | .ct ρ2 => forL g b r ρ2
      | .bk ρ2 => .nx ρ2
      | .rt d ρ2 => .rt d ρ2
      | .no => .no) = _
  rw [h1]; dsimp only; rw [h2]
theorem forS_at {f : GA} {g : FG} {b : FS} {ρ ρ1 : Rho} {ds : List D} (h : f ρ = some (ds, ρ1)) : forS f g b ρ = forL g b ds ρ1 := by unfold forS; rw [h]
theorem fnP_ex {kd : Kd} {n : Nat} {t : FS} {ds : List D} {d : D} (h : ∃ ρ, t (rho0 n ds) = .rt d ρ) : fnP kd n t ds = some d := let ⟨_, h⟩ := h; fnP_ret h
theorem seq_ex {t u : FS} {ρ : Rho} {d : D} (P : Rho → Prop) (h : ∃ ρ', t ρ = .nx ρ' ∧ P ρ') (hu : ∀ ρ', P ρ' → ∃ ρ'', u ρ' = .rt d ρ'') : ∃ ρ'', seqS t u ρ = .rt d ρ'' := by
  obtain ⟨ρ', h1, h2⟩ := h
  obtain ⟨ρ'', h3⟩ := hu ρ' h2
  exact ⟨ρ'', (seq_at h1).trans h3⟩
theorem forS_ex {f : GA} {g : FG} {b : FS} {ρ ρ1 : Rho} {ds : List D} {P : Rho → Prop} (h : f ρ = some (ds, ρ1)) (hl : ∃ ρ', forL g b ds ρ1 = .nx ρ' ∧ P ρ') : ∃ ρ', forS f g b ρ = .nx ρ' ∧ P ρ' := by
  obtain ⟨ρ', h1, h2⟩ := hl
  exact ⟨ρ', (forS_at h).trans h1, h2⟩
theorem forL_ex {g : FG} {b : FS} {P : Rho → Prop} : ∀ (l : List D), (∀ d ∈ l, ∀ ρ, P ρ → ∃ ρ1 ρ2, g d ρ = some ρ1 ∧ b ρ1 = .nx ρ2 ∧ P ρ2) → ∀ ρ, P ρ → ∃ ρ', forL g b l ρ = .nx ρ' ∧ P ρ'
  | [], _, ρ, p => ⟨ρ, rfl, p⟩
  | d :: l, h, ρ, p => by
    obtain ⟨ρ1, ρ2, h1, h2, p2⟩ := h d (by simp) ρ p
    obtain ⟨ρ', e, p'⟩ := forL_ex l (fun d' hd => h d' (by simp [hd])) ρ2 p2
    exact ⟨ρ', (forL_cons h1 h2).trans e, p'⟩
theorem ixm (i : Int) {n : Nat} (h : 0 < n) : (i % (n : Int)).toNat < n ∧ (((i % (n : Int)).toNat : Nat) : Int) = i % n := by
  have := natAbs_mod (i := i) (m := n) (by omega)
  omega
theorem app_at {i : Nat} {fs : GA} {ρ ρ1 : Rho} {b0 bs : List D} {d : D} (h0 : getB i ρ = some b0) (h1 : fs ρ = some ([d], ρ1)) (h2 : getB i ρ1 = some bs) (h3 : bs.length ≤ 900) : dropE (callE i 1 appM fs) ρ = .nx (setB i (bs ++ [d]) ρ1) :=
  dropE_at (callE_at h0 h1 h2 rfl (by rw [appM_ev, szL_small (by omega)]))
/-- a comprehension with a test -/
theorem compL_flt {α : Type} {g : FG} {p : FT} {f : FE} {ρ0 : Rho} {h o : α → D} {q : α → Bool} : ∀ (l : List α), (∀ i ∈ l, ∃ ρ1, g (h i) ρ0 = some ρ1 ∧ p ρ1 = some (q i) ∧ (q i = true → f ρ1 = some (o i))) → compL g p f ρ0 (l.map h) = some ((l.filter q).map o)
  | [], _ => rfl
  | a :: l, H => by
    obtain ⟨ρ1, h1, h2, h3⟩ := H a (by simp)
    have ih := compL_flt l fun i hi => H i (by simp [hi])
    rw [List.map_cons]
    unfold compL
    rw [h1, Option.bind_some, h2, Option.bind_some]
    cases e : q a with
    | true => rw [if_pos rfl, h3 e, Option.bind_some, ih]; simp [e]
    | false => rw [if_neg (by simp), ih]; simp [e]
/-- two generators -/
theorem cpL_map {α : Type} {g : FG} {p : FT} {A : FA} {ρ0 : Rho} {h : α → D} {q : α → Bool} {o : α → List D} : ∀ (l : List α), (∀ i ∈ l, ∃ ρ1, g (h i) ρ0 = some ρ1 ∧ p ρ1 = some (q i) ∧ (q i = true → A ρ1 = some (o i))) → cpL g p A ρ0 (l.map h) = some ((l.filter q).flatMap o)
  | [], _ => rfl
  | a :: l, H => by
    obtain ⟨ρ1, h1, h2, h3⟩ := H a (by simp)
    have ih := cpL_map l fun i hi => H i (by simp [hi])
    rw [List.map_cons]
    unfold cpL
    rw [h1, Option.bind_some, h2, Option.bind_some]
    cases e : q a with
    | true => rw [if_pos rfl, h3 e, Option.bind_some, ih]; simp [e]
    | false => rw [if_neg (by simp), ih]; simp [e]
theorem oneA_at {f : FE} {ρ : Rho} {d : D} (h : f ρ = some d) : oneA f ρ = some [d] := by unfold oneA; rw [h]; rfl
theorem cp2F_at {m : Nat} {gi1 gi2 : FA} {g1 g2 : FG} {p1 p2 : FT} {f : FE} {ρ : Rho} {ds ys : List D} (h1 : gi1 ρ = some ds) (h2 : cpL g1 p1 (inA gi2 g2 p2 f) (ρ ++ List.replicate m .no) ds = some ys) (h3 : ys.length ≤ 1000) : cp2F m gi1 g1 p1 gi2 g2 p2 f ρ = some (.lst ys) := by
  unfold cp2F
  rw [h1, Option.bind_some, h2, Option.bind_some, if_pos (Nat.le_of_lt (small1000 h3))]
theorem inA_at {gi : FA} {g : FG} {p : FT} {f : FE} {ρ : Rho} {ds ys : List D} (h1 : gi ρ = some ds) (h2 : cpL g p (oneA f) ρ ds = some ys) : inA gi g p f ρ = some ys := by
  unfold inA; rw [h1, Option.bind_some, h2]
theorem len_tupN (r : List Nat) (ρ : Rho) (f : FE) (h : f ρ = some (tupN r)) : callF lenD (consA f nilA) ρ = some (nI r.length) := by
  rw [callF_at (consA_at h rfl)]
  show some (D.int ((r.map nI).length : Int)) = _
  rw [List.length_map]
end L2
set_option Elab.async false
set_option linter.all false
set_option maxRecDepth 100000
set_option maxHeartbeats 1000000
namespace L2
open PySem PySem.Spec PyProof.Rows
/-! ### places round -/
def inB (n s e x : Nat) : Bool := decide (((x : Int) - s) % n < ((e : Int) - s) % n)
/-! cells -/
def cellK (A B : List Nat) : List (List Int) := A.flatMap fun (a : Nat) => B.map fun (b : Nat) => [(a : Int), (b : Int)]
/-! the mirrors -/
/-! the stand behind, and whether it is bare -/
def exO (o : List Nat) (a b : Nat) : List Nat := (o.set a (o.getD b 0)).set b (o.getD a 0)
end L2
set_option Elab.async false
set_option linter.all false
set_option maxRecDepth 100000
set_option maxHeartbeats 1000000
namespace L2
open PySem PySem.Spec PyProof.Rows
theorem flat_one {α β : Type} (f : α → β) : ∀ l : List α, l.flatMap (fun c => [f c]) = l.map f
  | [] => rfl
  | a :: l => by rw [List.flatMap_cons, flat_one f l]; rfl
theorem deps_I : ∀ k : List Int, deps (k.map D.int) = 0
  | [] => by simp [deps]
  | a :: k => by rw [List.map_cons]; unfold deps; rw [deps_I k]; simp [dep]
theorem dep_tpI (k : List Int) : dep (tpI k) = 1 := by unfold tpI dep; rw [deps_I]
theorem deps_K : ∀ ks : List (List Int), deps (ks.map tpI) ≤ 1
  | [] => by simp [deps]
  | k :: ks => by
    rw [List.map_cons]
    unfold deps
    have := deps_K ks
    rw [dep_tpI]; omega
theorem dep_K (ks : List (List Int)) : dep (.lst (ks.map tpI)) ≤ 32 := by unfold dep; have := deps_K ks; omega
theorem Ord.get {n : Nat} {o : List Nat} (O : Ord n o) {i : Nat} (h : i < n) : o.getD i 0 < n := by
  have ho := O.len
  have : o.getD i 0 = o[i]'(by omega) := by simp [List.getD, ho, h]
  rw [this]; exact O.lt (List.getElem_mem _)
theorem Ord.inj {n : Nat} {o : List Nat} (O : Ord n o) {i j : Nat} (hi : i < n) (hj : j < n) (e : o.getD i 0 = o.getD j 0) : i = j := nd_inj O.nd (by rw [O.len]; exact hi) (by rw [O.len]; exact hj) e
end L2
set_option Elab.async false
set_option linter.all false
set_option maxRecDepth 100000
set_option maxHeartbeats 1000000
namespace L2
open PySem PySem.Spec PyProof.Rows
end L2
set_option Elab.async false
set_option linter.all false
set_option maxRecDepth 100000
set_option maxHeartbeats 1000000
namespace L2
open PySem PySem.Spec PyProof.Rows
end L2
set_option Elab.async false
set_option linter.all false
set_option maxRecDepth 100000
namespace L2
open PySem PySem.Spec PyProof.Rows
section
variable {X : Cx} {K : PySem.W.Frag}
end
section
variable {X : Cx} {c : Ct} {k : Kd} {pos : Pos}
end
end L2
set_option Elab.async false
set_option linter.all false
set_option maxRecDepth 100000
namespace L2
open PySem PySem.W PySem.Spec PyProof.Rows
/-! sorted of tuples whose first two items are ints, no two alike: the rest is never asked -/
section
variable {prog : Program} {w : World} {A : Around} {s : Shared} {b fin : Bool} {Q : Bool → Shared → Prop}
end
end L2
set_option Elab.async false
set_option linter.all false
set_option maxRecDepth 100000
namespace L2
open PySem PySem.Spec PyProof.Rows
section
variable {X : Cx} {c : Ct} {k : Kd} {es : List Expr} {x1 : Nat} {tp pos p : Pos}
end
/-! a, b, c = x, y, z with names of one's own -/
section
variable {X : Cx} {c : Ct} {k : Kd} {pos : Pos}
end
end L2
set_option Elab.async false
set_option linter.all false
set_option maxRecDepth 100000
set_option maxHeartbeats 4000000
namespace L2
open PySem PySem.Spec PyProof.Rows
def ls : List Nat → (Nat → Int) → Int
  | [], _ => 0
  | x :: l, f => f x + ls l f
end L2
set_option Elab.async false
set_option linter.all false
set_option maxRecDepth 100000
set_option maxHeartbeats 4000000
namespace L2
open PySem PySem.Spec PyProof.Rows
section
variable {n a b : Nat} {r o : List Nat} (O : Ord n o) (R : Ord n r) (ha : a < n) (hb : b < n) (ne : a ≠ b)
include O R ha hb ne
end
section
variable {n a b : Nat} {o : List Nat} (O : Ord n o) (ha : a < n) (hb : b < n) (ne : a ≠ b)
include O ha hb ne
end
end L2
set_option Elab.async false
set_option linter.all false
set_option maxRecDepth 100000
set_option maxHeartbeats 4000000
namespace L2
open PySem PySem.Spec PyProof.Rows
theorem findN (v : Nat) : ∀ l : List Nat, v ∈ l → ∃ j, (l.map nI).findIdx? (fun d => eqD d (nI v)) = some j ∧ j < l.length ∧ l.getD j 0 = v
  | [], h => absurd h List.not_mem_nil
  | y :: l, h => by
    rw [List.map_cons, List.findIdx?_cons, eqD_nI]
    by_cases e : y = v
    · exact ⟨0, by simp [e], by simp, by simpa using e⟩
    · obtain ⟨j, h1, h2, h3⟩ := findN v l ((List.mem_cons.mp h).resolve_left (Ne.symm e))
      refine ⟨j + 1, by simp [e, h1], by simp [h2], by simpa using h3⟩
/-- from the column on to the next one of its line -/
structure Sg (n : Nat) (r x : List Nat) (S : Nat → Nat) : Prop where
  ev : ∀ y, y < n → tidxF (tupN x) (nI (r.getD y 0)) = some (nI (S y))
  lt : ∀ y, y < n → S y < n
  inj : ∀ y z, y < n → z < n → S y = S z → y = z
def itS (S : Nat → Nat) : Nat → Nat → Nat
  | 0, s => s
  | k + 1, s => S (itS S k s)
def rch (S : Nat → Nat) (s z : Nat) : Prop := ∃ k, itS S k s = z
theorem rch_refl (S : Nat → Nat) (s : Nat) : rch S s s := ⟨0, rfl⟩
theorem rch_step {S : Nat → Nat} {s z : Nat} (h : rch S s z) : rch S s (S z) := let ⟨k, e⟩ := h; ⟨k + 1, by show S (itS S k s) = _; rw [e]⟩
theorem itS_add (S : Nat → Nat) (s m : Nat) : ∀ k, itS S k (itS S m s) = itS S (k + m) s
  | 0 => by rw [Nat.zero_add]; rfl
  | k + 1 => by rw [Nat.succ_add]; show S _ = S _; rw [itS_add S s m k]
/-- a walk from s on, not yet back -/
structure Wlk (n : Nat) (S : Nat → Nat) (s : Nat) (W : List Nat) (t : Nat) : Prop where
  nd : W.Nodup
  lt : ∀ z ∈ W, z < n
  hs : s ∈ W
  ht : t ∈ W
  pre : ∀ z ∈ W, z ≠ s → ∃ y ∈ W, y ≠ t ∧ S y = z
  nxt : ∀ z ∈ W, z ≠ t → S z ∈ W
  on : ∀ z ∈ W, rch S s z
  back : ∀ z ∈ W, rch S z t
/-- a whole line -/
structure Cyc (n : Nat) (S : Nat → Nat) (s : Nat) (W : List Nat) : Prop where
  lt : ∀ z ∈ W, z < n
  mem : ∀ z, z ∈ W ↔ rch S s z
  back : ∀ z, z ∈ W → rch S z s
section
variable {n : Nat} {r x : List Nat} {S : Nat → Nat} (H : Sg n r x S)
theorem Wlk.start {s : Nat} (hs : s < n) : Wlk n S s [s] s :=
  ⟨by simp, fun z hz => by rw [List.mem_singleton] at hz; rw [hz]; exact hs, by simp, by simp, fun z hz hn => absurd (List.mem_singleton.mp hz) hn, fun z hz hn => absurd (List.mem_singleton.mp hz) hn, fun z hz => by rw [List.mem_singleton] at hz; rw [hz]; exact rch_refl S s, fun z hz => by rw [List.mem_singleton] at hz; rw [hz]; exact rch_refl S s⟩
include H
theorem Wlk.notin {s t : Nat} {W : List Nat} (w : Wlk n S s W t) (h : S t ≠ s) : S t ∉ W := fun hm => by
  obtain ⟨y, y1, y2, y3⟩ := w.pre _ hm h
  exact y2 (H.inj _ _ (w.lt _ y1) (w.lt _ w.ht) y3)
theorem Wlk.next {s t : Nat} {W : List Nat} (w : Wlk n S s W t) (h : S t ≠ s) : Wlk n S s (W ++ [S t]) (S t) := by
  have hm := w.notin H h
  have cs : ∀ {P : Nat → Prop}, (∀ z ∈ W, P z) → P (S t) → ∀ z ∈ W ++ [S t], P z := fun h1 h2 z hz => (List.mem_append.mp hz).elim (h1 z) fun q => by rw [List.mem_singleton] at q; rw [q]; exact h2
  refine ⟨List.nodup_append.mpr ⟨w.nd, by simp, fun u hu v hv => by rw [List.mem_singleton] at hv; subst hv; exact fun e => hm (e ▸ hu)⟩, cs w.lt (H.lt _ (w.lt _ w.ht)), List.mem_append_left _ w.hs, by simp, cs (fun z hz hn => ?_) (fun _ => ⟨t, List.mem_append_left _ w.ht, fun e => hm (e ▸ w.ht), rfl⟩), cs (fun z hz hn => ?_) (fun q => absurd rfl q), cs w.on (rch_step (w.on _ w.ht)), cs (fun z hz => rch_step (w.back z hz)) (rch_refl S _)⟩
  · obtain ⟨y, y1, _, y3⟩ := w.pre z hz hn
    exact ⟨y, List.mem_append_left _ y1, fun e => hm (e ▸ y1), y3⟩
  · by_cases e : z = t
    · subst e; simp
    · exact List.mem_append_left _ (w.nxt z hz e)
omit H in
theorem Wlk.done {s t : Nat} {W : List Nat} (w : Wlk n S s W t) (h : S t = s) : Cyc n S s W := by
  refine ⟨w.lt, fun z => ⟨w.on z, ?_⟩, fun z hz => h ▸ rch_step (w.back z hz)⟩
  rintro ⟨k, rfl⟩
  induction k with
  | zero => exact w.hs
  | succ k ih =>
    show S (itS S k s) ∈ W
    by_cases e : itS S k s = t
    · rw [e, h]; exact w.hs
    · exact w.nxt _ ih e
end
/-- the least of its line -/
def led (S : Nat → Nat) (s : Nat) : Prop := ∀ z, rch S s z → s ≤ z
noncomputable def ledB (S : Nat → Nat) (s : Nat) : Bool := @decide (led S s) (Classical.propDecidable _)
theorem ledB_iff {S : Nat → Nat} {s : Nat} : ledB S s = true ↔ led S s := by unfold ledB; exact @decide_eq_true_iff _ (Classical.propDecidable _)
end L2
set_option Elab.async false
set_option linter.all false
set_option maxRecDepth 100000
set_option maxHeartbeats 4000000
namespace L2
open PySem PySem.Spec PyProof.Rows
/-! rounds of an order -/
/-- a walk, and its places in order -/
structure Wl (n : Nat) (S : Nat → Nat) (s : Nat) (W : List Nat) (t : Nat) : Prop where
  w : Wlk n S s W t
  last : W.getLast? = some t
  eq : W = (List.range W.length).map fun i => itS S i s
structure Cy (n : Nat) (S : Nat → Nat) (s : Nat) (W : List Nat) : Prop where
  c : Cyc n S s W
  eq : W = (List.range W.length).map fun i => itS S i s
  per : itS S W.length s = s
  nd : W.Nodup
  pos : 0 < W.length
structure Sh (n : Nat) (S : Nat → Nat) : Prop where
  lt : ∀ y, y < n → S y < n
  inj : ∀ y z, y < n → z < n → S y = S z → y = z
theorem Sh.sg {n : Nat} {S : Nat → Nat} (H : Sh n S) : Sg n ((List.range n).map S) (List.range n) S := by
  refine ⟨fun y hy => ?_, H.lt, H.inj⟩
  have e : ((List.range n).map S).getD y 0 = S y := by simp [List.getD, hy]
  rw [e]
  obtain ⟨j, h1, h2, h3⟩ := findN (S y) (List.range n) (List.mem_range.mpr (H.lt y hy))
  have : j = S y := by
    rw [List.length_range] at h2
    simpa [List.getD, h2] using h3
  subst this
  show (if deps ((List.range n).map nI) ≤ 32 then (idxD ((List.range n).map nI) (nI (S y))).map (fun j => D.int j) else none) = _
  rw [if_pos (by rw [deps_N]; omega)]
  unfold idxD
  rw [h1]; rfl
theorem Wl.start {n : Nat} {S : Nat → Nat} {s : Nat} (hs : s < n) : Wl n S s [s] s := ⟨Wlk.start hs, rfl, rfl⟩
theorem Wl.tt {n : Nat} {S : Nat → Nat} {s t : Nat} {W : List Nat} (w : Wl n S s W t) : S t = itS S W.length s := by
  have h := w.last
  have e := w.eq
  have hp : 0 < W.length := by
    cases W with
    | nil => cases h
    | cons => simp
  rw [List.getLast?_eq_getElem?] at h
  have e2 : W[W.length - 1]? = some (itS S (W.length - 1) s) := by
    have q : ∀ k, k < W.length → ((List.range W.length).map fun i => itS S i s)[k]? = some (itS S k s) := fun k hk => by rw [List.getElem?_map, List.getElem?_range hk]; rfl
    have q2 := q (W.length - 1) (by omega)
    rw [← e] at q2; exact q2
  have e3 := h.symm.trans e2
  injection e3 with e3
  have : W.length = (W.length - 1) + 1 := by omega
  rw [this]
  show S t = S (itS S (W.length - 1) s)
  rw [← e3]
theorem Wl.next {n : Nat} {S : Nat → Nat} (H : Sh n S) {s t : Nat} {W : List Nat} (w : Wl n S s W t) (h : S t ≠ s) : Wl n S s (W ++ [S t]) (S t) := by
  refine ⟨w.w.next H.sg h, by simp, ?_⟩
  rw [List.length_append, List.length_singleton, List.range_succ, List.map_append, ← w.eq, w.tt]
  rfl
theorem Wl.done {n : Nat} {S : Nat → Nat} {s t : Nat} {W : List Nat} (w : Wl n S s W t) (h : S t = s) : Cy n S s W := by
  refine ⟨w.w.done h, w.eq, by rw [← w.tt]; exact h, w.w.nd, ?_⟩
  have := w.last
  cases W with
  | nil => cases this
  | cons => simp
section
variable {n : Nat} {S : Nat → Nat} (H : Sh n S) (hn : n ≤ 14)
include H in
include H hn in
include H hn in
end
/-! lines -/
end L2
set_option Elab.async false
set_option linter.all false
set_option maxRecDepth 100000
set_option maxHeartbeats 4000000
namespace L2
open PySem PySem.Spec PyProof.Rows
def rotL (xs : List Nat) (k : Int) : List Nat := (List.range xs.length).map fun (i : Nat) => xs.getD (((i : Int) - k) % xs.length).toNat 0
def raiL (xs : List Nat) (k : Int) : List Nat := xs.map fun (v : Nat) => (((v : Int) + k) % xs.length).toNat
theorem rotL_len (xs : List Nat) (k : Int) : (rotL xs k).length = xs.length := by simp [rotL]
theorem rotL_get (xs : List Nat) (k : Int) {i : Nat} (h : i < xs.length) : (rotL xs k).getD i 0 = xs.getD (((i : Int) - k) % xs.length).toNat 0 := by
  simp [rotL, List.getD, h]
theorem sigma_perm {n : Nat} (h : 0 < n) (a : Int) : ((List.range n).map fun (i : Nat) => (((i : Int) + a) % n).toNat).Perm (List.range n) := by
  refine (List.perm_ext_iff_of_nodup ?_ List.nodup_range).mpr fun j => ?_
  · show List.Pairwise (· ≠ ·) _
    rw [List.pairwise_map]
    refine List.Pairwise.imp_of_mem (fun {i j} hi hj hlt e => ?_) List.pairwise_lt_range
    rw [List.mem_range] at hi hj
    have m1 := ixm ((i : Int) + a) h
    have m2 := ixm ((j : Int) + a) h
    have : ((i : Int) + a) % n = ((j : Int) + a) % n := by omega
    rw [Int.emod_add_cancel_right, Int.emod_eq_of_lt (by omega) (by omega), Int.emod_eq_of_lt (by omega) (by omega)] at this
    omega
  · rw [List.mem_map, List.mem_range]
    constructor
    · rintro ⟨i, _, rfl⟩; exact (ixm _ h).1
    · intro hj
      have m := ixm ((j : Int) - a) h
      refine ⟨(((j : Int) - a) % n).toNat, by rw [List.mem_range]; exact m.1, ?_⟩
      rw [m.2, Int.emod_add_emod, show (j : Int) - a + a = j by omega, Int.emod_eq_of_lt (by omega) (by omega)]
      rfl
/-! places moved round -/
def shN (n : Nat) (k : Int) (v : Nat) : Nat := (((v : Int) + k) % n).toNat
structure Mv (n : Nat) (t : Nat → Nat) : Prop where
  lt : ∀ c, c < n → t c < n
  inj : ∀ c d, c < n → d < n → t c = t d → c = d
  sur : ∀ c, c < n → ∃ d, d < n ∧ t d = c
  inb : ∀ s e v, s < n → e < n → v < n → inB n (t s) (t e) (t v) = inB n s e v
theorem mv_id (n : Nat) : Mv n id := ⟨fun _ h => h, fun _ _ _ _ h => h, fun c h => ⟨c, h, rfl⟩, fun _ _ _ _ _ _ => rfl⟩
theorem mv_sh {n : Nat} (h : 0 < n) (k : Int) : Mv n (shN n k) := by
  have cast : ∀ v : Nat, ((shN n k v : Nat) : Int) = ((v : Int) + k) % n := fun v => (ixm _ h).2
  have df : ∀ u v : Nat, ((shN n k u : Int) - shN n k v) % n = ((u : Int) - v) % n := fun u v => by
    rw [cast, cast, ← Int.sub_emod, show (u : Int) + k - (v + k) = u - v by omega]
  refine ⟨fun c _ => (ixm _ h).1, fun c d hc hd e => ?_, fun c hc => ?_, fun s e v _ _ _ => ?_⟩
  · have := df c d
    rw [e, Int.sub_self, Int.zero_emod] at this
    obtain ⟨m, hm⟩ := Int.dvd_of_emod_eq_zero this.symm
    have : m = 0 := by
      rcases Int.lt_trichotomy m 0 with q | q | q
      · have : (n : Int) * m ≤ n * (-1) := Int.mul_le_mul_of_nonneg_left (by omega) (by omega)
        omega
      · exact q
      · have : (n : Int) * 1 ≤ n * m := Int.mul_le_mul_of_nonneg_left (by omega) (by omega)
        omega
    rw [this] at hm
    omega
  · have := (sigma_perm h k).mem_iff.mpr (List.mem_range.mpr hc)
    obtain ⟨d, hd, e⟩ := List.mem_map.mp this
    exact ⟨d, List.mem_range.mp hd, e⟩
  · unfold inB
    rw [df, df]
theorem ord_of {n : Nat} {o : List Nat} (hl : o.length = n) (lt : ∀ c, c < n → o.getD c 0 < n) (inj : ∀ c d, c < n → d < n → o.getD c 0 = o.getD d 0 → c = d) (sur : ∀ v, v < n → ∃ c, c < n ∧ o.getD c 0 = v) : Ord n o := by
  refine ⟨(List.perm_ext_iff_of_nodup ?_ List.nodup_range).mpr fun v => ?_⟩
  · rw [List.Nodup, List.pairwise_iff_getElem]
    intro i j hi hj ij e
    have := inj i j (by omega) (by omega) (by rw [List.getD_eq_getElem?_getD, List.getElem?_eq_getElem hi, List.getD_eq_getElem?_getD, List.getElem?_eq_getElem hj]; exact e)
    omega
  · rw [List.mem_range]
    constructor
    · intro h
      obtain ⟨i, hi, rfl⟩ := List.getElem_of_mem h
      have := lt i (by omega)
      rw [List.getD_eq_getElem?_getD, List.getElem?_eq_getElem hi] at this
      exact this
    · intro h
      obtain ⟨c, hc, e⟩ := sur v h
      rw [List.getD_eq_getElem?_getD, List.getElem?_eq_getElem (by omega)] at e
      have e : o[c] = v := e
      exact e ▸ List.getElem_mem _
theorem rot_sh {n : Nat} {o : List Nat} (hl : o.length = n) (h : 0 < n) (k : Int) {c : Nat} (hc : c < n) : (rotL o k).getD (shN n k c) 0 = o.getD c 0 := by
  rw [rotL_get o k (by rw [hl]; exact (ixm _ h).1), hl]
  have : (((shN n k c : Nat) : Int) - k) % n = c := by
    rw [show ((shN n k c : Nat) : Int) = ((c : Int) + k) % n from (ixm _ h).2, Int.sub_emod, Int.emod_emod, ← Int.sub_emod, show (c : Int) + k - k = c by omega]
    exact Int.emod_eq_of_lt (by omega) (by omega)
  rw [this]; rfl
theorem Ord.mv {n : Nat} {o o' : List Nat} {t u : Nat → Nat} (O : Ord n o) (T : Mv n t) (U : Mv n u) (hl : o'.length = n) (h : ∀ c, c < n → o'.getD (t c) 0 = u (o.getD c 0)) : Ord n o' := by
  refine ord_of hl (fun c hc => ?_) (fun c d hc hd e => ?_) fun v hv => ?_
  · obtain ⟨c', hc', rfl⟩ := T.sur c hc
    rw [h c' hc']; exact U.lt _ (O.get hc')
  · obtain ⟨c', hc', rfl⟩ := T.sur c hc
    obtain ⟨d', hd', rfl⟩ := T.sur d hd
    rw [h c' hc', h d' hd'] at e
    rw [O.inj hc' hd' (U.inj _ _ (O.get hc') (O.get hd') e)]
  · obtain ⟨w, hw, rfl⟩ := U.sur v hv
    obtain ⟨c, hc, e⟩ : ∃ c, c < n ∧ o.getD c 0 = w := by
      obtain ⟨i, hi, e⟩ := List.getElem_of_mem (O.has hw)
      exact ⟨i, by rw [← O.len]; exact hi, by rw [List.getD_eq_getElem?_getD, List.getElem?_eq_getElem hi]; exact e⟩
    exact ⟨t c, T.lt c hc, by rw [h c hc, e]⟩
/-! steps -/
/-! tipped -/
def tipL (o : List Nat) : List Nat := (List.range o.length).map fun v => o.idxOf v
theorem idx_get {n : Nat} {o : List Nat} (O : Ord n o) {v : Nat} (hv : v < n) : o.idxOf v < n ∧ o.getD (o.idxOf v) 0 = v := by
  have hi := List.idxOf_lt_length_of_mem (O.has hv)
  refine ⟨by rw [← O.len]; exact hi, ?_⟩
  rw [List.getD_eq_getElem?_getD, List.getElem?_eq_getElem hi, List.getElem_idxOf]; rfl
theorem idx_of {n : Nat} {o : List Nat} (O : Ord n o) {c : Nat} (hc : c < n) : o.idxOf (o.getD c 0) = c := O.inj (idx_get O (O.get hc)).1 hc (idx_get O (O.get hc)).2
theorem tip_len (o : List Nat) : (tipL o).length = o.length := by simp [tipL]
theorem tip_get {n : Nat} {o : List Nat} (O : Ord n o) {v : Nat} (hv : v < n) : (tipL o).getD v 0 = o.idxOf v := by
  unfold tipL
  rw [List.getD_eq_getElem?_getD, List.getElem?_map, List.getElem?_range (by rw [O.len]; exact hv)]; rfl
theorem tip_at {n : Nat} {o : List Nat} (O : Ord n o) {c : Nat} (hc : c < n) : (tipL o).getD (o.getD c 0) 0 = c := by rw [tip_get O (O.get hc), idx_of O hc]
theorem Ord.tip {n : Nat} {o : List Nat} (O : Ord n o) : Ord n (tipL o) := by
  refine ord_of (by rw [tip_len, O.len]) (fun v hv => ?_) (fun v w hv hw e => ?_) fun c hc => ⟨o.getD c 0, O.get hc, tip_at O hc⟩
  · rw [tip_get O hv]; exact (idx_get O hv).1
  · rw [tip_get O hv, tip_get O hw] at e
    rw [← (idx_get O hv).2, e, (idx_get O hw).2]
/-! the steps as pairs, in order -/
def sp (n : Nat) (P : Nat → Nat → Bool) : List (Nat × Nat) := (List.range n).flatMap fun a => ((List.range n).filter fun b => decide (a ≠ b) && P a b).map fun b => (a, b)
def kk (p : Nat × Nat) : List Int := [(p.1 : Int), (p.2 : Int)]
end L2
set_option Elab.async false
set_option linter.all false
set_option maxRecDepth 100000
set_option maxHeartbeats 1000000
namespace L2
open PySem PySem.Spec PyProof.Rows
/-! ### list.insert, list.pop() -/
section
variable {X : Cx}
end
/-! ### list + list -/
section
variable {X : Cx} {c : Ct} {a b e : Expr} {f g : FE} {pos p p2 p3 : Pos} {k : Kd}
/-! ### list(range(a, b)) -/
/-! ### list * int -/
end
/-! ### name += e, ints -/
section
variable {X : Cx} {c : Ct} {k : Kd} {e : Expr} {f : FE} {x : Str} {pos pos' : Pos}
end
end L2
set_option Elab.async false
set_option linter.all false
set_option maxRecDepth 100000
set_option maxHeartbeats 1000000
namespace L2
open PySem PySem.Spec PyProof.Rows
/-! ### what is asked of a class of one's own exceptions -/
abbrev bmV : List Value := [.type "ValueError", .type "Exception", .type "BaseException", .type "object"]
structure ExcC (K : PySem.W.Frag) (C : Addr) : Prop where
  ga : PySem.W.findIn K (.ref C) "__getattribute__" = some (some (.builtin "BaseException.__getattribute__"))
  gt : PySem.W.findIn K (.ref C) "__getattr__" = some none
  cl : PySem.W.findIn K (.ref C) "__class__" = some (some (.builtin "object.__class__"))
  sp : PySem.W.specialIn K (.builtin "object.__class__") "__get__" = some (some (.builtin "getset_descriptor.__get__"))
  tk : PySem.W.takesIn K (.builtin "object.__class__") = some true
  mo : PySem.W.mroIn K C (.type "object") = some true
  mb : PySem.W.mroIn K C (.type "BaseException") = some true
section
variable {K : PySem.W.Frag} {C : Addr} {prog : Program} {w : World} {A : Around} {E : Value → Shared → Prop} {s : Shared} {a : Addr} {o : Obj}
theorem ExcC.cls (X : ExcC K C) : ∃ cd, PySem.W.clsIn K C = some cd := by
  obtain ⟨cd, h, _⟩ := Option.bind_eq_some_iff.mp X.mo
  exact ⟨cd, h⟩
end
end L2
set_option Elab.async false
set_option linter.all false
set_option maxRecDepth 100000
set_option maxHeartbeats 1000000
namespace L2
open PySem PySem.Spec PyProof.Rows
/-! ### an exception in flight -/
/-- the exception at e is like o0 but for its fields, and has been noted by a frame that it left -/
def Trc (h B : Heap) (e : Addr) (o0 : Obj) : Prop :=
  ∃ vs T oT ts, h.get? e = some { o0 with data := .fields vs } ∧ vs[1]? = some (.ref T) ∧ B.get? T = none ∧ T ≠ e ∧ h.get? T = some oT ∧ oT.data = .fields ts ∧ ts[3]? = some .none
def Fsh (h : Heap) (e : Addr) (o0 : Obj) : Prop := ∃ vs, h.get? e = some { o0 with data := .fields vs } ∧ vs[1]? = some .none
structure InFl (B : Heap) (l : List Env) (e : Addr) (o0 : Obj) (h : Heap) : Prop where
  st : B.StaysIn h
  ne : B.get? e = none
  ff : h.FunFrames B l
  tr : Trc h B e o0 ∨ Fsh h e o0
section
variable {M : Model} {A : Around} {E : Value → Shared → Prop} {s : Shared} {B : Heap} {env : Env} {outer : List Env} {L e : Addr} {o0 : Obj}
end
end L2
set_option Elab.async false
set_option linter.all false
set_option maxRecDepth 100000
set_option maxHeartbeats 1000000
namespace L2
open PySem PySem.Spec PyProof.Rows
/-- what the addresses of F are to a body: frames that run, or newer things that it knows nothing of -/
def Away (X : Cx) (pins : List (Addr × Obj)) (H : Hp) (F : List Addr) : Prop := (∀ b ∈ frs X.stack, b ∈ F) ∧
  ∀ b ∈ F, b ∉ frs X.stack → X.s₀.heap.objs.size ≤ b ∧ H b = none ∧ b ≠ X.env.locals ∧ (∀ x c, X.env.cells.lookup x = some c → c ≠ b) ∧ ∀ p ∈ X.pn ++ pins, p.1 ≠ b
section
variable {X : Cx} {pins : List (Addr × Obj)} {σ : St} {H : Hp} {s : Shared} {F : List Addr} {h' : Heap}
theorem Away.free (w : Away X pins H F) (I : Inv X pins σ H s) {b : Addr} (hb : b ∈ F) : H b = none := by
  by_cases q : b ∈ frs X.stack
  · exact I.stkFree b q
  · exact (w.2 b hb q).2.1
/-- all but F is kept, of F all but the slots: the body's state is kept -/
theorem Inv.flown (I : Inv X pins σ H s) (w : Away X pins H F) (st : (PySem.W.hideAll s.heap F).StaysIn h') (up : s.heap.UpToSlots h') : Inv X pins σ H { s with heap := h' } := by
  have kp : ∀ b o, s.heap.get? b = some o → b ∉ F → h'.get? b = some o := fun b o e n => st b o (PySem.W.hideAll_get _ e n)
  have fr : ∀ b ∈ frs X.stack, ∃ o, s.heap.get? b = some o ∧ ∀ vs, o.data ≠ .fields vs := fun b hb => (I.stack.mem hb).2
  refine I.call' (s' := { s with heap := h' }) (ch := F.filter fun b => decide (b ∉ frs X.stack)) rfl ⟨?_, ?_, fun _ _ _ n _ => n, ?_, fun _ _ q => q, fun _ _ _ q => q, fun _ ps q => ⟨#[], by rw [q]; simp⟩⟩ ?_ I.bare ?_
  · intro b o e n hb hc
    refine kp b o e fun hF => hc ?_
    rw [List.mem_filter, decide_eq_true_eq]; exact ⟨hF, hb⟩
  · intro b o e n hb hc
    obtain ⟨o', e', nf⟩ := fr b hb
    rw [e] at e'; cases e'
    exact up b o e nf
  · intro b o e hc
    by_cases hF : b ∈ F
    · by_cases hs : b ∈ frs X.stack
      · obtain ⟨o', e', nf⟩ := fr b hs
        obtain ⟨sl, q⟩ := up b o' e' nf
        exact ⟨_, q⟩
      · exact absurd (by rw [List.mem_filter, decide_eq_true_eq]; exact ⟨hF, hs⟩) hc
    · exact ⟨o, kp b o e hF⟩
  · intro a o e
    refine (I.hok a o e).stay (fun b u hb q => kp b u q fun hF => ?_) (fun _ q => q) fun _ _ q => q
    have := w.free I hF
    rcases hb with rfl | hb
    · rw [e] at this; cases this
    · rw [hb] at this; cases this
  · intro b hb
    rw [List.mem_filter, decide_eq_true_eq] at hb
    obtain ⟨q1, q2, q3, q4, q5⟩ := w.2 b hb.1 hb.2
    exact ⟨.inr q1, q3, q4, q5⟩
end
/-- an exception of the class at C in a body's frame: the body's state as it was when the exception was made, and what has become of it -/
def XS (X : Cx) (pins : List (Addr × Obj)) (σ : St) (H : Hp) (o0 : Obj) (ea : Addr) (s' : Shared) : Prop :=
  ∃ (g : Heap) (F : List Addr), Inv X pins σ H { s' with heap := g } ∧ Away X pins H F ∧ InFl (PySem.W.hideAll g F) X.stack ea o0 s'.heap ∧ g.UpToSlots s'.heap ∧ g.get? ea = none
theorem XS.inv {X : Cx} {pins : List (Addr × Obj)} {σ : St} {H : Hp} {o0 : Obj} {ea : Addr} {s' : Shared} (x : XS X pins σ H o0 ea s') : Inv X pins σ H s' := by
  obtain ⟨g, F, I, w, fl, up, _⟩ := x
  exact I.flown (s := { s' with heap := g }) w fl.st up
/-- how an exception lies behind a call -/
def CXr (P : Program) (w : World) (G : Addr → Obj → Prop) : CXT := fun outer H s E e s' =>
  ∃ (ea : Addr) (o0 : Obj) (C : Addr) (g : Heap) (F : List Addr) (H' : Hp), e = .ref ea ∧ o0.cls = .ref C ∧ G C o0 ∧ s'.os = s.os ∧ AllBare s'.gens ∧ Un (frs outer) [] H H' s.heap g ∧ HOk P w H' g ∧
    InFl (PySem.W.hideAll g F) outer ea o0 s'.heap ∧ g.UpToSlots s'.heap ∧ (∀ b ∈ frs outer, b ∈ F) ∧ (∀ b ∈ F, H' b = none ∧ (b ∉ frs outer → s.heap.objs.size ≤ b)) ∧ g.get? ea = none ∧ E (.ref C) none H'
end L2
set_option Elab.async false
set_option linter.all false
set_option maxRecDepth 100000
set_option maxHeartbeats 1000000
namespace L2
open PySem PySem.Spec PyProof.Rows
/-- an exception by data: the name of its class, and a number -/
structure Ex where
  x : Str
  n : Int
abbrev Named (K : PySem.W.Frag) (z : Ex) (C : Addr) : Prop := PySem.W.nsIn K mainGlobals z.x = some (some (.ref C))
/-- what is known of an exception's object -/
def G0 : Addr → Obj → Prop := fun _ o0 => o0.dict = none
abbrev CXe (P : Program) (w : World) : CXT := CXr P w G0
/-- an exception of this class may leave this body -/
def EX (X : Cx) (σ : St) : XK := fun v _ H' => ∀ pins ea o0 s', o0.cls = v → o0.dict = none → XS X pins σ H' o0 ea s' → X.xe (.ref ea) s'
abbrev RE := Rho → Option (Except Ex D)
abbrev RA := Rho → Option (Except Ex (List D))
def rdX (X : Cx) (c : Ct) (hid : Hid) (k : Kd) (f : RE) (ρ : Rho) : TE := fun σ H Q => SR X.K c hid ρ σ H ∧ ∃ r, f ρ = some r ∧ match r with
  | .ok d => ∀ v H', Same H H' → RK X.K k H H' hid v d → Q v H'
  | .error z => ∀ C H', Same H H' → Named X.K z C → EX X σ (.ref C) none H'
def DR (X : Cx) (c : Ct) (k : Kd) (e : Expr) (f : RE) : Prop := ∀ hid ρ, PE X e (rdX X c hid k f ρ)
def rdXA (X : Cx) (c : Ct) (hid : Hid) (f : RA) (ρ : Rho) : TA := fun σ H Q => SR X.K c hid ρ σ H ∧ ∃ r, f ρ = some r ∧ match r with
  | .ok ds => ∀ vs H', Same H H' → Reps X.K (vw H' hid) vs ds → Q vs H'
  | .error z => ∀ C H', Same H H' → Named X.K z C → EX X σ (.ref C) none H'
def DRA (X : Cx) (c : Ct) (es : List Expr) (f : RA) : Prop := ∀ hid ρ, PA X es (rdXA X c hid f ρ)
section
variable {X : Cx} {c : Ct} {e a b : Expr} {es rest : List Expr} {k : Kd} {pos p : Pos} {x : Str} {f : Addr} {fd : FuncData} {ps : List Str} {j n : Nat}
def puR (f : FE) : RE := fun ρ => (f ρ).map .ok
def puRA (f : FA) : RA := fun ρ => (f ρ).map .ok
theorem DP.rr {f : FE} (h : DP X c k e f) : DR X c k e (puR f) := fun hid ρ => PE.imp (h hid ρ) fun σ H Q ⟨sr, r, hr, q⟩ => by
  unfold puR at hr
  cases e1 : f ρ with
  | none => rw [e1] at hr; cases hr
  | some d => rw [e1] at hr; cases hr; exact ⟨sr, d, e1, q⟩
theorem DA.rr {f : FA} (h : DA X c es f) : DRA X c es (puRA f) := fun hid ρ => PA.imp (h hid ρ) fun σ H Q ⟨sr, r, hr, q⟩ => by
  unfold puRA at hr
  cases e1 : f ρ with
  | none => rw [e1] at hr; cases hr
  | some d => rw [e1] at hr; cases hr; exact ⟨sr, d, e1, q⟩
theorem DR.toS {f : RE} (h : DR X c .n e f) : DR X c .s e f := fun hid ρ => PE.imp (h hid ρ) fun σ H Q ⟨sr, r, hr, q⟩ => by
  refine ⟨sr, r, hr, ?_⟩
  cases r with
  | ok d => exact fun v H' s r => q v H' s (RN.rep r fun a n => sr.fresh n)
  | error z => exact q
theorem DP.nox {f : FE} (h : DP X.nox c k e f) : DP X c k e f := fun hid ρ => PE.nox (h hid ρ)
/-! what a def that may raise promises -/
structure ClX (P : Program) (w : World) (K : PySem.W.Frag) (mg : Str → Option Value) (base : Heap) (k : Nat) (x : Str) (ps : List Str) (sp : Sp) : Prop where
  ex : ∃ f fd, FnOk P w K mg base (CXe P w) k f fd ps sp ∧ mg x = some (.ref f) ∧ PySem.W.keepIn K (.ref f) = true ∧ Binds K fd ps []
/-! two operands, the left one may raise -/
end
end L2
set_option Elab.async false
set_option linter.all false
set_option maxRecDepth 100000
set_option maxHeartbeats 1000000
namespace L2
open PySem PySem.Spec PyProof.Rows
section
variable {X : Cx} {c : Ct} {e : Expr} {k : Kd} {pos p : Pos} {x : Str}
end
/-! ### statements -/
abbrev OX := Except (Ex × Rho) Out
abbrev FX := Rho → OX
def EndX (X : Cx) (c : Ct) (k : Kd) (D : Ends) (W : Hp) : OX → Prop
  | .ok o => EndOk X.K c k D W o
  | .error z => ∀ σ' H' hid' C, SR X.K c hid' z.2 σ' H' → Same W (vw H' hid') → Named X.K z.1 C → EX X σ' (.ref C) none H'
theorem EndX.mono {X : Cx} {c : Ct} {k : Kd} {D : Ends} {W W' : Hp} {o : OX} (h : EndX X c k D W o) (s : Same W W') : EndX X c k D W' o := by
  cases o with
  | ok o => exact EndOk.mono h s
  | error z => exact fun σ' H' hid' C a b => h σ' H' hid' C a (s.trans b)
section
variable {X : Cx} {c : Ct} {k : Kd} {st : Stmt} {sts rest : List Stmt} {t u : FX} {e : Expr} {pos pos' p : Pos} {x : Str} {i : Nat}
theorem PS.nox {t : TS} (h : PS X.nox st t) : PS X st t := fun pins s σ H D I hw =>
  wpAny_mono (h pins s σ H D (I.wish _) hw) (fun _ _ q => q.unwish) fun _ _ z => False.elim z
theorem DT.nox {p : FT} (h : DT X.nox c e p) : DT X c e p := fun hid ρ => PT.nox (h hid ρ)
end
/-! ### raise C(..) -/
section
variable {X : Cx} {c : Ct} {k : Kd} {e : Expr} {es : List Expr} {pos np cpos : Pos} {x : Str} {C : Addr}
end
end L2
set_option Elab.async false
set_option linter.all false
set_option maxRecDepth 100000
set_option maxHeartbeats 1000000
namespace L2
open PySem PySem.Spec PyProof.Rows
/-! ### defs that are called within an except suite -/
structure RoomU (k : Nat) (A : Around) : Prop where
  dp : A.depth + 3 * k + 5 < recursionLimit
  un : A.units + 16 * k + 200 < cLine
theorem Room.u {k : Nat} {A : Around} (r : Room k A) : RoomU k A := ⟨r.dp, r.un⟩
theorem RoomU.mono {j k : Nat} {A : Around} (r : RoomU k A) (h : j ≤ k) : RoomU j A := ⟨by have := r.dp; omega, by have := r.un; omega⟩
theorem RoomU.mark {k : Nat} {A : Around} (r : RoomU k A) (v : Option Value) : RoomU k (A.mark v) := ⟨r.dp, r.un⟩
theorem RoomU.deeper {k : Nat} {A : Around} (r : RoomU (k + 1) A) (env : Env) : RoomU k (A.deeper env) :=
  ⟨by have := r.dp; show A.depth + 1 + 3 * k + 5 < _; omega, by have := r.un; show A.units + 3 + 16 * k + 200 < _; omega⟩
theorem RoomU.depth {k : Nat} {A : Around} (r : RoomU k A) : A.depth < recursionLimit := by have := r.dp; omega
theorem RoomU.units {k : Nat} {A : Around} (r : RoomU k A) : A.units + 64 < cLine := by have := r.un; omega
structure FnOkU (P : Program) (w : World) (K : PySem.W.Frag) (mg : Str → Option Value) (base : Heap) (CX : CXT) (k : Nat) (f : Addr) (fd : FuncData) (ps : List Str) (sp : Sp) : Prop where
  len : ∀ vs H Q E, sp vs H Q E → vs.length = ps.length
  run : ∀ (A : Around) (outer : List Env) (s : Shared) (H : Hp) (args : Args) (us : List Value) (vs : List V) (Q : VK) (E : XK), RoomU k A → Env0 P w K mg base A outer s H → BindsTo s fd args (ps.zip us) → Vals vs us → sp vs H Q E →
    codeAny (model P w) A (.call (.ref f) args) (CR CX outer P w H s Q E) s
end L2
set_option Elab.async false
set_option linter.all false
set_option maxRecDepth 100000
set_option maxHeartbeats 1000000
namespace L2
open PySem PySem.Spec PyProof.Rows
/-! ### is None, is True -/
section
variable {X : Cx}
end
/-! ### defs that may raise -/
section
variable {P : Program} {w : World} {K : PySem.W.Frag} {mg : Str → Option Value} {base : Heap} {x : Str} {st : Stmt} {N ps : List Str} {k n : Nat} {kd : Kd}
/-! ### defs of a caught exception -/
structure ClU (P : Program) (w : World) (K : PySem.W.Frag) (mg : Str → Option Value) (base : Heap) (k : Nat) (x : Str) (ps : List Str) (sp : Sp) : Prop where
  ex : ∃ f fd, FnOkU P w K mg base CX0 k f fd ps sp ∧ mg x = some (.ref f) ∧ PySem.W.keepIn K (.ref f) = true ∧ Binds K fd ps []
end
section
variable {X : Cx} {c : Ct} {k : Kd} {e : Expr} {pos p py : Pos} {x y : Str} {ps : List Str} {j i : Nat}
end
end L2
set_option Elab.async false
set_option linter.all false
set_option maxRecDepth 100000
set_option maxHeartbeats 1000000
namespace L2
open PySem PySem.Spec PyProof.Rows
/-! ### the classes of the exceptions -/
def subE (x y : Str) : Bool := x == y || y == ("RookError" : Str)
structure ExRow (K : PySem.W.Frag) (mg : Str → Option Value) (CR : Addr) (x : Str) (C : Addr) : Prop where
  mg : mg x = some (.ref C)
  ns : PySem.W.nsIn K mainGlobals x = some (some (.ref C))
  cc : ExcC K C
  ty : PySem.W.typeIn K (.ref C) = some (.type "type")
  mr : ∃ cd, PySem.W.clsIn K C = some cd ∧ cd.mro = (if C = CR then .ref CR :: bmV else .ref C :: .ref CR :: bmV)
structure ExTab (K : PySem.W.Frag) (mg : Str → Option Value) (CR : Addr) (tbl : List (Str × Addr)) : Prop where
  row : ∀ p ∈ tbl, ExRow K mg CR p.1 p.2
  root : (("RookError" : Str), CR) ∈ tbl
  nd : (tbl.map (·.2)).Nodup
section
variable {K : PySem.W.Frag} {mg : Str → Option Value} {CR : Addr} {tbl : List (Str × Addr)}
theorem nodup_snd : ∀ {l : List (Str × Addr)}, (l.map (·.2)).Nodup → ∀ {p q : Str × Addr}, p ∈ l → q ∈ l → p.2 = q.2 → p = q
  | [], _, _, _, h, _, _ => nomatch h
  | a :: l, nd, p, q, hp, hq, e => by
    rw [List.map_cons, List.nodup_cons] at nd
    rcases List.mem_cons.mp hp with ep | ep
    · rcases List.mem_cons.mp hq with eq | eq
      · rw [ep, eq]
      · exact absurd (List.mem_map.mpr ⟨q, eq, by rw [← e, ep]⟩) nd.1
    · rcases List.mem_cons.mp hq with eq | eq
      · exact absurd (List.mem_map.mpr ⟨p, ep, by rw [e, eq]⟩) nd.1
      · exact nodup_snd nd.2 ep eq e
theorem ExTab.addr (T : ExTab K mg CR tbl) {p q : Str × Addr} (hp : p ∈ tbl) (hq : q ∈ tbl) (e : p.1 = q.1) : p.2 = q.2 := by
  have h1 := (T.row p hp).ns
  have h2 := (T.row q hq).ns
  rw [e, h2] at h1
  injection h1 with h1
  injection h1 with h1
  exact (Value.ref.inj h1).symm
theorem ExTab.mro (T : ExTab K mg CR tbl) {p q : Str × Addr} (hp : p ∈ tbl) (hq : q ∈ tbl) : PySem.W.mroIn K p.2 (.ref q.2) = some (subE p.1 q.1) := by
  obtain ⟨cd, h1, h2⟩ := (T.row p hp).mr
  unfold PySem.W.mroIn
  rw [h1, Option.bind_some, h2]
  have hr : q.2 = CR ↔ q.1 = ("RookError" : Str) := ⟨fun e => by rw [nodup_snd T.nd hq T.root e], fun e => T.addr hq T.root e⟩
  have hs : p.2 = q.2 ↔ p.1 = q.1 := ⟨fun e => by rw [nodup_snd T.nd hp hq e], T.addr hp hq⟩
  have ev : subE p.1 q.1 = (decide (p.2 = q.2) || decide (q.2 = CR)) := by
    unfold subE
    congr 1
    · rw [Bool.eq_iff_iff, beq_iff_eq, decide_eq_true_eq]; exact hs.symm
    · rw [Bool.eq_iff_iff, beq_iff_eq, decide_eq_true_eq]; exact hr.symm
  rw [ev]
  by_cases e : p.2 = CR
  · rw [if_pos e, if_neg (by simp)]
    congr 1
    rw [e, Bool.eq_iff_iff, List.contains_iff_mem, Bool.or_eq_true, decide_eq_true_eq, decide_eq_true_eq, List.mem_cons]
    exact ⟨fun h => h.elim (fun h => .inl (Value.ref.inj h).symm) fun h => by simp [bmV] at h, fun h => .inl (h.elim (fun h => by rw [h]) fun h => by rw [h])⟩
  · rw [if_neg e, if_neg (by simp)]
    congr 1
    rw [Bool.eq_iff_iff, List.contains_iff_mem, Bool.or_eq_true, decide_eq_true_eq, decide_eq_true_eq, List.mem_cons, List.mem_cons]
    exact ⟨fun h => h.elim (fun h => .inl (Value.ref.inj h).symm) fun h => h.elim (fun h => .inr (Value.ref.inj h)) fun h => by simp [bmV] at h, fun h => h.elim (fun h => .inl (by rw [h])) fun h => .inr (.inl (by rw [h]))⟩
theorem ExTab.one (T : ExTab K mg CR tbl) {p q : Str × Addr} (hp : p ∈ tbl) (hq : q ∈ tbl) : PySem.W.kitOne K (.ref p.2) (.ref q.2) = some (subE p.1 q.1) := by
  unfold PySem.W.kitOne
  by_cases e : (Value.ref p.2 == Value.ref q.2) = true
  · rw [if_pos e]
    have e' : p.2 = q.2 := Value.ref.inj (beq_iff_eq.mp e)
    rw [nodup_snd T.nd hp hq e']
    unfold subE; simp
  · rw [if_neg e]
    unfold PySem.W.kitCls
    obtain ⟨cd, h1, _⟩ := (T.row q hq).mr
    dsimp only
    rw [h1, (T.row q hq).ty, if_pos (by simp)]
    exact T.mro hp hq
theorem ExTab.any (T : ExTab K mg CR tbl) {p : Str × Addr} (hp : p ∈ tbl) : ∀ (qs : List (Str × Addr)), (∀ q ∈ qs, q ∈ tbl) → PySem.W.kitAny K (.ref p.2) (qs.map fun q => Value.ref q.2) = some (qs.any fun q => subE p.1 q.1)
  | [], _ => rfl
  | q :: qs, h => by
    rw [List.map_cons, List.any_cons]
    unfold PySem.W.kitAny
    rw [T.one hp (h q List.mem_cons_self)]
    cases e : subE p.1 q.1 with
    | true => rfl
    | false => exact (T.any hp qs fun q hq => h q (List.mem_cons_of_mem _ hq)).trans (by simp)
theorem kit_ValueError : PySem.W.kitMeta "ValueError" = true := by kernel_rfl
theorem ExTab.val (T : ExTab K mg CR tbl) {p : Str × Addr} (hp : p ∈ tbl) : PySem.W.kitOne K (.ref p.2) (.type "ValueError") = some true := by
  obtain ⟨cd, h1, h2⟩ := (T.row p hp).mr
  unfold PySem.W.kitOne
  rw [if_neg (by simp)]
  unfold PySem.W.kitCls
  dsimp only
  rw [if_pos kit_ValueError]
  show PySem.W.mroIn K p.2 (.type "ValueError") = _
  unfold PySem.W.mroIn
  rw [h1, Option.bind_some, h2]
  by_cases e : p.2 = CR
  · rw [if_pos e, if_neg (by simp)]; rfl
  · rw [if_neg e, if_neg (by simp)]; rfl
end
/-! ### isinstance(e, ..) of a caught exception -/
section
variable {X : Cx} {c : Ct} {k : Kd} {e : Expr} {pos p p1 p2 p3 py : Pos} {x y z : Str} {i : Nat} {CR C : Addr} {tbl : List (Str × Addr)}
variable (T : ExTab X.K X.mg CR tbl)
include T
end
end L2
set_option Elab.async false
set_option linter.all false
set_option maxRecDepth 100000
set_option maxHeartbeats 1000000
namespace L2
open PySem PySem.Spec PyProof.Rows
/-! ### try: .. except .. -/
abbrev Cx.caught (X : Cx) (v : Option Value) : Cx := { X with A := X.A.mark v, calm := false, xe := fun _ _ => False }
section
variable {X : Cx} {pins pins' : List (Addr × Obj)} {σ : St} {H : Hp} {s : Shared} {E : Value → Shared → Prop} {v : Option Value} {a : Addr}
theorem Inv.caught (I : Inv X pins σ H s) : Inv (X.caught v) pins σ H s :=
  ⟨⟨I.ok.mod, I.ok.kind, I.ok.glob, I.ok.blt, I.ok.above, I.ok.inj, I.ok.has, I.ok.cab, (fun q => nomatch q), I.ok.frames, I.ok.stk, I.ok.exf, I.ok.bs, I.ok.bsz, I.ok.noex, I.ok.exfs, I.ok.funs, I.ok.frf⟩, I.os, I.bare, I.base, I.loc, I.cell, I.free, I.freeC, I.pin, I.hok, I.len⟩
theorem ObjOk.there {P : Program} {w : World} {h : Heap} {o : HO} (x : ObjOk P w H h a o) : ∃ u, h.get? a = some u := by
  cases o with
  | lst xs => obtain ⟨_, _, _, _, e⟩ := x; exact ⟨_, e⟩
  | tup xs => obtain ⟨_, _, _, ⟨_, e, _⟩, _⟩ := x; exact ⟨_, e⟩
  | dK kvs => obtain ⟨_, _, _, _, o, _, _, e, _⟩ := x; exact ⟨_, e⟩
  | dT kvs => obtain ⟨_, _, _, _, o, _, _, e, _⟩ := x; exact ⟨_, e⟩
  | set S n => obtain ⟨o, _, _, _, e, _⟩ := x; exact ⟨_, e⟩
  | ins C dx fs => obtain ⟨_, _, _, e, _⟩ := x; exact ⟨_, e⟩
  | own y => obtain ⟨_, e⟩ := x; exact ⟨_, e⟩
  | xd fs => obtain ⟨_, ⟨_, _, _, e, _⟩, _⟩ := x; exact ⟨_, e⟩
  | rng lo hi => obtain ⟨_, _, _, e⟩ := x; exact ⟨_, e⟩
  | frz ob u => obtain ⟨e, _⟩ := x; exact ⟨_, e⟩
  | tbl ps => exact ⟨_, show h.get? a = some _ from x⟩
  | met f y => exact ⟨_, show h.get? a = some _ from x⟩
  | ext φ => obtain ⟨_, ⟨_, e⟩, _⟩ := x; exact ⟨_, e⟩
theorem Inv.newer {g : Heap} (Ig : Inv X pins σ H { s with heap := g }) (gn : g.get? a = none) : H a = none := by
  cases q : H a with
  | none => rfl
  | some u =>
    obtain ⟨o, e⟩ := (Ig.hok a u q).there
    rw [show g.get? a = some o from e] at gn; cases gn
end
section
variable {K : PySem.W.Frag} {c : Ct} {hid : Hid} {ρ : Rho} {σ : St} {H : Hp} {a : Addr} {x : Str} {n : Int}
end
theorem InFl.keeps {B : Heap} {l : List Env} {e : Addr} {o0 : Obj} {h h' : Heap} (x : InFl B l e o0 h) (k : ∀ b o, h.get? b = some o → h'.get? b = some o) : InFl B l e o0 h' := by
  refine ⟨fun b o q => k b o (x.st b o q), x.ne, x.ff.of_keeps fun b o q _ => ⟨o, k b o q, rfl⟩, ?_⟩
  rcases x.tr with ⟨vs, T, oT, ts, h1, h2, h3, h4, h5, h6⟩ | ⟨vs, h1, h2⟩
  · exact .inl ⟨vs, T, oT, ts, k _ _ h1, h2, h3, h4, k _ _ h5, h6⟩
  · exact .inr ⟨vs, k _ _ h1, h2⟩
theorem Trc.keeps {B : Heap} {e : Addr} {o0 : Obj} {h h' : Heap} (x : Trc h B e o0) (k : ∀ b o, h.get? b = some o → h'.get? b = some o) : Trc h' B e o0 := by
  obtain ⟨vs, T, oT, ts, h1, h2, h3, h4, h5, h6⟩ := x
  exact ⟨vs, T, oT, ts, k _ _ h1, h2, h3, h4, k _ _ h5, h6⟩
/-! ### does the clause match -/
section
variable {K : PySem.W.Frag} {M : Model} {A : Around} {E : Value → Shared → Prop} {s : Shared} {ea C D : Addr} {o : Obj} {b : Bool}
end
end L2
set_option Elab.async false
set_option linter.all false
set_option maxRecDepth 100000
set_option maxHeartbeats 1000000
namespace L2
open PySem PySem.Spec PyProof.Rows
section
variable {K : PySem.W.Frag} {M : Model} {A : Around} {E : Value → Shared → Prop} {s : Shared} {ea C : Addr} {o : Obj}
end
end L2
set_option Elab.async false
set_option linter.all false
set_option maxRecDepth 100000
set_option maxHeartbeats 1000000
namespace L2
open PySem PySem.Spec PyProof.Rows
section
variable {X : Cx} {y : Str} {p2 : Pos} {CR D : Addr} {tbl : List (Str × Addr)} {ns : List Str} (T : ExTab X.K X.mg CR tbl)
include T
end
theorem DA.nox {X : Cx} {c : Ct} {es : List Expr} {f : FA} (h : DA X.nox c es f) : DA X c es f := fun hid ρ p pins s σ H Q I hw =>
  wpAny_mono (h hid ρ p pins s σ H Q (I.wish _) hw) (fun _ _ ⟨v, H', I', r, q⟩ => ⟨v, H', I'.unwish, r, q⟩) fun _ _ z => False.elim z
theorem mem_cons {α : Type} {l r : List α} {a : α} (h : a ∈ l) (hr : ∀ q ∈ r, q ∈ l) : ∀ q ∈ a :: r, q ∈ l := fun q hq => (List.mem_cons.mp hq).elim (fun e => by rw [e]; exact h) (hr q)
section
variable {X : Cx} {c : Ct} {k : Kd} {body suite : List Stmt} {b0 : Stmt} {te : Expr} {n : Str} {hpos pos : Pos} {t : FX} {u : FS} {ns ys : List Str} {i : Nat}
end
section
variable {X : Cx} {y1 y2 : Str} {x1 : Nat} {p1 p2 p3 : Pos} {CR D1 D2 : Addr} {tbl : List (Str × Addr)} {ns : List Str} (T : ExTab X.K X.mg CR tbl)
include T
end
end L2
set_option Elab.async false
set_option linter.all false
set_option maxRecDepth 100000
set_option maxHeartbeats 1000000
namespace L2
open PySem PySem.Spec PyProof.Rows
section
variable {X : Cx} {c : Ct} {e : Expr} {es : List Expr} {k : Kd} {pos p : Pos} {x : Str} {ps : List Str} {j n : Nat}
def seqA (f : FE) : FA := fun ρ => (f ρ).bind fun d => match d with
  | .lst ds => some ds
  | .tup ds => some ds
  | _ => none
/-- a list or a tuple that is walked -/
theorem dip_seq {tg iter : Expr} {f : FE} (h : DP X c .s iter f) : DIp X c tg iter (seqA f) := fun hid ρ pins s σ H R I ⟨sr, ds, e1, q⟩ => by
  unfold seqA at e1
  cases e2 : f ρ with
  | none => rw [e2] at e1; cases e1
  | some d =>
    rw [e2, Option.bind_some] at e1
    cases d with
    | lst xs => cases e1; exact dip_list h hid ρ pins s σ H R I ⟨sr, ds, by unfold lstA; rw [e2]; rfl, q⟩
    | tup xs => cases e1; exact dip_tup h hid ρ pins s σ H R I ⟨sr, ds, by unfold tupA; rw [e2]; rfl, q⟩
    | _ => cases e1
end
end L2
set_option Elab.async false
set_option linter.all false
namespace L2
open PySem PySem.Spec PyProof.Rows
theorem se_tup {es rest : List Expr} {x1} {pos : Pos} {env : Env} : starEach (.Tuple es x1 pos :: rest) env = (false, eval (.Tuple es x1 pos) env) :: starEach rest env := by rfl
@[elab_as_elim] theorem ar0 {motive : List Value → Prop} (us : List Value) (hl : us.length = 0) (h : motive []) : motive us := match us, hl with | [], _ => h
@[elab_as_elim] theorem ar1 {motive : List Value → Prop} (us : List Value) (hl : us.length = 1) (h : ∀ a0, motive [a0]) : motive us := match us, hl with | [a0], _ => h a0
@[elab_as_elim] theorem ar2 {motive : List Value → Prop} (us : List Value) (hl : us.length = 2) (h : ∀ a0 a1, motive [a0, a1]) : motive us := match us, hl with | [a0, a1], _ => h a0 a1
@[elab_as_elim] theorem ar3 {motive : List Value → Prop} (us : List Value) (hl : us.length = 3) (h : ∀ a0 a1 a2, motive [a0, a1, a2]) : motive us := match us, hl with | [a0, a1, a2], _ => h a0 a1 a2
@[elab_as_elim] theorem ar4 {motive : List Value → Prop} (us : List Value) (hl : us.length = 4) (h : ∀ a0 a1 a2 a3, motive [a0, a1, a2, a3]) : motive us := match us, hl with | [a0, a1, a2, a3], _ => h a0 a1 a2 a3
@[elab_as_elim] theorem ar5 {motive : List Value → Prop} (us : List Value) (hl : us.length = 5) (h : ∀ a0 a1 a2 a3 a4, motive [a0, a1, a2, a3, a4]) : motive us := match us, hl with | [a0, a1, a2, a3, a4], _ => h a0 a1 a2 a3 a4
@[elab_as_elim] theorem ar6 {motive : List Value → Prop} (us : List Value) (hl : us.length = 6) (h : ∀ a0 a1 a2 a3 a4 a5, motive [a0, a1, a2, a3, a4, a5]) : motive us := match us, hl with | [a0, a1, a2, a3, a4, a5], _ => h a0 a1 a2 a3 a4 a5
@[elab_as_elim] theorem ar7 {motive : List Value → Prop} (us : List Value) (hl : us.length = 7) (h : ∀ a0 a1 a2 a3 a4 a5 a6, motive [a0, a1, a2, a3, a4, a5, a6]) : motive us := match us, hl with | [a0, a1, a2, a3, a4, a5, a6], _ => h a0 a1 a2 a3 a4 a5 a6
end L2
set_option Elab.async false
set_option linter.all false
set_option maxRecDepth 100000
namespace L2
open PySem PySem.Spec PyProof.Rows
section
variable {X : Cx} {c : Ct} {e o : Expr} {k k2 : Kd} {f g : FE} {pos p p2 apos : Pos}
end
end L2
set_option Elab.async false
set_option linter.all false
set_option maxRecDepth 100000
namespace L2
open PySem PySem.Spec PyProof.Rows
/-! the same judgements, closed: for displays within displays -/
@[irreducible] def QP (X : Cx) (c : Ct) (e : Expr) (f : FE) : Prop := DP X c .s e f
@[irreducible] def QA (X : Cx) (c : Ct) (es : List Expr) (f : FA) : Prop := DA X c es f
@[irreducible] def QS (X : Cx) (c : Ct) (k : Kd) (st : Stmt) (t : FS) : Prop := DS X c k st t
@[irreducible] def QSs (X : Cx) (c : Ct) (k : Kd) (st : List Stmt) (t : FS) : Prop := DSs X c k st t
section
variable {X : Cx} {c : Ct} {k : Kd} {e a b : Expr} {es : List Expr} {f g : FE} {fs : FA} {pos pos' : Pos} {st : Stmt} {rest : List Stmt} {t u : FS} {x : Str}
theorem QP.of (h : DP X c .s e f) : QP X c e f := by unfold QP; exact h
theorem QP.dp (h : QP X c e f) : DP X c .s e f := by unfold QP at h; exact h
theorem QA.da (h : QA X c es fs) : DA X c es fs := by unfold QA at h; exact h
theorem QS.of (h : DS X c k st t) : QS X c k st t := by unfold QS; exact h
theorem QS.ds (h : QS X c k st t) : DS X c k st t := by unfold QS at h; exact h
theorem QSs.to (h : QSs X c k rest t) : DSs X c k rest t := by unfold QSs at h; exact h
theorem qa_nil : QA X c [] nilA := by unfold QA; exact da_nil
theorem qa_cons (h : QP X c e f) (hr : QA X c es fs) (hs : starEach (e :: es) X.env = (false, eval e X.env) :: starEach es X.env := by rfl) : QA X c (e :: es) (consA f fs) := by unfold QA; exact da_cons h.dp hr.da hs
theorem qp_tup {x1} (h : QA X c es fs) : QP X c (.Tuple es x1 pos) (tupF fs) := .of (dp_tup h.da)
theorem qp_lst (h : QA X c es fs) : QP X c (.List es pos) (lstF fs) := .of (DP.toS (dp_lst h.da))
theorem qs_setF (i : Nat) (hn : X.N.Nodup) (he : QP X c e f) (hi : X.N[i]? = some x := by rfl) (hx : Loc X.env.scope x := by first | exact Or.inl rfl | exact Or.inr rfl) (hs : swapsWith e (some (.Name x pos')) pos.line X.env = pure false := by rfl)
    (hf : X.fn x = true ∨ X.env.scope.names.lookup x = some .local := by first | exact .inl rfl | exact .inr rfl | assumption) : QS X c k (.Assign [.Name x pos'] e pos) (setF i f) := .of (ds_setF i hn he.dp hi hx hs hf)
theorem qss_cons (h1 : QS X c k st t) (h2 : QSs X c k rest u) : QSs X c k (st :: rest) (seqS t u) := by unfold QSs; exact dss_cons h1.ds h2.to
theorem qss_one (h : QS X c k st t) : QSs X c k [st] t := by unfold QSs; exact dss_one h.ds
end
end L2
set_option Elab.async false
set_option linter.all false
set_option maxRecDepth 100000
namespace L2
open PySem PySem.Spec PyProof.Rows
section
variable {X : Cx} {c : Ct} {e a : Expr} {k k2 : Kd} {f g : FE} {pos p p2 : Pos} {op : CmpOp} {neg : Bool}
end
end L2
set_option Elab.async false
set_option linter.all false
set_option maxRecDepth 100000
namespace L2
open PySem PySem.Spec PyProof.Rows

/-! ### lists of pairs as tables -/
section
variable {κ : Type} [DecidableEq κ]
def valV (kvs : List (κ × V)) (k : κ) : Option V := (kvs.find? fun kv => decide (kv.1 = k)).map (·.2)
/-- in its place, or at the end -/
def putK (kvs : List (κ × V)) (k : κ) (v : V) : List (κ × V) :=
  if (kvs.any fun kv => decide (kv.1 = k)) = true then kvs.map (fun kv => if kv.1 = k then (kv.1, v) else kv) else kvs ++ [(k, v)]
def dropK (kvs : List (κ × V)) (k : κ) : List (κ × V) := kvs.filter fun kv => decide (kv.1 ≠ k)

theorem valV_pos {p : κ × V} {r : List (κ × V)} {k : κ} (e : p.1 = k) : valV (p :: r) k = some p.2 := by simp [valV, List.find?_cons, e]
theorem valV_neg {p : κ × V} {r : List (κ × V)} {k : κ} (e : ¬ p.1 = k) : valV (p :: r) k = valV r k := by simp [valV, List.find?_cons, e]
theorem valV_any (k : κ) : ∀ kvs : List (κ × V), (kvs.any fun kv => decide (kv.1 = k)) = (valV kvs k).isSome
  | [] => rfl
  | p :: r => by
    rw [List.any_cons]
    by_cases e : p.1 = k
    · simp only [valV_pos e, decide_eq_true e, Bool.true_or, Option.isSome_some]
    · rw [valV_neg e, decide_eq_false e, Bool.false_or]; exact valV_any k r
theorem length_putK (kvs : List (κ × V)) (k : κ) (v : V) : (putK kvs k v).length ≤ kvs.length + 1 := by
  unfold putK
  split
  · rw [List.length_map]; omega
  · rw [List.length_append, List.length_cons, List.length_nil]; omega
theorem RelO.isSome_eq {o : Option V} {u : Option Value} (r : RelO o u) : o.isSome = u.isSome := by
  cases o with
  | none => cases u with
    | none => rfl
    | some _ => exact (show False from r).elim
  | some _ => cases u with
    | none => exact (show False from r).elim
    | some _ => rfl
theorem RelO.getD {o : Option V} {u : Option Value} {d : V} {d' : Value} (r : RelO o u) (rd : RelV d d') : RelV (o.getD d) (u.getD d') := by
  cases o with
  | none => cases u with
    | none => exact rd
    | some _ => exact (show False from r).elim
  | some _ => cases u with
    | none => exact (show False from r).elim
    | some _ => exact r

/-- raw tables of the same keys -/
theorem KV.val {kvs : List (κ × V)} {vs : List (κ × Value)} (r : KV kvs vs) (k : κ) : RelO (valV kvs k) (valueAt vs k) := by
  unfold KV at r
  induction r with
  | nil => exact True.intro
  | @cons p q ps qs h t ih =>
    obtain ⟨h1, h2⟩ := h
    by_cases e : p.1 = k
    · have e' : q.1 = k := h1.symm.trans e
      have b : valueAt (q :: qs) k = some q.2 := by simp [valueAt, List.find?_cons, e']
      rw [valV_pos e, b]; exact h2
    · have e' : ¬ q.1 = k := fun z => e (h1.trans z)
      have b : valueAt (q :: qs) k = valueAt qs k := by simp [valueAt, List.find?_cons, e']
      rw [valV_neg e, b]; exact ih
theorem KV.any {kvs : List (κ × V)} {vs : List (κ × Value)} (r : KV kvs vs) (k : κ) : (kvs.any fun kv => decide (kv.1 = k)) = vs.any fun kv => decide (kv.1 = k) := by
  unfold KV at r
  induction r with
  | nil => rfl
  | cons h t ih => rw [List.any_cons, List.any_cons, ih, h.1]
theorem KV.repl {kvs : List (κ × V)} {vs : List (κ × Value)} (r : KV kvs vs) (k : κ) {y : V} {u : Value} (ry : RelV y u) :
    KV (kvs.map fun kv => if kv.1 = k then (kv.1, y) else kv) (vs.map fun kv => if kv.1 = k then (kv.1, u) else kv) := by
  unfold KV at r ⊢
  induction r with
  | nil => exact .nil
  | @cons p q ps qs h t ih =>
    rw [List.map_cons, List.map_cons]
    refine .cons ?_ ih
    obtain ⟨h1, h2⟩ := h
    by_cases e : p.1 = k
    · rw [if_pos e, if_pos (h1.symm.trans e)]; exact ⟨h1, ry⟩
    · rw [if_neg e, if_neg (fun z => e (h1.trans z))]; exact ⟨h1, h2⟩
theorem KV.put {kvs : List (κ × V)} {vs : List (κ × Value)} (r : KV kvs vs) (k : κ) {y : V} {u : Value} (ry : RelV y u) : KV (putK kvs k y) (stored vs k u) := by
  unfold putK stored
  rw [r.any k]
  by_cases e : (vs.any fun kv => decide (kv.1 = k)) = true
  · rw [if_pos e, if_pos e]; exact r.repl k ry
  · rw [if_neg e, if_neg e]; exact Paired.snoc r ⟨rfl, ry⟩
theorem KV.drop {kvs : List (κ × V)} {vs : List (κ × Value)} (r : KV kvs vs) (k : κ) : KV (dropK kvs k) (without vs k) := by
  unfold KV at r ⊢
  unfold dropK without
  induction r with
  | nil => exact .nil
  | @cons p q ps qs h t ih =>
    obtain ⟨h1, h2⟩ := h
    rw [List.filter_cons, List.filter_cons]
    by_cases e : p.1 = k
    · have a : ¬ decide (p.1 ≠ k) = true := by simp [e]
      have b : ¬ decide (q.1 ≠ k) = true := by simp [h1.symm.trans e]
      rw [if_neg a, if_neg b]; exact ih
    · have e' : ¬ q.1 = k := fun z => e (h1.trans z)
      have a : decide (p.1 ≠ k) = true := by simp [e]
      have b : decide (q.1 ≠ k) = true := by simp [e']
      rw [if_pos a, if_pos b]; exact .cons ⟨h1, h2⟩ ih
theorem KV.keys {kvs : List (κ × V)} {vs : List (κ × Value)} (r : KV kvs vs) : kvs.map (·.1) = vs.map (·.1) := by
  unfold KV at r
  induction r with
  | nil => rfl
  | cons h t ih => rw [List.map_cons, List.map_cons, ih, h.1]
theorem KV.length {kvs : List (κ × V)} {vs : List (κ × Value)} (r : KV kvs vs) : kvs.length = vs.length := Paired.length r
end


/-! ### a tracked dict, its keys ints and texts or tuples of these -/
theorem kV_is {P : Program} {w : World} {k : Key} {u : Value} (r : RelV (kV k) u) : (mixKind P w).is k u = true := by
  cases k with
  | inl i => obtain ⟨t, e⟩ := (show ∃ t, u = Value.int i t from r); subst e; exact mixKind_int P w i t
  | inr x => obtain ⟨t, e⟩ := (show ∃ t, u = Value.str x t from r); subst e; exact mixKind_str P w x t
theorem items_are {P : Program} {w : World} : ∀ {ks : List Key} {us : List Value}, Vals (ks.map kV) us → ItemsAre (mixKind P w) ks us
  | [], _, r => by rw [List.map_nil] at r; cases r; exact .nil
  | k :: ks, _, r => by
    rw [List.map_cons] at r
    cases r with
    | cons h t => exact .cons (kV_is h) (items_are t)

/-- raw entries of a dict with tuple keys -/
abbrev KTd (H : Hp) : List (List Key × V) → List (List Key × Addr × Value) → Prop := Paired fun p q => p.1 = q.1 ∧ H q.2.1 = some (.tup (p.1.map kV)) ∧ RelV p.2 q.2.2
theorem KTd.val {H : Hp} {kvs : List (List Key × V)} {xs : List (List Key × Addr × Value)} (r : KTd H kvs xs) (k : List Key) : RelO (valV kvs k) ((atKey xs k).map (·.2)) := by
  induction r with
  | nil => exact True.intro
  | @cons p q ps qs h t ih =>
    obtain ⟨h1, _, h2⟩ := h
    by_cases e : p.1 = k
    · have e' : q.1 = k := h1.symm.trans e
      have b : atKey (q :: qs) k = some q.2 := by simp [atKey, List.find?_cons, e']
      rw [valV_pos e, b]; exact h2
    · have e' : ¬ q.1 = k := fun z => e (h1.trans z)
      have b : atKey (q :: qs) k = atKey qs k := by simp [atKey, List.find?_cons, e']
      rw [valV_neg e, b]; exact ih
theorem KTd.repl {H : Hp} {kvs : List (List Key × V)} {xs : List (List Key × Addr × Value)} (r : KTd H kvs xs) (k : List Key) {y : V} {u : Value} (ry : RelV y u) :
    KTd H (kvs.map fun kv => if kv.1 = k then (kv.1, y) else kv) (xs.map (putAt k u)) := by
  induction r with
  | nil => exact .nil
  | @cons p q ps qs h t ih =>
    rw [List.map_cons, List.map_cons]
    refine .cons ?_ ih
    obtain ⟨h1, h2, h3⟩ := h
    unfold putAt
    by_cases e : p.1 = k
    · rw [if_pos e, if_pos (h1.symm.trans e)]; exact ⟨h1, h2, ry⟩
    · rw [if_neg e, if_neg (fun z => e (h1.trans z))]; exact ⟨h1, h2, h3⟩
theorem KTd.put {H : Hp} {kvs : List (List Key × V)} {xs : List (List Key × Addr × Value)} (r : KTd H kvs xs) (k : List Key) {b : Addr} {y : V} {u : Value} (hb : H b = some (.tup (k.map kV))) (ry : RelV y u) :
    KTd H (putK kvs k y) (storedH xs k b u) := by
  have e : (kvs.any fun kv => decide (kv.1 = k)) = (atKey xs k).isSome := by
    rw [valV_any, (r.val k).isSome_eq, Option.isSome_map]
  unfold putK storedH
  rw [e]
  by_cases q : (atKey xs k).isSome = true
  · rw [if_pos q, if_pos q]; exact r.repl k ry
  · rw [if_neg q, if_neg q]; exact Paired.snoc r ⟨rfl, hb, ry⟩
theorem KTd.keeps {H H' : Hp} {kvs : List (List Key × V)} {xs : List (List Key × Addr × Value)} (r : KTd H kvs xs) (ht : ∀ b ys, H b = some (.tup ys) → H' b = some (.tup ys)) : KTd H' kvs xs :=
  Paired.mapP r fun _ _ z => ⟨z.1, ht _ _ z.2.1, z.2.2⟩

section
variable {P : Program} {w : World} {H : Hp} {h : Heap} {a : Addr}
theorem rd_of {u : HO} (ok : HOk P w H h) (e : Rd H a u) : ObjOk P w H h a u := e.ok ok
theorem dk_rd {kvs : List (Key × V)} (ok : HOk P w H h) (e : Rd H a (.dK kvs)) : kvs.length ≤ sizeLine ∧ (a == sysModules) = false ∧ ∃ vs, KV kvs vs ∧ h.DictOf (mixKind P w) a vs :=
  show ObjOk P w H h a (.dK kvs) from rd_of ok e
theorem dk_of {kvs : List (Key × V)} (ok : HOk P w H h) (e : H a = some (.dK kvs)) : kvs.length ≤ sizeLine ∧ (a == sysModules) = false ∧ ∃ vs, KV kvs vs ∧ h.DictOf (mixKind P w) a vs := dk_rd ok (.inl e)
/-- a tracked tuple of ints and texts is a key -/
theorem key_of {ks : List Key} (ok : HOk P w H h) (e : H a = some (.tup (ks.map kV))) : (tupleKind (mixKind P w)).is h ks a := by
  obtain ⟨_, its, r, ⟨o, h1, h2, n, h3⟩, _⟩ := (show ObjOk P w H h a (.tup (ks.map kV)) from ok a _ e)
  exact ⟨o, its.toArray, n, h1, h2, h3, by simpa using items_are r⟩
theorem dt_rd {kvs : List (List Key × V)} (ok : HOk P w H h) (e : Rd H a (.dT kvs)) : kvs.length ≤ sizeLine ∧ (a == sysModules) = false ∧
    ∃ xs, KTd H kvs xs ∧ h.DictOfH (tupleKind (mixKind P w)) a xs := by
  obtain ⟨z, y, xs, r, o, es, ep, h1, h2, h3, h4, h5⟩ := (show ObjOk P w H h a (.dT kvs) from rd_of ok e)
  refine ⟨z, y, xs, r, o, es, ep, h1, h2, h3, h4, fun x hx => ?_, h5⟩
  have all : ∀ {l : List (List Key × V)} {m : List (List Key × Addr × Value)}, KTd H l m → ∀ x ∈ m, (tupleKind (mixKind P w)).is h x.1 x.2.1 := by
    intro l m q
    induction q with
    | nil => intro x hx; exact nomatch hx
    | @cons p q ps qs hq t ih =>
      intro x hx
      rcases List.mem_cons.mp hx with e | hx
      · subst e
        exact key_of ok (by rw [← hq.1]; exact hq.2.1)
      · exact ih x hx
  exact all r x hx
theorem dt_of {kvs : List (List Key × V)} (ok : HOk P w H h) (e : H a = some (.dT kvs)) : kvs.length ≤ sizeLine ∧ (a == sysModules) = false ∧
    ∃ xs, KTd H kvs xs ∧ h.DictOfH (tupleKind (mixKind P w)) a xs := dt_rd ok (.inl e)
end

/-- what the dict at a holds at the key y -/
def DGet (H : Hp) (a : Addr) (y : V) (r : Option V) : Prop :=
  (∃ kvs k, Rd H a (.dK kvs) ∧ y = kV k ∧ r = valV kvs k) ∨ ∃ kvs k b, Rd H a (.dT kvs) ∧ y = .ref b ∧ H b = some (.tup (k.map kV)) ∧ r = valV kvs k
/-- the heap behind a[y] = v -/
def DPut (H : Hp) (a : Addr) (y v : V) (H' : Hp) : Prop :=
  (∃ kvs k, H a = some (.dK kvs) ∧ y = kV k ∧ kvs.length < sizeLine ∧ H' = upd H a (.dK (putK kvs k v))) ∨
  ∃ kvs k b, H a = some (.dT kvs) ∧ y = .ref b ∧ H b = some (.tup (k.map kV)) ∧ kvs.length < sizeLine ∧ H' = upd H a (.dT (putK kvs k v))
theorem DGet.k {H : Hp} {a : Addr} {kvs : List (Key × V)} {k : Key} (e : H a = some (.dK kvs)) : DGet H a (kV k) (valV kvs k) := .inl ⟨kvs, k, .inl e, rfl, rfl⟩
theorem DGet.t {H : Hp} {a b : Addr} {kvs : List (List Key × V)} {k : List Key} (e : H a = some (.dT kvs)) (eb : H b = some (.tup (k.map kV))) : DGet H a (.ref b) (valV kvs k) := .inr ⟨kvs, k, b, .inl e, rfl, eb, rfl⟩
theorem DPut.k {H : Hp} {a : Addr} {kvs : List (Key × V)} {k : Key} {v : V} (e : H a = some (.dK kvs)) (hl : kvs.length < sizeLine) : DPut H a (kV k) v (upd H a (.dK (putK kvs k v))) := .inl ⟨kvs, k, e, rfl, hl, rfl⟩
theorem DPut.t {H : Hp} {a b : Addr} {kvs : List (List Key × V)} {k : List Key} {v : V} (e : H a = some (.dT kvs)) (eb : H b = some (.tup (k.map kV))) (hl : kvs.length < sizeLine) :
    DPut H a (.ref b) v (upd H a (.dT (putK kvs k v))) := .inr ⟨kvs, k, b, e, rfl, eb, hl, rfl⟩


section
variable {X : Cx} {pins : List (Addr × Obj)} {σ : St} {H : Hp} {s : Shared} {a : Addr} {y v : V} {u r : Value} {o : Option V} {A : Around} {E : Value → Shared → Prop}

theorem Inv.big (I : Inv X pins σ H s) : sysModules < s.heap.objs.size := by
  have h : mainGlobals < s.heap.objs.size := (I.mod.glob.keeps I.bk).lt
  exact Nat.lt_trans (by decide) h

/-- a dict's object is replaced -/
theorem d_write {h' : Heap} {t' : Nat} {ob : HO} (I : Inv X pins σ H s) (mu : Mut (H a)) (hs : Heap.SameBut a s.heap h') (he : ∃ q, h'.get? a = some q) (new : ObjOk X.prog X.w (upd H a ob) h' a ob) :
    Inv X pins σ (upd H a ob) { s with heap := h', toks := t' } :=
  I.write (x := a) (e := a) mu (.inl rfl) (fun b q hb z => (hs.2 b hb).trans z) he new
theorem dk_new {P : Program} {w : World} {H' : Hp} {h' : Heap} {kvs : List (Key × V)} {vs : List (Key × Value)} (z : kvs.length ≤ sizeLine) (hd : (a == sysModules) = false) (rel : KV kvs vs) (dd : h'.DictOf (mixKind P w) a vs) :
    ObjOk P w H' h' a (.dK kvs) := ⟨z, hd, vs, rel, dd⟩
/-- d[y] = v -/
theorem d_setItem {H' : Hp} {Q : Unit → Shared → Prop} (hu : A.units + 1 < cLine) (I : Inv X pins σ H s) (g : DPut H a y v H') (ry : RelV y u) (rv : RelV v r) (h : ∀ s', Inv X pins σ H' s' → Q () s') :
    wpAny (model X.prog X.w) A (setItem (.ref a) u r) Q E s := by
  rcases g with ⟨kvs, k, e, ey, l, eH⟩ | ⟨kvs, k, b, e, ey, eb, l, eH⟩
  · subst ey eH
    obtain ⟨z, hd, vs, rel, dd⟩ := dk_of I.hok e
    have hz : vs.length ≤ sizeLine := by rw [← rel.length]; exact z
    have hl : (putK kvs k v).length ≤ sizeLine := by have := length_putK kvs k v; omega
    refine wpAny_setItem_pairs (hsz := hz) (kV_is ry) dd fun h' dd' hs => h _ ?_
    have he : ∃ q, h'.get? a = some q := let ⟨q, _, _, hq, _⟩ := dd'; ⟨q, hq⟩
    exact d_write I (by rw [e]; exact True.intro) hs he (dk_new hl hd (rel.put k rv) dd')
  · subst ey eH
    cases (show u = Value.ref b from ry)
    obtain ⟨z, hd, xs, rel, dd⟩ := dt_of I.hok e
    have hz : xs.length ≤ sizeLine := by rw [← Paired.length rel]; exact z
    have hl : (putK kvs k v).length ≤ sizeLine := by have := length_putK kvs k v; omega
    refine wpAny_setItem_heap (hsz := hz) (tupleKind_room_in1 hu) (key_of I.hok eb) dd fun h' dd' hs => h _ ?_
    obtain ⟨q, es, ep, hq, h2, h3, h4, _, h5⟩ := dd'
    refine d_write I (by rw [e]; exact True.intro) hs ⟨q, hq⟩ ⟨hl, hd, _, (rel.put k eb rv).keeps fun c ys ec => ?_, q, es, ep, hq, h2, h3, h4, h5⟩
    rw [upd_ne (ne_of ec e (fun z => nomatch z))]
    exact ec
end

section
variable {X : Cx} {pins : List (Addr × Obj)} {σ : St} {H : Hp} {s : Shared} {a : Addr} {kvs : List (Key × V)} {k : Key} {u : Value} {A : Around} {E : Value → Shared → Prop}
end


/-! ### readings and rules -/
/-- the element of a subscription, not a slice -/
def NoSl (i : Expr) : Prop := ∀ ov iv, subscripted i false ov iv = operate [ov, iv] (getItem ov iv)
theorem subD_of {prog : Program} {w : World} {A : Around} {E : Value → Shared → Prop} {s : Shared} {env : Env} {value slice : Expr} {pos : Pos} {T id : String} {Q : Value → Shared → Prop}
    (hl : typeLookup (.type T) "__getitem__" = pure (some (.builtin id))) (hs : NoSl slice)
    (h : wpAny (model prog w) A (eval value env) (fun o s₁ => wpAny (model prog w) A (eval slice env) (fun i s₂ => s₂.TypeIs o T ∧ wpAny (model prog w) A (getItem o i) Q E s₂) E s₁) E s) :
    wpAny (model prog w) A (eval (.Subscript value slice pos) env) Q E s := by
  refine Subscript_ (wpAny_mono h (fun o s₁ h₁ => wpAny_mono h₁ (fun i s₂ h₂ => ?_) fun _ _ x => x) fun _ _ x => x)
  obtain ⟨hT, h₂⟩ := h₂
  unfold subscriptTail
  refine wpAny_bind ?_
  rw [getitemInPython_of_ne hT.not_modules]
  refine wpAny_bind (wpAny_specialOf hT hl ?_)
  have fin : wpAny (model prog w) A (subscripted slice false o i) (fun r s₃ => wpAny (model prog w) A (letTemporaryGo value o r >>= fun _ => pure r) Q E s₃) E s₂ := by
    rw [hs o i]
    exact wpAny_operating (wpAny_mono h₂ (fun r s₃ h₃ => wpAny_bind (wpAny_letTemporaryGo (wpAny_pure h₃))) fun _ _ x => x)
  first
    | exact wpAny_pure (wpAny_bind fin)
    | exact wpAny_bind (wpAny_pure (wpAny_bind fin))
    | exact wpAny_bind fin

/-- d[y] = v -/
def sDPut (td ty tv : TE) : TS := fun D σ H => tv σ H fun v H1 => td σ H1 fun x H2 => ty σ H2 fun y H3 => ∃ a H4, x = .ref a ∧ DPut H3 a y v H4 ∧ D.nx σ H4
section
variable {X : Cx} {o i e value : Expr} {pos pos' tpos : Pos} {td ty tv : TE}
theorem ps_dput (hu : X.A.units + 1 < cLine) (ho : PE X o td) (hi : PE X i ty) (hv : PE X value tv) (hs : swapsWith value (some (.Subscript o i pos')) pos.line X.env = pure false) :
    PS X (.Assign [.Subscript o i pos'] value pos) (sDPut td ty tv) := by
  intro pins s σ H D I h
  refine wpAny_Assign_Subscript (thn (hv pins s σ H _ I h) fun r s1 ⟨v, H1, I1, rv, q1⟩ => thn (ho pins s1 σ H1 _ I1 q1) fun u s2 ⟨x, H2, I2, rx, q2⟩ => thn (hi pins s2 σ H2 _ I2 q2) fun iv s3 ⟨y, H3, I3, ry, a, H4, ex, g, q3⟩ => ?_) hs
  subst ex
  obtain rfl : u = Value.ref a := rx
  exact d_setItem hu I3 g ry rv fun s4 I4 => ⟨σ, H4, I4, q3⟩
end


/-! ### displays -/
theorem dt_empty {P : Program} {w : World} {H : Hp} (h : Heap) (hb : sysModules < h.objs.size) : ObjOk P w H (h.push { cls := .type "dict", data := .dict #[] }) h.objs.size (.dT []) :=
  ⟨Nat.zero_le _, beq_eq_false_iff_ne.mpr (Ne.symm (Nat.ne_of_lt hb)), [], .nil, _, #[], 0, Heap.get?_push_size _ rfl, ⟨rfl, rfl, rfl⟩, rfl, rfl, List.nodup_nil⟩
def tDNewT : TE := fun _ H Q => ∀ p, H p = none → Q (.ref p) (upd H p (.dT []))
section
variable {X : Cx} {pos : Pos}
theorem pe_dnewT : PE X (.Dict [] [] pos) tDNewT := fun pins s σ H Q I h =>
  wpAny_Dict_empty ⟨.ref s.heap.objs.size, _, I.laid (a := s.heap.objs.size) (o := .dT []) (t' := s.toks) (fun _ _ q => Heap.get?_push_of_some _ q) (Nat.le_refl _) (dt_empty s.heap I.big), rfl, h _ (I.hok.fresh (Nat.le_refl _))⟩
end

/-! ### methods -/
/-- a method call o.m(e) of a built-in, with one argument: what must be seen of the text -/
structure M1 (X : Cx) (o : Expr) (m : Str) (apos : Pos) (e : Expr) (cpos : Pos) : Prop where
  base : attributeBase o m X.env (eval o X.env) = eval o X.env
  few : ((backTo cpos (starEach [e] X.env)).all (fun x => !x.1) && (backToKw cpos (keywordEach [] X.env)).all (fun x => x.1.isSome)
    && decide (([e] : List Expr).length + ([] : List Keyword).length + (if ([] : List Keyword).isEmpty then 0 else 1) < 30)) = true
  line : (apos.endLine == cpos.line) = true
  trees : backTo cpos (starEach [e] X.env) = [(false, eval e X.env)]
structure M2 (X : Cx) (o : Expr) (m : Str) (apos : Pos) (e f : Expr) (cpos : Pos) : Prop where
  base : attributeBase o m X.env (eval o X.env) = eval o X.env
  few : ((backTo cpos (starEach [e, f] X.env)).all (fun x => !x.1) && (backToKw cpos (keywordEach [] X.env)).all (fun x => x.1.isSome)
    && decide (([e, f] : List Expr).length + ([] : List Keyword).length + (if ([] : List Keyword).isEmpty then 0 else 1) < 30)) = true
  line : (apos.endLine == cpos.line) = true
  trees : backTo cpos (starEach [e, f] X.env) = [(false, eval e X.env), (false, eval f X.env)]

section
variable {X : Cx} {pins : List (Addr × Obj)} {σ : St} {H : Hp} {s : Shared} {a : Addr} {y d : V} {u r : Value} {o : Option V} {A : Around} {E : Value → Shared → Prop}
end

section
variable {X : Cx} {o e f : Expr} {apos cpos : Pos} {td ty tx : TE}
end

/-! ### dict(d): a copy -/
section
variable {X : Cx} {pins : List (Addr × Obj)} {σ : St} {H : Hp} {s : Shared} {a : Addr} {kvs : List (Key × V)} {A : Around} {E : Value → Shared → Prop}
end


section
variable {X : Cx} {pins : List (Addr × Obj)} {σ : St} {H : Hp} {s : Shared} {a : Addr} {y : V} {u : Value} {A : Around} {E : Value → Shared → Prop}
end
end L2
set_option Elab.async false
set_option linter.all false
set_option maxRecDepth 100000
namespace L2
open PySem PySem.Spec PyProof.Rows
section
variable {X : Cx} {c : Ct} {a1 b1 a2 b2 e f : Expr} {k1 l1 k2 l2 k l : Kd} {fa1 fb1 fa2 fb2 fe ff : FE} {apos cpos dpos : Pos}
end
end L2
set_option Elab.async false
set_option linter.all false
set_option maxRecDepth 100000
namespace PySem
open Sem (wp)
section
variable {prog : Program} {w : World} {A : Around} {E : Value → Shared → Prop} {s : Shared}
end
end PySem
set_option Elab.async false
set_option linter.all false
set_option maxRecDepth 100000
namespace L2
open PySem PySem.Spec PyProof.Rows
section
variable {X : Cx} {c : Ct} {k : Kd} {es : List Expr} {x1 : Nat} {tp pos p : Pos}
end
end L2
set_option Elab.async false
set_option linter.all false
set_option maxRecDepth 100000
namespace PySem
section
variable {prog : Program} {w : World} {A : Around} {E : Value → Shared → Prop} {s : Shared}
end
end PySem
namespace L2
open PySem PySem.Spec PyProof.Rows
section
variable {X : Cx} {c : Ct} {es : List Expr} {pos : Pos}
end
end L2
set_option Elab.async false
set_option linter.all false
set_option maxRecDepth 100000
namespace L2
open PySem PySem.Spec PyProof.Rows
section
variable {X : Cx} {c : Ct} {e o : Expr} {k k2 : Kd} {f g : FE} {pos p p2 apos : Pos}
/-! sep.join(list of texts) -/
end
end L2
set_option Elab.async false
set_option linter.all false
set_option maxRecDepth 100000
namespace L2
open PySem PySem.Spec PyProof.Rows
/-! tuple + tuple, the left one empty too -/
section
variable {X : Cx} {c : Ct} {a b : Expr} {f g : FE} {pos : Pos}
/-! tuple < tuple, of whole numbers -/
end
/-! zip of lists, held ones too -/
section
variable {X : Cx} {c : Ct} {k1 k2 : Kd} {es : List Expr} {x1 : Nat} {tp pos p : Pos}
end
section
variable {X : Cx} {c : Ct} {elt t1 t2 i1 i2 : Expr} {ifs1 ifs2 : List Expr} {scope : Scope} {pos spos py : Pos} {N' : List Str} {m : Nat} {gi1 gi2 : FA} {g1 g2 : FG} {p1 p2 : FT} {f : FE} {y : Str}
end
end L2
set_option Elab.async false
set_option linter.all false
set_option maxRecDepth 100000
namespace L2
open PySem PySem.Spec PyProof.Rows
/-! ### a dict held alone -/
def getK (i : Nat) (ρ : Rho) : Option (List (Key × D)) := match ρ[i]? with
  | some (.ob (.dK kvs)) => some kvs
  | _ => none
theorem getK_some {i : Nat} {ρ : Rho} {kvs : List (Key × D)} (h : getK i ρ = some kvs) : ρ[i]? = some (.ob (.dK kvs)) := by
  unfold getK at h
  split at h
  · cases h; assumption
  · cases h
def valD (kvs : List (Key × D)) (k : Key) : Option D := (kvs.find? fun kv => decide (kv.1 = k)).map (·.2)
def putD (kvs : List (Key × D)) (k : Key) (d : D) : List (Key × D) :=
  if (kvs.any fun kv => decide (kv.1 = k)) = true then kvs.map (fun kv => if kv.1 = k then (kv.1, d) else kv) else kvs ++ [(k, d)]
def KRl (K : PySem.W.Frag) (F : Hp) (us : List (Key × V)) (kvs : List (Key × D)) : Prop := us.map (·.1) = kvs.map (·.1) ∧ Reps K F (us.map (·.2)) (kvs.map (·.2))
theorem KRl.inv {K : PySem.W.Frag} {F : Hp} : ∀ {us : List (Key × V)} {kvs : List (Key × D)}, KRl K F us kvs → (us = [] ∧ kvs = []) ∨ ∃ k v us' d kvs', us = (k, v) :: us' ∧ kvs = (k, d) :: kvs' ∧ Rep K F v d ∧ KRl K F us' kvs'
  | [], [], _ => .inl ⟨rfl, rfl⟩
  | [], _ :: _, h => by cases h.1
  | _ :: _, [], h => by cases h.1
  | (k, v) :: us, (k', d) :: kvs, h => by
    obtain ⟨h1, h2⟩ := h
    rw [List.map_cons, List.map_cons] at h1 h2
    injection h1 with e1 e2
    cases h2 with
    | cons r rs =>
      have e1 : k = k' := e1
      subst e1
      exact .inr ⟨k, v, us, d, kvs, rfl, rfl, r, e2, rs⟩
theorem KRl.val {K : PySem.W.Frag} {F : Hp} (k : Key) : ∀ {us : List (Key × V)} {kvs : List (Key × D)}, KRl K F us kvs → (valV us k = none ∧ valD kvs k = none) ∨ ∃ v d, valV us k = some v ∧ valD kvs k = some d ∧ Rep K F v d := by
  intro us
  induction us with
  | nil =>
    intro kvs h
    rcases h.inv with ⟨_, rfl⟩ | ⟨_, _, _, _, _, e, _⟩
    · exact .inl ⟨rfl, rfl⟩
    · cases e
  | cons p us ih =>
    intro kvs h
    rcases h.inv with ⟨e, _⟩ | ⟨k', v, us', d, kvs', e, rfl, r, rs⟩
    · cases e
    · cases e
      by_cases ek : k' = k
      · exact .inr ⟨v, d, valV_pos ek, by simp [valD, List.find?_cons, ek], r⟩
      · have e1 : valV ((k', v) :: us) k = valV us k := valV_neg ek
        have e2 : valD ((k', d) :: kvs') k = valD kvs' k := by simp [valD, List.find?_cons, ek]
        rw [e1, e2]
        exact ih rs
theorem KRl.any {K : PySem.W.Frag} {F : Hp} (k : Key) {us : List (Key × V)} {kvs : List (Key × D)} (h : KRl K F us kvs) : (us.any fun kv => decide (kv.1 = k)) = kvs.any fun kv => decide (kv.1 = k) := by
  have e1 : (us.any fun kv => decide (kv.1 = k)) = (us.map (·.1)).any fun x => decide (x = k) := by rw [List.any_map]; rfl
  have e2 : (kvs.any fun kv => decide (kv.1 = k)) = (kvs.map (·.1)).any fun x => decide (x = k) := by rw [List.any_map]; rfl
  rw [e1, e2, h.1]
theorem KRl.cons {K : PySem.W.Frag} {F : Hp} {k : Key} {v : V} {d : D} {us : List (Key × V)} {kvs : List (Key × D)} (r : Rep K F v d) (h : KRl K F us kvs) : KRl K F ((k, v) :: us) ((k, d) :: kvs) := ⟨by rw [List.map_cons, List.map_cons, h.1], .cons r h.2⟩
theorem KRl.repl {K : PySem.W.Frag} {F : Hp} (k : Key) {v : V} {d : D} (r : Rep K F v d) : ∀ {us : List (Key × V)} {kvs : List (Key × D)}, KRl K F us kvs → KRl K F (us.map (fun kv => if kv.1 = k then (kv.1, v) else kv)) (kvs.map (fun kv => if kv.1 = k then (kv.1, d) else kv)) := by
  intro us
  induction us with
  | nil =>
    intro kvs h
    rcases h.inv with ⟨_, rfl⟩ | ⟨_, _, _, _, _, e, _⟩
    · exact h
    · cases e
  | cons p us ih =>
    intro kvs h
    rcases h.inv with ⟨e, _⟩ | ⟨k', v', us', d', kvs', e, rfl, r', rs⟩
    · cases e
    · cases e
      rw [List.map_cons, List.map_cons]
      by_cases ek : k' = k
      · rw [if_pos ek, if_pos ek]; exact KRl.cons r (ih rs)
      · rw [if_neg ek, if_neg ek]; exact KRl.cons r' (ih rs)
theorem KRl.put {K : PySem.W.Frag} {F : Hp} (k : Key) {v : V} {d : D} (r : Rep K F v d) {us : List (Key × V)} {kvs : List (Key × D)} (h : KRl K F us kvs) : KRl K F (putK us k v) (putD kvs k d) := by
  unfold putK putD
  rw [h.any k]
  split
  · exact h.repl k r
  · refine ⟨by rw [List.map_append, List.map_append, h.1]; rfl, ?_⟩
    rw [List.map_append, List.map_append]
    exact h.2.append (.cons r .nil)
theorem KRl.len {K : PySem.W.Frag} {F : Hp} {us : List (Key × V)} {kvs : List (Key × D)} (h : KRl K F us kvs) : us.length = kvs.length := by
  have := congrArg List.length h.1
  simpa using this
section
variable {K : PySem.W.Frag} {c : Ct} {hid : Hid} {ρ : Rho} {σ : St} {H : Hp} {a : Addr}
theorem SR.dict (h : SR K c hid ρ σ H) {i : Nat} {kvs : List (Key × D)} (e : getK i ρ = some kvs) : ∃ a us, σ[i]? = some (some (.ref a)) ∧ hid a = true ∧ c.H₀ a = none ∧ H a = some (.dK us) ∧ KRl K (vw H hid) us kvs := by
  obtain ⟨a, h1, ⟨h2, h3⟩, us, h4, h5, h6⟩ := h.sl i _ (getK_some e)
  exact ⟨a, us, h1, h2, h3, h4, h5, h6⟩
theorem SR.setD {b : Ob} (h : SR K c hid ρ σ H) (ho : ObOk K c hid H a b) (no : ∀ i : Nat, Ow ρ[i]? → σ[i]? ≠ some (some (.ref a))) (i : Nat) :
    SR K c hid (ρ.set i (.ob b)) (σ.set i (some (.ref a))) H := by
  refine ⟨h.tr, h.ht, h.h0, h.kp, h.t0, h.c0, h.m0, by simp [h.len], fun j s q => ?_, fun j l z n o1 o2 q1 q2 => ?_⟩
  · by_cases e : j = i
    · subst e
      have lt : j < ρ.length := by
        have := (List.getElem?_eq_some_iff.mp q).1
        simpa using this
      rw [List.getElem?_set_self lt] at q
      cases q
      exact ⟨a, List.getElem?_set_self (by rw [h.len]; exact lt), ho⟩
    · rw [List.getElem?_set_ne (Ne.symm e)] at q
      have w := h.sl j s q
      have es : (σ.set i (some (V.ref a)))[j]? = σ[j]? := List.getElem?_set_ne (Ne.symm e)
      cases s with
      | no => trivial
      | v d => obtain ⟨x, h1, h2⟩ := w; exact ⟨x, es.trans h1, h2⟩
      | own ds => obtain ⟨a, xs, h1, h2⟩ := w; exact ⟨a, xs, es.trans h1, h2⟩
      | arg ds => obtain ⟨a, xs, h1, h2⟩ := w; exact ⟨a, xs, es.trans h1, h2⟩
      | ob b => obtain ⟨a, h1, h2⟩ := w; exact ⟨a, es.trans h1, h2⟩
  · by_cases e1 : j = i
    · subst e1
      have e2 : l ≠ j := fun e => n e.symm
      rw [List.getElem?_set_ne (Ne.symm e2)] at o2 q2
      by_cases lt : j < σ.length
      · rw [List.getElem?_set_self lt] at q1; cases q1; exact no l o2 q2
      · rw [List.getElem?_eq_none (by simpa using lt)] at q1; cases q1
    · rw [List.getElem?_set_ne (Ne.symm e1)] at o1 q1
      by_cases e2 : l = i
      · subst e2
        by_cases lt : l < σ.length
        · rw [List.getElem?_set_self lt] at q2; cases q2; exact no j o1 q1
        · rw [List.getElem?_eq_none (by simpa using lt)] at q2; cases q2
      · rw [List.getElem?_set_ne (Ne.symm e2)] at o2 q2
        exact h.ap j l z n o1 o2 q1 q2
/-- the dict at slot i is changed -/
theorem SR.putD {i : Nat} {kvs kvs' : List (Key × D)} {us' : List (Key × V)} (h : SR K c hid ρ σ H) (hg : getK i ρ = some kvs) (ha : σ[i]? = some (some (.ref a))) (r : KRl K (vw H hid) us' kvs') : SR K c hid (ρ.set i (.ob (.dK kvs'))) σ (upd H a (.dK us')) := by
  obtain ⟨a1, us, h1, h2, h3, h4, h5⟩ := h.dict hg
  rw [ha] at h1; cases h1
  have lt : i < ρ.length := (List.getElem?_eq_some_iff.mp (getK_some hg)).1
  have vv : vw (upd H a (.dK us')) hid = vw H hid := vw_upd h2
  have tr' : ∀ b o, H b = some o → ∃ o2, (upd H a (.dK us')) b = some o2 := fun b o q => by
    by_cases e : b = a
    · subst e; exact ⟨_, upd_same⟩
    · exact ⟨o, by rw [upd_ne e]; exact q⟩
  have owi : Ow ρ[i]? := by rw [getK_some hg]; trivial
  have ne : ∀ (j : Nat) (s : Sl) (a' : Addr), j ≠ i → ρ[j]? = some s → Ow (some s) → σ[j]? = some (some (.ref a')) → a' ≠ a := fun j s a' n e o q w => by
    subst w
    exact h.ap j i a' n (by rw [e]; exact o) owi q ha
  have ows : ∀ j : Nat, Ow (ρ.set i (.ob (.dK kvs')))[j]? → Ow ρ[j]? := fun j o => by
    by_cases e : j = i
    · subst e; exact owi
    · rw [List.getElem?_set_ne (Ne.symm e)] at o; exact o
  refine ⟨fun b hb => let ⟨o, q⟩ := h.tr b hb; tr' b o q, fun b xs hb q => by
    by_cases e : b = a
    · subst e; rw [upd_same] at q; cases q
    · rw [upd_ne e] at q; exact h.ht b xs hb q, h.h0, fun b o q m => ?_, fun b o q => let ⟨o2, q2⟩ := h.t0 b o q; tr' b o2 q2, h.c0, h.m0, by simp [h.len], fun j s e => ?_, fun j l z n o1 o2 => h.ap j l z n (ows j o1) (ows l o2)⟩
  · rw [upd_ne (ne_of_none q h3)]; exact h.kp b o q m
  · by_cases ej : j = i
    · subst ej
      rw [List.getElem?_set_self lt] at e
      cases e
      exact ⟨a, ha, ⟨h2, h3⟩, us', upd_same, r.1, by rw [vv]; exact r.2⟩
    · rw [List.getElem?_set_ne (Ne.symm ej)] at e
      have z := h.sl j s e
      cases s with
      | no => trivial
      | v d => obtain ⟨x, h1, h2⟩ := z; exact ⟨x, h1, by rw [vv]; exact h2⟩
      | own ds => obtain ⟨a', xs, h1, h2, h3, h4, h5⟩ := z; exact ⟨a', xs, h1, by rw [upd_ne (ne j _ a' ej e trivial h1)]; exact h2, h3, h4, by rw [vv]; exact h5⟩
      | arg ds => obtain ⟨a', xs, h1, h2, h3, h4, h5⟩ := z; exact ⟨a', xs, h1, by rw [upd_ne (ne j _ a' ej e trivial h1)]; exact h2, h3, h4, by rw [vv]; exact h5⟩
      | ob b => obtain ⟨a', h1, h2⟩ := z; exact ⟨a', h1, h2.mono (fun ow o q => by rw [upd_ne (ne j _ a' ej e ow h1)]; exact q) (by rw [vv]; exact Same.refl _) fun _ q => q⟩
end
section
variable {X : Cx} {c : Ct} {k k1 k2 : Kd} {e f ek ev : Expr} {fe ff fk fv : FE} {pos pos' py apos cpos p : Pos} {x y : Str}
end
end L2
set_option Elab.async false
set_option linter.all false
set_option maxRecDepth 100000
namespace L2
open PySem PySem.W PySem.Spec PyProof.Rows
section
variable {prog : Program} {w : World} {A : Around} {E : Value → Shared → Prop} {s : Shared}
/-- what is walked is gathered; a place is taken meanwhile -/
theorem gather_src {T : String} {r d : Addr} {n : Nat} {P : Nat → Value → Prop} {OK : Heap → Prop} {R : List Value → Shared → Prop} (src : KdlSrc prog w T r d n P OK) (calm : A.handled = none) (good : OK s.heap) (few : n ≤ sizeLine)
    (q : ∀ (g : Heap) (tk : Nat) (us : Array Value), (∀ b o, s.heap.get? b = some o → g.get? b = some o) → s.heap.objs.size < g.objs.size → ItemsOf P us n → R us.toList { s with heap := g, toks := tk }) : wpAny (model prog w) A (collect (.ref r)) R E s := by
  obtain ⟨rl, dl⟩ := src.there _ good
  unfold collect
  refine wpAny_bind (wpAny_runValue (codeAny_builtin F.entry_proto_collect ?_))
  rw [Around.under_plainId F.plain_proto_collect _]
  show wpAny _ A.in1 (newList [] >>= fun z => again (.builtin "list.__iadd__" ⟨[z, .ref r], []⟩)) _ _ s
  refine wpAny_bind (wpAny_newObj_type (wpAny_pure ⟨plainId_quiet F.plain_list_iadd _, codeAny_builtin F.entry_list_iadd ?_⟩))
  rw [Around.under_plainId F.plain_list_iadd _]
  show wpAny _ A.in1 (Builtin.List.listExtendWith (.ref s.heap.objs.size) (.ref r) (.ref s.heap.objs.size)) _ _ _
  have last : ∀ (g : Heap) (tk : Nat) (us : Array Value) (m : Nat), (∀ b o, s.heap.get? b = some o → g.get? b = some o) → g.get? s.heap.objs.size = some { cls := .type "list", dict := none, data := .seq us m, slots := #[] } → ItemsOf P us n →
      wpAny (model prog w) A (do
        match (← load s.heap.objs.size).data with
          | Data.seq xs _ => pure xs.toList
          | _ => unsupported "internal:collect") R E { s with heap := g, toks := tk } := fun g tk us m kg hg hi => wpAny_bind (wpAny_load hg (wpAny_pure (q g tk us kg (Heap.lt_size hg) hi)))
  have ext := kdl_extend (A := A) (s := { s with heap := s.heap.push { cls := .type "list", data := .seq ([] : List Value).toArray } })
    (R := fun z t => ∃ (g : Heap) (tk : Nat) (us : Array Value) (m : Nat), z = .ok (.ret (.ref s.heap.objs.size)) ∧ t = { s with heap := g, toks := tk } ∧ (∀ b o, s.heap.get? b = some o → g.get? b = some o) ∧ g.get? s.heap.objs.size = some { cls := .type "list", dict := none, data := .seq us m, slots := #[] } ∧ ItemsOf P us n)
    src calm (src.keep _ _ good fun b _ o e => Heap.get?_push_of_some _ e) s.heap.objs.size (Nat.ne_of_gt rl) (Nat.ne_of_gt dl) (.ref s.heap.objs.size) 0 (Heap.get?_push_size _ rfl)
    (fun g tk us m kg hg hi => ⟨g, tk, us, m, rfl, rfl, fun b o e => kg b o (Nat.ne_of_lt (Heap.lt_size e)) (Heap.get?_push_of_some _ e), hg, hi⟩) few
  refine wpAny_mono ext (fun z t h => ?_) fun z t h => by obtain ⟨_, _, _, _, e, _⟩ := h; cases e
  cases z with
  | done f => obtain ⟨g, tk, us, m, e, rfl, kg, hg, hi⟩ := h; cases e; exact last g tk us m kg hg hi
  | again c => exact ⟨h.1, codeAny_mono h.2 fun z t' hr => by obtain ⟨g, tk, us, m, rfl, rfl, kg, hg, hi⟩ := hr; exact last g tk us m kg hg hi⟩
end
section
variable {X : Cx} {c : Ct} {pos p py : Pos} {x y : Str}
theorem ints_reps {K : PySem.W.Frag} {F : Hp} : ∀ ms : List Int, Reps K F (ms.map V.int) (ms.map D.int)
  | [] => .nil
  | m :: ms => .cons .int (ints_reps ms)
end
end L2
set_option Elab.async false
set_option linter.all false
set_option maxRecDepth 100000
namespace L2
open PySem PySem.Spec PyProof.Rows
/-! ### a held list lent to a def -/
mutual
/-- no list within -/
def LF : D → Bool
  | .lst _ => false
  | .tup ds => LFs ds
  | .scr ds => LFs ds
  | _ => true
def LFs : List D → Bool
  | [] => true
  | d :: ds => LF d && LFs ds
end
theorem sqT_back {K : PySem.W.Frag} {H : Hp} {g g' : Hid} (h : ∀ t, g' t = false → g t = true → isLO (H t) = true) {a : Addr} {xs : List V} (s : SqT K (vw H g') a xs) : SqT K (vw H g) a xs := by
  rcases s with (s | ⟨o, s⟩) | s
  · obtain ⟨h1, h2⟩ := vw_some.mp s
    refine .inl (.inl (vw_some.mpr ⟨?_, h2⟩))
    cases e : g a with
    | false => rfl
    | true => have := h a h1 e; rw [h2] at this; cases this
  · obtain ⟨h1, h2⟩ := vw_some.mp s
    refine .inl (.inr ⟨o, vw_some.mpr ⟨?_, h2⟩⟩)
    cases e : g a with
    | false => rfl
    | true => have := h a h1 e; rw [h2] at this; cases this
  · exact .inr s
theorem sqR_back {K : PySem.W.Frag} {H : Hp} {g g' : Hid} (h : ∀ t, g' t = false → g t = true → isLO (H t) = true) {a : Addr} {xs : List V} (s : SqR K (vw H g') a xs) : SqR K (vw H g) a xs := by
  rcases s with ⟨o, s⟩ | s
  · obtain ⟨h1, h2⟩ := vw_some.mp s
    refine .inl ⟨o, vw_some.mpr ⟨?_, h2⟩⟩
    cases e : g a with
    | false => rfl
    | true => have := h a h1 e; rw [h2] at this; cases this
  · exact .inr s
mutual
theorem rep_back {K : PySem.W.Frag} {H : Hp} {g g' : Hid} (h : ∀ t, g' t = false → g t = true → isLO (H t) = true) : ∀ {v : V} {d : D}, Rep K (vw H g') v d → LF d = true → Rep K (vw H g) v d
  | _, _, .non, _ => .non
  | _, _, .bl, _ => .bl
  | _, _, .int, _ => .int
  | _, _, .str, _ => .str
  | _, _, .tup s r, l => .tup (sqT_back h s) (reps_back h r (by unfold LF at l; exact l))
  | _, _, .scr s r, l => .scr (sqR_back h s) (reps_back h r (by unfold LF at l; exact l))
  | _, _, .lst s r, l => by unfold LF at l; cases l
theorem reps_back {K : PySem.W.Frag} {H : Hp} {g g' : Hid} (h : ∀ t, g' t = false → g t = true → isLO (H t) = true) : ∀ {v : List V} {d : List D}, Reps K (vw H g') v d → LFs d = true → Reps K (vw H g) v d
  | _, _, .nil, _ => .nil
  | _, _, .cons r rs, l => by
    unfold LFs at l
    rw [Bool.and_eq_true] at l
    exact .cons (rep_back h r l.1) (reps_back h rs l.2)
end
section
variable {X : Cx} {c : Ct} {e : Expr} {es : List Expr} {pos p : Pos} {x : Str} {ps : List Str} {j n : Nat}
end
end L2
set_option Elab.async false
set_option linter.all false
set_option maxRecDepth 100000
namespace L2
open PySem PySem.Spec PyProof.Rows
/-! ### sum(list of ints) -/
section
variable {X : Cx} {c : Ct}
end
end L2
set_option Elab.async false
set_option linter.all false
set_option maxRecDepth 100000
namespace L2
open PySem PySem.Spec PyProof.Rows
/-! a display of whole numbers that are written out -/
@[irreducible] def QE (X : Cx) (c : Ct) (e : Expr) (g : GE) : Prop := DE X c .s e g
section
variable {X : Cx} {c : Ct} {pos : Pos}
variable {k : Kd} {e b : Expr} {g : GE} {pos' : Pos} {x : Str}
theorem QE.of (h : DE X c .s e g) : QE X c e g := by unfold QE; exact h
end
end L2
set_option Elab.async false
set_option linter.all false
set_option maxRecDepth 100000
namespace L2
open PySem PySem.Spec PyProof.Rows
section
open PySem.SeqAt
open PySem.AutoSeq1 (wpAny_loadPart')
open PySem.MeetsSeq PySem.MeetsSeq2 PySem.MeetsSeq3
/-! sorted(..) of lists of whole numbers -/
end
section
variable {prog : Program} {w : World} {A : Around} {E : Value → Shared → Prop} {s : Shared}
end
end L2
set_option Elab.async false
set_option linter.all false
set_option maxRecDepth 100000
namespace L2
open PySem PySem.Spec PyProof.Rows
/-! reversed(list), walked -/
section
variable {X : Cx} {c : Ct} {tg : Expr} {pos p : Pos}
end
/-! texts -/
section
variable {X : Cx} {c : Ct} {e o : Expr} {k k2 : Kd} {f g : FE} {pos p p2 apos : Pos}
end
end L2
set_option Elab.async false
set_option linter.all false
set_option maxRecDepth 100000
namespace L2
open PySem PySem.Spec PyProof.Rows
section
open PySem.SeqAt
open PySem.AutoSeq1 (wpAny_loadPart')
open PySem.MeetsSeq PySem.MeetsSeq2 PySem.MeetsSeq3
end
section
variable {X : Cx} {c : Ct} {e o : Expr} {k k2 : Kd} {f g : FE} {pos p p2 apos : Pos}
end
end L2
set_option Elab.async false
set_option linter.all false
set_option maxRecDepth 100000
namespace L2
open PySem PySem.Spec PyProof.Rows
/-! ### a told list of new lists: its lists are changed, and then it is let go -/
theorem sqT_lf {K : PySem.W.Frag} {F G : Hp} (h : ∀ t o, F t = some o → isLO (some o) = false → G t = some o) {a : Addr} {xs : List V} (s : SqT K F a xs) : SqT K G a xs := by
  rcases s with (s | ⟨o, s⟩) | s
  · exact .inl (.inl (h _ _ s rfl))
  · exact .inl (.inr ⟨o, h _ _ s rfl⟩)
  · exact .inr s
theorem sqR_lf {K : PySem.W.Frag} {F G : Hp} (h : ∀ t o, F t = some o → isLO (some o) = false → G t = some o) {a : Addr} {xs : List V} (s : SqR K F a xs) : SqR K G a xs := by
  rcases s with ⟨o, s⟩ | s
  · exact .inl ⟨o, h _ _ s rfl⟩
  · exact .inr s
mutual
theorem rep_lf {K : PySem.W.Frag} {F G : Hp} (h : ∀ t o, F t = some o → isLO (some o) = false → G t = some o) : ∀ {v : V} {d : D}, Rep K F v d → LF d = true → Rep K G v d
  | _, _, .non, _ => .non
  | _, _, .bl, _ => .bl
  | _, _, .int, _ => .int
  | _, _, .str, _ => .str
  | _, _, .tup s r, l => .tup (sqT_lf h s) (reps_lf h r (by unfold LF at l; exact l))
  | _, _, .scr s r, l => .scr (sqR_lf h s) (reps_lf h r (by unfold LF at l; exact l))
  | _, _, .lst s r, l => by unfold LF at l; cases l
theorem reps_lf {K : PySem.W.Frag} {F G : Hp} (h : ∀ t o, F t = some o → isLO (some o) = false → G t = some o) : ∀ {v : List V} {d : List D}, Reps K F v d → LFs d = true → Reps K G v d
  | _, _, .nil, _ => .nil
  | _, _, .cons r rs, l => by
    unfold LFs at l
    rw [Bool.and_eq_true] at l
    exact .cons (rep_lf h r l.1) (reps_lf h rs l.2)
end
section
variable {K : PySem.W.Frag} {c : Ct} {hid : Hid} {ρ : Rho} {σ : St} {H H' : Hp}
/-- a slot is let go -/
theorem SR.setNo (h : SR K c hid ρ σ H) (i : Nat) (u : Option V) : SR K c hid (ρ.set i .no) (σ.set i u) H := by
  refine ⟨h.tr, h.ht, h.h0, h.kp, h.t0, h.c0, h.m0, by simp [h.len], fun j s q => ?_, fun j l z n o1 o2 q1 q2 => ?_⟩
  · by_cases e : j = i
    · subst e
      have lt : j < ρ.length := by
        have := (List.getElem?_eq_some_iff.mp q).1
        simpa using this
      rw [List.getElem?_set_self lt] at q
      cases q
      trivial
    · rw [List.getElem?_set_ne (Ne.symm e)] at q
      have w := h.sl j s q
      have es : (σ.set i u)[j]? = σ[j]? := List.getElem?_set_ne (Ne.symm e)
      cases s with
      | no => trivial
      | v d => obtain ⟨x, h1, h2⟩ := w; exact ⟨x, es.trans h1, h2⟩
      | own ds => obtain ⟨a, xs, h1, h2⟩ := w; exact ⟨a, xs, es.trans h1, h2⟩
      | arg ds => obtain ⟨a, xs, h1, h2⟩ := w; exact ⟨a, xs, es.trans h1, h2⟩
      | ob b => obtain ⟨a, h1, h2⟩ := w; exact ⟨a, es.trans h1, h2⟩
  · have nj : ∀ m, Ow (ρ.set i .no)[m]? → m ≠ i := fun m o e => by
      subst e
      by_cases lt : m < ρ.length
      · rw [List.getElem?_set_self lt] at o; exact o
      · rw [List.getElem?_eq_none (by simpa using lt)] at o; exact o
    have e1 := nj j o1
    have e2 := nj l o2
    rw [List.getElem?_set_ne (Ne.symm e1)] at o1 q1
    rw [List.getElem?_set_ne (Ne.symm e2)] at o2 q2
    exact h.ap j l z n o1 o2 q1 q2
theorem set_id {α : Type} {l : List α} {i : Nat} {x : α} (h : l[i]? = some x) : l.set i x = l := by
  obtain ⟨h1, h2⟩ := List.getElem?_eq_some_iff.mp h
  subst h2
  exact List.set_getElem_self h1
theorem SR.drop (h : SR K c hid ρ σ H) (i : Nat) : SR K c hid (ρ.set i .no) σ H := by
  by_cases lt : i < σ.length
  · have := h.setNo i σ[i]
    rwa [set_id (List.getElem?_eq_getElem lt)] at this
  · have e : ρ.set i .no = ρ := List.set_eq_of_length_le (by rw [← h.len]; omega)
    rw [e]; exact h
end

/-! the loop that changes them -/
section
variable {X : Cx} {body : List Stmt} {pos p1 p2 apos cpos lp : Pos} {x y : Str} {i r : Nat}
end

/-! the block: told, looked at, changed, let go; seen from without nothing has changed -/
section
variable {K : PySem.W.Frag} {c : Ct} {hid hid' : Hid} {ρ ρ' : Rho} {σ σ' : St} {H H' : Hp} {k : Kd} {a : Addr}
def okB : Sl → Bool
  | .ob _ => false
  | _ => true
def hbk (H : Hp) (hid hid' : Hid) : Hid := fun b => hid' b && (hid b || (H b).isNone)
theorem SR.back (h : SR K c hid ρ σ H) (s : SR K ⟨H, hid, c.mu⟩ hid' ρ' σ' H') (ok : ρ'.all okB = true) : SR K c (hbk H hid hid') ρ' σ' H' ∧ Same (vw H hid) (vw H' (hbk H hid hid')) := by
  have less : Same (vw H' hid') (vw H' (hbk H hid hid')) := vw_less fun b q => by unfold hbk at q; rw [Bool.and_eq_true] at q; exact q.1
  refine ⟨⟨fun b q => s.tr b (by unfold hbk at q; rw [Bool.and_eq_true] at q; exact q.1), fun b xs q => s.ht b xs (by unfold hbk at q; rw [Bool.and_eq_true] at q; exact q.1), fun b q => ?_, fun b o q m => s.kp b o (h.kp b o q m) m, fun b o q => let ⟨o2, q2⟩ := h.t0 b o q; s.t0 b o2 q2, h.c0, h.m0, s.len, fun i sl e => ?_, s.ap⟩, fun b o q => ?_⟩
  · have q1 := h.h0 b q
    unfold hbk
    rw [s.h0 b q1, q1]; rfl
  · have w := s.sl i sl e
    have k := List.all_eq_true.mp ok sl (List.mem_of_getElem? e)
    cases sl with
    | no => trivial
    | v d => obtain ⟨x, h1, h2⟩ := w; exact ⟨x, h1, h2.mono less⟩
    | own ds =>
      obtain ⟨a, xs, h1, h2, h3, h4, h5⟩ := w
      have h4 : H a = none := h4
      exact ⟨a, xs, h1, h2, by unfold hbk; rw [h3, h4]; simp, h.fresh0 h4, h5.mono less⟩
    | arg ds =>
      obtain ⟨a, xs, h1, h2, h3, h4, h5⟩ := w
      have h4 : c.mu a = true := h4
      exact ⟨a, xs, h1, h2, by unfold hbk; rw [h3, h.h0 a (h.m0 a h4)]; rfl, h4, h5.mono less⟩
    | ob b => cases k
  · obtain ⟨q1, q2⟩ := vw_some.mp q
    have m : c.mu b = false := by
      cases e : c.mu b with
      | false => rfl
      | true => rw [h.h0 b (h.m0 b e)] at q1; cases q1
    exact vw_some.mpr ⟨by unfold hbk; rw [q1, q2]; simp, s.kp b o q2 m⟩
theorem Ret.back {v : V} {d : D} (h : SR K c hid ρ σ H) (R : Ret K ⟨H, hid, c.mu⟩ k ρ' H' v d) : Ret K c k ρ' H' v d where
  kp := fun b o q m => R.kp b o (h.kp b o q m) m
  val := by
    have hv := R.val
    have h0 := h.h0
    cases k with
    | n =>
      obtain ⟨a, xs, ds, e1, e2, e3, e4, e5⟩ := hv
      refine ⟨a, xs, ds, e1, e2, h.fresh0 e3, e4, e5.mono (vw_less fun b q => ?_)⟩
      unfold hadd at q ⊢
      rw [Bool.or_eq_true] at q ⊢
      exact q.imp (h0 b) id
    | b => exact Rep.mono (vw_less fun b q => h0 b q) hv
    | s => exact Rep.mono (vw_less fun b q => h0 b q) hv
  arg := fun i bs e => by
    obtain ⟨a, xs, h1, h2, h3⟩ := R.arg i bs e
    refine ⟨a, xs, h1, h2, h3.mono (vw_less fun b q => ?_)⟩
    have h0 := h.h0
    unfold hret at q ⊢
    split at q
    · unfold hadd at q ⊢
      rw [Bool.or_eq_true] at q ⊢
      exact q.imp (h0 b) id
    · exact h0 b q
end
section
variable {X : Cx} {c : Ct} {k : Kd} {st s1 s2 : Stmt} {sts rest : List Stmt} {t u : FS}
end
/-! x = f(..) where f is handed no list: all lists in the answer are new -/
section
variable {X : Cx} {c : Ct} {k : Kd} {e : Expr} {es : List Expr} {pos pos' p cpos : Pos} {x y : Str} {ps : List Str} {j n i : Nat}
end
end L2
set_option Elab.async false
set_option linter.all false
set_option maxRecDepth 100000
namespace L2
open PySem PySem.Spec PyProof.Rows
/-! ### f'{i}s{j}' of two whole numbers, text[i], what is left out -/
section
variable {X : Cx} {c : Ct} {e e1 e2 : Expr} {k k1 k2 : Kd} {f g : FE} {pos p1 p2 p3 : Pos} {j : Nat}
end
end L2
set_option Elab.async false
set_option linter.all false
set_option maxRecDepth 100000
namespace L2
open PySem PySem.Spec PyProof.Rows
/-! ### [.. for .. in .. if ..] whose items or whose source change a held list -/
section
variable {K : PySem.W.Frag} {c : Ct} {hid1 hid2 hidD : Hid} {ρ ρ2 ρ3 : Rho} {σ σ2 : St} {H H' : Hp}
end
section
variable {X : Cx} {c : Ct} {elt tg iter : Expr} {ifs : List Expr} {scope : Scope} {pos spos py : Pos} {N' : List Str} {m : Nat} {gi : GA} {g : FG} {p : FT} {f : GE} {y : Str}
end
end L2
set_option Elab.async false
set_option linter.all false
set_option maxRecDepth 100000
namespace L2
open PySem PySem.Spec PyProof.Rows
/-! ### xs[::-1] of a list; a slice of what a call with effects tells -/
section
variable {X : Cx} {c : Ct} {e st : Expr} {k : Kd} {te : TE} {ts : TO} {f g : FE} {pos p2 : Pos} {lo hi : Option Expr} {l u : FO}
end
end L2
set_option Elab.async false
set_option linter.all false
set_option maxRecDepth 100000
namespace L2
open PySem PySem.Spec PyProof.Rows
/-! ### a dict held alone whose keys are tuples of ints (VD, with other keys) -/
def getT (i : Nat) (ρ : Rho) : Option (List ((List Key) × D)) := match ρ[i]? with
  | some (.ob (.dT kvs)) => some kvs
  | _ => none
theorem getT_some {i : Nat} {ρ : Rho} {kvs : List ((List Key) × D)} (h : getT i ρ = some kvs) : ρ[i]? = some (.ob (.dT kvs)) := by
  unfold getT at h
  split at h
  · cases h; assumption
  · cases h
def valT (kvs : List ((List Key) × D)) (k : List Key) : Option D := (kvs.find? fun kv => decide (kv.1 = k)).map (·.2)
def putT (kvs : List ((List Key) × D)) (k : List Key) (d : D) : List ((List Key) × D) :=
  if (kvs.any fun kv => decide (kv.1 = k)) = true then kvs.map (fun kv => if kv.1 = k then (kv.1, d) else kv) else kvs ++ [(k, d)]
def KRt (K : PySem.W.Frag) (F : Hp) (us : List ((List Key) × V)) (kvs : List ((List Key) × D)) : Prop := us.map (·.1) = kvs.map (·.1) ∧ Reps K F (us.map (·.2)) (kvs.map (·.2))
theorem KRt.inv {K : PySem.W.Frag} {F : Hp} : ∀ {us : List ((List Key) × V)} {kvs : List ((List Key) × D)}, KRt K F us kvs → (us = [] ∧ kvs = []) ∨ ∃ k v us' d kvs', us = (k, v) :: us' ∧ kvs = (k, d) :: kvs' ∧ Rep K F v d ∧ KRt K F us' kvs'
  | [], [], _ => .inl ⟨rfl, rfl⟩
  | [], _ :: _, h => by cases h.1
  | _ :: _, [], h => by cases h.1
  | (k, v) :: us, (k', d) :: kvs, h => by
    obtain ⟨h1, h2⟩ := h
    rw [List.map_cons, List.map_cons] at h1 h2
    injection h1 with e1 e2
    cases h2 with
    | cons r rs =>
      have e1 : k = k' := e1
      subst e1
      exact .inr ⟨k, v, us, d, kvs, rfl, rfl, r, e2, rs⟩
theorem KRt.val {K : PySem.W.Frag} {F : Hp} (k : List Key) : ∀ {us : List ((List Key) × V)} {kvs : List ((List Key) × D)}, KRt K F us kvs → (valV us k = none ∧ valT kvs k = none) ∨ ∃ v d, valV us k = some v ∧ valT kvs k = some d ∧ Rep K F v d := by
  intro us
  induction us with
  | nil =>
    intro kvs h
    rcases h.inv with ⟨_, rfl⟩ | ⟨_, _, _, _, _, e, _⟩
    · exact .inl ⟨rfl, rfl⟩
    · cases e
  | cons p us ih =>
    intro kvs h
    rcases h.inv with ⟨e, _⟩ | ⟨k', v, us', d, kvs', e, rfl, r, rs⟩
    · cases e
    · cases e
      by_cases ek : k' = k
      · exact .inr ⟨v, d, valV_pos ek, by simp [valT, List.find?_cons, ek], r⟩
      · have e1 : valV ((k', v) :: us) k = valV us k := valV_neg ek
        have e2 : valT ((k', d) :: kvs') k = valT kvs' k := by simp [valT, List.find?_cons, ek]
        rw [e1, e2]
        exact ih rs
theorem KRt.any {K : PySem.W.Frag} {F : Hp} (k : List Key) {us : List ((List Key) × V)} {kvs : List ((List Key) × D)} (h : KRt K F us kvs) : (us.any fun kv => decide (kv.1 = k)) = kvs.any fun kv => decide (kv.1 = k) := by
  have e1 : (us.any fun kv => decide (kv.1 = k)) = (us.map (·.1)).any fun x => decide (x = k) := by rw [List.any_map]; rfl
  have e2 : (kvs.any fun kv => decide (kv.1 = k)) = (kvs.map (·.1)).any fun x => decide (x = k) := by rw [List.any_map]; rfl
  rw [e1, e2, h.1]
theorem KRt.cons {K : PySem.W.Frag} {F : Hp} {k : List Key} {v : V} {d : D} {us : List ((List Key) × V)} {kvs : List ((List Key) × D)} (r : Rep K F v d) (h : KRt K F us kvs) : KRt K F ((k, v) :: us) ((k, d) :: kvs) := ⟨by rw [List.map_cons, List.map_cons, h.1], .cons r h.2⟩
theorem KRt.repl {K : PySem.W.Frag} {F : Hp} (k : List Key) {v : V} {d : D} (r : Rep K F v d) : ∀ {us : List ((List Key) × V)} {kvs : List ((List Key) × D)}, KRt K F us kvs → KRt K F (us.map (fun kv => if kv.1 = k then (kv.1, v) else kv)) (kvs.map (fun kv => if kv.1 = k then (kv.1, d) else kv)) := by
  intro us
  induction us with
  | nil =>
    intro kvs h
    rcases h.inv with ⟨_, rfl⟩ | ⟨_, _, _, _, _, e, _⟩
    · exact h
    · cases e
  | cons p us ih =>
    intro kvs h
    rcases h.inv with ⟨e, _⟩ | ⟨k', v', us', d', kvs', e, rfl, r', rs⟩
    · cases e
    · cases e
      rw [List.map_cons, List.map_cons]
      by_cases ek : k' = k
      · rw [if_pos ek, if_pos ek]; exact KRt.cons r (ih rs)
      · rw [if_neg ek, if_neg ek]; exact KRt.cons r' (ih rs)
theorem KRt.put {K : PySem.W.Frag} {F : Hp} (k : List Key) {v : V} {d : D} (r : Rep K F v d) {us : List ((List Key) × V)} {kvs : List ((List Key) × D)} (h : KRt K F us kvs) : KRt K F (putK us k v) (putT kvs k d) := by
  unfold putK putT
  rw [h.any k]
  split
  · exact h.repl k r
  · refine ⟨by rw [List.map_append, List.map_append, h.1]; rfl, ?_⟩
    rw [List.map_append, List.map_append]
    exact h.2.append (.cons r .nil)
theorem KRt.len {K : PySem.W.Frag} {F : Hp} {us : List ((List Key) × V)} {kvs : List ((List Key) × D)} (h : KRt K F us kvs) : us.length = kvs.length := by
  have := congrArg List.length h.1
  simpa using this
section
variable {K : PySem.W.Frag} {c : Ct} {hid : Hid} {ρ : Rho} {σ : St} {H : Hp} {a : Addr}
theorem SR.dictT (h : SR K c hid ρ σ H) {i : Nat} {kvs : List ((List Key) × D)} (e : getT i ρ = some kvs) : ∃ a us, σ[i]? = some (some (.ref a)) ∧ hid a = true ∧ c.H₀ a = none ∧ H a = some (.dT us) ∧ KRt K (vw H hid) us kvs := by
  obtain ⟨a, h1, ⟨h2, h3⟩, us, h4, h5, h6⟩ := h.sl i _ (getT_some e)
  exact ⟨a, us, h1, h2, h3, h4, h5, h6⟩
/-- the dict at slot i is changed -/
theorem SR.putDT {i : Nat} {kvs kvs' : List ((List Key) × D)} {us' : List ((List Key) × V)} (h : SR K c hid ρ σ H) (hg : getT i ρ = some kvs) (ha : σ[i]? = some (some (.ref a))) (r : KRt K (vw H hid) us' kvs') : SR K c hid (ρ.set i (.ob (.dT kvs'))) σ (upd H a (.dT us')) := by
  obtain ⟨a1, us, h1, h2, h3, h4, h5⟩ := h.dictT hg
  rw [ha] at h1; cases h1
  have lt : i < ρ.length := (List.getElem?_eq_some_iff.mp (getT_some hg)).1
  have vv : vw (upd H a (.dT us')) hid = vw H hid := vw_upd h2
  have tr' : ∀ b o, H b = some o → ∃ o2, (upd H a (.dT us')) b = some o2 := fun b o q => by
    by_cases e : b = a
    · subst e; exact ⟨_, upd_same⟩
    · exact ⟨o, by rw [upd_ne e]; exact q⟩
  have owi : Ow ρ[i]? := by rw [getT_some hg]; trivial
  have ne : ∀ (j : Nat) (s : Sl) (a' : Addr), j ≠ i → ρ[j]? = some s → Ow (some s) → σ[j]? = some (some (.ref a')) → a' ≠ a := fun j s a' n e o q w => by
    subst w
    exact h.ap j i a' n (by rw [e]; exact o) owi q ha
  have ows : ∀ j : Nat, Ow (ρ.set i (.ob (.dT kvs')))[j]? → Ow ρ[j]? := fun j o => by
    by_cases e : j = i
    · subst e; exact owi
    · rw [List.getElem?_set_ne (Ne.symm e)] at o; exact o
  refine ⟨fun b hb => let ⟨o, q⟩ := h.tr b hb; tr' b o q, fun b xs hb q => by
    by_cases e : b = a
    · subst e; rw [upd_same] at q; cases q
    · rw [upd_ne e] at q; exact h.ht b xs hb q, h.h0, fun b o q m => ?_, fun b o q => let ⟨o2, q2⟩ := h.t0 b o q; tr' b o2 q2, h.c0, h.m0, by simp [h.len], fun j s e => ?_, fun j l z n o1 o2 => h.ap j l z n (ows j o1) (ows l o2)⟩
  · rw [upd_ne (ne_of_none q h3)]; exact h.kp b o q m
  · by_cases ej : j = i
    · subst ej
      rw [List.getElem?_set_self lt] at e
      cases e
      exact ⟨a, ha, ⟨h2, h3⟩, us', upd_same, r.1, by rw [vv]; exact r.2⟩
    · rw [List.getElem?_set_ne (Ne.symm ej)] at e
      have z := h.sl j s e
      cases s with
      | no => trivial
      | v d => obtain ⟨x, h1, h2⟩ := z; exact ⟨x, h1, by rw [vv]; exact h2⟩
      | own ds => obtain ⟨a', xs, h1, h2, h3, h4, h5⟩ := z; exact ⟨a', xs, h1, by rw [upd_ne (ne j _ a' ej e trivial h1)]; exact h2, h3, h4, by rw [vv]; exact h5⟩
      | arg ds => obtain ⟨a', xs, h1, h2, h3, h4, h5⟩ := z; exact ⟨a', xs, h1, by rw [upd_ne (ne j _ a' ej e trivial h1)]; exact h2, h3, h4, by rw [vv]; exact h5⟩
      | ob b => obtain ⟨a', h1, h2⟩ := z; exact ⟨a', h1, h2.mono (fun ow o q => by rw [upd_ne (ne j _ a' ej e ow h1)]; exact q) (by rw [vv]; exact Same.refl _) fun _ q => q⟩
end

/-! ### a key that is a value: a tuple of ints -/
def keyT : D → Option (List Int)
  | .tup ds => intsD ds
  | _ => none
theorem keyT_some {d : D} {ns : List Int} (h : keyT d = some ns) : d = .tup (ns.map D.int) := by
  unfold keyT at h
  split at h
  · rw [intsD_eq h]
  · cases h
theorem repsI_eq {K : PySem.W.Frag} {F : Hp} : ∀ {xs : List V} {ns : List Int}, Reps K F xs (ns.map D.int) → xs = (ns.map Sum.inl).map kV
  | _, [], h => by cases h; rfl
  | _, n :: ns, h => by
    cases h with
    | cons r rs => cases r; rw [repsI_eq rs]; rfl
section
variable {X : Cx} {pins : List (Addr × Obj)} {σ : St} {H : Hp} {s : Shared} {a b : Addr} {A : Around} {E : Value → Shared → Prop}
theorem key_sq {ks : List Key} (I : Inv X pins σ H s) (h : SqT X.K H b (ks.map kV)) : (tupleKind (mixKind X.prog X.w)).is s.heap ks b := by
  obtain ⟨its, r, ⟨o, h1, h2, n, h3⟩, _⟩ := I.tuple h
  exact ⟨o, its.toArray, n, h1, h2, h3, by simpa using items_are r⟩
theorem dT_get {kvs : List (List Key × V)} {k : List Key} {v : V} {Q : Value → Shared → Prop} (hu : A.units + 1 < cLine) (I : Inv X pins σ H s) (e : H a = some (.dT kvs)) (eb : SqT X.K H b (k.map kV)) (l : valV kvs k = some v)
    (h : ∀ w' s', Inv X pins σ H s' → RelV v w' → Q w' s') : wpAny (model X.prog X.w) A (getItem (.ref a) (.ref b)) Q E s := by
  obtain ⟨z, hd, xs, rel, dd⟩ := dt_of I.hok e
  obtain ⟨w', hw, rw'⟩ := RelO.some_of (v := v) (o := (atKey xs k).map (·.2)) (by rw [← l]; exact rel.val k)
  obtain ⟨p, hp, hp2⟩ := Option.map_eq_some_iff.mp hw
  refine wpAny_getItem_heap (tupleKind_room_in1 hu) (key_sq I eb) dd hp ?_
  rw [hp2]
  exact h w' _ (I.tok _) rw'
theorem dT_in {kvs : List (List Key × V)} {k : List Key} {Q : Value → Shared → Prop} (hu : A.units + 1 < cLine) (I : Inv X pins σ H s) (e : H a = some (.dT kvs)) (eb : SqT X.K H b (k.map kV))
    (h : ∀ s', Inv X pins σ H s' → Q (.bool (valV kvs k).isSome) s') : wpAny (model X.prog X.w) A (compareOp .In (.ref b) (.ref a)) Q E s := by
  obtain ⟨z, hd, xs, rel, dd⟩ := dt_of I.hok e
  refine wpAny_in_heap (tupleKind_room_in1 hu) (key_sq I eb) hd dd ?_
  have q := (rel.val k).isSome_eq
  rw [Option.isSome_map] at q
  rw [← q]
  exact h _ (I.tok _)
end
section
variable {X : Cx} {o i : Expr} {pos : Pos} {td ty : TE}
def tTIx (K : PySem.W.Frag) (td ty : TE) : TE := fun σ H Q => td σ H fun x H1 => ty σ H1 fun y H2 => ∃ a b kvs k v, x = .ref a ∧ y = .ref b ∧ H2 a = some (.dT kvs) ∧ SqT K H2 b (k.map kV) ∧ valV kvs k = some v ∧ Q v H2
def tTIn (K : PySem.W.Frag) (ty td : TE) : TE := fun σ H Q => ty σ H fun y H1 => td σ H1 fun x H2 => ∃ a b kvs k, x = .ref a ∧ y = .ref b ∧ H2 a = some (.dT kvs) ∧ SqT K H2 b (k.map kV) ∧ Q (.bl (valV kvs k).isSome) H2
theorem pe_tix (hu : X.A.units + 1 < cLine) (ho : PE X o td) (hi : PE X i ty) (hs : NoSl i) : PE X (.Subscript o i pos) (tTIx X.K td ty) := by
  intro pins s σ H Q I h
  refine subD_of PySem.F.slot_dict_getitem.lookup hs (thn (ho pins s σ H _ I h) fun u s1 ⟨x, H1, I1, rx, q1⟩ => thn (hi pins s1 σ H1 _ I1 q1) fun iv s2 ⟨y, H2, I2, ry, a, b, kvs, k, v, ex, ey, g1, g2, g3, q2⟩ => ?_)
  subst ex ey
  obtain rfl : u = Value.ref a := rx
  obtain rfl : iv = Value.ref b := ry
  refine ⟨?_, dT_get hu I2 g1 g2 g3 fun w' s3 I3 rw' => ⟨v, H2, I3, rw', q2⟩⟩
  obtain ⟨_, _, xs, _, dd⟩ := dt_of I2.hok g1
  exact dd.typeIs
theorem pc_tin (hu : X.A.units + 1 < cLine) (hi : PE X i ty) (ho : PE X o td) : PC X .In i o (tTIn X.K ty td) := by
  intro pins s σ H Q I h
  refine thn (hi pins s σ H _ I h) fun iv s1 ⟨y, H1, I1, ry, q1⟩ => thn (ho pins s1 σ H1 _ I1 q1) fun u s2 ⟨x, H2, I2, rx, a, b, kvs, k, ex, ey, g1, g2, q2⟩ => ?_
  subst ex ey
  obtain rfl : u = Value.ref a := rx
  obtain rfl : iv = Value.ref b := ry
  exact dT_in hu I2 g1 g2 fun s3 I3 => ⟨.bl (valV kvs k).isSome, H2, I3, rfl, q2⟩
end
section
variable {X : Cx} {c : Ct} {k k1 k2 : Kd} {e f ev : Expr} {es : List Expr} {fe ff fk fv : FE} {fs : FA} {pos pos' py apos cpos p : Pos} {x y : Str} {x1 : _}
def iK (ns : List Int) : List Key := ns.map Sum.inl
/-- x = {}, to have tuples for keys -/
def dnewT (i : Nat) : FS := fun ρ => .nx (ρ.set i (.ob (.dT [])))
theorem ds_dnewT (i : Nat) (hn : X.N.Nodup) (hi : X.N[i]? = some x := by rfl) (hx : Loc X.env.scope x := by first | exact Or.inl rfl | exact Or.inr rfl) (hs : swapsWith (.Dict [] [] p) (some (.Name x pos')) pos.line X.env = pure false := by rfl)
    (hf : X.fn x = true ∨ X.env.scope.names.lookup x = some .local := by first | exact .inl rfl | exact .inr rfl | assumption) : DS X c k (.Assign [.Name x pos'] (.Dict [] [] p) pos) (dnewT i) := fun ρ => PS.imp (ps_set hn hi hx pe_dnewT hs hf) fun D σ H ⟨hid, sr, q⟩ => by
  intro a ha
  have sm := same_new ha (.dT [])
  have nf := sr.fresh ha
  refine q _ _ (hadd hid a) (SR.setD (a := a) (b := .dT []) (sr.hide sm ha upd_same) ⟨⟨hadd_self, sr.fresh0 ha⟩, [], upd_same, rfl, .nil⟩ (sr.notOw nf) i) fun b o w => ?_
  obtain ⟨w1, w2⟩ := vw_some.mp w
  refine vw_some.mpr ⟨?_, sm b o w2⟩
  unfold hadd
  rw [w1]
  have : b ≠ a := ne_of_none w2 ha
  simp [this]
/-- x[e1, e2] = v -/
def dputT (i : Nat) (fs : FA) (fv : FE) : FS := fun ρ => match getT i ρ with
  | some kvs => (match fv ρ with
    | some d => (match (fs ρ).bind intsD with
      | some ns => if kvs.length ≤ 1000 ∧ ns.length ≤ 1000 then .nx (ρ.set i (.ob (.dT (putT kvs (iK ns) d)))) else .no
      | none => .no)
    | none => .no)
  | none => .no
theorem ds_dputT (i : Nat) (hu : X.A.units + 1 < cLine) (hk : DA X c es fs) (hv : DP X c .s ev fv) (hN : X.N[i]? = some y := by rfl) (hv' : Vis X.env.scope y := by first | exact Or.inl rfl | exact Or.inr (Or.inl rfl) | exact Or.inr (Or.inr rfl)) (hd : (y == ("__debug__" : Str)) = false := by decide)
    (hcd : (y == ("__classdict__" : Str)) = false := by decide) (hs : swapsWith ev (some (.Subscript (.Name y py) (.Tuple es x1 p) pos')) pos.line X.env = pure false := by rfl) :
    DS X c k (.Assign [.Subscript (.Name y py) (.Tuple es x1 p) pos'] ev pos) (dputT i fs fv) := fun ρ => PS.imp (ps_dput hu (pv i hN hv' hd hcd) (pe_tup (exPA fun hid => hk hid ρ)) (exPE fun hid => hv hid ρ) hs) fun D σ H ⟨hid, sr, q⟩ => by
  unfold dputT at q
  split at q
  · rename_i kvs e0
    split at q
    · rename_i d e1
      split at q
      · rename_i ns e2
        split at q
        · rename_i hz
          obtain ⟨dk, e3, e4⟩ := Option.bind_eq_some_iff.mp e2
          have e5 := intsD_eq e4
          subst e5
          obtain ⟨a, us, a1, a2, a3, a4, a5⟩ := sr.dictT e0
          refine ⟨hid, sr, d, e1, fun v H1 s1 r1 => ⟨.ref a, a1, hid, sr.ext s1, _, e3, fun zs H2 s2 r2 => ⟨?_, fun t ht => ?_⟩⟩⟩
          · have := r2.length
            rw [List.length_map] at this
            rw [this, sizeLine_eq]; omega
          have i1 := repsI_eq r2
          subst i1
          have s3 := same_new ht (.tup ((ns.map Sum.inl).map kV))
          have s13 := (s1.trans s2).trans s3
          have hh : (upd H2 t (.tup ((ns.map Sum.inl).map kV))) a = some (.dT us) := s13 _ _ a4
          refine ⟨a, _, rfl, DPut.t (k := iK ns) hh upd_same (by rw [a5.len]; exact Nat.lt_of_le_of_lt hz.1 (by decide)), ?_⟩
          have r1' : Rep X.K (vw H1 hid) v d := r1
          refine q _ _ hid ((sr.ext s13).putDT e0 a1 (KRt.put (iK ns) (r1'.mono (vw_same (s2.trans s3))) ⟨a5.1, a5.2.mono (vw_same s13)⟩)) ?_
          rw [vw_upd a2]
          exact vw_same s13
        · exact q.elim
      · exact q.elim
    · exact q.elim
  · exact q.elim
/-- x[k] -/
def dixT (i : Nat) (fk : FE) : FE := fun ρ => (getT i ρ).bind fun kvs => ((fk ρ).bind keyT).bind fun k => valT kvs (iK k)
theorem rk_key {hid : Hid} {H' : Hp} {z : V} {ns : List Int} (h : Rep1 X.K H' (vw H' hid) z (.tup (ns.map D.int))) : ∃ b, z = .ref b ∧ SqT X.K H' b ((iK ns).map kV) := by
  obtain ⟨b, xs, rfl, _, h2, h3⟩ := h.tup
  refine ⟨b, rfl, ?_⟩
  rw [← show xs = (iK ns).map kV from repsI_eq h3]
  exact h2
theorem dp_dixT (i : Nat) (hu : X.A.units + 1 < cLine) (he : DP X c k1 e fe) (hs : NoSl e) (hN : X.N[i]? = some y := by rfl) (hv' : Vis X.env.scope y := by first | exact Or.inl rfl | exact Or.inr (Or.inl rfl) | exact Or.inr (Or.inr rfl)) (hd : (y == ("__debug__" : Str)) = false := by decide)
    (hcd : (y == ("__classdict__" : Str)) = false := by decide) : DP X c .s (.Subscript (.Name y py) e pos) (dixT i fe) := fun hid ρ =>
  PE.imp (pe_tix hu (pv i hN hv' hd hcd) (he hid ρ) hs) fun σ H Q ⟨sr, d, hd, q⟩ => by
    obtain ⟨kvs, e0, hd⟩ := Option.bind_eq_some_iff.mp hd
    obtain ⟨kk, e1, hd⟩ := Option.bind_eq_some_iff.mp hd
    obtain ⟨dk, e3, e4⟩ := Option.bind_eq_some_iff.mp e1
    have e5 := keyT_some e4
    subst e5
    obtain ⟨a, us, a1, a2, a3, a4, a5⟩ := sr.dictT e0
    refine ⟨.ref a, a1, sr, _, e3, fun z H2 s2 r2 => ?_⟩
    obtain ⟨b, rfl, hb⟩ := rk_key (RK.b k1 r2 fun a n => sr.fresh n)
    have hh : H2 a = some (.dT us) := s2 _ _ a4
    have rr : KRt X.K (vw H2 hid) us kvs := ⟨a5.1, a5.2.mono (vw_same s2)⟩
    rcases rr.val (iK kk) with ⟨v1, v2⟩ | ⟨v, d', v1, v2, v3⟩
    · rw [v2] at hd; cases hd
    · rw [v2] at hd; cases hd
      exact ⟨a, b, us, iK kk, v, rfl, rfl, hh, hb, v1, q _ H2 s2 v3⟩
/-- k in x -/
def dinT (i : Nat) (fk : FE) : FT := fun ρ => (getT i ρ).bind fun kvs => ((fk ρ).bind keyT).map fun k => (valT kvs (iK k)).isSome
theorem dt_dinT (i : Nat) (hu : X.A.units + 1 < cLine) (he : DP X c k1 e fe) (hN : X.N[i]? = some y := by rfl) (hv' : Vis X.env.scope y := by first | exact Or.inl rfl | exact Or.inr (Or.inl rfl) | exact Or.inr (Or.inr rfl)) (hd : (y == ("__debug__" : Str)) = false := by decide)
    (hcd : (y == ("__classdict__" : Str)) = false := by decide) (hm : behindInMarks .In (.Name y py) = false := by rfl) : DT X c (.Compare e [.In] [.Name y py] pos) (dinT i fe) := fun hid ρ =>
  PT.imp (pt_cmp (pc_tin hu (he hid ρ) (pv i hN hv' hd hcd)) hm) fun σ H Q ⟨sr, d, hd, q⟩ => by
    obtain ⟨kvs, e0, hd⟩ := Option.bind_eq_some_iff.mp hd
    obtain ⟨kk, e1, rfl⟩ := Option.map_eq_some_iff.mp hd
    obtain ⟨dk, e3, e4⟩ := Option.bind_eq_some_iff.mp e1
    have e5 := keyT_some e4
    subst e5
    obtain ⟨a, us, a1, a2, a3, a4, a5⟩ := sr.dictT e0
    refine ⟨sr, _, e3, fun z H2 s2 r2 => ⟨.ref a, a1, ?_⟩⟩
    obtain ⟨b, rfl, hb⟩ := rk_key (RK.b k1 r2 fun a n => sr.fresh n)
    have hh : H2 a = some (.dT us) := s2 _ _ a4
    have rr : KRt X.K (vw H2 hid) us kvs := ⟨a5.1, a5.2.mono (vw_same s2)⟩
    refine ⟨a, b, us, iK kk, rfl, rfl, hh, hb, _, rfl, ?_⟩
    rcases rr.val (iK kk) with ⟨v1, v2⟩ | ⟨v, d', v1, v2, v3⟩
    · rw [v1]; rw [v2] at q; exact q H2 s2
    · rw [v1]; rw [v2] at q; exact q H2 s2
end
end L2
set_option Elab.async false
set_option linter.all false
set_option maxRecDepth 100000
namespace L2
open PySem PySem.W PySem.Spec PyProof.Rows
/-! ### sorted(d) of a dict whose keys are tuples -/
def RawAt (h : Heap) (d : Addr) (es : Array DictEntry) (ep : Nat) : Prop := ∃ o, h.get? d = some o ∧ o.ExactDict ∧ o.data = .dict es ep
section
variable {prog : Program} {w : World} {A : Around} {E : Value → Shared → Prop} {s : Shared} {d it : Addr} {es : Array DictEntry} {ep i : Nat}
theorem RawAt.ty (h : RawAt s.heap d es ep) : s.TypeIs (.ref d) "dict" := let ⟨o, h1, h2, _⟩ := h; ⟨o, h1, h2.1⟩
theorem RawAt.lt {h : Heap} (x : RawAt h d es ep) : d < h.objs.size := let ⟨_, h1, _⟩ := x; Heap.lt_size h1
theorem RawAt.to {h h' : Heap} (x : RawAt h d es ep) (k : ∀ o, h.get? d = some o → h'.get? d = some o) : RawAt h' d es ep := let ⟨o, h1, r⟩ := x; ⟨o, k o h1, r⟩
theorem raw_iter {Q : Value → Shared → Prop} (lo : (d == sysModules) = false) (x : RawAt s.heap d es ep)
    (q : Q (.ref s.heap.objs.size) { s with heap := s.heap.push { cls := .type "dict_keyiterator", data := .fields #[.ref d, .int 0 0, .int es.size 0, .int ep 0] } }) : wpAny (model prog w) A (pyIter (.ref d)) Q E s := by
  have ty := x.ty
  obtain ⟨o, g1, g2, g3⟩ := x
  refine wpAny_pyIter_slot ty F.slot_dict_iter (wpAny_call_entry F.slot_dict_iter ty F.entry_dict_iter ?_ (F.args_dict_iter_1 _))
  unfold Builtin.«dict.__iter__»; refine wpAny_bind ?_
  unfold Builtin.Dict.dictSlotNone; refine wpAny_bind (wpAny_notOrdered_dict ty ?_)
  show wpAny _ _ (pure (Value.ref d)) _ _ s; refine wpAny_pure ?_
  show wpAny _ _ (Builtin.Dict.showsAll d >>= _) _ _ s; unfold Builtin.Dict.showsAll
  rw [if_neg (by rw [lo]; exact Bool.false_ne_true)]
  refine wpAny_bind (wpAny_pure (wpAny_bind (wpAny_dictEntries g1 g3 (wpAny_bind (wpAny_dictEpoch g1 g3 ?_)))))
  refine wpAny_bind (wpAny_newObj_type (wpAny_pure ⟨_, rfl, "dict_keyiterator", _, ⟨_, Heap.get?_push_size _ rfl, rfl⟩, F.slot_dict_keyiterator_next.lookup, ?_⟩))
  simpa [rawInt] using q
theorem raw_next {Q : Option Value → Shared → Prop} (hit : s.heap.IsKeyIter it d i es.size ep) (x : RawAt s.heap d es ep) (hi : i < es.size)
    (q : ∀ h', h'.IsKeyIter it d (i + 1) es.size ep → Heap.SameBut it s.heap h' → Q (some es[i].key) { s with heap := h' }) : wpAny (model prog w) A (pyNext (.ref it)) Q E s := by
  obtain ⟨o, k1, k2, k3⟩ := id hit
  obtain ⟨od, g1, g2, g3⟩ := id x
  unfold pyNext; refine wpAny_bind (wpAny_attempt (wpAny_callSpecial?_slot (name := Str.ofString "__next__") hit.typeIs F.slot_dict_keyiterator_next (wpAny_call_entry F.slot_dict_keyiterator_next hit.typeIs F.entry_dict_keyiterator_next ?_ (F.args_dict_keyiterator_next_1 _))))
  refine wpAny_bind (wpAny_pure (wpAny_bind (wpAny_bind ?_)))
  first | refine wpAny_bind (wpAny_typeNameOfWhole_keyiter hit.typeIs (wpAny_pure (wpAny_bind (wpAny_fieldsOf k1 k3 ?_)))) | refine wpAny_bind (wpAny_typeNameOf_keyiter hit.typeIs (wpAny_pure (wpAny_bind (wpAny_fieldsOf k1 k3 ?_))))
  simp only [show Builtin.Dict_items.ownsTuple "dict_keyiterator" = false by decide, Bool.false_eq_true, if_false]
  show wpAny _ _ (if (Value.ref d == Value.none) = true then _ else _) _ _ s; rw [if_neg (show ¬ ((Value.ref d == Value.none) = true) from Bool.false_ne_true)]
  refine wpAny_bind (wpAny_pure (wpAny_bind (wpAny_dictEntries g1 g3 ?_)))
  rw [if_neg (by simp)]
  refine wpAny_bind (wpAny_pure (wpAny_bind (wpAny_dictEpoch g1 g3 ?_)))
  rw [if_neg (by simp)]
  refine wpAny_pure ?_
  simp only [show ¬ ((i : Int) < 0) from by omega, if_false, Int.toNat_natCast, Array.getElem?_eq_getElem hi]
  refine wpAny_bind ?_
  first | refine wpAny_bind (wpAny_typeNameOfWhole_keyiter hit.typeIs (wpAny_pure (wpAny_bind (wpAny_isOneOf_keyiter hit.typeIs ?_)))) | refine wpAny_bind (wpAny_typeNameOf_keyiter hit.typeIs (wpAny_pure (wpAny_bind (wpAny_isOneOf_keyiter hit.typeIs ?_))))
  show wpAny _ _ (setField (.ref it) 1 (rawInt ((i : Int) + 1)) >>= _) _ _ s; refine wpAny_bind (wpAny_setField k1 k3 (by simp) ?_)
  have nx : (s.heap.update it (Obj.mapFields (·.setIfInBounds 1 (rawInt ((i : Int) + 1))))).IsKeyIter it d (i + 1) es.size ep := ⟨_, Heap.get?_update_self _ k1 (Obj.isFreed_of_fields (Obj.data_mapFields k3 _)), (Obj.cls_mapFields ..).trans k2, by rw [Obj.data_mapFields k3]; simp [rawInt]⟩
  refine wpAny_bind (wpAny_holding (wpAny_bind (wpAny_isOneOf_keyiter (s := { s with heap := s.heap.update it (Obj.mapFields (·.setIfInBounds 1 (rawInt ((i : Int) + 1)))) }) nx.typeIs ?_)))
  show wpAny _ _ (pure es[i].key) _ _ _; exact wpAny_pure (wpAny_pure ⟨_, rfl, wpAny_pure (q _ nx (Heap.SameBut.update ..))⟩)
theorem raw_end {Q : Option Value → Shared → Prop} (calm : A.handled = none) (hit : s.heap.IsKeyIter it d es.size es.size ep) (x : RawAt s.heap d es ep)
    (q : ∀ h', Heap.ExtBut it s.heap h' → Q none { s with heap := h' }) : wpAny (model prog w) A (pyNext (.ref it)) Q E s := by
  obtain ⟨o, k1, k2, k3⟩ := id hit
  obtain ⟨od, g1, g2, g3⟩ := id x
  unfold pyNext; refine wpAny_bind (wpAny_attempt (wpAny_callSpecial?_slot (name := Str.ofString "__next__") hit.typeIs F.slot_dict_keyiterator_next (wpAny_call_entry F.slot_dict_keyiterator_next hit.typeIs F.entry_dict_keyiterator_next ?_ (F.args_dict_keyiterator_next_1 _))))
  refine wpAny_bind (wpAny_pure (wpAny_bind (wpAny_bind ?_)))
  first | refine wpAny_bind (wpAny_typeNameOfWhole_keyiter hit.typeIs (wpAny_pure (wpAny_bind (wpAny_fieldsOf k1 k3 ?_)))) | refine wpAny_bind (wpAny_typeNameOf_keyiter hit.typeIs (wpAny_pure (wpAny_bind (wpAny_fieldsOf k1 k3 ?_))))
  simp only [show Builtin.Dict_items.ownsTuple "dict_keyiterator" = false by decide, Bool.false_eq_true, if_false]
  show wpAny _ _ (if (Value.ref d == Value.none) = true then _ else _) _ _ s; rw [if_neg (show ¬ ((Value.ref d == Value.none) = true) from Bool.false_ne_true)]
  refine wpAny_bind (wpAny_pure (wpAny_bind (wpAny_dictEntries g1 g3 ?_)))
  rw [if_neg (by simp)]
  refine wpAny_bind (wpAny_pure (wpAny_bind (wpAny_dictEpoch g1 g3 ?_)))
  rw [if_neg (by simp)]
  refine wpAny_pure ?_
  simp only [show ¬ ((es.size : Int) < 0) from by omega, if_false, Int.toNat_natCast, Array.getElem?_eq_none (Nat.le_refl es.size)]
  refine wpAny_bind ?_
  first | refine wpAny_bind (wpAny_typeNameOfWhole_keyiter hit.typeIs (wpAny_pure ?_)) | refine wpAny_bind (wpAny_typeNameOf_keyiter hit.typeIs (wpAny_pure ?_))
  show wpAny _ _ (setField (.ref it) 0 .none >>= _) _ _ s; refine wpAny_bind (wpAny_setField k1 k3 (by simp) ?_)
  show wpAny _ _ (newExc (.type "StopIteration") [] >>= _) _ _ _; refine wpAny_bind ?_
  simp only [newExc, newTuple]
  refine wpAny_bind (wpAny_newObj_type (wpAny_bind (m := firstArgMember _ _) (wpAny_of_eq (a := Value.none) (by first | rfl | (simp only [firstArgMember]; rfl)) (wpAny_newObj_type ?_ (by size_fits)))) (by size_fits))
  simp only [raiseNew]
  refine wpAny_bind (wpAny_handled ?_)
  rw [show A.in1.handled = none from calm]
  refine wpAny_bind (wpAny_pure (wpAny_throw ?_)); refine wpAny_bind (wpAny_isInstance (T := "StopIteration") (b := true) ⟨_, Heap.get?_push_size _ rfl, rfl⟩ isSubtype_stop ?_)
  exact wpAny_pure (q _ (((Heap.SameBut.update ..).extBut.push _).push _))
theorem raw_walks (calm : A.handled = none) (I : Addr) (ne : d ≠ I) : Walks prog w A I [I, d] [I] es.size (fun i v => ∃ e, es[i]? = some e ∧ v = e.key) (fun i h => h.IsKeyIter I d i es.size ep ∧ RawAt h d es ep) where
  sub := fun b hb => by simp at hb; simp [hb]
  frame := fun _ _ _ st hk => ⟨st.1.at fun o e => hk I (by simp) o e, st.2.to fun o e => hk d (by simp) o e⟩
  item := fun i s Q E hi st hQ => raw_next st.1 st.2 hi fun h' it' sb => hQ _ h' s.toks ⟨_, Array.getElem?_eq_getElem hi, rfl⟩ ⟨it', st.2.to fun o e => sb.extBut d o ne e⟩ fun b o hb e => sb.extBut b o (fun h => hb (by simp [h])) e
  done := fun s Q E st hQ => raw_end calm st.1 st.2 fun h' he' => hQ h' s.toks fun b o hb e => he' b o (fun h => hb (by simp [h])) e
  self := fun _ _ _ _ st hQ => wpAny_pyIter_keyiter st.1 hQ
theorem raw_src (lo : (d == sysModules) = false) : KdlSrc prog w "dict" d d es.size (fun i v => ∃ e, es[i]? = some e ∧ v = e.key) (fun h => RawAt h d es ep) where
  type := fun _ h => h.ty
  there := fun _ h => ⟨h.lt, h.lt⟩
  keep := fun _ _ h hk => h.to fun o e => hk d (.inl rfl) o e
  notList := by decide
  notTuple := by decide
  hint := fun _ _ _ _ h hq => kdl_hint_dict h.ty hq
  iter := fun _ _ hh h => ⟨_, _, fun _ _ hq => raw_iter lo h hq, raw_walks hh _ (Nat.ne_of_lt h.lt), ⟨_, Heap.get?_push_size _ rfl, rfl, rfl⟩, h.to fun o e => Heap.get?_push_of_some _ e⟩
/-- sorted(x) of what is walked -/
theorem sorted_src {T : String} {r : Addr} {us : List Value} {P : Nat → Value → Prop} {OK : Heap → Prop} {Q : Value → Shared → Prop} {G : List Nat → Prop} (src : KdlSrc prog w T r d us.length P OK) (hP : ∀ i v, i < us.length → P i v → us[i]? = some v) (calm : A.handled = none) (good : OK s.heap) (hz : us.length < 64)
    (few : us.length < 2 → G (List.range us.length))
    (many : 2 ≤ us.length → ∀ (g : Heap) (tk : Nat), (∀ c o, s.heap.get? c = some o → g.get? c = some o) → wpAny (model prog w) A.in1.in1 (keyKind' us.toArray) (fun κ t => t = { s with heap := g, toks := tk } ∧
      (kas_sort us.length).kasWp (kas_ask prog w A.in1.in1 κ us) (fun p t' => t' = t ∧ G p.toList) t) (fun _ _ => False) { s with heap := g, toks := tk })
    (fin : ∀ (g : Heap) (tk a e : Nat) (ix : List Nat), (∀ c o, s.heap.get? c = some o → g.get? c = some o) → s.heap.objs.size ≤ a → G ix → g.get? a = some (seqObj "list" (List.toArray (ix.map fun i => us.getD i Value.none)) e) → Q (.ref a) { s with heap := g, toks := tk }) :
    wpAny (model prog w) A (call (.builtin "sorted") [.ref r]) Q E s := by
  refine Calls.call_function_entry kind_sorted plain_sorted entry_sorted (args_sorted1 _) ?_
  unfold Builtin.«sorted»
  refine wpAny_bind (m := checkCount "sorted" 1 1 _) (wpAny_pure (wpAny_bind (gather_src (A := A.in1) src calm good (by rw [sizeLine_eq]; omega) fun g tk acc kg sg0 hacc => ?_)))
  have hus : acc.toList = us := List.ext_getElem? fun i => by
    by_cases hi : i < us.length
    · have h1 : i < acc.size := by rw [hacc.1]; exact hi
      have e3 : acc[i]? = some acc[i] := Array.getElem?_eq_getElem h1
      rw [Array.getElem?_toList, e3, hP i _ hi (hacc.2 i _ e3)]
    · have h1 : ¬ i < acc.toList.length := by rw [Array.length_toList, hacc.1]; exact hi
      rw [List.getElem?_eq_none (by omega), List.getElem?_eq_none (by omega)]
  rw [hus]
  have sg : s.heap.objs.size ≤ g.objs.size := Nat.le_of_lt sg0
  refine wpAny_bind (wpAny_newList ?_ (by rw [sizeLine_eq]; omega))
  have hL : (g.push (seqObj "list" us.toArray 0)).get? g.objs.size = some (seqObj "list" us.toArray 0) := Heap.get?_push_size _ rfl
  show wpAny _ _ _ _ _ { s with heap := g.push (seqObj "list" us.toArray 0), toks := tk }
  have end_ : ∀ ix : List Nat, G ix → Q (.ref g.objs.size) { s with heap := sortedHeap (g.push (seqObj "list" us.toArray 0)) g.objs.size us (List.toArray (ix.map fun i => us.getD i Value.none)), toks := tk } := fun ix hG => by
    obtain ⟨e, he⟩ := sortedHeap_at (out := List.toArray (ix.map fun i => us.getD i Value.none)) hL
    refine fin _ tk g.objs.size e ix (fun c u hu => ?_) sg hG he
    have lt := Heap.lt_size (kg c u hu)
    rw [sortedHeap_old (Nat.ne_of_lt lt) (by rw [size_push']; exact Nat.lt_succ_of_lt lt)]
    exact Heap.get?_push_of_some _ (kg c u hu)
  refine wpAny_bind (wpAny_holding (wpAny_call_entry slot_list_sort ⟨_, hL, rfl⟩ entry_list_sort (sort_asked (P := fun f t => ∃ v, f = .done (.ret v) ∧ wpAny (model prog w) A.in1 (pure (PySem.Fin.done (.ret (Value.ref g.objs.size)))) (fun f t => ∃ v, f = .done (.ret v) ∧ Q v t) E t) hL (by omega) (fun h => ?_) (fun h g' kg' => ?_)) (args_list_sort _)))
  · have e := end_ (List.range us.length) (few h)
    rw [show (List.range us.length).map (fun i => us.getD i Value.none) = us from List.ext_getElem? fun i => by
      by_cases hi : i < us.length
      · simp [hi]
      · simp [hi]] at e
    exact ⟨_, rfl, wpAny_pure ⟨_, rfl, e⟩⟩
  · refine wpAny_mono (many h g' tk fun c u hu => kg' c u (Nat.ne_of_lt (Heap.lt_size (kg c u hu))) (Heap.get?_push_of_some _ (kg c u hu))) (fun κ t ⟨et, ht⟩ => ⟨et, ?_⟩) fun _ _ x => x
    rw [kat_ask_eq rfl] at ht ⊢
    exact kas_wp_mono ht fun p t' ⟨e1, hG⟩ => ⟨e1, _, rfl, wpAny_pure ⟨_, rfl, end_ _ hG⟩⟩
end
/-- keys of a dict, as tuples of ints -/
abbrev KyT (H : Hp) : List V → List (List Int) → Prop := Paired fun y ks => ∃ b, y = .ref b ∧ H b = some (.tup (ks.map V.int))
theorem kyT_of {H : Hp} : ∀ {us : List (List Key × V)} {xs : List (List Key × Addr × Value)} {kss : List (List Int)}, KTd H us xs → us.map (·.1) = kss.map iK → KyT H (xs.map fun x => V.ref x.2.1) kss
  | _, _, [], r, e => by
    cases r with
    | nil => exact .nil
    | cons _ _ => cases e
  | _, _, ks :: kss, r, e => by
    cases r with
    | nil => cases e
    | @cons p q ps qs h t =>
      rw [List.map_cons, List.map_cons] at e
      injection e with e1 e2
      refine .cons ⟨q.2.1, rfl, ?_⟩ (kyT_of t e2)
      rw [h.2.1, e1]
      unfold iK
      rw [List.map_map]; rfl
theorem kyT_get {H : Hp} : ∀ {ys : List V} {kss : List (List Int)} {i : Nat}, KyT H ys kss → i < kss.length → ∃ b, ys.getD i .non = .ref b ∧ H b = some (.tup ((kss.getD i []).map V.int))
  | _, _, _, .nil, e => by simp at e
  | _, _, 0, .cons h _, e => by obtain ⟨b, h1, h2⟩ := h; exact ⟨b, by simpa using h1, by simpa using h2⟩
  | _, _, i + 1, .cons _ r, e => by
    obtain ⟨b, h1, h2⟩ := kyT_get (i := i) r (by simpa using e)
    exact ⟨b, by simpa using h1, by simpa using h2⟩
theorem kyT_pick {H : Hp} {ys : List V} {kss : List (List Int)} (r : KyT H ys kss) : ∀ ix : List Nat, (∀ i ∈ ix, i < kss.length) → KyT H (ix.map fun i => ys.getD i .non) (ix.map fun i => kss.getD i [])
  | [], _ => .nil
  | i :: l, h => .cons (kyT_get r (h i List.mem_cons_self)) (kyT_pick r l fun j hj => h j (List.mem_cons_of_mem _ hj))
theorem kyT_len {H : Hp} {ys : List V} {kss : List (List Int)} (r : KyT H ys kss) : ys.length = kss.length := Paired.length r
theorem refVals : ∀ xs : List (List Key × Addr × Value), Vals (xs.map fun x => V.ref x.2.1) (xs.map fun x => Value.ref x.2.1)
  | [] => .nil
  | _ :: xs => .cons rfl (refVals xs)
theorem intVv : ∀ {ns : List Int} {us : List Value}, Vals (ns.map V.int) us → IntV us ns
  | [], _, h => by cases h; exact .nil
  | _ :: _, _, h => by cases h with | cons h1 h2 => exact .cons h1 (intVv h2)
section
variable {X : Cx}
theorem call_sortedT (hc : X.calm = true) : CallR X (.builtin "sorted") (fun xs H Q => ∃ a us kss, xs = [.ref a] ∧ H a = some (.dT us) ∧ us.map (·.1) = kss.map iK ∧ kss.length < 64 ∧ (∀ k ∈ kss, k ≠ []) ∧
    ∀ l ys, H l = none → KyT H ys (isortG lexB kss) → Q (.ref l) (upd H l (.lst ys))) := by
  intro pins s σ H xs vs Q I r h
  obtain ⟨a, us, kss, rfl, ha, hk, hz, hne, q⟩ := h
  obtain ⟨u, rfl, rx⟩ := vals1 r
  cases rx
  obtain ⟨z, lo, xs, rel, o, es, ep, d1, d2, d3, d4, d5, d6⟩ := dt_of I.hok ha
  have ky := kyT_of rel hk
  have lx : xs.length = kss.length := by
    have := kyT_len ky
    simpa using this
  obtain ⟨its, hits⟩ : ∃ its, its = xs.map fun x => Value.ref x.2.1 := ⟨_, rfl⟩
  have li : its.length = kss.length := by rw [hits, List.length_map, lx]
  have rv : Vals (xs.map fun x => V.ref x.2.1) its := by rw [hits]; exact refVals xs
  have sz : es.size = its.length := by rw [← Array.length_toList, d4, List.length_map, li, lx]
  have raw : RawAt s.heap a es ep := ⟨o, d1, d2, d3⟩
  have gi : ∀ i, i < kss.length → ∃ (b : Addr) (o : Obj) (ts : List Value) (n : Nat), its.getD i Value.none = .ref b ∧ s.heap.get? b = some o ∧ o.cls = .type "tuple" ∧ o.data = .seq ts.toArray n ∧ IntV ts (kss.getD i []) := fun i hi => by
    obtain ⟨b, h1, h2⟩ := kyT_get ky hi
    have r1 := vals_getD rv i
    rw [h1] at r1
    obtain ⟨ts, r', ⟨o, ho, hc, n, hd⟩, _⟩ := I.tuple (.inl (.inl h2))
    exact ⟨b, o, ts, n, r1, ho, hc, hd, intVv r'⟩
  have kt : ∀ (g : Heap), (∀ c o, s.heap.get? c = some o → g.get? c = some o) → ∀ (l : List Value) (ms : List (List Int)), l.length = ms.length → (∀ i, i < ms.length → ∃ (b : Addr) (o : Obj) (ts : List Value) (n : Nat), l.getD i Value.none = .ref b ∧ s.heap.get? b = some o ∧ o.cls = .type "tuple" ∧ o.data = .seq ts.toArray n ∧ IntV ts (ms.getD i [])) → (∀ k ∈ ms, k ≠ []) →
      ∃ fs, KatTups g l fs ∧ fs.length = l.length ∧ ∀ v ∈ fs, ∃ i t, v = Value.int i t := by
    intro g kg l
    induction l with
    | nil => intro ms _ _ _; exact ⟨[], .nil, rfl, fun _ h => nomatch h⟩
    | cons v l ih =>
      intro ms hl hg hk
      cases ms with
      | nil => cases hl
      | cons m ms =>
        obtain ⟨fs, f1, f2, f3⟩ := ih ms (by simpa using hl) (fun i hi => by simpa using hg (i + 1) (by simpa using hi)) fun k hk' => hk k (by simp [hk'])
        obtain ⟨b, o, ts, n, g1, g2, g3, g4, g5⟩ := hg 0 (by simp)
        simp [List.getD] at g1 g5
        subst g1
        cases m with
        | nil => exact absurd rfl (hk [] (by simp))
        | cons x xs =>
          cases g5 with
          | cons y1 y2 =>
            obtain ⟨t, rfl⟩ := y1
            refine ⟨_, KatTups.cons (kg _ _ g2) g3 g4 (by simp; rfl) f1, by simp [f2], fun v hv => ?_⟩
            rcases List.mem_cons.mp hv with rfl | hv
            · exact ⟨_, _, rfl⟩
            · exact f3 v hv
  refine sorted_src (us := its) (G := fun ix => (∀ i ∈ ix, i < kss.length) ∧ ix.map (fun i => kss.getD i []) = isortG lexB kss) (sz ▸ raw_src (es := es) (ep := ep) lo) (fun i v hi hv => ?_) (I.ok.hd hc) raw (by omega) (fun few => ⟨fun i hi => ?_, ?_⟩) (fun h2 g tk kg => ?_) (fun g tk p e ix kg hp hG hg => ?_)
  · obtain ⟨e, h1, rfl⟩ := hv
    rw [← Array.getElem?_toList, d4, List.getElem?_map] at h1
    obtain ⟨x, h2, rfl⟩ := Option.map_eq_some_iff.mp h1
    rw [hits, List.getElem?_map, h2]; rfl
  · rw [List.mem_range] at hi; omega
  · rw [li, range_getD, isortG_short (by omega)]
  · obtain ⟨fs, f1, f2, f3⟩ := kt g kg its kss li gi hne
    refine kat_kind (T := .type "int") f1 (by omega) (fun v hv => ?_) (by rfl) ⟨rfl, ?_⟩
    · obtain ⟨i, t, rfl⟩ := f3 v hv; exact Looks.now
    · rw [li]
      refine sort_wp (b := fun i j => lexB (kss.getD i []) (kss.getD j [])) (od_of lt_L _) (by omega) (fun i j C hi hj hC => ?_) fun p P S => ⟨rfl, ?_, ?_⟩
      · obtain ⟨b1, o1, ts1, n1, x1, x2, x3, x4, x5⟩ := gi i hi
        obtain ⟨b2, o2, ts2, n2, y1, y2, y3, y4, y5⟩ := gi j hj
        unfold kas_ask
        rw [x1, y1]
        refine kat_lt (kg _ _ x2) x4 (kg _ _ y2) y4 ?_
        refine lex_ask 0 x5 y5 ?_ hC
        have z1 := Paired.length x5
        have z2 := Paired.length y5
        simp [z1, z2]
      · intro i hi
        have := P.perm.mem_iff.mp (Array.mem_toList_iff.mp hi)
        simpa using this
      · exact pick_sorted lt_L P S
  · have kp := kyT_pick ky ix hG.1
    rw [hG.2] at kp
    have ll : (isortG lexB kss).length = kss.length := (isortG_perm (lt := lexB) kss).length_eq
    refine ⟨.ref p, _, I.laid (t' := tk) kg hp (show ObjOk X.prog X.w _ g _ (.lst (ix.map fun i => (xs.map fun x => V.ref x.2.1).getD i .non)) from ⟨?_, _, e, vals_pick rv ix, hg⟩), rfl, q _ _ (I.hok.fresh hp) kp⟩
    rw [kyT_len kp, ll, sizeLine_eq]; omega
def intKs : List (List Key × D) → Option (List (List Int))
  | [] => some []
  | (k, _) :: r => (intK k).bind fun ns => (intKs r).map (ns :: ·)
where intK : List Key → Option (List Int)
  | [] => some []
  | .inl i :: r => (intK r).map (i :: ·)
  | _ => none
theorem intK_eq : ∀ {k : List Key} {ns : List Int}, intKs.intK k = some ns → k = iK ns
  | [], _, h => by cases h; rfl
  | .inl i :: r, ns, h => by
    have h : (intKs.intK r).map (i :: ·) = some ns := h
    obtain ⟨t, e, rfl⟩ := Option.map_eq_some_iff.mp h
    rw [intK_eq e]; rfl
  | .inr _ :: _, _, h => by cases h
theorem intKs_eq : ∀ {kvs : List (List Key × D)} {kss : List (List Int)}, intKs kvs = some kss → kvs.map (·.1) = kss.map iK
  | [], _, h => by cases h; rfl
  | (k, d) :: r, kss, h => by
    have h : ((intKs.intK k).bind fun ns => (intKs r).map (ns :: ·)) = some kss := h
    obtain ⟨ns, e1, h⟩ := Option.bind_eq_some_iff.mp h
    obtain ⟨t, e, rfl⟩ := Option.map_eq_some_iff.mp h
    rw [List.map_cons, List.map_cons, intKs_eq e, ← intK_eq e1]
theorem kyT_reps {K : PySem.W.Frag} {H : Hp} {hid : Hid} (ht : ∀ b xs, hid b = true → H b ≠ some (.tup xs)) : ∀ {ys : List V} {kss : List (List Int)}, KyT H ys kss → Reps K (vw H hid) ys (kss.map tpI)
  | _, [], h => by cases h; exact .nil
  | _, ks :: kss, h => by
    cases h with
    | cons h1 h2 =>
      obtain ⟨b, rfl, hb⟩ := h1
      refine .cons (.tup (.inl (.inl (vw_some.mpr ⟨?_, hb⟩))) (ints_reps ks)) (kyT_reps ht h2)
      cases e : hid b with
      | false => rfl
      | true => exact absurd hb (ht b _ e)
/-- sorted(d) -/
def dsrtT (i : Nat) : FE := fun ρ => (getT i ρ).bind fun kvs => (intKs kvs).bind fun kss => if kss.length < 64 ∧ ∀ k ∈ kss, k ≠ [] then some (.lst ((isortG lexB kss).map tpI)) else none
theorem dp_dsrtT {c : Ct} {pos p py : Pos} {y : Str} (i : Nat) (hcm : X.calm = true) (hm : X.mg "sorted" = none) (hN : X.N[i]? = some y := by rfl) (hv' : Vis X.env.scope y := by first | exact Or.inl rfl | exact Or.inr (Or.inl rfl) | exact Or.inr (Or.inr rfl)) (hd : (y == ("__debug__" : Str)) = false := by decide)
    (hcd : (y == ("__classdict__" : Str)) = false := by decide) (hg : Gl X "sorted" := by rfl) (hv : bootBuiltins "sorted" = some (.builtin "sorted") := by kernel_rfl)
    (he : starEach [.Name y py] X.env = (false, eval (.Name y py) X.env) :: starEach [] X.env := by rfl) (hpl : (backTo pos (starEach [] X.env)).any (·.1) = false := by rfl) : DP X c .n (.Call (.Name "sorted" p) [.Name y py] [] pos) (dsrtT i) := fun hid ρ =>
  PE.imp (pe_callB (call_sortedT hcm) hg hm hv (pa_cons (pv i hN hv' hd hcd) pa_nil he) (by decide) (by decide) he hpl) fun σ H Q ⟨sr, d, hd, q⟩ => by
    obtain ⟨kvs, e0, hd⟩ := Option.bind_eq_some_iff.mp hd
    obtain ⟨kss, e1, hd⟩ := Option.bind_eq_some_iff.mp hd
    split at hd
    · rename_i hz
      cases hd
      obtain ⟨a, us, a1, a2, a3, a4, a5⟩ := sr.dictT e0
      refine ⟨.ref a, a1, a, us, kss, rfl, a4, by rw [a5.1]; exact intKs_eq e1, hz.1, hz.2, fun l ys hl hy => q _ _ (same_new hl _) (rn_new hl (Same.refl _) (kyT_reps sr.ht hy))⟩
    · cases hd
end
end L2
set_option Elab.async false
set_option linter.all false
set_option maxRecDepth 100000
namespace L2
open PySem PySem.Spec PyProof.Rows
abbrev DTs := List (List Key × D)
/-! ### a def that tells a pair of two new dicts -/
structure Two (K : PySem.W.Frag) (H0 H' : Hp) (hid : Hid) (v : V) (t a b : Addr) (us ws : List (List Key × V)) (p q : DTs) : Prop where
  ev : v = .ref t
  ht : H' t = some (.tup [.ref a, .ref b])
  na : H0 a = none
  nb : H0 b = none
  ne : a ≠ b
  ha : H' a = some (.dT us)
  hb : H' b = some (.dT ws)
  ra : KRt K (vw H' (hadd (hadd hid a) b)) us p
  rb : KRt K (vw H' (hadd (hadd hid a) b)) ws q
def spD2 (K : PySem.W.Frag) (n : Nat) (M : List D → Option (DTs × DTs)) : Sp := fun vs H Q _ => ∃ hid ds, Trk hid H ∧ Reps K (vw H hid) vs ds ∧ ds.length = n ∧ ∃ p q, M ds = some (p, q) ∧ ∀ v t a b us ws H', Same H H' → Two K H H' hid v t a b us ws p q → Q v H'
def fnD2 (n i j : Nat) (t : FS) : List D → Option (DTs × DTs) := fun ds => match t (rho0 n ds) with
  | .nx ρ => (getT i ρ).bind fun p => (getT j ρ).map fun q => (p, q)
  | _ => none
/-- a suite that ends so -/
def D2s (X : Cx) (c : Ct) (i j : Nat) (st : List Stmt) (t : FS) : Prop := ∀ ρ, PSs X st (fun D σ H => ∃ hid, SR X.K c hid ρ σ H ∧ ∃ ρ' p q, t ρ = .nx ρ' ∧ getT i ρ' = some p ∧ getT j ρ' = some q ∧
  ∀ v t a b us ws H', (∀ b o, c.H₀ b = some o → c.mu b = false → H' b = some o) → Two X.K c.H₀ H' c.hid₀ v t a b us ws p q → D.rt v H')
section
variable {X : Cx} {c : Ct} {i j : Nat} {st : Stmt} {rest : List Stmt} {t u : FS} {pos px py pt : Pos} {x y : Str} {x1 : _}
theorem d2_cons {k : Kd} (h1 : DS X c k st t) (h2 : D2s X c i j rest u) : D2s X c i j (st :: rest) (seqS t u) := fun ρ =>
  PSs.imp (pss_cons (h1 ρ) (exPSs fun ρ1 => h2 ρ1)) fun D σ H ⟨hid, sr, ρ', p, q, e, e1, e2, z⟩ => by
    refine ⟨hid, sr, ?_⟩
    unfold seqS at e
    cases e0 : t ρ with
    | nx ρ1 => rw [e0] at e; exact fun σ1 H1 hid1 sr1 v1 => ⟨ρ1, hid1, sr1, ρ', p, q, e, e1, e2, z⟩
    | rt d ρ1 => rw [e0] at e; cases e
    | bk ρ1 => rw [e0] at e; cases e
    | ct ρ1 => rw [e0] at e; cases e
    | no => rw [e0] at e; cases e
theorem d2_ret (i j : Nat) (hij : i ≠ j) (hN : X.N[i]? = some x := by rfl) (hN' : X.N[j]? = some y := by rfl) (hv : Vis X.env.scope x := by first | exact Or.inl rfl | exact Or.inr (Or.inl rfl) | exact Or.inr (Or.inr rfl)) (hv' : Vis X.env.scope y := by first | exact Or.inl rfl | exact Or.inr (Or.inl rfl) | exact Or.inr (Or.inr rfl))
    (hd : (x == ("__debug__" : Str)) = false := by decide) (hcd : (x == ("__classdict__" : Str)) = false := by decide) (hd' : (y == ("__debug__" : Str)) = false := by decide) (hcd' : (y == ("__classdict__" : Str)) = false := by decide)
    (hs : starEach [.Name x px, .Name y py] X.env = (false, eval (.Name x px) X.env) :: starEach [.Name y py] X.env := by rfl) (hs' : starEach [.Name y py] X.env = (false, eval (.Name y py) X.env) :: starEach [] X.env := by rfl) :
    D2s X c i j [.Return (some (.Tuple [.Name x px, .Name y py] x1 pt)) pos] skip := fun ρ =>
  PSs.imp (pss_one (ps_ret (pe_tup (pa_cons (pv i hN hv hd hcd) (pa_cons (pv j hN' hv' hd' hcd') pa_nil hs') hs)))) fun D σ H ⟨hid, sr, ρ', p, q, e, e1, e2, z⟩ => by
    cases e
    obtain ⟨a, us, a1, a2, a3, a4, a5⟩ := sr.dictT e1
    obtain ⟨b, ws, b1, b2, b3, b4, b5⟩ := sr.dictT e2
    have ne : a ≠ b := fun w => by
      subst w
      exact sr.ap i j a hij (by rw [getT_some e1]; trivial) (by rw [getT_some e2]; trivial) a1 b1
    refine ⟨_, a1, _, b1, by show 2 ≤ sizeLine; rw [sizeLine_eq]; omega, fun l hl => ?_⟩
    have sm := same_new hl (.tup [.ref a, .ref b])
    have le : Same (vw H hid) (vw (upd H l (.tup [.ref a, .ref b])) (hadd (hadd c.hid₀ a) b)) := by
      refine Same.trans (vw_same sm) (vw_less fun d w => ?_)
      unfold hadd at w
      by_cases d1 : d = b
      · subst d1; exact b2
      · by_cases d2 : d = a
        · subst d2; exact a2
        · exact sr.h0 d (by simpa [d1, d2] using w)
    exact z _ l a b us ws _ (fun d o w m => sm _ _ (sr.kp d o w m)) ⟨rfl, upd_same, a3, b3, ne, sm _ _ a4, sm _ _ b4, ⟨a5.1, a5.2.mono le⟩, ⟨b5.1, b5.2.mono le⟩⟩
end
section
variable {P : Program} {w : World} {K : PySem.W.Frag} {mg : Str → Option Value} {base : Heap} {x : Str} {st : Stmt} {N ps : List Str} {k n i j : Nat} {t : FS}
theorem cl_two (F : Df K mg x st ps) (S : FnScope N ps (defScope st)) (hn : ps.length = n)
    (body : ∀ (f : Addr) (cdv : Value) (A : Around) (outer : List Env) (s : Shared) (H : Hp) (hid : Hid) (E : XK), Room k (A.deeper (envOfC x (defScope st) s.heap.objs.size f cdv)) →
      D2s (cxOf CX0 P w K mg base N x (defScope st) f cdv A outer s H E).nox ⟨H, hid, fun _ => false⟩ i j (defBody st) t) :
    Cl P w K mg base (k + 1) x ps (spD2 K n (fnD2 N.length i j t)) := by
  obtain ⟨f, fd, F, hm, hb⟩ := F.ex
  subst hn
  refine ⟨f, fd, F.ok S (fun vs H Q E h => ?_) (fun cdv A outer s H vs Q E hr h => ?_), hm, F.kp, hb⟩
  · obtain ⟨hid, ds, _, r, hl, _⟩ := h
    rw [r.length, hl]
  · obtain ⟨hid, ds, tr, r, hl, p, q, hP, z⟩ := h
    unfold fnD2 at hP
    cases e : t (rho0 N.length ds) with
    | nx ρ =>
      rw [e] at hP
      obtain ⟨p', e1, hP⟩ := Option.bind_eq_some_iff.mp hP
      obtain ⟨q', e2, hP⟩ := Option.map_eq_some_iff.mp hP
      cases hP
      exact ⟨_, body f cdv A outer s H hid E hr (rho0 N.length ds), hid, SR.begins tr r, ρ, p, q, e, e1, e2, fun v t a b us ws H' kp T => z v t a b us ws H' (fun b o y => kp b o y rfl) T⟩
    | rt d ρ => rw [e] at hP; cases hP
    | bk ρ => rw [e] at hP; cases hP
    | ct ρ => rw [e] at hP; cases hP
    | no => rw [e] at hP; cases hP
end
section
variable {X : Cx} {c : Ct} {k : Kd} {e : Expr} {es : List Expr} {pos p px py pt pc : Pos} {x y z : Str} {ps : List Str} {n l : Nat} {x1 : _}
def setD2 (i j n : Nat) (M : List D → Option (DTs × DTs)) (fs : FA) : FS := fun ρ => match fs ρ with
  | some ds => if ds.length = n then (match M ds with
    | some (p, q) => .nx ((ρ.set i (.ob (.dT p))).set j (.ob (.dT q)))
    | none => .no) else .no
  | none => .no
theorem ds_two (i j : Nat) (hij : i ≠ j) {M : List D → Option (DTs × DTs)} {fs : FA} (hc : X.calm = true) (hn : X.N.Nodup) (C : Cl X.prog X.w X.K X.mg X.base l z ps (spD2 X.K n M)) (hr : Room l X.A) (ha : DA X c (e :: es) fs)
    (hN : X.N[i]? = some x := by rfl) (hN' : X.N[j]? = some y := by rfl) (hx : Loc X.env.scope x := by first | exact Or.inl rfl | exact Or.inr rfl) (hy : Loc X.env.scope y := by first | exact Or.inl rfl | exact Or.inr rfl)
    (hf : X.fn x = true ∨ X.env.scope.names.lookup x = some .local := by first | exact .inl rfl | exact .inr rfl | assumption) (hf' : X.fn y = true ∨ X.env.scope.names.lookup y = some .local := by first | exact .inl rfl | exact .inr rfl | assumption)
    (hg : Gl X z := by rfl) (hdb : (z == ("__debug__" : Str)) = false := by decide) (he : starEach (e :: es) X.env = (false, eval e X.env) :: starEach es X.env := by rfl) (hpl : (backTo pc (starEach es X.env)).any (·.1) = false := by rfl)
    (hs : swapsWithSole [.Tuple [.Name x px, .Name y py] x1 pt] (.Call (.Name z p) (e :: es) [] pc) pos.line X.env = pure false := by rfl) (hw : swappedStores [.Tuple [.Name x px, .Name y py] x1 pt] (.Call (.Name z p) (e :: es) [] pc) X.env = pure none := by rfl)
    (h1 : (assignEach [.Tuple [.Name x px, .Name y py] x1 pt] X.env).map (·.2) = [assign (.Tuple [.Name x px, .Name y py] x1 pt) X.env] := by rfl)
    (h2 : (assignEach [.Name x px, .Name y py] X.env).length = 2 := by rfl) (h3 : (assignEach [.Name x px, .Name y py] X.env).findIdx? (·.1) = none := by rfl)
    (h4 : (assignEach [.Name x px, .Name y py] X.env).map (·.2) = assign (.Name x px) X.env :: (assignEach [.Name y py] X.env).map (·.2) := by rfl) (h5 : (assignEach [.Name y py] X.env).map (·.2) = assign (.Name y py) X.env :: (assignEach [] X.env).map (·.2) := by rfl) :
    DS X c k (.Assign [.Tuple [.Name x px, .Name y py] x1 pt] (.Call (.Name z p) (e :: es) [] pc) pos) (setD2 i j n M fs) := fun ρ => by
  obtain ⟨f, fd, F, hm, hk, hb⟩ := C.ex
  refine PS.imp (ps_asg (pe_call F hr hg hm hk hb .nil (pass0 (X := X)) (exPA fun hid => ha hid ρ) hdb he hpl) (pg_tup hc (pgs_cons (pg_name hn hN hx hf) (pgs_cons (pg_name hn hN' hy hf') pgs_nil h5) h4) h2 h3) hs hw h1) fun D σ H ⟨hid, sr, q⟩ => ?_
  unfold setD2 at q
  split at q
  · rename_i ds e0
    split at q
    · rename_i hl
      split at q
      · rename_i kp kq e2
        refine ⟨hid, sr, ds, e0, fun vs H1 s1 r1 => ?_⟩
        show spD2 X.K n M (vs ++ []) H1 _ E0
        rw [List.append_nil]
        refine ⟨hid, ds, (sr.ext s1).trk, r1, hl, kp, kq, e2, fun v t a b us ws H' sm T => ?_⟩
        obtain ⟨rfl, ht, na, nb, ne, hha, hhb, ra, rb⟩ := T
        refine ⟨t, [.ref a, .ref b], rfl, .inl (.inl ht), rfl, .ref a, [.ref b], rfl, .ref b, [], rfl, rfl, ?_⟩
        have sr1 := sr.ext s1
        have fa := sr1.fresh na
        have fb := sr1.fresh nb
        -- in two steps
        have s2 : Same H1 (fun d => if d = b then none else H' d) := fun d o w => by
          have : d ≠ b := ne_of_none w nb
          show (if d = b then none else H' d) = some o
          rw [if_neg this]; exact sm _ _ w
        have s3 : Same (fun d => if d = b then none else H' d) H' := fun d o w => by
          have w : (if d = b then none else H' d) = some o := w
          split at w
          · cases w
          · exact w
        have sr2 := sr1.hide s2 na (o := .dT us) (by show (if a = b then none else H' a) = _; rw [if_neg ne]; exact hha)
        have sr3 := sr2.hide s3 (a := b) (o := .dT ws) (by show (if b = b then none else H' b) = _; rw [if_pos rfl]) hhb
        have h0a : c.H₀ a = none := sr1.fresh0 na
        have h0b : c.H₀ b = none := sr1.fresh0 nb
        have sr4 := SR.setD (a := a) (b := .dT kp) sr3 ⟨⟨hadd_true hadd_self, h0a⟩, us, hha, ra.1, ra.2⟩ (sr1.notOw fa) i
        have sr5 := SR.setD (a := b) (b := .dT kq) sr4 ⟨⟨hadd_self, h0b⟩, ws, hhb, rb.1, rb.2⟩ (fun m o w => by
          by_cases em : m = i
          · subst em
            by_cases lt : m < σ.length
            · rw [List.getElem?_set_self lt] at w; cases w; exact ne rfl
            · rw [List.getElem?_eq_none (by simpa using lt)] at w; cases w
          · rw [List.getElem?_set_ne (Ne.symm em)] at w o
            exact sr1.notOw fb m o w) j
        refine q _ H' _ sr5 fun d o w => ?_
        obtain ⟨w1, w2⟩ := vw_some.mp w
        have w3 := s1 _ _ w2
        refine vw_some.mpr ⟨?_, sm _ _ w3⟩
        unfold hadd
        have d1 : d ≠ a := ne_of_none w3 na
        have d2 : d ≠ b := ne_of_none w3 nb
        rw [w1]; simp [d1, d2]
      · exact q.elim
    · exact q.elim
  · exact q.elim
/-- f(..).append(e): of a list that nothing holds -/
def appNF (g fe : FE) : FE := fun ρ => match g ρ with
  | some (.lst ds) => if ds.length < sizeLine then (fe ρ).map fun _ => .non else none
  | _ => none
theorem dp_appN {o e : Expr} {g fe : FE} {apos : Pos} (ho : DP X c .n o g) (he : DP X c .s e fe) (slot : Slot "list" "append" "list.append") (hty : typeOf (.builtin "list.append") = pure (.type "method_descriptor"))
    (hbase : attributeBase o "append" X.env (eval o X.env) = eval o X.env := by rfl)
    (hfew : ((backTo pos (starEach [e] X.env)).all (fun x => !x.1) && (backToKw pos (keywordEach [] X.env)).all (fun x => x.1.isSome)
      && decide ([e].length + ([] : List Keyword).length + (if ([] : List Keyword).isEmpty then 0 else 1) < 30)) = true := by rfl)
    (hline : (apos.endLine == pos.line) = true := by rfl) (hs : starEach [e] X.env = (false, eval e X.env) :: starEach [] X.env := by rfl) (hplain : (backTo pos (starEach [] X.env)).any (·.1) = false := by rfl) :
    DP X c .s (.Call (.Attribute o "append" apos) [e] [] pos) (appNF g fe) := fun hid ρ =>
  PE.imp (pe_bm PySem.F.plainAttrs_list slot hty mt_append (ho hid ρ) (pa_cons (he hid ρ) pa_nil hs) hbase hfew hline hs hplain) fun σ H Q ⟨sr, d, hd, q⟩ => by
    unfold appNF at hd
    split at hd
    · rename_i ds e0
      split at hd
      · rename_i hz
        obtain ⟨d', e1, rfl⟩ := Option.map_eq_some_iff.mp hd
        refine ⟨sr, _, e0, fun v H1 s1 r1 => ?_⟩
        obtain ⟨l, xs, ds', z, rfl, n1, n2, n3⟩ := r1
        cases z
        refine .inl ⟨rfl, _, SqL.of n2⟩ |> fun w => ⟨w, sr.ext s1, d', e1, fun y H2 s2 r2 => ?_⟩
        refine ⟨l, xs, y, rfl, rfl, s2 _ _ n2, by rw [n3.length]; exact hz, q _ _ (fun b o w => ?_) .non⟩
        rw [upd_ne (ne_of_none w n1)]
        exact s2 _ _ (s1 _ _ w)
      · cases hd
    · cases hd
end
end L2
set_option Elab.async false
set_option linter.all false
set_option maxRecDepth 100000
set_option maxHeartbeats 1000000
namespace L2
open PySem PySem.Spec PyProof.Rows
/-! the law's square, where what is walked may be a list or a tuple -/
def tD_square : FS :=
  seqS (setE 2 (callE 0 1 mC_take (puA (consA (cst (.int 4)) (nilA)))))
  (seqS (setE 3 (op2E addF (pu (cst (.int 1))) (callE 0 1 mC_take (puA (consA (op2 subF (nmF 1) (cst (.int 1))) (nilA))))))
  (seqS (setE 4 (callE 0 1 mC_order (puA (consA (nmF 1) (nilA)))))
  (seqS (ownE 5 (callE 0 1 mC_order (puA (consA (nmF 1) (nilA)))))
  (seqS (ifS (toB (op2 eqF (nmF 2) (cst (.int 1)))) (seqS (setF 4 (lr1 (nmF 1)))
  (ownF 5 (compF 1 (seqA (nmF 4)) (gN 8) (yesT) (op2 modF (op2 addF (nmF 8) (nmF 3)) (nmF 1))))) (skip))
  (seqS (forS (puA (rngA1 (consA (nmF 1) (nilA)))) (gN 6) (seqS (setF 7 (op2 modF (op2 addF (nmF 6) (cst (.int 1))) (nmF 1)))
  (ifS (toB (op2 eqF (op2 ixD (nbF 5) (nmF 6)) (op2 ixD (nmF 4) (nmF 6)))) (asgE (gT 2 (gsC (setIx 5 (nmF 6)) (gsC (setIx 5 (nmF 7)) (gsN)))) (pu (tupF (consA (op2 ixD (nbF 5) (nmF 7)) (consA (op2 ixD (nbF 5) (nmF 6)) (nilA)))))) (skip))))
  (retF (tupF (consA (callF tupleD (consA (nmF 4) (nilA))) (consA (callF tupleD (consA (nbF 5) (nilA))) (nilA))))))))))
def mD_square : List D → List D → Option (D × List D) := fnE .s 8 tD_square
theorem squareD_ev {N : Nat} {a b : Int} (B : Bag N a b) {n : Nat} (h2 : 2 ≤ n) (h6 : n ≤ 6) (hN : N ≤ 800000000) : ∃ (r x : List Nat) (a' b' : Int), mD_square (bagD a b) [nI n] = some (sqD r x, bagD a' b') ∧ Sq n r x ∧ Bag (N + 2 * n + 2) a' b' := by
  obtain ⟨p, a1, b1, e1, B1, p0, p1⟩ := take_ev (m := 4) B (by omega) (by decide) (by decide)
  obtain ⟨q, a2, b2, e2, B2, q0, q1⟩ := take_ev (m := (n : Int) - 1) B1 (by omega) (by omega) (Nat.lt_of_lt_of_le (show ((n : Int) - 1).natAbs < 10 ^ 10 by omega) (by decide))
  obtain ⟨r, a3, b3, e3, or, B3⟩ := order_ev B2 (n := n) (by omega) (by omega)
  obtain ⟨x, a4, b4, e4, ox, B4⟩ := order_ev B3 (n := n) (by omega) (by omega)
  obtain ⟨q', rfl⟩ : ∃ j : Nat, q = (j : Int) := ⟨q.toNat, by omega⟩
  have r0 : rhoE 8 (bagD a b) [nI n] = [.arg (bagD a b), .v (nI n), .no, .no, .no, .no, .no, .no] := rfl
  have s1 : setE 2 (callE 0 1 mC_take (puA (consA (cst (.int 4)) (nilA)))) [.arg (bagD a b), .v (nI n), .no, .no, .no, .no, .no, .no] = .nx [.arg (bagD a1 b1), .v (nI n), .v (.int p), .no, .no, .no, .no, .no] :=
    (setE_at (callE_at (i := 0) (n := 1) (b0 := bagD a b) (ds := [.int 4]) rfl (puA_at rfl) rfl rfl e1)).trans rfl
  have s2 : setE 3 (op2E addF (pu (cst (.int 1))) (callE 0 1 mC_take (puA (consA (op2 subF (nmF 1) (cst (.int 1))) (nilA))))) [.arg (bagD a1 b1), .v (nI n), .v (.int p), .no, .no, .no, .no, .no] = .nx [.arg (bagD a2 b2), .v (nI n), .v (.int p), .v (nI (q' + 1)), .no, .no, .no, .no] :=
    (setE_at (op2E_at (pu_at rfl) (callE_at (i := 0) (n := 1) (b0 := bagD a1 b1) (ds := [.int ((n : Int) - 1)]) rfl (puA_at rfl) rfl rfl e2) (show addF (.int 1) (nI q') = some (nI (q' + 1)) by rw [addF_int]; simp; omega))).trans rfl
  have s3 : setE 4 (callE 0 1 mC_order (puA (consA (nmF 1) (nilA)))) [.arg (bagD a2 b2), .v (nI n), .v (.int p), .v (nI (q' + 1)), .no, .no, .no, .no] = .nx [.arg (bagD a3 b3), .v (nI n), .v (.int p), .v (nI (q' + 1)), .v (.lst (r.map nI)), .no, .no, .no] :=
    (setE_at (callE_at (i := 0) (n := 1) (b0 := bagD a2 b2) (ds := [nI n]) rfl (puA_at rfl) rfl rfl e3)).trans rfl
  have s4 : ownE 5 (callE 0 1 mC_order (puA (consA (nmF 1) (nilA)))) [.arg (bagD a3 b3), .v (nI n), .v (.int p), .v (nI (q' + 1)), .v (.lst (r.map nI)), .no, .no, .no] = .nx [.arg (bagD a4 b4), .v (nI n), .v (.int p), .v (nI (q' + 1)), .v (.lst (r.map nI)), .own (x.map nI), .no, .no] :=
    (ownE_at (callE_at (i := 0) (n := 1) (b0 := bagD a3 b3) (ds := [nI n]) rfl (puA_at rfl) rfl rfl e4)).trans rfl
  have s5 : ∃ (r' x' : List Nat), ifS (toB (op2 eqF (nmF 2) (cst (.int 1)))) (seqS (setF 4 (lr1 (nmF 1)))
      (ownF 5 (compF 1 (seqA (nmF 4)) (gN 8) (yesT) (op2 modF (op2 addF (nmF 8) (nmF 3)) (nmF 1))))) (skip) [.arg (bagD a4 b4), .v (nI n), .v (.int p), .v (nI (q' + 1)), .v (.lst (r.map nI)), .own (x.map nI), .no, .no] = .nx [.arg (bagD a4 b4), .v (nI n), .v (.int p), .v (nI (q' + 1)), .v (.lst (r'.map nI)), .own (x'.map nI), .no, .no] ∧ Ord n r' ∧ Ord n x' := by
    unfold ifS toB
    rw [op2_at (x := .int p) (y := .int 1) rfl rfl, eqF_ev (by rw [dep_int]; omega), eqD_int]
    by_cases hp : p = 1
    · refine ⟨List.range n, (List.range n).map fun i => (i + (q' + 1)) % n, ?_, ⟨.refl _⟩, rot_ord n h2 h6 (q' + 1) (by omega) (by omega)⟩
      rw [decide_eq_true hp]
      simp only [asB]
      rw [seq_at ((setF_at (lr_ev (n := n) (by omega) (nmF 1) _ rfl)).trans rfl)]
      refine (ownF_at (compF_at (ds := (List.range n).map nI) (ys := (List.range n).map fun i => nI ((i + (q' + 1)) % n)) rfl (by simp; omega) (compL_map _ fun i hi => ⟨_, rfl, ?_⟩))).trans ?_
      · exact (op2_at ((op2_at (x := nI i) (y := nI (q' + 1)) rfl rfl).trans (addN _ _)) (y := nI n) rfl).trans (modN (by omega))
      · rw [List.map_map]; rfl
    · refine ⟨r, x, ?_, or, ox⟩
      rw [decide_eq_false hp]
      simp only [asB, skip]
  obtain ⟨r', x', s5, or', ox'⟩ := s5
  obtain ⟨x2, t6, t7, lp, ox2, hne⟩ := loopQ (bagD a4 b4) (.int p) (nI (q' + 1)) or' h2 n 0 x' .no .no (by omega) ox' (fun i h => absurd h (Nat.not_lt_zero _))
  have s6 : forS (puA (rngA1 (consA (nmF 1) (nilA)))) (gN 6) turnQ [.arg (bagD a4 b4), .v (nI n), .v (.int p), .v (nI (q' + 1)), .v (.lst (r'.map nI)), .own (x'.map nI), .no, .no] = .nx [.arg (bagD a4 b4), .v (nI n), .v (.int p), .v (nI (q' + 1)), .v (.lst (r'.map nI)), .own (x2.map nI), t6, t7] := by
    unfold forS
    rw [puA_at (rngA1_at (n := n) rfl (by omega))]
    dsimp only
    rw [List.range_eq_range']
    exact lp
  refine ⟨r', x2, a4, b4, ?_, ⟨or', ox2, hne⟩, by rw [show N + 2 * n + 2 = N + 1 + 1 + n + n by omega]; exact B4⟩
  unfold mD_square fnE tD_square
  rw [r0, seq_at s1, seq_at s2, seq_at s3, seq_at s4, seq_at s5]
  rw [seq_at s6]
  have s7 : retF (tupF (consA (callF tupleD (consA (nmF 4) (nilA))) (consA (callF tupleD (consA (nbF 5) (nilA))) (nilA)))) [.arg (bagD a4 b4), .v (nI n), .v (.int p), .v (nI (q' + 1)), .v (.lst (r'.map nI)), .own (x2.map nI), t6, t7] = .rt (sqD r' x2) [.arg (bagD a4 b4), .v (nI n), .v (.int p), .v (nI (q' + 1)), .v (.lst (r'.map nI)), .own (x2.map nI), t6, t7] := by
    unfold retF
    rw [tupF_at (ds := [tupN r', tupN x2]) rfl (by simp)]
  rw [s7]
  rfl
end L2
set_option Elab.async false
set_option linter.all false
set_option maxRecDepth 100000
set_option maxHeartbeats 4000000
namespace L2
open PySem PySem.Spec PyProof.Rows
def tC_lies_between : FS :=
  retF (ch3 ltF ltF (callF min2D (consA (nmF 1) (consA (nmF 2) (nilA)))) (nmF 0) (callF max2D (consA (nmF 1) (consA (nmF 2) (nilA)))))
def mC_lies_between : List D → Option D := fnP .s 3 tC_lies_between
/-! what a mirror that may raise answers -/
theorem ch3_mk {F G : D → D → Option D} {f g h : FE} {ρ : Rho} {x y z : D} {p q : Bool} (h1 : f ρ = some x) (h2 : g ρ = some y) (h3 : F x y = some (.bl p)) (h4 : h ρ = some z) (h5 : G y z = some (.bl q)) : ch3 F G f g h ρ = some (.bl (p && q)) := by
  unfold ch3
  rw [h1, Option.bind_some, h2, Option.bind_some, h3]
  show (if p = true then _ else _) = _
  cases p with
  | true => rw [if_pos rfl, h4]; exact h5
  | false => rfl
theorem ifF_t {p : FT} {f g : FE} {ρ : Rho} (h : p ρ = some true) : ifF p f g ρ = f ρ := by unfold ifF; rw [h]; rfl
theorem ifF_f {p : FT} {f g : FE} {ρ : Rho} (h : p ρ = some false) : ifF p f g ρ = g ρ := by unfold ifF; rw [h]; rfl
theorem seqA_t {f : FE} {ρ : Rho} {ds : List D} (h : f ρ = some (.tup ds)) : seqA f ρ = some ds := by unfold seqA; rw [h]; rfl
theorem seqA_l {f : FE} {ρ : Rho} {ds : List D} (h : f ρ = some (.lst ds)) : seqA f ρ = some ds := by unfold seqA; rw [h]; rfl
theorem Ord.rot {n : Nat} {o : List Nat} (O : Ord n o) (h : 0 < n) (k : Int) : Ord n (rotL o k) := O.mv (mv_sh h k) (mv_id n) (by rw [rotL_len, O.len]) fun c hc => rot_sh O.len h k hc
/-! turned, raised, tipped -/
/-- a good square -/
structure Gd (n : Nat) (r x : List Nat) : Prop where
  R : Ord n r
  X : Ord n x
  lo : 2 ≤ n
  hi : n ≤ 6
section
variable {n : Nat} {r x : List Nat} (G : Gd n r x)
include G
theorem Gd.rot (k : Int) : Gd n (rotL r k) (rotL x k) := ⟨G.R.rot (by have := G.lo; omega) k, G.X.rot (by have := G.lo; omega) k, G.lo, G.hi⟩
theorem Gd.tip : Gd n (tipL r) (tipL x) := ⟨G.R.tip, G.X.tip, G.lo, G.hi⟩
end
/-! columns exchanged -/
def btB (v a b : Nat) : Bool := decide (min a b < v) && decide (v < max a b)
theorem betw_ev (v a b : Nat) : mC_lies_between [nI v, nI a, nI b] = some (.bl (btB v a b)) := by
  apply fnP_ret (kd := .s) (n := 3) (t := tC_lies_between)
  unfold tC_lies_between
  refine retF_at (ch3_mk (x := nI (min a b)) (y := nI v) (z := nI (max a b)) ?_ rfl ?_ ?_ ?_)
  · refine (callF_at (ds := [nI a, nI b]) rfl).trans ?_
    show some (D.int _) = some (D.int _)
    congr 2
    split <;> omega
  · show some (D.bl (decide (((min a b : Nat) : Int) < v))) = _
    congr 2
    rw [Bool.eq_iff_iff, decide_eq_true_eq, decide_eq_true_eq]; omega
  · refine (callF_at (ds := [nI a, nI b]) rfl).trans ?_
    show some (D.int _) = some (D.int _)
    congr 2
    split <;> omega
  · show some (D.bl (decide ((v : Int) < ((max a b : Nat) : Int)))) = _
    congr 2
    rw [Bool.eq_iff_iff, decide_eq_true_eq, decide_eq_true_eq]; omega
/-- may columns c and c + 1 be exchanged -/
def mayN (r x : List Nat) (c : Nat) : Bool := !((decide (r.getD c 0 = r.getD (c + 1) 0) || decide (r.getD c 0 = x.getD (c + 1) 0)) || (decide (x.getD c 0 = r.getD (c + 1) 0) || decide (x.getD c 0 = x.getD (c + 1) 0))) && (btB (r.getD (c + 1) 0) (r.getD c 0) (x.getD c 0) == btB (x.getD (c + 1) 0) (r.getD c 0) (x.getD c 0))
def mayI (r x : List Nat) (c : Int) : Bool := (decide (0 ≤ c) && decide (c ≤ (r.length : Int) - 2)) && mayN r x c.toNat
section
variable {n : Nat} {r x : List Nat} (G : Gd n r x)
include G
abbrev noM : Ex := ⟨"NoMove", 0⟩
abbrev tooM : Ex := ⟨"TooMany", 0⟩
end
/-! corners -/
def frC (c w : Nat) : Nat := c + w % 2
def frR (r w : Nat) : Nat := r + w / 2
def fuC (c w : Nat) : Nat := c + 1 - w % 2
def fuR (r w : Nat) : Nat := r + 1 - w / 2
def prt (row to m : Nat) : Nat := if m = row then to else if row < m then m + 1 else m
def insL (l : List Nat) (i v : Nat) : List Nat := l.take i ++ v :: l.drop i
def putL (l : List Nat) (row to col v : Nat) : List Nat := insL (l.map (prt row to)) col v
theorem Ord.put {n : Nat} {l : List Nat} (O : Ord n l) {row to col v : Nat} (hr : row < n) (h : (to = row ∧ v = row + 1) ∨ (to = row + 1 ∧ v = row)) : Ord (n + 1) (putL l row to col v) := by
  refine ⟨?_⟩
  unfold putL insL
  refine (List.perm_middle.trans ?_)
  rw [List.take_append_drop]
  refine ((O.perm.map (prt row to)).cons v).trans ?_
  refine (List.perm_ext_iff_of_nodup ?_ List.nodup_range).mpr fun k => ?_
  · rw [List.nodup_cons]
    constructor
    · intro hm
      obtain ⟨i, _, e⟩ := List.mem_map.mp hm
      unfold prt at e
      split at e <;> (try split at e) <;> omega
    · show List.Pairwise (· ≠ ·) _
      rw [List.pairwise_map]
      refine List.Pairwise.imp (fun {i j} hij e => ?_) (List.pairwise_lt_range (n := n))
      unfold prt at e
      split at e <;> (try split at e) <;> (try split at e) <;> (try split at e) <;> omega
  · rw [List.mem_cons, List.mem_map, List.mem_range]
    constructor
    · rintro (rfl | ⟨i, hi, rfl⟩)
      · omega
      · rw [List.mem_range] at hi
        unfold prt
        split <;> (try split) <;> omega
    · intro hk
      by_cases h1 : k = v
      · exact .inl h1
      · refine .inr ⟨if k ≤ row then k else k - 1, List.mem_range.mpr (by split <;> omega), ?_⟩
        unfold prt
        split <;> (try split) <;> (try split) <;> omega
section
variable {n : Nat} {r x : List Nat} (G : Gd n r x)
include G
theorem Gd.put {c w : Nat} (hc : c < n) (hw : w < 4) (h6 : n < 6) : Gd (n + 1) (putL r (x.getD c 0) (frR (x.getD c 0) w) (fuC c w) (fuR (x.getD c 0) w)) (putL x (x.getD c 0) (fuR (x.getD c 0) w) (fuC c w) (frR (x.getD c 0) w)) := by
  have h := G.X.get hc
  have d : w / 2 = 0 ∨ w / 2 = 1 := by omega
  refine ⟨G.R.put h ?_, G.X.put h ?_, by have := G.lo; omega, by omega⟩
  · unfold frR fuR; rcases d with d | d <;> rw [d] <;> omega
  · unfold frR fuR; rcases d with d | d <;> rw [d] <;> omega
end
/-! corners taken out -/
def isputB (r x : List Nat) (c q w : Nat) : Bool := (decide (r.getD (fuC c w) 0 = fuR q w) && decide (x.getD (fuC c w) 0 = frR q w)) && (decide (x.getD (frC c w) 0 = fuR q w) && !decide (r.getD (frC c w) 0 = frR q w))
def joinL (l : List Nat) (row col : Nat) : List Nat := ((List.range l.length).filter fun i => !decide (i = col)).map fun i => if row < l.getD i 0 then l.getD i 0 - 1 else l.getD i 0
theorem Ord.join {n : Nat} {l : List Nat} (O : Ord n l) {row col : Nat} (hr : row + 1 < n) (hc : col < n) (h : l.getD col 0 = row ∨ l.getD col 0 = row + 1) : Ord (n - 1) (joinL l row col) := by
  have hl := O.len
  refine ⟨(List.perm_ext_iff_of_nodup ?_ List.nodup_range).mpr fun k => ?_⟩
  · unfold joinL
    show List.Pairwise (· ≠ ·) _
    rw [List.pairwise_map, hl]
    refine List.Pairwise.imp_of_mem (fun {i j} hi hj hij e => ?_) (List.Pairwise.filter _ (List.pairwise_lt_range (n := n)))
    rw [List.mem_filter, List.mem_range] at hi hj
    have i1 : i ≠ col := by simpa using hi.2
    have j1 : j ≠ col := by simpa using hj.2
    have n1 : l.getD i 0 ≠ l.getD j 0 := fun z => by have := O.inj hi.1 hj.1 z; omega
    have n2 : l.getD i 0 ≠ l.getD col 0 := fun z => i1 (O.inj hi.1 hc z)
    have n3 : l.getD j 0 ≠ l.getD col 0 := fun z => j1 (O.inj hj.1 hc z)
    split at e <;> split at e <;> omega
  · unfold joinL
    rw [List.mem_map, List.mem_range, hl]
    constructor
    · rintro ⟨i, hi, rfl⟩
      rw [List.mem_filter, List.mem_range] at hi
      have i1 : i ≠ col := by simpa using hi.2
      have := O.get hi.1
      have n2 : l.getD i 0 ≠ l.getD col 0 := fun z => i1 (O.inj hi.1 hc z)
      split <;> omega
    · intro hk
      have key : ∀ v, v < n → v ≠ l.getD col 0 → ∃ i, i ∈ (List.range n).filter (fun i => !decide (i = col)) ∧ l.getD i 0 = v := fun v hv hv2 => by
        obtain ⟨i1, i2⟩ := idx_get O hv
        refine ⟨l.idxOf v, ?_, i2⟩
        rw [List.mem_filter, List.mem_range]
        refine ⟨i1, ?_⟩
        simp only [Bool.not_eq_true', decide_eq_false_iff_not]
        intro z
        rw [z] at i2
        exact hv2 i2.symm
      by_cases h1 : k < row
      · obtain ⟨i, hi, e⟩ := key k (by omega) (by omega)
        exact ⟨i, hi, by rw [e, if_neg (by omega)]⟩
      · by_cases h2 : k = row
        · by_cases h3 : l.getD col 0 = row
          · obtain ⟨i, hi, e⟩ := key (row + 1) (by omega) (by omega)
            exact ⟨i, hi, by rw [e, if_pos (by omega)]; omega⟩
          · obtain ⟨i, hi, e⟩ := key row (by omega) (by omega)
            exact ⟨i, hi, by rw [e, if_neg (by omega)]; omega⟩
        · obtain ⟨i, hi, e⟩ := key (k + 1) (by omega) (by omega)
          exact ⟨i, hi, by rw [e, if_pos (by omega)]; omega⟩
def wayP (r x : List Nat) (c q : Nat) : Option Nat := (List.range 4).find? (isputB r x c q)
def wayI (r x : List Nat) (c q : Int) : Option Nat := if (decide (0 ≤ c) && decide (c ≤ (r.length : Int) - 2)) = true ∧ (decide (0 ≤ q) && decide (q ≤ (r.length : Int) - 2)) = true then wayP r x c.toNat q.toNat else none
section
variable {n : Nat} {r x : List Nat} (G : Gd n r x)
include G
def tknE (r x : List Nat) (c q : Int) : Except Ex D := match wayI r x c q with
  | none => .error noM
  | some w => .ok (sqD (joinL r q.toNat (fuC c.toNat w)) (joinL x q.toNat (fuC c.toNat w)))
end
end L2
set_option Elab.async false
set_option linter.all false
set_option maxRecDepth 100000
set_option maxHeartbeats 4000000
namespace L2
open PySem PySem.Spec PyProof.Rows
/-- what a move may be -/
inductive Mo
  | cols (k : Int) | rows (k : Int) | tip | swap (c : Int) | cross (c : Int) | put (c w : Int) | take (c q : Int)
def Mo.d : Mo → D
  | .cols k => .tup [.str "columns", .int k]
  | .rows k => .tup [.str "rows", .int k]
  | .tip => .tup [.str "tip"]
  | .swap c => .tup [.str "swap", .int c]
  | .cross c => .tup [.str "cross", .int c]
  | .put c w => .tup [.str "put", .int c, .int w]
  | .take c q => .tup [.str "take", .int c, .int q]
def putE (n : Nat) (r x : List Nat) (c w : Int) : Except Ex D := if (decide (0 ≤ c) && decide (c < n)) = true ∧ (decide (0 ≤ w) && decide (w < 4)) = true then (if n < 6 then .ok (sqD (putL r (x.getD c.toNat 0) (frR (x.getD c.toNat 0) w.toNat) (fuC c.toNat w.toNat) (fuR (x.getD c.toNat 0) w.toNat)) (putL x (x.getD c.toNat 0) (fuR (x.getD c.toNat 0) w.toNat) (fuC c.toNat w.toNat) (frR (x.getD c.toNat 0) w.toNat))) else .error tooM) else .error noM
def chgE (r x : List Nat) (c : Int) : Except Ex D := if mayI r x c = true then .ok (sqD (exO r c.toNat (c.toNat + 1)) (exO x c.toNat (c.toNat + 1))) else .error noM
def rchE (r x : List Nat) (c : Int) : Except Ex D := if mayI (tipL r) (tipL x) c = true then .ok (sqD (tipL (exO (tipL r) c.toNat (c.toNat + 1))) (tipL (exO (tipL x) c.toNat (c.toNat + 1)))) else .error noM
def Mo.e (n : Nat) (r x : List Nat) : Mo → Except Ex D
  | .cols k => .ok (sqD (rotL r k) (rotL x k))
  | .rows k => .ok (sqD (raiL r k) (raiL x k))
  | .tip => .ok (sqD (tipL r) (tipL x))
  | .swap c => chgE r x c
  | .cross c => rchE r x c
  | .put c w => putE n r x c w
  | .take c q => tknE r x c q
/-- what a move leads to -/
inductive Led (r : Except Ex D) : Prop
  | ok {n : Nat} {r' x' : List Nat} (G : Gd n r' x') (e : r = .ok (sqD r' x'))
  | no (e : r = .error noM)
  | too (e : r = .error tooM)
end L2
set_option Elab.async false
set_option linter.all false
set_option maxRecDepth 100000
namespace L2
/-! lines of a square tipped over: walked the other way round -/
structure Fl (n : Nat) (S S' f : Nat → Nat) : Prop where
  H : Sh n S
  H' : Sh n S'
  lt : ∀ y, y < n → f y < n
  inj : ∀ y z, y < n → z < n → f y = f z → y = z
  sur : ∀ v, v < n → ∃ y, y < n ∧ f y = v
  back : ∀ y, y < n → S' (f (S y)) = f y
theorem rch_tr {S : Nat → Nat} {a b c : Nat} (h1 : rch S a b) (h2 : rch S b c) : rch S a c := by
  obtain ⟨i, rfl⟩ := h1
  obtain ⟨j, rfl⟩ := h2
  exact ⟨j + i, (itS_add S a i j).symm⟩
theorem itS_lt {n : Nat} {S : Nat → Nat} (H : Sh n S) {s : Nat} (hs : s < n) : ∀ k, itS S k s < n
  | 0 => hs
  | k + 1 => H.lt _ (itS_lt H hs k)
theorem itS_per {S : Nat → Nat} {s k : Nat} (h : itS S k s = s) : ∀ j, itS S (j + k) s = itS S j s := fun j => by rw [← itS_add, h]
theorem per_uniq {S : Nat → Nat} {m p q : Nat} (hp : 0 < p) (hq : 0 < q) (ep : itS S p m = m) (eq : itS S q m = m) (np : ((List.range p).map fun i => itS S i m).Nodup) (nq : ((List.range q).map fun i => itS S i m).Nodup) : p = q := by
  have key : ∀ {p q : Nat}, 0 < p → itS S p m = m → ((List.range q).map fun i => itS S i m).Nodup → ¬ p < q := fun {p q} hp ep nq h => by
    have e0 : ((List.range q).map fun i => itS S i m)[0]? = some m := by simp [Nat.lt_trans hp h]; rfl
    have e1 : ((List.range q).map fun i => itS S i m)[p]? = some m := by simp [h]; exact ep
    have := (List.getElem?_inj (by simp; omega) nq).mp (e0.trans e1.symm)
    omega
  have h1 := key hp ep nq
  have h2 := key hq eq np
  omega
def revF (f : Nat → Nat) (W : List Nat) : List Nat := (W.map f).reverse
section
variable {n : Nat} {S S' f : Nat → Nat} (F : Fl n S S' f)
include F
theorem Fl.step {s : Nat} (hs : s < n) : ∀ j i, itS S' j (f (itS S (j + i) s)) = f (itS S i s)
  | 0, i => by rw [Nat.zero_add]; rfl
  | j + 1, i => by
    show S' (itS S' j (f (itS S (j + 1 + i) s))) = _
    rw [show j + 1 + i = j + (i + 1) by omega, Fl.step hs j (i + 1)]
    exact F.back _ (itS_lt F.H hs i)
/-- the line walked back, from any of its places on -/
theorem Fl.turn {s : Nat} (hs : s < n) {W : List Nat} (C : Cy n S s W) {a : Nat} (ha : a < W.length) : (revF f W).drop a ++ (revF f W).take a = (List.range W.length).map (fun i => itS S' i ((revF f W).getD a 0)) ∧ itS S' W.length ((revF f W).getD a 0) = (revF f W).getD a 0 := by
  have vl : (revF f W).length = W.length := by simp [revF]
  have wk : ∀ k, k < W.length → W[k]? = some (itS S k s) := fun k hk => (congrArg (fun l : List Nat => l[k]?) C.eq).trans (by simp [hk])
  have at0 : ∀ j, j < W.length → (revF f W).getD j 0 = f (itS S (W.length - 1 - j) s) := fun j hj => by
    unfold revF
    rw [List.getD_eq_getElem?_getD, List.getElem?_reverse (by simpa using hj), List.length_map, List.getElem?_map]
    rw [wk (W.length - 1 - j) (by omega)]; rfl
  have wrap : ∀ j, j < W.length → itS S' j ((revF f W).getD 0 0) = (revF f W).getD j 0 := fun j hj => by
    rw [at0 0 C.pos, at0 j hj]
    have := F.step hs j (W.length - 1 - j)
    rw [show j + (W.length - 1 - j) = W.length - 1 - 0 by omega] at this
    exact this
  have per0 : itS S' W.length ((revF f W).getD 0 0) = (revF f W).getD 0 0 := by
    rw [at0 0 C.pos]
    have h1 := F.step hs W.length (W.length - 1)
    rw [show W.length + (W.length - 1) = (W.length - 1) + W.length by omega, itS_per C.per] at h1
    exact h1
  have gen : ∀ i, itS S' i ((revF f W).getD a 0) = itS S' (i + a) ((revF f W).getD 0 0) := fun i => by rw [← wrap a ha, itS_add]
  refine ⟨?_, ?_⟩
  · apply List.ext_getElem?
    intro i
    by_cases hi : i < W.length
    · have r1 : ((List.range W.length).map (fun i => itS S' i ((revF f W).getD a 0)))[i]? = some (itS S' (i + a) ((revF f W).getD 0 0)) := by simp [hi]; exact gen i
      rw [r1]
      by_cases h2 : i < W.length - a
      · rw [List.getElem?_append_left (by simp [vl]; omega), List.getElem?_drop, wrap (i + a) (by omega), List.getD_eq_getElem?_getD, Nat.add_comm a i, List.getElem?_eq_getElem (by omega)]; rfl
      · rw [List.getElem?_append_right (by simp [vl]; omega), List.length_drop, vl, List.getElem?_take, if_pos (by omega), show i + a = (i - (W.length - a)) + W.length by omega, itS_per per0, wrap _ (by omega), List.getD_eq_getElem?_getD, List.getElem?_eq_getElem (by omega)]; rfl
    · rw [List.getElem?_eq_none (by simp [vl]; omega), List.getElem?_eq_none (by simp; omega)]
  · rw [gen, Nat.add_comm, itS_per per0, wrap a ha]
theorem Fl.revnd {s : Nat} {W : List Nat} (C : Cy n S s W) : (revF f W).Nodup := by
  unfold revF
  rw [(List.reverse_perm _).nodup_iff, List.nodup_iff_pairwise_ne, List.pairwise_map]
  refine List.Pairwise.imp_of_mem ?_ C.nd
  intro a b ha hb h e
  exact h (F.inj _ _ (C.c.lt a ha) (C.c.lt b hb) e)
theorem Fl.rot {s : Nat} (hs : s < n) {W : List Nat} (C : Cy n S s W) {a : Nat} (ha : a < W.length) {U : List Nat} (C' : Cy n S' ((revF f W).getD a 0) U) : (revF f W).drop a ++ (revF f W).take a = U := by
  obtain ⟨t1, t2⟩ := F.turn hs C ha
  have nd : ((revF f W).drop a ++ (revF f W).take a).Nodup := by
    have : ((revF f W).drop a ++ (revF f W).take a).Perm (revF f W) := List.perm_append_comm.trans (by rw [List.take_append_drop])
    exact this.nodup_iff.mpr (F.revnd C)
  rw [t1] at nd ⊢
  have e := per_uniq C.pos C'.pos t2 C'.per nd (by rw [← C'.eq]; exact C'.nd)
  rw [e]; exact C'.eq.symm
/-- of the lines of the one square come the lines of the other -/
theorem Fl.lines {C C' : Nat → List Nat} (hC : ∀ s, s < n → Cy n S s (C s)) (hC' : ∀ s, s < n → Cy n S' s (C' s)) {m : Nat → Nat} (hm : ∀ s, s < n → m s ∈ revF f (C s) ∧ ∀ v ∈ revF f (C s), m s ≤ v) : (((List.range n).filter (ledB S)).map m).Perm ((List.range n).filter (ledB S')) := by
  have mf : ∀ {s v : Nat}, v ∈ revF f (C s) ↔ ∃ w, w ∈ C s ∧ f w = v := fun {s v} => by unfold revF; rw [List.mem_reverse, List.mem_map]
  have ml : ∀ s, s < n → m s < n := fun s hs => by
    obtain ⟨w, h1, h2⟩ := mf.mp (hm s hs).1
    rw [← h2]; exact F.lt _ ((hC s hs).c.lt w h1)
  have same : ∀ s, s < n → ∀ v, v ∈ C' (m s) ↔ v ∈ revF f (C s) := fun s hs v => by
    obtain ⟨i, hi, ei⟩ := List.getElem_of_mem (hm s hs).1
    have hi' : i < (C s).length := by simpa [revF] using hi
    have eg : (revF f (C s)).getD i 0 = m s := by rw [List.getD_eq_getElem?_getD, List.getElem?_eq_getElem hi]; exact ei
    have := F.rot hs (hC s hs) hi' (U := C' (m s)) (by rw [eg]; exact hC' _ (ml s hs))
    rw [← this]
    exact (List.perm_append_comm.trans (by rw [List.take_append_drop])).mem_iff
  rw [List.perm_ext_iff_of_nodup ?_ ((List.nodup_range).filter _)]
  · intro v
    rw [List.mem_map, List.mem_filter, List.mem_range]
    constructor
    · rintro ⟨s, hs, rfl⟩
      obtain ⟨hs, _⟩ := List.mem_filter.mp hs
      have hs := List.mem_range.mp hs
      refine ⟨ml s hs, ledB_iff.mpr fun z hz => ?_⟩
      exact (hm s hs).2 z ((same s hs z).mp (((hC' _ (ml s hs)).c.mem z).mpr hz))
    · rintro ⟨hv, lv⟩
      obtain ⟨y, hy, rfl⟩ := F.sur v hv
      have cy := hC y hy
      obtain ⟨s, s1, s2⟩ : ∃ s, s ∈ C y ∧ ∀ z ∈ C y, s ≤ z := by
        have ne : C y ≠ [] := fun e => by have := cy.pos; rw [e] at this; simp at this
        obtain ⟨s, e⟩ := Option.isSome_iff_exists.mp (List.isSome_min?_of_ne_nil ne)
        exact ⟨s, List.min?_mem e, fun z hz => (List.le_min?_iff e).mp (Nat.le_refl s) z hz⟩
      have hs := cy.c.lt s s1
      have ys := (cy.c.mem s).mp s1
      have sy := cy.c.back s s1
      refine ⟨s, List.mem_filter.mpr ⟨List.mem_range.mpr hs, ledB_iff.mpr fun z hz => s2 z ((cy.c.mem z).mpr (rch_tr ys hz))⟩, ?_⟩
      have vin : f y ∈ revF f (C s) := mf.mpr ⟨y, ((hC s hs).c.mem y).mpr sy, rfl⟩
      have h1 := (hm s hs).2 _ vin
      have h2 := (hC' _ (ml s hs)).c.back _ ((same s hs (f y)).mpr vin)
      have h3 := ledB_iff.mp lv _ h2
      omega
  · rw [List.nodup_iff_pairwise_ne, List.pairwise_map]
    refine List.Pairwise.imp_of_mem ?_ ((List.nodup_range (n := n)).filter (ledB S))
    intro s t hs ht h e
    obtain ⟨hs, ls⟩ := List.mem_filter.mp hs
    obtain ⟨ht, lt⟩ := List.mem_filter.mp ht
    have hs := List.mem_range.mp hs
    have ht := List.mem_range.mp ht
    obtain ⟨w, w1, w2⟩ := mf.mp (hm s hs).1
    obtain ⟨z, z1, z2⟩ := mf.mp (hm t ht).1
    have wz : w = z := F.inj _ _ ((hC s hs).c.lt w w1) ((hC t ht).c.lt z z1) (by rw [w2, z2, e])
    subst wz
    have a1 := ledB_iff.mp ls t (rch_tr (((hC s hs).c.mem w).mp w1) ((hC t ht).c.back w z1))
    have a2 := ledB_iff.mp lt s (rch_tr (((hC t ht).c.mem w).mp z1) ((hC s hs).c.back w w1))
    omega
end
end L2
set_option Elab.async false
set_option linter.all false
set_option maxRecDepth 100000
set_option maxHeartbeats 1000000
namespace L2
open PySem PySem.Spec PyProof.Rows
/-! ### what is said in common of crossings (k03, k04, k05) -/
theorem tidx_ev {n : Nat} {o : List Nat} (O : Ord n o) {v : Nat} (hv : v < n) : tidxF (tupN o) (nI v) = some (nI (o.idxOf v)) := by
  obtain ⟨j, h1, h2, h3⟩ := findN v o (O.has hv)
  show (if deps (o.map nI) ≤ 32 then (idxD (o.map nI) (nI v)).map (fun j => D.int j) else none) = _
  rw [if_pos (by rw [deps_N]; omega)]
  unfold idxD
  rw [h1]
  have : j = o.idxOf v := by
    have := idx_of O (c := j) (by rw [← O.len]; exact h2)
    rw [h3] at this; exact this.symm
  rw [← this]; rfl
theorem filter_one {p : Nat → Bool} {j : Nat} : ∀ {n : Nat}, j < n → (∀ i, i < n → (p i = true ↔ i = j)) → (List.range n).filter p = [j]
  | 0, h, _ => absurd h (Nat.not_lt_zero _)
  | n + 1, hj, h => by
    rw [List.range_succ, List.filter_append]
    by_cases e : j = n
    · subst e
      have e1 : (List.range j).filter p = [] := List.filter_eq_nil_iff.mpr fun a ha q => by
        rw [List.mem_range] at ha
        have := (h a (by omega)).mp q
        omega
      rw [e1, List.filter_cons_of_pos ((h j (by omega)).mpr rfl)]; rfl
    · rw [filter_one (n := n) (by omega) fun i hi => h i (by omega), List.filter_cons_of_neg fun q => e ((h n (by omega)).mp q).symm]; rfl
theorem eqN_ev (a b : Nat) : eqF (nI a) (nI b) = some (.bl (decide (a = b))) := by rw [eqF_ev (by rw [dep_int]; omega), eqD_nI]
theorem forL_up {g : FG} {b : FS} {P : Nat → Rho → Prop} : ∀ (k j : Nat), (∀ i ρ, j ≤ i → i < j + k → P i ρ → ∃ ρ1 ρ2, g (nI i) ρ = some ρ1 ∧ b ρ1 = .nx ρ2 ∧ P (i + 1) ρ2) → ∀ ρ, P j ρ → ∃ ρ', forL g b ((List.range' j k).map nI) ρ = .nx ρ' ∧ P (j + k) ρ'
  | 0, j, _, ρ, p => ⟨ρ, rfl, p⟩
  | k + 1, j, h, ρ, p => by
    obtain ⟨ρ1, ρ2, h1, h2, p2⟩ := h j ρ (Nat.le_refl _) (by omega) p
    obtain ⟨ρ', e, p'⟩ := forL_up k (j + 1) (fun i ρ a b => h i ρ (by omega) (by omega)) ρ2 p2
    refine ⟨ρ', ?_, by rw [show j + (k + 1) = j + 1 + k by omega]; exact p'⟩
    rw [List.range'_succ, List.map_cons]
    exact (forL_cons h1 h2).trans e
theorem ups_NN (a b : Nat) : ups (a : Int) ((b : Int) - a).toNat = (List.range' a (b - a)).map nI := by
  unfold ups
  rw [show ((b : Int) - a).toNat = b - a by omega, List.range_eq_range', List.range'_eq_map_range, List.range'_eq_map_range, List.map_map, List.map_map]
  refine List.map_congr_left fun i _ => ?_
  show D.int _ = D.int _
  congr 1
  simp
theorem rngA2_at {f : FA} {ρ : Rho} {a b : Nat} (h : f ρ = some [nI a, nI b]) (ha : a ≤ 1000) (hb : b ≤ 1000) : rngA2 f ρ = some ((List.range' a (b - a)).map nI) := by
  unfold rngA2
  rw [h]
  show (if (a : Int).natAbs < 4000000000 ∧ (b : Int).natAbs < 4000000000 then some (ups (a : Int) ((b : Int) - a).toNat) else none) = _
  rw [if_pos ⟨by omega, by omega⟩, ups_NN]
theorem cellsK (ns : List Int) (k : Nat) (hk : 1 ≤ k) (ρ : Rho) (h : nmF 0 ρ = some (scD ns)) : ∃ m : Nat, m ≤ k ∧ callF max2D (consA (cst (.int 1)) (consA (callF min2D (consA (cst (.int k)) (consA (callF lenD (consA (nmF 0) (nilA))) (nilA)))) (nilA))) ρ = some (nI m) := by
  have e1 : callF lenD (consA (nmF 0) nilA) ρ = some (nI ns.length) := by
    rw [callF_at (consA_at h rfl)]
    show some (D.int ((ns.map D.int).length : Int)) = _
    rw [List.length_map]
  refine ⟨max 1 (min k ns.length), by omega, ?_⟩
  refine (callF_at (consA_at rfl (consA_at ((callF_at (consA_at rfl (consA_at e1 rfl))).trans rfl) rfl))).trans ?_
  show some (D.int _) = some (D.int _)
  congr 2
  split <;> split <;> omega
theorem mn_at {a b : Nat} {f : FA} {ρ : Rho} (h : f ρ = some [nI a, nI b]) : callF min2D f ρ = some (nI (min a b)) := by
  rw [callF_at h]
  show some (D.int _) = some (D.int _)
  congr 2
  split <;> omega
theorem mx_at {a b : Nat} {f : FA} {ρ : Rho} (h : f ρ = some [nI a, nI b]) : callF max2D f ρ = some (nI (max a b)) := by
  rw [callF_at h]
  show some (D.int _) = some (D.int _)
  congr 2
  split <;> omega
theorem bt_comm (v a b : Nat) : btB v a b = btB v b a := by unfold btB; rw [Nat.min_comm, Nat.max_comm]
theorem rng_flt {n a k : Nat} (h : a + k ≤ n) : (List.range n).filter (fun v => decide (a ≤ v) && decide (v < a + k)) = List.range' a k := by
  obtain ⟨m, rfl⟩ := Nat.exists_eq_add_of_le h
  rw [List.range_eq_range', show a + k + m = a + (k + m) by omega, ← List.range'_append_1, ← List.range'_append_1 (s := 0 + a), List.filter_append, List.filter_append]
  rw [List.filter_eq_nil_iff.mpr, List.filter_eq_self.mpr, List.filter_eq_nil_iff.mpr]
  · simp
  · intro v hv
    rw [List.mem_range'_1] at hv
    simp; omega
  · intro v hv
    rw [List.mem_range'_1] at hv
    simp; omega
  · intro v hv
    rw [List.mem_range'_1] at hv
    simp; omega
theorem rng_bt {n a b : Nat} (ha : a < n) (hb : b < n) : List.range' (min a b + 1) (max a b - (min a b + 1)) = (List.range n).filter fun v => btB v a b := by
  rw [← rng_flt (n := n) (by omega)]
  refine List.filter_congr fun v _ => ?_
  unfold btB
  rw [Bool.eq_iff_iff]
  simp only [Bool.and_eq_true, decide_eq_true_eq]
  omega
/-! dicts with tuple keys -/
theorem intK_of : ∀ ns : List Int, intKs.intK (iK ns) = some ns
  | [] => rfl
  | n :: ns => by
    show (intKs.intK (iK ns)).map (n :: ·) = _
    rw [intK_of ns]; rfl
theorem iK_inj {a b : List Int} (h : iK a = iK b) : a = b := by
  have := congrArg intKs.intK h
  rw [intK_of, intK_of] at this
  exact Option.some.inj this
theorem valT_put (kvs : DTs) (k k' : List Key) (d : D) : valT (putT kvs k d) k' = if k' = k then some d else valT kvs k' := by
  unfold putT valT
  split
  · rename_i h
    induction kvs with
    | nil => simp at h
    | cons p kvs ih =>
      rw [List.map_cons]
      by_cases e : p.1 = k
      · rw [if_pos e, List.find?_cons]
        by_cases e2 : k' = k
        · rw [if_pos e2, e2]; simp [e]
        · rw [if_neg e2, List.find?_cons]
          have e3 : decide (p.1 = k') = false := decide_eq_false fun w => e2 (w.symm.trans e)
          simp only [e3]
          by_cases h' : (kvs.any fun kv => decide (kv.1 = k)) = true
          · have := ih h'; rw [if_neg e2] at this; exact this
          · have : kvs.map (fun kv => if kv.1 = k then (kv.1, d) else kv) = kvs := by
              refine (List.map_congr_left fun q hq => ?_).trans (List.map_id _)
              rw [if_neg]; rfl
              intro w
              exact h' (List.any_eq_true.mpr ⟨q, hq, decide_eq_true w⟩)
            rw [this]
      · have h' : (kvs.any fun kv => decide (kv.1 = k)) = true := by
          rw [List.any_cons, decide_eq_false e, Bool.false_or] at h; exact h
        rw [if_neg e, List.find?_cons, List.find?_cons]
        by_cases e2 : p.1 = k'
        · rw [decide_eq_true e2, if_neg (fun w => e (e2.trans w))]
        · rw [decide_eq_false e2]; exact ih h'
  · rename_i h
    have h : ∀ q ∈ kvs, q.1 ≠ k := fun q hq w => h (List.any_eq_true.mpr ⟨q, hq, decide_eq_true w⟩)
    rw [List.find?_append]
    by_cases e : k' = k
    · subst e
      rw [if_pos rfl, List.find?_eq_none.mpr (fun q hq => by simpa using h q hq)]
      simp
    · rw [if_neg e]
      have : (List.find? (fun kv : List Key × D => decide (kv.1 = k')) [(k, d)]) = none := by
        rw [List.find?_cons, decide_eq_false (fun w => e w.symm)]; rfl
      rw [this, Option.or_none]
theorem put_new {kvs : DTs} {k : List Key} (h : valT kvs k = none) (d : D) : putT kvs k d = kvs ++ [(k, d)] := by
  unfold putT
  rw [if_neg]
  intro w
  obtain ⟨q, hq, e⟩ := List.any_eq_true.mp w
  unfold valT at h
  rw [Option.map_eq_none_iff, List.find?_eq_none] at h
  exact h q hq e
/-- puts in a loop, each of a key that was not there -/
theorem put_loop {α : Type} {i : Nat} {g : FG} {fs : FA} {fv : FE} {h : α → D} {key : α → List Int} {v : α → D} {st : DTs → Sl → Rho} {Q : α → Prop}
    (hg : ∀ kvs s a, g (h a) (st kvs s) = some (st kvs (.v (h a)))) (hf : ∀ kvs a, Q a → fs (st kvs (.v (h a))) = some ((key a).map D.int)) (hv : ∀ kvs a, Q a → fv (st kvs (.v (h a))) = some (v a))
    (ht : ∀ kvs s, getT i (st kvs s) = some kvs) (hs : ∀ kvs kvs' s, (st kvs s).set i (.ob (.dT kvs')) = st kvs' s) (hk : ∀ a, (key a).length ≤ 1000) :
    ∀ (l : List α) (kvs : DTs) (s : Sl), (∀ a ∈ l, Q a) → kvs.length + l.length ≤ 900 → (∀ a ∈ l, valT kvs (iK (key a)) = none) → (l.map key).Nodup →
      ∃ s', forL g (dputT i fs fv) (l.map h) (st kvs s) = .nx (st (kvs ++ l.map fun a => (iK (key a), v a)) s')
  | [], kvs, s, _, _, _, _ => ⟨s, by rw [List.map_nil, List.map_nil, List.append_nil]; rfl⟩
  | a :: l, kvs, s, hq, hl, hn, nd => by
    rw [List.map_cons, List.nodup_cons] at nd
    rw [List.length_cons] at hl
    have e1 : dputT i fs fv (st kvs (.v (h a))) = .nx (st (kvs ++ [(iK (key a), v a)]) (.v (h a))) := by
      unfold dputT
      rw [ht, hv _ _ (hq a List.mem_cons_self), hf _ _ (hq a List.mem_cons_self), Option.bind_some, intsD_of]
      dsimp only
      rw [if_pos ⟨by omega, hk a⟩, hs, put_new (hn a List.mem_cons_self)]
    obtain ⟨s', h'⟩ := put_loop hg hf hv ht hs hk l (kvs ++ [(iK (key a), v a)]) (.v (h a)) (fun b hb => hq b (List.mem_cons_of_mem _ hb)) (by rw [List.length_append, List.length_singleton]; omega) (fun b hb => by
      rw [← put_new (hn a List.mem_cons_self), valT_put, if_neg fun w => nd.1 ?_]
      · exact hn b (List.mem_cons_of_mem _ hb)
      · rw [← iK_inj w]; exact List.mem_map_of_mem hb) nd.2
    refine ⟨s', ?_⟩
    rw [List.map_cons, List.map_cons]
    refine (forL_cons (hg _ _ _) e1).trans (h'.trans ?_)
    rw [List.append_assoc]; rfl
theorem valT_map {α : Type} {key : α → List Int} {v : α → D} {l : List α} {a : α} (ha : a ∈ l) (inj : ∀ b ∈ l, key b = key a → v b = v a) : valT (l.map fun a => (iK (key a), v a)) (iK (key a)) = some (v a) := by
  unfold valT
  induction l with
  | nil => cases ha
  | cons b l ih =>
    rw [List.map_cons, List.find?_cons]
    by_cases e : key b = key a
    · dsimp only
      rw [decide_eq_true (by rw [e])]
      show some (v b) = _
      rw [inj b List.mem_cons_self e]
    · dsimp only
      rw [decide_eq_false (fun w => e (iK_inj w))]
      rcases List.mem_cons.mp ha with rfl | ha
      · exact absurd rfl e
      · exact ih ha fun c hc => inj c (List.mem_cons_of_mem _ hc)
theorem valT_none {α : Type} {key : α → List Int} {v : α → D} {l : List α} {k : List Int} (h : ∀ b ∈ l, key b ≠ k) : valT (l.map fun a => (iK (key a), v a)) (iK k) = none := by
  unfold valT
  rw [Option.map_eq_none_iff, List.find?_eq_none]
  intro q hq
  obtain ⟨b, hb, rfl⟩ := List.mem_map.mp hq
  simpa using fun w => h b hb (iK_inj w)
theorem intKs_of {α : Type} {key : α → List Int} {v : α → D} : ∀ l : List α, intKs (l.map fun a => (iK (key a), v a)) = some (l.map key)
  | [] => rfl
  | a :: l => by
    show (intKs.intK (iK (key a))).bind (fun ns => (intKs (l.map fun a => (iK (key a), v a))).map (ns :: ·)) = _
    rw [intK_of, intKs_of l]; rfl
/-! crossings -/
def crB (r x : List Nat) (c y : Nat) : Bool := btB y (r.getD c 0) (x.getD c 0) && btB c (r.idxOf y) (x.idxOf y)
def sgB (r x : List Nat) (c y : Nat) : Int := if decide (x.getD c 0 < r.getD c 0) = decide (r.idxOf y < x.idxOf y) then -1 else 1
def crK (n : Nat) (r x : List Nat) : List (List Int) := (List.range n).flatMap fun c => ((List.range n).filter (crB r x c)).map fun (y : Nat) => [(c : Int), (y : Int), sgB r x c y]
theorem crK_len (n : Nat) (r x : List Nat) (hn : n ≤ 6) : (crK n r x).length ≤ 36 := by
  have : ∀ (l : List Nat), (l.flatMap fun c => ((List.range n).filter (crB r x c)).map fun (y : Nat) => [(c : Int), (y : Int), sgB r x c y]).length ≤ l.length * 6 := by
    intro l
    induction l with
    | nil => simp
    | cons c l ih =>
      rw [List.flatMap_cons, List.length_append, List.length_cons, List.length_map]
      have := List.length_filter_le (crB r x c) (List.range n)
      rw [List.length_range] at this
      omega
  have h := this (List.range n)
  rw [List.length_range] at h
  unfold crK; omega
/-- the cells that columns pass -/
def upP (n : Nat) (r x : List Nat) (m : Nat) : List (Nat × Nat) := (List.range m).flatMap fun c => ((List.range n).filter fun y => btB y (x.getD c 0) (r.getD c 0)).map fun y => (c, y)
def keyP (p : Nat × Nat) : List Int := [(p.1 : Int), (p.2 : Int)]
theorem keyP_inj {p q : Nat × Nat} (h : keyP p = keyP q) : p = q := by
  unfold keyP at h
  injection h with h1 h2
  injection h2 with h2 _
  exact Prod.ext (by omega) (by omega)
theorem upP_mem {n : Nat} {r x : List Nat} {m : Nat} {p : Nat × Nat} : p ∈ upP n r x m ↔ p.1 < m ∧ p.2 < n ∧ btB p.2 (x.getD p.1 0) (r.getD p.1 0) = true := by
  unfold upP
  rw [List.mem_flatMap]
  constructor
  · rintro ⟨c, hc, h⟩
    obtain ⟨y, hy, rfl⟩ := List.mem_map.mp h
    rw [List.mem_filter, List.mem_range] at hy
    exact ⟨List.mem_range.mp hc, hy.1, hy.2⟩
  · rintro ⟨h1, h2, h3⟩
    exact ⟨p.1, List.mem_range.mpr h1, List.mem_map.mpr ⟨p.2, List.mem_filter.mpr ⟨List.mem_range.mpr h2, h3⟩, rfl⟩⟩
theorem upP_succ (n : Nat) (r x : List Nat) (m : Nat) : upP n r x (m + 1) = upP n r x m ++ ((List.range n).filter fun y => btB y (x.getD m 0) (r.getD m 0)).map fun y => (m, y) := by
  unfold upP
  rw [List.range_succ, List.flatMap_append, List.flatMap_singleton]
theorem upP_len (n : Nat) (r x : List Nat) : ∀ m, (upP n r x m).length ≤ m * n
  | 0 => by simp [upP]
  | m + 1 => by
    rw [upP_succ, List.length_append, List.length_map]
    have := upP_len n r x m
    have h := List.length_filter_le (fun y => btB y (x.getD m 0) (r.getD m 0)) (List.range n)
    rw [List.length_range] at h
    rw [Nat.add_mul, Nat.one_mul]; omega
theorem upP_pw (n : Nat) (r x : List Nat) (m : Nat) : ((upP n r x m).map keyP).Pairwise (fun a b => lexB b a = false) := by
  unfold upP
  rw [List.pairwise_map, List.pairwise_flatMap]
  refine ⟨fun c _ => ?_, List.pairwise_lt_range.imp fun {c c'} h a ha b hb => ?_⟩
  · rw [List.pairwise_map]
    refine (List.Pairwise.filter _ List.pairwise_lt_range).imp fun {y y'} h => ?_
    unfold keyP lexB lexB
    rw [if_pos rfl, if_neg (by dsimp only; omega)]
    simp only [decide_eq_false_iff_not]; omega
  · obtain ⟨y, _, rfl⟩ := List.mem_map.mp ha
    obtain ⟨y', _, rfl⟩ := List.mem_map.mp hb
    unfold keyP lexB
    rw [if_neg (by dsimp only; omega)]
    simp only [decide_eq_false_iff_not]; omega
/-- the cells that rows pass -/
def lvP (n : Nat) (r x : List Nat) (m : Nat) : List (Nat × Nat) := (List.range m).flatMap fun y => ((List.range n).filter fun c => btB c (r.idxOf y) (x.idxOf y)).map fun c => (c, y)
theorem lvP_mem {n : Nat} {r x : List Nat} {m : Nat} {p : Nat × Nat} : p ∈ lvP n r x m ↔ p.2 < m ∧ p.1 < n ∧ btB p.1 (r.idxOf p.2) (x.idxOf p.2) = true := by
  unfold lvP
  rw [List.mem_flatMap]
  constructor
  · rintro ⟨c, hc, h⟩
    obtain ⟨y, hy, rfl⟩ := List.mem_map.mp h
    rw [List.mem_filter, List.mem_range] at hy
    exact ⟨List.mem_range.mp hc, hy.1, hy.2⟩
  · rintro ⟨h1, h2, h3⟩
    exact ⟨p.2, List.mem_range.mpr h1, List.mem_map.mpr ⟨p.1, List.mem_filter.mpr ⟨List.mem_range.mpr h2, h3⟩, rfl⟩⟩
theorem lvP_succ (n : Nat) (r x : List Nat) (m : Nat) : lvP n r x (m + 1) = lvP n r x m ++ ((List.range n).filter fun c => btB c (r.idxOf m) (x.idxOf m)).map fun c => (c, m) := by
  unfold lvP
  rw [List.range_succ, List.flatMap_append, List.flatMap_singleton]
theorem lvP_len (n : Nat) (r x : List Nat) : ∀ m, (lvP n r x m).length ≤ m * n
  | 0 => by simp [lvP]
  | m + 1 => by
    rw [lvP_succ, List.length_append, List.length_map]
    have := lvP_len n r x m
    have h := List.length_filter_le (fun c => btB c (r.idxOf m) (x.idxOf m)) (List.range n)
    rw [List.length_range] at h
    rw [Nat.add_mul, Nat.one_mul]; omega
def sgn (b : Bool) : Int := if b then 1 else -1
def upV (r x : List Nat) (p : Nat × Nat) : D := .int (sgn (decide (x.getD p.1 0 < r.getD p.1 0)))
def lvV (r x : List Nat) (p : Nat × Nat) : D := .int (sgn (decide (r.idxOf p.2 < x.idxOf p.2)))
def upT (n : Nat) (r x : List Nat) (m : Nat) : DTs := (upP n r x m).map fun p => (iK (keyP p), upV r x p)
def lvT (n : Nat) (r x : List Nat) (m : Nat) : DTs := (lvP n r x m).map fun p => (iK (keyP p), lvV r x p)
theorem crK_up (n : Nat) (r x : List Nat) : ((upP n r x n).filter fun p => btB p.1 (r.idxOf p.2) (x.idxOf p.2)).map (fun p => [(p.1 : Int), (p.2 : Int), sgB r x p.1 p.2]) = crK n r x := by
  unfold upP crK
  rw [List.filter_flatMap, List.map_flatMap]
  congr 1
  funext c
  rw [List.filter_map, List.map_map, List.filter_filter]
  congr 1
  refine List.filter_congr fun y _ => ?_
  unfold crB
  rw [bt_comm y (x.getD c 0), Bool.and_comm]
  rfl
end L2
set_option Elab.async false
set_option linter.all false
set_option maxRecDepth 100000
set_option maxHeartbeats 4000000
namespace L2
open PySem PySem.Spec PyProof.Rows
def top (i : Nat) : Stmt := PySem.Challenge.pw_rookborders_k03_crossings.main.body.getD i (.Pass ⟨0, 0, 0, 0⟩)
structure Bt (mg : Str → Option Value) : Prop where
  b_abs : mg "abs" = none
  b_all : mg "all" = none
  b_any : mg "any" = none
  b_bool : mg "bool" = none
  b_int : mg "int" = none
  b_isinstance : mg "isinstance" = none
  b_len : mg "len" = none
  b_list : mg "list" = none
  b_max : mg "max" = none
  b_min : mg "min" = none
  b_range : mg "range" = none
  b_sorted : mg "sorted" = none
  b_tuple : mg "tuple" = none
theorem nd_0 : (["square", "size", "column", "row"] : List Str).Nodup := by decide +kernel
theorem nd_1 : (["_law_bag_here", "_law_n", "_law_plain", "_law_by", "_law_rings", "_law_crosses", "_law_c", "_law_d", "_law_row"] : List Str).Nodup := by decide +kernel
theorem nd_2 : (["_law_square_here", "_law_n", "_law_upright", "_law_level", "?_law_column", "_law_begin", "_law_end", "_law_row", "_law_column"] : List Str).Nodup := by decide +kernel
theorem nd_3 : (["_law_square_here", "_law_found", "_law_crossing", "_law_number"] : List Str).Nodup := by decide +kernel
theorem nd_4 : (["_law_script", "_law_k", "_law_bag_here", "?_law_square_here", "_law_some", "_law_square_here"] : List Str).Nodup := by decide +kernel
section
variable {P : Program} {w : World} {K : PySem.W.Frag} {mg : Str → Option Value} {base : Heap}
abbrev s_lies_between : Stmt := top 1
abbrev s_goes_up : Stmt := top 2
abbrev s_goes_right : Stmt := top 3
abbrev s_is_crossing : Stmt := top 4
abbrev s_sign_at : Stmt := top 5
abbrev s_crossings_of : Stmt := top 6
abbrev s_law_cell : Stmt := top 8
abbrev s_law_bag : Stmt := top 9
abbrev s_law_take : Stmt := top 10
abbrev s_law_order : Stmt := top 11
abbrev s_law_square : Stmt := top 12
abbrev s_law_ways : Stmt := top 13
abbrev s_law_crossings : Stmt := top 14
abbrev s_law_good : Stmt := top 15
abbrev s_law : Stmt := top 16
theorem sc_lies_between : FnScope ["at", "one", "other"] ["at", "one", "other"] (defScope s_lies_between) := ⟨rfl, rfl, rfl, by decide +kernel, rfl, by decide +kernel, by decide +kernel⟩
def t_lies_between : FS :=
  retF (ch3 ltF ltF (callF min2D (consA (nmF 1) (consA (nmF 2) (nilA)))) (nmF 0) (callF max2D (consA (nmF 1) (consA (nmF 2) (nilA)))))
def m_lies_between : List D → Option D := fnP .s 3 t_lies_between
theorem k_lies_between (B : Bt mg) (F : Df K mg "lies_between" s_lies_between ["at", "one", "other"])  : Cl P w K mg base 1 "lies_between" ["at", "one", "other"] (spP K .s 3 m_lies_between) := by
  refine cl_pure (k := 0) F sc_lies_between (by decide) rfl fun _ cdv A outer s H hid E hr => ?_
  exact (dss_one (ds_ret (dp_ch op_lt op_lt od_B0 od_B0 (dp_callB (call_min2 rfl) cd_min2 B.b_min (db_cons (dp_nm 1) (db_cons (dp_nm 2) db_nil)) (hv := by kernel_rfl)) (dp_nm 0) (dp_callB (call_max2 rfl) cd_max2 B.b_max (db_cons (dp_nm 1) (db_cons (dp_nm 2) db_nil)) (hv := by kernel_rfl)))))
theorem sc_goes_up : FnScope ["square", "column", "rings", "crosses"] ["square", "column"] (defScope s_goes_up) := ⟨rfl, rfl, rfl, by decide +kernel, rfl, by decide +kernel, by decide +kernel⟩
def t_goes_up : FS :=
  seqS (asgE (gT 2 (gsC (gN 2) (gsC (gN 3) (gsN)))) (pu (nmF 0)))
  (retF (op2 ltF (op2 ixD (nmF 3) (nmF 1)) (op2 ixD (nmF 2) (nmF 1))))
def m_goes_up : List D → Option D := fnP .s 4 t_goes_up
theorem k_goes_up (B : Bt mg) (F : Df K mg "goes_up" s_goes_up ["square", "column"])  : Cl P w K mg base 1 "goes_up" ["square", "column"] (spP K .s 2 m_goes_up) := by
  refine cl_pure (k := 0) F sc_goes_up (by decide) rfl fun _ cdv A outer s H hid E hr => ?_
  exact (dss_cons (ds_asg (DP.ef (dp_nm 0)) (dgt_tup (n := 2) rfl (dgs_cons (dgt_name 2 sc_goes_up.nd) (dgs_cons (dgt_name 3 sc_goes_up.nd) dgs_nil))))
      (dss_one (ds_ret (dp_cmp op_lt od_B0 (dp_ix ix_seq od_ix (dp_nm 3) (dp_nm 1) (fun _ _ => rfl)) (dp_ix ix_seq od_ix (dp_nm 2) (dp_nm 1) (fun _ _ => rfl)) (nomark _)))))
theorem sc_goes_right : FnScope ["square", "row", "rings", "crosses"] ["square", "row"] (defScope s_goes_right) := ⟨rfl, rfl, rfl, by decide +kernel, rfl, by decide +kernel, by decide +kernel⟩
def t_goes_right : FS :=
  seqS (asgE (gT 2 (gsC (gN 2) (gsC (gN 3) (gsN)))) (pu (nmF 0)))
  (retF (op2 ltF (op2 tidxF (nmF 2) (nmF 1)) (op2 tidxF (nmF 3) (nmF 1))))
def m_goes_right : List D → Option D := fnP .s 4 t_goes_right
theorem k_goes_right (B : Bt mg) (F : Df K mg "goes_right" s_goes_right ["square", "row"])  : Cl P w K mg base 1 "goes_right" ["square", "row"] (spP K .s 2 m_goes_right) := by
  refine cl_pure (k := 0) F sc_goes_right (by decide) rfl fun _ cdv A outer s H hid E hr => ?_
  exact (dss_cons (ds_asg (DP.ef (dp_nm 0)) (dgt_tup (n := 2) rfl (dgs_cons (dgt_name 2 sc_goes_right.nd) (dgs_cons (dgt_name 3 sc_goes_right.nd) dgs_nil))))
      (dss_one (ds_ret (dp_cmp op_lt od_B0 (dp_tupIndex hr.units (dp_nm 2) (dp_nm 1)) (dp_tupIndex hr.units (dp_nm 3) (dp_nm 1)) (nomark _)))))
theorem sc_is_crossing : FnScope ["square", "column", "row", "rings", "crosses"] ["square", "column", "row"] (defScope s_is_crossing) := ⟨rfl, rfl, rfl, by decide +kernel, rfl, by decide +kernel, by decide +kernel⟩
def t_is_crossing : FS :=
  seqS (asgE (gT 2 (gsC (gN 3) (gsC (gN 4) (gsN)))) (pu (nmF 0)))
  (seqS (ifS (not1 (tru1 (callF (nF 3 m_lies_between) (consA (nmF 2) (consA (op2 ixD (nmF 3) (nmF 1)) (consA (op2 ixD (nmF 4) (nmF 1)) (nilA))))))) (retF (cst (.bl false))) (skip))
  (retF (callF (nF 3 m_lies_between) (consA (nmF 1) (consA (op2 tidxF (nmF 3) (nmF 2)) (consA (op2 tidxF (nmF 4) (nmF 2)) (nilA)))))))
def m_is_crossing : List D → Option D := fnP .s 5 t_is_crossing
theorem k_is_crossing (B : Bt mg) (F : Df K mg "is_crossing" s_is_crossing ["square", "column", "row"]) (c_lies_between : Cl P w K mg base 1 "lies_between" ["at", "one", "other"] (spP K .s 3 m_lies_between)) : Cl P w K mg base 2 "is_crossing" ["square", "column", "row"] (spP K .s 3 m_is_crossing) := by
  refine cl_pure (k := 1) F sc_is_crossing (by decide) rfl fun _ cdv A outer s H hid E hr => ?_
  exact (dss_cons (ds_asg (DP.ef (dp_nm 0)) (dgt_tup (n := 2) rfl (dgs_cons (dgt_name 3 sc_is_crossing.nd) (dgs_cons (dgt_name 4 sc_is_crossing.nd) dgs_nil))))
      (dss_cons (ds_if (dt_not (dt_val (dp_cl c_lies_between (hr.mono (by decide)) (da_cons (dp_nm 2) (da_cons (dp_ix ix_seq od_ix (dp_nm 3) (dp_nm 1) (fun _ _ => rfl)) (da_cons (dp_ix ix_seq od_ix (dp_nm 4) (dp_nm 1) (fun _ _ => rfl)) da_nil)))))) (dss_one (ds_ret dp_bl)) dss_nil)
      (dss_one (ds_ret (dp_cl c_lies_between (hr.mono (by decide)) (da_cons (dp_nm 1) (da_cons (dp_tupIndex hr.units (dp_nm 3) (dp_nm 2)) (da_cons (dp_tupIndex hr.units (dp_nm 4) (dp_nm 2)) da_nil))))))))
theorem sc_sign_at : FnScope ["square", "column", "row"] ["square", "column", "row"] (defScope s_sign_at) := ⟨rfl, rfl, rfl, by decide +kernel, rfl, by decide +kernel, by decide +kernel⟩
def t_sign_at : FS :=
  retF (ifF (toB (op2 neF (callF (nF 2 m_goes_up) (consA (nmF 0) (consA (nmF 1) (nilA)))) (callF (nF 2 m_goes_right) (consA (nmF 0) (consA (nmF 2) (nilA)))))) (cst (.int 1)) (neg1 (cst (.int 1))))
def m_sign_at : List D → Option D := fnP .s 3 t_sign_at
theorem k_sign_at (B : Bt mg) (F : Df K mg "sign_at" s_sign_at ["square", "column", "row"]) (c_goes_up : Cl P w K mg base 1 "goes_up" ["square", "column"] (spP K .s 2 m_goes_up)) (c_goes_right : Cl P w K mg base 1 "goes_right" ["square", "row"] (spP K .s 2 m_goes_right)) : Cl P w K mg base 2 "sign_at" ["square", "column", "row"] (spP K .s 3 m_sign_at) := by
  refine cl_pure (k := 1) F sc_sign_at (by decide) rfl fun _ cdv A outer s H hid E hr => ?_
  exact (dss_one (ds_ret (dp_if (by decide) (dt_cmp (op_neD hr.units) od_ne (dp_cl c_goes_up (hr.mono (by decide)) (da_cons (dp_nm 0) (da_cons (dp_nm 1) da_nil))) (dp_cl c_goes_right (hr.mono (by decide)) (da_cons (dp_nm 0) (da_cons (dp_nm 2) da_nil))) (nomark _)) dp_int (dp_neg' dp_int))))
theorem sc_crossings_of : FnScope ["square", "size"] ["square"] (defScope s_crossings_of) := ⟨rfl, rfl, rfl, by decide +kernel, rfl, by decide +kernel, by decide +kernel⟩
def t_crossings_of : FS :=
  seqS (setF 1 (callF lenD (consA (op2 ixD (nmF 0) (cst (.int 0))) (nilA))))
  (retF (cp2F 2 (rngA1 (consA (nmF 1) (nilA))) (gN 2) (yesT) (rngA1 (consA (nmF 1) (nilA))) (gN 3) (tru1 (callF (nF 3 m_is_crossing) (consA (nmF 0) (consA (nmF 2) (consA (nmF 3) (nilA)))))) (tupF (consA (nmF 2) (consA (nmF 3) (consA (callF (nF 3 m_sign_at) (consA (nmF 0) (consA (nmF 2) (consA (nmF 3) (nilA))))) (nilA)))))))
def m_crossings_of : List D → Option D := fnP .n 2 t_crossings_of
theorem k_crossings_of (B : Bt mg) (F : Df K mg "crossings_of" s_crossings_of ["square"]) (c_sign_at : Cl P w K mg base 2 "sign_at" ["square", "column", "row"] (spP K .s 3 m_sign_at)) (c_is_crossing : Cl P w K mg base 2 "is_crossing" ["square", "column", "row"] (spP K .s 3 m_is_crossing)) : Cl P w K mg base 3 "crossings_of" ["square"] (spP K .n 1 m_crossings_of) := by
  refine cl_pure (k := 2) F sc_crossings_of (by decide) rfl fun _ cdv A outer s H hid E hr => ?_
  exact (dss_cons (ds_setF 1 sc_crossings_of.nd (dp_callB call_len_seq cd_len B.b_len (db_cons (dp_ix ix_seq od_ix (dp_nm 0) dp_int (fun _ _ => rfl)) db_nil) (hv := by kernel_rfl)))
      (dss_one (ds_ret (dp_comp2 (N' := ["square", "size", "column", "row"]) rfl 3 (tail_n (Nat.le_of_ble_eq_true rfl)) (up_n (Nat.le_of_ble_eq_true rfl)) (tail_n (Nat.le_of_ble_eq_true rfl)) (DIp.b (dip_range1 B.b_range (da_cons (dp_nm 1) da_nil))) (fun _ _ _ _ => (dgt_name 2 nd_0)) (fun _ _ _ _ => dif_nil) (fun _ _ _ _ => (dip_range1 B.b_range (da_cons (dp_nm 1) da_nil))) (fun _ _ _ _ => (dgt_name 3 nd_0)) (fun _ _ _ _ => (dif_one (dt_val (dp_cl c_is_crossing (hr.mono (by decide)) (da_cons (dp_nm 0) (da_cons (dp_nm 2) (da_cons (dp_nm 3) da_nil))))))) (fun _ _ _ _ => (dp_tup (da_cons (dp_nm 2) (da_cons (dp_nm 3) (da_cons (dp_cl c_sign_at (hr.mono (by decide)) (da_cons (dp_nm 0) (da_cons (dp_nm 2) (da_cons (dp_nm 3) da_nil)))) da_nil)))))))))
theorem sc_law_cell : FnScope ["_law_script", "_law_k"] ["_law_script", "_law_k"] (defScope s_law_cell) := ⟨rfl, rfl, rfl, by decide +kernel, rfl, by decide +kernel, by decide +kernel⟩
def t_law_cell : FS :=
  seqS (ifS (toB (op2 ltF (nmF 1) (callF lenD (consA (nmF 0) (nilA))))) (retF (op2 ixD (nmF 0) (nmF 1))) (skip))
  (retF (cst (.int 0)))
def m_law_cell : List D → Option D := fnP .s 2 t_law_cell
theorem k_law_cell (B : Bt mg) (F : Df K mg "_law_cell" s_law_cell ["_law_script", "_law_k"])  : Cl P w K mg base 1 "_law_cell" ["_law_script", "_law_k"] (spP K .s 2 m_law_cell) := by
  refine cl_pure (k := 0) F sc_law_cell (by decide) rfl fun _ cdv A outer s H hid E hr => ?_
  exact (dss_cons (ds_if (dt_cmp op_lt od_B0 (dp_nm 1) (dp_callB call_len_seq cd_len B.b_len (db_cons (dp_nm 0) db_nil) (hv := by kernel_rfl)) (nomark _)) (dss_one (ds_ret (dp_ix ix_seq od_ix (dp_nm 0) (dp_nm 1) (fun _ _ => rfl)))) dss_nil)
      (dss_one (ds_ret dp_int)))
theorem sc_law_bag : FnScope ["_law_script", "_law_at", "_law_cell_here", "_law_mix", "_law_k"] ["_law_script", "_law_at"] (defScope s_law_bag) := ⟨rfl, rfl, rfl, by decide +kernel, rfl, by decide +kernel, by decide +kernel⟩
def t_law_bag : FS :=
  seqS (setF 2 (op2 modF (callF absI (consA (callF (nF 2 m_law_cell) (consA (nmF 0) (consA (nmF 1) (nilA)))) (nilA))) (op2 mulF (op2 mulF (op2 powF (cst (.int 10)) (cst (.int 60))) (op2 powF (cst (.int 10)) (cst (.int 60)))) (op2 powF (cst (.int 10)) (cst (.int 60))))))
  (seqS (ifS (toB (op2 geF (nmF 2) (op2 powF (cst (.int 10)) (cst (.int 18))))) (retF (lstF (consA (nmF 2) (consA (cst (.int 0)) (nilA))))) (skip))
  (seqS (setF 3 (op2 modF (op2 addF (op2 addF (nmF 2) (op2 mulF (cst (.int 7919)) (nmF 1))) (cst (.int 17))) (cst (.int 2147483647))))
  (seqS (forS (puA (rngA1 (consA (callF min2D (consA (callF lenD (consA (nmF 0) (nilA))) (consA (cst (.int 9)) (nilA)))) (nilA)))) (gN 4) (setF 3 (op2 modF (op2 addF (op2 addF (op2 powF (nmF 3) (cst (.int 5))) (op2 modF (op2 ixD (nmF 0) (nmF 4)) (cst (.int 2147483629)))) (op2 mulF (cst (.int 31)) (nmF 4))) (cst (.int 2147483647)))))
  (retF (lstF (consA (nmF 3) (consA (cst (.int 1)) (nilA))))))))
def m_law_bag : List D → Option D := fnP .n 5 t_law_bag
theorem k_law_bag (B : Bt mg) (F : Df K mg "_law_bag" s_law_bag ["_law_script", "_law_at"]) (c_law_cell : Cl P w K mg base 1 "_law_cell" ["_law_script", "_law_k"] (spP K .s 2 m_law_cell)) : Cl P w K mg base 2 "_law_bag" ["_law_script", "_law_at"] (spP K .n 2 m_law_bag) := by
  refine cl_pure (k := 1) F sc_law_bag (by decide) rfl fun _ cdv A outer s H hid E hr => ?_
  exact (dss_cons (ds_setF 2 sc_law_bag.nd (dp_mod (dp_callB call_abs cd_abs B.b_abs (db_cons (dp_cl c_law_cell (hr.mono (by decide)) (da_cons (dp_nm 0) (da_cons (dp_nm 1) da_nil))) db_nil) (hv := by kernel_rfl)) (dp_mul (dp_mul (dp_pow dp_int dp_int) (dp_pow dp_int dp_int)) (dp_pow dp_int dp_int))))
      (dss_cons (ds_if (dt_cmp op_ge od_B0 (dp_nm 2) (dp_pow dp_int dp_int) (nomark _)) (dss_one (ds_ret (dp_lst (da_cons (dp_nm 2) (da_cons dp_int da_nil))))) dss_nil)
      (dss_cons (ds_setF 3 sc_law_bag.nd (dp_mod (dp_add (dp_add (dp_nm 2) (dp_mul dp_int (dp_nm 1))) dp_int) dp_int))
      (dss_cons (ds_for PassesOwn.never rfl (DIp.e (dip_range1 B.b_range (da_cons (dp_callB (call_min2 rfl) cd_min2 B.b_min (db_cons (dp_callB call_len_seq cd_len B.b_len (db_cons (dp_nm 0) db_nil) (hv := by kernel_rfl)) (db_cons dp_int db_nil)) (hv := by kernel_rfl)) da_nil))) (dgt_name 4 sc_law_bag.nd) (dss_one (ds_setF 3 sc_law_bag.nd (dp_mod (dp_add (dp_add (dp_pow (dp_nm 3) dp_int) (dp_mod (dp_ix ix_seq od_ix (dp_nm 0) (dp_nm 4) (fun _ _ => rfl)) dp_int)) (dp_mul dp_int (dp_nm 4))) dp_int))))
      (dss_one (ds_ret (dp_lst (da_cons (dp_nm 3) (da_cons dp_int da_nil)))))))))
theorem sc_law_take : FnScope ["_law_bag_here", "_law_many", "_law_digit"] ["_law_bag_here", "_law_many"] (defScope s_law_take) := ⟨rfl, rfl, rfl, by decide +kernel, rfl, by decide +kernel, by decide +kernel⟩
def t_law_take : FS :=
  seqS (ifS (toB (op2 eqF (op2 ixD (nbF 0) (cst (.int 1))) (cst (.int 0)))) (seqS (setF 2 (op2 modF (op2 ixD (nbF 0) (cst (.int 0))) (nmF 1)))
  (seqS (asgE (setIx 0 (cst (.int 0))) (pu (op2 fdivF (op2 ixD (nbF 0) (cst (.int 0))) (nmF 1))))
  (retF (nmF 2)))) (skip))
  (seqS (asgE (setIx 0 (cst (.int 0))) (pu (op2 modF (op2 addF (op2 addF (op2 powF (op2 ixD (nbF 0) (cst (.int 0))) (cst (.int 5))) (op2 mulF (cst (.int 48271)) (op2 ixD (nbF 0) (cst (.int 1))))) (cst (.int 11))) (cst (.int 2147483647)))))
  (seqS (asgE (setIx 0 (cst (.int 1))) (pu (op2 addF (op2 ixD (nbF 0) (cst (.int 1))) (cst (.int 1)))))
  (retF (op2 modF (op2 fdivF (op2 modF (op2 mulF (op2 ixD (nbF 0) (cst (.int 0))) (cst (.int 69621))) (cst (.int 2147483629))) (cst (.int 8))) (nmF 1)))))
def m_law_take : List D → List D → Option (D × List D) := fnE .s 3 t_law_take
theorem k_law_take (B : Bt mg) (F : Df K mg "_law_take" s_law_take ["_law_bag_here", "_law_many"])  : Cl P w K mg base 1 "_law_take" ["_law_bag_here", "_law_many"] (spE K .s 1 m_law_take) := by
  refine cl_eff (k := 0) F sc_law_take (by decide) rfl fun _ cdv A outer s H hid a E hr => ?_
  exact (dss_cons (ds_if (dt_cmp (op_eqD hr.units) od_eq (dp_ix ix_seq od_ix (dp_nb 0) dp_int (fun _ _ => rfl)) dp_int (nomark _)) (dss_cons (ds_setF 2 sc_law_take.nd (dp_mod (dp_ix ix_seq od_ix (dp_nb 0) dp_int (fun _ _ => rfl)) (dp_nm 1)))
      (dss_cons (ds_put (DP.ef (dp_fdiv (dp_ix ix_seq od_ix (dp_nb 0) dp_int (fun _ _ => rfl)) (dp_nm 1))) (dht_sub 0 dp_int))
      (dss_one (ds_ret (dp_nm 2))))) dss_nil)
      (dss_cons (ds_put (DP.ef (dp_mod (dp_add (dp_add (dp_pow (dp_ix ix_seq od_ix (dp_nb 0) dp_int (fun _ _ => rfl)) dp_int) (dp_mul dp_int (dp_ix ix_seq od_ix (dp_nb 0) dp_int (fun _ _ => rfl)))) dp_int) dp_int)) (dht_sub 0 dp_int))
      (dss_cons (ds_put (DP.ef (dp_add (dp_ix ix_seq od_ix (dp_nb 0) dp_int (fun _ _ => rfl)) dp_int)) (dht_sub 0 dp_int))
      (dss_one (ds_ret (dp_mod (dp_fdiv (dp_mod (dp_mul (dp_ix ix_seq od_ix (dp_nb 0) dp_int (fun _ _ => rfl)) dp_int) dp_int) dp_int) (dp_nm 1)))))))
theorem sc_law_order : FnScope ["_law_bag_here", "_law_n", "_law_left", "_law_found"] ["_law_bag_here", "_law_n"] (defScope s_law_order) := ⟨rfl, rfl, rfl, by decide +kernel, rfl, by decide +kernel, by decide +kernel⟩
def t_law_order : FS :=
  seqS (ownF 2 (lr1 (nmF 1)))
  (seqS (ownF 3 (lstF (nilA)))
  (seqS (whL (toB (op2 neF (nbF 2) (lstF (nilA)))) (dropE (callE 3 1 appM (consG (callE 2 1 popM (consG (callE 0 1 m_law_take (puA (consA (callF lenD (consA (nbF 2) (nilA))) (nilA)))) (puA (nilA)))) (puA (nilA))))) 16)
  (retO 3)))
def m_law_order : List D → List D → Option (D × List D) := fnE .n 4 t_law_order
theorem k_law_order (B : Bt mg) (F : Df K mg "_law_order" s_law_order ["_law_bag_here", "_law_n"]) (c_law_take : Cl P w K mg base 1 "_law_take" ["_law_bag_here", "_law_many"] (spE K .s 1 m_law_take)) : Cl P w K mg base 2 "_law_order" ["_law_bag_here", "_law_n"] (spE K .n 1 m_law_order) := by
  refine cl_eff (k := 1) F sc_law_order (by decide) rfl fun _ cdv A outer s H hid a E hr => ?_
  exact (dss_cons (ds_ownF 2 sc_law_order.nd (dp_listRange1 rfl B.b_list B.b_range (dp_nm 1)))
      (dss_cons (ds_ownF 3 sc_law_order.nd (dp_lst da_nil))
      (dss_cons (ds_while 16 PassesOwn.never (dt_cmp (op_neD hr.units) od_ne (dp_nb 2) (dp_lst da_nil) (nomark _)) (dss_one (ds_expr (de_meth 3 md_append mt_append PySem.F.slot_list_append PySem.F.type_list_append (dg_cons (de_meth 2 md_pop mt_popAt PySem.F.slot_list_pop PySem.F.type_list_pop (dg_cons (de_cl 0 c_law_take (hr.mono (by decide)) (DA.gf (da_cons (dp_callB call_len_seq cd_len B.b_len (db_cons (dp_nb 2) db_nil) (hv := by kernel_rfl)) da_nil))) (DA.gf da_nil))) (DA.gf da_nil))))))
      (dss_one (ds_retO 3)))))
theorem sc_law_square : FnScope ["_law_bag_here", "_law_n", "_law_plain", "_law_by", "_law_rings", "_law_crosses", "_law_c", "_law_d"] ["_law_bag_here", "_law_n"] (defScope s_law_square) := ⟨rfl, rfl, rfl, by decide +kernel, rfl, by decide +kernel, by decide +kernel⟩
def t_law_square : FS :=
  seqS (setE 2 (callE 0 1 m_law_take (puA (consA (cst (.int 4)) (nilA)))))
  (seqS (setE 3 (op2E addF (pu (cst (.int 1))) (callE 0 1 m_law_take (puA (consA (op2 subF (nmF 1) (cst (.int 1))) (nilA))))))
  (seqS (setE 4 (callE 0 1 m_law_order (puA (consA (nmF 1) (nilA)))))
  (seqS (ownE 5 (callE 0 1 m_law_order (puA (consA (nmF 1) (nilA)))))
  (seqS (ifS (toB (op2 eqF (nmF 2) (cst (.int 1)))) (seqS (setF 4 (lr1 (nmF 1)))
  (ownF 5 (compF 1 (seqA (nmF 4)) (gN 8) (yesT) (op2 modF (op2 addF (nmF 8) (nmF 3)) (nmF 1))))) (skip))
  (seqS (forS (puA (rngA1 (consA (nmF 1) (nilA)))) (gN 6) (seqS (setF 7 (op2 modF (op2 addF (nmF 6) (cst (.int 1))) (nmF 1)))
  (ifS (toB (op2 eqF (op2 ixD (nbF 5) (nmF 6)) (op2 ixD (nmF 4) (nmF 6)))) (asgE (gT 2 (gsC (setIx 5 (nmF 6)) (gsC (setIx 5 (nmF 7)) (gsN)))) (pu (tupF (consA (op2 ixD (nbF 5) (nmF 7)) (consA (op2 ixD (nbF 5) (nmF 6)) (nilA)))))) (skip))))
  (retF (tupF (consA (callF tupleD (consA (nmF 4) (nilA))) (consA (callF tupleD (consA (nbF 5) (nilA))) (nilA))))))))))
def m_law_square : List D → List D → Option (D × List D) := fnE .s 8 t_law_square
theorem k_law_square (B : Bt mg) (F : Df K mg "_law_square" s_law_square ["_law_bag_here", "_law_n"]) (c_law_take : Cl P w K mg base 1 "_law_take" ["_law_bag_here", "_law_many"] (spE K .s 1 m_law_take)) (c_law_order : Cl P w K mg base 2 "_law_order" ["_law_bag_here", "_law_n"] (spE K .n 1 m_law_order)) : Cl P w K mg base 3 "_law_square" ["_law_bag_here", "_law_n"] (spE K .s 1 m_law_square) := by
  refine cl_eff (k := 2) F sc_law_square (by decide) rfl fun _ cdv A outer s H hid a E hr => ?_
  exact (dss_cons (ds_setE 2 sc_law_square.nd (de_cl 0 c_law_take (hr.mono (by decide)) (DA.gf (da_cons dp_int da_nil))))
      (dss_cons (ds_setE 3 sc_law_square.nd (de_add (DP.ef dp_int) (de_cl 0 c_law_take (hr.mono (by decide)) (DA.gf (da_cons (dp_sub (dp_nm 1) dp_int) da_nil)))))
      (dss_cons (ds_setE 4 sc_law_square.nd (DE.toS (de_cl 0 c_law_order (hr.mono (by decide)) (DA.gf (da_cons (dp_nm 1) da_nil)))))
      (dss_cons (ds_ownE 5 sc_law_square.nd (de_cl 0 c_law_order (hr.mono (by decide)) (DA.gf (da_cons (dp_nm 1) da_nil))))
      (dss_cons (ds_if (dt_cmp (op_eqD hr.units) od_eq (dp_nm 2) dp_int (nomark _)) (dss_cons (ds_setF 4 sc_law_square.nd (DP.toS (dp_listRange1 rfl B.b_list B.b_range (dp_nm 1))))
      (dss_one (ds_ownC 5 (N' := ["_law_bag_here", "_law_n", "_law_plain", "_law_by", "_law_rings", "_law_crosses", "_law_c", "_law_d", "_law_row"]) rfl sc_law_square.nd (tail_n (Nat.le_of_ble_eq_true rfl)) (DIp.b (dip_seq (dp_nm 4))) (fun _ _ _ _ => (dgt_name 8 nd_1)) (fun _ _ _ _ => dif_nil) (fun _ _ _ _ => (dp_mod (dp_add (dp_nm 8) (dp_nm 3)) (dp_nm 1)))))) dss_nil)
      (dss_cons (ds_for PassesOwn.never rfl (DIp.e (dip_range1 B.b_range (da_cons (dp_nm 1) da_nil))) (dgt_name 6 sc_law_square.nd) (dss_cons (ds_setF 7 sc_law_square.nd (dp_mod (dp_add (dp_nm 6) dp_int) (dp_nm 1)))
      (dss_one (ds_if (dt_cmp (op_eqD hr.units) od_eq (dp_ix ix_seq od_ix (dp_nb 5) (dp_nm 6) (fun _ _ => rfl)) (dp_ix ix_seq od_ix (dp_nm 4) (dp_nm 6) (fun _ _ => rfl)) (nomark _)) (dss_one (ds_put (DP.ef (dp_tup (da_cons (dp_ix ix_seq od_ix (dp_nb 5) (dp_nm 7) (fun _ _ => rfl)) (da_cons (dp_ix ix_seq od_ix (dp_nb 5) (dp_nm 6) (fun _ _ => rfl)) da_nil)))) (dht_tup (n := 2) rfl (dhs_cons (dht_sub 5 (dp_nm 6)) (dhs_cons (dht_sub 5 (dp_nm 7)) dhs_nil))))) dss_nil))))
      (dss_one (ds_ret (dp_tup (da_cons (dp_callTy call_tuple_of cd_tuple B.b_tuple (db_cons (dp_nm 4) db_nil) (hv := by kernel_rfl)) (da_cons (dp_callTy call_tuple_of cd_tuple B.b_tuple (db_cons (dp_nb 5) db_nil) (hv := by kernel_rfl)) da_nil)))))))))))
theorem sc_law_ways : FnScope ["_law_square_here", "_law_n", "_law_upright", "_law_level", "_law_column", "_law_begin", "_law_end", "_law_row"] ["_law_square_here"] (defScope s_law_ways) := ⟨rfl, rfl, rfl, by decide +kernel, rfl, by decide +kernel, by decide +kernel⟩
def t_law_ways : FS :=
  seqS (setF 1 (callF lenD (consA (op2 ixD (nmF 0) (cst (.int 0))) (nilA))))
  (seqS (dnewT 2)
  (seqS (dnewT 3)
  (seqS (forS (puA (rngA1 (consA (nmF 1) (nilA)))) (gN 4) (seqS (setF 5 (op2 ixD (op2 ixD (nmF 0) (cst (.int 1))) (nmF 4)))
  (seqS (setF 6 (op2 ixD (op2 ixD (nmF 0) (cst (.int 0))) (nmF 4)))
  (forS (puA (rngA2 (consA (op2 addF (callF min2D (consA (nmF 5) (consA (nmF 6) (nilA)))) (cst (.int 1))) (consA (callF max2D (consA (nmF 5) (consA (nmF 6) (nilA)))) (nilA))))) (gN 7) (dputT 2 (consA (nmF 4) (consA (nmF 7) (nilA))) (op2 ixD (lstF (consA (neg1 (cst (.int 1))) (consA (cst (.int 1)) (nilA)))) (callF intF (consA (op2 gtF (nmF 6) (nmF 5)) (nilA)))))))))
  (seqS (forS (puA (rngA1 (consA (nmF 1) (nilA)))) (gN 7) (seqS (setF 5 (op2 ixD (compF 1 (rngA1 (consA (nmF 1) (nilA))) (gN 8) (toB (op2 eqF (op2 ixD (op2 ixD (nmF 0) (cst (.int 0))) (nmF 8)) (nmF 7))) (nmF 8)) (cst (.int 0))))
  (seqS (setF 6 (op2 ixD (compF 1 (rngA1 (consA (nmF 1) (nilA))) (gN 8) (toB (op2 eqF (op2 ixD (op2 ixD (nmF 0) (cst (.int 1))) (nmF 8)) (nmF 7))) (nmF 8)) (cst (.int 0))))
  (forS (puA (rngA2 (consA (op2 addF (callF min2D (consA (nmF 5) (consA (nmF 6) (nilA)))) (cst (.int 1))) (consA (callF max2D (consA (nmF 5) (consA (nmF 6) (nilA)))) (nilA))))) (gN 4) (dputT 3 (consA (nmF 4) (consA (nmF 7) (nilA))) (op2 ixD (lstF (consA (neg1 (cst (.int 1))) (consA (cst (.int 1)) (nilA)))) (callF intF (consA (op2 gtF (nmF 6) (nmF 5)) (nilA)))))))))
  (skip)))))
def m_law_ways : List D → Option (DTs × DTs) := fnD2 8 2 3 t_law_ways
theorem k_law_ways (B : Bt mg) (F : Df K mg "_law_ways" s_law_ways ["_law_square_here"])  : Cl P w K mg base 1 "_law_ways" ["_law_square_here"] (spD2 K 1 m_law_ways) := by
  refine cl_two (k := 0) F sc_law_ways rfl fun _ cdv A outer s H hid E hr => ?_
  exact (d2_cons (k := .s) (ds_setF 1 sc_law_ways.nd (dp_callB call_len_seq cd_len B.b_len (db_cons (dp_ix ix_seq od_ix (dp_nm 0) dp_int (fun _ _ => rfl)) db_nil) (hv := by kernel_rfl)))
      (d2_cons (k := .s) (ds_dnewT 2 sc_law_ways.nd)
      (d2_cons (k := .s) (ds_dnewT 3 sc_law_ways.nd)
      (d2_cons (k := .s) (ds_for PassesOwn.never rfl (DIp.e (dip_range1 B.b_range (da_cons (dp_nm 1) da_nil))) (dgt_name 4 sc_law_ways.nd) (dss_cons (ds_setF 5 sc_law_ways.nd (dp_ix ix_seq od_ix (dp_ix ix_seq od_ix (dp_nm 0) dp_int (fun _ _ => rfl)) (dp_nm 4) (fun _ _ => rfl)))
      (dss_cons (ds_setF 6 sc_law_ways.nd (dp_ix ix_seq od_ix (dp_ix ix_seq od_ix (dp_nm 0) dp_int (fun _ _ => rfl)) (dp_nm 4) (fun _ _ => rfl)))
      (dss_one (ds_for PassesOwn.never rfl (DIp.e (dip_range2 B.b_range (da_cons (dp_add (dp_callB (call_min2 rfl) cd_min2 B.b_min (db_cons (dp_nm 5) (db_cons (dp_nm 6) db_nil)) (hv := by kernel_rfl)) dp_int) (da_cons (dp_callB (call_max2 rfl) cd_max2 B.b_max (db_cons (dp_nm 5) (db_cons (dp_nm 6) db_nil)) (hv := by kernel_rfl)) da_nil)))) (dgt_name 7 sc_law_ways.nd) (dss_one (ds_dputT 2 (hu_of hr) (da_cons (dp_nm 4) (da_cons (dp_nm 7) da_nil)) (dp_ix ix_seq od_ix (dp_lst (da_cons (dp_neg' dp_int) (da_cons dp_int da_nil))) (dp_callTy call_int1 cd_int B.b_int (db_cons (dp_cmp op_gt od_B0 (dp_nm 6) (dp_nm 5) (nomark _)) db_nil) (hv := by kernel_rfl)) (fun _ _ => rfl)))))))))
      (d2_cons (k := .s) (ds_for PassesOwn.never rfl (DIp.e (dip_range1 B.b_range (da_cons (dp_nm 1) da_nil))) (dgt_name 7 sc_law_ways.nd) (dss_cons (ds_setF 5 sc_law_ways.nd (dp_ix ix_seq od_ix (dp_comp (N' := ["_law_square_here", "_law_n", "_law_upright", "_law_level", "?_law_column", "_law_begin", "_law_end", "_law_row", "_law_column"]) rfl (tail_n (Nat.le_of_ble_eq_true rfl)) (DIp.b (dip_range1 B.b_range (da_cons (dp_nm 1) da_nil))) (fun _ _ _ _ => (dgt_name 8 nd_2)) (fun _ _ _ _ => (dif_one (dt_cmp (op_eqD hr.units) od_eq (dp_ix ix_seq od_ix (dp_ix ix_seq od_ix (dp_nm 0) dp_int (fun _ _ => rfl)) (dp_nm 8) (fun _ _ => rfl)) (dp_nm 7) (nomark _)))) (fun _ _ _ _ => (dp_nm 8))) dp_int (fun _ _ => rfl)))
      (dss_cons (ds_setF 6 sc_law_ways.nd (dp_ix ix_seq od_ix (dp_comp (N' := ["_law_square_here", "_law_n", "_law_upright", "_law_level", "?_law_column", "_law_begin", "_law_end", "_law_row", "_law_column"]) rfl (tail_n (Nat.le_of_ble_eq_true rfl)) (DIp.b (dip_range1 B.b_range (da_cons (dp_nm 1) da_nil))) (fun _ _ _ _ => (dgt_name 8 nd_2)) (fun _ _ _ _ => (dif_one (dt_cmp (op_eqD hr.units) od_eq (dp_ix ix_seq od_ix (dp_ix ix_seq od_ix (dp_nm 0) dp_int (fun _ _ => rfl)) (dp_nm 8) (fun _ _ => rfl)) (dp_nm 7) (nomark _)))) (fun _ _ _ _ => (dp_nm 8))) dp_int (fun _ _ => rfl)))
      (dss_one (ds_for PassesOwn.never rfl (DIp.e (dip_range2 B.b_range (da_cons (dp_add (dp_callB (call_min2 rfl) cd_min2 B.b_min (db_cons (dp_nm 5) (db_cons (dp_nm 6) db_nil)) (hv := by kernel_rfl)) dp_int) (da_cons (dp_callB (call_max2 rfl) cd_max2 B.b_max (db_cons (dp_nm 5) (db_cons (dp_nm 6) db_nil)) (hv := by kernel_rfl)) da_nil)))) (dgt_name 4 sc_law_ways.nd) (dss_one (ds_dputT 3 (hu_of hr) (da_cons (dp_nm 4) (da_cons (dp_nm 7) da_nil)) (dp_ix ix_seq od_ix (dp_lst (da_cons (dp_neg' dp_int) (da_cons dp_int da_nil))) (dp_callTy call_int1 cd_int B.b_int (db_cons (dp_cmp op_gt od_B0 (dp_nm 6) (dp_nm 5) (nomark _)) db_nil) (hv := by kernel_rfl)) (fun _ _ => rfl)))))))))
      (d2_ret 2 3 (by decide)))))))
theorem sc_law_crossings : FnScope ["_law_square_here", "_law_upright", "_law_level", "_law_found", "_law_place"] ["_law_square_here"] (defScope s_law_crossings) := ⟨rfl, rfl, rfl, by decide +kernel, rfl, by decide +kernel, by decide +kernel⟩
def t_law_crossings : FS :=
  seqS (setD2 1 2 1 m_law_ways (consA (nmF 0) (nilA)))
  (seqS (ownF 3 (lstF (nilA)))
  (seqS (forS (puA (seqA (dsrtT 1))) (gN 4) (ifS (dinT 2 (nmF 4)) (dropE (callE 3 1 appM (puA (consA (tupF (consA (op2 ixD (nmF 4) (cst (.int 0))) (consA (op2 ixD (nmF 4) (cst (.int 1))) (consA (op2 ixD (lstF (consA (neg1 (cst (.int 1))) (consA (cst (.int 1)) (nilA)))) (callF intF (consA (op2 neF (dixT 1 (nmF 4)) (dixT 2 (nmF 4))) (nilA)))) (nilA))))) (nilA))))) (skip)))
  (retO 3)))
def m_law_crossings : List D → Option D := fnP .n 5 t_law_crossings
theorem k_law_crossings (B : Bt mg) (F : Df K mg "_law_crossings" s_law_crossings ["_law_square_here"]) (c_law_ways : Cl P w K mg base 1 "_law_ways" ["_law_square_here"] (spD2 K 1 m_law_ways)) : Cl P w K mg base 2 "_law_crossings" ["_law_square_here"] (spP K .n 1 m_law_crossings) := by
  refine cl_pure (k := 1) F sc_law_crossings (by decide) rfl fun _ cdv A outer s H hid E hr => ?_
  exact (dss_cons (ds_two 1 2 (by decide) rfl sc_law_crossings.nd c_law_ways (hr.mono (by decide)) (da_cons (dp_nm 0) da_nil))
      (dss_cons (ds_ownF 3 sc_law_crossings.nd (dp_lst da_nil))
      (dss_cons (ds_for PassesOwn.never rfl (DIp.e (dip_seq (DP.toS (dp_dsrtT 1 rfl B.b_sorted)))) (dgt_name 4 sc_law_crossings.nd) (dss_one (ds_if (dt_dinT 2 (hu_of hr) (dp_nm 4)) (dss_one (ds_expr (de_meth 3 md_append mt_append PySem.F.slot_list_append PySem.F.type_list_append (DA.gf (da_cons (dp_tup (da_cons (dp_ix ix_seq od_ix (dp_nm 4) dp_int (fun _ _ => rfl)) (da_cons (dp_ix ix_seq od_ix (dp_nm 4) dp_int (fun _ _ => rfl)) (da_cons (dp_ix ix_seq od_ix (dp_lst (da_cons (dp_neg' dp_int) (da_cons dp_int da_nil))) (dp_callTy call_int1 cd_int B.b_int (db_cons (dp_cmp (op_neD hr.units) od_ne (dp_dixT 1 (hu_of hr) (dp_nm 4) (fun _ _ => rfl)) (dp_dixT 2 (hu_of hr) (dp_nm 4) (fun _ _ => rfl)) (nomark _)) db_nil) (hv := by kernel_rfl)) (fun _ _ => rfl)) da_nil)))) da_nil se_tup))))) dss_nil)))
      (dss_one (ds_retO 3)))))
theorem sc_law_good : FnScope ["_law_square_here", "_law_found", "_law_crossing"] ["_law_square_here"] (defScope s_law_good) := ⟨rfl, rfl, rfl, by decide +kernel, rfl, by decide +kernel, by decide +kernel⟩
def t_law_good : FS :=
  seqS (setF 1 (callF (nF 1 m_crossings_of) (consA (nmF 0) (nilA))))
  (seqS (ifS (or2 (not1 (tru1 (isiF "list" (nmF 1)))) (toB (op2 neF (nmF 1) (callF (nF 1 m_law_crossings) (consA (nmF 0) (nilA)))))) (retF (cst (.bl false))) (skip))
  (seqS (forS (puA (seqA (nmF 1))) (gN 2) (ifS (or2 (not1 (tru1 (isiF "tuple" (nmF 2)))) (tru1 (callF anyD (consA (compF 1 (seqA (nmF 2)) (gN 3) (yesT) (isiF "bool" (nmF 3))) (nilA))))) (retF (cst (.bl false))) (skip)))
  (retF (cst (.bl true)))))
def m_law_good : List D → Option D := fnP .s 3 t_law_good
theorem k_law_good (B : Bt mg) (F : Df K mg "_law_good" s_law_good ["_law_square_here"]) (c_crossings_of : Cl P w K mg base 3 "crossings_of" ["square"] (spP K .n 1 m_crossings_of)) (c_law_crossings : Cl P w K mg base 2 "_law_crossings" ["_law_square_here"] (spP K .n 1 m_law_crossings)) : Cl P w K mg base 4 "_law_good" ["_law_square_here"] (spP K .s 1 m_law_good) := by
  refine cl_pure (k := 3) F sc_law_good (by decide) rfl fun _ cdv A outer s H hid E hr => ?_
  exact (dss_cons (ds_setF 1 sc_law_good.nd (DP.toS (dp_cl c_crossings_of (hr.mono (by decide)) (da_cons (dp_nm 0) da_nil))))
      (dss_cons (ds_if (DW.dt (dw_or (dt_not (dt_val (dp_isi "list" kt_list (dp_nm 1) B.b_isinstance B.b_list))) (dw_or1 (dt_cmp (op_neD hr.units) od_ne (dp_nm 1) (dp_cl c_law_crossings (hr.mono (by decide)) (da_cons (dp_nm 0) da_nil)) (nomark _))))) (dss_one (ds_ret dp_bl)) dss_nil)
      (dss_cons (ds_for PassesOwn.never rfl (DIp.e (dip_seq (dp_nm 1))) (dgt_name 2 sc_law_good.nd) (dss_one (ds_if (DW.dt (dw_or (dt_not (dt_val (dp_isi "tuple" kt_tuple (dp_nm 2) B.b_isinstance B.b_tuple))) (dw_or1 (dt_val (dp_callB (call_any rfl) cd_any B.b_any (db_cons (dp_comp (N' := ["_law_square_here", "_law_found", "_law_crossing", "_law_number"]) rfl (tail_n (Nat.le_of_ble_eq_true rfl)) (DIp.b (dip_seq (dp_nm 2))) (fun _ _ _ _ => (dgt_name 3 nd_3)) (fun _ _ _ _ => dif_nil) (fun _ _ _ _ => (dp_isi "bool" kt_bool (dp_nm 3) B.b_isinstance B.b_bool))) db_nil) (hv := by kernel_rfl)))))) (dss_one (ds_ret dp_bl)) dss_nil)))
      (dss_one (ds_ret dp_bl)))))
theorem sc_law : FnScope ["_law_script", "_law_k", "_law_bag_here", "_law_square_here", "_law_some"] ["_law_script"] (defScope s_law) := ⟨rfl, rfl, rfl, by decide +kernel, rfl, by decide +kernel, by decide +kernel⟩
def t_law : FS :=
  seqS (forS (puA (rngA1 (consA (callF max2D (consA (cst (.int 1)) (consA (callF min2D (consA (cst (.int 8)) (consA (callF lenD (consA (nmF 0) (nilA))) (nilA)))) (nilA)))) (nilA)))) (gN 1) (seqS (ownF 2 (callF (nF 2 m_law_bag) (consA (nmF 0) (consA (nmF 1) (nilA)))))
  (seqS (setE 3 (callE 2 1 m_law_square (consG (op2E addF (pu (cst (.int 2))) (callE 2 1 m_law_take (puA (consA (cst (.int 5)) (nilA))))) (puA (nilA)))))
  (seqS (ifS (not1 (tru1 (callF (nF 1 m_law_good) (consA (nmF 3) (nilA))))) (retF (cst (.bl false))) (skip))
  (seqS (dropE (pu (appNF (callF (nF 1 m_crossings_of) (consA (nmF 3) (nilA))) (tupF (consA (cst (.int 0)) (consA (cst (.int 0)) (consA (cst (.int 1)) (nilA))))))))
  (ifS (not1 (tru1 (callF (nF 1 m_law_good) (consA (nmF 3) (nilA))))) (retF (cst (.bl false))) (skip)))))))
  (seqS (setF 4 (lstF (consA (tupF (consA (tupF (consA (cst (.int 0)) (consA (cst (.int 1)) (nilA)))) (consA (tupF (consA (cst (.int 1)) (consA (cst (.int 0)) (nilA)))) (nilA)))) (consA (tupF (consA (tupF (consA (cst (.int 0)) (consA (cst (.int 1)) (consA (cst (.int 2)) (consA (cst (.int 3)) (consA (cst (.int 4)) (consA (cst (.int 5)) (nilA)))))))) (consA (tupF (consA (cst (.int 3)) (consA (cst (.int 4)) (consA (cst (.int 5)) (consA (cst (.int 0)) (consA (cst (.int 1)) (consA (cst (.int 2)) (nilA)))))))) (nilA)))) (consA (tupF (consA (tupF (consA (cst (.int 0)) (consA (cst (.int 5)) (consA (cst (.int 1)) (consA (cst (.int 4)) (consA (cst (.int 2)) (consA (cst (.int 3)) (nilA)))))))) (consA (tupF (consA (cst (.int 5)) (consA (cst (.int 0)) (consA (cst (.int 4)) (consA (cst (.int 1)) (consA (cst (.int 3)) (consA (cst (.int 2)) (nilA)))))))) (nilA)))) (nilA))))))
  (retF (callF allD (consA (compF 1 (seqA (nmF 4)) (gN 5) (yesT) (callF (nF 1 m_law_good) (consA (nmF 5) (nilA)))) (nilA)))))
def m_law : List D → Option D := fnP .s 5 t_law
theorem kf_law {f : Addr} {fd : FuncData} (B : Bt mg) (F : Fun K "law" "law" s_law f fd) (c_law_bag : Cl P w K mg base 2 "_law_bag" ["_law_script", "_law_at"] (spP K .n 2 m_law_bag)) (c_law_square : Cl P w K mg base 3 "_law_square" ["_law_bag_here", "_law_n"] (spE K .s 1 m_law_square)) (c_law_good : Cl P w K mg base 4 "_law_good" ["_law_square_here"] (spP K .s 1 m_law_good)) (c_law_take : Cl P w K mg base 1 "_law_take" ["_law_bag_here", "_law_many"] (spE K .s 1 m_law_take)) (c_crossings_of : Cl P w K mg base 3 "crossings_of" ["square"] (spP K .n 1 m_crossings_of)) : FnOk P w K mg base CX0 5 f fd ["_law_script"] (spP K .s 1 m_law) := by
  refine fn_pure (k := 4) F sc_law (by decide) fun cdv A outer s H hid E hr => ?_
  exact (QSs.to (qss_cons (QS.of (ds_for PassesOwn.never rfl (DIp.e (dip_range1 B.b_range (da_cons (dp_callB (call_max2 rfl) cd_max2 B.b_max (db_cons dp_int (db_cons (dp_callB (call_min2 rfl) cd_min2 B.b_min (db_cons dp_int (db_cons (dp_callB call_len_seq cd_len B.b_len (db_cons (dp_nm 0) db_nil) (hv := by kernel_rfl)) db_nil)) (hv := by kernel_rfl)) db_nil)) (hv := by kernel_rfl)) da_nil))) (dgt_name 1 sc_law.nd) (dss_cons (ds_ownF 2 sc_law.nd (dp_cl c_law_bag (hr.mono (by decide)) (da_cons (dp_nm 0) (da_cons (dp_nm 1) da_nil))))
      (dss_cons (ds_setE 3 sc_law.nd (de_cl 2 c_law_square (hr.mono (by decide)) (dg_cons (de_add (DP.ef dp_int) (de_cl 2 c_law_take (hr.mono (by decide)) (DA.gf (da_cons dp_int da_nil)))) (DA.gf da_nil))))
      (dss_cons (ds_if (dt_not (dt_val (dp_cl c_law_good (hr.mono (by decide)) (da_cons (dp_nm 3) da_nil)))) (dss_one (ds_ret dp_bl)) dss_nil)
      (dss_cons (ds_expr (DP.ef (dp_appN (dp_cl c_crossings_of (hr.mono (by decide)) (da_cons (dp_nm 3) da_nil)) (dp_tup (da_cons dp_int (da_cons dp_int (da_cons dp_int da_nil)))) PySem.F.slot_list_append PySem.F.type_list_append)))
      (dss_one (ds_if (dt_not (dt_val (dp_cl c_law_good (hr.mono (by decide)) (da_cons (dp_nm 3) da_nil)))) (dss_one (ds_ret dp_bl)) dss_nil))))))))
      (qss_cons (qs_setF 4 sc_law.nd (qp_lst (qa_cons (qp_tup (qa_cons (qp_tup (qa_cons (QP.of dp_int) (qa_cons (QP.of dp_int) qa_nil))) (qa_cons (qp_tup (qa_cons (QP.of dp_int) (qa_cons (QP.of dp_int) qa_nil))) qa_nil se_tup) se_tup)) (qa_cons (qp_tup (qa_cons (qp_tup (qa_cons (QP.of dp_int) (qa_cons (QP.of dp_int) (qa_cons (QP.of dp_int) (qa_cons (QP.of dp_int) (qa_cons (QP.of dp_int) (qa_cons (QP.of dp_int) qa_nil))))))) (qa_cons (qp_tup (qa_cons (QP.of dp_int) (qa_cons (QP.of dp_int) (qa_cons (QP.of dp_int) (qa_cons (QP.of dp_int) (qa_cons (QP.of dp_int) (qa_cons (QP.of dp_int) qa_nil))))))) qa_nil se_tup) se_tup)) (qa_cons (qp_tup (qa_cons (qp_tup (qa_cons (QP.of dp_int) (qa_cons (QP.of dp_int) (qa_cons (QP.of dp_int) (qa_cons (QP.of dp_int) (qa_cons (QP.of dp_int) (qa_cons (QP.of dp_int) qa_nil))))))) (qa_cons (qp_tup (qa_cons (QP.of dp_int) (qa_cons (QP.of dp_int) (qa_cons (QP.of dp_int) (qa_cons (QP.of dp_int) (qa_cons (QP.of dp_int) (qa_cons (QP.of dp_int) qa_nil))))))) qa_nil se_tup) se_tup)) qa_nil se_tup) se_tup) se_tup)))
      (qss_one (QS.of (ds_ret (dp_callB (call_all rfl) cd_all B.b_all (db_cons (dp_comp (N' := ["_law_script", "_law_k", "_law_bag_here", "?_law_square_here", "_law_some", "_law_square_here"]) rfl (tail_n (Nat.le_of_ble_eq_true rfl)) (DIp.b (dip_seq (dp_nm 4))) (fun _ _ _ _ => (dgt_name 5 nd_4)) (fun _ _ _ _ => dif_nil) (fun _ _ _ _ => (dp_cl c_law_good (hr.mono (by decide)) (da_cons (dp_nm 5) da_nil)))) db_nil) (hv := by kernel_rfl))))))))
end
end L2
set_option Elab.async false
set_option linter.all false
set_option maxRecDepth 100000
set_option maxHeartbeats 1000000
namespace L2
open PySem PySem.Spec PyProof.Rows
section
variable {n : Nat} {r x : List Nat} (R : Ord n r) (X : Ord n x) (hn : n ≤ 6)
include R X
theorem up_ev {c : Nat} (hc : c < n) : m_goes_up [sqD r x, nI c] = some (.bl (decide (x.getD c 0 < r.getD c 0))) := by
  apply fnP_ret (kd := .s) (n := 4) (t := t_goes_up)
  unfold t_goes_up
  refine (seq_at (ρ' := [.v (sqD r x), .v (nI c), .v (tupN r), .v (tupN x)]) (asg_at (pu_at rfl) rfl)).trans (retF_at ((op2_at ((op2_at (x := tupN x) (y := nI c) rfl rfl).trans (ixT_N (by rw [X.len]; exact hc))) ((op2_at (x := tupN r) (y := nI c) rfl rfl).trans (ixT_N (by rw [R.len]; exact hc)))).trans ?_))
  show some (D.bl (decide (((x.getD c 0 : Nat) : Int) < ((r.getD c 0 : Nat) : Int)))) = _
  congr 2
  simp
theorem right_ev {y : Nat} (hy : y < n) : m_goes_right [sqD r x, nI y] = some (.bl (decide (r.idxOf y < x.idxOf y))) := by
  apply fnP_ret (kd := .s) (n := 4) (t := t_goes_right)
  unfold t_goes_right
  refine (seq_at (ρ' := [.v (sqD r x), .v (nI y), .v (tupN r), .v (tupN x)]) (asg_at (pu_at rfl) rfl)).trans (retF_at ((op2_at ((op2_at (x := tupN r) (y := nI y) rfl rfl).trans (tidx_ev R hy)) ((op2_at (x := tupN x) (y := nI y) rfl rfl).trans (tidx_ev X hy))).trans ?_))
  show some (D.bl (decide (((r.idxOf y : Nat) : Int) < ((x.idxOf y : Nat) : Int)))) = _
  congr 2
  simp
theorem iscr_ev {c y : Nat} (hc : c < n) (hy : y < n) : m_is_crossing [sqD r x, nI c, nI y] = some (.bl (crB r x c y)) := by
  refine fnP_ex (kd := .s) (n := 5) (t := t_is_crossing) ?_
  unfold t_is_crossing
  have t1 : tru1 (callF (nF 3 m_lies_between) (consA (nmF 2) (consA (op2 ixD (nmF 3) (nmF 1)) (consA (op2 ixD (nmF 4) (nmF 1)) (nilA))))) [.v (sqD r x), .v (nI c), .v (nI y), .v (tupN r), .v (tupN x)] = some (btB y (r.getD c 0) (x.getD c 0)) :=
    tru_bl ((cl_at (ds := [nI y, nI (r.getD c 0), nI (x.getD c 0)]) (consA_at rfl (consA_at ((op2_at (x := tupN r) (y := nI c) rfl rfl).trans (ixT_N (by rw [R.len]; exact hc))) (consA_at ((op2_at (x := tupN x) (y := nI c) rfl rfl).trans (ixT_N (by rw [X.len]; exact hc))) rfl))) rfl).trans (betw_ev _ _ _))
  refine ⟨[.v (sqD r x), .v (nI c), .v (nI y), .v (tupN r), .v (tupN x)], (seq_at (ρ' := [.v (sqD r x), .v (nI c), .v (nI y), .v (tupN r), .v (tupN x)]) (asg_at (pu_at rfl) rfl)).trans ?_⟩
  unfold crB
  cases e : btB y (r.getD c 0) (x.getD c 0) with
  | false =>
    rw [e] at t1
    unfold seqS
    rw [ifS_t (not_at t1)]
    rfl
  | true =>
    rw [e] at t1
    refine (seq_at (ρ' := [.v (sqD r x), .v (nI c), .v (nI y), .v (tupN r), .v (tupN x)]) (ifS_f (not_at t1))).trans ?_
    rw [Bool.true_and]
    exact retF_at ((cl_at (ds := [nI c, nI (r.idxOf y), nI (x.idxOf y)]) (consA_at rfl (consA_at ((op2_at (x := tupN r) (y := nI y) rfl rfl).trans (tidx_ev R hy)) (consA_at ((op2_at (x := tupN x) (y := nI y) rfl rfl).trans (tidx_ev X hy)) rfl))) rfl).trans (betw_ev _ _ _))
theorem sign_ev {c y : Nat} (hc : c < n) (hy : y < n) : m_sign_at [sqD r x, nI c, nI y] = some (.int (sgB r x c y)) := by
  apply fnP_ret (kd := .s) (n := 3) (t := t_sign_at)
  unfold t_sign_at
  refine retF_at ?_
  have t1 : toB (op2 neF (callF (nF 2 m_goes_up) (consA (nmF 0) (consA (nmF 1) (nilA)))) (callF (nF 2 m_goes_right) (consA (nmF 0) (consA (nmF 2) (nilA))))) (rho0 3 [sqD r x, nI c, nI y]) = some (!(decide (x.getD c 0 < r.getD c 0) == decide (r.idxOf y < x.idxOf y))) := by
    refine toB_at ((op2_at ((cl_at (ds := [sqD r x, nI c]) rfl rfl).trans (up_ev R X hc)) ((cl_at (ds := [sqD r x, nI y]) rfl rfl).trans (right_ev R X hy))).trans ?_)
    rw [neF_ev (by unfold dep; omega)]
    unfold eqD; rfl
  unfold sgB
  by_cases e : decide (x.getD c 0 < r.getD c 0) = decide (r.idxOf y < x.idxOf y)
  · rw [if_pos e]
    rw [e, beq_self_eq_true] at t1
    exact (ifF_f t1).trans rfl
  · rw [if_neg e]
    rw [beq_eq_false_iff_ne.mpr e] at t1
    exact (ifF_t t1).trans rfl
include hn
theorem cross_ev : m_crossings_of [sqD r x] = some (.lst ((crK n r x).map tpI)) := by
  apply fnP_ret (kd := .n) (n := 2) (t := t_crossings_of)
  unfold t_crossings_of
  refine (seq_at (ρ' := [.v (sqD r x), .v (nI n)]) ((setF_at (d := nI n) ((len_tupN r _ _ ((op2_at (x := sqD r x) (y := .int 0) rfl rfl).trans rfl)).trans (by rw [R.len]))).trans rfl)).trans ?_
  refine retF_at (cp2F_at (ds := (List.range n).map nI) (rngA1_at (n := n) (consA_at rfl rfl) (by omega)) ?_ (by rw [List.length_map]; have := crK_len n r x hn; omega))
  refine (cpL_map (h := nI) (q := fun _ => true) (o := fun (c : Nat) => ((List.range n).filter (crB r x c)).map fun (y : Nat) => tpI [(c : Int), (y : Int), sgB r x c y]) (List.range n) fun c hc => ⟨_, rfl, rfl, fun _ => ?_⟩).trans ?_
  · have hc := List.mem_range.mp hc
    refine inA_at (ds := (List.range n).map nI) (rngA1_at (n := n) (consA_at rfl rfl) (by omega)) ?_
    refine (cpL_map (h := nI) (q := crB r x c) (o := fun (y : Nat) => [tpI [(c : Int), (y : Int), sgB r x c y]]) (List.range n) fun y hy => ⟨_, rfl, ?_, fun _ => ?_⟩).trans ?_
    · exact tru_bl ((cl_at (ds := [sqD r x, nI c, nI y]) rfl rfl).trans (iscr_ev R X hc (List.mem_range.mp hy)))
    · exact oneA_at (tupF_at (consA_at rfl (consA_at rfl (consA_at ((cl_at (ds := [sqD r x, nI c, nI y]) rfl rfl).trans (sign_ev R X hc (List.mem_range.mp hy))) rfl))) (by simp))
    · rw [flat_one]
  · rw [List.filter_eq_self.mpr (fun _ _ => rfl)]
    unfold crK
    rw [List.map_flatMap]
    congr 2
    funext c
    rw [List.map_map]; rfl
end
/-! the law's ways -/
def Vs : FE := op2 ixD (lstF (consA (neg1 (cst (.int 1))) (consA (cst (.int 1)) (nilA)))) (callF intF (consA (op2 gtF (nmF 6) (nmF 5)) (nilA)))
theorem Vs_at {ρ : Rho} {a b : Nat} (h5 : nmF 5 ρ = some (nI a)) (h6 : nmF 6 ρ = some (nI b)) : Vs ρ = some (.int (sgn (decide (a < b)))) := by
  have e1 : callF intF (consA (op2 gtF (nmF 6) (nmF 5)) (nilA)) ρ = some (nI (if a < b then 1 else 0)) := by
    rw [callF_at (ds := [.bl (decide (a < b))]) (consA_at ((op2_at h6 h5).trans ?_) rfl)]
    · by_cases e : a < b
      · rw [decide_eq_true e, if_pos e]; rfl
      · rw [decide_eq_false e, if_neg e]; rfl
    · show some (D.bl (decide ((a : Int) < (b : Int)))) = _
      congr 2
      rw [Bool.eq_iff_iff, decide_eq_true_eq, decide_eq_true_eq]; omega
  refine (op2_at (x := .lst [.int (-1), .int 1]) rfl e1).trans ?_
  unfold sgn
  by_cases e : a < b
  · rw [if_pos e, decide_eq_true e, if_pos rfl]; rfl
  · rw [if_neg e, decide_eq_false e, if_neg (by decide)]; rfl
def bU : FS := seqS (setF 5 (op2 ixD (op2 ixD (nmF 0) (cst (.int 1))) (nmF 4)))
  (seqS (setF 6 (op2 ixD (op2 ixD (nmF 0) (cst (.int 0))) (nmF 4)))
  (forS (puA (rngA2 (consA (op2 addF (callF min2D (consA (nmF 5) (consA (nmF 6) (nilA)))) (cst (.int 1))) (consA (callF max2D (consA (nmF 5) (consA (nmF 6) (nilA)))) (nilA))))) (gN 7) (dputT 2 (consA (nmF 4) (consA (nmF 7) (nilA))) Vs)))
def bL : FS := seqS (setF 5 (op2 ixD (compF 1 (rngA1 (consA (nmF 1) (nilA))) (gN 8) (toB (op2 eqF (op2 ixD (op2 ixD (nmF 0) (cst (.int 0))) (nmF 8)) (nmF 7))) (nmF 8)) (cst (.int 0))))
  (seqS (setF 6 (op2 ixD (compF 1 (rngA1 (consA (nmF 1) (nilA))) (gN 8) (toB (op2 eqF (op2 ixD (op2 ixD (nmF 0) (cst (.int 1))) (nmF 8)) (nmF 7))) (nmF 8)) (cst (.int 0))))
  (forS (puA (rngA2 (consA (op2 addF (callF min2D (consA (nmF 5) (consA (nmF 6) (nilA)))) (cst (.int 1))) (consA (callF max2D (consA (nmF 5) (consA (nmF 6) (nilA)))) (nilA))))) (gN 4) (dputT 3 (consA (nmF 4) (consA (nmF 7) (nilA))) Vs)))
theorem rng_at {ρ : Rho} {a b : Nat} (h5 : nmF 5 ρ = some (nI a)) (h6 : nmF 6 ρ = some (nI b)) (ha : a ≤ 900) (hb : b ≤ 900) :
    rngA2 (consA (op2 addF (callF min2D (consA (nmF 5) (consA (nmF 6) (nilA)))) (cst (.int 1))) (consA (callF max2D (consA (nmF 5) (consA (nmF 6) (nilA)))) (nilA))) ρ = some ((List.range' (min a b + 1) (max a b - (min a b + 1))).map nI) :=
  rngA2_at (consA_at ((op2_at (mn_at (consA_at h5 (consA_at h6 rfl))) (y := .int 1) rfl).trans (by rw [addF_int]; rfl)) (consA_at (mx_at (consA_at h5 (consA_at h6 rfl))) rfl)) (by omega) (by omega)
section
variable {n : Nat} {r x : List Nat} (R : Ord n r) (X : Ord n x) (hn : n ≤ 6)
include R X hn
theorem bU_at {c : Nat} (hc : c < n) (d3 s5 s6 s7 : Sl) : ∃ s5' s6' s7', bU [.v (sqD r x), .v (nI n), .ob (.dT (upT n r x c)), d3, .v (nI c), s5, s6, s7] = .nx [.v (sqD r x), .v (nI n), .ob (.dT (upT n r x (c + 1))), d3, .v (nI c), s5', s6', s7'] := by
  have q1 : ∀ t5, setF 5 (op2 ixD (op2 ixD (nmF 0) (cst (.int 1))) (nmF 4)) [.v (sqD r x), .v (nI n), .ob (.dT (upT n r x c)), d3, .v (nI c), t5, s6, s7] = .nx [.v (sqD r x), .v (nI n), .ob (.dT (upT n r x c)), d3, .v (nI c), .v (nI (x.getD c 0)), s6, s7] := fun t5 =>
    (setF_at ((op2_at ((op2_at (x := sqD r x) (y := .int 1) rfl rfl).trans rfl) (y := nI c) rfl).trans (ixT_N (by rw [X.len]; exact hc)))).trans rfl
  have q2 : setF 6 (op2 ixD (op2 ixD (nmF 0) (cst (.int 0))) (nmF 4)) [.v (sqD r x), .v (nI n), .ob (.dT (upT n r x c)), d3, .v (nI c), .v (nI (x.getD c 0)), s6, s7] = .nx [.v (sqD r x), .v (nI n), .ob (.dT (upT n r x c)), d3, .v (nI c), .v (nI (x.getD c 0)), .v (nI (r.getD c 0)), s7] :=
    (setF_at ((op2_at ((op2_at (x := sqD r x) (y := .int 0) rfl rfl).trans rfl) (y := nI c) rfl).trans (ixT_N (by rw [R.len]; exact hc)))).trans rfl
  have hx := X.get hc
  have hr := R.get hc
  obtain ⟨s7', q3⟩ := put_loop (i := 2) (g := gN 7) (fs := consA (nmF 4) (consA (nmF 7) (nilA))) (fv := Vs) (h := nI) (key := fun y => keyP (c, y)) (v := fun y => upV r x (c, y)) (Q := fun _ => True) (st := fun kvs s => [.v (sqD r x), .v (nI n), .ob (.dT kvs), d3, .v (nI c), .v (nI (x.getD c 0)), .v (nI (r.getD c 0)), s])
    (fun _ _ _ => rfl) (fun _ _ _ => rfl) (fun _ _ _ => Vs_at (a := x.getD c 0) (b := r.getD c 0) rfl rfl) (fun _ _ => rfl) (fun _ _ _ => rfl) (fun _ => by show 2 ≤ 1000; omega)
    ((List.range n).filter fun y => btB y (x.getD c 0) (r.getD c 0)) (upT n r x c) s7 (fun _ _ => trivial) (by
      have h1 := upP_len n r x c
      have h2 := List.length_filter_le (fun y => btB y (x.getD c 0) (r.getD c 0)) (List.range n)
      have h3 : c * n ≤ 6 * 6 := Nat.mul_le_mul (by omega) hn
      rw [List.length_range] at h2
      unfold upT
      rw [List.length_map]; omega)
    (fun y _ => valT_none fun p hp e => by
      have := (upP_mem.mp hp).1
      rw [keyP_inj e] at this
      exact Nat.lt_irrefl _ this)
    (by
      exact List.pairwise_map.mpr ((List.Pairwise.filter _ List.nodup_range).imp fun h e => h (congrArg Prod.snd (keyP_inj e))))
  refine ⟨.v (nI (x.getD c 0)), .v (nI (r.getD c 0)), s7', ?_⟩
  refine (seq_at (q1 s5)).trans ((seq_at q2).trans ((forS_at (puA_at (rng_at (a := x.getD c 0) (b := r.getD c 0) rfl rfl (by omega) (by omega)))).trans ?_))
  rw [rng_bt hx hr]
  refine q3.trans ?_
  unfold upT
  rw [upP_succ, List.map_append, List.map_map]
  rfl
theorem bL_at {y : Nat} (hy : y < n) (d2 s4 s5 s6 : Sl) : ∃ s4' s5' s6', bL [.v (sqD r x), .v (nI n), d2, .ob (.dT (lvT n r x y)), s4, s5, s6, .v (nI y)] = .nx [.v (sqD r x), .v (nI n), d2, .ob (.dT (lvT n r x (y + 1))), s4', s5', s6', .v (nI y)] := by
  have fd : ∀ (o : List Nat) (O : Ord n o) (e : FE) (ρ : Rho) (_ : nmF 1 ρ = some (nI n)) (_ : nmF 7 ρ = some (nI y)) (_ : ρ.length = 8) (_ : ∀ ρ', nmF 0 (ρ ++ ρ') = some (sqD r x)) (_ : ∀ ρ', nmF 0 ρ' = some (sqD r x) → op2 ixD (nmF 0) e ρ' = some (tupN o)),
      op2 ixD (compF 1 (rngA1 (consA (nmF 1) (nilA))) (gN 8) (toB (op2 eqF (op2 ixD (op2 ixD (nmF 0) e) (nmF 8)) (nmF 7))) (nmF 8)) (cst (.int 0)) ρ = some (nI (o.idxOf y)) := by
    intro o O e ρ h1 h7 hl h0 h00
    have g8 : ∀ c, gN 8 (nI c) (ρ ++ List.replicate 1 .no) = some (ρ ++ [.v (nI c)]) := fun c => by
      show some ((ρ ++ [Sl.no]).set 8 (.v (nI c))) = _
      rw [List.set_append_right _ _ (by omega), hl]; rfl
    have n8 : ∀ c, nmF 8 (ρ ++ [.v (nI c)]) = some (nI c) := fun c => by
      unfold nmF
      rw [List.getElem?_append_right (by omega), hl]; rfl
    have n7 : ∀ c, nmF 7 (ρ ++ [.v (nI c)]) = some (nI y) := fun c => by
      have : (ρ ++ [Sl.v (nI c)])[7]? = ρ[7]? := List.getElem?_append_left (by omega)
      unfold nmF at h7 ⊢
      rw [this]; exact h7
    have cp : compF 1 (rngA1 (consA (nmF 1) (nilA))) (gN 8) (toB (op2 eqF (op2 ixD (op2 ixD (nmF 0) e) (nmF 8)) (nmF 7))) (nmF 8) ρ = some (.lst [nI (o.idxOf y)]) := by
      refine compF_at (ds := (List.range n).map nI) (rngA1_at (consA_at h1 rfl) (by omega)) (by simp; omega) ?_
      have := compL_flt (g := gN 8) (p := toB (op2 eqF (op2 ixD (op2 ixD (nmF 0) e) (nmF 8)) (nmF 7))) (f := nmF 8) (ρ0 := ρ ++ List.replicate 1 .no) (h := nI) (o := nI) (q := fun v => decide (o.getD v 0 = y)) (List.range n) fun v hv => ⟨_, g8 v, toB_at ((op2_at ((op2_at (h00 _ (h0 _)) (n8 v)).trans (ixT_N (by rw [O.len]; exact List.mem_range.mp hv))) (n7 v)).trans (eqN_ev _ _)), fun _ => n8 v⟩
      rw [this, filter_one (idx_get O hy).1 fun i hi => by
        rw [decide_eq_true_eq]
        constructor
        · intro e
          have := idx_of O (c := i) hi
          rw [e] at this; exact this.symm
        · rintro rfl; exact (idx_get O hy).2]
      rfl
    exact (op2_at cp (y := .int 0) rfl).trans rfl
  have q1 : setF 5 (op2 ixD (compF 1 (rngA1 (consA (nmF 1) (nilA))) (gN 8) (toB (op2 eqF (op2 ixD (op2 ixD (nmF 0) (cst (.int 0))) (nmF 8)) (nmF 7))) (nmF 8)) (cst (.int 0))) [.v (sqD r x), .v (nI n), d2, .ob (.dT (lvT n r x y)), s4, s5, s6, .v (nI y)] = .nx [.v (sqD r x), .v (nI n), d2, .ob (.dT (lvT n r x y)), s4, .v (nI (r.idxOf y)), s6, .v (nI y)] :=
    (setF_at (fd r R _ _ rfl rfl rfl (fun _ => rfl) fun ρ' h => (op2_at h (y := .int 0) rfl).trans rfl)).trans rfl
  have q2 : setF 6 (op2 ixD (compF 1 (rngA1 (consA (nmF 1) (nilA))) (gN 8) (toB (op2 eqF (op2 ixD (op2 ixD (nmF 0) (cst (.int 1))) (nmF 8)) (nmF 7))) (nmF 8)) (cst (.int 0))) [.v (sqD r x), .v (nI n), d2, .ob (.dT (lvT n r x y)), s4, .v (nI (r.idxOf y)), s6, .v (nI y)] = .nx [.v (sqD r x), .v (nI n), d2, .ob (.dT (lvT n r x y)), s4, .v (nI (r.idxOf y)), .v (nI (x.idxOf y)), .v (nI y)] :=
    (setF_at (fd x X _ _ rfl rfl rfl (fun _ => rfl) fun ρ' h => (op2_at h (y := .int 1) rfl).trans rfl)).trans rfl
  have hr := (idx_get R hy).1
  have hx := (idx_get X hy).1
  obtain ⟨s4', q3⟩ := put_loop (i := 3) (g := gN 4) (fs := consA (nmF 4) (consA (nmF 7) (nilA))) (fv := Vs) (h := nI) (key := fun c => keyP (c, y)) (v := fun c => lvV r x (c, y)) (Q := fun _ => True) (st := fun kvs s => [.v (sqD r x), .v (nI n), d2, .ob (.dT kvs), s, .v (nI (r.idxOf y)), .v (nI (x.idxOf y)), .v (nI y)])
    (fun _ _ _ => rfl) (fun _ _ _ => rfl) (fun _ _ _ => Vs_at (a := r.idxOf y) (b := x.idxOf y) rfl rfl) (fun _ _ => rfl) (fun _ _ _ => rfl) (fun _ => by show 2 ≤ 1000; omega)
    ((List.range n).filter fun c => btB c (r.idxOf y) (x.idxOf y)) (lvT n r x y) s4 (fun _ _ => trivial) (by
      have h1 := lvP_len n r x y
      have h2 := List.length_filter_le (fun c => btB c (r.idxOf y) (x.idxOf y)) (List.range n)
      have h3 : y * n ≤ 6 * 6 := Nat.mul_le_mul (by omega) hn
      rw [List.length_range] at h2
      unfold lvT
      rw [List.length_map]; omega)
    (fun c _ => valT_none fun p hp e => by
      have := (lvP_mem.mp hp).1
      rw [keyP_inj e] at this
      exact Nat.lt_irrefl _ this)
    (by
      exact List.pairwise_map.mpr ((List.Pairwise.filter _ List.nodup_range).imp fun h e => h (congrArg Prod.fst (keyP_inj e))))
  refine ⟨s4', .v (nI (r.idxOf y)), .v (nI (x.idxOf y)), ?_⟩
  refine (seq_at q1).trans ((seq_at q2).trans ((forS_at (puA_at (rng_at (a := r.idxOf y) (b := x.idxOf y) rfl rfl (by omega) (by omega)))).trans ?_))
  rw [rng_bt hr hx]
  refine q3.trans ?_
  unfold lvT
  rw [lvP_succ, List.map_append, List.map_map]
  rfl
theorem ways_ev : m_law_ways [sqD r x] = some (upT n r x n, lvT n r x n) := by
  obtain ⟨ρ1, h1, s4, s5, s6, s7, rfl⟩ := forL_up (g := gN 4) (b := bU) (P := fun i ρ => ∃ s4 s5 s6 s7, ρ = [.v (sqD r x), .v (nI n), .ob (.dT (upT n r x i)), .ob (.dT []), s4, s5, s6, s7]) n 0 (fun i ρ _ hi ⟨s4, s5, s6, s7, e⟩ => by
    subst e
    rw [Nat.zero_add] at hi
    obtain ⟨s5', s6', s7', h⟩ := bU_at R X hn hi (.ob (.dT [])) s5 s6 s7
    exact ⟨_, _, rfl, h, _, _, _, _, rfl⟩) [.v (sqD r x), .v (nI n), .ob (.dT []), .ob (.dT []), .no, .no, .no, .no] ⟨.no, .no, .no, .no, rfl⟩
  obtain ⟨ρ2, h2, t4, t5, t6, t7, rfl⟩ := forL_up (g := gN 7) (b := bL) (P := fun i ρ => ∃ s4 s5 s6 s7, ρ = [.v (sqD r x), .v (nI n), .ob (.dT (upT n r x n)), .ob (.dT (lvT n r x i)), s4, s5, s6, s7]) n 0 (fun i ρ _ hi ⟨s4, s5, s6, s7, e⟩ => by
    subst e
    rw [Nat.zero_add] at hi
    obtain ⟨s4', s5', s6', h⟩ := bL_at R X hn hi (.ob (.dT (upT n r x n))) s4 s5 s6
    exact ⟨_, _, rfl, h, _, _, _, _, rfl⟩) [.v (sqD r x), .v (nI n), .ob (.dT (upT n r x n)), .ob (.dT []), s4, s5, s6, s7] ⟨s4, s5, s6, s7, rfl⟩
  rw [Nat.zero_add] at h1 h2
  have e0 : t_law_ways (rho0 8 [sqD r x]) = .nx [.v (sqD r x), .v (nI n), .ob (.dT (upT n r x n)), .ob (.dT (lvT n r x n)), t4, t5, t6, t7] := by
    unfold t_law_ways
    refine (seq_at (ρ' := [.v (sqD r x), .v (nI n), .no, .no, .no, .no, .no, .no]) ((setF_at (d := nI n) ((len_tupN r _ _ ((op2_at (x := sqD r x) (y := .int 0) rfl rfl).trans rfl)).trans (by rw [R.len]))).trans rfl)).trans ?_
    refine (seq_at (ρ' := [.v (sqD r x), .v (nI n), .ob (.dT []), .no, .no, .no, .no, .no]) rfl).trans ?_
    refine (seq_at (ρ' := [.v (sqD r x), .v (nI n), .ob (.dT []), .ob (.dT []), .no, .no, .no, .no]) rfl).trans ?_
    refine (seq_at ((forS_at (ds := (List.range n).map nI) (puA_at (rngA1_at (n := n) (consA_at rfl rfl) (by omega)))).trans (by rw [List.range_eq_range']; exact h1))).trans ?_
    refine (seq_at ((forS_at (ds := (List.range n).map nI) (puA_at (rngA1_at (n := n) (consA_at rfl rfl) (by omega)))).trans (by rw [List.range_eq_range']; exact h2))).trans rfl
  show fnD2 8 2 3 t_law_ways [sqD r x] = _
  unfold fnD2
  rw [e0]; rfl
def bC : FS := ifS (dinT 2 (nmF 4)) (dropE (callE 3 1 appM (puA (consA (tupF (consA (op2 ixD (nmF 4) (cst (.int 0))) (consA (op2 ixD (nmF 4) (cst (.int 1))) (consA (op2 ixD (lstF (consA (neg1 (cst (.int 1))) (consA (cst (.int 1)) (nilA)))) (callF intF (consA (op2 neF (dixT 1 (nmF 4)) (dixT 2 (nmF 4))) (nilA)))) (nilA))))) (nilA))))) (skip)
omit R X in
theorem bC_loop : ∀ (l : List (Nat × Nat)) (F : List (List Int)) (s4 : Sl), (∀ p ∈ l, p ∈ upP n r x n) → F.length + l.length ≤ 100 →
    ∃ s4', forL (gN 4) bC ((l.map keyP).map tpI) [.v (sqD r x), .ob (.dT (upT n r x n)), .ob (.dT (lvT n r x n)), .own (F.map tpI), s4] = .nx [.v (sqD r x), .ob (.dT (upT n r x n)), .ob (.dT (lvT n r x n)), .own ((F ++ (l.filter fun p => btB p.1 (r.idxOf p.2) (x.idxOf p.2)).map (fun p => [(p.1 : Int), (p.2 : Int), sgB r x p.1 p.2])).map tpI), s4']
  | [], F, s4, _, _ => ⟨s4, by rw [List.filter_nil, List.map_nil, List.map_nil, List.map_nil, List.append_nil]; rfl⟩
  | p :: l, F, s4, hp, hl => by
    have hm := hp p List.mem_cons_self
    have hm' := upP_mem.mp hm
    rw [List.length_cons] at hl
    let st : List (List Int) → Rho := fun F => [.v (sqD r x), .ob (.dT (upT n r x n)), .ob (.dT (lvT n r x n)), .own (F.map tpI), .v (tpI (keyP p))]
    have ku : valT (upT n r x n) (iK (keyP p)) = some (upV r x p) := valT_map hm fun b _ e => by rw [keyP_inj e]
    have fk : ∀ F, (nmF 4 (st F)).bind keyT = some (keyP p) := fun F => intsD_of _
    have din : ∀ F, dinT 2 (nmF 4) (st F) = some (valT (lvT n r x n) (iK (keyP p))).isSome := fun F => by
      unfold dinT
      rw [show getT 2 (st F) = some (lvT n r x n) from rfl, Option.bind_some, fk F]
      rfl
    rw [List.map_cons, List.map_cons]
    cases e : btB p.1 (r.idxOf p.2) (x.idxOf p.2) with
    | false =>
      have kl : valT (lvT n r x n) (iK (keyP p)) = none := valT_none fun b hb w => by
        have := (lvP_mem.mp hb).2.2
        rw [keyP_inj w, e] at this; cases this
      obtain ⟨s4', h⟩ := bC_loop l F (.v (tpI (keyP p))) (fun q hq => hp q (List.mem_cons_of_mem _ hq)) (by omega)
      refine ⟨s4', (forL_cons (ρ1 := st F) rfl (ρ2 := st F) ?_).trans (h.trans (by rw [List.filter_cons_of_neg (by rw [e]; decide)]))⟩
      exact ifS_f ((din F).trans (by rw [kl]; rfl))
    | true =>
      have kl : valT (lvT n r x n) (iK (keyP p)) = some (lvV r x p) := valT_map (lvP_mem.mpr ⟨hm'.2.1, hm'.1, e⟩) fun b _ e => by rw [keyP_inj e]
      obtain ⟨s4', h⟩ := bC_loop l (F ++ [[(p.1 : Int), (p.2 : Int), sgB r x p.1 p.2]]) (.v (tpI (keyP p))) (fun q hq => hp q (List.mem_cons_of_mem _ hq)) (by rw [List.length_append, List.length_singleton]; omega)
      have ix1 : dixT 1 (nmF 4) (st F) = some (upV r x p) := by
        unfold dixT
        rw [show getT 1 (st F) = some (upT n r x n) from rfl, Option.bind_some, fk F, Option.bind_some, ku]
      have ix2 : dixT 2 (nmF 4) (st F) = some (lvV r x p) := by
        unfold dixT
        rw [show getT 2 (st F) = some (lvT n r x n) from rfl, Option.bind_some, fk F, Option.bind_some, kl]
      have sg : op2 ixD (lstF (consA (neg1 (cst (.int 1))) (consA (cst (.int 1)) (nilA)))) (callF intF (consA (op2 neF (dixT 1 (nmF 4)) (dixT 2 (nmF 4))) (nilA))) (st F) = some (.int (sgB r x p.1 p.2)) := by
        have e1 : callF intF (consA (op2 neF (dixT 1 (nmF 4)) (dixT 2 (nmF 4))) (nilA)) (st F) = some (nI (if decide (x.getD p.1 0 < r.getD p.1 0) = decide (r.idxOf p.2 < x.idxOf p.2) then 0 else 1)) := by
          rw [callF_at (ds := [.bl (!eqD (upV r x p) (lvV r x p))]) (consA_at ((op2_at ix1 ix2).trans (neF_ev (by unfold upV dep; omega))) rfl)]
          unfold upV lvV
          cases decide (x.getD p.1 0 < r.getD p.1 0) <;> cases decide (r.idxOf p.2 < x.idxOf p.2) <;> unfold eqD <;> rfl
        refine (op2_at (x := .lst [.int (-1), .int 1]) rfl e1).trans ?_
        unfold sgB
        split
        · rfl
        · rfl
      refine ⟨s4', (forL_cons (ρ1 := st F) rfl (ρ2 := st (F ++ [[(p.1 : Int), (p.2 : Int), sgB r x p.1 p.2]])) ?_).trans (h.trans (by rw [List.filter_cons_of_pos (p := fun p : Nat × Nat => btB p.1 (r.idxOf p.2) (x.idxOf p.2)) e, List.map_cons, List.append_assoc]; rfl))⟩
      refine (ifS_t ((din F).trans (by rw [kl]; rfl))).trans ?_
      refine (app_at (i := 3) (b0 := F.map tpI) (bs := F.map tpI) (d := tpI [(p.1 : Int), (p.2 : Int), sgB r x p.1 p.2]) rfl (puA_at (consA_at (tupF_at (consA_at ((op2_at (x := tpI (keyP p)) (y := .int 0) rfl rfl).trans rfl) (consA_at ((op2_at (x := tpI (keyP p)) (y := .int 1) rfl rfl).trans rfl) (consA_at sg rfl))) (by simp)) rfl)) rfl (by rw [List.length_map]; omega)).trans ?_
      show Out.nx [.v (sqD r x), .ob (.dT (upT n r x n)), .ob (.dT (lvT n r x n)), .own (F.map tpI ++ [tpI [(p.1 : Int), (p.2 : Int), sgB r x p.1 p.2]]), .v (tpI (keyP p))] = Out.nx [.v (sqD r x), .ob (.dT (upT n r x n)), .ob (.dT (lvT n r x n)), .own ((F ++ [[(p.1 : Int), (p.2 : Int), sgB r x p.1 p.2]]).map tpI), .v (tpI (keyP p))]
      rw [List.map_append]; rfl
theorem lcross_ev : m_law_crossings [sqD r x] = some (.lst ((crK n r x).map tpI)) := by
  have ul : (upP n r x n).length ≤ 36 := Nat.le_trans (upP_len n r x n) (Nat.mul_le_mul hn hn)
  apply fnP_ex (kd := .n) (n := 5) (t := t_law_crossings)
  unfold t_law_crossings
  have q1 : setD2 1 2 1 m_law_ways (consA (nmF 0) (nilA)) (rho0 5 [sqD r x]) = .nx [.v (sqD r x), .ob (.dT (upT n r x n)), .ob (.dT (lvT n r x n)), .no, .no] := by
    unfold setD2
    rw [show (consA (nmF 0) (nilA)) (rho0 5 [sqD r x]) = some [sqD r x] from rfl]
    show (if [sqD r x].length = 1 then (match m_law_ways [sqD r x] with | some (p, q) => Out.nx _ | none => Out.no) else Out.no) = _
    rw [if_pos (show [sqD r x].length = 1 from rfl), ways_ev R X hn]
    rfl
  have q2 : ownF 3 (lstF (nilA)) [.v (sqD r x), .ob (.dT (upT n r x n)), .ob (.dT (lvT n r x n)), .no, .no] = .nx [.v (sqD r x), .ob (.dT (upT n r x n)), .ob (.dT (lvT n r x n)), .own [], .no] := (ownF_at (lstF_at (ds := []) rfl (by simp))).trans rfl
  have q3 : dsrtT 1 [.v (sqD r x), .ob (.dT (upT n r x n)), .ob (.dT (lvT n r x n)), .own [], .no] = some (.lst (((upP n r x n).map keyP).map tpI)) := by
    unfold dsrtT
    rw [show getT 1 [.v (sqD r x), .ob (.dT (upT n r x n)), .ob (.dT (lvT n r x n)), .own [], .no] = some (upT n r x n) from rfl, Option.bind_some]
    unfold upT
    rw [intKs_of, Option.bind_some, if_pos ⟨by rw [List.length_map]; omega, fun k hk => by obtain ⟨p, _, rfl⟩ := List.mem_map.mp hk; unfold keyP; simp⟩, ← isortG_eq lt_L (List.Perm.refl _) (upP_pw n r x n)]
  obtain ⟨s4, h⟩ := bC_loop (n := n) (r := r) (x := x) hn (upP n r x n) [] .no (fun _ h => h) (by simp; omega)
  rw [List.nil_append, crK_up] at h
  exact ⟨_, (seq_at q1).trans ((seq_at q2).trans ((seq_at ((forS_at (puA_at (seqA_l q3))).trans h)).trans rfl))⟩
end
theorem good_ev {n : Nat} {r x : List Nat} (R : Ord n r) (X : Ord n x) (hn : n ≤ 6) : m_law_good [sqD r x] = some (.bl true) := by
  have h := cross_ev R X hn
  have h2 := lcross_ev R X hn
  refine fnP_ex (kd := .s) (n := 3) (t := t_law_good) ?_
  unfold t_law_good
  have dl := dep_K (crK n r x)
  have q1 : setF 1 (callF (nF 1 m_crossings_of) (consA (nmF 0) (nilA))) (rho0 3 [sqD r x]) = .nx [.v (sqD r x), .v (.lst ((crK n r x).map tpI)), .no] := (setF_at ((cl_at (ds := [sqD r x]) rfl rfl).trans h)).trans rfl
  refine seq_ex (fun ρ => ρ = [.v (sqD r x), .v (.lst ((crK n r x).map tpI)), .no]) ⟨_, q1, rfl⟩ fun ρ e => ?_
  subst e
  refine seq_ex (fun ρ => ρ = [.v (sqD r x), .v (.lst ((crK n r x).map tpI)), .no]) ⟨_, ifS_f (or2_at (not_at (b := true) (tru_bl rfl)) (toB_at ((op2_at (x := .lst ((crK n r x).map tpI)) rfl ((cl_at (ds := [sqD r x]) rfl rfl).trans h2)).trans (ne_same dl)))), rfl⟩ fun ρ e => ?_
  subst e
  refine seq_ex (fun ρ => ∃ s2, ρ = [.v (sqD r x), .v (.lst ((crK n r x).map tpI)), s2]) (forS_ex (ds := (crK n r x).map tpI) (puA_at (seqA_l rfl)) (forL_ex _ (fun d hd ρ hρ => ?_) _ ⟨_, rfl⟩)) fun ρ' hρ' => ⟨ρ', retF_at rfl⟩
  obtain ⟨k, hk, rfl⟩ := List.mem_map.mp hd
  obtain ⟨s2, rfl⟩ := hρ
  have kl : k.length ≤ 3 := by
    unfold crK at hk
    obtain ⟨c, _, hk⟩ := List.mem_flatMap.mp hk
    obtain ⟨y, _, rfl⟩ := List.mem_map.mp hk
    exact Nat.le_refl _
  refine ⟨_, _, rfl, ifS_f (or2_at (not_at (b := true) (tru_bl rfl)) (tru_bl ?_)), _, rfl⟩
  rw [callF_at (consA_at (compF_at (ds := k.map D.int) (ys := (k.map fun _ => false).map D.bl) (seqA_t rfl) (by rw [List.length_map]; omega) (by
    rw [List.map_map]
    exact compL_map (h := D.int) k fun v _ => ⟨_, rfl, rfl⟩)) rfl), anyD_of]
  congr 2
  rw [List.any_map, List.any_eq_false]; intro _ _; simp
theorem law_ev (ns : List Int) (hn : ns.length ≤ 63) : m_law [scD ns] = some (.bl true) := by
  refine fnP_ex (kd := .s) (n := 5) (t := t_law) ?_
  unfold t_law
  obtain ⟨kk, hk1, hk2⟩ := cellsK ns 8 (by omega) (rho0 5 [scD ns]) rfl
  refine seq_ex (fun ρ => ∃ s1 s2 s3, ρ = [.v (scD ns), s1, s2, s3, .no]) (forS_ex (ds := (List.range kk).map nI) (puA_at (rngA1_at (consA_at hk2 rfl) (by omega))) (forL_ex _ (fun d hd ρ hρ => ?_) _ ⟨_, _, _, rfl⟩)) fun ρ' hρ' => ?_
  · obtain ⟨k, hk, rfl⟩ := List.mem_map.mp hd
    rw [List.mem_range] at hk
    obtain ⟨s1, s2, s3, rfl⟩ := hρ
    obtain ⟨a0, b0, eb, B⟩ := bag_ev ns k (by omega) hn
    obtain ⟨d1, a1, b1, et, B1, d10, d11⟩ := take_ev (m := 5) B (by omega) (by decide) (by decide)
    obtain ⟨n, hm, hn1, hn2⟩ : ∃ m : Nat, addF (.int 2) (.int d1) = some (nI m) ∧ 2 ≤ m ∧ m ≤ 6 := ⟨(2 + d1).toNat, by rw [addF_int, toN (by omega)], by omega, by omega⟩
    obtain ⟨r, x, a2, b2, e2, S, B2⟩ := squareD_ev B1 hn1 hn2 (by omega)
    have g := good_ev S.hr S.hx hn2
    have q1 : ownF 2 (callF (nF 2 m_law_bag) (consA (nmF 0) (consA (nmF 1) (nilA)))) [.v (scD ns), .v (nI k), s2, s3, .no] = .nx [.v (scD ns), .v (nI k), .own (bagD a0 b0), s3, .no] := (ownF_at ((cl_at (ds := [scD ns, nI k]) rfl rfl).trans eb)).trans rfl
    have q2 : setE 3 (callE 2 1 m_law_square (consG (op2E addF (pu (cst (.int 2))) (callE 2 1 m_law_take (puA (consA (cst (.int 5)) (nilA))))) (puA (nilA)))) [.v (scD ns), .v (nI k), .own (bagD a0 b0), s3, .no] = .nx [.v (scD ns), .v (nI k), .own (bagD a2 b2), .v (sqD r x), .no] :=
      (setE_at (callE_at (i := 2) (n := 1) (b0 := bagD a0 b0) (bs := bagD a1 b1) (ds := [nI n]) rfl (consG_at (op2E_at (pu_at rfl) (callE_at (i := 2) (n := 1) (b0 := bagD a0 b0) (ds := [.int 5]) rfl (puA_at rfl) rfl rfl et) hm) rfl) rfl rfl e2)).trans rfl
    have q3 : ifS (not1 (tru1 (callF (nF 1 m_law_good) (consA (nmF 3) (nilA))))) (retF (cst (.bl false))) (skip) [.v (scD ns), .v (nI k), .own (bagD a2 b2), .v (sqD r x), .no] = .nx [.v (scD ns), .v (nI k), .own (bagD a2 b2), .v (sqD r x), .no] :=
      ifS_f (not_at (b := true) (tru_bl ((cl_at (ds := [sqD r x]) rfl rfl).trans g)))
    have q4 : dropE (pu (appNF (callF (nF 1 m_crossings_of) (consA (nmF 3) (nilA))) (tupF (consA (cst (.int 0)) (consA (cst (.int 0)) (consA (cst (.int 1)) (nilA))))))) [.v (scD ns), .v (nI k), .own (bagD a2 b2), .v (sqD r x), .no] = .nx [.v (scD ns), .v (nI k), .own (bagD a2 b2), .v (sqD r x), .no] := by
      have : appNF (callF (nF 1 m_crossings_of) (consA (nmF 3) (nilA))) (tupF (consA (cst (.int 0)) (consA (cst (.int 0)) (consA (cst (.int 1)) (nilA))))) [.v (scD ns), .v (nI k), .own (bagD a2 b2), .v (sqD r x), .no] = some .non := by
        have ec : callF (nF 1 m_crossings_of) (consA (nmF 3) (nilA)) [.v (scD ns), .v (nI k), .own (bagD a2 b2), .v (sqD r x), .no] = some (.lst ((crK n r x).map tpI)) := (cl_at (ds := [sqD r x]) rfl rfl).trans (cross_ev S.hr S.hx hn2)
        unfold appNF
        rw [ec]
        have hl := crK_len n r x hn2
        dsimp only
        rw [if_pos (by rw [List.length_map, sizeLine_eq]; omega), tupF_at (ds := [.int 0, .int 0, .int 1]) rfl (by simp)]
        rfl
      unfold dropE
      rw [pu_at this]
    exact ⟨_, [.v (scD ns), .v (nI k), .own (bagD a2 b2), .v (sqD r x), .no], rfl, (seq_at q1).trans ((seq_at q2).trans ((seq_at q3).trans ((seq_at q4).trans q3))), ⟨_, _, _, rfl⟩⟩
  · obtain ⟨s1, s2, s3, rfl⟩ := hρ'
    have o2 : Ord 2 [0, 1] := ⟨List.Perm.refl _⟩
    have o2' : Ord 2 [1, 0] := ⟨by decide⟩
    have o6 : Ord 6 [0, 1, 2, 3, 4, 5] := ⟨List.Perm.refl _⟩
    have o6' : Ord 6 [3, 4, 5, 0, 1, 2] := ⟨by decide⟩
    have o6a : Ord 6 [0, 5, 1, 4, 2, 3] := ⟨by decide⟩
    have o6b : Ord 6 [5, 0, 4, 1, 3, 2] := ⟨by decide⟩
    refine ⟨_, (seq_at (ρ' := [.v (scD ns), s1, s2, s3, .v (.lst [sqD [0, 1] [1, 0], sqD [0, 1, 2, 3, 4, 5] [3, 4, 5, 0, 1, 2], sqD [0, 5, 1, 4, 2, 3] [5, 0, 4, 1, 3, 2]])]) ((setF_at (d := .lst [sqD [0, 1] [1, 0], sqD [0, 1, 2, 3, 4, 5] [3, 4, 5, 0, 1, 2], sqD [0, 5, 1, 4, 2, 3] [5, 0, 4, 1, 3, 2]]) rfl).trans rfl)).trans (retF_at ?_)⟩
    rw [callF_at (consA_at (compF_at (ds := [([0, 1], [1, 0]), ([0, 1, 2, 3, 4, 5], [3, 4, 5, 0, 1, 2]), ([0, 5, 1, 4, 2, 3], [5, 0, 4, 1, 3, 2])].map fun p : List Nat × List Nat => sqD p.1 p.2) (ys := ([([0, 1], [1, 0]), ([0, 1, 2, 3, 4, 5], [3, 4, 5, 0, 1, 2]), ([0, 5, 1, 4, 2, 3], [5, 0, 4, 1, 3, 2])].map fun p : List Nat × List Nat => D.bl true)) (seqA_l rfl) (by simp) (compL_map _ fun p hp => ⟨_, rfl, ?_⟩)) rfl)]
    · rfl
    · refine (cl_at (ds := [sqD p.1 p.2]) rfl rfl).trans ?_
      rcases List.mem_cons.mp hp with rfl | hp
      · exact good_ev o2 o2' (by omega)
      rcases List.mem_cons.mp hp with rfl | hp
      · exact good_ev o6 o6' (by omega)
      rcases List.mem_cons.mp hp with rfl | hp
      · exact good_ev o6a o6b (by omega)
      cases hp
end L2
set_option Elab.async false
set_option linter.all false
set_option maxRecDepth 100000
set_option maxHeartbeats 4000000
namespace L2
open PySem PySem.Spec PyProof.Rows
theorem all_mk {l : PySem.W.OpenLaw} {w : World} {K : PySem.W.Frag} {h : Heap} {mg : Str → Option Value} {fa : Addr} {f0 : Addr} {od0 an0 : Option Addr} {sl0 : Array (Option Value)} {oc0 kV0 dc0 pm0 cd0 ct0 : Value} {f1 : Addr} {od1 an1 : Option Addr} {sl1 : Array (Option Value)} {oc1 kV1 dc1 pm1 cd1 ct1 : Value} {f2 : Addr} {od2 an2 : Option Addr} {sl2 : Array (Option Value)} {oc2 kV2 dc2 pm2 cd2 ct2 : Value} {f3 : Addr} {od3 an3 : Option Addr} {sl3 : Array (Option Value)} {oc3 kV3 dc3 pm3 cd3 ct3 : Value} {f4 : Addr} {od4 an4 : Option Addr} {sl4 : Array (Option Value)} {oc4 kV4 dc4 pm4 cd4 ct4 : Value} {f5 : Addr} {od5 an5 : Option Addr} {sl5 : Array (Option Value)} {oc5 kV5 dc5 pm5 cd5 ct5 : Value} {f6 : Addr} {od6 an6 : Option Addr} {sl6 : Array (Option Value)} {oc6 kV6 dc6 pm6 cd6 ct6 : Value} {f7 : Addr} {od7 an7 : Option Addr} {sl7 : Array (Option Value)} {oc7 kV7 dc7 pm7 cd7 ct7 : Value} {f8 : Addr} {od8 an8 : Option Addr} {sl8 : Array (Option Value)} {oc8 kV8 dc8 pm8 cd8 ct8 : Value} {f9 : Addr} {od9 an9 : Option Addr} {sl9 : Array (Option Value)} {oc9 kV9 dc9 pm9 cd9 ct9 : Value} {f10 : Addr} {od10 an10 : Option Addr} {sl10 : Array (Option Value)} {oc10 kV10 dc10 pm10 cd10 ct10 : Value} {f11 : Addr} {od11 an11 : Option Addr} {sl11 : Array (Option Value)} {oc11 kV11 dc11 pm11 cd11 ct11 : Value} {f12 : Addr} {od12 an12 : Option Addr} {sl12 : Array (Option Value)} {oc12 kV12 dc12 pm12 cd12 ct12 : Value} {f13 : Addr} {od13 an13 : Option Addr} {sl13 : Array (Option Value)} {oc13 kV13 dc13 pm13 cd13 ct13 : Value} {f14 : Addr} {od14 an14 : Option Addr} {sl14 : Array (Option Value)} {oc14 kV14 dc14 pm14 cd14 ct14 : Value} (X : K.In h) (G : h.Ns mainGlobals mg) (hfa : mg "law" = some (.ref fa))
    (a0 : PySem.W.nsIn K mainGlobals "lies_between" = some (some (.ref f0))) (l0 : K.lookup f0 = some ⟨oc0, od0, .func (PySem.W.fnOf "lies_between" "lies_between" (defArgs s_lies_between) (defBody s_lies_between) (defScope s_lies_between) .none kV0 dc0 pm0 an0 cd0 ct0), sl0⟩) (c0 : PySem.W.codeIn K cd0 "lies_between" = true) (k0 : PySem.W.keepIn K (.ref f0) = true)
    (a1 : PySem.W.nsIn K mainGlobals "goes_up" = some (some (.ref f1))) (l1 : K.lookup f1 = some ⟨oc1, od1, .func (PySem.W.fnOf "goes_up" "goes_up" (defArgs s_goes_up) (defBody s_goes_up) (defScope s_goes_up) .none kV1 dc1 pm1 an1 cd1 ct1), sl1⟩) (c1 : PySem.W.codeIn K cd1 "goes_up" = true) (k1 : PySem.W.keepIn K (.ref f1) = true)
    (a2 : PySem.W.nsIn K mainGlobals "goes_right" = some (some (.ref f2))) (l2 : K.lookup f2 = some ⟨oc2, od2, .func (PySem.W.fnOf "goes_right" "goes_right" (defArgs s_goes_right) (defBody s_goes_right) (defScope s_goes_right) .none kV2 dc2 pm2 an2 cd2 ct2), sl2⟩) (c2 : PySem.W.codeIn K cd2 "goes_right" = true) (k2 : PySem.W.keepIn K (.ref f2) = true)
    (a3 : PySem.W.nsIn K mainGlobals "is_crossing" = some (some (.ref f3))) (l3 : K.lookup f3 = some ⟨oc3, od3, .func (PySem.W.fnOf "is_crossing" "is_crossing" (defArgs s_is_crossing) (defBody s_is_crossing) (defScope s_is_crossing) .none kV3 dc3 pm3 an3 cd3 ct3), sl3⟩) (c3 : PySem.W.codeIn K cd3 "is_crossing" = true) (k3 : PySem.W.keepIn K (.ref f3) = true)
    (a4 : PySem.W.nsIn K mainGlobals "sign_at" = some (some (.ref f4))) (l4 : K.lookup f4 = some ⟨oc4, od4, .func (PySem.W.fnOf "sign_at" "sign_at" (defArgs s_sign_at) (defBody s_sign_at) (defScope s_sign_at) .none kV4 dc4 pm4 an4 cd4 ct4), sl4⟩) (c4 : PySem.W.codeIn K cd4 "sign_at" = true) (k4 : PySem.W.keepIn K (.ref f4) = true)
    (a5 : PySem.W.nsIn K mainGlobals "crossings_of" = some (some (.ref f5))) (l5 : K.lookup f5 = some ⟨oc5, od5, .func (PySem.W.fnOf "crossings_of" "crossings_of" (defArgs s_crossings_of) (defBody s_crossings_of) (defScope s_crossings_of) .none kV5 dc5 pm5 an5 cd5 ct5), sl5⟩) (c5 : PySem.W.codeIn K cd5 "crossings_of" = true) (k5 : PySem.W.keepIn K (.ref f5) = true)
    (a6 : PySem.W.nsIn K mainGlobals "_law_cell" = some (some (.ref f6))) (l6 : K.lookup f6 = some ⟨oc6, od6, .func (PySem.W.fnOf "_law_cell" "_law_cell" (defArgs s_law_cell) (defBody s_law_cell) (defScope s_law_cell) .none kV6 dc6 pm6 an6 cd6 ct6), sl6⟩) (c6 : PySem.W.codeIn K cd6 "_law_cell" = true) (k6 : PySem.W.keepIn K (.ref f6) = true)
    (a7 : PySem.W.nsIn K mainGlobals "_law_bag" = some (some (.ref f7))) (l7 : K.lookup f7 = some ⟨oc7, od7, .func (PySem.W.fnOf "_law_bag" "_law_bag" (defArgs s_law_bag) (defBody s_law_bag) (defScope s_law_bag) .none kV7 dc7 pm7 an7 cd7 ct7), sl7⟩) (c7 : PySem.W.codeIn K cd7 "_law_bag" = true) (k7 : PySem.W.keepIn K (.ref f7) = true)
    (a8 : PySem.W.nsIn K mainGlobals "_law_take" = some (some (.ref f8))) (l8 : K.lookup f8 = some ⟨oc8, od8, .func (PySem.W.fnOf "_law_take" "_law_take" (defArgs s_law_take) (defBody s_law_take) (defScope s_law_take) .none kV8 dc8 pm8 an8 cd8 ct8), sl8⟩) (c8 : PySem.W.codeIn K cd8 "_law_take" = true) (k8 : PySem.W.keepIn K (.ref f8) = true)
    (a9 : PySem.W.nsIn K mainGlobals "_law_order" = some (some (.ref f9))) (l9 : K.lookup f9 = some ⟨oc9, od9, .func (PySem.W.fnOf "_law_order" "_law_order" (defArgs s_law_order) (defBody s_law_order) (defScope s_law_order) .none kV9 dc9 pm9 an9 cd9 ct9), sl9⟩) (c9 : PySem.W.codeIn K cd9 "_law_order" = true) (k9 : PySem.W.keepIn K (.ref f9) = true)
    (a10 : PySem.W.nsIn K mainGlobals "_law_square" = some (some (.ref f10))) (l10 : K.lookup f10 = some ⟨oc10, od10, .func (PySem.W.fnOf "_law_square" "_law_square" (defArgs s_law_square) (defBody s_law_square) (defScope s_law_square) .none kV10 dc10 pm10 an10 cd10 ct10), sl10⟩) (c10 : PySem.W.codeIn K cd10 "_law_square" = true) (k10 : PySem.W.keepIn K (.ref f10) = true)
    (a11 : PySem.W.nsIn K mainGlobals "_law_ways" = some (some (.ref f11))) (l11 : K.lookup f11 = some ⟨oc11, od11, .func (PySem.W.fnOf "_law_ways" "_law_ways" (defArgs s_law_ways) (defBody s_law_ways) (defScope s_law_ways) .none kV11 dc11 pm11 an11 cd11 ct11), sl11⟩) (c11 : PySem.W.codeIn K cd11 "_law_ways" = true) (k11 : PySem.W.keepIn K (.ref f11) = true)
    (a12 : PySem.W.nsIn K mainGlobals "_law_crossings" = some (some (.ref f12))) (l12 : K.lookup f12 = some ⟨oc12, od12, .func (PySem.W.fnOf "_law_crossings" "_law_crossings" (defArgs s_law_crossings) (defBody s_law_crossings) (defScope s_law_crossings) .none kV12 dc12 pm12 an12 cd12 ct12), sl12⟩) (c12 : PySem.W.codeIn K cd12 "_law_crossings" = true) (k12 : PySem.W.keepIn K (.ref f12) = true)
    (a13 : PySem.W.nsIn K mainGlobals "_law_good" = some (some (.ref f13))) (l13 : K.lookup f13 = some ⟨oc13, od13, .func (PySem.W.fnOf "_law_good" "_law_good" (defArgs s_law_good) (defBody s_law_good) (defScope s_law_good) .none kV13 dc13 pm13 an13 cd13 ct13), sl13⟩) (c13 : PySem.W.codeIn K cd13 "_law_good" = true) (k13 : PySem.W.keepIn K (.ref f13) = true)
    (a14 : PySem.W.nsIn K mainGlobals "law" = some (some (.ref f14))) (l14 : K.lookup f14 = some ⟨oc14, od14, .func (PySem.W.fnOf "law" "law" (defArgs s_law) (defBody s_law) (defScope s_law) .none kV14 dc14 pm14 an14 cd14 ct14), sl14⟩) (c14 : PySem.W.codeIn K cd14 "law" = true) (k14 : PySem.W.keepIn K (.ref f14) = true)
    (z_abs : PySem.W.nsIn K mainGlobals "abs" = some none)
    (z_all : PySem.W.nsIn K mainGlobals "all" = some none)
    (z_any : PySem.W.nsIn K mainGlobals "any" = some none)
    (z_bool : PySem.W.nsIn K mainGlobals "bool" = some none)
    (z_int : PySem.W.nsIn K mainGlobals "int" = some none)
    (z_isinstance : PySem.W.nsIn K mainGlobals "isinstance" = some none)
    (z_len : PySem.W.nsIn K mainGlobals "len" = some none)
    (z_list : PySem.W.nsIn K mainGlobals "list" = some none)
    (z_max : PySem.W.nsIn K mainGlobals "max" = some none)
    (z_min : PySem.W.nsIn K mainGlobals "min" = some none)
    (z_range : PySem.W.nsIn K mainGlobals "range" = some none)
    (z_sorted : PySem.W.nsIn K mainGlobals "sorted" = some none)
    (z_tuple : PySem.W.nsIn K mainGlobals "tuple" = some none) :
    ∃ fd : FuncData, (∀ (s : Shared) (v : Value), BindsTo s fd ⟨[v], []⟩ [("_law_script", v)]) ∧ ∀ base : Heap, K.In base → base.Ns mainGlobals mg → FnOk l.prog w K mg base CX0 5 fa fd ["_law_script"] (spLaw K) := by
  have e := hfa.symm.trans (PySem.W.mg_of X G a14)
  cases e
  have F0 := fun_mk (st := s_lies_between) l0 c0 k0
  have b0 := F0.binds (ps := ["at", "one", "other"]) fun _ _ _ _ _ _ us hl => ar3 us hl (fun _ _ _ => rfl)
  have d0 : Df K mg "lies_between" s_lies_between ["at", "one", "other"] := ⟨_, _, F0, PySem.W.mg_of X G a0, b0⟩
  have F1 := fun_mk (st := s_goes_up) l1 c1 k1
  have b1 := F1.binds (ps := ["square", "column"]) fun _ _ _ _ _ _ us hl => ar2 us hl (fun _ _ => rfl)
  have d1 : Df K mg "goes_up" s_goes_up ["square", "column"] := ⟨_, _, F1, PySem.W.mg_of X G a1, b1⟩
  have F2 := fun_mk (st := s_goes_right) l2 c2 k2
  have b2 := F2.binds (ps := ["square", "row"]) fun _ _ _ _ _ _ us hl => ar2 us hl (fun _ _ => rfl)
  have d2 : Df K mg "goes_right" s_goes_right ["square", "row"] := ⟨_, _, F2, PySem.W.mg_of X G a2, b2⟩
  have F3 := fun_mk (st := s_is_crossing) l3 c3 k3
  have b3 := F3.binds (ps := ["square", "column", "row"]) fun _ _ _ _ _ _ us hl => ar3 us hl (fun _ _ _ => rfl)
  have d3 : Df K mg "is_crossing" s_is_crossing ["square", "column", "row"] := ⟨_, _, F3, PySem.W.mg_of X G a3, b3⟩
  have F4 := fun_mk (st := s_sign_at) l4 c4 k4
  have b4 := F4.binds (ps := ["square", "column", "row"]) fun _ _ _ _ _ _ us hl => ar3 us hl (fun _ _ _ => rfl)
  have d4 : Df K mg "sign_at" s_sign_at ["square", "column", "row"] := ⟨_, _, F4, PySem.W.mg_of X G a4, b4⟩
  have F5 := fun_mk (st := s_crossings_of) l5 c5 k5
  have b5 := F5.binds (ps := ["square"]) fun _ _ _ _ _ _ us hl => ar1 us hl (fun _ => rfl)
  have d5 : Df K mg "crossings_of" s_crossings_of ["square"] := ⟨_, _, F5, PySem.W.mg_of X G a5, b5⟩
  have F6 := fun_mk (st := s_law_cell) l6 c6 k6
  have b6 := F6.binds (ps := ["_law_script", "_law_k"]) fun _ _ _ _ _ _ us hl => ar2 us hl (fun _ _ => rfl)
  have d6 : Df K mg "_law_cell" s_law_cell ["_law_script", "_law_k"] := ⟨_, _, F6, PySem.W.mg_of X G a6, b6⟩
  have F7 := fun_mk (st := s_law_bag) l7 c7 k7
  have b7 := F7.binds (ps := ["_law_script", "_law_at"]) fun _ _ _ _ _ _ us hl => ar2 us hl (fun _ _ => rfl)
  have d7 : Df K mg "_law_bag" s_law_bag ["_law_script", "_law_at"] := ⟨_, _, F7, PySem.W.mg_of X G a7, b7⟩
  have F8 := fun_mk (st := s_law_take) l8 c8 k8
  have b8 := F8.binds (ps := ["_law_bag_here", "_law_many"]) fun _ _ _ _ _ _ us hl => ar2 us hl (fun _ _ => rfl)
  have d8 : Df K mg "_law_take" s_law_take ["_law_bag_here", "_law_many"] := ⟨_, _, F8, PySem.W.mg_of X G a8, b8⟩
  have F9 := fun_mk (st := s_law_order) l9 c9 k9
  have b9 := F9.binds (ps := ["_law_bag_here", "_law_n"]) fun _ _ _ _ _ _ us hl => ar2 us hl (fun _ _ => rfl)
  have d9 : Df K mg "_law_order" s_law_order ["_law_bag_here", "_law_n"] := ⟨_, _, F9, PySem.W.mg_of X G a9, b9⟩
  have F10 := fun_mk (st := s_law_square) l10 c10 k10
  have b10 := F10.binds (ps := ["_law_bag_here", "_law_n"]) fun _ _ _ _ _ _ us hl => ar2 us hl (fun _ _ => rfl)
  have d10 : Df K mg "_law_square" s_law_square ["_law_bag_here", "_law_n"] := ⟨_, _, F10, PySem.W.mg_of X G a10, b10⟩
  have F11 := fun_mk (st := s_law_ways) l11 c11 k11
  have b11 := F11.binds (ps := ["_law_square_here"]) fun _ _ _ _ _ _ us hl => ar1 us hl (fun _ => rfl)
  have d11 : Df K mg "_law_ways" s_law_ways ["_law_square_here"] := ⟨_, _, F11, PySem.W.mg_of X G a11, b11⟩
  have F12 := fun_mk (st := s_law_crossings) l12 c12 k12
  have b12 := F12.binds (ps := ["_law_square_here"]) fun _ _ _ _ _ _ us hl => ar1 us hl (fun _ => rfl)
  have d12 : Df K mg "_law_crossings" s_law_crossings ["_law_square_here"] := ⟨_, _, F12, PySem.W.mg_of X G a12, b12⟩
  have F13 := fun_mk (st := s_law_good) l13 c13 k13
  have b13 := F13.binds (ps := ["_law_square_here"]) fun _ _ _ _ _ _ us hl => ar1 us hl (fun _ => rfl)
  have d13 : Df K mg "_law_good" s_law_good ["_law_square_here"] := ⟨_, _, F13, PySem.W.mg_of X G a13, b13⟩
  have F14 := fun_mk (st := s_law) l14 c14 k14
  have b14 := F14.binds (ps := ["_law_script"]) fun _ _ _ _ _ _ us hl => ar1 us hl (fun _ => rfl)
  have d14 : Df K mg "law" s_law ["_law_script"] := ⟨_, _, F14, PySem.W.mg_of X G a14, b14⟩
  have B : Bt mg := ⟨PySem.W.mg_none_of X G z_abs, PySem.W.mg_none_of X G z_all, PySem.W.mg_none_of X G z_any, PySem.W.mg_none_of X G z_bool, PySem.W.mg_none_of X G z_int, PySem.W.mg_none_of X G z_isinstance, PySem.W.mg_none_of X G z_len, PySem.W.mg_none_of X G z_list, PySem.W.mg_none_of X G z_max, PySem.W.mg_none_of X G z_min, PySem.W.mg_none_of X G z_range, PySem.W.mg_none_of X G z_sorted, PySem.W.mg_none_of X G z_tuple⟩
  refine ⟨PySem.W.fnOf "law" "law" (defArgs s_law) (defBody s_law) (defScope s_law) .none kV14 dc14 pm14 an14 cd14 ct14, fun s v => .of_eq rfl, fun base _ _ => ?_⟩
  have c_lies_between := k_lies_between (P := l.prog) (w := w) (base := base) B d0 
  have c_goes_up := k_goes_up (P := l.prog) (w := w) (base := base) B d1 
  have c_goes_right := k_goes_right (P := l.prog) (w := w) (base := base) B d2 
  have c_is_crossing := k_is_crossing (P := l.prog) (w := w) (base := base) B d3 c_lies_between
  have c_sign_at := k_sign_at (P := l.prog) (w := w) (base := base) B d4 c_goes_up c_goes_right
  have c_crossings_of := k_crossings_of (P := l.prog) (w := w) (base := base) B d5 c_sign_at c_is_crossing
  have c_law_cell := k_law_cell (P := l.prog) (w := w) (base := base) B d6 
  have c_law_bag := k_law_bag (P := l.prog) (w := w) (base := base) B d7 c_law_cell
  have c_law_take := k_law_take (P := l.prog) (w := w) (base := base) B d8 
  have c_law_order := k_law_order (P := l.prog) (w := w) (base := base) B d9 c_law_take
  have c_law_square := k_law_square (P := l.prog) (w := w) (base := base) B d10 c_law_take c_law_order
  have c_law_ways := k_law_ways (P := l.prog) (w := w) (base := base) B d11 
  have c_law_crossings := k_law_crossings (P := l.prog) (w := w) (base := base) B d12 c_law_ways
  have c_law_good := k_law_good (P := l.prog) (w := w) (base := base) B d13 c_crossings_of c_law_crossings
  exact fn_law (kf_law (P := l.prog) (w := w) (base := base) B F14 c_law_bag c_law_square c_law_good c_law_take c_crossings_of) law_ev
end L2
open PySem PySem.W PyProof.Rows
set_option maxRecDepth 100000 in
set_option maxHeartbeats 0 in
theorem PySem.Challenge.cw_rookborders_k03_crossings_holds : PySem.Challenge.rw_rookborders_k03_crossings.Holds := by
  w_on; o_law; k_head; (case hw => w_witness2)
  k_fill
  refine L2.walkD (l := PySem.Challenge.rw_rookborders_k03_crossings) (k := 5) (x := "_law_script") rfl rfl ⟨rfl, by decide, by decide⟩ (fun w h Y => PySem.W.kIn_of Y) ?F
  case F =>
    intro w mg fa h KX G hmg
    refine' L2.all_mk KX G hmg ?a0 ?l0 ?c0 ?k0 ?a1 ?l1 ?c1 ?k1 ?a2 ?l2 ?c2 ?k2 ?a3 ?l3 ?c3 ?k3 ?a4 ?l4 ?c4 ?k4 ?a5 ?l5 ?c5 ?k5 ?a6 ?l6 ?c6 ?k6 ?a7 ?l7 ?c7 ?k7 ?a8 ?l8 ?c8 ?k8 ?a9 ?l9 ?c9 ?k9 ?a10 ?l10 ?c10 ?k10 ?a11 ?l11 ?c11 ?k11 ?a12 ?l12 ?c12 ?k12 ?a13 ?l13 ?c13 ?k13 ?a14 ?l14 ?c14 ?k14 ?z_abs ?z_all ?z_any ?z_bool ?z_int ?z_isinstance ?z_len ?z_list ?z_max ?z_min ?z_range ?z_sorted ?z_tuple
    (case a0 => k_is)
    (case l0 => k_is)
    (case c0 => k_is)
    (case k0 => k_is)
    (case a1 => k_is)
    (case l1 => k_is)
    (case c1 => k_is)
    (case k1 => k_is)
    (case a2 => k_is)
    (case l2 => k_is)
    (case c2 => k_is)
    (case k2 => k_is)
    (case a3 => k_is)
    (case l3 => k_is)
    (case c3 => k_is)
    (case k3 => k_is)
    (case a4 => k_is)
    (case l4 => k_is)
    (case c4 => k_is)
    (case k4 => k_is)
    (case a5 => k_is)
    (case l5 => k_is)
    (case c5 => k_is)
    (case k5 => k_is)
    (case a6 => k_is)
    (case l6 => k_is)
    (case c6 => k_is)
    (case k6 => k_is)
    (case a7 => k_is)
    (case l7 => k_is)
    (case c7 => k_is)
    (case k7 => k_is)
    (case a8 => k_is)
    (case l8 => k_is)
    (case c8 => k_is)
    (case k8 => k_is)
    (case a9 => k_is)
    (case l9 => k_is)
    (case c9 => k_is)
    (case k9 => k_is)
    (case a10 => k_is)
    (case l10 => k_is)
    (case c10 => k_is)
    (case k10 => k_is)
    (case a11 => k_is)
    (case l11 => k_is)
    (case c11 => k_is)
    (case k11 => k_is)
    (case a12 => k_is)
    (case l12 => k_is)
    (case c12 => k_is)
    (case k12 => k_is)
    (case a13 => k_is)
    (case l13 => k_is)
    (case c13 => k_is)
    (case k13 => k_is)
    (case a14 => k_is)
    (case l14 => k_is)
    (case c14 => k_is)
    (case k14 => k_is)
    (case z_abs => k_is)
    (case z_all => k_is)
    (case z_any => k_is)
    (case z_bool => k_is)
    (case z_int => k_is)
    (case z_isinstance => k_is)
    (case z_len => k_is)
    (case z_list => k_is)
    (case z_max => k_is)
    (case z_min => k_is)
    (case z_range => k_is)
    (case z_sorted => k_is)
    (case z_tuple => k_is)
