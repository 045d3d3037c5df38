import PyProof.Rows.All
import Wide.All
import OpenK.AllK
import Wide.FinOn
import Lean
import PyProof.EqAt
import PyProof.EqKinds
import PyProof.TupleCall
import PyProof.Draws
import PyProof.EnumMake
import PyProof.ZipIter
import KE.KListMore
import PyProof.Rows.FStr
import PyProof.FString
import PyProof.Rows.CallKw2
import PyProof.StrLawsTight
import PyProof.CompUse
import PyProof.CompFree
import PyProof.MaxThree
import PyProof.Rows.SumAny
import PyProof.NeKinds
import PyProof.Rows.StrJoin2
import KE.KRevIter
import PyProof.AutoRange
import PyProof.FactsAll.range_2
import PyProof.Rows.FactsT2
import PyProof.Rows.SortShell
import PyProof.Rows.SortWalk
import PySem.Challenge.RW_inningsbook_k64_whole_rain
set_option Elab.async false
set_option linter.all false
set_option maxRecDepth 100000
/-! THE HAND LAYER, for ints, bools, texts, own classes, DICTS (int and text keys), calls, loops. Paste it whole ahead of your own text; what your proof does not reach may be deleted. -/
namespace L2
open PySem PySem.Spec PyProof.Rows

/-- a key: an int or a str -/
abbrev Key := Sum Int Str
def keyIs : Key → Value → Bool
  | .inl k, v => Value.isInt k v
  | .inr x, v => Value.isStrOf x v
def keyH (w : World) : Key → Int
  | .inl k => hashInt k
  | .inr x => hashStr w x
theorem keyIs_shape : ∀ {k : Key} {v : Value}, keyIs k v = true → (∃ i t, k = Sum.inl i ∧ v = Value.int i t) ∨ (∃ x t, k = Sum.inr x ∧ v = Value.str x t)
  | .inl i, v, h => by
    obtain ⟨t, e⟩ := Value.isInt_shape (k := i) (v := v) h
    exact .inl ⟨i, t, rfl, e⟩
  | .inr x, v, h => by
    obtain ⟨t, e⟩ := Value.isStrOf_shape (x := x) (v := v) h
    exact .inr ⟨x, t, rfl, e⟩
theorem keyIs_int (i : Int) (t : Tok) : keyIs (.inl i) (.int i t) = true := by simp [keyIs, Value.isInt]
theorem keyIs_str (x : Str) (t : Tok) : keyIs (.inr x) (.str x t) = true := by simp [keyIs, Value.isStrOf]
theorem key_ll (a b : Int) : decide ((Sum.inl a : Key) = Sum.inl b) = (a == b) := by
  by_cases e : a = b
  · subst e; simp
  · have h : ¬ (Sum.inl a : Key) = Sum.inl b := fun q => e (Sum.inl.inj q)
    rw [decide_eq_false h]
    exact (beq_eq_false_iff_ne.mpr e).symm
theorem key_rr (a b : Str) : decide ((Sum.inr a : Key) = Sum.inr b) = decide (a = b) := by
  by_cases e : a = b
  · subst e; simp
  · have h : ¬ (Sum.inr a : Key) = Sum.inr b := fun q => e (Sum.inr.inj q)
    rw [decide_eq_false h, decide_eq_false e]
theorem key_lr (a : Int) (b : Str) : decide ((Sum.inl a : Key) = Sum.inr b) = false := decide_eq_false (fun q => nomatch q)
theorem key_rl (a : Str) (b : Int) : decide ((Sum.inr a : Key) = Sum.inl b) = false := decide_eq_false (fun q => nomatch q)

def mixKind (prog : Program) (w : World) : PySem.KeyKind prog w Key where
  is := keyIs
  hash := keyH w
  inj := fun v a b ha hb => by
    rcases keyIs_shape ha with ⟨i, t, rfl, rfl⟩ | ⟨x, t, rfl, rfl⟩
    · rcases keyIs_shape hb with ⟨j, u, rfl, e⟩ | ⟨y, u, rfl, e⟩
      · injection e with e1 _; rw [e1]
      · exact nomatch e
    · rcases keyIs_shape hb with ⟨j, u, rfl, e⟩ | ⟨y, u, rfl, e⟩
      · exact nomatch e
      · injection e with e1 _; rw [e1]
  byValue := fun k v h => by
    rcases keyIs_shape h with ⟨i, t, rfl, rfl⟩ | ⟨x, t, rfl, rfl⟩ <;> rfl
  pyHash := fun hv h => by
    rcases keyIs_shape hv with ⟨i, t, rfl, rfl⟩ | ⟨x, t, rfl, rfl⟩
    · exact wpAny_pyHash_int h
    · exact wpAny_pyHash_str h
  eqBool := fun hu hv h => by
    rcases keyIs_shape hu with ⟨i, t, rfl, rfl⟩ | ⟨x, t, rfl, rfl⟩
    · rcases keyIs_shape hv with ⟨j, u, rfl, rfl⟩ | ⟨y, u, rfl, rfl⟩
      · rw [key_ll] at h; exact wpAny_eqBool_int h
      · rw [key_lr] at h; exact SeqAt.EqAt.int_str i t y u _ _ _ _ h
    · rcases keyIs_shape hv with ⟨j, u, rfl, rfl⟩ | ⟨y, u, rfl, rfl⟩
      · rw [key_rl] at h; exact SeqAt.EqAt.str_int x t j u _ _ _ _ h
      · rw [key_rr] at h; exact wpAny_eqBool_str h
  «strs» := fun k x t v h => by
    rcases keyIs_shape h with ⟨i, u, rfl, e⟩ | ⟨y, u, rfl, e⟩
    · exact nomatch e
    · injection e with e1 _
      subst e1
      cases v <;> rfl

theorem mixKind_int (prog : Program) (w : World) (i : Int) (t : Tok) : (mixKind prog w).is (.inl i) (.int i t) = true := keyIs_int i t
theorem mixKind_str (prog : Program) (w : World) (x : Str) (t : Tok) : (mixKind prog w).is (.inr x) (.str x t) = true := keyIs_str x t
end L2

namespace L2
open PySem PySem.Spec PyProof.Rows

/-- a value, without the heap -/
inductive V where
  | non | bl (b : Bool) | int (i : Int) | str (x : Str) | byt (b : Array UInt8) | flt (b : UInt64) | ref (a : Addr) | ty (n : String)
  deriving DecidableEq

def RelV : V → Value → Prop
  | .non, u => u = Value.none
  | .bl b, u => u = Value.bool b
  | .int i, u => ∃ t, u = Value.int i t
  | .str x, u => ∃ t, u = Value.str x t
  | .byt b, u => ∃ t, u = Value.bytes b t
  | .flt b, u => ∃ t, u = Value.float b t
  | .ref a, u => u = Value.ref a
  | .ty n, u => u = Value.type n

abbrev Vals : List V → List Value → Prop := Paired RelV
theorem Vals.length {xs : List V} {us : List Value} (r : Vals xs us) : xs.length = us.length := Paired.length r
theorem Vals.get : ∀ {xs : List V} {us : List Value} {i : Nat} {x : V}, Vals xs us → xs[i]? = some x → ∃ u, us[i]? = some u ∧ RelV x u
  | _, _, _, _, .nil, e => by simp at e
  | _, _, 0, _, .cons r _, e => by simp at e; subst e; exact ⟨_, rfl, r⟩
  | _, _, i + 1, x, .cons _ t, e => by
    obtain ⟨u, h1, h2⟩ := Vals.get (i := i) (x := x) t (by simpa using e)
    exact ⟨u, by simpa using h1, h2⟩
theorem Vals.set {x : V} {u : Value} (r : RelV x u) : ∀ {xs : List V} {us : List Value} (i : Nat), Vals xs us → Vals (xs.set i x) (us.set i u)
  | _, _, _, .nil => .nil
  | _, _, 0, .cons _ t => .cons r t
  | _, _, i + 1, .cons q t => .cons q (Vals.set r i t)
theorem Vals.append : ∀ {xs ys : List V} {us ws : List Value}, Vals xs us → Vals ys ws → Vals (xs ++ ys) (us ++ ws)
  | _, _, _, _, .nil, s => s
  | _, _, _, _, .cons r t, s => .cons r (Vals.append t s)
theorem Vals.take : ∀ {xs : List V} {us : List Value} (n : Nat), Vals xs us → Vals (xs.take n) (us.take n)
  | _, _, 0, _ => .nil
  | _, _, _ + 1, .nil => .nil
  | _, _, n + 1, .cons r t => .cons r (Vals.take n t)
theorem Vals.drop : ∀ {xs : List V} {us : List Value} (n : Nat), Vals xs us → Vals (xs.drop n) (us.drop n)
  | _, _, 0, r => r
  | _, _, _ + 1, .nil => .nil
  | _, _, n + 1, .cons _ t => Vals.drop n t
def RelO : Option V → Option Value → Prop
  | some v, some u => RelV v u
  | none, none => True
  | _, _ => False
def KV {κ : Type} : List (κ × V) → List (κ × Value) → Prop := Paired fun (p : κ × V) (q : κ × Value) => p.1 = q.1 ∧ RelV p.2 q.2

/-- a key of a dict (00_mix): an int or a text -/
def kV : Key → V
  | .inl i => .int i
  | .inr x => .str x

/-- what stands at a tracked address -/
inductive HO where
  /-- a list -/
  | lst (xs : List V)
  /-- a tuple (never changes) -/
  | tup (xs : List V)
  /-- a dict whose keys are ints and texts; one whose keys are tuples of ints and texts (the empty one is both) -/
  | dK (kvs : List (Key × V)) | dT (kvs : List (List Key × V))
  /-- a set of ints: its members, its size -/
  | set (S : Int → Bool) (n : Nat)
  /-- an instance of the class at C, its dict at dx, its attributes -/
  | ins (C dx : Addr) (fs : List (Str × V))
  /-- the dict of the instance at x -/
  | own (x : Addr)
  /-- the dict of an exception -/
  | xd (fs : List (Str × V))
  /-- a bound method, f of x -/
  | met (f x : Addr)
  /-- a range object lo, lo + 1, .. below hi -/
  | rng (lo hi : Int)
  /-- a thing that is known to the object (the script; a dict while a loop walks it): read, never written while it is so -/
  | frz (o : Obj) (u : HO)
  /-- a code object's table -/
  | tbl (ps : Array Value)
  /-- any other thing, by what is true of its one object (a def of one's own: SetO a S n := HO.ext fun h => ..) -/
  | ext (φ : Heap → Prop)

abbrev Hp := Addr → Option HO
def upd (H : Hp) (a : Addr) (o : HO) : Hp := fun b => if b = a then some o else H b
theorem upd_same {H : Hp} {a : Addr} {o : HO} : upd H a o a = some o := by unfold upd; rw [if_pos rfl]
theorem upd_ne {H : Hp} {a b : Addr} {o : HO} (h : b ≠ a) : upd H a o b = H b := by unfold upd; rw [if_neg h]
theorem upd_upd {H : Hp} {a : Addr} {o u : HO} : upd (upd H a o) a u = upd H a u := by
  funext b; unfold upd; split <;> rfl
/-- two objects of different content stand apart -/
theorem ne_of {H : Hp} {a b : Addr} {o u : HO} (h : H a = some o) (h' : H b = some u) (d : o ≠ u) : a ≠ b := by
  intro e; subst e; rw [h] at h'; exact d (Option.some.inj h')
theorem ne_of_none {H : Hp} {a b : Addr} {o : HO} (h : H a = some o) (h' : H b = none) : a ≠ b := by
  intro e; subst e; rw [h] at h'; cases h'

section
variable (P : Program) (w : World)
def ObjOk (H : Hp) (h : Heap) (a : Addr) : HO → Prop
  | .lst xs => xs.length ≤ sizeLine ∧ ∃ (its : List Value) (n : Nat), Vals xs its ∧ h.get? a = some { cls := .type "list", data := .seq its.toArray n }
  | .tup xs => xs.length ≤ sizeLine ∧ ∃ its : List Value, Vals xs its ∧ IsTup h a its.toArray
  | .dK kvs => kvs.length ≤ sizeLine ∧ (a == sysModules) = false ∧ ∃ vs, KV kvs vs ∧ h.DictOf (mixKind P w) a vs
  | .dT kvs => kvs.length ≤ sizeLine ∧ (a == sysModules) = false ∧ ∃ xs : List (List Key × Addr × Value),
      Paired (fun (p : List Key × V) (q : List Key × Addr × Value) => p.1 = q.1 ∧ H q.2.1 = some (.tup (p.1.map kV)) ∧ RelV p.2 q.2.2) kvs xs ∧
      ∃ o es ep, h.get? a = some o ∧ o.ExactDict ∧ o.data = .dict es ep ∧ es.toList = xs.map (entryOfKey (tupleKind (mixKind P w))) ∧ (xs.map (·.1)).Nodup
  | .set S n => h.SetOf (intKind P w) a S n
  | .ins C dx fs => H dx = some (.own a) ∧ fs.length ≤ 1000 ∧ dx ≠ a ∧ h.get? a = some (PySem.W.instObj C dx) ∧
      ∃ mA, h.Ns1 dx mA ∧ (∀ f, RelO (fs.lookup f) (mA f)) ∧ PySem.Within mA (fs.map (·.1))
  | .own _ => ∃ o, h.get? a = some o
  | .xd fs => ∃ mA, h.Ns1 a mA ∧ ∀ f, RelO (fs.lookup f) (mA f)
  | .rng lo hi => ∃ t u v, h.get? a = some { cls := .type "range", data := .fields #[.int lo t, .int hi u, .int 1 v] }
  | .frz o u => h.get? a = some o ∧ ObjOk H h a u
  | .tbl ps => h.get? a = some { cls := .none, data := .fields ps }
  | .met f x => h.get? a = some (PySem.W.methodObj (.ref f) (.ref x))
  | .ext φ => φ h ∧ (∃ o, h.get? a = some o) ∧ ∀ h1 h2 : Heap, φ h1 → (∀ o, h1.get? a = some o → h2.get? a = some o) → φ h2
/-- the abstract heap is held -/
def HOk (H : Hp) (h : Heap) : Prop := ∀ a o, H a = some o → ObjOk P w H h a o
end

section
variable {P : Program} {w : World} {H H' : Hp} {h h' : Heap} {a : Addr} {o : HO}
theorem ObjOk.lt (x : ObjOk P w H h a o) : a < h.objs.size := by
  cases o with
  | lst xs => obtain ⟨_, _, _, _, e⟩ := x; exact Heap.lt_size e
  | tup xs => obtain ⟨_, _, _, p⟩ := x; exact p.lt
  | dK kvs => obtain ⟨_, _, _, _, o, _, _, e, _⟩ := x; exact Heap.lt_size e
  | dT kvs => obtain ⟨_, _, _, _, o, _, _, e, _⟩ := x; exact Heap.lt_size e
  | set S n => obtain ⟨o, _, _, _, e, _⟩ := x; exact Heap.lt_size e
  | ins C dx fs => obtain ⟨_, _, _, e, _⟩ := x; exact Heap.lt_size e
  | own y => obtain ⟨_, e⟩ := x; exact Heap.lt_size e
  | xd fs => obtain ⟨_, ⟨_, _, _, e, _⟩, _⟩ := x; exact Heap.lt_size e
  | rng lo hi => obtain ⟨_, _, _, e⟩ := x; exact Heap.lt_size e
  | frz ob u => obtain ⟨e, _⟩ := x; exact Heap.lt_size e
  | tbl ps => exact Heap.lt_size (show h.get? a = some _ from x)
  | met f y => exact Heap.lt_size (show h.get? a = some _ from x)
  | ext φ => obtain ⟨_, ⟨_, e⟩, _⟩ := x; exact Heap.lt_size e
theorem Paired.mapP {α β : Type} {F G : α → β → Prop} : ∀ {l₁ : List α} {l₂ : List β}, Paired F l₁ l₂ → (∀ a b, F a b → G a b) → Paired G l₁ l₂
  | _, _, .nil, _ => .nil
  | _, _, .cons r t, f => .cons (f _ _ r) (Paired.mapP t f)
/-- what an object's description leans on: its own object, its own dict, the tuples -/
theorem ObjOk.stay (x : ObjOk P w H h a o) (k : ∀ b u, (b = a ∨ H b = some (.own a)) → h.get? b = some u → h'.get? b = some u)
    (ho : ∀ b, H b = some (.own a) → H' b = some (.own a)) (ht : ∀ b xs, H b = some (.tup xs) → H' b = some (.tup xs)) : ObjOk P w H' h' a o := by
  induction o with
  | lst xs => obtain ⟨z, its, n, r, e⟩ := x; exact ⟨z, its, n, r, k _ _ (.inl rfl) e⟩
  | tup xs => obtain ⟨z, its, r, ob, e, c⟩ := x; exact ⟨z, its, r, ob, k _ _ (.inl rfl) e, c⟩
  | dK kvs => obtain ⟨z, y, vs, r, ob, es, ep, e, c⟩ := x; exact ⟨z, y, vs, r, ob, es, ep, k _ _ (.inl rfl) e, c⟩
  | dT kvs =>
    obtain ⟨z, y, xs, r, ob, es, ep, e, c⟩ := x
    exact ⟨z, y, xs, Paired.mapP r fun p q z => ⟨z.1, ht _ _ z.2.1, z.2.2⟩, ob, es, ep, k _ _ (.inl rfl) e, c⟩
  | set S n => obtain ⟨ob, es, ep, t, e, c⟩ := x; exact ⟨ob, es, ep, t, k _ _ (.inl rfl) e, c⟩
  | ins C dx fs =>
    obtain ⟨d, z, ne, e, mA, ⟨od, es, ep, e2, c⟩, r⟩ := x
    exact ⟨ho _ d, z, ne, k _ _ (.inl rfl) e, mA, ⟨od, es, ep, k _ _ (.inr d) e2, c⟩, r⟩
  | own y => obtain ⟨ob, e⟩ := x; exact ⟨ob, k _ _ (.inl rfl) e⟩
  | xd fs => obtain ⟨mA, ⟨od, es, ep, e, c⟩, r⟩ := x; exact ⟨mA, ⟨od, es, ep, k _ _ (.inl rfl) e, c⟩, r⟩
  | rng lo hi => obtain ⟨t, u, v, e⟩ := x; exact ⟨t, u, v, k _ _ (.inl rfl) e⟩
  | frz ob u ih => obtain ⟨e, q⟩ := x; exact ⟨k _ _ (.inl rfl) e, ih q⟩
  | tbl ps =>
    have e : h.get? a = some { cls := .none, data := .fields ps } := x
    show h'.get? a = some { cls := .none, data := .fields ps }
    exact k a _ (.inl rfl) e
  | met f y =>
    have e : h.get? a = some (PySem.W.methodObj (.ref f) (.ref y)) := x
    show h'.get? a = some (PySem.W.methodObj (.ref f) (.ref y))
    exact k a _ (.inl rfl) e
  | ext φ => obtain ⟨p, ⟨o, e⟩, st⟩ := x; exact ⟨st _ _ p fun o q => k _ _ (.inl rfl) q, ⟨o, k _ _ (.inl rfl) e⟩, st⟩
theorem HOk.lt (x : HOk P w H h) (e : H a = some o) : a < h.objs.size := (x a o e).lt
theorem HOk.fresh (x : HOk P w H h) (e : h.objs.size ≤ a) : H a = none := by
  cases q : H a with
  | none => rfl
  | some u => exact absurd (Nat.lt_of_lt_of_le (x.lt q) e) (Nat.lt_irrefl _)
/-- every object of the heap is kept -/
theorem HOk.kept (x : HOk P w H h) (k : ∀ b u, h.get? b = some u → h'.get? b = some u) : HOk P w H h' := fun a o e =>
  (x a o e).stay (fun b u _ q => k b u q) (fun _ q => q) fun _ _ q => q
/-- a new object is laid and tracked -/
theorem HOk.laid (x : HOk P w H h) (k : ∀ b u, h.get? b = some u → h'.get? b = some u) (hp : h.objs.size ≤ a) (new : ObjOk P w (upd H a o) h' a o) : HOk P w (upd H a o) h' := fun b u e => by
  have hn := x.fresh hp
  by_cases hb : b = a
  · subst hb; rw [upd_same] at e; cases e; exact new
  · rw [upd_ne hb] at e
    exact (x b u e).stay (fun c v _ q => k c v q) (fun c q => by rw [upd_ne (ne_of_none q hn)]; exact q) fun c xs q => by rw [upd_ne (ne_of_none q hn)]; exact q
end

/-- what may be read as u: it is u, or a known u -/
def Rd (H : Hp) (a : Addr) (u : HO) : Prop := H a = some u ∨ ∃ o, H a = some (.frz o u)
theorem Rd.of {H : Hp} {a : Addr} {u : HO} (h : H a = some u) : Rd H a u := .inl h
theorem Rd.ok {P : Program} {w : World} {H : Hp} {h : Heap} {a : Addr} {u : HO} (r : Rd H a u) (x : HOk P w H h) : ObjOk P w H h a u := by
  rcases r with r | ⟨o, r⟩
  · exact x a u r
  · obtain ⟨_, q⟩ := x a _ r
    exact q
/-- what may be written -/
def Mut : Option HO → Prop
  | some (.lst _) => True
  | some (.dK _) => True
  | some (.dT _) => True
  | some (.set _ _) => True
  | some (.ins _ _ _) => True
  | some (.ext _) => True
  | _ => False
section
variable {P : Program} {w : World} {H : Hp} {h h' : Heap} {x e : Addr} {o' : HO}
/-- the object at e is changed: x itself, or the dict of the instance x -/
theorem HOk.write (ok : HOk P w H h) (mu : Mut (H x)) (he : e = x ∨ H e = some (.own x)) (k : ∀ b u, b ≠ e → h.get? b = some u → h'.get? b = some u) (heo : ∃ u, h'.get? e = some u)
    (new : ObjOk P w (upd H x o') h' x o') : HOk P w (upd H x o') h' := fun b u q => by
  have nown : ∀ c y, H c = some (.own y) → c ≠ x := fun c y r z => by subst z; rw [r] at mu; exact mu
  have ntup : ∀ c xs, H c = some (.tup xs) → c ≠ x := fun c xs r z => by subst z; rw [r] at mu; exact mu
  by_cases hb : b = x
  · subst hb; rw [upd_same] at q; cases q; exact new
  · rw [upd_ne hb] at q
    by_cases hbe : b = e
    · have q' : H b = some (.own x) := by
        rcases he with z | z
        · exact absurd (hbe.trans z) hb
        · rw [hbe]; exact z
      rw [q] at q'; cases q'
      obtain ⟨v, hv⟩ := heo
      exact ⟨v, by rw [hbe]; exact hv⟩
    · refine (ok b u q).stay (fun c v hc r => k c v ?_ r) (fun c r => by rw [upd_ne (nown c b r)]; exact r) fun c xs r => by rw [upd_ne (ntup c xs r)]; exact r
      rcases hc with rfl | hc
      · exact hbe
      · rintro rfl
        rcases he with z | z
        · exact nown c b hc z
        · rw [hc] at z; cases z; exact hb rfl
end

/-! ### kept unless tracked; of the frames at fs (the callers') the slots may change (an exception that passes writes there); of the records at ex (iterators) nothing is said -/
structure Un (fs ex : List Addr) (H H' : Hp) (h h' : Heap) : Prop where
  keep : ∀ b o, h.get? b = some o → H b = none → b ∉ fs → b ∉ ex → h'.get? b = some o
  slot : ∀ b o, h.get? b = some o → H b = none → b ∈ fs → b ∉ ex → ∃ sl, h'.get? b = some { o with slots := sl }
  free : ∀ b o, h.get? b = some o → H b = none → b ∉ ex → H' b = none
  there : ∀ b o, h.get? b = some o → b ∉ ex → ∃ o', h'.get? b = some o'
  tups : ∀ b xs, H b = some (.tup xs) → H' b = some (.tup xs)
  frzs : ∀ b o u, H b = some (.frz o u) → H' b = some (.frz o u)
  tbls : ∀ b ps, H b = some (.tbl ps) → ∃ more, H' b = some (.tbl (ps ++ more))
section
variable {fs fs' ex ex' : List Addr} {H H1 H2 : Hp} {h h1 h2 h' : Heap} {a x e : Addr} {o : HO}
theorem Un.any (u : Un fs ex H H1 h h1) {b : Addr} {ob : Obj} (q : h.get? b = some ob) (n : H b = none) (hx : b ∉ ex) : ∃ sl, h1.get? b = some { ob with slots := sl } := by
  by_cases hb : b ∈ fs
  · exact u.slot b ob q n hb hx
  · exact ⟨ob.slots, u.keep b ob q n hb hx⟩
theorem Un.trans (a : Un fs ex H H1 h h1) (b : Un fs ex H1 H2 h1 h2) : Un fs ex H H2 h h2 where
  keep := fun c ob q n hc hx => b.keep c ob (a.keep c ob q n hc hx) (a.free c ob q n hx) hc hx
  slot := fun c ob q n hc hx => by
    obtain ⟨sl, e1⟩ := a.slot c ob q n hc hx
    obtain ⟨sl', e2⟩ := b.slot c _ e1 (a.free c ob q n hx) hc hx
    exact ⟨sl', e2⟩
  free := fun c ob q n hx => by
    obtain ⟨o', e1⟩ := a.there c ob q hx
    exact b.free c o' e1 (a.free c ob q n hx) hx
  there := fun c ob q hx => by
    obtain ⟨o', e1⟩ := a.there c ob q hx
    exact b.there c o' e1 hx
  tups := fun c xs q => b.tups c xs (a.tups c xs q)
  frzs := fun c ob xs q => b.frzs c ob xs (a.frzs c ob xs q)
  tbls := fun c ps q => by
    obtain ⟨m1, e1⟩ := a.tbls c ps q
    obtain ⟨m2, e2⟩ := b.tbls c _ e1
    exact ⟨m1 ++ m2, by rw [e2, Array.append_assoc]⟩
theorem Un.kept (k : ∀ b u, h.get? b = some u → h'.get? b = some u) : Un fs ex H H h h' :=
  ⟨fun b ob q _ _ _ => k b ob q, fun b ob q _ _ _ => ⟨ob.slots, k b ob q⟩, fun _ _ _ n _ => n, fun b ob q _ => ⟨ob, k b ob q⟩, fun _ _ q => q, fun _ _ _ q => q, fun _ ps q => ⟨#[], by rw [q]; simp⟩⟩
theorem Un.refl : Un fs ex H H h h := Un.kept fun _ _ q => q
theorem Un.laid (k : ∀ b u, h.get? b = some u → h'.get? b = some u) (hp : h.objs.size ≤ a) (hn : H a = none) : Un fs ex H (upd H a o) h h' where
  keep := fun b u q _ _ _ => k b u q
  slot := fun b u q _ _ _ => ⟨u.slots, k b u q⟩
  free := fun b u q n _ => by rw [upd_ne (Nat.ne_of_lt (Nat.lt_of_lt_of_le (Heap.lt_size q) hp))]; exact n
  there := fun b u q _ => ⟨u, k b u q⟩
  tups := fun b xs q => by rw [upd_ne (ne_of_none q hn)]; exact q
  frzs := fun b u xs q => by rw [upd_ne (ne_of_none q hn)]; exact q
  tbls := fun b ps q => ⟨#[], by rw [upd_ne (ne_of_none q hn), q]; simp⟩
theorem Un.write (mu : Mut (H x)) (he : e = x ∨ H e = some (.own x)) (k : ∀ b u, b ≠ e → h.get? b = some u → h'.get? b = some u) (heo : ∃ u, h'.get? e = some u) : Un fs ex H (upd H x o) h h' := by
  have hx : ∀ b, H b = none → b ≠ x := fun b n z => by subst z; rw [n] at mu; exact mu
  have hb : ∀ b, H b = none → b ≠ e := fun b n z => by
    subst z
    rcases he with r | r
    · exact hx b n r
    · rw [n] at r; cases r
  have hm : ∀ b u, H b = some u → ¬ Mut (some u) → b ≠ x := fun b u q nm z => by subst z; rw [q] at mu; exact nm mu
  refine ⟨fun b u q n _ _ => k b u (hb b n) q, fun b u q n _ _ => ⟨u.slots, k b u (hb b n) q⟩, fun b u q n _ => by rw [upd_ne (hx b n)]; exact n, fun b u q _ => ?_,
    fun b xs q => by rw [upd_ne (hm b _ q fun z => z)]; exact q, fun b u xs q => by rw [upd_ne (hm b _ q fun z => z)]; exact q, fun b ps q => ⟨#[], by rw [upd_ne (hm b _ q fun z => z), q]; simp⟩⟩
  by_cases hbe : b = e
  · subst hbe; exact heo
  · exact ⟨u, k b u hbe q⟩
theorem Un.mono (u : Un fs ex H H1 h h1) (hs : ∀ b ∈ fs, b ∈ fs') (hx : ∀ b ∈ ex, b ∈ ex') : Un fs' ex' H H1 h h1 :=
  ⟨fun b ob q n hb he => u.keep b ob q n (fun z => hb (hs b z)) fun z => he (hx b z), fun _ _ q n _ he => u.any q n fun z => he (hx _ z), fun b ob q n he => u.free b ob q n fun z => he (hx b z), fun b ob q he => u.there b ob q fun z => he (hx b z), u.tups, u.frzs, u.tbls⟩
end

/-! ### the heap without what is tracked -/
def trk (h : Heap) (H : Hp) : List Addr := (List.range h.objs.size).filter fun a => (H a).isSome
def hidT (h : Heap) (H : Hp) : Heap := PySem.W.hideAll h (trk h H)
theorem hidT_size (h : Heap) (H : Hp) : (hidT h H).objs.size = h.objs.size := PySem.W.hideAll_size _ _
theorem hidT_get {h : Heap} {H : Hp} {b : Addr} {o : Obj} (e : h.get? b = some o) (n : H b = none) : (hidT h H).get? b = some o :=
  PySem.W.hideAll_get _ e fun hm => by
    have q : (H b).isSome = true := (List.mem_filter.mp hm).2
    rw [n] at q; simp at q
theorem of_hidT {h : Heap} {H : Hp} {b : Addr} {o : Obj} (e : (hidT h H).get? b = some o) : h.get? b = some o ∧ H b = none := by
  have e' : h.get? b = some o := PySem.W.of_hideAll (trk h H) e
  refine ⟨e', ?_⟩
  cases q : H b with
  | none => rfl
  | some x =>
    have hm : b ∈ trk h H := List.mem_filter.mpr ⟨List.mem_range.mpr (Heap.lt_size e'), by simp [q]⟩
    have z : (hidT h H).get? b = none := PySem.W.hideAll_none (trk h H) hm
    rw [z] at e; cases e

/-! ### OpenK's ledger, filled with every new object but one -/
def allNews (g h : Heap) (L : Addr) : List (Addr × Obj) := (List.range h.objs.size).filterMap fun a => if a = L ∨ (g.get? a).isSome = true then none else (h.get? a).map fun o => (a, o)
def rest (g h : Heap) (L d : Addr) : List (Addr × Obj) := (allNews g h L).filter fun p => decide (p.1 ≠ d)
end L2

namespace L2
open PySem PySem.Spec PyProof.Rows

/-- the module's facts, over the base: the heap at the law's entry without what is tracked there -/
structure Mod (K : PySem.W.Frag) (mg : Str → Option Value) (base : Heap) : Prop where
  kin : K.In base
  glob : base.Ns mainGlobals mg
  blt : ∃ mb, base.Ns builtinsNs mb ∧ ∀ x : Str, x ≠ "__name__" → mb x = bootBuiltins x
  nolimit : base.NoLimit

/-- the context: a def's body (or a comprehension's block) running. base: fixed through the whole law; s₀, H₀: the entry; outer: the frames whose slots others may change (a def's callers); stack: all frames that run;
   ex: iterators that were made ahead of the entry and are walked here (a comprehension's); fn: the names whose cells were made at the entry (a def: all; a comprehension's block: its own); calm: not within an except suite; pn: pins that every state bears; xe: what is wanted of an exception that leaves the code -/
structure Cx where
  prog : Program
  w : World
  K : PySem.W.Frag
  mg : Str → Option Value
  base : Heap
  A : Around
  N : List Str
  s₀ : Shared
  H₀ : Hp
  env : Env
  outer : List Env
  stack : List Env
  ex : List Addr
  fn : Str → Bool
  calm : Bool
  pn : List (Addr × Obj)
  xe : Value → Shared → Prop
/-- the callers' frames -/
def frs (l : List Env) : List Addr := l.filterMap (·.frame)
abbrev Cx.fs (X : Cx) : List Addr := frs X.outer

def Vis (sc : Scope) (x : Str) : Prop := sc.names.lookup x = some .local ∨ sc.names.lookup x = some .cell ∨ sc.names.lookup x = some .free
def Loc (sc : Scope) (x : Str) : Prop := sc.names.lookup x = some .local ∨ sc.names.lookup x = some .cell
def Look (env : Env) (h : Heap) (m : Str → Option Value) (x : Str) (u : Value) : Prop :=
  (env.kindOf x = some .local ∧ m x = some u) ∨ ((env.kindOf x = some .cell ∨ env.kindOf x = some .free) ∧ ∃ c, env.cells.lookup x = some c ∧ h.IsCell c (some u))

structure Cx.Ok (X : Cx) : Prop where
  mod : Mod X.K X.mg X.base
  kind : X.env.scope.kind = .function
  glob : X.env.globals = mainGlobals
  blt : X.env.builtins = builtinsNs
  above : X.s₀.heap.objs.size ≤ X.env.locals
  inj : ∀ x y c, X.env.cells.lookup x = some c → X.env.cells.lookup y = some c → x = y
  has : ∀ x, (X.env.kindOf x = some .cell ∨ X.env.kindOf x = some .free) → ∃ c, X.env.cells.lookup x = some c
  cab : ∀ x c, X.fn x = true → X.env.cells.lookup x = some c → X.s₀.heap.objs.size ≤ c
  hd : X.calm = true → X.A.handled = none
  frames : X.A.frames = some X.stack
  stk : X.stack = X.outer ∨ (X.stack = X.env :: X.outer ∧ X.env.frame = some X.env.locals)
  exf : ∀ b ∈ X.ex, b ≠ X.env.locals ∧ ∀ x c, X.env.cells.lookup x = some c → c ≠ b
  bs : ∀ b o, X.base.get? b = some o → X.s₀.heap.get? b = some o ∧ X.H₀ b = none
  bsz : X.base.objs.size ≤ X.s₀.heap.objs.size
  noex : ∀ b o, X.base.get? b = some o → b ∉ X.ex
  exfs : ∀ b ∈ X.ex, b ∉ X.fs
  funs : X.s₀.heap.FunFrames X.base X.outer
  frf : ∀ b ∈ X.fs, X.H₀ b = none

structure Inv (X : Cx) (pins : List (Addr × Obj)) (σ : List (Option V)) (H : Hp) (s : Shared) : Prop where
  ok : X.Ok
  os : s.os = X.s₀.os
  bare : AllBare s.gens
  base : Un X.fs X.ex X.H₀ H X.s₀.heap s.heap
  loc : ∃ m, s.heap.Ns X.env.locals m ∧ ∀ (i : Nat) (x : Str) (v : V), X.N[i]? = some x → σ[i]? = some (some v) → Vis X.env.scope x → ∃ u, RelV v u ∧ Look X.env s.heap m x u
  cell : ∀ x c, X.env.cells.lookup x = some c → ∃ v, s.heap.IsCell c v
  free : H X.env.locals = none
  freeC : ∀ x c, X.env.cells.lookup x = some c → H c = none
  pin : ∀ p ∈ X.pn ++ pins, s.heap.get? p.1 = some p.2 ∧ H p.1 = none ∧ p.1 ≠ X.env.locals ∧ p.1 ∉ X.fs ∧ ∀ v, p.2.data ≠ .cell v
  hok : HOk X.prog X.w H s.heap
  len : σ.length = X.N.length

section
variable {X : Cx} {pins : List (Addr × Obj)} {σ : List (Option V)} {H H' : Hp} {s : Shared} {h' : Heap}

theorem Cx.Ok.nofr (ok : X.Ok) {b : Addr} {o : Obj} (e : X.base.get? b = some o) : b ∉ X.fs := fun hb => by
  have := (ok.funs.mem hb).1
  rw [e] at this; cases this
theorem Inv.bs (I : Inv X pins σ H s) : ∀ b o, X.base.get? b = some o → s.heap.get? b = some o ∧ H b = none := fun b o e =>
  ⟨I.base.keep b o (I.ok.bs b o e).1 (I.ok.bs b o e).2 (I.ok.nofr e) (I.ok.noex b o e), I.base.free b o (I.ok.bs b o e).1 (I.ok.bs b o e).2 (I.ok.noex b o e)⟩
theorem Inv.bk (I : Inv X pins σ H s) : ∀ b o, X.base.get? b = some o → s.heap.get? b = some o := fun b o e => (I.bs b o e).1
theorem Inv.mod (I : Inv X pins σ H s) : Mod X.K X.mg X.base := I.ok.mod
theorem Inv.kIn (I : Inv X pins σ H s) : X.K.In s.heap := I.ok.mod.kin.keeps I.bk
theorem Inv.nolimit (I : Inv X pins σ H s) : s.heap.NoLimit := I.ok.mod.nolimit.keeps I.bk
/-- the frame over the base: for OpenK's rules (K.In X.base is I.mod.kin) -/
theorem Inv.fr (I : Inv X pins σ H s) : ∃ m, Fr X.base X.env.locals s.heap m :=
  let ⟨m, hn, _⟩ := I.loc
  ⟨m, hn, I.bk, Nat.le_trans I.ok.bsz I.ok.above⟩
theorem Inv.lt (I : Inv X pins σ H s) : X.env.locals < s.heap.objs.size := let ⟨_, hn, _⟩ := I.loc; hn.lt
theorem Inv.sz (I : Inv X pins σ H s) : X.s₀.heap.objs.size ≤ s.heap.objs.size := Nat.le_trans I.ok.above (Nat.le_of_lt I.lt)
theorem Inv.nofs (I : Inv X pins σ H s) {a : Addr} (h : s.heap.objs.size ≤ a) : a ∉ X.fs := fun hb => by
  obtain ⟨_, o, ho, _⟩ := I.ok.funs.mem hb
  exact absurd (Nat.lt_of_lt_of_le (Heap.lt_size ho) (Nat.le_trans I.sz h)) (Nat.lt_irrefl _)
theorem Inv.cne (I : Inv X pins σ H s) : ∀ x c, X.env.cells.lookup x = some c → c ≠ X.env.locals := fun x c e z => by
  obtain ⟨v, o, ho, hd⟩ := I.cell x c e
  obtain ⟨m, ⟨o', es, ep, ho', hd', _⟩, _⟩ := I.loc
  rw [z, ho'] at ho; cases ho; rw [hd'] at hd; cases hd
theorem Inv.funs (I : Inv X pins σ H s) : s.heap.FunFrames X.base X.outer := by
  have all : ∀ (l : List Env), (∀ b ∈ frs l, b ∈ X.fs) → X.s₀.heap.FunFrames X.base l → s.heap.FunFrames X.base l := by
    intro l
    induction l with
    | nil => intro _ _; trivial
    | cons env r ih =>
      intro hs hl
      obtain ⟨hk, ⟨L, o, hf, hn, ho, hd⟩, hr⟩ := hl
      have hL : L ∈ X.fs := hs L (by unfold frs; rw [List.filterMap_cons, hf]; exact List.mem_cons_self)
      obtain ⟨sl, e⟩ := I.base.slot L o ho (I.ok.frf L hL) hL fun z => I.ok.exfs L z hL
      exact ⟨hk, ⟨L, _, hf, hn, e, hd⟩, ih (fun b hb => hs b (by unfold frs; rw [List.filterMap_cons, hf]; exact List.mem_cons_of_mem _ hb)) hr⟩
  exact all X.outer (fun _ hb => hb) I.ok.funs

/-- the frames that run, for a call -/
theorem Inv.stack (I : Inv X pins σ H s) : s.heap.FunFrames X.base X.stack := by
  rcases I.ok.stk with e | ⟨e, hf⟩
  · rw [e]; exact I.funs
  · rw [e]
    obtain ⟨m, hn, _⟩ := I.loc
    refine .cons (by rw [I.ok.kind]; decide) hf hn ?_ I.funs
    exact Heap.get?_none_of_le (Nat.le_trans I.ok.bsz I.ok.above)
theorem Inv.stkSub (I : Inv X pins σ H s) : ∀ b ∈ frs X.stack, b ∈ X.env.locals :: X.fs := fun b hb => by
  rcases I.ok.stk with e | ⟨e, hf⟩
  · rw [e] at hb; exact List.mem_cons_of_mem _ hb
  · rw [e] at hb
    unfold frs at hb
    rw [List.filterMap_cons, hf] at hb
    exact hb
theorem Inv.stkFree (I : Inv X pins σ H s) : ∀ b ∈ frs X.stack, H b = none := fun b hb => by
  rcases List.mem_cons.mp (I.stkSub b hb) with e | hb
  · rw [e]; exact I.free
  · obtain ⟨_, o, ho, _⟩ := I.ok.funs.mem hb
    exact I.base.free b o ho (I.ok.frf b hb) fun z => I.ok.exfs b z hb

/-- THE STEP: the untracked objects but the frame and the records at ch are kept (the callers' frames up to slots), the frame's map is kept, the new abstract heap is held -/
theorem Inv.step {g' : Array GenState} {t' : Nat} {d' : Drawn} {ch : List Addr} (I : Inv X pins σ H s)
    (hch : ∀ b ∈ ch, (b ∈ X.ex ∨ X.s₀.heap.objs.size ≤ b) ∧ b ≠ X.env.locals ∧ (∀ x c, X.env.cells.lookup x = some c → c ≠ b) ∧ ∀ p ∈ X.pn ++ pins, p.1 ≠ b)
    (keep : ∀ b o, b ≠ X.env.locals → b ∉ X.fs → b ∉ ch → s.heap.get? b = some o → H b = none → h'.get? b = some o)
    (slot : ∀ b o, b ≠ X.env.locals → b ∈ X.fs → b ∉ ch → s.heap.get? b = some o → H b = none → ∃ sl, h'.get? b = some { o with slots := sl }) (free : ∀ b o, b ∉ ch → s.heap.get? b = some o → H b = none → H' b = none)
    (there : ∀ b o, b ∉ ch → s.heap.get? b = some o → ∃ o', h'.get? b = some o')
    (tups : ∀ b xs, H b = some (.tup xs) → H' b = some (.tup xs)) (frzs : ∀ b o u, H b = some (.frz o u) → H' b = some (.frz o u)) (tbls : ∀ b ps, H b = some (.tbl ps) → ∃ more, H' b = some (.tbl (ps ++ more)))
    (ns : ∀ m, s.heap.Ns X.env.locals m → h'.Ns X.env.locals m) (hok : HOk X.prog X.w H' h') (hg : AllBare g') :
    Inv X pins σ H' { s with heap := h', gens := g', drawn := d', toks := t' } := by
  have neL : ∀ b o, X.s₀.heap.get? b = some o → b ≠ X.env.locals := fun b o e => Nat.ne_of_lt (Nat.lt_of_lt_of_le (Heap.lt_size e) I.ok.above)
  have neC : ∀ b o, X.s₀.heap.get? b = some o → b ∉ X.ex → b ∉ ch := fun b o e hx hb => by
    rcases (hch b hb).1 with z | z
    · exact hx z
    · exact absurd (Nat.lt_of_lt_of_le (Heap.lt_size e) z) (Nat.lt_irrefl _)
  have cellK : ∀ x c, X.env.cells.lookup x = some c → ∀ v, s.heap.IsCell c v → h'.IsCell c v := fun x c e v ⟨o, ho, hd⟩ => by
    have nch : c ∉ ch := fun z => (hch c z).2.2.1 x c e rfl
    by_cases hc : c ∈ X.fs
    · obtain ⟨sl, q⟩ := slot c o (I.cne x c e) hc nch ho (I.freeC x c e)
      exact ⟨_, q, hd⟩
    · exact ⟨o, keep c o (I.cne x c e) hc nch ho (I.freeC x c e), hd⟩
  refine ⟨I.ok, I.os, hg, ⟨fun b o e n hb hx => ?_, fun b o e n hb hx => ?_, fun b o e n hx => ?_, fun b o e hx => ?_, fun b xs e => tups b xs (I.base.tups b xs e), fun b o xs e => frzs b o xs (I.base.frzs b o xs e), fun b ps e => ?_⟩, ?_, fun x c e => ?_, ?_, fun x c e => ?_, fun p hp => ?_, hok, I.len⟩
  · exact keep b o (neL b o e) hb (neC b o e hx) (I.base.keep b o e n hb hx) (I.base.free b o e n hx)
  · obtain ⟨sl, e1⟩ := I.base.slot b o e n hb hx
    obtain ⟨sl', e2⟩ := slot b _ (neL b o e) hb (neC b o e hx) e1 (I.base.free b o e n hx)
    exact ⟨sl', e2⟩
  · obtain ⟨o', e1⟩ := I.base.there b o e hx
    exact free b o' (neC b o e hx) e1 (I.base.free b o e n hx)
  · obtain ⟨o', e1⟩ := I.base.there b o e hx
    exact there b o' (neC b o e hx) e1
  · obtain ⟨m1, e1⟩ := I.base.tbls b ps e
    obtain ⟨m2, e2⟩ := tbls b _ e1
    exact ⟨m1 ++ m2, by rw [e2, Array.append_assoc]⟩
  · obtain ⟨m, hn, hl⟩ := I.loc
    refine ⟨m, ns m hn, fun i x v e1 e2 e3 => ?_⟩
    obtain ⟨u, r, l⟩ := hl i x v e1 e2 e3
    refine ⟨u, r, ?_⟩
    rcases l with l | ⟨k, c, e, z⟩
    · exact .inl l
    · exact .inr ⟨k, c, e, cellK x c e _ z⟩
  · obtain ⟨v, z⟩ := I.cell x c e
    exact ⟨v, cellK x c e v z⟩
  · obtain ⟨m, ⟨o, _, _, ho, _⟩, _⟩ := I.loc
    exact free _ o (fun z => (hch _ z).2.1 rfl) ho I.free
  · obtain ⟨v, o, ho, hd⟩ := I.cell x c e
    exact free c o (fun z => (hch c z).2.2.1 x c e rfl) ho (I.freeC x c e)
  · obtain ⟨e, n, ne, nf, d⟩ := I.pin p hp
    have nch : p.1 ∉ ch := fun z => (hch p.1 z).2.2.2 p hp rfl
    exact ⟨keep p.1 p.2 ne nf nch e n, free p.1 p.2 nch e n, ne, nf, d⟩
/-- .. where the frame's own object is kept too -/
theorem Inv.un {t' : Nat} (I : Inv X pins σ H s) (u : Un X.fs [] H H' s.heap h') (hok : HOk X.prog X.w H' h') : Inv X pins σ H' { s with heap := h', toks := t' } := by
  obtain ⟨m, ⟨o, es, ep, ho, r⟩, _⟩ := id I.loc
  obtain ⟨sl, hL⟩ := u.any ho I.free (by simp)
  exact I.step (g' := s.gens) (d' := s.drawn) (ch := []) (fun _ z => nomatch z) (fun b o _ hb _ e n => u.keep b o e n hb (by simp)) (fun b o _ hb _ e n => u.slot b o e n hb (by simp)) (fun b o _ e n => u.free b o e n (by simp)) (fun b o _ e => u.there b o e (by simp)) u.tups u.frzs u.tbls (fun m' hm => by
    obtain ⟨o', es', ep', ho', r'⟩ := hm
    rw [ho] at ho'; cases ho'
    exact ⟨_, es', ep', hL, r'⟩) hok I.bare
/-- behind a call (or a comprehension's block): the slots of this frame may have changed too, the records at ch may have turned -/
theorem Inv.call {g' : Array GenState} {t' : Nat} {d' : Drawn} {ch : List Addr} (I : Inv X pins σ H s) (u : Un (frs X.stack) ch H H' s.heap h') (hok : HOk X.prog X.w H' h') (hg : AllBare g')
    (hch : ∀ b ∈ ch, (b ∈ X.ex ∨ X.s₀.heap.objs.size ≤ b) ∧ b ≠ X.env.locals ∧ (∀ x c, X.env.cells.lookup x = some c → c ≠ b) ∧ ∀ p ∈ X.pn ++ pins, p.1 ≠ b) :
    Inv X pins σ H' { s with heap := h', gens := g', drawn := d', toks := t' } := by
  obtain ⟨m, ⟨o, es, ep, ho, r⟩, _⟩ := id I.loc
  obtain ⟨sl, hL⟩ := u.any ho I.free fun z => (hch _ z).2.1 rfl
  exact I.step (ch := ch) hch (fun b o hL hb hc e n => u.keep b o e n (fun z => (List.mem_cons.mp (I.stkSub b z)).elim hL hb) hc) (fun b o _ _ hc e n => u.any e n hc) (fun b o hc e n => u.free b o e n hc) (fun b o hc e => u.there b o e hc) u.tups u.frzs u.tbls (fun m' hm => by
    obtain ⟨o', es', ep', ho', r'⟩ := hm
    rw [ho] at ho'; cases ho'
    exact ⟨_, es', ep', hL, r'⟩) hok hg
/-- an untracked record of ours (an iterator) has turned -/
theorem Inv.turned {t' : Nat} {it : Addr} (I : Inv X pins σ H s) (k : ∀ b o, b ≠ it → s.heap.get? b = some o → h'.get? b = some o) (hn : H it = none) (hL : it ≠ X.env.locals)
    (h1 : it ∈ X.ex ∨ X.s₀.heap.objs.size ≤ it) (h2 : ∀ x c, X.env.cells.lookup x = some c → c ≠ it) (h3 : ∀ p ∈ X.pn ++ pins, p.1 ≠ it) : Inv X pins σ H { s with heap := h', toks := t' } := by
  have nit : ∀ b u, H b = some u → b ≠ it := fun b u e z => by rw [z, hn] at e; cases e
  refine I.step (g' := s.gens) (d' := s.drawn) (ch := [it]) (fun b hb => ?_) (fun b o _ _ hc e _ => k b o (fun z => hc (by simp [z])) e) (fun b o _ _ hc e _ => ⟨o.slots, k b o (fun z => hc (by simp [z])) e⟩) (fun _ _ _ _ n => n)
    (fun b o hc e => ⟨o, k b o (fun z => hc (by simp [z])) e⟩) (fun _ _ e => e) (fun _ _ _ e => e) (fun b ps e => ⟨#[], by rw [e]; simp⟩) (fun m hm => ?_) (fun b u e => ?_) I.bare
  · have e : b = it := by simpa using hb
    subst e
    exact ⟨h1, hL, h2, h3⟩
  · obtain ⟨o, es, ep, ho, r⟩ := hm
    exact ⟨o, es, ep, k _ o (Ne.symm hL) ho, r⟩
  · refine (I.hok b u e).stay (fun c v hc q => k c v ?_ q) (fun _ q => q) fun _ _ q => q
    rcases hc with z | z
    · rw [z]; exact nit b u e
    · exact nit c _ z
theorem Inv.tok (I : Inv X pins σ H s) (t : Nat) : Inv X pins σ H { s with toks := t } := I.un (h' := s.heap) (t' := t) Un.refl I.hok
/-- all objects kept -/
theorem Inv.kept {t' : Nat} (I : Inv X pins σ H s) (k : ∀ b u, s.heap.get? b = some u → h'.get? b = some u) : Inv X pins σ H { s with heap := h', toks := t' } := I.un (Un.kept k) (I.hok.kept k)
/-- a new object laid and tracked -/
theorem Inv.laid {a : Addr} {o : HO} {t' : Nat} (I : Inv X pins σ H s) (k : ∀ b u, s.heap.get? b = some u → h'.get? b = some u) (hp : s.heap.objs.size ≤ a) (new : ObjOk X.prog X.w (upd H a o) h' a o) :
    Inv X pins σ (upd H a o) { s with heap := h', toks := t' } := I.un (Un.laid k hp (I.hok.fresh hp)) (I.hok.laid k hp new)
/-- an object written -/
theorem Inv.write {x e : Addr} {o : HO} {t' : Nat} (I : Inv X pins σ H s) (mu : Mut (H x)) (he : e = x ∨ H e = some (.own x)) (k : ∀ b u, b ≠ e → s.heap.get? b = some u → h'.get? b = some u) (heo : ∃ u, h'.get? e = some u)
    (new : ObjOk X.prog X.w (upd H x o) h' x o) : Inv X pins σ (upd H x o) { s with heap := h', toks := t' } := I.un (Un.write mu he k heo) (I.hok.write mu he k heo new)
theorem Inv.pins_of {pins' : List (Addr × Obj)} (I : Inv X pins σ H s) (h : ∀ p ∈ pins', s.heap.get? p.1 = some p.2 ∧ H p.1 = none ∧ p.1 ≠ X.env.locals ∧ p.1 ∉ X.fs ∧ ∀ v, p.2.data ≠ .cell v) : Inv X pins' σ H s :=
  ⟨I.ok, I.os, I.bare, I.base, I.loc, I.cell, I.free, I.freeC, fun p hp => (List.mem_append.mp hp).elim (fun z => I.pin p (List.mem_append_left _ z)) (h p), I.hok, I.len⟩

theorem nodup_ix {N : List Str} (hN : N.Nodup) {i j : Nat} {x : Str} (a : N[i]? = some x) (b : N[j]? = some x) : i = j := by
  obtain ⟨h1, e1⟩ := List.getElem?_eq_some_iff.mp a
  obtain ⟨h2, e2⟩ := List.getElem?_eq_some_iff.mp b
  exact (List.getElem_inj hN).mp (e1.trans e2.symm)

/-- a name is stored; what changed -/
theorem store_ok2 {M : Model} {A : Around} {E : Value → Shared → Prop} {i : Nat} {x : Str} {v : V} {u : Value} {Q : Unit → Shared → Prop} (I : Inv X pins σ H s) (hN : X.N.Nodup) (hi : X.N[i]? = some x) (hx : Loc X.env.scope x) (r : RelV v u)
    (h : ∀ s', Inv X pins (σ.set i (some v)) H s' → (∃ a, Heap.SameBut a s.heap s'.heap ∧ (a = X.env.locals ∨ X.env.cells.lookup x = some a)) → Q () s') (hf : X.fn x = true ∨ X.env.scope.names.lookup x = some .local := by first | exact .inl rfl | exact .inr rfl | assumption) : wpAny M A (storeName X.env x u) Q E s := by
  obtain ⟨m, hn, hl⟩ := id I.loc
  have hcls : (X.env.scope.kind == .class || (X.env.scope.kind == .module && X.env.locals != X.env.globals)) = false := by rw [I.ok.kind]; rfl
  have hiσ : i < σ.length := by rw [I.len]; exact (List.getElem?_eq_some_iff.mp hi).1
  have cne := I.cne
  have tracked : ∀ {a : Addr} {h' : Heap}, (∃ o, s.heap.get? a = some o ∧ H a = none) → Heap.SameBut a s.heap h' → HOk X.prog X.w H h' := fun {a h'} ha hs b ob e => by
    obtain ⟨_, _, hfree⟩ := ha
    refine (I.hok b ob e).stay (fun c w' hc q => (hs.2 c ?_).trans q) (fun _ q => q) fun _ _ q => q
    rintro rfl
    rcases hc with rfl | hc
    · rw [hfree] at e; cases e
    · rw [hfree] at hc; cases hc
  rcases hx with hk | hk
  · refine wpAny_storeName_local hk hn (fun h' hn' hs => ?_) hcls
    obtain ⟨oL, _, _, hoL, _⟩ := id hn
    refine h _ ⟨I.ok, I.os, I.bare, ⟨fun b o e n hb hx => ?_, fun b o e n hb hx => ?_, I.base.free, fun b o e hx => ?_, I.base.tups, I.base.frzs, I.base.tbls⟩, ⟨_, hn', fun j y v' e1 e2 e3 => ?_⟩, fun y c e => ?_, I.free, I.freeC, fun p hp => ?_, tracked ⟨oL, hoL, I.free⟩ hs, by simpa using I.len⟩ ⟨_, hs, .inl rfl⟩
    · exact (hs.2 b (Nat.ne_of_lt (Nat.lt_of_lt_of_le (Heap.lt_size e) I.ok.above))).trans (I.base.keep b o e n hb hx)
    · obtain ⟨sl, e1⟩ := I.base.slot b o e n hb hx
      exact ⟨sl, (hs.2 b (Nat.ne_of_lt (Nat.lt_of_lt_of_le (Heap.lt_size e) I.ok.above))).trans e1⟩
    · obtain ⟨o', e1⟩ := I.base.there b o e hx
      exact ⟨o', (hs.2 b (Nat.ne_of_lt (Nat.lt_of_lt_of_le (Heap.lt_size e) I.ok.above))).trans e1⟩
    · by_cases hj : j = i
      · subst hj
        rw [hi] at e1; cases e1
        rw [List.getElem?_set_self hiσ] at e2
        cases e2
        exact ⟨u, r, .inl ⟨hk, by simp⟩⟩
      · rw [List.getElem?_set_ne (Ne.symm hj)] at e2
        obtain ⟨u', r', q⟩ := hl j y v' e1 e2 e3
        refine ⟨u', r', ?_⟩
        rcases q with ⟨k, e⟩ | ⟨k, c, e, z⟩
        · refine .inl ⟨k, ?_⟩
          have : y ≠ x := fun e => hj (nodup_ix hN e1 (e ▸ hi))
          simp [this, e]
        · exact .inr ⟨k, c, e, z.sameBut hs (cne y c e)⟩
    · obtain ⟨w', z⟩ := I.cell y c e
      exact ⟨w', z.sameBut hs (cne y c e)⟩
    · obtain ⟨e, n, ne, nf, d⟩ := I.pin p hp
      exact ⟨(hs.2 p.1 ne).trans e, n, ne, nf, d⟩
  · have hfn : X.fn x = true := by
      rcases hf with z | z
      · exact z
      · rw [z] at hk; cases hk
    obtain ⟨c, hc⟩ := I.ok.has x (.inl hk)
    obtain ⟨w', z⟩ := I.cell x c hc
    refine wpAny_storeName_cell I.ok.kind hk hc z (fun h' hc' hs => ?_)
    obtain ⟨oc, hoc, hocd⟩ := id z
    refine h { s with heap := h' } ⟨I.ok, I.os, I.bare, ⟨fun b o e n hb hx => ?_, fun b o e n hb hx => ?_, I.base.free, fun b o e hx => ?_, I.base.tups, I.base.frzs, I.base.tbls⟩, ⟨m, hn.sameBut hs (Ne.symm (cne x c hc)), fun j y v' e1 e2 e3 => ?_⟩, fun y c' e => ?_, I.free, I.freeC, fun p hp => ?_, tracked ⟨oc, hoc, I.freeC x c hc⟩ hs, by simpa using I.len⟩ ⟨c, hs, .inr hc⟩
    · exact (hs.2 b (Nat.ne_of_lt (Nat.lt_of_lt_of_le (Heap.lt_size e) (I.ok.cab x c hfn hc)))).trans (I.base.keep b o e n hb hx)
    · obtain ⟨sl, e1⟩ := I.base.slot b o e n hb hx
      exact ⟨sl, (hs.2 b (Nat.ne_of_lt (Nat.lt_of_lt_of_le (Heap.lt_size e) (I.ok.cab x c hfn hc)))).trans e1⟩
    · obtain ⟨o', e1⟩ := I.base.there b o e hx
      exact ⟨o', (hs.2 b (Nat.ne_of_lt (Nat.lt_of_lt_of_le (Heap.lt_size e) (I.ok.cab x c hfn hc)))).trans e1⟩
    · by_cases hj : j = i
      · subst hj
        rw [hi] at e1; cases e1
        rw [List.getElem?_set_self hiσ] at e2
        cases e2
        exact ⟨u, r, .inr ⟨.inl hk, c, hc, hc'⟩⟩
      · rw [List.getElem?_set_ne (Ne.symm hj)] at e2
        obtain ⟨u', r', q⟩ := hl j y v' e1 e2 e3
        refine ⟨u', r', ?_⟩
        rcases q with q | ⟨k, c', e, z'⟩
        · exact .inl q
        · refine .inr ⟨k, c', e, z'.sameBut hs ?_⟩
          rintro rfl
          exact hj (nodup_ix hN e1 (I.ok.inj _ _ _ e hc ▸ hi))
    · by_cases hcc : c' = c
      · subst hcc; exact ⟨_, hc'⟩
      · obtain ⟨w2, z2⟩ := I.cell y c' e
        exact ⟨w2, z2.sameBut hs hcc⟩
    · obtain ⟨e, n, ne, nf, d⟩ := I.pin p hp
      refine ⟨(hs.2 p.1 ?_).trans e, n, ne, nf, d⟩
      intro q
      rw [q, hoc] at e
      have q' : oc = p.2 := Option.some.inj e
      exact d w' (by rw [← q']; exact hocd)
theorem store_ok {M : Model} {A : Around} {E : Value → Shared → Prop} {i : Nat} {x : Str} {v : V} {u : Value} {Q : Unit → Shared → Prop} (I : Inv X pins σ H s) (hN : X.N.Nodup) (hi : X.N[i]? = some x) (hx : Loc X.env.scope x) (r : RelV v u)
    (h : ∀ s', Inv X pins (σ.set i (some v)) H s' → Q () s') (hf : X.fn x = true ∨ X.env.scope.names.lookup x = some .local := by first | exact .inl rfl | exact .inr rfl | assumption) : wpAny M A (storeName X.env x u) Q E s :=
  store_ok2 I hN hi hx r (fun s' I' _ => h s' I') hf
/-- behind a call or a block, the state as it is -/
theorem Inv.call' {s' : Shared} {ch : List Addr} (I : Inv X pins σ H s) (ho : s'.os = s.os) (u : Un (frs X.stack) ch H H' s.heap s'.heap) (hok : HOk X.prog X.w H' s'.heap) (hg : AllBare s'.gens)
    (hch : ∀ b ∈ ch, (b ∈ X.ex ∨ X.s₀.heap.objs.size ≤ b) ∧ b ≠ X.env.locals ∧ (∀ x c, X.env.cells.lookup x = some c → c ≠ b) ∧ ∀ p ∈ X.pn ++ pins, p.1 ≠ b) : Inv X pins σ H' s' := by
  obtain ⟨h', g', d', t', o'⟩ := s'
  have e : o' = s.os := ho
  subst e
  exact I.call (g' := g') (t' := t') (d' := d') u hok hg hch
end

/-! ### the judgements -/
/-- an exception: its class, its own dict's address (where it has one), the abstract heap behind it -/
abbrev XK := Value → Option Addr → Hp → Prop
abbrev St := List (Option V)
abbrev VK := V → Hp → Prop
/-- an expression's reading; a test's; an argument list's -/
abbrev TE := St → Hp → VK → Prop
abbrev TT := St → Hp → (Bool → Hp → Prop) → Prop
abbrev TA := St → Hp → (List V → Hp → Prop) → Prop
/-- what is wanted behind a statement -/
structure Ends where
  nx : St → Hp → Prop
  rt : VK
  bk : St → Hp → Prop := fun _ _ => False
  ct : St → Hp → Prop := fun _ _ => False
abbrev TS := Ends → St → Hp → Prop

def EP (X : Cx) (pins : List (Addr × Obj)) (σ : St) (Q : VK) (u : Value) (s' : Shared) : Prop := ∃ v H', Inv X pins σ H' s' ∧ RelV v u ∧ Q v H'
def TP (X : Cx) (pins : List (Addr × Obj)) (σ : St) (Q : Bool → Hp → Prop) (b : Bool) (s' : Shared) : Prop := ∃ H', Inv X pins σ H' s' ∧ Q b H'
def AP (X : Cx) (pins : List (Addr × Obj)) (σ : St) (Q : List V → Hp → Prop) (us : List Value) (s' : Shared) : Prop := ∃ vs H', Inv X pins σ H' s' ∧ Vals vs us ∧ Q vs H'
def SP (X : Cx) (pins : List (Addr × Obj)) (D : Ends) (f : Flow) (s' : Shared) : Prop :=
  match f with
  | .next => ∃ σ' H', Inv X pins σ' H' s' ∧ D.nx σ' H'
  | .brk => ∃ σ' H', Inv X pins σ' H' s' ∧ D.bk σ' H'
  | .cont => ∃ σ' H', Inv X pins σ' H' s' ∧ D.ct σ' H'
  | .ret u => ∃ v σ' H', Inv X pins σ' H' s' ∧ RelV v u ∧ D.rt v H'

def PE (X : Cx) (e : Expr) (t : TE) : Prop :=
  ∀ (pins : List (Addr × Obj)) (s : Shared) (σ : St) (H : Hp) (Q : VK), Inv X pins σ H s → t σ H Q → wpAny (model X.prog X.w) X.A (eval e X.env) (EP X pins σ Q) X.xe s
def PT (X : Cx) (e : Expr) (t : TT) : Prop :=
  ∀ (pins : List (Addr × Obj)) (s : Shared) (σ : St) (H : Hp) (Q : Bool → Hp → Prop), Inv X pins σ H s → t σ H Q → wpAny (model X.prog X.w) X.A (isTrue e X.env (eval e X.env)) (TP X pins σ Q) X.xe s
/-- a test whatever its 'whole' is (and, or) -/
def PW (X : Cx) (e : Expr) (t : TT) : Prop :=
  ∀ (whole : Sem Value) (pins : List (Addr × Obj)) (s : Shared) (σ : St) (H : Hp) (Q : Bool → Hp → Prop), Inv X pins σ H s → t σ H Q → wpAny (model X.prog X.w) X.A (isTrue e X.env whole) (TP X pins σ Q) X.xe s
theorem PW.pt {X : Cx} {e : Expr} {t : TT} (h : PW X e t) : PT X e t := h _
/-- an argument list (no star), from the left -/
def PA (X : Cx) (es : List Expr) (t : TA) : Prop :=
  ∀ (pos : Pos) (pins : List (Addr × Obj)) (s : Shared) (σ : St) (H : Hp) (Q : List V → Hp → Prop), Inv X pins σ H s → t σ H Q → wpAny (model X.prog X.w) X.A (spliced (backTo pos (starEach es X.env))) (AP X pins σ Q) X.xe s
def PS (X : Cx) (st : Stmt) (t : TS) : Prop :=
  ∀ (pins : List (Addr × Obj)) (s : Shared) (σ : St) (H : Hp) (D : Ends), Inv X pins σ H s → t D σ H → wpAny (model X.prog X.w) X.A (exec st X.env) (SP X pins D) X.xe s
def PSs (X : Cx) (st : List Stmt) (t : TS) : Prop :=
  ∀ (pins : List (Addr × Obj)) (s : Shared) (σ : St) (H : Hp) (D : Ends), Inv X pins σ H s → t D σ H → wpAny (model X.prog X.w) X.A (execs st X.env) (SP X pins D) X.xe s
/-- weaken the end -/
theorem thn {α : Type} {t : Sem α} {Q Q' : α → Shared → Prop} {M : Model} {A : Around} {E : Value → Shared → Prop} {s : Shared} (h : wpAny M A t Q E s) (hQ : ∀ a s, Q a s → Q' a s) : wpAny M A t Q' E s := wpAny_mono h hQ fun _ _ x => x
end L2

namespace L2
open PySem PySem.Spec PyProof.Rows
section
variable {X : Cx}

/-! ### names and constants -/
def tVar (i : Nat) : TE := fun σ H Q => ∃ v, σ[i]? = some (some v) ∧ Q v H
def tC (v : V) : TE := fun _ H Q => Q v H
theorem pe_var {i : Nat} {x : Str} {pos : Pos} (hN : X.N[i]? = some x) (hv : Vis X.env.scope x) (hd : (x == ("__debug__" : Str)) = false := by decide) (hcd : (x == ("__classdict__" : Str)) = false := by decide) : PE X (.Name x pos) (tVar i) := by
  intro pins s σ H Q I h
  obtain ⟨v, e, h⟩ := h
  obtain ⟨m, hn, hl⟩ := I.loc
  obtain ⟨u, r, l⟩ := hl i x v hN e hv
  have fin : EP X pins σ Q u s := ⟨v, H, I, r, h⟩
  rcases l with ⟨hk, hm⟩ | ⟨hk, c, hc, hcell⟩
  · exact wpAny_Name (wpAny_loadName_local I.ok.kind hk hn hm fin) hd
  · rcases hk with hk | hk
    · exact wpAny_Name (wpAny_loadName_cell I.ok.kind hk hc hcell fin) hd
    · exact wpAny_Name (wpAny_loadName_free I.ok.kind hk hc hcell fin hcd) hd
theorem pe_int {i j pos} : PE X (.Constant (.int i) j pos) (tC (.int i)) := fun _ _ _ H _ I h => wpAny_Constant_int ⟨.int i, H, I.tok _, ⟨_, rfl⟩, h⟩
theorem pe_bl {b j pos} : PE X (.Constant (.bool b) j pos) (tC (.bl b)) := fun _ _ _ H _ I h => Constant_bool ⟨.bl b, H, I, rfl, h⟩
/-- a global name of the def -/
def Gl (X : Cx) (x : Str) : Prop := X.env.kindOf x = some .globalImplicit
theorem ld_glob {E : Value → Shared → Prop} {pins : List (Addr × Obj)} {s : Shared} {σ : St} {H : Hp} {x : Str} {u : Value} {pos : Pos} {Q : Value → Shared → Prop} (I : Inv X pins σ H s) (hg : Gl X x) (hm : X.mg x = some u) (h : Q u s)
    (hd : (x == ("__debug__" : Str)) = false := by decide) : wpAny (model X.prog X.w) X.A (eval (.Name x pos) X.env) Q E s :=
  Calls.Name_function_global I.ok.kind hg (Calls.loadGlobal_global (by rw [I.ok.glob]; exact I.mod.glob.keeps I.bk) hm h) hd
theorem ld_blt {E : Value → Shared → Prop} {pins : List (Addr × Obj)} {s : Shared} {σ : St} {H : Hp} {x : Str} {u : Value} {pos : Pos} {Q : Value → Shared → Prop} (I : Inv X pins σ H s) (hg : Gl X x) (hm : X.mg x = none) (hv : bootBuiltins x = some u) (h : Q u s)
    (hn : x ≠ "__name__" := by decide) (hd : (x == ("__debug__" : Str)) = false := by decide) : wpAny (model X.prog X.w) X.A (eval (.Name x pos) X.env) Q E s := by
  obtain ⟨mb, h1, h2⟩ := I.mod.blt
  exact Calls.Name_function_global I.ok.kind hg (Calls.loadGlobal_builtin (by rw [I.ok.glob]; exact I.mod.glob.keeps I.bk) hm (by rw [I.ok.blt]; exact h1.keeps I.bk) ((h2 x hn).trans hv) h) hd
/-- a module's constant, a class, a function, as a value -/
theorem pe_glob {x : Str} {v : V} {u : Value} {pos : Pos} (hg : Gl X x) (hm : X.mg x = some u) (r : RelV v u) (hd : (x == ("__debug__" : Str)) = false := by decide) : PE X (.Name x pos) (tC v) :=
  fun _ _ _ H _ I h => ld_glob I hg hm ⟨v, H, I, r, h⟩ hd
/-! ### arithmetic -/
variable {a b : Expr} {ta tb : TE} {pos : Pos}
/-! ### comparisons -/
/-- a comparison as a value, as a test -/
def tB (t : TE) : TT := fun σ H Q => t σ H fun x H1 => ∃ c, x = .bl c ∧ Q c H1
/-- an expression whose value is a bool, as a test -/
theorem pt_val {e : Expr} {t : TE} (h : PE X e t) (he : ∀ whole, isTrue e X.env whole = (do let v ← whole; standAt e.pos; holding [v] (truthy v)) := by intro _; rfl) : PT X e (tB t) := by
  intro pins s σ H Q I hw
  refine isTrue_plain (thn (h pins s σ H _ I hw) fun v s1 ⟨x, H1, I1, r1, q1⟩ => ?_) (he _)
  obtain ⟨d, rfl, q⟩ := q1
  cases r1
  exact wpAny_truthy_bool ⟨H1, I1, q⟩

/-! ### and, or, not -/
variable {tA tB' : TT} {rest : List Expr}
def tAnd (t u : TT) : TT := fun σ H Q => t σ H fun c H1 => if c = true then u σ H1 Q else Q false H1
def tOr (t u : TT) : TT := fun σ H Q => t σ H fun c H1 => if c = true then Q true H1 else u σ H1 Q
def tNot (t : TT) : TT := fun σ H Q => t σ H fun c H1 => Q (!c) H1
theorem pw_and1 (ha : PT X a tA) : PW X (.BoolOp .And [a] pos) tA := by
  intro wh pins s σ H Q I h
  refine isTrue_and (thn (ha pins s σ H Q I h) fun c s1 e => ?_)
  cases c with
  | true => exact isTrue_and_nil e
  | false => exact e
theorem pw_or1 (ha : PT X a tA) : PW X (.BoolOp .Or [a] pos) tA := by
  intro wh pins s σ H Q I h
  refine isTrue_or (thn (ha pins s σ H Q I h) fun c s1 e => ?_)
  cases c with
  | false => exact isTrue_or_nil e
  | true => exact e
theorem pw_and (ha : PT X a tA) (hb : PW X (.BoolOp .And (b :: rest) pos) tB') : PW X (.BoolOp .And (a :: b :: rest) pos) (tAnd tA tB') := by
  intro wh pins s σ H Q I h
  refine isTrue_and (thn (ha pins s σ H _ I h) fun c s1 ⟨H1, I1, q1⟩ => ?_)
  cases c with
  | true => exact hb wh pins s1 σ H1 Q I1 q1
  | false => exact ⟨H1, I1, q1⟩
theorem pw_or (ha : PT X a tA) (hb : PW X (.BoolOp .Or (b :: rest) pos) tB') : PW X (.BoolOp .Or (a :: b :: rest) pos) (tOr tA tB') := by
  intro wh pins s σ H Q I h
  refine isTrue_or (thn (ha pins s σ H _ I h) fun c s1 ⟨H1, I1, q1⟩ => ?_)
  cases c with
  | true => exact ⟨H1, I1, q1⟩
  | false => exact hb wh pins s1 σ H1 Q I1 q1
theorem pt_not (ha : PT X a tA) : PT X (.UnaryOp .Not a pos) (tNot tA) := by
  intro pins s σ H Q I h
  exact isTrue_not (ha pins s σ H (fun c H1 => Q (!c) H1) I h)
/-- .. as values (bools) -/
def tAndV (ta tb : TE) : TE := fun σ H Q => ta σ H fun x H1 => ∃ c, x = .bl c ∧ if c = true then tb σ H1 Q else Q (.bl false) H1
def tOrV (ta tb : TE) : TE := fun σ H Q => ta σ H fun x H1 => ∃ c, x = .bl c ∧ if c = true then Q (.bl true) H1 else tb σ H1 Q
def tNotV (ta : TE) : TE := fun σ H Q => ta σ H fun x H1 => ∃ c, x = .bl c ∧ Q (.bl (!c)) H1
/-- a if t else b -/
def tIf (t : TT) (ta tb : TE) : TE := fun σ H Q => t σ H fun c H1 => if c = true then ta σ H1 Q else tb σ H1 Q
end
end L2

namespace L2
open PySem PySem.Spec PyProof.Rows

/-! ### a list, a tuple that is read: tracked, frozen, or an object of the module -/
def SqL (K : PySem.W.Frag) (H : Hp) (a : Addr) (xs : List V) : Prop :=
  Rd H a (.lst xs) ∨
    ∃ (o : Obj) (its : Array Value) (n : Nat), K.lookup a = some o ∧ o.cls = .type "list" ∧ o.dict = none ∧ o.data = .seq its n ∧ its.size ≤ sizeLine ∧ Vals xs its.toList
def SqT (K : PySem.W.Frag) (H : Hp) (a : Addr) (xs : List V) : Prop :=
  Rd H a (.tup xs) ∨
    ∃ (o : Obj) (its : Array Value) (n : Nat), K.lookup a = some o ∧ o.cls = .type "tuple" ∧ o.data = .seq its n ∧ its.size ≤ sizeLine ∧ Vals xs its.toList
def absV : Value → Option V
  | .none => some .non
  | .bool b => some (.bl b)
  | .int i _ => some (.int i)
  | .str x _ => some (.str x)
  | .bytes b _ => some (.byt b)
  | .float b _ => some (.flt b)
  | .ref a => some (.ref a)
  | .type n => some (.ty n)
  | _ => none
theorem RelV.abs {x : V} {u : Value} (r : RelV x u) : absV u = some x := by
  cases x with
  | non => cases r; rfl
  | bl _ => cases r; rfl
  | int _ => obtain ⟨t, rfl⟩ := r; rfl
  | str _ => obtain ⟨t, rfl⟩ := r; rfl
  | byt _ => obtain ⟨t, rfl⟩ := r; rfl
  | flt _ => obtain ⟨t, rfl⟩ := r; rfl
  | ref _ => cases r; rfl
  | ty _ => cases r; rfl
theorem RelV.inj {x y : V} {u : Value} (r : RelV x u) (q : RelV y u) : x = y := Option.some.inj (r.abs.symm.trans q.abs)
theorem Vals.inj : ∀ {xs ys : List V} {us : List Value}, Vals xs us → Vals ys us → xs = ys
  | _, _, _, .nil, .nil => rfl
  | _, _, _, .cons r t, .cons r' t' => by rw [r.inj r', Vals.inj t t']
section
variable {X : Cx} {pins : List (Addr × Obj)} {σ : St} {H : Hp} {s : Shared} {a : Addr} {xs ys : List V}
theorem SqL.of {K : PySem.W.Frag} (h : H a = some (.lst xs)) : SqL K H a xs := .inl (.inl h)
theorem SqT.of {K : PySem.W.Frag} (h : H a = some (.tup xs)) : SqT K H a xs := .inl (.inl h)
theorem Inv.list (I : Inv X pins σ H s) (h : SqL X.K H a xs) : ∃ its : List Value, Vals xs its ∧ PlainL s.heap a its.toArray ∧ xs.length ≤ sizeLine := by
  rcases h with h | ⟨o, its, n, hk, hc, hd, hs, hz, r⟩
  · obtain ⟨z, its, n, r, e⟩ := h.ok I.hok
    exact ⟨its, r, ⟨_, n, e, rfl, rfl, rfl⟩, z⟩
  · refine ⟨its.toList, r, ⟨o, n, I.kIn a o hk, hc, hd, by simpa using hs⟩, ?_⟩
    have e := r.length
    simp only [Array.length_toList] at e
    omega
theorem Inv.tuple (I : Inv X pins σ H s) (h : SqT X.K H a xs) : ∃ its : List Value, Vals xs its ∧ IsTup s.heap a its.toArray ∧ xs.length ≤ sizeLine := by
  rcases h with h | ⟨o, its, n, hk, hc, hs, hz, r⟩
  · obtain ⟨z, its, r, p⟩ := h.ok I.hok
    exact ⟨its, r, p, z⟩
  · refine ⟨its.toList, r, ⟨o, I.kIn a o hk, hc, n, by simpa using hs⟩, ?_⟩
    have e := r.length
    simp only [Array.length_toList] at e
    omega
theorem Inv.list_inj (I : Inv X pins σ H s) (h : SqL X.K H a xs) (h' : SqL X.K H a ys) : xs = ys := by
  obtain ⟨its, r, ⟨o, n, e, _, _, d⟩, _⟩ := I.list h
  obtain ⟨its', r', ⟨o', n', e', _, _, d'⟩, _⟩ := I.list h'
  rw [e] at e'; cases e'
  rw [d] at d'
  injection d' with d1 _
  have : its = its' := by simpa using congrArg Array.toList d1
  subst this
  exact r.inj r'
theorem Inv.tuple_inj (I : Inv X pins σ H s) (h : SqT X.K H a xs) (h' : SqT X.K H a ys) : xs = ys := by
  obtain ⟨its, r, ⟨o, e, _, n, d⟩, _⟩ := I.tuple h
  obtain ⟨its', r', ⟨o', e', _, n', d'⟩, _⟩ := I.tuple h'
  rw [e] at e'; cases e'
  rw [d] at d'
  injection d' with d1 _
  have : its = its' := by simpa using congrArg Array.toList d1
  subst this
  exact r.inj r'
end

/-! ### another wish about exceptions -/
abbrev Cx.wish (X : Cx) (E : Value → Shared → Prop) : Cx := { X with xe := E }
/-- no exception leaves -/
abbrev Cx.nox (X : Cx) : Cx := X.wish fun _ _ => False
theorem Cx.Ok.wish {X : Cx} (ok : X.Ok) (E : Value → Shared → Prop) : (X.wish E).Ok :=
  ⟨ok.mod, ok.kind, ok.glob, ok.blt, ok.above, ok.inj, ok.has, ok.cab, ok.hd, ok.frames, ok.stk, ok.exf, ok.bs, ok.bsz, ok.noex, ok.exfs, ok.funs, ok.frf⟩
theorem Cx.Ok.unwish {X : Cx} {E : Value → Shared → Prop} (ok : (X.wish E).Ok) : X.Ok :=
  ⟨ok.mod, ok.kind, ok.glob, ok.blt, ok.above, ok.inj, ok.has, ok.cab, ok.hd, ok.frames, ok.stk, ok.exf, ok.bs, ok.bsz, ok.noex, ok.exfs, ok.funs, ok.frf⟩
section
variable {X : Cx} {pins : List (Addr × Obj)} {σ : St} {H : Hp} {s : Shared} {E : Value → Shared → Prop}
theorem Inv.wish (I : Inv X pins σ H s) (E : Value → Shared → Prop) : Inv (X.wish E) pins σ H s := ⟨I.ok.wish E, I.os, I.bare, I.base, I.loc, I.cell, I.free, I.freeC, I.pin, I.hok, I.len⟩
theorem Inv.unwish (I : Inv (X.wish E) pins σ H s) : Inv X pins σ H s := ⟨I.ok.unwish, I.os, I.bare, I.base, I.loc, I.cell, I.free, I.freeC, I.pin, I.hok, I.len⟩
theorem SP.unwish {D : Ends} {f : Flow} {s' : Shared} (h : SP (X.wish E) pins D f s') : SP X pins D f s' := by
  cases f with
  | next => obtain ⟨σ', H', I, q⟩ := h; exact ⟨σ', H', I.unwish, q⟩
  | brk => obtain ⟨σ', H', I, q⟩ := h; exact ⟨σ', H', I.unwish, q⟩
  | cont => obtain ⟨σ', H', I, q⟩ := h; exact ⟨σ', H', I.unwish, q⟩
  | ret u => obtain ⟨v, σ', H', I, r, q⟩ := h; exact ⟨v, σ', H', I.unwish, r, q⟩
theorem PE.nox {e : Expr} {t : TE} (h : PE X.nox e t) : PE X e t := fun pins s σ H Q I hw =>
  wpAny_mono (h pins s σ H Q (I.wish _) hw) (fun _ _ ⟨v, H', I', r, q⟩ => ⟨v, H', I'.unwish, r, q⟩) fun _ _ z => False.elim z
theorem PT.nox {e : Expr} {t : TT} (h : PT X.nox e t) : PT X e t := fun pins s σ H Q I hw =>
  wpAny_mono (h pins s σ H Q (I.wish _) hw) (fun _ _ ⟨H', I', q⟩ => ⟨H', I'.unwish, q⟩) fun _ _ z => False.elim z
theorem PSs.nox {st : List Stmt} {t : TS} (h : PSs X.nox st t) : PSs X st t := fun pins s σ H D I hw =>
  wpAny_mono (h pins s σ H D (I.wish _) hw) (fun _ _ q => q.unwish) fun _ _ z => False.elim z
end

/-! ### blocks and small statements -/
section
variable {X : Cx} {st : Stmt} {rest : List Stmt} {t u : TS} {e : Expr} {te : TE} {pos : Pos}
def tNext : TS := fun D σ H => D.nx σ H
def tSeq (t u : TS) : TS := fun D σ H => t { D with nx := u D } σ H
theorem pss_nil : PSs X [] tNext := fun _ _ σ H _ I h => wpAny_execs_nil ⟨σ, H, I, h⟩
theorem pss_cons (h1 : PS X st t) (h2 : PSs X rest u) : PSs X (st :: rest) (tSeq t u) := by
  intro pins s σ H D I h
  refine wpAny_execs_cons (thn (h1 pins s σ H { D with nx := u D } I h) fun f s1 q => ?_)
  cases f with
  | next =>
    obtain ⟨σ', H', I', q⟩ := q
    exact h2 pins s1 σ' H' D I' q
  | ret v => exact q
  | brk => exact q
  | cont => exact q
theorem pss_one (h1 : PS X st t) : PSs X [st] t := by
  intro pins s σ H D I h
  refine wpAny_execs_cons (thn (h1 pins s σ H D I h) fun f s1 q => ?_)
  cases f with
  | next => exact wpAny_execs_nil q
  | ret v => exact q
  | brk => exact q
  | cont => exact q
/-- in a def's body nothing is shown -/
theorem Inv.quiet {pins : List (Addr × Obj)} {σ : St} {H : Hp} {s : Shared} (I : Inv X pins σ H s) : interactive X.env = false := by simp [interactive, I.ok.kind]
/-- an expression whose value is dropped -/
def tDrop (te : TE) : TS := fun D σ H => te σ H fun _ H1 => D.nx σ H1
theorem ps_expr (he : PE X e te) (hs : swapsWith e none pos.line X.env = pure false := by rfl) : PS X (.Expr e pos) (tDrop te) := by
  intro pins s σ H D I h
  exact wpAny_Expr_any (thn (he pins s σ H _ I h) fun v s1 ⟨x, H1, I1, r1, q1⟩ => ⟨σ, H1, I1, q1⟩) I.quiet hs
def tRet (te : TE) : TS := fun D σ H => te σ H D.rt
theorem ps_ret (he : PE X e te) : PS X (.Return (some e) pos) (tRet te) := by
  intro pins s σ H D I h
  exact wpAny_Return_some (thn (he pins s σ H _ I h) fun v s1 ⟨x, H1, I1, r1, q1⟩ => ⟨x, σ, H1, I1, r1, q1⟩)
def tRetN : TS := fun D _ H => D.rt .non H
def tIfS (c : TT) (t u : TS) : TS := fun D σ H => c σ H fun b H1 => if b = true then t D σ H1 else u D σ H1
theorem ps_if {c : Expr} {a b : List Stmt} {tc : TT} (hc : PT X c tc) (ha : PSs X a t) (hb : PSs X b u) : PS X (.If c a b pos) (tIfS tc t u) := by
  intro pins s σ H D I h
  refine wpAny_If (thn (hc pins s σ H _ I h) fun d s1 ⟨H1, I1, q1⟩ => ?_)
  cases d with
  | true => exact ha pins s1 σ H1 D I1 q1
  | false => exact hb pins s1 σ H1 D I1 q1
end

/-! ### targets -/
abbrev TG := V → St → Hp → (St → Hp → Prop) → Prop
abbrev TGs := List V → St → Hp → (St → Hp → Prop) → Prop
def PG (X : Cx) (target : Expr) (t : TG) : Prop :=
  ∀ (pins : List (Addr × Obj)) (s : Shared) (σ : St) (H : Hp) (v : V) (u : Value) (Q : St → Hp → Prop), Inv X pins σ H s → RelV v u → t v σ H Q →
    wpAny (model X.prog X.w) X.A (assign target X.env u) (fun _ s' => ∃ σ' H', Inv X pins σ' H' s' ∧ Q σ' H') X.xe s
/-- several targets, one after another -/
def PGs (X : Cx) (ts : List Expr) (t : TGs) : Prop :=
  ∀ (pins : List (Addr × Obj)) (s : Shared) (σ : St) (H : Hp) (vs : List V) (us : List Value) (Q : St → Hp → Prop), Inv X pins σ H s → Vals vs us → t vs σ H Q →
    wpAny (model X.prog X.w) X.A (assignInOrder ((assignEach ts X.env).map (·.2)) us) (fun _ s' => ∃ σ' H', Inv X pins σ' H' s' ∧ Q σ' H') X.xe s
/-- o[i] = v, by values -/
abbrev TSet := V → V → V → Hp → (Hp → Prop) → Prop
def PSet (X : Cx) (t : TSet) : Prop :=
  ∀ (pins : List (Addr × Obj)) (s : Shared) (σ : St) (H : Hp) (o i v : V) (ov iv u : Value) (Q : Hp → Prop), Inv X pins σ H s → RelV o ov → RelV i iv → RelV v u → t o i v H Q →
    wpAny (model X.prog X.w) X.A (setItem ov iv u) (fun _ s' => ∃ H', Inv X pins σ H' s' ∧ Q H') X.xe s
section
variable {X : Cx} {pos : Pos}
def gName (i : Nat) : TG := fun v σ H Q => Q (σ.set i (some v)) H
theorem pg_name {i : Nat} {x : Str} (hN : X.N.Nodup) (hi : X.N[i]? = some x) (hx : Loc X.env.scope x) (hf : X.fn x = true ∨ X.env.scope.names.lookup x = some .local := by first | exact .inl rfl | exact .inr rfl | assumption) : PG X (.Name x pos) (gName i) := by
  intro pins s σ H v u Q I r h
  exact wpAny_assign_Name (store_ok I hN hi hx r (fun s' I' => ⟨_, H, I', h⟩) hf)
def gNil : TGs := fun vs σ H Q => vs = [] ∧ Q σ H
def gCons (t : TG) (u : TGs) : TGs := fun vs σ H Q => ∃ v r, vs = v :: r ∧ t v σ H fun σ' H' => u r σ' H' Q
theorem pgs_nil : PGs X [] gNil := by
  intro pins s σ H vs us Q I r h
  obtain ⟨e, h⟩ := h
  subst e
  cases r
  exact assignInOrder_nil ⟨σ, H, I, h⟩
theorem pgs_cons {e : Expr} {es : List Expr} {t : TG} {u : TGs} (h1 : PG X e t) (h2 : PGs X es u)
    (hs : (assignEach (e :: es) X.env).map (·.2) = assign e X.env :: (assignEach es X.env).map (·.2) := by rfl) : PGs X (e :: es) (gCons t u) := by
  intro pins s σ H vs us Q I r h
  obtain ⟨v, vr, e1, h⟩ := h
  subst e1
  cases r with
  | cons r rr =>
    rw [hs]
    refine assignInOrder_cons (thn (h1 pins s σ H _ _ _ I r h) fun _ s1 ⟨σ1, H1, I1, q1⟩ => ?_)
    exact h2 pins s1 σ1 H1 _ _ Q I1 rr q1
/-- (a, b, ..) = a tuple of that length -/
def gTup (K : PySem.W.Frag) (n : Nat) (t : TGs) : TG := fun v σ H Q => ∃ a xs, v = .ref a ∧ SqT K H a xs ∧ xs.length = n ∧ t xs σ H Q
theorem pg_tup {es : List Expr} {k : Nat} {t : TGs} {n : Nat} (hc : X.calm = true) (h : PGs X es t)
    (hn : (assignEach es X.env).length = n := by rfl) (hst : (assignEach es X.env).findIdx? (·.1) = none := by rfl) : PG X (.Tuple es k pos) (gTup X.K n t) := by
  intro pins s σ H v u Q I r hw
  obtain ⟨a, xs, e1, hq, hl, hw⟩ := hw
  subst e1
  cases r
  obtain ⟨its, rv, ht, hz⟩ := I.tuple hq
  refine assign_Tuple_tuple (I.ok.hd hc) ht (by simp [hn, ← hl, rv.length]) hst fun h' hx => ?_
  have I1 : Inv X pins σ H { s with heap := h' } := I.kept (t' := s.toks) fun b o e => hx b o (Nat.ne_of_lt (Heap.lt_size e)) e
  exact h pins _ σ H xs _ Q I1 (by simpa using rv) hw
/-- o[i] = .. -/
def gSub (to ti : TE) (t : TSet) : TG := fun v σ H Q => to σ H fun o H1 => ti σ H1 fun i H2 => t o i v H2 fun H3 => Q σ H3
theorem pg_sub {o i : Expr} {to ti : TE} {t : TSet} (ho : PE X o to) (hi : PE X i ti) (hs : PSet X t)
    (ha : ∀ v, assign (.Subscript o i pos) X.env v = (do
      let ov ← holding [v] (eval o X.env)
      let iv ← holding [v, ov] (eval i X.env)
      standAt pos
      holding [v, ov, iv] (setItem ov iv v)
      release [v, ov, iv] []) := by intro _; rfl) : PG X (.Subscript o i pos) (gSub to ti t) := by
  intro pins s σ H v u Q I r h
  rw [ha]
  refine wpAny_bind (wpAny_holding (thn (ho pins s σ H _ I h) fun ov s1 ⟨x, H1, I1, r1, q1⟩ => ?_))
  refine wpAny_bind (wpAny_holding (thn (hi pins s1 σ H1 _ I1 q1) fun iv s2 ⟨y, H2, I2, r2, q2⟩ => ?_))
  refine wpAny_bind (wpAny_standAt (wpAny_bind (wpAny_holding (thn (hs pins s2 σ H2 x y v ov iv u _ I2 r1 r2 r q2) fun _ s3 ⟨H3, I3, q3⟩ => ?_))))
  exact wpAny_release ⟨σ, H3, I3, q3⟩
/-- target = value -/
def tAsg (te : TE) (g : TG) : TS := fun D σ H => te σ H fun x H1 => g x σ H1 D.nx
theorem ps_asg {tg e : Expr} {te : TE} {g : TG} (he : PE X e te) (hg : PG X tg g) (hs : swapsWithSole [tg] e pos.line X.env = pure false := by rfl) (hw : swappedStores [tg] e X.env = pure none := by rfl)
    (h1 : (assignEach [tg] X.env).map (·.2) = [assign tg X.env] := by rfl) : PS X (.Assign [tg] e pos) (tAsg te g) := by
  intro pins s σ H D I h
  refine wpAny_Assign_stores (thn (he pins s σ H _ I h) fun v s1 ⟨x, H1, I1, r1, q1⟩ => ?_) hs hw
  rw [h1]
  exact thn (hg pins s1 σ H1 x v _ I1 r1 q1) fun _ s2 q => q
/-- name = value -/
theorem ps_set {i : Nat} {x : Str} {e : Expr} {te : TE} {pos' : Pos} (hN : X.N.Nodup) (hi : X.N[i]? = some x) (hx : Loc X.env.scope x) (he : PE X e te) (hs : swapsWith e (some (.Name x pos')) pos.line X.env = pure false := by rfl) (hf : X.fn x = true ∨ X.env.scope.names.lookup x = some .local := by first | exact .inl rfl | exact .inr rfl | assumption) :
    PS X (.Assign [.Name x pos'] e pos) (tAsg te (gName i)) := by
  intro pins s σ H D I h
  refine wpAny_Assign_Name (thn (he pins s σ H _ I h) fun v s1 ⟨y, H1, I1, r1, q1⟩ => ?_) hs
  exact store_ok I1 hN hi hx r1 (fun s2 I2 => ⟨_, H1, I2, q1⟩) hf
end

/-! ### while -/
section
variable {X : Cx} {pos : Pos}
end

/-! ### what a loop or a comprehension walks -/
/-- at turn i: it yields x (the heap may grow), or it stops -/
structure It where
  go : Nat → Hp → Prop
  yld : Nat → Hp → V → Hp → Prop
  stop : Nat → Hp → Prop
/-- the iterator's own objects may turn: they are not the frame's, not pinned, younger than the entry (or a comprehension's own) -/
def FpOk (X : Cx) (pins : List (Addr × Obj)) (H : Hp) (b : Addr) : Prop :=
  H b = none ∧ b ≠ X.env.locals ∧ b ∉ X.fs ∧ (b ∈ X.ex ∨ X.s₀.heap.objs.size ≤ b) ∧ (∀ x c, X.env.cells.lookup x = some c → c ≠ b) ∧ ∀ p ∈ X.pn ++ pins, p.1 ≠ b
theorem Inv.fpOk {X : Cx} {pins : List (Addr × Obj)} {σ : St} {H H' : Hp} {s : Shared} {b : Addr} (I : Inv X pins σ H s) (hb : s.heap.objs.size ≤ b) (hn : H' b = none) : FpOk X pins H' b := by
  refine ⟨hn, Nat.ne_of_gt (Nat.lt_of_lt_of_le I.lt hb), I.nofs hb, .inr (Nat.le_trans I.sz hb), fun x c e z => ?_, fun p hp z => ?_⟩
  · obtain ⟨v, q⟩ := I.cell x c e
    exact absurd (Nat.lt_of_lt_of_le q.lt (by rw [z]; exact hb)) (Nat.lt_irrefl _)
  · exact absurd (Nat.lt_of_lt_of_le (Heap.lt_size (I.pin p hp).1) (by rw [z]; exact hb)) (Nat.lt_irrefl _)
structure Turn (P : Program) (w : World) (K : PySem.W.Frag) (tg : Expr) (J : It) (fp : List Addr) (it : Addr) (tn : Nat → Heap → Prop) : Prop where
  mem : it ∈ fp
  obj : ∀ i h, tn i h → ∀ b ∈ fp, ∃ o, h.get? b = some o ∧ ∀ v, o.data ≠ .cell v
  keep : ∀ i h h', tn i h → (∀ b ∈ fp, ∀ o, h.get? b = some o → h'.get? b = some o) → tn i h'
  item : ∀ (X : Cx), X.prog = P → X.w = w → X.K = K → X.calm = true → ∀ (i : Nat) (pins : List (Addr × Obj)) (s : Shared) (σ : St) (H : Hp) (E : Value → Shared → Prop), Inv X pins σ H s → (∀ b ∈ fp, FpOk X pins H b) → tn i s.heap → J.go i H →
    wpAny (model P w) X.A (pyNext (.ref it)) (fun r s1 => ∃ u, r = some u ∧
      wpAny (model P w) X.A (letOwnedTupleGo tg (.ref it) u) (fun _ s2 => ∃ x H', Inv X pins σ H' s2 ∧ RelV x u ∧ J.yld i H x H' ∧ tn (i + 1) s2.heap ∧ ∀ b ∈ fp, H' b = none) E s1) E s
  done : ∀ (X : Cx), X.prog = P → X.w = w → X.K = K → X.calm = true → ∀ (i : Nat) (pins : List (Addr × Obj)) (s : Shared) (σ : St) (H : Hp) (E : Value → Shared → Prop), Inv X pins σ H s → (∀ b ∈ fp, FpOk X pins H b) → tn i s.heap → J.stop i H →
    wpAny (model P w) X.A (pyNext (.ref it)) (fun r s1 => r = none ∧ Inv X pins σ H s1) E s
  self : ∀ (A : Around) (i : Nat) (s : Shared) (Q : Value → Shared → Prop) (E : Value → Shared → Prop), tn i s.heap → Q (.ref it) s → wpAny (model P w) A (pyIter (.ref it)) Q E s
abbrev TI := St → Hp → (It → Hp → Prop) → Prop
/-- an iterator has come -/
def PIE (X : Cx) (pins : List (Addr × Obj)) (σ : St) (tg : Expr) (R : It → Hp → Prop) (itv : Value) (s2 : Shared) : Prop :=
  ∃ (it : Addr) (fp : List Addr) (tn : Nat → Heap → Prop) (J : It) (H' : Hp), itv = .ref it ∧ Inv X pins σ H' s2 ∧ Turn X.prog X.w X.K tg J fp it tn ∧ tn 0 s2.heap ∧ (∀ b ∈ fp, FpOk X pins H' b) ∧ R J H'
def PI (X : Cx) (tg iter : Expr) (wi : TI) : Prop :=
  ∀ (pins : List (Addr × Obj)) (s : Shared) (σ : St) (H : Hp) (R : It → Hp → Prop), Inv X pins σ H s → wi σ H R →
    wpAny (model X.prog X.w) X.A (eval iter X.env) (fun v s1 => wpAny (model X.prog X.w) X.A (pyIter v) (PIE X pins σ tg R) X.xe s1) X.xe s

/-- the step ahead of the store is nothing for an iterator that keeps no tuple -/
theorem go_of {M : Model} {A : Around} {E : Value → Shared → Prop} {s : Shared} {tg : Expr} {it : Addr} {u : Value} {o : Obj} {n : String} {vs : Array Value} {Q : Unit → Shared → Prop} (ho : s.heap.get? it = some o) (hc : o.cls = .type n) (hd : o.data = .fields vs)
    (hn : ["enumerate", "zip", "dict_itemiterator", "dict_reverseitemiterator", "odict_iterator", "itertools.zip_longest", "itertools.pairwise"].contains n = false) (hQ : Q () s) : wpAny M A (letOwnedTupleGo tg (.ref it) u) Q E s := by
  unfold letOwnedTupleGo
  cases tg <;> first
    | exact wpAny_pure hQ
    | (cases u <;> first
        | exact wpAny_pure hQ
        | (refine wpAny_bind (wpAny_load ho ?_)
           rw [hc, hd]
           show wpAny M A (if (["enumerate", "zip", "dict_itemiterator", "dict_reverseitemiterator", "odict_iterator", "itertools.zip_longest", "itertools.pairwise"].contains n && vs[0]? == some (rawInt _)) = true then _ else _) Q E s
           rw [if_neg (by intro h; rw [hn, Bool.false_and] at h; cases h)]
           exact wpAny_pure hQ))

/-- the list at a, as it stands at each turn (a loop may append to it) -/
def Itl (K : PySem.W.Frag) (a : Addr) : It :=
  ⟨fun i H => ∃ xs x, SqL K H a xs ∧ xs[i]? = some x, fun i H x H' => H' = H ∧ ∀ xs, SqL K H a xs → xs[i]? = some x, fun i H => ∃ xs, SqL K H a xs ∧ xs.length ≤ i⟩
/-- lo, lo + 1, .. (n of them) -/
def Itr (lo : Int) (n : Nat) : It := ⟨fun i _ => i < n, fun i H x H' => H' = H ∧ x = .int (lo + i), fun i _ => n ≤ i⟩
theorem turn_list {P : Program} {w : World} {K : PySem.W.Frag} {tg : Expr} (a it : Addr) : Turn P w K tg (Itl K a) [it] it (fun i h => h.IsListIter it a i) where
  mem := by simp
  obj := fun i h st b hb => by
    have e : b = it := by simpa using hb
    subst e
    obtain ⟨o, e, c, d⟩ := st
    exact ⟨o, e, fun v z => by rw [d] at z; cases z⟩
  keep := fun i h h' st k => st.at fun o e => k it (by simp) o e
  item := by
    intro X hP hw hK hc i pins s σ H E I hf st hg
    subst hP hw hK
    obtain ⟨xs, x, hq, hx⟩ := hg
    obtain ⟨its, rv, p, hz⟩ := I.list hq
    obtain ⟨u, hu, ru⟩ := rv.get hx
    obtain ⟨f0, f1, f2, f3, f4, f5⟩ := hf it (by simp)
    refine wpAny_pyNext_list_item st p.isList (x := u) (by simpa using hu) fun h' st' sb => ?_
    have I1 : Inv X pins σ H { s with heap := h' } := I.turned (t' := s.toks) (fun b o hb e => (sb.2 b hb).trans e) f0 f1 f3 f4 f5
    obtain ⟨o, e, c, d⟩ := id st'
    exact ⟨u, rfl, go_of (s := { s with heap := h' }) e c d (by decide) ⟨x, H, I1, ru, ⟨rfl, fun ys hy => by rw [I.list_inj hy hq]; exact hx⟩, st', fun b hb => (hf b hb).1⟩⟩
  done := by
    intro X hP hw hK hc i pins s σ H E I hf st hg
    subst hP hw hK
    obtain ⟨xs, hq, hx⟩ := hg
    obtain ⟨its, rv, p, hz⟩ := I.list hq
    obtain ⟨f0, f1, f2, f3, f4, f5⟩ := hf it (by simp)
    have hl := rv.length
    exact wpAny_pyNext_list_end (I.ok.hd hc) st p.isList (by simp; omega) fun h' eb => ⟨rfl, I.turned (t' := s.toks) (fun b o hb e => eb b o hb e) f0 f1 f3 f4 f5⟩
  self := fun _ _ _ _ _ st h => wpAny_pyIter_listiter st h
theorem turn_range {P : Program} {w : World} {K : PySem.W.Frag} {tg : Expr} (it : Addr) (lo : Int) (n : Nat) : Turn P w K tg (Itr lo n) [it] it (fun i h => IsRangeIter h it (lo + (i : Nat) * 1) ((n : Int) - (i : Nat)) 1) where
  mem := by simp
  obj := fun i h st b hb => by
    have e : b = it := by simpa using hb
    subst e
    exact ⟨_, st, fun v z => by
      have z' : Data.fields _ = Data.cell v := z
      cases z'⟩
  keep := fun i h h' st k => k it (by simp) _ st
  item := by
    intro X hP hw hK hc i pins s σ H E I hf st hg
    subst hP hw hK
    obtain ⟨f0, f1, f2, f3, f4, f5⟩ := hf it (by simp)
    have W := Walks.range (prog := X.prog) (w := X.w) (I.ok.hd hc) it lo 1 n
    refine W.item i s _ _ hg st fun v h' tk hv st' kk => ?_
    obtain ⟨t, rfl⟩ := hv
    have I1 : Inv X pins σ H { s with heap := h', toks := tk } := I.turned (fun b o hb e => kk b o (by simpa using hb) e) f0 f1 f3 f4 f5
    refine ⟨_, rfl, go_of (s := { s with heap := h', toks := tk }) (n := "range_iterator") st' rfl rfl (by decide) ⟨.int (lo + i), H, I1, ⟨t, ?_⟩, ⟨rfl, rfl⟩, st', fun b hb => (hf b hb).1⟩⟩
    rw [Int.mul_one]
  done := by
    intro X hP hw hK hc i pins s σ H E I hf st hg
    subst hP hw hK
    obtain ⟨f0, f1, f2, f3, f4, f5⟩ := hf it (by simp)
    exact wpAny_pyNext_range_end (I.ok.hd hc) st (by have : n ≤ i := hg; omega) fun h' eb => ⟨rfl, I.turned (t' := s.toks) (fun b o hb e => eb b o hb e) f0 f1 f3 f4 f5⟩
  self := fun _ _ _ _ _ st h => wpAny_pyIter_rangeiter st h
end L2

namespace L2
open PySem PySem.Spec PyProof.Rows
section
variable {X : Cx} {tg : Expr}
def iList (K : PySem.W.Frag) (tl : TE) : TI := fun σ H R => tl σ H fun x H1 => ∃ a, x = .ref a ∧ (∃ xs, SqL K H1 a xs) ∧ R (Itl K a) H1
theorem pi_list {l : Expr} {tl : TE} (hl : PE X l tl) : PI X tg l (iList X.K tl) := by
  intro pins s σ H R I h
  refine thn (hl pins s σ H _ I h) fun v s1 ⟨x, H1, I1, r1, q1⟩ => ?_
  obtain ⟨a, e, ⟨xs, hq⟩, q⟩ := q1
  subst e
  cases r1
  obtain ⟨its, rv, p, hz⟩ := I1.list hq
  refine wpAny_pyIter_list p.isList ?_
  refine ⟨s1.heap.objs.size, [s1.heap.objs.size], _, _, H1, rfl, I1.kept (t' := s1.toks) fun b o e => Heap.get?_push_of_some _ e, turn_list a _, ⟨_, Heap.get?_push_size _ rfl, rfl, rfl⟩, fun b hb => ?_, q⟩
  have e : b = s1.heap.objs.size := by simpa using hb
  subst e
  exact I1.fpOk (Nat.le_refl _) (I1.hok.fresh (Nat.le_refl _))
/-- a range object just made, walked -/
theorem range_it {pins : List (Addr × Obj)} {σ : St} {H : Hp} {s : Shared} {R : It → Hp → Prop} {E : Value → Shared → Prop} {lo hi : Int} {t u v : Tok} {tk : Nat} (I : Inv X pins σ H s) (h1 : -(2 ^ 62) ≤ lo) (h2 : lo < 2 ^ 62) (h3 : -(2 ^ 62) ≤ hi) (h4 : hi < 2 ^ 62)
    (q : R (Itr lo (hi - lo).toNat) H) : wpAny (model X.prog X.w) X.A (pyIter (.ref s.heap.objs.size)) (PIE X pins σ tg R) E { s with heap := s.heap.push { cls := .type "range", data := .fields #[.int lo t, .int hi u, .int 1 v] }, toks := tk } := by
  refine wpAny_pyIter_range (IsRange.new ..) (small_one h1 h2 h3 h4) ?_
  have I1 : Inv X pins σ H { s with heap := s.heap.push { cls := .type "range", data := .fields #[.int lo t, .int hi u, .int 1 v] }, toks := tk } := I.kept fun b o e => Heap.get?_push_of_some _ e
  refine ⟨(s.heap.push { cls := .type "range", data := .fields #[.int lo t, .int hi u, .int 1 v] }).objs.size, [(s.heap.push { cls := .type "range", data := .fields #[.int lo t, .int hi u, .int 1 v] }).objs.size], _, _, H, rfl,
    I1.kept (t' := tk) fun b o e => Heap.get?_push_of_some _ e, turn_range _ lo (hi - lo).toNat, ?_, fun b hb => ?_, q⟩
  · have e1 : lo + ((0 : Nat) : Int) * 1 = lo := by simp
    have e2 : (((hi - lo).toNat : Nat) : Int) - ((0 : Nat) : Int) = Builtin.Range.rangeSize lo hi 1 := by rw [rangeSize_one]; split <;> omega
    show IsRangeIter _ _ (lo + ((0 : Nat) : Int) * 1) ((((hi - lo).toNat : Nat) : Int) - ((0 : Nat) : Int)) 1
    rw [e1, e2]
    exact Heap.get?_push_size _ rfl
  · have e : b = (s.heap.push { cls := .type "range", data := .fields #[.int lo t, .int hi u, .int 1 v] }).objs.size := by simpa using hb
    subst e
    exact I1.fpOk (Nat.le_refl _) (I1.hok.fresh (Nat.le_refl _))
def iRng1 (ta : TA) : TI := fun σ H R => ta σ H fun vs H1 => ∃ j : Int, vs = [.int j] ∧ -(2 ^ 62) ≤ j ∧ j < 2 ^ 62 ∧ R (Itr 0 j.toNat) H1
theorem pi_range1 {a : Expr} {ta : TA} {p pos : Pos} (hg : Gl X "range") (hm : X.mg "range" = none) (ha : PA X [a] ta) (hs : starEach [a] X.env = [(false, eval a X.env)] := by rfl) : PI X tg (.Call (.Name "range" p) [a] [] pos) (iRng1 ta) := by
  intro pins s σ H R I h
  refine Call_ (ld_blt I hg hm boot_range (PyProof.Rows.callWith_type1 (thn (ha pos pins s σ H _ I h) fun us s1 ⟨vs, H1, I1, r1, q1⟩ => ?_) hs rfl))
  obtain ⟨j, e, q1, q2, q⟩ := q1
  subst e
  cases r1 with
  | cons r rr =>
    cases rr
    obtain ⟨t, rfl⟩ := r
    exact call_range_1 (range_it I1 (by omega) (by omega) q1 q2 (by simpa using q))
/-! ### for -/
/-- W: the invariant by the turn and a measure; N: what the body is to reach -/
def tFor (wi : TI) (g : TG) (tb : TS) : TS := fun D σ H => wi σ H fun J H1 => ∃ W : Nat → Nat → St → Hp → Prop, (∃ m, W 0 m σ H1) ∧ ∀ i m σ H, W i m σ H →
  (J.stop i H ∧ D.nx σ H) ∨ (J.go i H ∧ ∃ N : St → Hp → Prop, (∀ σ' H', N σ' H' → ∃ m', m' < m ∧ W (i + 1) m' σ' H') ∧ ∀ x H', J.yld i H x H' → g x σ H' fun σ2 H2 => tb { D with nx := N, ct := N, bk := D.nx } σ2 H2)
/-- the records at fp as they stand -/
def pinsAt (fp : List Addr) (h : Heap) : List (Addr × Obj) := fp.filterMap fun b => (h.get? b).map fun o => (b, o)
theorem mem_pinsAt {fp : List Addr} {h : Heap} {b : Addr} {o : Obj} (hb : b ∈ fp) (e : h.get? b = some o) : (b, o) ∈ pinsAt fp h := List.mem_filterMap.mpr ⟨b, hb, by rw [e]; rfl⟩
theorem of_pinsAt {fp : List Addr} {h : Heap} {p : Addr × Obj} (hp : p ∈ pinsAt fp h) : p.1 ∈ fp ∧ h.get? p.1 = some p.2 := by
  obtain ⟨b, hb, e⟩ := List.mem_filterMap.mp hp
  cases q : h.get? b with
  | none => rw [q] at e; cases e
  | some o =>
    rw [q] at e
    have e' : (b, o) = p := Option.some.inj e
    subst e'
    exact ⟨hb, q⟩
theorem Inv.pinned {pins : List (Addr × Obj)} {σ : St} {H : Hp} {s : Shared} {fp : List Addr} (I : Inv X pins σ H s) (hf : ∀ b ∈ fp, FpOk X pins H b) (ho : ∀ b ∈ fp, ∃ o, s.heap.get? b = some o ∧ ∀ v, o.data ≠ .cell v) : Inv X (pins ++ pinsAt fp s.heap) σ H s :=
  I.pins_of fun p hp => (List.mem_append.mp hp).elim (fun z => I.pin p (List.mem_append_right _ z)) fun z => by
    obtain ⟨hb, e⟩ := of_pinsAt z
    obtain ⟨f0, f1, f2, _⟩ := hf p.1 hb
    obtain ⟨o, e', d⟩ := ho p.1 hb
    rw [e] at e'; cases e'
    exact ⟨e, f0, f1, f2, d⟩
theorem Inv.unpinned {pins pl : List (Addr × Obj)} {σ : St} {H : Hp} {s : Shared} (I : Inv X (pins ++ pl) σ H s) : Inv X pins σ H s := I.pins_of fun p hp => I.pin p (List.mem_append_right _ (List.mem_append_left _ hp))
theorem ps_for {iter : Expr} {body : List Stmt} {wi : TI} {g : TG} {tb : TS} {pos : Pos} (hp : PassesOwn (model X.prog X.w) X.A X.env X.xe) (hc : X.calm = true) (hi : PI X tg iter wi) (hg : PG X tg g) (hb : PSs X body tb)
    (hs : ∀ x, foldedSetIterable iter X.env x = pure x := by intro _; rfl) : PS X (.For tg iter body [] pos) (tFor wi g tb) := by
  intro pins s σ H D I h
  refine wpAny_For (thn (hi pins s σ H _ I h) fun v s1 h1 => thn h1 fun itv s2 h2 => ?_) hs
  obtain ⟨it, fp, tn, J, H2, e, I2, T, st2, f2, W, ⟨m0, w0⟩, turn⟩ := h2
  subst e
  -- what stays true of the iterator's objects through the loop
  have stat : ∀ {H' : Hp}, (∀ b ∈ fp, H' b = none) → ∀ b ∈ fp, FpOk X pins H' b := fun hn b hb => ⟨hn b hb, (f2 b hb).2⟩
  refine codeAny_forLoop_any (fun n s' => ∃ i σ' H', Inv X pins σ' H' s' ∧ tn i s'.heap ∧ (∀ b ∈ fp, H' b = none) ∧ W i n σ' H') ?_ m0 ⟨0, σ, H2, I2, st2, fun b hb => (f2 b hb).1, w0⟩
  rintro n s3 ⟨i, σ3, H3, I3, st3, fr3, w3⟩
  rcases turn i n σ3 H3 w3 with ⟨stop, qn⟩ | ⟨go, N, hN, step⟩
  · refine wpAny_passesOwn hp (thn (T.done X rfl rfl rfl hc i pins s3 σ3 H3 X.xe I3 (stat fr3) st3 stop) fun r s4 ⟨hr, I4⟩ => ?_)
    subst hr
    exact wpAny_execs_nil ⟨σ3, H3, I4, qn⟩
  · refine wpAny_passesOwn hp (thn (T.item X rfl rfl rfl hc i pins s3 σ3 H3 X.xe I3 (stat fr3) st3 go) fun r s4 ⟨u, hr, h4⟩ => ?_)
    subst hr
    refine wpAny_passesOwn hp (thn h4 fun _ s5 ⟨x, H5, I5, r5, y5, st5, fr5⟩ => ?_)
    have I5' := I5.pinned (stat fr5) (T.obj _ _ st5)
    refine wpAny_passesOwn hp (thn (hg _ s5 σ3 H5 x u _ I5' r5 (step x H5 y5)) fun _ s6 ⟨σ6, H6, I6, q6⟩ => ?_)
    refine wpAny_passesOwn hp (thn (hb _ s6 σ6 H6 _ I6 q6) fun f s7 q7 => ?_)
    have again : ∀ {σ7 : St} {H7 : Hp}, Inv X (pins ++ pinsAt fp s5.heap) σ7 H7 s7 → N σ7 H7 → ∃ m, m < n ∧ ∃ i σ' H', Inv X pins σ' H' s7 ∧ tn i s7.heap ∧ (∀ b ∈ fp, H' b = none) ∧ W i m σ' H' := fun {σ7 H7} I7 n7 => by
      obtain ⟨m', hm, w7⟩ := hN σ7 H7 n7
      refine ⟨m', hm, i + 1, σ7, H7, I7.unpinned, T.keep _ _ _ st5 fun b hb o e => (I7.pin (b, o) (List.mem_append_right _ (List.mem_append_right _ (mem_pinsAt hb e)))).1, fun b hb => ?_, w7⟩
      obtain ⟨o, e, d⟩ := T.obj _ _ st5 b hb
      exact (I7.pin (b, o) (List.mem_append_right _ (List.mem_append_right _ (mem_pinsAt hb e)))).2.1
    cases f with
    | next => obtain ⟨σ7, H7, I7, n7⟩ := q7; exact again I7 n7
    | cont => obtain ⟨σ7, H7, I7, n7⟩ := q7; exact again I7 n7
    | brk => obtain ⟨σ7, H7, I7, q7⟩ := q7; exact ⟨σ7, H7, I7.unpinned, q7⟩
    | ret v => obtain ⟨x7, σ7, H7, I7, r7, q7⟩ := q7; exact ⟨x7, σ7, H7, I7.unpinned, r7, q7⟩
end

/-! ### the forms one uses -/
/-- over a list that the body leaves as it is -/
theorem for_list {K : PySem.W.Frag} {a : Addr} {xs : List V} {g : TG} {tb : TS} {D : Ends} {σ : St} {H : Hp} (Pv : Nat → St → Hp → Prop) (h0 : Pv 0 σ H) (hl : ∀ i σ H, i ≤ xs.length → Pv i σ H → SqL K H a xs)
    (hs : ∀ i x σ H, xs[i]? = some x → Pv i σ H → g x σ H fun σ2 H2 => tb { D with nx := Pv (i + 1), ct := Pv (i + 1), bk := D.nx } σ2 H2) (hd : ∀ σ H, Pv xs.length σ H → D.nx σ H) :
    ∃ W : Nat → Nat → St → Hp → Prop, (∃ m, W 0 m σ H) ∧ ∀ i m σ H, W i m σ H →
      ((Itl K a).stop i H ∧ D.nx σ H) ∨ ((Itl K a).go i H ∧ ∃ N : St → Hp → Prop, (∀ σ' H', N σ' H' → ∃ m', m' < m ∧ W (i + 1) m' σ' H') ∧ ∀ x H', (Itl K a).yld i H x H' → g x σ H' fun σ2 H2 => tb { D with nx := N, ct := N, bk := D.nx } σ2 H2) := by
  refine ⟨fun i m σ H => m = xs.length - i ∧ i ≤ xs.length ∧ Pv i σ H, ⟨xs.length, by simp, Nat.zero_le _, h0⟩, ?_⟩
  rintro i m σ H ⟨rfl, hi, p⟩
  have q := hl i σ H hi p
  by_cases hlt : i < xs.length
  · refine .inr ⟨⟨xs, xs[i], q, by simp [hlt]⟩, Pv (i + 1), fun σ' H' p' => ⟨xs.length - (i + 1), by omega, rfl, hlt, p'⟩, fun x H' y => ?_⟩
    obtain ⟨e, y⟩ := y
    subst e
    exact hs i x σ _ (y xs q) p
  · have e : i = xs.length := by omega
    subst e
    exact .inl ⟨⟨xs, q, Nat.le_refl _⟩, hd σ H p⟩
theorem for_range {lo : Int} {n : Nat} {g : TG} {tb : TS} {D : Ends} {σ : St} {H : Hp} (Pv : Nat → St → Hp → Prop) (h0 : Pv 0 σ H)
    (hs : ∀ i σ H, i < n → Pv i σ H → g (.int (lo + i)) σ H fun σ2 H2 => tb { D with nx := Pv (i + 1), ct := Pv (i + 1), bk := D.nx } σ2 H2) (hd : ∀ σ H, Pv n σ H → D.nx σ H) :
    ∃ W : Nat → Nat → St → Hp → Prop, (∃ m, W 0 m σ H) ∧ ∀ i m σ H, W i m σ H →
      ((Itr lo n).stop i H ∧ D.nx σ H) ∨ ((Itr lo n).go i H ∧ ∃ N : St → Hp → Prop, (∀ σ' H', N σ' H' → ∃ m', m' < m ∧ W (i + 1) m' σ' H') ∧ ∀ x H', (Itr lo n).yld i H x H' → g x σ H' fun σ2 H2 => tb { D with nx := N, ct := N, bk := D.nx } σ2 H2) := by
  refine ⟨fun i m σ H => m = n - i ∧ i ≤ n ∧ Pv i σ H, ⟨n, by simp, Nat.zero_le _, h0⟩, ?_⟩
  rintro i m σ H ⟨rfl, hi, p⟩
  by_cases hlt : i < n
  · refine .inr ⟨hlt, Pv (i + 1), fun σ' H' p' => ⟨n - (i + 1), by omega, rfl, hlt, p'⟩, fun x H' y => ?_⟩
    obtain ⟨e, y⟩ := y
    subst e y
    exact hs i σ _ hlt p
  · have e : i = n := by omega
    subst e
    exact .inl ⟨Nat.le_refl _, hd σ H p⟩
end L2

namespace L2
open PySem PySem.Spec PyProof.Rows

abbrev R2 := V → V → Hp → VK → Prop
/-- a two-place operation on values: f is binaryOp op, inplaceOp op or compareOp op -/
def OpR (X : Cx) (f : Value → Value → Sem Value) (r : R2) : Prop :=
  ∀ (pins : List (Addr × Obj)) (s : Shared) (σ : St) (H : Hp) (x y : V) (v u : Value) (Q : VK), Inv X pins σ H s → RelV x v → RelV y u → r x y H Q →
    wpAny (model X.prog X.w) X.A (f v u) (EP X pins σ Q) X.xe s
/-- a one-place operation -/
def UnR (X : Cx) (f : Value → Sem Value) (r : V → Hp → VK → Prop) : Prop :=
  ∀ (pins : List (Addr × Obj)) (s : Shared) (σ : St) (H : Hp) (x : V) (v : Value) (Q : VK), Inv X pins σ H s → RelV x v → r x H Q →
    wpAny (model X.prog X.w) X.A (f v) (EP X pins σ Q) X.xe s
/-- a call of a value that is known (a builtin, a type) with values -/
def CallR (X : Cx) (f : Value) (r : List V → Hp → VK → Prop) : Prop :=
  ∀ (pins : List (Addr × Obj)) (s : Shared) (σ : St) (H : Hp) (xs : List V) (us : List Value) (Q : VK), Inv X pins σ H s → Vals xs us → r xs H Q →
    wpAny (model X.prog X.w) X.A (call f us) (EP X pins σ Q) X.xe s
def tOp (r : R2) (ta tb : TE) : TE := fun σ H Q => ta σ H fun x H1 => tb σ H1 fun y H2 => r x y H2 Q
def tUn (r : V → Hp → VK → Prop) (ta : TE) : TE := fun σ H Q => ta σ H fun x H1 => r x H1 Q
/-- ints in, under C, and a value out -/
def rI (C : Int → Int → Prop) (g : Int → Int → V) : R2 := fun x y H Q => ∃ i j, x = .int i ∧ y = .int j ∧ C i j ∧ Q (g i j) H
def rI0 (g : Int → Int → V) : R2 := fun x y H Q => ∃ i j, x = .int i ∧ y = .int j ∧ Q (g i j) H
def rU (g : Int → V) : V → Hp → VK → Prop := fun x H Q => ∃ i, x = .int i ∧ Q (g i) H

section
variable {X : Cx} {a b c : Expr} {ta tb tc : TE} {pos : Pos}

theorem binT (ha : PE X a ta) (hb : PE X b tb) {pins : List (Addr × Obj)} {s : Shared} {σ : St} {H : Hp} {R : V → V → Hp → Prop} (I : Inv X pins σ H s)
    (h : ta σ H fun x H1 => tb σ H1 fun y H2 => R x y H2) {Q : Value → Shared → Prop} {f : Value → Value → Sem Value}
    (hf : ∀ v u s2 x y H2, Inv X pins σ H2 s2 → RelV x v → RelV y u → R x y H2 → wpAny (model X.prog X.w) X.A (f v u) Q X.xe s2) :
    wpAny (model X.prog X.w) X.A (eval a X.env) (fun v s₁ => wpAny (model X.prog X.w) X.A (eval b X.env) (fun u s₂ => wpAny (model X.prog X.w) X.A (f v u) Q X.xe s₂) X.xe s₁) X.xe s := by
  refine thn (ha pins s σ H _ I h) fun v s1 ⟨x, H1, I1, r1, q1⟩ => ?_
  refine thn (hb pins s1 σ H1 _ I1 q1) fun u s2 ⟨y, H2, I2, r2, q2⟩ => ?_
  exact hf v u s2 x y H2 I2 r1 r2 q2

theorem pe_op {op : Operator} {r : R2} (ho : OpR X (binaryOp op) r) (ha : PE X a ta) (hb : PE X b tb) : PE X (.BinOp a op b pos) (tOp r ta tb) := by
  intro pins s σ H Q I h
  exact wpAny_BinOp (binT ha hb I h fun v u s2 x y H2 I2 rx ry q => ho pins s2 σ H2 x y v u Q I2 rx ry q)
theorem pe_un {op : UnaryOp} {r : V → Hp → VK → Prop} (ho : UnR X (unaryOp op) r) (ha : PE X a ta) : PE X (.UnaryOp op a pos) (tUn r ta) := by
  intro pins s σ H Q I h
  exact UnaryOp_ (thn (ha pins s σ H _ I h) fun v s1 ⟨x, H1, I1, r1, q1⟩ => ho pins s1 σ H1 x v Q I1 r1 q1)
/-! ### ints -/
theorem opI {f : Value → Value → Sem Value} {C : Int → Int → Prop} {g : Int → Int → Int}
    (rule : ∀ (i j : Int) (t u : Tok) (s : Shared) (Q : Value → Shared → Prop) (E : Value → Shared → Prop), C i j → Q (.int (g i j) s.toks) { s with toks := s.toks + 1 } → wpAny (model X.prog X.w) X.A (f (.int i t) (.int j u)) Q E s) :
    OpR X f (rI C fun i j => .int (g i j)) := by
  intro pins s σ H x y v u Q I rx ry h
  obtain ⟨i, j, rfl, rfl, hc, q⟩ := h
  obtain ⟨t, rfl⟩ := rx
  obtain ⟨t', rfl⟩ := ry
  exact rule i j t t' s _ _ hc ⟨.int (g i j), H, I.tok _, ⟨_, rfl⟩, q⟩
theorem opI0 {f : Value → Value → Sem Value} {g : Int → Int → Int}
    (rule : ∀ (i j : Int) (t u : Tok) (s : Shared) (Q : Value → Shared → Prop) (E : Value → Shared → Prop), Q (.int (g i j) s.toks) { s with toks := s.toks + 1 } → wpAny (model X.prog X.w) X.A (f (.int i t) (.int j u)) Q E s) :
    OpR X f (rI0 fun i j => .int (g i j)) := by
  intro pins s σ H x y v u Q I rx ry h
  obtain ⟨i, j, rfl, rfl, q⟩ := h
  obtain ⟨t, rfl⟩ := rx
  obtain ⟨t', rfl⟩ := ry
  exact rule i j t t' s _ _ ⟨.int (g i j), H, I.tok _, ⟨_, rfl⟩, q⟩
theorem opB0 {f : Value → Value → Sem Value} {g : Int → Int → Bool}
    (rule : ∀ (i j : Int) (t u : Tok) (s : Shared) (Q : Value → Shared → Prop) (E : Value → Shared → Prop), Q (.bool (g i j)) s → wpAny (model X.prog X.w) X.A (f (.int i t) (.int j u)) Q E s) :
    OpR X f (rI0 fun i j => .bl (g i j)) := by
  intro pins s σ H x y v u Q I rx ry h
  obtain ⟨i, j, rfl, rfl, q⟩ := h
  obtain ⟨t, rfl⟩ := rx
  obtain ⟨t', rfl⟩ := ry
  exact rule i j t t' s _ _ ⟨.bl (g i j), H, I, rfl, q⟩

def CDiv (i j : Int) : Prop := 0 < j ∧ j < 1073741824
def CMul (i j : Int) : Prop := (-(2 ^ 64) < i ∧ i < 2 ^ 64) ∨ (-(2 ^ 64) < j ∧ j < 2 ^ 64)
theorem CMul.ok {i j : Int} (h : CMul i j) : IntMulOk i j := by
  rcases h with ⟨h1, h2⟩ | ⟨h1, h2⟩
  · exact .of_left (intBits_le_64 h1 h2)
  · exact .of_right (intBits_le_64 h1 h2)
theorem op_add : OpR X (binaryOp .Add) (rI0 fun i j => .int (i + j)) := opI0 fun _ _ _ _ _ _ _ q => add_int q
theorem op_sub : OpR X (binaryOp .Sub) (rI0 fun i j => .int (i - j)) := opI0 fun _ _ _ _ _ _ _ q => sub_int q
theorem op_mul : OpR X (binaryOp .Mult) (rI CMul fun i j => .int (i * j)) := opI fun _ _ _ _ _ _ _ hc q => mul_int q hc.ok
/-- // by a positive divisor -/
theorem op_fdiv : OpR X (binaryOp .FloorDiv) (rI CDiv fun i j => .int (i / j)) := opI fun i j _ _ _ _ _ hc q => by
  have h1 : (0 : Int) < j := hc.1
  have h2 : j < 1073741824 := hc.2
  exact floordiv_int (by omega) (by rw [Int.fdiv_eq_ediv_of_nonneg i (by omega)]; exact q) (.inl (PyProof.noPylong_small (by omega)))
/-- % by a positive divisor of any size -/
theorem op_mod : OpR X (binaryOp .Mod) (rI (fun _ j => 0 < j) fun i j => .int (i % j)) := opI fun i j _ _ _ _ _ hc q => by
  have h1 : (0 : Int) < j := hc
  exact mod_int' (by omega) (by rw [Int.fmod_eq_emod_of_nonneg i (by omega)]; exact q)
theorem unI {f : Value → Sem Value} {g : Int → Int}
    (rule : ∀ (i : Int) (t : Tok) (s : Shared) (Q : Value → Shared → Prop) (E : Value → Shared → Prop), Q (.int (g i) s.toks) { s with toks := s.toks + 1 } → wpAny (model X.prog X.w) X.A (f (.int i t)) Q E s) :
    UnR X f (rU fun i => .int (g i)) := by
  intro pins s σ H x v Q I rx h
  obtain ⟨i, rfl, q⟩ := h
  obtain ⟨t, rfl⟩ := rx
  exact rule i t s _ _ ⟨.int (g i), H, I.tok _, ⟨_, rfl⟩, q⟩
theorem un_neg : UnR X (unaryOp .USub) (rU fun i => .int (-i)) := unI fun _ _ _ _ _ q => neg_int q
/-! ### bools among ints: n += (a < b) -/
end

/-! ### comparisons -/
/-- the scalars that == tells apart as data does -/
def scal : V → V → Bool
  | .non, .non => true | .non, .int _ => true | .int _, .non => true | .non, .bl _ => true | .bl _, .non => true | .non, .str _ => true | .str _, .non => true
  | .int _, .int _ => true | .bl _, .bl _ => true | .str _, .str _ => true | .byt _, .byt _ => true
  | .int _, .str _ => true | .str _, .int _ => true | .bl _, .str _ => true | .str _, .bl _ => true
  | _, _ => false
def rEq : R2 := fun x y H Q => scal x y = true ∧ Q (.bl (decide (x = y))) H
def rNe : R2 := fun x y H Q => scal x y = true ∧ Q (.bl (!decide (x = y))) H

theorem dec_int {i j : Int} : decide (V.int i = V.int j) = (i == j) := by
  rw [Bool.eq_iff_iff]
  simp
theorem dec_bl {i j : Bool} : decide (V.bl i = V.bl j) = (i == j) := by
  rw [Bool.eq_iff_iff]
  simp
theorem dec_str {i j : Str} : decide (V.str i = V.str j) = (i == j) := by
  rw [Bool.eq_iff_iff]
  simp
theorem dec_byt {i j : Array UInt8} : decide (V.byt i = V.byt j) = (i.toList == j.toList) := by
  rw [Bool.eq_iff_iff]
  cases i
  cases j
  simp

section
variable {X : Cx} {a b c : Expr} {ta tb tc : TE} {pos : Pos}
theorem fin_bl {pins : List (Addr × Obj)} {σ : St} {H : Hp} {s : Shared} {Q : VK} {k k' : Bool} (I : Inv X pins σ H s) (q : Q (.bl k) H) (e : k = k') : EP X pins σ Q (.bool k') s := by
  subst e
  exact ⟨.bl k, H, I, rfl, q⟩
theorem op_eq : OpR X (compareOp .Eq) rEq := by
  intro pins s σ H x y v u Q I rx ry h
  obtain ⟨hs, q⟩ := h
  cases x with
  | non =>
    cases rx
    cases y with
    | non => cases ry; exact PySem.EqNone.eq_none_none (fin_bl I q (by simp))
    | bl j => cases ry; exact PySem.EqNone.eq_none_bool (fin_bl I q (by simp))
    | int j => obtain ⟨t', rfl⟩ := ry; exact PySem.EqNone.eq_none_int (fin_bl I q (by simp))
    | str j => obtain ⟨t', rfl⟩ := ry; exact PySem.EqNone.eq_none_str (fin_bl I q (by simp))
    | _ => exact absurd (show false = true from hs) Bool.false_ne_true
  | bl i =>
    cases rx
    cases y with
    | non => cases ry; exact PySem.EqNone.eq_bool_none (fin_bl I q (by simp))
    | bl j => cases ry; exact eq_bool (fin_bl I q dec_bl)
    | str j => obtain ⟨t', rfl⟩ := ry; exact PySem.EqMixed.eq_bool_str (fin_bl I q (by simp))
    | _ => exact absurd (show false = true from hs) Bool.false_ne_true
  | int i =>
    obtain ⟨t, rfl⟩ := rx
    cases y with
    | non => cases ry; exact PySem.EqNone.eq_int_none (fin_bl I q (by simp))
    | int j => obtain ⟨t', rfl⟩ := ry; exact eq_int (fin_bl I q dec_int)
    | str j => obtain ⟨t', rfl⟩ := ry; exact PySem.EqMixed.eq_int_str (fin_bl I q (by simp))
    | _ => exact absurd (show false = true from hs) Bool.false_ne_true
  | str i =>
    obtain ⟨t, rfl⟩ := rx
    cases y with
    | non => cases ry; exact PySem.EqNone.eq_str_none (fin_bl I q (by simp))
    | bl j => cases ry; exact PySem.EqMixed.eq_str_bool (fin_bl I q (by simp))
    | int j => obtain ⟨t', rfl⟩ := ry; exact PySem.EqMixed.eq_str_int (fin_bl I q (by simp))
    | str j => obtain ⟨t', rfl⟩ := ry; exact eq_str (fin_bl I q dec_str)
    | _ => exact absurd (show false = true from hs) Bool.false_ne_true
  | byt i =>
    obtain ⟨t, rfl⟩ := rx
    cases y with
    | byt j => obtain ⟨t', rfl⟩ := ry; exact PySem.W.eq_bytes (fin_bl I q dec_byt)
    | _ => exact absurd (show false = true from hs) Bool.false_ne_true
  | _ => cases y <;> exact absurd (show false = true from hs) Bool.false_ne_true
theorem op_lt : OpR X (compareOp .Lt) (rI0 fun i j => .bl (decide (i < j))) := opB0 fun _ _ _ _ _ _ _ q => lt_int q
theorem op_le : OpR X (compareOp .LtE) (rI0 fun i j => .bl (decide (i ≤ j))) := opB0 fun _ _ _ _ _ _ _ q => le_int q
theorem op_gt : OpR X (compareOp .Gt) (rI0 fun i j => .bl (decide (j < i))) := opB0 fun _ _ _ _ _ _ _ q => gt_int q
/-- two rules for one operation: by cases -/
theorem OpR.or {f : Value → Value → Sem Value} {r r' : R2} (h : OpR X f r) (h' : OpR X f r') : OpR X f (fun x y H Q => r x y H Q ∨ r' x y H Q) := by
  intro pins s σ H x y v u Q I rx ry q
  rcases q with q | q
  · exact h pins s σ H x y v u Q I rx ry q
  · exact h' pins s σ H x y v u Q I rx ry q

theorem nomark (b : Expr) {op : CmpOp} (h : op ≠ .In := by decide) (h2 : op ≠ .NotIn := by decide) : behindInMarks op b = false := by
  have e1 : (op == CmpOp.In) = false := by cases op <;> first | rfl | exact absurd rfl h
  have e2 : (op == CmpOp.NotIn) = false := by cases op <;> first | rfl | exact absurd rfl h2
  cases b <;> simp [behindInMarks, e1, e2]
/-- a comparison as a value; hm: nomark b, or (for in, not in) by with_unfolding_all rfl -/
theorem pe_cmpR {op : CmpOp} {r : R2} (ho : OpR X (compareOp op) r) (ha : PE X a ta) (hb : PE X b tb) (hm : behindInMarks op b = false) : PE X (.Compare a [op] [b] pos) (tOp r ta tb) := by
  intro pins s σ H Q I h
  exact wpAny_Compare1 (binT ha hb I h fun v u s2 x y H2 I2 rx ry q => ho pins s2 σ H2 x y v u Q I2 rx ry q) hm
/-- a reading of a value as a test -/
def tTest (t : TE) : TT := fun σ H Q => t σ H fun x H' => ∃ k, x = .bl k ∧ Q k H'
theorem pt_cmpR {op : CmpOp} {r : R2} (ho : OpR X (compareOp op) r) (ha : PE X a ta) (hb : PE X b tb) (hm : behindInMarks op b = false) : PT X (.Compare a [op] [b] pos) (tTest (tOp r ta tb)) := by
  intro pins s σ H Q I h
  refine wpAny_isTrue_Compare1 (thn (ha pins s σ H _ I h) fun v s1 ⟨x, H1, I1, r1, q1⟩ => thn (hb pins s1 σ H1 _ I1 q1) fun u s2 ⟨y, H2, I2, r2, q2⟩ =>
    thn (ho pins s2 σ H2 x y v u _ I2 r1 r2 q2) fun c s3 ⟨z, H3, I3, r3, k, e, q3⟩ => ?_) hm
  subst e
  cases r3
  exact wpAny_truthy_bool ⟨H3, I3, q3⟩
/-- a op1 b op2 c -/
def tChain (r r' : R2) (ta tb tc : TE) : TE := fun σ H Q => ta σ H fun x H1 => tb σ H1 fun y H2 => r x y H2 fun z H3 => ∃ k, z = .bl k ∧
  (if k = true then tc σ H3 fun w' H4 => r' y w' H4 Q else Q (.bl false) H3)
theorem pt_chain {op op' : CmpOp} {r r' : R2} (ho : OpR X (compareOp op) r) (ho' : OpR X (compareOp op') r') (ha : PE X a ta) (hb : PE X b tb) (hc : PE X c tc)
    (hm : lastMarks [op, op'] [b, c] = false := by with_unfolding_all rfl) : PT X (.Compare a [op, op'] [b, c] pos) (tTest (tChain r r' ta tb tc)) := by
  intro pins s σ H Q I h
  refine isTrue_chain (thn (ha pins s σ H _ I h) fun v s1 ⟨x, H1, I1, r1, q1⟩ => test_link (thn (hb pins s1 σ H1 _ I1 q1) fun u s2 ⟨y, H2, I2, r2, q2⟩ =>
    thn (ho pins s2 σ H2 x y v u _ I2 r1 r2 q2) fun d s3 ⟨z, H3, I3, r3, k, e, q3⟩ => ?_)) hm
  subst e
  cases r3
  refine wpAny_truthy_bool ?_
  cases k with
  | false =>
    obtain ⟨k', e', q'⟩ := q3
    cases e'
    exact ite_ff ⟨H3, I3, q'⟩
  | true =>
    refine ite_tt (test_last (thn (hc pins s3 σ H3 _ I3 q3) fun w' s4 ⟨z', H4, I4, r4, q4⟩ => thn (ho' pins s4 σ H4 y z' u w' _ I4 r2 r4 q4) fun d' s5 ⟨z2, H5, I5, r5, k2, e2, q5⟩ => ?_))
    subst e2
    cases r5
    exact wpAny_truthy_bool ⟨H5, I5, q5⟩

/-! ### truth -/
theorem line63 : (sizeLine : Nat) < 2 ^ 63 := by rw [sizeLine_eq]; decide
/-! ### strs and bytes -/
/-! ### scalar builtins, by CallR -/
theorem vals1 {x : V} {us : List Value} (r : Vals [x] us) : ∃ u, us = [u] ∧ RelV x u := by
  cases r with
  | cons r1 r2 => cases r2; exact ⟨_, rfl, r1⟩
theorem vals2 {x y : V} {us : List Value} (r : Vals [x, y] us) : ∃ u w', us = [u, w'] ∧ RelV x u ∧ RelV y w' := by
  cases r with
  | cons r1 r2 =>
    cases r2 with
    | cons r3 r4 => cases r4; exact ⟨_, _, rfl, r1, r3⟩
theorem call_max2 (hc : X.calm = true) : CallR X (.builtin "max") (fun xs H Q => ∃ i j, xs = [.int i, .int j] ∧ Q (.int (if j > i then j else i)) H) := by
  intro pins s σ H xs us Q I r h
  obtain ⟨i, j, rfl, q⟩ := h
  obtain ⟨u, w', rfl, ⟨t, rfl⟩, ⟨t', rfl⟩⟩ := vals2 r
  refine max_two_ints (I.ok.hd hc) fun h' tk k => ⟨_, H, I.kept k, ?_, q⟩
  by_cases hj : j > i
  · rw [if_pos hj, if_pos hj]; exact ⟨_, rfl⟩
  · rw [if_neg hj, if_neg hj]; exact ⟨_, rfl⟩
theorem call_min2 (hc : X.calm = true) : CallR X (.builtin "min") (fun xs H Q => ∃ i j, xs = [.int i, .int j] ∧ Q (.int (if j < i then j else i)) H) := by
  intro pins s σ H xs us Q I r h
  obtain ⟨i, j, rfl, q⟩ := h
  obtain ⟨u, w', rfl, ⟨t, rfl⟩, ⟨t', rfl⟩⟩ := vals2 r
  refine min_two_ints (I.ok.hd hc) fun h' tk k => ⟨_, H, I.kept k, ?_, q⟩
  by_cases hj : j < i
  · rw [if_pos hj, if_pos hj]; exact ⟨_, rfl⟩
  · rw [if_neg hj, if_neg hj]; exact ⟨_, rfl⟩
end
end L2

namespace L2
open PySem PySem.Spec PyProof.Rows

/-! ### an instance, its attributes a map -/
structure ObjM (h : Heap) (x dx C : Addr) (mA : Str → Option Value) : Prop where
  obj : h.get? x = some (PySem.W.instObj C dx)
  ns : h.Ns1 dx mA
  ne : dx ≠ x

section
variable {prog : Program} {w : World} {A : Around} {E : Value → Shared → Prop} {s : Shared} {K : PySem.W.Frag} {x dx C f : Addr} {mA : Str → Option Value} {name : Str} {v : Value}

end

/-! ### the attributes as a list of pairs -/
section
variable {P : Program} {w : World} {H H' : Hp} {h h' : Heap} {a C dx : Addr} {fs fs' : List (Str × V)}
end

/-! ### what of the text a class must have -/
structure Cls (K : PySem.W.Frag) (C : Addr) : Prop where
  pg : PySem.W.plainGet K C Str.empty = true
  hd : PySem.W.hasDictIn K C = true
  po : PySem.W.plainOver K C = true
  sa : PySem.W.findIn K (.ref C) "__setattr__" = some (some (.builtin "object.__setattr__"))
theorem Cls.get {K : PySem.W.Frag} {C : Addr} (c : Cls K C) (f : Str) : PySem.W.plainGet K C f = true := c.pg
/-- a constant of the class -/
structure Con (K : PySem.W.Frag) (C : Addr) (f : Str) (v : V) (u : Value) : Prop where
  at_ : PySem.W.findIn K (.ref C) f = some (some u)
  rel : RelV v u
  get : PySem.W.specialIn K u "__get__" = some none
  cp : PySem.W.copiedNames.contains f = false
/-- a method: a plain def of the class or of one above it -/
structure Meth (K : PySem.W.Frag) (C : Addr) (m : Str) (f : Addr) : Prop where
  at_ : PySem.W.findIn K (.ref C) m = some (some (.ref f))
  fn : PySem.W.isFn K (.ref f) = true
  kp : PySem.W.keepIn K (.ref f) = true

section
variable {X : Cx} {pins : List (Addr × Obj)} {σ : St} {H : Hp} {s : Shared} {a C dx : Addr} {fs : List (Str × V)} {f : Str} {v : V} {A : Around} {E : Value → Shared → Prop}

/-- a new instance, tracked, without attributes -/
theorem Inv.made (I : Inv X pins σ H s) : Inv X pins σ (upd (upd H s.heap.objs.size (.own (s.heap.objs.size + 1))) (s.heap.objs.size + 1) (.ins C s.heap.objs.size []))
    { s with heap := (s.heap.push PySem.W.emptyDict).push (PySem.W.instObj C s.heap.objs.size) } := by
  have e1 : (s.heap.push PySem.W.emptyDict).get? s.heap.objs.size = some PySem.W.emptyDict := Heap.get?_push_size s.heap rfl
  have e2 : ((s.heap.push PySem.W.emptyDict).push (PySem.W.instObj C s.heap.objs.size)).get? (s.heap.objs.size + 1) = some (PySem.W.instObj C s.heap.objs.size) := by
    have := Heap.get?_push_size (s.heap.push PySem.W.emptyDict) (o := PySem.W.instObj C s.heap.objs.size) rfl
    rwa [Heap.size_push] at this
  have e3 : (s.heap.push PySem.W.emptyDict).Ns s.heap.objs.size (fun _ => none) := ⟨PySem.W.emptyDict, #[], _, e1, rfl, (fun e he => absurd he (by simp)), fun _ => rfl⟩
  have I1 := I.laid (a := s.heap.objs.size) (o := .own (s.heap.objs.size + 1)) (h' := s.heap.push PySem.W.emptyDict) (t' := s.toks) (fun b u q => Heap.get?_push_of_some _ q) (Nat.le_refl _) ⟨_, e1⟩
  refine I1.laid (a := s.heap.objs.size + 1) (o := .ins C s.heap.objs.size []) (t' := s.toks) (fun b u q => Heap.get?_push_of_some _ q) (Nat.le_of_eq (Heap.size_push _ _)) ?_
  have ne : s.heap.objs.size ≠ s.heap.objs.size + 1 := Nat.ne_of_lt (Nat.lt_succ_self _)
  refine ⟨by rw [upd_ne ne, upd_same], Nat.zero_le _, ne, e2, fun _ => none, (Heap.Ns1.of_empty e3).at fun o q => Heap.get?_push_of_some _ q, fun _ => True.intro, fun y hy => absurd rfl hy⟩

end

/-! ### readings and rules -/
section
variable {X : Cx} {o e value : Expr} {f : Str} {pos pos' tpos : Pos} {ta tv : TE}
end

/-! ### isinstance -/
section
variable {X : Cx} {pins : List (Addr × Obj)} {σ : St} {H : Hp} {s : Shared} {A : Around} {E : Value → Shared → Prop} {Q : Value → Shared → Prop} {c : Value} {b : Bool}
/-- the type of a value, as the fragment's deciders take it; for an instance its class -/
inductive TyOf (K : PySem.W.Frag) (H : Hp) : V → Value → Prop where
  | non : TyOf K H .non (.type "NoneType")
  | bl (x : Bool) : TyOf K H (.bl x) (.type "bool")
  | int (i : Int) : TyOf K H (.int i) (.type "int")
  | str (x : Str) : TyOf K H (.str x) (.type "str")
  | flt (x : UInt64) : TyOf K H (.flt x) (.type "float")
  | lst {a : Addr} {xs : List V} (e : H a = some (.lst xs)) : TyOf K H (.ref a) (.type "list")
  | frz {a : Addr} {o : Obj} {xs : List V} (e : H a = some (.frz o (.lst xs))) : TyOf K H (.ref a) (.type "list")
  | tup {a : Addr} {xs : List V} (e : H a = some (.tup xs)) : TyOf K H (.ref a) (.type "tuple")
  | dK {a : Addr} {kvs : List (Key × V)} (e : H a = some (.dK kvs)) : TyOf K H (.ref a) (.type "dict")
  | dT {a : Addr} {kvs : List (List Key × V)} (e : H a = some (.dT kvs)) : TyOf K H (.ref a) (.type "dict")
  | ins {a C dx : Addr} {fs : List (Str × V)} (e : H a = some (.ins C dx fs)) (cl : Cls K C) (ha : PySem.W.findIn K (.ref C) "__class__" = some (some (.builtin "object.__class__")))
      (hn : PySem.W.specialIn K (.builtin "object.__class__") "__get__" = some (some (.builtin "getset_descriptor.__get__"))) (htk : PySem.W.takesIn K (.builtin "object.__class__") = some true)
      (hm : PySem.W.mroIn K C (.type "object") = some true) : TyOf K H (.ref a) (.ref C)
end
end L2

namespace L2
open PySem PySem.Spec PyProof.Rows

/-! ### room -/
structure Room (k : Nat) (A : Around) : Prop where
  hd : A.handled = none
  dp : A.depth + 3 * k + 5 < recursionLimit
  un : A.units + 16 * k + 200 < cLine
theorem Room.mono {j k : Nat} {A : Around} (r : Room k A) (h : j ≤ k) : Room j A := ⟨r.hd, by have := r.dp; omega, by have := r.un; omega⟩
theorem Room.deeper {k : Nat} {A : Around} (r : Room (k + 1) A) (env : Env) : Room k (A.deeper env) :=
  ⟨r.hd, by have := r.dp; show A.depth + 1 + 3 * k + 5 < _; omega, by have := r.un; show A.units + 3 + 16 * k + 200 < _; omega⟩
theorem Room.in1 {k : Nat} {A : Around} (r : Room (k + 1) A) : Room k A.in1 :=
  ⟨r.hd, by have := r.dp; show A.depth + 3 * k + 5 < _; omega, by have := r.un; show A.units + 1 + 16 * k + 200 < _; omega⟩
theorem Room.depth {k : Nat} {A : Around} (r : Room k A) : A.depth < recursionLimit := by have := r.dp; omega
theorem Room.units {k : Nat} {A : Around} (r : Room k A) : A.units + 64 < cLine := by have := r.un; omega
/-! ### argument lists and displays -/
def tNil : TA := fun _ H Q => Q [] H
def tCons (ta : TE) (tr : TA) : TA := fun σ H Q => ta σ H fun x H1 => tr σ H1 fun xs H2 => Q (x :: xs) H2
section
variable {X : Cx} {e : Expr} {es : List Expr} {te : TE} {t : TA} {pos : Pos}
theorem pa_nil : PA X [] tNil := fun _ _ _ _ H Q I h => Calls.spliced_nil ⟨[], H, I, .nil, h⟩
theorem pa_cons (ha : PE X e te) (hr : PA X es t) (hs : starEach (e :: es) X.env = (false, eval e X.env) :: starEach es X.env := by rfl) : PA X (e :: es) (tCons te t) := by
  intro pos pins s σ H Q I h
  rw [hs]
  show wpAny _ _ (spliced ((false, eval e X.env) :: backTo pos (starEach es X.env))) _ _ s
  refine Calls.spliced_cons (thn (ha pins s σ H _ I h) fun u s1 ⟨x, H1, I1, r1, q1⟩ => ?_)
  exact thn (hr pos pins s1 σ H1 _ I1 q1) fun us s2 ⟨xs, H2, I2, r2, q2⟩ => ⟨x :: xs, H2, I2, .cons r1 r2, q2⟩

/-- a tuple, a list of written items -/
def tTup (t : TA) : TE := fun σ H Q => t σ H fun xs H1 => xs.length ≤ sizeLine ∧ ∀ p, H1 p = none → Q (.ref p) (upd H1 p (.tup xs))
def tLst (t : TA) : TE := fun σ H Q => t σ H fun xs H1 => xs.length ≤ sizeLine ∧ ∀ p, H1 p = none → Q (.ref p) (upd H1 p (.lst xs))
theorem pe_tup {x1} (h : PA X es t) : PE X (.Tuple es x1 pos) (tTup t) := by
  intro pins s σ H Q I hq
  refine wpAny_Tuple_spliced (thn (h pos pins s σ H _ I hq) fun us s1 ⟨xs, H1, I1, r, z, q⟩ => ⟨by rw [← r.length]; exact z, ?_⟩)
  have hf : H1 s1.heap.objs.size = none := I1.hok.fresh (Nat.le_refl _)
  refine ⟨.ref s1.heap.objs.size, upd H1 s1.heap.objs.size (.tup xs), I1.laid (t' := s1.toks) (fun b u e => Heap.get?_push_of_some _ e) (Nat.le_refl _) ?_, rfl, q _ hf⟩
  exact ⟨z, us, r, ⟨_, Heap.get?_push_size _ rfl, rfl, _, rfl⟩⟩
theorem pe_lst (h : PA X es t) : PE X (.List es pos) (tLst t) := by
  intro pins s σ H Q I hq
  refine wpAny_List_spliced (thn (h pos pins s σ H _ I hq) fun us s1 ⟨xs, H1, I1, r, z, q⟩ => ⟨by rw [← r.length]; exact z, ?_⟩)
  have hf : H1 s1.heap.objs.size = none := I1.hok.fresh (Nat.le_refl _)
  refine ⟨.ref s1.heap.objs.size, upd H1 s1.heap.objs.size (.lst xs), I1.laid (t' := s1.toks) (fun b u e => Heap.get?_push_of_some _ e) (Nat.le_refl _) ?_, rfl, q _ hf⟩
  exact ⟨z, us, 0, r, Heap.get?_push_size _ rfl⟩
end

/-! ### what a def promises -/
/-- a def's promise: the bound arguments in the parameters' order, the heap, the wanted end, the wanted exception -/
abbrev Sp := List V → Hp → VK → XK → Prop
/-- how an exception lies behind a call (file 08 gives it): the callers' frames, abstract heap and state ahead of the call, the wish, the exception, the state -/
abbrev CXT := List Env → Hp → Shared → XK → Value → Shared → Prop

/-- the state at a call -/
structure Env0 (P : Program) (w : World) (K : PySem.W.Frag) (mg : Str → Option Value) (base : Heap) (A : Around) (outer : List Env) (s : Shared) (H : Hp) : Prop where
  frames : A.frames = some outer
  mod : Mod K mg base
  bs : ∀ b o, base.get? b = some o → s.heap.get? b = some o ∧ H b = none
  bsz : base.objs.size ≤ s.heap.objs.size
  funs : s.heap.FunFrames base outer
  frf : ∀ b ∈ frs outer, H b = none
  hok : HOk P w H s.heap
  bare : AllBare s.gens
/-- a call's end -/
def CE (outer : List Env) (P : Program) (w : World) (H : Hp) (s : Shared) (Q : VK) (u : Value) (s' : Shared) : Prop :=
  ∃ v H', s'.os = s.os ∧ AllBare s'.gens ∧ Un (frs outer) [] H H' s.heap s'.heap ∧ HOk P w H' s'.heap ∧ RelV v u ∧ Q v H'
def CR (CX : CXT) (outer : List Env) (P : Program) (w : World) (H : Hp) (s : Shared) (Q : VK) (E : XK) (r : Result) (s' : Shared) : Prop :=
  match r with
  | .ok (.ret u) => CE outer P w H s Q u s'
  | .ok _ => False
  | .error e => CX outer H s E e s'
structure FnOk (P : Program) (w : World) (K : PySem.W.Frag) (mg : Str → Option Value) (base : Heap) (CX : CXT) (k : Nat) (f : Addr) (fd : FuncData) (ps : List Str) (sp : Sp) : Prop where
  len : ∀ vs H Q E, sp vs H Q E → vs.length = ps.length
  run : ∀ (A : Around) (outer : List Env) (s : Shared) (H : Hp) (args : Args) (us : List Value) (vs : List V) (Q : VK) (E : XK), Room k A → Env0 P w K mg base A outer s H → BindsTo s fd args (ps.zip us) → Vals vs us → sp vs H Q E →
    codeAny (model P w) A (.call (.ref f) args) (CR CX outer P w H s Q E) s
theorem FnOk.mono {P : Program} {w : World} {K : PySem.W.Frag} {mg : Str → Option Value} {base : Heap} {CX : CXT} {j k : Nat} {f : Addr} {fd : FuncData} {ps : List Str} {sp : Sp} (F : FnOk P w K mg base CX j f fd ps sp) (h : j ≤ k) :
    FnOk P w K mg base CX k f fd ps sp := ⟨F.len, fun A outer s H args us vs Q E hr => F.run A outer s H args us vs Q E (hr.mono h)⟩
theorem Env0.in1 {P : Program} {w : World} {K : PySem.W.Frag} {mg : Str → Option Value} {base : Heap} {A : Around} {outer : List Env} {s : Shared} {H : Hp} (e : Env0 P w K mg base A outer s H) :
    Env0 P w K mg base A.in1 outer s H := ⟨e.frames, e.mod, e.bs, e.bsz, e.funs, e.frf, e.hok, e.bare⟩

section
variable {X : Cx} {pins : List (Addr × Obj)} {σ : St} {H : Hp} {s s' : Shared}
/-- from a body: what a callee wants -/
theorem Inv.env0 (I : Inv X pins σ H s) : Env0 X.prog X.w X.K X.mg X.base X.A X.stack s H :=
  ⟨I.ok.frames, I.ok.mod, I.bs, Nat.le_trans I.ok.bsz I.sz, I.stack, I.stkFree, I.hok, I.bare⟩
/-- behind a call -/
theorem Inv.after {Q : VK} {u : Value} (I : Inv X pins σ H s) (h : CE X.stack X.prog X.w H s Q u s') : EP X pins σ Q u s' := by
  obtain ⟨v, H', os, bare, un, hok, r, q⟩ := h
  obtain ⟨hh, g, d, t, os'⟩ := s'
  obtain rfl : os' = s.os := os
  exact ⟨v, H', I.call (h' := hh) (g' := g) (d' := d) (t' := t) (ch := []) un hok bare (fun b z => absurd z (by simp)), r, q⟩
end

/-! ### calls -/
/-- f(..): the written arguments, then the defaults dvs; E: what is wanted of an exception -/
def tCall (sp : Sp) (dvs : List V) (E : XK) (t : TA) : TE := fun σ H Q => t σ H fun vs H1 => sp (vs ++ dvs) H1 Q E
/-- how the parameters are bound: us the positional arguments, kw the keywords' values by name, ds the defaults that fill up -/
def Binds (K : PySem.W.Frag) (fd : FuncData) (ps : List Str) (ds : List Value) : Prop :=
  ∀ (s : Shared) (us : List Value), K.In s.heap → (us ++ ds).length = ps.length → BindsTo s fd ⟨us, []⟩ (ps.zip (us ++ ds))
/-- every parameter is given -/
theorem Binds.all {K : PySem.W.Frag} {fd : FuncData} {ps : List Str} (h : ∀ us : List Value, us.length = ps.length → bindArgs fd ⟨us, []⟩ = pure (ps.zip us)) : Binds K fd ps [] := fun s us _ hl => by
  rw [List.append_nil] at hl ⊢
  exact .of_eq (h us hl)

/-- an exception of a callee reaches what this body wants of exceptions -/
def Passes (CX : CXT) (X : Cx) (E : XK) : Prop := ∀ (pins : List (Addr × Obj)) (σ : St) (H : Hp) (s : Shared) (e : Value) (s' : Shared), Inv X pins σ H s → CX X.stack H s E e s' → X.xe e s'

section
variable {X : Cx} {CX : CXT} {k : Nat} {f C : Addr} {fd : FuncData} {ps : List Str} {sp : Sp} {dvs : List V} {ds : List Value} {E : XK} {x m : Str} {p pos apos : Pos} {e o : Expr} {es : List Expr} {ta : TE} {t : TA}

/-- the callee runs -/
theorem run_fn {pins : List (Addr × Obj)} {σ : St} {H : Hp} {s : Shared} {Q : VK} {us : List Value} {vs : List V} (F : FnOk X.prog X.w X.K X.mg X.base CX k f fd ps sp) (hr : Room k X.A) (hb : Binds X.K fd ps ds) (hd : Vals dvs ds) (hx : Passes CX X E)
    (I : Inv X pins σ H s) (r : Vals vs us) (h : sp (vs ++ dvs) H Q E) : wpAny (model X.prog X.w) X.A (call (.ref f) us) (EP X pins σ Q) X.xe s := by
  have r2 : Vals (vs ++ dvs) (us ++ ds) := r.append hd
  have hl : (us ++ ds).length = ps.length := by rw [← r2.length]; exact F.len _ _ _ _ h
  refine wpAny_call (codeAny_mono (F.run X.A X.stack s H ⟨us, []⟩ (us ++ ds) (vs ++ dvs) Q E hr I.env0 (hb s us I.kIn hl) r2 h) fun r s' hq => ?_)
  cases r with
  | error e => exact hx pins σ H s e s' I hq
  | ok fl =>
    cases fl with
    | ret u => exact I.after hq
    | next => exact False.elim hq
    | brk => exact False.elim hq
    | cont => exact False.elim hq

theorem pe_call (F : FnOk X.prog X.w X.K X.mg X.base CX k f fd ps sp) (hr : Room k X.A) (hg : Gl X x) (hm : X.mg x = some (.ref f)) (hk : PySem.W.keepIn X.K (.ref f) = true) (hb : Binds X.K fd ps ds) (hd : Vals dvs ds) (hx : Passes CX X E)
    (ha : PA X (e :: es) t) (hdb : (x == ("__debug__" : Str)) = false := by decide) (he : starEach (e :: es) X.env = (false, eval e X.env) :: starEach es X.env := by rfl) (hpl : (backTo pos (starEach es X.env)).any (·.1) = false := by rfl) :
    PE X (.Call (.Name x p) (e :: es) [] pos) (tCall sp dvs E t) := by
  intro pins s σ H Q I h
  refine wpAny_Call_Name_kw (ld_glob I hg hm ?_ hdb)
  refine PySem.W.callWith_K (h₀ := X.base) I.ok.mod.kin hk (thn (ha pos pins s σ H _ I h) fun us s1 ⟨vs, H1, I1, r, q⟩ => ⟨I1.kIn, ?_⟩) he hpl
  exact run_fn F hr hb hd hx I1 r q
/-- what a class must have to be made -/
structure Mk (K : PySem.W.Frag) (C f : Addr) : Prop where
  makes : PySem.W.makesIn K C = true
  init : PySem.W.findIn K (.ref C) "__init__" = some (some (.ref f))
  fn : PySem.W.isFn K (.ref f) = true
  kp : PySem.W.keepIn K (.ref C) = true

end

/-! ### keywords -/
section
variable {X : Cx} {CX : CXT} {k : Nat} {f C : Addr} {fd : FuncData} {ps ks : List Str} {sp : Sp} {E : XK} {x m : Str} {p pos apos kpos : Pos} {e o : Expr} {es : List Expr} {kws : List Keyword} {te ta : TE} {t tk : TA} {nm : Option Str}
/-- how a call with keywords binds: g puts the positional values us and the keywords' values ws (names ks) in the parameters' order, defaults among them -/
structure KBinds (K : PySem.W.Frag) (fd : FuncData) (ps ks : List Str) (g : List Value → List Value → List Value) (gV : List V → List V → List V) : Prop where
  to : ∀ (s : Shared) (us ws : List Value), K.In s.heap → (g us ws).length = ps.length → BindsTo s fd ⟨us, ks.zip ws⟩ (ps.zip (g us ws))
  rel : ∀ {vs : List V} {us : List Value} {zs : List V} {ws : List Value}, Vals vs us → Vals zs ws → Vals (gV vs zs) (g us ws)
variable {g : List Value → List Value → List Value} {gV : List V → List V → List V}
end

/-! ### a def's body keeps its promise -/
/-- names: the parameters first -/
structure FnScope (N P : List Str) (sc : Scope) : Prop where
  kind : sc.kind = .function
  co : sc.isCoroutine = false
  gen : sc.isGenerator = false
  nd : N.Nodup
  pre : N.take P.length = P
  par : ∀ x ∈ P, sc.names.lookup x = some .local ∨ sc.names.lookup x = some .cell
  nofree : ∀ y ∈ sc.names, y.2 ≠ .free

theorem bindL_out {kindOf : Str → Option NameKind} {x : Str} : ∀ {binds : List (Str × Value)} {m : Str → Option Value}, (∀ v, (x, v) ∉ binds) → bindL kindOf binds m x = m x
  | [], _, _ => rfl
  | (n, v) :: r, m, h => by
    unfold bindL
    rw [bindL_out fun w hw => h w (List.mem_cons_of_mem _ hw)]
    split
    · have : x ≠ n := by rintro rfl; exact h v List.mem_cons_self
      simp [this]
    · rfl
theorem bindC_out {kindOf : Str → Option NameKind} {x : Str} : ∀ {binds : List (Str × Value)} {m : Str → Option Value}, (∀ v, (x, v) ∉ binds) → bindC kindOf binds m x = m x
  | [], _, _ => rfl
  | (n, v) :: r, m, h => by
    unfold bindC
    rw [bindC_out fun w hw => h w (List.mem_cons_of_mem _ hw)]
    split
    · rfl
    · have : x ≠ n := by rintro rfl; exact h v List.mem_cons_self
      simp [this]
theorem bindL_get {kindOf : Str → Option NameKind} {x : Str} {v : Value} : ∀ {P : List Str} {vs : List Value} {i : Nat} {m : Str → Option Value}, P.Nodup → P[i]? = some x → vs[i]? = some v → kindOf x = some .local →
    bindL kindOf (P.zip vs) m x = some v
  | [], _, _, _, _, h, _, _ => by simp at h
  | _ :: _, [], _, _, _, _, h, _ => by simp at h
  | p :: P, w :: vs, 0, m, nd, h1, h2, hk => by
    simp at h1 h2; subst h1; subst h2
    show bindL kindOf ((p, w) :: P.zip vs) m p = _
    unfold bindL
    rw [bindL_out fun v hv => (List.nodup_cons.mp nd).1 (List.of_mem_zip hv).1, if_pos hk]
    simp
  | p :: P, w :: vs, i + 1, m, nd, h1, h2, hk => by
    show bindL kindOf ((p, w) :: P.zip vs) m x = _
    unfold bindL
    exact bindL_get (i := i) (List.nodup_cons.mp nd).2 (by simpa using h1) (by simpa using h2) hk
theorem bindC_get {kindOf : Str → Option NameKind} {x : Str} {v : Value} : ∀ {P : List Str} {vs : List Value} {i : Nat} {m : Str → Option Value}, P.Nodup → P[i]? = some x → vs[i]? = some v → kindOf x ≠ some .local →
    bindC kindOf (P.zip vs) m x = some v
  | [], _, _, _, _, h, _, _ => by simp at h
  | _ :: _, [], _, _, _, _, h, _ => by simp at h
  | p :: P, w :: vs, 0, m, nd, h1, h2, hk => by
    simp at h1 h2; subst h1; subst h2
    show bindC kindOf ((p, w) :: P.zip vs) m p = _
    unfold bindC
    rw [bindC_out fun v hv => (List.nodup_cons.mp nd).1 (List.of_mem_zip hv).1, if_neg hk]
    simp
  | p :: P, w :: vs, i + 1, m, nd, h1, h2, hk => by
    show bindC kindOf ((p, w) :: P.zip vs) m x = _
    unfold bindC
    exact bindC_get (i := i) (List.nodup_cons.mp nd).2 (by simpa using h1) (by simpa using h2) hk

/-- the names' values at the entry -/
def start (N : List Str) (vs : List V) : St := vs.map some ++ List.replicate (N.length - vs.length) none

/-- the context of a def's body, at its entry; an exception leaves the frame, then lies as CX says -/
def cxOf (CX : CXT) (P : Program) (w : World) (K : PySem.W.Frag) (mg : Str → Option Value) (base : Heap) (N : List Str) (qual : Str) (scope : Scope) (f : Addr) (cd : Value) (A : Around) (outer : List Env) (s : Shared) (H : Hp) (E : XK) : Cx where
  prog := P
  w := w
  K := K
  mg := mg
  base := base
  A := A.deeper (envOfC qual scope s.heap.objs.size f cd)
  N := N
  s₀ := s
  H₀ := H
  env := envOfC qual scope s.heap.objs.size f cd
  outer := outer
  stack := envOfC qual scope s.heap.objs.size f cd :: outer
  ex := []
  calm := true
  fn := fun _ => true
  pn := []
  xe := fun e s' => wpAny (model P w) (A.deeper (envOfC qual scope s.heap.objs.size f cd)) (leaving (envOfC qual scope s.heap.objs.size f cd) e) (fun _ s'' => CX outer H s E e s'') (fun e' s'' => CX outer H s E e' s'') s'

theorem cell_has {sc : Scope} {n : Nat} {x : Str} (h : sc.names.lookup x = some .cell) : ∃ c, (cellsFrom n sc.names []).lookup x = some c := by
  have q := PySem.W.cellsFrom_some sc.names n [] (.inl h)
  exact Option.isSome_iff_exists.mp q

theorem inv_start {CX : CXT} {P : Program} {w : World} {K : PySem.W.Frag} {mg : Str → Option Value} {base : Heap} {N ps : List Str} {qual : Str} {scope : Scope} {f : Addr} {cd : Value} {A : Around} {outer : List Env} {s s1 : Shared} {H : Hp} {E : XK} {us : List Value} {vs : List V}
    (S : FnScope N ps scope) (hd : A.handled = none) (e0 : Env0 P w K mg base A outer s H) (hl : vs.length = ps.length) (r : Vals vs us)
    (x : InCallC s s.heap.objs.size (bindL (envOfC qual scope s.heap.objs.size f cd).kindOf (ps.zip us) fun _ => none) (cellsFrom (s.heap.objs.size + 1) scope.names []) (bindC (envOfC qual scope s.heap.objs.size f cd).kindOf (ps.zip us) fun _ => none) s1) :
    Inv (cxOf CX P w K mg base N qual scope f cd A outer s H E) [] (start N vs) H s1 := by
  have hpl : ps.length ≤ N.length := by have := congrArg List.length S.pre; rw [List.length_take] at this; omega
  obtain ⟨h1, tk, rfl, hk⟩ := x.done
  have noA : ∀ b : Addr, b ∉ (cxOf CX P w K mg base N qual scope f cd A outer s H E).ex := fun b z => absurd (show b ∈ ([] : List Addr) from z) (by simp)
  refine ⟨⟨e0.mod, S.kind, rfl, rfl, Nat.le_refl _, fun y z c h1 h2 => ?_, fun y hy => ?_, fun y c _ h => ?_, fun _ => hd, Around.frames_deeper e0.frames, .inr ⟨rfl, rfl⟩, fun b z => absurd z (noA b), e0.bs, e0.bsz, fun b _ _ => noA b, fun b z => absurd z (noA b), e0.funs, e0.frf⟩,
    rfl, e0.bare, Un.kept hk, ⟨_, x.toInCall.ns, fun i y v h1 h2 h3 => ?_⟩, fun y c h => ⟨_, x.cell y c h⟩, e0.hok.fresh (Nat.le_refl _), fun y c h => ?_, fun p hp => absurd (show p ∈ ([] : List (Addr × Obj)) from hp) (by simp), e0.hok.kept hk, ?_⟩
  · exact name_of_addr x.apart (PySem.mem_of_lookup h1) (PySem.mem_of_lookup h2)
  · have hy : scope.names.lookup y = some .cell ∨ scope.names.lookup y = some .free := hy
    rcases hy with hy | hy
    · exact cell_has hy
    · exact absurd rfl (S.nofree _ (PySem.mem_of_lookup hy))
  · exact Nat.le_of_lt (x.above y c (PySem.mem_of_lookup h))
  · have hi : i < vs.length := by
      unfold start at h2
      by_cases hi : i < vs.length
      · exact hi
      · rw [List.getElem?_append_right (by simpa using hi)] at h2
        rw [List.getElem?_replicate] at h2
        split at h2 <;> cases h2
    have ha : vs[i]? = some v := by
      unfold start at h2
      rw [List.getElem?_append_left (by simpa using hi), List.getElem?_map] at h2
      cases e : vs[i]? with
      | none => rw [e] at h2; cases h2
      | some a => rw [e] at h2; cases h2; rfl
    obtain ⟨u, hu, rv⟩ := r.get ha
    have hp : ps[i]? = some y := by
      rw [← S.pre, List.getElem?_take_of_lt (by omega)]; exact h1
    have ndP : ps.Nodup := by rw [← S.pre]; exact S.nd.sublist (List.take_sublist _ _)
    refine ⟨u, rv, ?_⟩
    rcases S.par y (List.mem_of_getElem? hp) with k | k
    · exact .inl ⟨k, bindL_get ndP hp hu k⟩
    · obtain ⟨c, e⟩ := cell_has (n := s.heap.objs.size + 1) k
      refine .inr ⟨.inl k, c, e, ?_⟩
      have q := x.cell y c e
      rw [bindC_get ndP hp hu (by show scope.names.lookup y ≠ _; rw [k]; decide)] at q
      exact q
  · exact e0.hok.fresh (Nat.le_of_lt (x.above y c (PySem.mem_of_lookup h)))
  · unfold start
    show _ = N.length
    rw [List.length_append, List.length_map, List.length_replicate]
    omega

/-- THE RULE: a def (or a method) of the text, by its body. The body's reading t is chosen for each entry; it is run at the parameters' values -/
theorem fn_of {CX : CXT} {P : Program} {w : World} {K : PySem.W.Frag} {mg : Str → Option Value} {base : Heap} {k : Nat} {f : Addr} {name qual : Str} {params : Arguments} {body : List Stmt} {scope : Scope} {dV kV doc pm cdv ct oc : Value} {an od : Option Addr}
    {osl : Array (Option Value)} {N ps : List Str} {sp : Sp} (lk : K.lookup f = some ⟨oc, od, .func (PySem.W.fnOf name qual params body scope dV kV doc pm an cdv ct), osl⟩) (hcd : PySem.W.codeIn K cdv qual = true) (S : FnScope N ps scope)
    (len : ∀ vs H Q E, sp vs H Q E → vs.length = ps.length)
    (hbody : ∀ (A : Around) (outer : List Env) (s : Shared) (H : Hp) (vs : List V) (Q : VK) (E : XK), Room k (A.deeper (envOfC qual scope s.heap.objs.size f cdv)) → sp vs H Q E →
      ∃ t, PSs (cxOf CX P w K mg base N qual scope f cdv A outer s H E) body t ∧ t { nx := fun _ H' => Q .non H', rt := Q } (start N vs) H) :
    FnOk P w K mg base CX (k + 1) f (PySem.W.fnOf name qual params body scope dV kV doc pm an cdv ct) ps sp := by
  refine ⟨len, fun A outer s H args us vs Q E hr e0 hb r hsp => ?_⟩
  have hl := len _ _ _ _ hsp
  have KX : K.In s.heap := e0.mod.kin.keeps fun b o e => (e0.bs b o e).1
  have lim : s.heap.NoLimit := e0.mod.nolimit.keeps fun b o e => (e0.bs b o e).1
  have hkind : ∀ y ∈ ps.zip us, scope.names.lookup y.1 = some .local ∨ (scope.names.lookup y.1 = some .cell ∧ ((cellsFrom (s.heap.objs.size + 1) scope.names []).lookup y.1).isSome = true) := fun ⟨n, v⟩ hy => by
    rcases S.par n (List.of_mem_zip hy).1 with q | q
    · exact .inl q
    · exact .inr ⟨q, PySem.W.cellsFrom_some _ _ _ (.inl q)⟩
  refine codeAny_call_function hr.depth (KX _ _ lk) rfl S.co S.gen rfl (PySem.W.codeRec_of KX hcd) (hb _ _ _ _ ?_)
  refine wpAny_newFunctionEnv_cells S.kind hkind fun env he s1 x => ?_
  subst he
  refine ⟨lim.keeps x.toInCall.keep, codeAny_func ?_⟩
  obtain ⟨t, ht, hq⟩ := hbody A outer s H vs Q E (hr.deeper _) hsp
  have I : Inv (cxOf CX P w K mg base N qual scope f cdv A outer s H E) [] (start N vs) H s1 := inv_start S hr.hd e0 hl r x
  refine wpAny_mono (ht [] s1 (start N vs) H _ I hq) (fun fl s' hs => ?_) fun e s' hs => hs
  have fin : ∀ {σ' : St} {H' : Hp} {v : V} {u : Value}, Inv (cxOf CX P w K mg base N qual scope f cdv A outer s H E) [] σ' H' s' → RelV v u → Q v H' → CE outer P w H s Q u s' :=
    fun {σ' H' v u} J rv q => ⟨v, H', J.os, J.bare, J.base, J.hok, rv, q⟩
  cases fl with
  | ret u =>
    obtain ⟨v, σ', H', J, rv, q⟩ := hs
    exact fin J rv q
  | next =>
    obtain ⟨σ', H', J, q⟩ := hs
    exact fin (v := V.non) (u := Value.none) J rfl q
  | brk =>
    obtain ⟨_, _, _, q⟩ := hs
    exact False.elim q
  | cont =>
    obtain ⟨_, _, _, q⟩ := hs
    exact False.elim q
end L2

namespace L2
open PySem PySem.Spec PyProof.Rows
section
variable {X : Cx} {x : Str} {p pos : Pos} {e : Expr} {es : List Expr} {t : TA} {id T : String} {r : List V → Hp → VK → Prop}

def tCB (r : List V → Hp → VK → Prop) (t : TA) : TE := fun σ H Q => t σ H fun vs H1 => r vs H1 Q
/-- f(e, ..), f a built-in function -/
theorem pe_callB (hc : CallR X (.builtin id) r) (hg : Gl X x) (hm : X.mg x = none) (hv : bootBuiltins x = some (.builtin id)) (ha : PA X (e :: es) t) (hn : x ≠ "__name__" := by decide) (hdb : (x == ("__debug__" : Str)) = false := by decide)
    (he : starEach (e :: es) X.env = (false, eval e X.env) :: starEach es X.env := by rfl) (hpl : (backTo pos (starEach es X.env)).any (·.1) = false := by rfl) : PE X (.Call (.Name x p) (e :: es) [] pos) (tCB r t) := by
  intro pins s σ H Q I h
  refine wpAny_Call_Name_kw (ld_blt I hg hm hv ?_ hn hdb)
  exact PyProof.Rows.callWith_builtin1 (thn (ha pos pins s σ H _ I h) fun us s1 ⟨vs, H1, I1, r1, q1⟩ => hc pins s1 σ H1 vs us Q I1 r1 q1) he hpl
end
end L2

namespace L2
open PySem PySem.Spec PyProof.Rows

/-! ### lists of pairs as tables -/
section
variable {κ : Type} [DecidableEq κ]
def valV (kvs : List (κ × V)) (k : κ) : Option V := (kvs.find? fun kv => decide (kv.1 = k)).map (·.2)
/-- in its place, or at the end -/
def putK (kvs : List (κ × V)) (k : κ) (v : V) : List (κ × V) :=
  if (kvs.any fun kv => decide (kv.1 = k)) = true then kvs.map (fun kv => if kv.1 = k then (kv.1, v) else kv) else kvs ++ [(k, v)]
def dropK (kvs : List (κ × V)) (k : κ) : List (κ × V) := kvs.filter fun kv => decide (kv.1 ≠ k)

theorem valV_pos {p : κ × V} {r : List (κ × V)} {k : κ} (e : p.1 = k) : valV (p :: r) k = some p.2 := by simp [valV, List.find?_cons, e]
theorem valV_neg {p : κ × V} {r : List (κ × V)} {k : κ} (e : ¬ p.1 = k) : valV (p :: r) k = valV r k := by simp [valV, List.find?_cons, e]
theorem RelO.getD {o : Option V} {u : Option Value} {d : V} {d' : Value} (r : RelO o u) (rd : RelV d d') : RelV (o.getD d) (u.getD d') := by
  cases o with
  | none => cases u with
    | none => exact rd
    | some _ => exact (show False from r).elim
  | some _ => cases u with
    | none => exact (show False from r).elim
    | some _ => exact r

/-- raw tables of the same keys -/
theorem KV.val {kvs : List (κ × V)} {vs : List (κ × Value)} (r : KV kvs vs) (k : κ) : RelO (valV kvs k) (valueAt vs k) := by
  unfold KV at r
  induction r with
  | nil => exact True.intro
  | @cons p q ps qs h t ih =>
    obtain ⟨h1, h2⟩ := h
    by_cases e : p.1 = k
    · have e' : q.1 = k := h1.symm.trans e
      have b : valueAt (q :: qs) k = some q.2 := by simp [valueAt, List.find?_cons, e']
      rw [valV_pos e, b]; exact h2
    · have e' : ¬ q.1 = k := fun z => e (h1.trans z)
      have b : valueAt (q :: qs) k = valueAt qs k := by simp [valueAt, List.find?_cons, e']
      rw [valV_neg e, b]; exact ih
theorem KV.any {kvs : List (κ × V)} {vs : List (κ × Value)} (r : KV kvs vs) (k : κ) : (kvs.any fun kv => decide (kv.1 = k)) = vs.any fun kv => decide (kv.1 = k) := by
  unfold KV at r
  induction r with
  | nil => rfl
  | cons h t ih => rw [List.any_cons, List.any_cons, ih, h.1]
theorem KV.drop {kvs : List (κ × V)} {vs : List (κ × Value)} (r : KV kvs vs) (k : κ) : KV (dropK kvs k) (without vs k) := by
  unfold KV at r ⊢
  unfold dropK without
  induction r with
  | nil => exact .nil
  | @cons p q ps qs h t ih =>
    obtain ⟨h1, h2⟩ := h
    rw [List.filter_cons, List.filter_cons]
    by_cases e : p.1 = k
    · have a : ¬ decide (p.1 ≠ k) = true := by simp [e]
      have b : ¬ decide (q.1 ≠ k) = true := by simp [h1.symm.trans e]
      rw [if_neg a, if_neg b]; exact ih
    · have e' : ¬ q.1 = k := fun z => e (h1.trans z)
      have a : decide (p.1 ≠ k) = true := by simp [e]
      have b : decide (q.1 ≠ k) = true := by simp [e']
      rw [if_pos a, if_pos b]; exact .cons ⟨h1, h2⟩ ih
theorem KV.keys {kvs : List (κ × V)} {vs : List (κ × Value)} (r : KV kvs vs) : kvs.map (·.1) = vs.map (·.1) := by
  unfold KV at r
  induction r with
  | nil => rfl
  | cons h t ih => rw [List.map_cons, List.map_cons, ih, h.1]
theorem KV.length {kvs : List (κ × V)} {vs : List (κ × Value)} (r : KV kvs vs) : kvs.length = vs.length := Paired.length r
end


/-! ### a tracked dict, its keys ints and texts or tuples of these -/
theorem kV_is {P : Program} {w : World} {k : Key} {u : Value} (r : RelV (kV k) u) : (mixKind P w).is k u = true := by
  cases k with
  | inl i => obtain ⟨t, e⟩ := (show ∃ t, u = Value.int i t from r); subst e; exact mixKind_int P w i t
  | inr x => obtain ⟨t, e⟩ := (show ∃ t, u = Value.str x t from r); subst e; exact mixKind_str P w x t
/-- raw entries of a dict with tuple keys -/
abbrev KT (H : Hp) : List (List Key × V) → List (List Key × Addr × Value) → Prop := Paired fun p q => p.1 = q.1 ∧ H q.2.1 = some (.tup (p.1.map kV)) ∧ RelV p.2 q.2.2
theorem KT.val {H : Hp} {kvs : List (List Key × V)} {xs : List (List Key × Addr × Value)} (r : KT H kvs xs) (k : List Key) : RelO (valV kvs k) ((atKey xs k).map (·.2)) := by
  induction r with
  | nil => exact True.intro
  | @cons p q ps qs h t ih =>
    obtain ⟨h1, _, h2⟩ := h
    by_cases e : p.1 = k
    · have e' : q.1 = k := h1.symm.trans e
      have b : atKey (q :: qs) k = some q.2 := by simp [atKey, List.find?_cons, e']
      rw [valV_pos e, b]; exact h2
    · have e' : ¬ q.1 = k := fun z => e (h1.trans z)
      have b : atKey (q :: qs) k = atKey qs k := by simp [atKey, List.find?_cons, e']
      rw [valV_neg e, b]; exact ih
theorem KT.keeps {H H' : Hp} {kvs : List (List Key × V)} {xs : List (List Key × Addr × Value)} (r : KT H kvs xs) (ht : ∀ b ys, H b = some (.tup ys) → H' b = some (.tup ys)) : KT H' kvs xs :=
  Paired.mapP r fun _ _ z => ⟨z.1, ht _ _ z.2.1, z.2.2⟩

section
variable {P : Program} {w : World} {H : Hp} {h : Heap} {a : Addr}
end

/-- what the dict at a holds at the key y -/
def DGet (H : Hp) (a : Addr) (y : V) (r : Option V) : Prop :=
  (∃ kvs k, Rd H a (.dK kvs) ∧ y = kV k ∧ r = valV kvs k) ∨ ∃ kvs k b, Rd H a (.dT kvs) ∧ y = .ref b ∧ H b = some (.tup (k.map kV)) ∧ r = valV kvs k
/-- the heap behind a[y] = v -/
def DPut (H : Hp) (a : Addr) (y v : V) (H' : Hp) : Prop :=
  (∃ kvs k, H a = some (.dK kvs) ∧ y = kV k ∧ kvs.length < sizeLine ∧ H' = upd H a (.dK (putK kvs k v))) ∨
  ∃ kvs k b, H a = some (.dT kvs) ∧ y = .ref b ∧ H b = some (.tup (k.map kV)) ∧ kvs.length < sizeLine ∧ H' = upd H a (.dT (putK kvs k v))
theorem DGet.k {H : Hp} {a : Addr} {kvs : List (Key × V)} {k : Key} (e : H a = some (.dK kvs)) : DGet H a (kV k) (valV kvs k) := .inl ⟨kvs, k, .inl e, rfl, rfl⟩
theorem DGet.t {H : Hp} {a b : Addr} {kvs : List (List Key × V)} {k : List Key} (e : H a = some (.dT kvs)) (eb : H b = some (.tup (k.map kV))) : DGet H a (.ref b) (valV kvs k) := .inr ⟨kvs, k, b, .inl e, rfl, eb, rfl⟩
theorem DPut.k {H : Hp} {a : Addr} {kvs : List (Key × V)} {k : Key} {v : V} (e : H a = some (.dK kvs)) (hl : kvs.length < sizeLine) : DPut H a (kV k) v (upd H a (.dK (putK kvs k v))) := .inl ⟨kvs, k, e, rfl, hl, rfl⟩
theorem DPut.t {H : Hp} {a b : Addr} {kvs : List (List Key × V)} {k : List Key} {v : V} (e : H a = some (.dT kvs)) (eb : H b = some (.tup (k.map kV))) (hl : kvs.length < sizeLine) :
    DPut H a (.ref b) v (upd H a (.dT (putK kvs k v))) := .inr ⟨kvs, k, b, e, rfl, eb, hl, rfl⟩


section
variable {X : Cx} {pins : List (Addr × Obj)} {σ : St} {H : Hp} {s : Shared} {a : Addr} {y v : V} {u r : Value} {o : Option V} {A : Around} {E : Value → Shared → Prop}

end

section
variable {X : Cx} {pins : List (Addr × Obj)} {σ : St} {H : Hp} {s : Shared} {a : Addr} {kvs : List (Key × V)} {k : Key} {u : Value} {A : Around} {E : Value → Shared → Prop}
end


/-! ### readings and rules -/
section
variable {X : Cx} {o i e value : Expr} {pos pos' tpos : Pos} {td ty tv : TE}
end


/-! ### displays -/
section
variable {X : Cx} {pos : Pos}
end

/-! ### methods -/
/-- a method call o.m(e) of a built-in, with one argument: what must be seen of the text -/
structure M1 (X : Cx) (o : Expr) (m : Str) (apos : Pos) (e : Expr) (cpos : Pos) : Prop where
  base : attributeBase o m X.env (eval o X.env) = eval o X.env
  few : ((backTo cpos (starEach [e] X.env)).all (fun x => !x.1) && (backToKw cpos (keywordEach [] X.env)).all (fun x => x.1.isSome)
    && decide (([e] : List Expr).length + ([] : List Keyword).length + (if ([] : List Keyword).isEmpty then 0 else 1) < 30)) = true
  line : (apos.endLine == cpos.line) = true
  trees : backTo cpos (starEach [e] X.env) = [(false, eval e X.env)]
structure M2 (X : Cx) (o : Expr) (m : Str) (apos : Pos) (e f : Expr) (cpos : Pos) : Prop where
  base : attributeBase o m X.env (eval o X.env) = eval o X.env
  few : ((backTo cpos (starEach [e, f] X.env)).all (fun x => !x.1) && (backToKw cpos (keywordEach [] X.env)).all (fun x => x.1.isSome)
    && decide (([e, f] : List Expr).length + ([] : List Keyword).length + (if ([] : List Keyword).isEmpty then 0 else 1) < 30)) = true
  line : (apos.endLine == cpos.line) = true
  trees : backTo cpos (starEach [e, f] X.env) = [(false, eval e X.env), (false, eval f X.env)]

section
variable {X : Cx} {pins : List (Addr × Obj)} {σ : St} {H : Hp} {s : Shared} {a : Addr} {y d : V} {u r : Value} {o : Option V} {A : Around} {E : Value → Shared → Prop}
end

section
variable {X : Cx} {o e f : Expr} {apos cpos : Pos} {td ty tx : TE}
end

/-! ### dict(d): a copy -/
section
variable {X : Cx} {pins : List (Addr × Obj)} {σ : St} {H : Hp} {s : Shared} {a : Addr} {kvs : List (Key × V)} {A : Around} {E : Value → Shared → Prop}
end


section
variable {X : Cx} {pins : List (Addr × Obj)} {σ : St} {H : Hp} {s : Shared} {a : Addr} {y : V} {u : Value} {A : Around} {E : Value → Shared → Prop}
end
end L2

namespace HT
open PySem PyProof.Rows

section
open PySem.SeqAt
open PySem.AutoSeq1 (wpAny_loadPart')
open PySem.MeetsSeq PySem.MeetsSeq2 PySem.MeetsSeq3

end

section
variable {prog : Program} {w : World} {A : Around} {E : Value → Shared → Prop} {s : Shared}

/-! ### t[a:b], not the whole -/
/-- a slice's bound as a place among n (d where it is left out) -/
def sIx (n d : Nat) : Option Int → Nat
  | none => d
  | some v => if v < 0 then (v + (n : Int)).toNat else min v.toNat n
theorem sIx_none (n d : Nat) : sIx n d none = d := rfl
theorem sIx_nat (n d k : Nat) : sIx n d (some (k : Int)) = min k n := by
  show (if (k : Int) < 0 then ((k : Int) + (n : Int)).toNat else min (k : Int).toNat n) = min k n
  rw [if_neg (by omega), Int.toNat_natCast]
end
end HT

namespace L2
open PySem PySem.Spec PyProof.Rows

/-! ### the parts of a slice -/
abbrev TO := St → Hp → (Option Int → Hp → Prop) → Prop
/-- a slice's part (left out, or an int) -/
def PO (X : Cx) (e : Option Expr) (t : TO) : Prop :=
  ∀ (pins : List (Addr × Obj)) (s : Shared) (σ : St) (H : Hp) (Q : Option Int → Hp → Prop), Inv X pins σ H s → t σ H Q →
    wpAny (model X.prog X.w) X.A (evalPart e X.env) (fun u s' => ∃ o H', Inv X pins σ H' s' ∧ IsPart u o ∧ Q o H') X.xe s
def tNoPart : TO := fun _ H Q => Q none H
def tPart (t : TE) : TO := fun σ H Q => t σ H fun x H1 => ∃ i, x = .int i ∧ Q (some i) H1

theorem intsAre_of {ns : List Int} : ∀ {us : List Value}, Vals (ns.map V.int) us → IntsAre us ns := by
  induction ns with
  | nil => intro us r; rw [List.map_nil] at r; cases r; exact .nil
  | cons n ns ih =>
    intro us r
    rw [List.map_cons] at r
    cases r with
    | cons r1 r2 =>
      obtain ⟨t, e⟩ := r1
      subst e
      exact .cons n t (ih r2)

section
variable {X : Cx} {e : Expr} {te : TE} {lo hi : Option Expr} {tl th : TO} {pos p2 : Pos}

theorem po_none : PO X none tNoPart := by
  intro pins s σ H Q I h
  rw [evalPart_none]
  exact wpAny_pure ⟨none, H, I, .none, h⟩
theorem po_some (h : PE X e te) : PO X (some e) (tPart te) := by
  intro pins s σ H Q I hw
  rw [evalPart_some]
  refine thn (h pins s σ H _ I hw) fun u s1 ⟨x, H1, I1, r1, q1⟩ => ?_
  obtain ⟨i, rfl, q⟩ := q1
  obtain ⟨t, rfl⟩ := r1
  exact ⟨some i, H1, I1, .int i t, q⟩

/-- what a slice of a value is, by values: the slice object stands at sl -/
def SlR (X : Cx) (r : V → Option Int → Option Int → Hp → VK → Prop) : Prop :=
  ∀ (pins : List (Addr × Obj)) (s : Shared) (σ : St) (H : Hp) (x : V) (v vl vu : Value) (lo hi : Option Int) (sl : Addr) (Q : VK), Inv X pins σ H s → RelV x v → s.heap.IsSliceOf sl vl vu .none → IsPart vl lo → IsPart vu hi → r x lo hi H Q →
    ∃ T id, typeLookup (.type T) "__getitem__" = pure (some (.builtin id)) ∧ s.TypeIs v T ∧ wpAny (model X.prog X.w) X.A (getItem v (.ref sl)) (EP X pins σ Q) X.xe s
theorem SlR.or {r r' : V → Option Int → Option Int → Hp → VK → Prop} (h : SlR X r) (h' : SlR X r') : SlR X (fun x lo hi H Q => r x lo hi H Q ∨ r' x lo hi H Q) := by
  intro pins s σ H x v vl vu lo hi sl Q I rx hs pl pu q
  rcases q with q | q
  · exact h pins s σ H x v vl vu lo hi sl Q I rx hs pl pu q
  · exact h' pins s σ H x v vl vu lo hi sl Q I rx hs pl pu q
def tSl (r : V → Option Int → Option Int → Hp → VK → Prop) (te : TE) (tl th : TO) : TE := fun σ H Q => te σ H fun x H1 => tl σ H1 fun l H2 => th σ H2 fun u H3 => r x l u H3 Q
/-- a[lo:hi], any a -/
theorem pe_slice {r : V → Option Int → Option Int → Hp → VK → Prop} (hr : SlR X r) (he : PE X e te) (hl : PO X lo tl) (hu : PO X hi th) : PE X (.Subscript e (.Slice lo hi none p2) pos) (tSl r te tl th) := by
  intro pins s σ H Q I h
  refine Subscript_ (thn (he pins s σ H _ I h) fun v s1 ⟨x, H1, I1, r1, q1⟩ => ?_)
  refine wpAny_Slice (thn (hl pins s1 σ H1 _ I1 q1) fun vl s2 ⟨l, H2, I2, pl, q2⟩ => thn (hu pins s2 σ H2 _ I2 q2) fun vu s3 ⟨u, H3, I3, pu, q3⟩ => ?_)
  rw [evalPart_none]
  refine wpAny_pure ?_
  have I4 : Inv X pins σ H3 { s3 with heap := s3.heap.push { cls := .type "slice", data := .fields #[vl, vu, .none] } } := I3.kept (t' := s3.toks) fun b ob q => Heap.get?_push_of_some _ q
  obtain ⟨T, id, hT, ht, hg⟩ := hr pins { s3 with heap := s3.heap.push { cls := .type "slice", data := .fields #[vl, vu, .none] } } σ H3 x v vl vu l u s3.heap.objs.size Q I4 r1 (Heap.IsSliceOf.new ..) pl pu q3
  show wpAny (model X.prog X.w) X.A (subscriptTail e (.Slice lo hi none p2) v (.ref s3.heap.objs.size)) (EP X pins σ Q) X.xe { s3 with heap := s3.heap.push { cls := .type "slice", data := .fields #[vl, vu, .none] } }
  exact tail_any (ops := [.ref s3.heap.objs.size, v]) ht hT hg (by with_unfolding_all rfl)

/-- the items of xs[lo:hi] -/
def cutV (xs : List V) (lo hi : Option Int) : List V := (xs.drop (HT.sIx xs.length 0 lo)).take (HT.sIx xs.length xs.length hi - HT.sIx xs.length 0 lo)
theorem cutV_length (xs : List V) (lo hi : Option Int) : (cutV xs lo hi).length ≤ xs.length := by
  unfold cutV
  rw [List.length_take, List.length_drop]
  omega
/-! ### t < u, t + u -/
end
end L2

namespace L2
open PySem PySem.Spec PyProof.Rows

/-! ### places -/
/-- the place that an index of any sign means -/
def ixN (n : Nat) (i : Int) : Option Nat := if 0 ≤ i then (if i < n then some i.toNat else none) else if -(n : Int) ≤ i then some (i + n).toNat else none
def atI {α : Type} (xs : List α) (i : Int) : Option α := (ixN xs.length i).bind fun j => xs[j]?
theorem ixN_seq {n : Nat} {i : Int} {j : Nat} (h : ixN n i = some j) : seqIndex? i n = some j ∧ j < n ∧ -(n : Int) ≤ i ∧ i < n := by
  unfold ixN at h
  by_cases h0 : 0 ≤ i
  · rw [if_pos h0] at h
    by_cases h1 : i < n
    · rw [if_pos h1] at h
      have e : i.toNat = j := Option.some.inj h
      exact ⟨by rw [seqIndex_of h0 h1, e], by omega, by omega, h1⟩
    · rw [if_neg h1] at h; cases h
  · rw [if_neg h0] at h
    by_cases h1 : -(n : Int) ≤ i
    · rw [if_pos h1] at h
      have e : (i + n).toNat = j := Option.some.inj h
      exact ⟨by rw [seqIndex_neg (by omega) h1, e], by omega, h1, by omega⟩
    · rw [if_neg h1] at h; cases h
theorem atI_get {α : Type} {xs : List α} {i : Int} {v : α} (h : atI xs i = some v) : ∃ j, seqIndex? i xs.length = some j ∧ xs[j]? = some v ∧ j < xs.length ∧ -(xs.length : Int) ≤ i ∧ i < xs.length := by
  unfold atI at h
  cases e : ixN xs.length i with
  | none => rw [e] at h; cases h
  | some j =>
    rw [e] at h
    obtain ⟨h1, h2, h3, h4⟩ := ixN_seq e
    exact ⟨j, h1, h, h2, h3, h4⟩
theorem atI_nat {α : Type} {xs : List α} {j : Nat} {v : α} (h : xs[j]? = some v) : atI xs (j : Int) = some v := by
  have hj : j < xs.length := (List.getElem?_eq_some_iff.mp h).1
  have e : ixN xs.length (j : Int) = some j := by
    unfold ixN
    rw [if_pos (by omega), if_pos (by omega)]; simp
  unfold atI; rw [e]; exact h
theorem atI_last {α : Type} (xs : List α) (v : α) : atI (xs ++ [v]) (-1) = some v := by
  have hl : (xs ++ [v]).length = xs.length + 1 := by simp
  have e : ixN (xs ++ [v]).length (-1) = some xs.length := by
    unfold ixN
    rw [hl, if_neg (by decide), if_pos (by omega)]
    congr 1
    omega
  unfold atI
  rw [e]
  show (xs ++ [v])[xs.length]? = some v
  simp

/-! ### what may be subscripted -/
/-- what stands as an index of a plain subscript -/
def PlainIx (b : Expr) : Prop := ∀ o i, subscripted b false o i = operate [o, i] (getItem o i)
/-- a subscript by values -/
def IxR (X : Cx) (r : R2) : Prop :=
  ∀ (value slice : Expr) (pins : List (Addr × Obj)) (s : Shared) (σ : St) (H : Hp) (x y : V) (v u : Value) (Q : VK), Inv X pins σ H s → RelV x v → RelV y u → r x y H Q →
    subscripted slice false v u = operate [v, u] (getItem v u) → wpAny (model X.prog X.w) X.A (subscriptTail value slice v u) (EP X pins σ Q) X.xe s
/-- a call of a builtin's method by values: the receiver, the arguments -/
def MtR (X : Cx) (id : String) (r : V → List V → Hp → VK → Prop) : Prop :=
  ∀ (pins : List (Addr × Obj)) (s : Shared) (σ : St) (H : Hp) (x : V) (xs : List V) (v : Value) (us : List Value) (Q : VK), Inv X pins σ H s → RelV x v → Vals xs us → r x xs H Q →
    wpAny (model X.prog X.w) X.A (call (.builtin id) (v :: us)) (EP X pins σ Q) X.xe s
section
variable {X : Cx} {a b : Expr} {ta tb : TE} {pos : Pos}
theorem IxR.or {r r' : R2} (h : IxR X r) (h' : IxR X r') : IxR X (fun x y H Q => r x y H Q ∨ r' x y H Q) := by
  intro value slice pins s σ H x y v u Q I rx ry q hs
  rcases q with q | q
  · exact h value slice pins s σ H x y v u Q I rx ry q hs
  · exact h' value slice pins s σ H x y v u Q I rx ry q hs
theorem MtR.or {id : String} {r r' : V → List V → Hp → VK → Prop} (h : MtR X id r) (h' : MtR X id r') : MtR X id (fun x xs H Q => r x xs H Q ∨ r' x xs H Q) := by
  intro pins s σ H x xs v us Q I rx rs q
  rcases q with q | q
  · exact h pins s σ H x xs v us Q I rx rs q
  · exact h' pins s σ H x xs v us Q I rx rs q
/-- a[b] -/
theorem pe_ix {r : R2} (hr : IxR X r) (ha : PE X a ta) (hb : PE X b tb) (hs : PlainIx b) : PE X (.Subscript a b pos) (tOp r ta tb) := by
  intro pins s σ H Q I h
  exact Subscript_ (binT ha hb I h fun v u s2 x y H2 I2 rx ry q => hr a b pins s2 σ H2 x y v u Q I2 rx ry q (hs _ _))

def rIxL (K : PySem.W.Frag) : R2 := fun x y H Q => ∃ p xs i v, x = .ref p ∧ y = .int i ∧ SqL K H p xs ∧ atI xs i = some v ∧ Q v H
def rIxT (K : PySem.W.Frag) : R2 := fun x y H Q => ∃ p xs i v, x = .ref p ∧ y = .int i ∧ SqT K H p xs ∧ atI xs i = some v ∧ Q v H
theorem ix_list : IxR X (rIxL X.K) := by
  intro value slice pins s σ H x y v u Q I rx ry h hs
  obtain ⟨p, xs, i, z, rfl, rfl, hq, he, q⟩ := h
  cases rx
  obtain ⟨t, rfl⟩ := ry
  obtain ⟨its, r, pl, hz⟩ := I.list hq
  obtain ⟨j, h1, h2, h3, h4, h5⟩ := atI_get he
  obtain ⟨w, ew, rw'⟩ := r.get h2
  have hl := r.length
  have hn := line63
  have fin : EP X pins σ Q w s := ⟨z, H, I, rw', q⟩
  by_cases h0 : 0 ≤ i
  · have hj : i.toNat = j := by
      rw [seqIndex_of h0 h5] at h1
      exact Option.some.inj h1
    exact item_listR pl.isList h0 (by omega) (by rw [hj]; simpa using ew) fin hs
  · have hj : (i + (its.toArray.size : Int)).toNat = j := by
      rw [seqIndex_neg (by omega) h4] at h1
      rw [List.size_toArray, ← hl]
      exact Option.some.inj h1
    exact subscriptTail_builtinR (x := w) pl.isList.typeIs slot_list_getitem.lookup
      (wpAny_getItem_list_neg (Q := fun r s' => r = w ∧ EP X pins σ Q r s') pl.isList (by omega) (by rw [List.size_toArray] <;> omega) (by omega) (by rw [hj]; simpa using ew) ⟨rfl, fin⟩) hs
theorem ix_tup : IxR X (rIxT X.K) := by
  intro value slice pins s σ H x y v u Q I rx ry h hs
  obtain ⟨p, xs, i, z, rfl, rfl, hq, he, q⟩ := h
  cases rx
  obtain ⟨t, rfl⟩ := ry
  obtain ⟨its, r, pl, hz⟩ := I.tuple hq
  obtain ⟨j, h1, h2, h3, h4, h5⟩ := atI_get he
  obtain ⟨w, ew, rw'⟩ := r.get h2
  have hl := r.length
  have hn := line63
  have fin : EP X pins σ Q w s := ⟨z, H, I, rw', q⟩
  exact subscriptTail_builtinR (x := w) pl.typeIs slot_tuple_getitem.lookup
    (getItem_tuple (j := j) (Q := fun r s' => r = w ∧ EP X pins σ Q r s') pl (by omega) (by omega) (by rw [List.size_toArray, ← hl]; exact h1) (by simpa using ew) ⟨rfl, fin⟩) hs
/-! ### xs[i] = v, any sign -/
/-- the list's object behind a store -/
theorem mapSeq_set (its : List Value) (n j : Nat) (u : Value) : Obj.mapSeq (·.setIfInBounds j u) { cls := .type "list", data := .seq its.toArray n } = { cls := .type "list", data := .seq (its.set j u).toArray n } := by
  simp [Obj.mapSeq]
theorem Inv.lst {pins : List (Addr × Obj)} {σ : St} {H : Hp} {s : Shared} {p : Addr} {xs : List V} (I : Inv X pins σ H s) (h : H p = some (.lst xs)) :
    ∃ (its : List Value) (n : Nat), Vals xs its ∧ s.heap.get? p = some { cls := .type "list", data := .seq its.toArray n } ∧ xs.length ≤ sizeLine := by
  obtain ⟨z, its, n, r, e⟩ := I.hok p _ h
  exact ⟨its, n, r, e, z⟩
/-- the list at p is written by an update of its object -/
theorem Inv.lstUpd {pins : List (Addr × Obj)} {σ : St} {H : Hp} {s : Shared} {p : Addr} {xs ys : List V} {its its' : List Value} {n n' : Nat} {f : Obj → Obj} (I : Inv X pins σ H s) (h : H p = some (.lst xs))
    (ho : s.heap.get? p = some { cls := .type "list", data := .seq its.toArray n }) (hf : f { cls := .type "list", data := .seq its.toArray n } = { cls := .type "list", data := .seq its'.toArray n' }) (r : Vals ys its') (hz : ys.length ≤ sizeLine) (t : Nat) :
    Inv X pins σ (upd H p (.lst ys)) { s with heap := s.heap.update p f, toks := t } := by
  have e : (s.heap.update p f).get? p = some { cls := .type "list", data := .seq its'.toArray n' } := by
    rw [Heap.get?_update_self f ho (by rw [hf] <;> rfl), hf]
  refine I.write (x := p) (e := p) (by rw [h]; trivial) (.inl rfl) (fun b u hb q => (Heap.get?_update_other _ _ (Ne.symm hb)).trans q) ⟨_, e⟩ ?_
  exact ⟨hz, its', n', r, e⟩
def rSetL : V → V → V → Hp → (Hp → Prop) → Prop := fun o i v H Q => ∃ p xs k j, o = .ref p ∧ i = .int k ∧ H p = some (.lst xs) ∧ ixN xs.length k = some j ∧ Q (upd H p (.lst (xs.set j v)))
theorem set_list : PSet X rSetL := by
  intro pins s σ H o i v ov iv u Q I ro ri rv h
  obtain ⟨p, xs, k, j, rfl, rfl, hp, hj, q⟩ := h
  cases ro
  obtain ⟨t, rfl⟩ := ri
  obtain ⟨its, n, r, ho, hz⟩ := I.lst hp
  obtain ⟨h1, h2, h3, h4⟩ := ixN_seq hj
  have hl := r.length
  have hn := line63
  have I' : Inv X pins σ (upd H p (.lst (xs.set j v))) { s with heap := s.heap.update p (Obj.mapSeq (·.setIfInBounds j u)) } :=
    I.lstUpd hp ho (mapSeq_set its n j u) (r.set rv j) (by rw [List.length_set]; exact hz) s.toks
  by_cases h0 : 0 ≤ k
  · have hk : k.toNat = j := by
      rw [seqIndex_of h0 h4] at h1
      exact Option.some.inj h1
    exact PySem.W.ki_setAt ho h0 (by omega) (by rw [List.size_toArray, ← hl]; exact h4) (by rw [hk]; exact ⟨_, I', q⟩)
  · have hk : (k + (its.toArray.size : Int)).toNat = j := by
      rw [seqIndex_neg (by omega) h3] at h1
      rw [List.size_toArray, ← hl]
      exact Option.some.inj h1
    exact PySem.W.ki_setBack ho (by omega) (by rw [List.size_toArray, ← hl]; exact h3) (by omega) (by rw [hk]; exact ⟨_, I', q⟩)

/-! ### slices -/
theorem slice_bounds (lo hi : Option Int) (n : Nat) : (sliceBounds lo hi none n).1 = ((HT.sIx n 0 lo : Nat) : Int) ∧ (sliceBounds lo hi none n).2.1 = ((HT.sIx n n hi : Nat) : Int) ∧ (sliceBounds lo hi none n).2.2 = 1 := by
  refine ⟨?_, ?_, rfl⟩
  · cases lo with
    | none => simp [sliceBounds, HT.sIx]
    | some i =>
      simp only [sliceBounds, HT.sIx, Option.getD_none, show (1 : Int) > 0 by decide, if_true]
      by_cases h : i < 0
      · simp only [h, if_true] <;> omega
      · simp only [h, if_false] <;> omega
  · cases hi with
    | none => simp [sliceBounds, HT.sIx]
    | some i =>
      simp only [sliceBounds, HT.sIx, Option.getD_none, show (1 : Int) > 0 by decide, if_true]
      by_cases h : i < 0
      · simp only [h, if_true] <;> omega
      · simp only [h, if_false] <;> omega
theorem slicePick_cut (its : List Value) (lo hi : Option Int) : slicePick its.toArray lo hi none = ((its.drop (HT.sIx its.length 0 lo)).take (HT.sIx its.length its.length hi - HT.sIx its.length 0 lo)).toArray := by
  obtain ⟨h1, h2, h3⟩ := slice_bounds lo hi its.toArray.size
  unfold slicePick
  rw [h1, h2, h3]
  simp only [sliceRange_one, pick_run, List.size_toArray] <;> rfl
/-- xs[lo:hi] of a list: a new list -/
def rSlL (K : PySem.W.Frag) : V → Option Int → Option Int → Hp → VK → Prop := fun x lo hi H Q => ∃ a xs, x = .ref a ∧ SqL K H a xs ∧ ∀ p, H p = none → Q (.ref p) (upd H p (.lst (cutV xs lo hi)))
theorem sl_list : SlR X (rSlL X.K) := by
  intro pins s σ H x v vl vu lo hi sl Q I rx hs pl pu h
  obtain ⟨a, xs, rfl, hx, q⟩ := h
  cases rx
  obtain ⟨its, r, ht, hz⟩ := I.list hx
  have hlen := r.length
  refine ⟨"list", _, slot_list_getitem.lookup, ht.isList.typeIs, ?_⟩
  refine wpAny_getItem_list_slice ht.isList hs pl pu .none (by simp) ?_ (by rw [List.size_toArray] <;> omega)
  rw [slicePick_cut, ← hlen]
  refine ⟨.ref s.heap.objs.size, _, I.laid (t' := s.toks) (o := .lst (cutV xs lo hi)) (fun b ob q => Heap.get?_push_of_some _ q) (Nat.le_refl _) ?_, rfl, q _ (I.hok.fresh (Nat.le_refl _))⟩
  exact ⟨Nat.le_trans (cutV_length xs lo hi) hz, _, 0, (r.drop (HT.sIx xs.length 0 lo)).take (HT.sIx xs.length xs.length hi - HT.sIx xs.length 0 lo), Heap.get?_push_size _ rfl⟩

/-! ### in, not in: flat items -/
def flatV : V → Bool
  | .non => true
  | .bl _ => true
  | .int _ => true
  | .str _ => true
  | _ => false
/-- == of flat values -/
def eqV : V → V → Bool
  | .non, .non => true
  | .bl a, .bl b => a == b
  | .bl a, .int b => (if a then 1 else 0) == b
  | .int a, .bl b => a == (if b then 1 else 0)
  | .int a, .int b => a == b
  | .str a, .str b => a == b
  | _, _ => false
theorem eqAt_V {A : Around} {s : Shared} {y x : V} {u v : Value} (ry : RelV y u) (rx : RelV x v) (fy : flatV y = true) (fx : flatV x = true) : SeqAt.EqAt A s u v (eqV y x) := by
  cases y with
  | non =>
    cases ry
    cases x with
    | non => cases rx; exact SeqAt.EqAt.same _
    | bl b => cases rx; exact SeqAt.EqAt.none_bool b
    | int b => obtain ⟨t, rfl⟩ := rx; exact SeqAt.EqAt.none_int b t
    | str b => obtain ⟨t, rfl⟩ := rx; exact SeqAt.EqAt.none_str b t
    | _ => exact absurd (show false = true from fx) Bool.false_ne_true
  | bl a =>
    cases ry
    cases x with
    | non => cases rx; exact SeqAt.EqAt.bool_none a
    | bl b => cases rx; exact SeqAt.EqAt.bool_bool a b
    | int b => obtain ⟨t, rfl⟩ := rx; exact SeqAt.EqAt.bool_int a b t
    | str b => obtain ⟨t, rfl⟩ := rx; exact SeqAt.EqAt.bool_str a b t
    | _ => exact absurd (show false = true from fx) Bool.false_ne_true
  | int a =>
    obtain ⟨t', rfl⟩ := ry
    cases x with
    | non => cases rx; exact SeqAt.EqAt.int_none a t'
    | bl b => cases rx; exact SeqAt.EqAt.int_bool a t' b
    | int b => obtain ⟨t, rfl⟩ := rx; exact SeqAt.EqAt.int_int a t' b t
    | str b => obtain ⟨t, rfl⟩ := rx; exact SeqAt.EqAt.int_str a t' b t
    | _ => exact absurd (show false = true from fx) Bool.false_ne_true
  | str a =>
    obtain ⟨t', rfl⟩ := ry
    cases x with
    | non => cases rx; exact SeqAt.EqAt.str_none a t'
    | bl b => cases rx; exact SeqAt.EqAt.str_bool a t' b
    | int b => obtain ⟨t, rfl⟩ := rx; exact SeqAt.EqAt.str_int a t' b t
    | str b => obtain ⟨t, rfl⟩ := rx; exact SeqAt.EqAt.str_str a t' b t
    | _ => exact absurd (show false = true from fx) Bool.false_ne_true
  | _ => exact absurd (show false = true from fy) Bool.false_ne_true
def inV (x : V) (xs : List V) : Bool := xs.any fun y => eqV y x
/-! ### len, list(x), tuple(x) of any list or tuple that is read -/
theorem call_len_seq : CallR X (.builtin "len") (fun xs H Q => ∃ p ys, xs = [.ref p] ∧ (SqL X.K H p ys ∨ SqT X.K H p ys) ∧ Q (.int ys.length) H) := by
  intro pins s σ H xs us Q I r h
  obtain ⟨p, ys, rfl, hq, q⟩ := h
  obtain ⟨u, rfl, rx⟩ := vals1 r
  cases rx
  have hn := line63
  rcases hq with hq | hq
  · obtain ⟨its, r', pl, hz⟩ := I.list hq
    have hlen := r'.length
    exact Calls.call_len_list pl.isList (by simp only [List.size_toArray] <;> omega) ⟨.int ys.length, H, I.tok _, ⟨s.toks + 1, by rw [List.size_toArray, hlen]⟩, q⟩
  · obtain ⟨its, r', pl, hz⟩ := I.tuple hq
    have hlen := r'.length
    exact len_tuple pl (by simp only [List.size_toArray] <;> omega) ⟨.int ys.length, H, I.tok _, ⟨s.toks + 1, by rw [List.size_toArray, hlen]⟩, q⟩
theorem CallR.or {f : Value} {r r' : List V → Hp → VK → Prop} (h : CallR X f r) (h' : CallR X f r') : CallR X f (fun xs H Q => r xs H Q ∨ r' xs H Q) := by
  intro pins s σ H xs us Q I rs q
  rcases q with q | q
  · exact h pins s σ H xs us Q I rs q
  · exact h' pins s σ H xs us Q I rs q
/-! ### the call of a builtin's method: o.m(..) -/
/-- the value is of that builtin type -/
def tyV (K : PySem.W.Frag) (T : String) (x : V) (H : Hp) : Prop := match x with
  | .str _ => T = "str"
  | .int _ => T = "int"
  | .ref p => (T = "list" ∧ ∃ xs, SqL K H p xs) ∨ (T = "tuple" ∧ ∃ o, K.lookup p = some o ∧ o.cls = .type "tuple" ∧ o.dict = none) ∨
      (T = "dict" ∧ ((∃ kvs, H p = some (.dK kvs)) ∨ ∃ kvs, H p = some (.dT kvs))) ∨ (T = "set" ∧ ∃ S n, H p = some (.set S n))
  | _ => False
theorem tyV_is {pins : List (Addr × Obj)} {σ : St} {H : Hp} {s : Shared} {T : String} {x : V} {v : Value} (I : Inv X pins σ H s) (r : RelV x v) (ty : tyV X.K T x H) :
    s.TypeIs v T ∧ ∀ a, v = .ref a → ∃ ob, s.heap.get? a = some ob ∧ ob.dict = none := by
  cases x with
  | str z =>
    obtain ⟨t, rfl⟩ := r
    cases (show T = "str" from ty)
    exact ⟨typeIs_str s z t, fun _ e => nomatch e⟩
  | int i =>
    obtain ⟨t, rfl⟩ := r
    cases (show T = "int" from ty)
    exact ⟨typeIs_int s i t, fun _ e => nomatch e⟩
  | ref p =>
    cases r
    rcases ty with ⟨rfl, xs, hq⟩ | ⟨rfl, o, hk, hc, hd⟩ | ⟨rfl, hk⟩ | ⟨rfl, S, n, hk⟩
    · obtain ⟨its, _, pl, _⟩ := I.list hq
      refine ⟨pl.isList.typeIs, fun a e => ?_⟩
      cases e
      obtain ⟨o, n, e, c, hd, _⟩ := pl
      exact ⟨o, e, hd⟩
    · refine ⟨⟨o, I.kIn p o hk, hc⟩, fun a e => ?_⟩
      cases e
      exact ⟨o, I.kIn _ o hk, hd⟩
    · have z : ∃ o, s.heap.get? p = some o ∧ o.ExactDict := by
        rcases hk with ⟨kvs, hk⟩ | ⟨kvs, hk⟩
        · obtain ⟨_, _, _, _, o, _, _, e, ex, _⟩ := I.hok p _ hk
          exact ⟨o, e, ex⟩
        · obtain ⟨_, _, _, _, o, _, _, e, ex, _⟩ := I.hok p _ hk
          exact ⟨o, e, ex⟩
      obtain ⟨o, e, ex⟩ := z
      refine ⟨⟨o, e, ex.1⟩, fun a e2 => ?_⟩
      cases e2
      exact ⟨o, e, ex.2.1⟩
    · obtain ⟨o, _, _, _, e, ex, _⟩ := I.hok p _ hk
      refine ⟨⟨o, e, ex.1⟩, fun a e2 => ?_⟩
      cases e2
      exact ⟨o, e, ex.2.1⟩
  | _ => exact False.elim ty
def tBM (K : PySem.W.Frag) (T : String) (r : V → List V → Hp → VK → Prop) (to : TE) (t : TA) : TE := fun σ H Q => to σ H fun x H1 => tyV K T x H1 ∧ t σ H1 fun xs H2 => r x xs H2 Q
variable {o e : Expr} {es : List Expr} {to : TE} {t : TA} {name : Str} {apos cpos : Pos} {T id : String} {r : V → List V → Hp → VK → Prop}
theorem pe_bm (pa : PlainAttrs T) (slot : Slot T name id) (hty : typeOf (.builtin id) = pure (.type "method_descriptor")) (hm : MtR X id r) (ho : PE X o to) (ha : PA X (e :: es) t)
    (hbase : attributeBase o name X.env (eval o X.env) = eval o X.env := by rfl)
    (hfew : ((backTo cpos (starEach (e :: es) X.env)).all (fun x => !x.1) && (backToKw cpos (keywordEach [] X.env)).all (fun x => x.1.isSome)
      && decide ((e :: es).length + ([] : List Keyword).length + (if ([] : List Keyword).isEmpty then 0 else 1) < 30)) = true := by rfl)
    (hline : (apos.endLine == cpos.line) = true := by rfl) (hs : starEach (e :: es) X.env = (false, eval e X.env) :: starEach es X.env := by rfl) (hplain : (backTo cpos (starEach es X.env)).any (·.1) = false := by rfl) :
    PE X (.Call (.Attribute o name apos) (e :: es) [] cpos) (tBM X.K T r to t) := by
  intro pins s σ H Q I h
  refine wpAny_Call_method_late hbase hfew hline rfl (thn (ho pins s σ H _ I h) fun v s1 ⟨x, H1, I1, r1, ty, q1⟩ => ?_)
  obtain ⟨h1, h2⟩ := tyV_is I1 r1 ty
  refine ⟨T, id, pa, slot, hty, h1, h2, ?_⟩
  have hA := ha cpos pins s1 σ H1 _ I1 q1
  rw [hs] at hA ⊢
  refine Calls.callWith_builtin (by show (false || (backTo cpos (starEach es X.env)).any (·.1)) = false; rw [hplain] <;> rfl) (Calls.evalArgs_plain ?_)
  exact thn hA fun us s2 ⟨vs, H2, I2, r2, q2⟩ => hm pins s2 σ H2 x vs v us Q I2 r1 r2 q2
/- xs.append(e), list.index on a module's tuple .. are MtR facts of 06m -/
end
end L2

namespace L2
open PySem PySem.Spec PyProof.Rows

def MtM (X : Cx) (id : String) (r : V → List V → Hp → VK → Prop) : Prop :=
  ∀ (pins : List (Addr × Obj)) (s : Shared) (σ : St) (H : Hp) (x : V) (xs : List V) (v : Value) (us : List Value) (Q : VK), Inv X pins σ H s → RelV x v → Vals xs us → r x xs H Q →
    wpAny (model X.prog X.w) X.A (call (.builtin id) (v :: us)) (EP X pins σ Q) X.xe s

/-! ### lists of values -/
theorem Vals.one : ∀ {x : V} {us : List Value}, Vals [x] us → ∃ u, us = [u] ∧ RelV x u
  | _, _, .cons r .nil => ⟨_, rfl, r⟩
theorem Vals.two : ∀ {x y : V} {us : List Value}, Vals [x, y] us → ∃ u v, us = [u, v] ∧ RelV x u ∧ RelV y v
  | _, _, _, .cons r (.cons q .nil) => ⟨_, _, rfl, r, q⟩
theorem Vals.zero : ∀ {us : List Value}, Vals [] us → us = []
  | _, .nil => rfl
section
variable {X : Cx} {pins : List (Addr × Obj)} {σ : St} {H : Hp} {s : Shared} {l b : Addr} {xs ys zs : List V}

/-! ### the two steps: a tracked list is rewritten, a new list is laid -/
theorem Inv.lset {its its' : List Value} {n : Nat} {f : Array Value → Array Value} {t' : Nat} (I : Inv X pins σ H s) (hH : H l = some (.lst xs))
    (e : s.heap.get? l = some { cls := .type "list", data := .seq its.toArray n }) (hf : f its.toArray = its'.toArray) (hv : Vals ys its') (hz : ys.length ≤ sizeLine) :
    Inv X pins σ (upd H l (.lst ys)) { s with heap := s.heap.update l (Obj.mapSeq f), toks := t' } := by
  have q := PySem.IsL.update e f
  rw [hf] at q
  refine I.write (x := l) (e := l) (by rw [hH]; exact trivial) (.inl rfl) (fun b' u hb hu => (Heap.get?_update_other s.heap (Obj.mapSeq f) (Ne.symm hb)).trans hu) ⟨_, q⟩ ?_
  exact ⟨hz, its', _, hv, q⟩
theorem Inv.lnew {its : List Value} {t' : Nat} (I : Inv X pins σ H s) (hv : Vals ys its) (hz : ys.length ≤ sizeLine) :
    Inv X pins σ (upd H s.heap.objs.size (.lst ys)) { s with heap := s.heap.push { cls := .type "list", data := .seq its.toArray }, toks := t' } :=
  I.laid (fun _ _ q => Heap.get?_push_of_some _ q) (Nat.le_refl _) ⟨hz, its, 0, hv, Heap.get?_push_size _ rfl⟩
theorem Inv.fresh (I : Inv X pins σ H s) : H s.heap.objs.size = none := I.hok.fresh (Nat.le_refl _)
theorem Inv.lstM (I : Inv X pins σ H s) (hH : H l = some (.lst xs)) : xs.length ≤ sizeLine ∧ ∃ (its : List Value) (n : Nat), Vals xs its ∧ xs.length = its.length ∧ s.heap.get? l = some { cls := .type "list", data := .seq its.toArray n } := by
  obtain ⟨z, its, n, r, e⟩ := I.hok l _ hH
  exact ⟨z, its, n, r, r.length, e⟩

end

section
variable {X : Cx}

/-! ### methods -/
def rAppend : V → List V → Hp → VK → Prop := fun x vs H Q => ∃ l xs y, x = .ref l ∧ vs = [y] ∧ H l = some (.lst xs) ∧ xs.length < sizeLine ∧ Q .non (upd H l (.lst (xs ++ [y])))
theorem mt_append : MtM X "list.append" rAppend := by
  intro pins s σ H x vs v us Q I rx rv h
  obtain ⟨l, xs, y, rfl, rfl, hH, hz, q⟩ := h
  cases rx
  obtain ⟨u, rfl, ru⟩ := rv.one
  obtain ⟨z, its, n, r, hl, e⟩ := I.lstM hH
  refine call_meets F.slot_list_append ⟨_, e, rfl⟩ F.entry_list_append (F.args_list_append_2 _ _) (PySem.list_append l its.toArray n u (by rw [List.size_toArray]; omega)) ⟨e, ?_⟩
  refine ⟨.non, _, I.lset (its' := its ++ [u]) hH e (by simp) (r.append (.cons ru .nil)) ?_, rfl, q⟩
  rw [List.length_append, List.length_singleton]
  omega

/-! ### list + list, list += list, list * int -/
def rCat : R2 := fun x y H Q => ∃ l b xs zs, x = .ref l ∧ y = .ref b ∧ H l = some (.lst xs) ∧ H b = some (.lst zs) ∧ xs.length + zs.length ≤ sizeLine ∧ ∀ p, H p = none → Q (.ref p) (upd H p (.lst (xs ++ zs)))
theorem op_cat : OpR X (binaryOp .Add) rCat := by
  intro pins s σ H x y v u Q I rx ry h
  obtain ⟨l, b, xs, zs, rfl, rfl, hH, hB, hz, q⟩ := h
  cases rx
  cases ry
  obtain ⟨z, its, n, r, hl, e⟩ := I.lstM hH
  obtain ⟨z2, its2, n2, r2, hl2, e2⟩ := I.lstM hB
  refine PySem.P.add_list e e2 ?_ (by rw [List.size_toArray, List.size_toArray]; omega)
  have ea : its.toArray ++ its2.toArray = (its ++ its2).toArray := by simp
  rw [ea]
  exact ⟨.ref _, _, I.lnew (t' := s.toks) (r.append r2) (by rw [List.length_append]; omega), rfl, q _ I.fresh⟩
/-! ### del xs[i] -/
end

/-! ### xs[a:b] = ys -/
section
variable {prog : Program} {w : World} {A : Around} {E : Value → Shared → Prop} {s : Shared}
set_option maxRecDepth 100000 in
end

section
variable {X : Cx}
end
end L2


namespace Att
open PySem PySem.W PySem.Calls PyProof.Rows

/-! ### the script -/
theorem ints_of_wellAll {P : Params} {h : Heap} : ∀ (ns : List Int) (vs : List Value), WellAll P h vs (ns.map WData.int) → IntsAre vs ns := by
  intro ns
  induction ns with
  | nil =>
    intro vs w
    rw [List.map_nil] at w
    cases w
    exact .nil
  | cons n ns ih =>
    intro vs w
    rw [List.map_cons] at w
    cases w with
    | cons a b =>
      cases a
      exact .cons _ _ (ih _ b)

theorem script_of {l : OpenLaw} {n : Nat} (hn : l.most = some n) {P : Params} {h : Heap} {args : List WData} {vals : List Value}
    (hpre : l.row.toRowW.claim.pre args = true) (hwl : WellAll P h vals args) :
    ∃ a vs ns, vals = [Value.ref a] ∧ args = [WData.list (ns.map WData.int)] ∧ h.get? a = some { cls := .type "list", data := .seq vs.toArray } ∧ IntsAre vs ns ∧ ns.length ≤ n := by
  have hsh : WShape.hasAll [] args [.list .int] = true := (pre_splitW hpre).1
  have hc : l.pre.holds [] { args := args } = true := (pre_splitW hpre).2
  obtain ⟨d, r, rfl, h1, h2⟩ := hasAllW_cons hsh
  obtain rfl := hasAllW_nil h2
  obtain ⟨xs, rfl, h3⟩ := hasW_list h1
  obtain ⟨ns, rfl⟩ := items_int h3
  have hlen : ns.length ≤ n := by
    unfold OpenLaw.pre at hc
    have h4 : (WTm.not (.lt (.lit (.int (n : Int))) (.len (.arg 0)))).holds [] { args := [.list (ns.map .int)] } = true := by
      have h4 := (holds_andW hc).1
      rw [hn] at h4
      exact h4
    have h5 := condW_of h4 (w_not (w_lt w_lit (w_len_list (w_arg rfl))))
    rw [List.length_map] at h5
    refine Nat.le_of_not_lt fun q => ?_
    have q' : (n : Int) < ((ns.length : Nat) : Int) := by omega
    first
      | (rw [decide_eq_true q'] at h5; exact absurd h5 (by decide))
      | (simp at h5; omega)
  cases hwl with
  | cons w1 w2 =>
    cases w2
    cases w1 with
    | list ho hall => exact ⟨_, _, ns, rfl, rfl, ho, ints_of_wellAll ns _ hall, hlen⟩

theorem post_true (l : OpenLaw) (args : List WData) : l.row.toRowW.claim.post args (.bool true) args = true :=
  postW_of (r := l.row.toRowW) (X := (true == true))
    (show WShape.has [] (.bool true) .bool = true by first | rfl | decide | simp [WShape.has, WShape.arms, WShape.armsAll])
    (show (WTm.eq .res (.lit (.bool true))).value [] { args := args, res := some (.bool true), after := args } = some (.bool (true == true)) from w_eq_bool (w_res rfl) w_lit) rfl

/-! ### the attachment: holds_open's last premise (the goal 'hc' behind k_head) from a wpAny of the law's body -/
/-- the same from a codeAny of the CALL (for a layer whose function contracts speak of calls) -/
theorem attach_call {l : OpenLaw} {n : Nat} {q : Program} {loose : List Str} {XP : (Str → Option Value) → Heap → Prop} {YP : World → Heap → Prop} {d : DefRec}
    (hn : l.most = some n) (hdf : d.params.defaults = [])
    (call : ∀ (w : World) (s₀ s₁ : Shared) (mg mb : Str → Option Value) (fa : Addr) (o : Obj) (pm cd doc : Value) (a : Addr) (vs : List Value) (ns : List Int),
      Ground q loose [] XP w s₀ mg mb s₁.heap → YP w s₁.heap →
      s₁.heap.get? fa = some o → o.data = .func (docDef d.name d.params d.body d.scope pm cd doc) → s₁.heap.CodeRec cd d.name → mg d.name = some (.ref fa) →
      s₁.heap.get? a = some { cls := .type "list", data := .seq vs.toArray } → IntsAre vs ns → ns.length ≤ n → s₁.gens = #[] →
      codeAny (model l.prog w) callerA (.call (.ref fa) ⟨[.ref a], []⟩) (fun r s' => r = .ok (.ret (.bool true)) ∧ OldK s₁.heap s'.heap ∧ s'.os = s₁.os ∧ AllBare s'.gens) s₁) :
    WalkO q loose XP YP l.row.toRowW d [] (fun f vs => PySem.call f vs) := by
  intro w s₀ s₁ mg mb G Y fa o pm cd doc dV kV ho hd hcd hD hmg hg args vals as hpre hlay hrd hwl hlo
  obtain rfl : dV = .none := Dflts.none hD hdf
  obtain rfl : kV = .none := Dflts.noKw hD
  obtain ⟨a, vs, ns, rfl, rfl, hobj, hints, hlen⟩ := script_of hn hpre hwl
  refine enter_call (codeAny_mono (call w s₀ s₁ mg mb fa o pm cd doc a vs ns G Y ho (fd_plain hd) hcd hmg hobj hints hlen hg) fun r s' hq => ?_)
  obtain ⟨rfl, h2, h3, h4⟩ := hq
  exact ⟨.inl ⟨.bool true, .bool true, [], rfl, fun _ => rfl, .bool true, post_true l _, fun _ => ⟨List.Pairwise.nil, fun _ hm => (nomatch hm)⟩⟩, h2, h3, h4⟩

/-! ### rules over ANY heap (no ledger) from facts about the written part K: the library's own take a ledger (News) for what they write -/
section
variable {prog : Program} {w : World} {A : Around} {E : Value → Shared → Prop} {s : Shared} {K : Frag}

/-! the whole heap as the ledger: makes every rule that writes through a ledger a rule over any heap -/
def ledger (h : Heap) (L d : Addr) : List (Addr × Obj) := (List.range h.objs.size).filterMap fun a => if a = L ∨ a = d then none else (h.get? a).map fun o => (a, o)
end
end Att

namespace L2
open PySem PySem.Spec PyProof.Rows

theorem vals_ints : ∀ {vs : List Value} {ns : List Int}, IntsAre vs ns → Vals (ns.map V.int) vs
  | _, _, .nil => .nil
  | _, _, .cons n t h => .cons ⟨t, rfl⟩ (vals_ints h)

/-- nothing is tracked but the script, known to the object (or it is an object of the module) -/
def Only (H : Hp) : Prop := ∀ b, H b = none ∨ ∃ o xs, H b = some (.frz o (.lst xs))

/-- THE HEAD: the law's promise, at the heap behind the top. F, the promise of the law's def, may use that base is part of the heap (so K.In base, base.Ns mainGlobals mg stand in Mod) -/
theorem law_call {P : Program} {w : World} {K : PySem.W.Frag} {mg mb : Str → Option Value} {CX : CXT} {k : Nat} {fa a : Addr} {fd : FuncData} {x : Str} {sp : Sp} {s₁ : Shared} {vs : List Value} {ns : List Int}
    (KX : K.In s₁.heap) (hns : s₁.heap.Ns mainGlobals mg) (hb : s₁.heap.Ns builtinsNs mb) (hbb : ∀ x : Str, x ≠ "__name__" → mb x = bootBuiltins x) (hlim : s₁.heap.NoLimit) (hg : s₁.gens = #[])
    (ha : s₁.heap.get? a = some { cls := .type "list", data := .seq vs.toArray }) (hi : IntsAre vs ns) (hl : ns.length ≤ sizeLine) (hr : Room k callerA)
    (F : ∀ base : Heap, K.In base → base.Ns mainGlobals mg → FnOk P w K mg base CX k fa fd [x] sp) (hbind : ∀ (s : Shared) (u : Value), BindsTo s fd ⟨[u], []⟩ [(x, u)])
    (hsp : ∀ H : Hp, Only H → SqL K H a (ns.map V.int) → sp [.ref a] H (fun v _ => v = .bl true) fun _ _ _ => False)
    (hCX : ∀ H e s', CX [] H s₁ (fun _ _ _ => False) e s' → False) :
    codeAny (model P w) callerA (.call (.ref fa) ⟨[.ref a], []⟩) (fun r s' => r = .ok (.ret (.bool true)) ∧ OldK s₁.heap s'.heap ∧ s'.os = s₁.os ∧ AllBare s'.gens) s₁ := by
  have rv := vals_ints hi
  have lenV := hi.length
  -- from an abstract heap in which nothing but the script may be tracked
  have core : ∀ H : Hp, Only H → SqL K H a (ns.map V.int) → HOk P w H s₁.heap → (∀ b, H b ≠ none → b = a) → (H a ≠ none → K.lookup a = none) →
      codeAny (model P w) callerA (.call (.ref fa) ⟨[.ref a], []⟩) (fun r s' => r = .ok (.ret (.bool true)) ∧ OldK s₁.heap s'.heap ∧ s'.os = s₁.os ∧ AllBare s'.gens) s₁ := by
    intro H hO hS hok hA hK
    have base_of : ∀ {b : Addr} {o : Obj}, s₁.heap.get? b = some o → H b = none → (hidT s₁.heap H).get? b = some o := fun e n => hidT_get e n
    have noA : ∀ {b : Addr} {o : Obj} {es : Array DictEntry} {ep : Nat}, s₁.heap.get? b = some o → o.data = .dict es ep → H b = none := fun {b o es ep} e d => by
      cases q : H b with
      | none => rfl
      | some u =>
        have e' : b = a := hA b (by rw [q]; simp)
        subst e'
        rw [ha] at e; cases e
        have d' : Data.seq vs.toArray _ = Data.dict es ep := d
        cases d'
    have nsK : ∀ {b : Addr} {m : Str → Option Value}, s₁.heap.Ns b m → (hidT s₁.heap H).Ns b m := fun {b m} ⟨o, es, ep, e, d, r⟩ => ⟨o, es, ep, base_of e (noA e d), d, r⟩
    have hKb : K.In (hidT s₁.heap H) := fun b o e => base_of (KX b o e) (by
      cases q : H b with
      | none => rfl
      | some u =>
        have e' : b = a := hA b (by rw [q]; simp)
        subst e'
        rw [hK (by rw [q]; simp)] at e; cases e)
    have hM : Mod K mg (hidT s₁.heap H) := ⟨hKb, nsK hns, ⟨mb, nsK hb, hbb⟩, let ⟨mc, h1, h2⟩ := hlim; ⟨mc, nsK h1, h2⟩⟩
    have e0 : Env0 P w K mg (hidT s₁.heap H) callerA [] s₁ H := ⟨rfl, hM, fun b o e => of_hidT e, Nat.le_of_eq (hidT_size _ _), trivial, fun b hb => absurd (show b ∈ ([] : List Addr) from hb) (by simp), hok, .of_eq hg⟩
    refine codeAny_mono ((F _ hKb (nsK hns)).run callerA [] s₁ H ⟨[.ref a], []⟩ [.ref a] [.ref a] _ _ hr e0 (hbind s₁ (.ref a)) (.cons rfl .nil) (hsp H hO hS)) fun r s' h => ?_
    cases r with
    | error e => exact (hCX H e s' h).elim
    | ok fl =>
      cases fl with
      | next => exact False.elim h
      | brk => exact False.elim h
      | cont => exact False.elim h
      | ret u =>
        obtain ⟨v, H', os, bare, un, hok', r', q⟩ := h
        have q' : v = .bl true := q
        subst q'
        obtain rfl : u = Value.bool true := r'
        refine ⟨rfl, OldK.of_keep fun b o e => ?_, os, bare⟩
        cases q : H b with
        | none => exact un.keep b o e q (by intro z; exact absurd (show b ∈ ([] : List Addr) from z) (by simp)) (by simp)
        | some u =>
          rcases hO b with z | ⟨ob, xs, z⟩
          · rw [q] at z; cases z
          · have z2 := un.frzs b ob _ z
            obtain ⟨e1, _⟩ := hok b _ z
            obtain ⟨e2, _⟩ := hok' b _ z2
            rw [e] at e1; cases e1
            exact e2
  cases hk : K.lookup a with
  | some o =>
    -- the script is one of the module's own objects
    have e := KX a o hk
    rw [ha] at e
    cases e
    refine core (fun _ => none) (fun _ => .inl rfl) (.inr ⟨_, vs.toArray, _, hk, rfl, rfl, rfl, by rw [List.size_toArray, lenV]; exact hl, by simpa using rv⟩) (fun b u z => by have z' : (none : Option HO) = some u := z; cases z') (fun b z => absurd rfl z) fun z => absurd rfl z
  | none =>
    refine core (fun b => if b = a then some (.frz { cls := .type "list", data := .seq vs.toArray } (.lst (ns.map V.int))) else none) (fun b => ?_) (.inl (.inr ⟨{ cls := .type "list", data := .seq vs.toArray }, if_pos rfl⟩)) (fun b u z => ?_) (fun b z => ?_) fun _ => hk
    · by_cases hb : b = a
      · exact .inr ⟨_, _, if_pos hb⟩
      · exact .inl (if_neg hb)
    · by_cases hb : b = a
      · have z' := (if_pos hb).symm.trans z
        cases z'
        subst hb
        exact ⟨ha, by rw [List.length_map]; exact hl, vs, _, rv, ha⟩
      · have z' := (if_neg hb).symm.trans z
        cases z'
    · by_cases hb : b = a
      · exact hb
      · exact absurd (if_neg hb) z
end L2

namespace L2
open PySem PySem.Spec PyProof.Rows

/-- the goal that k_head leaves (case hc), from the law's promise. F gives the function object fd (K's own) once, then the promise over every base -/
theorem walk_of {l : PySem.W.OpenLaw} {n k : Nat} {q : Program} {loose : List Str} {XP : (Str → Option Value) → Heap → Prop} {YP : World → Heap → Prop} {d : DefRec} {K : Params → PySem.W.Frag} {CX : World → CXT} {sp : World → Sp} {x : Str}
    (hn : l.most = some n) (hn2 : n ≤ sizeLine) (hdf : d.params.defaults = []) (hr : Room k callerA)
    (hY : ∀ (w : World) (h : Heap), YP w h → (K w.params).In h)
    (F : ∀ (w : World) (mg : Str → Option Value) (fa : Addr) (h : Heap), (K w.params).In h → h.Ns mainGlobals mg → mg d.name = some (.ref fa) →
      ∃ fd : FuncData, (∀ (s : Shared) (u : Value), BindsTo s fd ⟨[u], []⟩ [(x, u)]) ∧
        ∀ base : Heap, (K w.params).In base → base.Ns mainGlobals mg → FnOk l.prog w (K w.params) mg base (CX w) k fa fd [x] (sp w))
    (hsp : ∀ (w : World) (H : Hp) (a : Addr) (ns : List Int), ns.length ≤ n → Only H → SqL (K w.params) H a (ns.map V.int) → sp w [.ref a] H (fun v _ => v = .bl true) fun _ _ _ => False)
    (hCX : ∀ (w : World) (H : Hp) (s : Shared) (e : Value) (s' : Shared), CX w [] H s (fun _ _ _ => False) e s' → False) :
    PySem.W.WalkO q loose XP YP l.row.toRowW d [] (fun f vs => PySem.call f vs) := by
  refine Att.attach_call hn hdf fun w s₀ s₁ mg mb fa o pm cd doc a vs ns G Y ho hd hcd hmg hobj hints hlen hg => ?_
  have KX := hY w _ Y
  obtain ⟨fd, hb, hF⟩ := F w mg fa _ KX G.T.g hmg
  exact law_call KX G.T.g G.T.b G.T.builtins G.T.nolimit hg hobj hints (Nat.le_trans hlen hn2) hr hF hb (fun H hO hS => hsp w H a ns hlen hO hS) fun H e s' => hCX w H s₁ e s'
end L2

/-! SHORT WORDS over the layer: a def of the text, its body, what a loop and a test want. -/
namespace L2
open PySem PySem.Spec PyProof.Rows

/-! ### the text by places -/
def defArgs (s : Stmt) : Arguments := match s with
  | .FunctionDef _ a _ _ _ _ _ _ _ _ => a
  | _ => { posonlyargs := [], args := [], vararg := none, kwonlyargs := [], kw_defaults := [], kwarg := none, defaults := [] }
def defBody (s : Stmt) : List Stmt := match s with
  | .FunctionDef _ _ b _ _ _ _ _ _ _ => b
  | _ => []
def defScope (s : Stmt) : Scope := match s with
  | .FunctionDef _ _ _ _ _ _ sc _ _ _ => sc
  | _ => { kind := .function, names := [], isGenerator := false, isCoroutine := false }

/-! ### no exception leaves a def -/
abbrev CX0 : CXT := fun _ _ _ _ _ _ => False
abbrev E0 : XK := fun _ _ _ => False
theorem pass0 {X : Cx} : Passes CX0 X E0 := fun _ _ _ _ _ _ _ h => h.elim

/-! ### a def (or method) of the text as it stands behind the top -/
structure Fun (K : PySem.W.Frag) (x qual : Str) (st : Stmt) (f : Addr) (fd : FuncData) : Prop where
  ex : ∃ (oc : Value) (od : Option Addr) (kV doc pm : Value) (an : Option Addr) (cdv ct : Value) (osl : Array (Option Value)),
    fd = PySem.W.fnOf x qual (defArgs st) (defBody st) (defScope st) .none kV doc pm an cdv ct ∧ K.lookup f = some ⟨oc, od, .func fd, osl⟩ ∧ PySem.W.codeIn K cdv qual = true
  kp : PySem.W.keepIn K (.ref f) = true
section
variable {P : Program} {w : World} {K : PySem.W.Frag} {mg : Str → Option Value} {base : Heap}
/-- THE RULE for a def: its body as a term of rules, and the reading of that term -/
theorem Fun.ok {x qual : Str} {st : Stmt} {f : Addr} {fd : FuncData} {N ps : List Str} {k : Nat} {sp : Sp} (F : Fun K x qual st f fd) (S : FnScope N ps (defScope st)) (len : ∀ vs H Q E, sp vs H Q E → vs.length = ps.length)
    (hbody : ∀ (cdv : Value) (A : Around) (outer : List Env) (s : Shared) (H : Hp) (vs : List V) (Q : VK) (E : XK), Room k (A.deeper (envOfC qual (defScope st) s.heap.objs.size f cdv)) → sp vs H Q E →
      ∃ t, PSs (cxOf CX0 P w K mg base N qual (defScope st) f cdv A outer s H E).nox (defBody st) t ∧ t { nx := fun _ H' => Q .non H', rt := Q } (start N vs) H) : FnOk P w K mg base CX0 (k + 1) f fd ps sp := by
  obtain ⟨oc, od, kV, doc, pm, an, cdv, ct, osl, rfl, lk, hcd⟩ := F.ex
  refine fn_of lk hcd S len fun A outer s H vs Q E hr hsp => ?_
  obtain ⟨t, h, q⟩ := hbody cdv A outer s H vs Q E hr hsp
  exact ⟨t, h.nox, q⟩
/-- how its arguments bind (no defaults): h is «fun _ _ _ _ _ _ us hl => match us, hl with | [_, _], _ => rfl», one _ a parameter -/
theorem Fun.binds {x qual : Str} {st : Stmt} {f : Addr} {fd : FuncData} {ps : List Str} (F : Fun K x qual st f fd)
    (h : ∀ (kV doc pm : Value) (an : Option Addr) (cdv ct : Value) (us : List Value), us.length = ps.length → bindArgs (PySem.W.fnOf x qual (defArgs st) (defBody st) (defScope st) .none kV doc pm an cdv ct) ⟨us, []⟩ = pure (ps.zip us)) : Binds K fd ps [] := by
  obtain ⟨oc, od, kV, doc, pm, an, cdv, ct, osl, rfl, lk, hcd⟩ := F.ex
  exact .all (h kV doc pm an cdv ct)
theorem fun_mk {x qual : Str} {st : Stmt} {f : Addr} {oc : Value} {od an : Option Addr} {osl : Array (Option Value)} {kV doc pm cdv ct : Value} (l : K.lookup f = some ⟨oc, od, .func (PySem.W.fnOf x qual (defArgs st) (defBody st) (defScope st) .none kV doc pm an cdv ct), osl⟩)
    (c : PySem.W.codeIn K cdv qual = true) (k : PySem.W.keepIn K (.ref f) = true) : Fun K x qual st f (PySem.W.fnOf x qual (defArgs st) (defBody st) (defScope st) .none kV doc pm an cdv ct) := ⟨⟨oc, od, kV, doc, pm, an, cdv, ct, osl, rfl, l, c⟩, k⟩
end
theorem small1000 {n : Nat} (h : n ≤ 1000) : n < sizeLine := Nat.lt_of_le_of_lt h (by decide)

/-! ### expressions in short: the name that stands in the i-th slot -/
section
variable {X : Cx}
theorem pv (i : Nat) {x : Str} {pos : Pos} (hN : X.N[i]? = some x := by rfl) (hv : Vis X.env.scope x := by first | exact Or.inl rfl | exact Or.inr (Or.inl rfl) | exact Or.inr (Or.inr rfl)) (hd : (x == ("__debug__" : Str)) = false := by decide)
    (hcd : (x == ("__classdict__" : Str)) = false := by decide) : PE X (.Name x pos) (tVar i) := pe_var hN hv hd hcd
end

/-! ### tests -/
theorem iteF {A B : Prop} (h : B) : if false = true then A else B := by
  rw [if_neg Bool.false_ne_true]
  exact h
theorem ite2 {c A B : Prop} [Decidable c] (h1 : c → A) (h2 : ¬ c → B) : if c then A else B := by
  by_cases h : c
  · rw [if_pos h]
    exact h1 h
  · rw [if_neg h]
    exact h2 h
/-! ### heaps -/
/-- all that was tracked is as it was -/
def Same (H H' : Hp) : Prop := ∀ b o, H b = some o → H' b = some o
theorem Same.refl (H : Hp) : Same H H := fun _ _ h => h
theorem Same.trans {H H1 H2 : Hp} (a : Same H H1) (b : Same H1 H2) : Same H H2 := fun c o h => b c o (a c o h)
theorem Same.free {H H' : Hp} (e : Same H H') {l : Addr} (h : H' l = Option.none) : H l = Option.none := by
  cases q : H l with
  | none => rfl
  | some o =>
    rw [e l o q] at h
    cases h
theorem Same.seq {K : PySem.W.Frag} {H H' : Hp} {a : Addr} {xs : List V} (e : Same H H') (h : SqL K H a xs) : SqL K H' a xs := by
  rcases h with (h | ⟨o, h⟩) | h
  · exact .inl (.inl (e _ _ h))
  · exact .inl (.inr ⟨o, e _ _ h⟩)
  · exact .inr h

/-! ### a dict's pairs: keys that differ -/
section
variable {κ : Type} [DecidableEq κ]
end
end L2

set_option Elab.async false
set_option linter.all false
set_option maxRecDepth 100000
namespace L2
open PySem PySem.Spec PyProof.Rows

/-! ### for over a text -/
section
variable {X : Cx} {tg : Expr}
end

/-! ### a comprehension's cells -/
def clGo (env : Env) : List (Str × NameKind) → List (Str × Addr) → List (Str × Addr)
  | [], cs => cs
  | (n, k) :: r, cs => clGo env r (if (k == NameKind.free) = true then (match env.cells.lookup n with | some c => (n, c) :: cs | none => cs) else cs)
theorem closure_ok {scope : Scope} {env : Env} (h : ∀ p ∈ scope.names, p.2 = .free → ∃ c, env.cells.lookup p.1 = some c) : closureFor scope env = pure (clGo env scope.names []) := by
  have key : ∀ (l : List (Str × NameKind)) (cs : List (Str × Addr)), (∀ p ∈ l, p.2 = .free → ∃ c, env.cells.lookup p.1 = some c) →
      (forIn l cs fun (x : Str × NameKind) (r : List (Str × Addr)) => match x with
        | (name, kind) => if (kind == NameKind.free) = true then do let a ← cellOf env name; pure (ForInStep.yield ((name, a) :: r)) else pure (ForInStep.yield r) : Sem (List (Str × Addr))) = pure (clGo env l cs) := by
    intro l
    induction l with
    | nil => intro cs _; rfl
    | cons p r ih =>
      intro cs hl
      obtain ⟨n, k⟩ := p
      rw [List.forIn_cons]
      have hr := fun cs => ih cs fun q hq => hl q (List.mem_cons_of_mem _ hq)
      show (_ >>= _) = pure (clGo env r (if (k == NameKind.free) = true then (match env.cells.lookup n with | some c => (n, c) :: cs | none => cs) else cs))
      by_cases hk : (k == NameKind.free) = true
      · obtain ⟨c, hc⟩ := hl (n, k) List.mem_cons_self (by simpa using hk)
        dsimp only at hc ⊢
        rw [if_pos hk, if_pos hk, hc]
        have e : cellOf env n = pure c := by unfold cellOf; rw [hc]
        rw [e, pure_bind, pure_bind]
        exact hr _
      · dsimp only
        rw [if_neg hk, if_neg hk, pure_bind]
        exact hr _
  unfold closureFor
  rw [show (pure (clGo env scope.names []) : Sem (List (Str × Addr))) = (pure (clGo env scope.names []) >>= fun r => pure r) from (bind_pure _).symm, ← key scope.names [] h]
theorem clGo_lookup {env : Env} {x : Str} {c : Addr} : ∀ {l : List (Str × NameKind)} {cs : List (Str × Addr)}, (clGo env l cs).lookup x = some c → cs.lookup x = some c ∨ env.cells.lookup x = some c
  | [], _, h => .inl h
  | (n, k) :: r, cs, h => by
    rcases clGo_lookup (l := r) h with q | q
    · by_cases hk : (k == NameKind.free) = true
      · rw [if_pos hk] at q
        cases e : env.cells.lookup n with
        | none => rw [e] at q; exact .inl q
        | some d =>
          rw [e] at q
          dsimp only at q
          rw [List.lookup_cons] at q
          cases hx : x == n with
          | true =>
            rw [hx] at q
            have : x = n := by simpa using hx
            subst this
            dsimp only at q
            rw [← q]; exact .inr e
          | false => rw [hx] at q; exact .inl q
      · rw [if_neg hk] at q; exact .inl q
    · exact .inr q
theorem clGo_has {env : Env} {x : Str} : ∀ {l : List (Str × NameKind)} {cs : List (Str × Addr)}, ((x, NameKind.free) ∈ l ∧ (∃ c, env.cells.lookup x = some c)) ∨ (∃ c, cs.lookup x = some c) → ∃ c, (clGo env l cs).lookup x = some c
  | [], cs, h => by
    rcases h with ⟨h, _⟩ | h
    · exact absurd h (by simp)
    · exact h
  | (n, k) :: r, cs, h => by
    refine clGo_has (l := r) ?_
    rcases h with ⟨h, hc⟩ | h
    · rcases List.mem_cons.mp h with e | h
      · have e1 : x = n := congrArg (·.1) e
        have e2 : NameKind.free = k := congrArg (·.2) e
        subst e1 e2
        obtain ⟨c, hc⟩ := hc
        refine .inr ⟨c, ?_⟩
        rw [if_pos (by decide), hc]
        simp [List.lookup_cons]
      · exact .inl ⟨h, hc⟩
    · obtain ⟨c, hc⟩ := h
      right
      by_cases hk : (k == NameKind.free) = true
      · rw [if_pos hk]
        cases e : env.cells.lookup n with
        | none => exact ⟨c, hc⟩
        | some d =>
          dsimp only
          rw [List.lookup_cons]
          cases hx : x == n with
          | true => exact ⟨d, rfl⟩
          | false => exact ⟨c, hc⟩
      · rw [if_neg hk]; exact ⟨c, hc⟩
theorem relabel_kind {env : Env} {x : Str} : ∀ {names : List (Str × NameKind)} {k : NameKind},
    (names.map fun (p : Str × NameKind) => match p with | (n, k) => if (k == NameKind.free && env.scope.kind == .function && env.kindOf n == some .cell) = true then (n, NameKind.cell) else (n, k)).lookup x = some k →
    ∃ k', names.lookup x = some k' ∧ (k' = k ∨ (k' = .free ∧ k = .cell))
  | [], _, h => by simp at h
  | (n, k0) :: r, k, h => by
    rw [List.map_cons] at h
    by_cases hc : (k0 == NameKind.free && env.scope.kind == .function && env.kindOf n == some .cell) = true
    · dsimp only at h
      rw [if_pos hc, List.lookup_cons] at h
      rw [List.lookup_cons]
      cases hx : x == n with
      | true =>
        rw [hx] at h
        have e : NameKind.cell = k := Option.some.inj h
        have e0 : k0 = .free := by
          simp only [Bool.and_eq_true, beq_iff_eq] at hc; exact hc.1.1
        exact ⟨k0, rfl, .inr ⟨e0, e.symm⟩⟩
      | false => rw [hx] at h; exact relabel_kind (names := r) h
    · dsimp only at h
      rw [if_neg hc, List.lookup_cons] at h
      rw [List.lookup_cons]
      cases hx : x == n with
      | true => rw [hx] at h; exact ⟨k0, rfl, .inl (Option.some.inj h)⟩
      | false => rw [hx] at h; exact relabel_kind (names := r) h
theorem relabel_free {env : Env} {x : Str} : ∀ {names : List (Str × NameKind)}, names.lookup x = some .free →
    (names.map fun (p : Str × NameKind) => match p with | (n, k) => if (k == NameKind.free && env.scope.kind == .function && env.kindOf n == some .cell) = true then (n, NameKind.cell) else (n, k)).lookup x = some .cell ∨
    (names.map fun (p : Str × NameKind) => match p with | (n, k) => if (k == NameKind.free && env.scope.kind == .function && env.kindOf n == some .cell) = true then (n, NameKind.cell) else (n, k)).lookup x = some .free
  | [], h => by simp at h
  | (n, k0) :: r, h => by
    rw [List.map_cons]
    rw [List.lookup_cons] at h
    by_cases hc : (k0 == NameKind.free && env.scope.kind == .function && env.kindOf n == some .cell) = true
    · dsimp only
      rw [if_pos hc, List.lookup_cons]
      cases hx : x == n with
      | true => exact .inl rfl
      | false => rw [hx] at h; exact relabel_free (names := r) h
    · dsimp only
      rw [if_neg hc, List.lookup_cons]
      cases hx : x == n with
      | true => rw [hx] at h; exact .inr h
      | false => rw [hx] at h; exact relabel_free (names := r) h
end L2

set_option Elab.async false
set_option linter.all false
set_option maxRecDepth 100000
namespace L2
open PySem PySem.Spec PyProof.Rows

/-! ### a comprehension of one clause -/
theorem compLoop_any {prog : Program} {w : World} {A : Around} {R : Result → Shared → Prop} {s : Shared} {elt target iter : Expr} {ifs : List Expr} {scope : Scope} {pos : Pos} {it acc : Value} {env : Env} (I : Nat → Shared → Prop)
    (turn : ∀ n s, I n s → wpAny (model prog w) A (pyNext it) (fun r s₁ => match r with
      | none => R (.ok .next) s₁
      | some v => wpAny (model prog w) A (letOwnedTupleGo target it v) (fun _ s₁' => wpAny (model prog w) A (assign target env v) (fun _ s₂ =>
          wpAny (model prog w) A (forIn ifs true fun c r => if r = true then do let ok ← isTrue c env (eval c env); pure (ForInStep.yield ok) else pure (ForInStep.yield r)) (fun ok s₃ =>
            if ok = true then wpAny (model prog w) A (eval elt env) (fun x s₄ =>
              wpAny (model prog w) A (call (.builtin "list.append") [acc, x]) (fun _ s₅ => ∃ m, m < n ∧ I m s₅) (notedBy (model prog w) A env fun e s' => R (.error e) s') s₄) (notedBy (model prog w) A env fun e s' => R (.error e) s') s₃
            else ∃ m, m < n ∧ I m s₃) (notedBy (model prog w) A env fun e s' => R (.error e) s') s₂) (notedBy (model prog w) A env fun e s' => R (.error e) s') s₁') (notedBy (model prog w) A env fun e s' => R (.error e) s') s₁) (notedBy (model prog w) A env fun e s' => R (.error e) s') s)
    (n : Nat) (h : I n s) :
    codeAny (model prog w) A (.compLoop (.ListComp elt [⟨target, iter, ifs, 0⟩] scope pos) 0 it acc env) R s := by
  refine codeAny_loop rfl I (fun n s hI => ?_) n h
  show wpAny _ A ((compTurn (.ListComp elt [⟨target, iter, ifs, 0⟩] scope pos) 0 it acc env).onRaise (fun x => do noteFrame x env; theTreesLotGoes x)) _ _ s
  refine wpAny_noted ?_
  rw [compTurn_list]
  refine wpAny_bind (wpAny_standAt (wpAny_bind (wpAny_mono (turn n s hI) (fun r s₁ h₁ => ?_) fun _ _ h' => h')))
  cases r with
  | none => exact wpAny_pure h₁
  | some v =>
    refine wpAny_bind (wpAny_mono h₁ (fun _ s₁' h₁' => ?_) fun _ _ h' => h')
    refine wpAny_bind (wpAny_mono h₁' (fun _ s₂ h₂ => wpAny_bind (wpAny_mono h₂ (fun ok s₃ h₃ => ?_) fun _ _ h' => h')) fun _ _ h' => h')
    cases ok with
    | false => exact wpAny_pure ⟨rfl, h₃⟩
    | true =>
      exact wpAny_bind (wpAny_bind (wpAny_mono h₃ (fun x s₄ h₄ => wpAny_bind (wpAny_mono h₄ (fun _ s₅ h₅ => wpAny_pure (wpAny_pure ⟨rfl, h₅⟩)) fun _ _ h' => h')) fun _ _ h' => h'))

/-- the context of the block -/
def cxC (X : Cx) (N : List Str) (sc : Scope) (C : Addr) (fp : List Addr) (s : Shared) (H : Hp) (xe : Value → Shared → Prop) : Cx :=
  { X with N := N, s₀ := s, H₀ := H, env := compEnvC sc (clGo X.env sc.names []) C X.env, outer := X.stack, ex := fp, fn := fun _ => false, pn := [], xe := xe }
/-- the tests behind if -/
def PIfs (X : Cx) (ifs : List Expr) (t : TT) : Prop :=
  ∀ (pins : List (Addr × Obj)) (s : Shared) (σ : St) (H : Hp) (Q : Bool → Hp → Prop), Inv X pins σ H s → t σ H Q →
    wpAny (model X.prog X.w) X.A (forIn ifs true fun c r => if r = true then do let ok ← isTrue c X.env (eval c X.env); pure (ForInStep.yield ok) else pure (ForInStep.yield r)) (TP X pins σ Q) X.xe s
def tTrue : TT := fun _ H Q => Q true H
theorem pif_nil {X : Cx} : PIfs X [] tTrue := fun pins s σ H Q I h => wpAny_tests_nil ⟨H, I, h⟩
/-- the block's names: the free ones first (each a cell of the def), then the target's -/
structure CompScope (X : Cx) (F T : List Str) (fr : List Nat) (sc : Scope) : Prop where
  kind : sc.kind = .function
  nocell : ∀ y ∈ sc.names, y.2 ≠ .cell
  locals : ∀ y ∈ sc.names, y.2 = .local → sc.names.lookup y.1 = some .local
  frees : ∀ y ∈ sc.names, y.2 = .free → X.env.kindOf y.1 = some .cell
  fnames : ∀ x ∈ F, sc.names.lookup x = some .free
  eqs : fr.map (fun j => X.N[j]?) = F.map some
theorem CompScope.len {X : Cx} {F T : List Str} {fr : List Nat} {sc : Scope} (S : CompScope X F T fr sc) : fr.length = F.length := by
  have := congrArg List.length S.eqs
  simpa using this
theorem CompScope.at_ {X : Cx} {F T : List Str} {fr : List Nat} {sc : Scope} (S : CompScope X F T fr sc) (i : Nat) (x : Str) (h : F[i]? = some x) : ∃ j, fr[i]? = some j ∧ X.N[j]? = some x := by
  have e := congrArg (fun l => l[i]?) S.eqs
  simp only [List.getElem?_map, h, Option.map_some] at e
  cases q : fr[i]? with
  | none => rw [q] at e; cases e
  | some j => rw [q] at e; exact ⟨j, rfl, Option.some.inj e⟩
def compSt (fr : List Nat) (T : List Str) (σ : St) : St := (fr.map fun j => (σ[j]?).join) ++ T.map fun _ => none
def tComp (wi : TI) (fr : List Nat) (T : List Str) (g : TG) (ti : TT) (te : TE) : TE := fun σ H Q => wi σ H fun J H1 => ∀ D, H1 D = none →
  ∃ W : Nat → Nat → St → List V → Hp → Prop, (∃ m, W 0 m (compSt fr T σ) [] (upd H1 D (.lst []))) ∧ ∀ i m σ' xs H', W i m σ' xs H' → H' D = some (.lst xs) ∧
    ((J.stop i H' ∧ Q (.ref D) H') ∨ (J.go i H' ∧ ∃ N : St → List V → Hp → Prop, (∀ σ2 ys H2, N σ2 ys H2 → ∃ m', m' < m ∧ W (i + 1) m' σ2 ys H2) ∧ ∀ x H2, J.yld i H' x H2 → g x σ' H2 fun σ2 H3 => ti σ2 H3 fun b H4 =>
      if b = true then te σ2 H4 fun v H5 => H5 D = some (.lst xs) ∧ xs.length < sizeLine ∧ N σ2 (xs ++ [v]) (upd H5 D (.lst (xs ++ [v]))) else N σ2 xs H4))

theorem cxC_ok {X : Cx} {F T : List Str} {fr : List Nat} {sc : Scope} {pins : List (Addr × Obj)} {σ : St} {H : Hp} {s : Shared} {fp : List Addr} {xe : Value → Shared → Prop} (S : CompScope X F T fr sc) (I : Inv X pins σ H s)
    (hfp : ∀ b ∈ fp, FpOk X pins H b) (hfo : ∀ b ∈ fp, b < s.heap.objs.size) : (cxC X (F ++ T) sc s.heap.objs.size fp s H xe).Ok := by
  have cl : ∀ x c, (clGo X.env sc.names []).lookup x = some c → X.env.cells.lookup x = some c := fun x c e => (clGo_lookup e).resolve_left (by simp)
  refine ⟨I.ok.mod, ?_, I.ok.glob, I.ok.blt, Nat.le_refl _, fun x y c h1 h2 => I.ok.inj x y c (cl _ _ h1) (cl _ _ h2), fun x hx => ?_, fun _ _ h => ?_, I.ok.hd, I.ok.frames, .inl rfl, fun b hb => ⟨Nat.ne_of_lt (hfo b hb), fun x c e => (hfp b hb).2.2.2.2.1 x c (cl _ _ e)⟩, I.bs, Nat.le_trans I.ok.bsz I.sz, fun b o e hb => ?_, fun b hb => ?_, I.stack, I.stkFree⟩
  · show (relabel sc X.env).kind = _
    exact S.kind
  · have hx' : ∃ k, (relabel sc X.env).names.lookup x = some k ∧ (k = .cell ∨ k = .free) := by
      rcases hx with h | h
      · exact ⟨_, h, .inl rfl⟩
      · exact ⟨_, h, .inr rfl⟩
    obtain ⟨k, hk, hkk⟩ := hx'
    obtain ⟨k', h1, h2⟩ := relabel_kind (env := X.env) hk
    have hf : k' = .free := by
      rcases h2 with h2 | h2
      · rcases hkk with z | z
        · exact absurd (by rw [h2, z]) (S.nocell _ (PySem.mem_of_lookup h1))
        · rw [h2, z]
      · exact h2.1
    rw [hf] at h1
    have hm := PySem.mem_of_lookup h1
    refine clGo_has (.inl ⟨hm, ?_⟩)
    exact I.ok.has x (.inl (S.frees _ hm rfl))
  · exact absurd h (by show ¬ (false = true); decide)
  · rcases (hfp b hb).2.2.2.1 with z | z
    · exact I.ok.noex b o e z
    · exact absurd (Nat.lt_of_lt_of_le (Heap.lt_size (I.ok.bs b o e).1) z) (Nat.lt_irrefl _)
  · intro z
    rcases List.mem_cons.mp (I.stkSub b z) with q | q
    · exact (hfp b hb).2.1 q
    · exact (hfp b hb).2.2.1 q

theorem inv_comp {X : Cx} {F T : List Str} {fr : List Nat} {sc : Scope} {pins : List (Addr × Obj)} {σ : St} {H : Hp} {s : Shared} {fp : List Addr} {xe : Value → Shared → Prop} {h4 : Heap} {tk : Nat} {m : Str → Option Value} (S : CompScope X F T fr sc) (I : Inv X pins σ H s)
    (hfp : ∀ b ∈ fp, FpOk X pins H b) (hfo : ∀ b ∈ fp, b < s.heap.objs.size) (hn : h4.Ns s.heap.objs.size m) (k : ∀ b o, s.heap.get? b = some o → h4.get? b = some o) :
    Inv (cxC X (F ++ T) sc s.heap.objs.size fp s H xe) [] (compSt fr T σ) H { s with heap := h4, toks := tk } := by
  have cl : ∀ x c, (clGo X.env sc.names []).lookup x = some c → X.env.cells.lookup x = some c := fun x c e => (clGo_lookup e).resolve_left (by simp)
  refine ⟨cxC_ok S I hfp hfo, rfl, I.bare, Un.kept k, ⟨m, hn, fun i x v h1 h2 h3 => ?_⟩, fun x c e => ?_, I.hok.fresh (Nat.le_refl _), fun x c e => I.freeC x c (cl _ _ e), fun p hp => absurd (show p ∈ ([] : List (Addr × Obj)) from hp) (by simp), I.hok.kept k, ?_⟩
  · have hi : i < fr.length := by
      unfold compSt at h2
      by_cases hi : i < fr.length
      · exact hi
      · rw [List.getElem?_append_right (by simpa using hi), List.getElem?_map] at h2
        cases q : T[i - (fr.map fun j => (σ[j]?).join).length]? with
        | none => rw [q] at h2; cases h2
        | some y => rw [q] at h2; cases h2
    have hF : F[i]? = some x := by
      have h1 : (F ++ T)[i]? = some x := h1
      rw [List.getElem?_append_left (by rw [← S.len]; exact hi)] at h1
      exact h1
    obtain ⟨j, hj, hx⟩ := S.at_ i x hF
    have hv : σ[j]? = some (some v) := by
      unfold compSt at h2
      rw [List.getElem?_append_left (by simpa using hi), List.getElem?_map, hj] at h2
      have h2 : some (σ[j]?).join = some (some v) := h2
      have h2 := Option.some.inj h2
      cases q : σ[j]? with
      | none => rw [q] at h2; cases h2
      | some y => rw [q] at h2; have h2 : y = some v := h2; rw [h2]
    have hmem : x ∈ F := List.mem_of_getElem? hF
    have hfree := S.fnames x hmem
    have hcell : X.env.kindOf x = some .cell := S.frees _ (PySem.mem_of_lookup hfree) rfl
    obtain ⟨m0, _, hl⟩ := I.loc
    obtain ⟨u, ru, lk⟩ := hl j x v hx hv (.inr (.inl hcell))
    refine ⟨u, ru, .inr ⟨relabel_free (env := X.env) hfree, ?_⟩⟩
    rcases lk with ⟨z, _⟩ | ⟨_, c, hc, hic⟩
    · rw [hcell] at z; cases z
    · obtain ⟨c', hc'⟩ := clGo_has (env := X.env) (x := x) (l := sc.names) (cs := []) (.inl ⟨PySem.mem_of_lookup hfree, c, hc⟩)
      have e : c' = c := by have := cl _ _ hc'; rw [hc] at this; exact (Option.some.inj this).symm
      subst e
      obtain ⟨o, ho, hd⟩ := hic
      exact ⟨c', hc', o, k _ _ ho, hd⟩
  · obtain ⟨v, o, ho, hd⟩ := I.cell x c (cl _ _ e)
    exact ⟨v, o, k _ _ ho, hd⟩
  · show (compSt fr T σ).length = (F ++ T).length
    unfold compSt
    rw [List.length_append, List.length_append, List.length_map, List.length_map, S.len]

theorem pe_comp {X : Cx} {F T : List Str} {fr : List Nat} {sc : Scope} {elt target iter : Expr} {ifs : List Expr} {pos : Pos} {wi : TI} {g : TG} {ti : TT} {te : TE} (S : CompScope X F T fr sc) (hc : X.calm = true) (hi : PI X target iter wi)
    (hg : ∀ C fp s H xe, PG (cxC X (F ++ T) sc C fp s H xe) target g) (hti : ∀ C fp s H xe, PIfs (cxC X (F ++ T) sc C fp s H xe) ifs ti) (he : ∀ C fp s H xe, PE (cxC X (F ++ T) sc C fp s H xe) elt te)
    (hs : ∀ x, foldedSetIterable iter X.env x = pure x := by intro _; rfl) : PE X (.ListComp elt [⟨target, iter, ifs, 0⟩] sc pos) (tComp wi fr T g ti te) := by
  intro pins s σ H Q I h
  rw [eval_ListComp]
  refine wpAny_comprehension_free (use := none) rfl hs (closure_ok fun p hp hf => ?_) S.kind S.locals ?_
  · exact I.ok.has p.1 (.inl (S.frees p hp hf))
  refine thn (hi pins s σ H _ I h) fun v s1 h1 => thn h1 fun itv s2 h2 => ?_
  obtain ⟨it, fp, tn, J, H2, e, I2, T2, st2, f2, hD⟩ := h2
  subst e
  have hfo : ∀ b ∈ fp, b < s2.heap.objs.size := fun b hb => by
    obtain ⟨o, e, _⟩ := T2.obj _ _ st2 b hb
    exact Heap.lt_size e
  -- the new list
  refine wpAny_newObj_type ?_
  have hDn : H2 s2.heap.objs.size = none := I2.hok.fresh (Nat.le_refl _)
  obtain ⟨W, ⟨m0, w0⟩, turn⟩ := hD s2.heap.objs.size hDn
  have I3 : Inv X pins σ (upd H2 s2.heap.objs.size (.lst [])) { s2 with heap := s2.heap.push { cls := .type "list", dict := none, data := .seq ([] : List Value).toArray } } :=
    I2.laid (t' := s2.toks) (fun b u e => Heap.get?_push_of_some _ e) (Nat.le_refl _) ⟨Nat.zero_le _, [], 0, .nil, Heap.get?_push_size _ rfl⟩
  generalize hs3 : ({ s2 with heap := s2.heap.push { cls := .type "list", dict := none, data := .seq ([] : List Value).toArray } } : Shared) = s3 at I3
  have hsz3 : s3.heap.objs.size = s2.heap.objs.size + 1 := by rw [← hs3]; exact Heap.size_push _ _
  have neD : ∀ b ∈ fp, b ≠ s2.heap.objs.size := fun b hb => Nat.ne_of_lt (hfo b hb)
  have f3 : ∀ b ∈ fp, FpOk X pins (upd H2 s2.heap.objs.size (.lst [])) b := fun b hb => ⟨by rw [upd_ne (neD b hb)]; exact (f2 b hb).1, (f2 b hb).2⟩
  have hfo3 : ∀ b ∈ fp, b < s3.heap.objs.size := fun b hb => by rw [hsz3]; exact Nat.lt_succ_of_lt (hfo b hb)
  have st3 : tn 0 s3.heap := T2.keep _ _ _ st2 fun b hb o e => by rw [← hs3]; exact Heap.get?_push_of_some _ e
  generalize hDD : s2.heap.objs.size = D at *
  -- the frame
  refine wpAny_newFunctionEnv S.nocell (by intro y hy; simp at hy) (fun h4 hn4 hsb4 => ?_) S.kind
  have old : ∀ b o, s3.heap.get? b = some o → h4.get? b = some o := fun b o e => hsb4.extBut b o (Nat.ne_of_lt (Heap.lt_size e)) (Heap.get?_push_of_some _ e)
  generalize hCC : s3.heap.objs.size = C at *
  let R : Result → Shared → Prop := compPost (model X.prog X.w) X.A X.xe none (EP X pins σ Q) (.ref D) C
  let xe : Value → Shared → Prop := notedBy (model X.prog X.w) X.A (compEnvC sc (clGo X.env sc.names []) C X.env) fun e s' => R (.error e) s'
  have I4 : Inv (cxC X (F ++ T) sc C fp s3 (upd H2 D (.lst [])) xe) [] (compSt fr T σ) (upd H2 D (.lst [])) { s3 with heap := h4, toks := s3.toks + ([] : List (Str × Value)).length } := by
    subst hCC
    exact inv_comp S I3 f3 hfo3 hn4 old
  have st4 : tn 0 h4 := T2.keep _ _ _ st3 fun b hb o e => old b o e
  have stat : ∀ {H' : Hp}, (∀ b ∈ fp, H' b = none) → ∀ b ∈ fp, FpOk (cxC X (F ++ T) sc C fp s3 (upd H2 D (.lst [])) xe) [] H' b := fun {H'} hn b hb => by
    refine ⟨hn b hb, ?_, ?_, .inl hb, fun x c e => ?_, fun p hp => absurd (show p ∈ ([] : List (Addr × Obj)) from hp) (by simp)⟩
    · exact (I4.ok.exf b hb).1
    · exact I4.ok.exfs b hb
    · exact (I4.ok.exf b hb).2 x c e
  have loop : ∀ s5 : Shared, s5 = { s3 with heap := h4, toks := s3.toks + ([] : List (Str × Value)).length } →
      codeAny (model X.prog X.w) X.A (.compLoop (.ListComp elt [⟨target, iter, ifs, 0⟩] sc pos) 0 (.ref it) (.ref D) (compEnvC sc (clGo X.env sc.names []) C X.env)) R s5 := by
    rintro s5 rfl
    refine compLoop_any (fun n s' => ∃ i σ' xs H', Inv (cxC X (F ++ T) sc C fp s3 (upd H2 D (.lst [])) xe) [] σ' H' s' ∧ tn i s'.heap ∧ (∀ b ∈ fp, H' b = none) ∧ W i n σ' xs H') ?_ m0 ⟨0, _, [], _, I4, st4, fun b hb => (f3 b hb).1, w0⟩
    rintro n s6 ⟨i, σ6, xs, H6, I6, st6, fr6, w6⟩
    obtain ⟨hD6, tt⟩ := turn i n σ6 xs H6 w6
    rcases tt with ⟨stop, qn⟩ | ⟨go, NN, hNN, step⟩
    · refine thn (T2.done (cxC X (F ++ T) sc C fp s3 (upd H2 D (.lst [])) xe) rfl rfl rfl hc i [] s6 σ6 H6 xe I6 (stat fr6) st6 stop) fun r s7 ⟨hr, I7⟩ => ?_
      subst hr
      obtain ⟨m7, hn7, _⟩ := I7.loc
      refine ⟨m7, hn7, fun h8 hsb => ⟨.ref D, H6, ?_, rfl, qn⟩⟩
      have hCn : H6 C = none := I7.free
      have un8 : Un (frs X.stack) fp (upd H2 D (.lst [])) H6 s3.heap h8 := by
        have u7 : Un (frs X.stack) fp (upd H2 D (.lst [])) H6 s3.heap s7.heap := I7.base
        have nC : ∀ b o, s3.heap.get? b = some o → b ≠ C := fun b o e => by rw [← hCC]; exact Nat.ne_of_lt (Heap.lt_size e)
        refine ⟨fun b o e n hb hx => (hsb.2 b (nC b o e)).trans (u7.keep b o e n hb hx), fun b o e n hb hx => ?_, u7.free, fun b o e hx => ?_, u7.tups, u7.frzs, u7.tbls⟩
        · obtain ⟨sl, q⟩ := u7.slot b o e n hb hx
          exact ⟨sl, (hsb.2 b (nC b o e)).trans q⟩
        · obtain ⟨o', q⟩ := u7.there b o e hx
          exact ⟨o', (hsb.2 b (nC b o e)).trans q⟩
      have hok8 : HOk X.prog X.w H6 h8 := fun b ob e => by
        refine (I7.hok b ob e).stay (fun c w' hc q => (hsb.2 c ?_).trans q) (fun _ q => q) fun _ _ q => q
        rintro rfl
        rcases hc with rfl | hc
        · rw [hCn] at e; cases e
        · rw [hCn] at hc; cases hc
      refine I3.call' (s' := { s7 with heap := h8 }) (H' := H6) (ch := fp) I7.os un8 hok8 I7.bare fun b hb => ?_
      obtain ⟨_, q1, _, q2, q3, q4⟩ := f3 b hb
      exact ⟨q2, q1, q3, q4⟩
    · refine thn (T2.item (cxC X (F ++ T) sc C fp s3 (upd H2 D (.lst [])) xe) rfl rfl rfl hc i [] s6 σ6 H6 xe I6 (stat fr6) st6 go) fun r s7 ⟨u, hr, h7⟩ => ?_
      subst hr
      refine thn h7 fun _ s8 ⟨x, H8, I8, r8, y8, st8, fr8⟩ => ?_
      have I8' := I8.pinned (stat fr8) (T2.obj _ _ st8)
      have back : ∀ {s9 : Shared} {σ9 : St} {H9 : Hp}, Inv (cxC X (F ++ T) sc C fp s3 (upd H2 D (.lst [])) xe) ([] ++ pinsAt fp s8.heap) σ9 H9 s9 → Inv (cxC X (F ++ T) sc C fp s3 (upd H2 D (.lst [])) xe) [] σ9 H9 s9 ∧ tn (i + 1) s9.heap ∧ ∀ b ∈ fp, H9 b = none := fun {s9 σ9 H9} I9 => by
        refine ⟨I9.unpinned, T2.keep _ _ _ st8 fun b hb o e => (I9.pin (b, o) (List.mem_append_right _ (List.mem_append_right _ (mem_pinsAt hb e)))).1, fun b hb => ?_⟩
        obtain ⟨o, e, d⟩ := T2.obj _ _ st8 b hb
        exact (I9.pin (b, o) (List.mem_append_right _ (List.mem_append_right _ (mem_pinsAt hb e)))).2.1
      refine thn (hg C fp s3 _ xe _ s8 σ6 H8 x u _ I8' r8 (step x H8 y8)) fun _ s9 ⟨σ9, H9, I9, q9⟩ => ?_
      refine thn (hti C fp s3 _ xe _ s9 σ9 H9 _ I9 q9) fun ok s10 ⟨H10, I10, q10⟩ => ?_
      cases ok with
      | false =>
        rw [if_neg Bool.false_ne_true] at q10 ⊢
        obtain ⟨m', hm, w'⟩ := hNN _ _ _ q10
        obtain ⟨b1, b2, b3⟩ := back I10
        exact ⟨m', hm, i + 1, σ9, xs, H10, b1, b2, b3, w'⟩
      | true =>
        rw [if_pos rfl] at q10 ⊢
        refine thn (he C fp s3 _ xe _ s10 σ9 H10 _ I10 q10) fun x11 s11 ⟨v11, H11, I11, r11, hD11, hz, q11⟩ => ?_
        obtain ⟨m', hm, w'⟩ := hNN _ _ _ q11
        refine thn (mt_append _ s11 σ9 H11 (.ref D) [v11] (.ref D) [x11] (fun _ H' => H' = upd H11 D (.lst (xs ++ [v11]))) I11 rfl (.cons r11 .nil) ⟨D, xs, v11, rfl, rfl, hD11, hz, rfl⟩) fun _ s12 ⟨_, H12, I12, _, e12⟩ => ?_
        subst e12
        obtain ⟨b1, b2, b3⟩ := back I12
        exact ⟨m', hm, i + 1, σ9, _, _, b1, b2, b3, w'⟩
  have st5 : codeAny (model X.prog X.w) X.A (.compStart (.ListComp elt [⟨target, iter, ifs, 0⟩] sc pos) 0 (.ref it) (.ref D) (compEnvC sc (clGo X.env sc.names []) C X.env)) R { s3 with heap := h4, toks := s3.toks + ([] : List (Str × Value)).length } :=
    codeAny_compStart_list (loop _ rfl) (T2.self _ 0 _ _ _ st4 (loop _ rfl))
  subst hs3
  exact st5

/-! ### the forms one uses -/
end L2

set_option Elab.async false
set_option linter.all false
set_option maxRecDepth 100000
namespace L2
open PySem PySem.Spec PyProof.Rows
section
variable {X : Cx}

/-! ### a cut between two statements: what holds there is said once -/
def tCut (t u : TS) : TS := fun D σ H => ∃ Pv : St → Hp → Prop, t { D with nx := Pv } σ H ∧ ∀ σ' H', Pv σ' H' → u D σ' H'
theorem pss_cut {st : Stmt} {rest : List Stmt} {t u : TS} (h1 : PS X st t) (h2 : PSs X rest u) : PSs X (st :: rest) (tCut t u) := by
  intro pins s σ H D I h
  obtain ⟨Pv, ha, hb⟩ := h
  refine wpAny_execs_cons (thn (h1 pins s σ H { D with nx := Pv } I ha) fun f s1 q => ?_)
  cases f with
  | next =>
    obtain ⟨σ', H', I', q⟩ := q
    exact h2 pins s1 σ' H' D I' (hb σ' H' q)
  | ret v => exact q
  | brk => exact q
  | cont => exact q
/-! ### cuts of a text -/
/-! ### methods of a text -/
/-! ### a text some times -/
/-! ### all, isinstance -/
/-! ### two lists -/
end
end L2

set_option Elab.async false
set_option linter.all false
set_option maxRecDepth 100000
set_option maxHeartbeats 4000000
namespace L2
open PySem PySem.Spec PyProof.Rows

/-! ### several records turn at once -/
theorem Inv.turnedL {X : Cx} {pins : List (Addr × Obj)} {σ : St} {H : Hp} {s : Shared} {h' : Heap} {t' : Nat} {fp : List Addr} (I : Inv X pins σ H s) (k : ∀ b o, b ∉ fp → s.heap.get? b = some o → h'.get? b = some o)
    (hf : ∀ b ∈ fp, FpOk X pins H b) : Inv X pins σ H { s with heap := h', toks := t' } := by
  refine I.step (g' := s.gens) (d' := s.drawn) (ch := fp) (fun b hb => ?_) (fun b o _ _ hc e _ => k b o hc e) (fun b o _ _ hc e _ => ⟨o.slots, k b o hc e⟩) (fun _ _ _ _ n => n)
    (fun b o hc e => ⟨o, k b o hc e⟩) (fun _ _ e => e) (fun _ _ _ e => e) (fun b ps e => ⟨#[], by rw [e]; simp⟩) (fun m hm => ?_) (fun b u e => ?_) I.bare
  · obtain ⟨f0, f1, f2, f3, f4, f5⟩ := hf b hb
    exact ⟨f3, f1, f4, f5⟩
  · obtain ⟨o, es, ep, ho, r⟩ := hm
    exact ⟨o, es, ep, k _ o (fun z => (hf _ z).2.1 rfl) ho, r⟩
  · refine (I.hok b u e).stay (fun c v hc q => k c v (fun z => ?_) q) (fun _ q => q) fun _ _ q => q
    have f0 := (hf c z).1
    rcases hc with z' | z'
    · rw [z', e] at f0; cases f0
    · rw [z'] at f0; cases f0

/-! ### sources: a list or a tuple (κ = true) -/
def SqK (K : PySem.W.Frag) (κ : Bool) (H : Hp) (a : Addr) (xs : List V) : Prop := match κ with | true => SqT K H a xs | false => SqL K H a xs
def SrcIt (κ : Bool) (h : Heap) (it a : Addr) (i : Nat) : Prop := match κ with | true => h.IsTupleIter it a i | false => h.IsListIter it a i
def SrcOf (κ : Bool) (h : Heap) (a : Addr) (its : Array Value) : Prop := match κ with | true => h.IsTuple a its | false => h.IsList a its
theorem SrcIt.obj {κ : Bool} {h : Heap} {it a : Addr} {i : Nat} (st : SrcIt κ h it a i) : ∃ o, h.get? it = some o ∧ ∀ v, o.data ≠ .cell v := by
  cases κ with
  | true => obtain ⟨o, e, c, d⟩ := st; exact ⟨o, e, fun v z => by rw [d] at z; cases z⟩
  | false => obtain ⟨o, e, c, d⟩ := st; exact ⟨o, e, fun v z => by rw [d] at z; cases z⟩
theorem SrcIt.at_ {κ : Bool} {h h' : Heap} {it a : Addr} {i : Nat} (st : SrcIt κ h it a i) (k : ∀ o, h.get? it = some o → h'.get? it = some o) : SrcIt κ h' it a i := by
  cases κ with
  | true => obtain ⟨o, e, r⟩ := st; exact ⟨o, k o e, r⟩
  | false => obtain ⟨o, e, r⟩ := st; exact ⟨o, k o e, r⟩
theorem SrcOf.at_ {κ : Bool} {h h' : Heap} {a : Addr} {its : Array Value} (st : SrcOf κ h a its) (k : ∀ o, h.get? a = some o → h'.get? a = some o) : SrcOf κ h' a its := by
  cases κ with
  | true => obtain ⟨o, e, r⟩ := st; exact ⟨o, k o e, r⟩
  | false => obtain ⟨o, e, r⟩ := st; exact ⟨o, k o e, r⟩
theorem SrcIt.ne {κ : Bool} {h : Heap} {it a : Addr} {i : Nat} {its : Array Value} (st : SrcIt κ h it a i) (so : SrcOf κ h a its) : a ≠ it := by
  intro z
  subst z
  cases κ with
  | true =>
    obtain ⟨o, e, c, d⟩ := st
    obtain ⟨o', e', c', _⟩ := so
    rw [e] at e'; cases e'
    rw [c] at c'
    exact absurd c' (by decide)
  | false =>
    obtain ⟨o, e, c, d⟩ := st
    obtain ⟨o', e', c', _⟩ := so
    rw [e] at e'; cases e'
    rw [c] at c'
    exact absurd c' (by decide)
section
variable {prog : Program} {w : World} {A : Around} {E : Value → Shared → Prop} {s : Shared}
theorem nextT_item {j tp : Addr} {n : Nat} {vs : Array Value} {v : Value} {Q : Value → Shared → Prop} (hj : s.heap.IsTupleIter j tp n) (hp : s.heap.IsTuple tp vs) (hv : vs[n]? = some v)
    (k : ∀ h', h'.IsTupleIter j tp (n + 1) → Heap.SameBut j s.heap h' → Q v { s with heap := h' }) : wpAny (model prog w) A (Builtin.SmallTypes.nextOf (.ref j)) Q E s := by
  obtain ⟨oj, ej, cj, dj⟩ := id hj
  obtain ⟨op, ep, _, m, dp⟩ := hp
  have hn : ¬ ((Value.ref tp == Value.none) = true) := Bool.false_ne_true
  unfold Builtin.SmallTypes.nextOf
  refine wpAny_bind (wpAny_callSpecial?_slot (name := Str.ofString "__next__") hj.typeIs F.slot_tuple_iterator_next (wpAny_call_entry F.slot_tuple_iterator_next hj.typeIs F.entry_tuple_iterator_next ?_ (F.args_tuple_iterator_next_1 _)))
  show wpAny _ _ (field (.ref j) 0 >>= _) _ _ s
  refine wpAny_bind (wpAny_field ej dj (x := .ref tp) rfl ?_)
  show wpAny _ _ (if (Value.ref tp == Value.none) = true then _ else _) _ _ s
  rw [if_neg hn]
  show wpAny _ _ (field (.ref j) 1 >>= _) _ _ s
  refine wpAny_bind (wpAny_field ej dj (x := .int n 0) rfl ?_)
  show wpAny _ _ (seqItems? (.ref tp) >>= _) _ _ s
  refine wpAny_bind (wpAny_seqItems ep dp ?_)
  simp only [Int.toNat_natCast, hv]
  refine wpAny_bind (wpAny_setField ej dj (by simp) (wpAny_pure ⟨v, rfl, wpAny_pure (k _ ⟨_, Heap.get?_update_self _ ej (Obj.isFreed_of_fields (Obj.data_mapFields dj _)), (Obj.cls_mapFields ..).trans cj, ?_⟩ (Heap.SameBut.update ..))⟩))
  rw [Obj.data_mapFields dj]
  simp [rawInt]
theorem nextT_end {j tp : Addr} {n : Nat} {vs : Array Value} {Q : Value → Shared → Prop} (hh : A.handled = none) (hj : s.heap.IsTupleIter j tp n) (hp : s.heap.IsTuple tp vs) (hv : vs[n]? = none)
    (k : ∀ h' x, Heap.ExtBut j s.heap h' → (∃ o, h'.get? x = some o ∧ o.cls = .type "StopIteration") → E (.ref x) { s with heap := h' }) : wpAny (model prog w) A (Builtin.SmallTypes.nextOf (.ref j)) Q E s := by
  obtain ⟨oj, ej, cj, dj⟩ := id hj
  obtain ⟨op, ep, _, m, dp⟩ := hp
  have hn : ¬ ((Value.ref tp == Value.none) = true) := Bool.false_ne_true
  unfold Builtin.SmallTypes.nextOf
  refine wpAny_bind (wpAny_callSpecial?_slot (name := Str.ofString "__next__") hj.typeIs F.slot_tuple_iterator_next (wpAny_call_entry F.slot_tuple_iterator_next hj.typeIs F.entry_tuple_iterator_next ?_ (F.args_tuple_iterator_next_1 _)))
  show wpAny _ _ (field (.ref j) 0 >>= _) _ _ s
  refine wpAny_bind (wpAny_field ej dj (x := .ref tp) rfl ?_)
  show wpAny _ _ (if (Value.ref tp == Value.none) = true then _ else _) _ _ s
  rw [if_neg hn]
  show wpAny _ _ (field (.ref j) 1 >>= _) _ _ s
  refine wpAny_bind (wpAny_field ej dj (x := .int n 0) rfl ?_)
  show wpAny _ _ (seqItems? (.ref tp) >>= _) _ _ s
  refine wpAny_bind (wpAny_seqItems ep dp ?_)
  simp only [Int.toNat_natCast, hv]
  refine wpAny_bind (wpAny_rule (wpAny_bind (wpAny_setField ej dj (by simp) ?_)))
  show wpAny _ _ (newExc (.type "StopIteration") [] >>= _) _ _ _
  refine wpAny_bind ?_
  simp only [newExc, newTuple]
  refine wpAny_bind (wpAny_newObj_type ?_ (by size_fits))
  refine wpAny_bind (m := firstArgMember _ _) (wpAny_of_eq (a := Value.none) (by first | rfl | (simp only [firstArgMember]; rfl)) (wpAny_newObj_type ?_ (by size_fits)))
  simp only [raiseNew]
  refine wpAny_bind (wpAny_handled ?_)
  first | rw [show A.in1.handled = none from hh] | rw [hh]
  exact wpAny_bind (wpAny_pure (wpAny_throw (k _ _ (((Heap.SameBut.update ..).extBut.push _).push _) ⟨_, Heap.get?_push_size _ rfl, rfl⟩)))
end
theorem draws_src {P : Program} {w : World} {A : Around} (hh : A.handled = none) (κ : Bool) (it a : Addr) (hne : a ≠ it) (its : Array Value) :
    Draws P w A it [it, a] its.size (fun i v => its[i]? = some v) (fun i h => SrcIt κ h it a i ∧ SrcOf κ h a its) := by
  cases κ with
  | false => exact Draws.list hh it a hne its
  | true =>
    exact { live := fun i h st => let ⟨o, e, _⟩ := st.1; ⟨o, e⟩
            frame := fun i h h' st k => ⟨st.1.at_ fun o e => k it (by simp) o e, st.2.at_ fun o e => k a (by simp) o e⟩
            item := fun i s Q E hi st k => nextT_item st.1 st.2 (v := its[i]) (by simp [hi]) fun h' st' sb => k _ h' s.toks (by simp [hi]) ⟨st', Heap.IsTuple.extBut st.2 sb.extBut hne⟩ sb
            done := fun s Q E st k => nextT_end hh st.1 st.2 (by simp) k }
theorem draws_shift {P : Program} {w : World} {A : Around} {it : Addr} {fp : List Addr} {n : Nat} {Y : Nat → Value → Prop} {St : Nat → Heap → Prop} (D : Draws P w A it fp n Y St) (k : Nat) :
    Draws P w A it fp (n + k) (fun i v => Y (i - k) v) (fun i h => k ≤ i ∧ St (i - k) h) where
  live := fun i h st => D.live _ _ st.2
  frame := fun i h h' st q => ⟨st.1, D.frame _ _ _ st.2 q⟩
  item := fun i s Q E hi st q => D.item (i - k) s Q E (by have := st.1; omega) st.2 fun x h' tk p st' sb => q x h' tk p ⟨Nat.le_succ_of_le st.1, by rw [Nat.succ_sub st.1]; exact st'⟩ sb
  done := fun s Q E st q => D.done s Q E (by have := st.2; rwa [Nat.add_sub_cancel] at this) q
/-- what a source holds -/
theorem Inv.src {X : Cx} {pins : List (Addr × Obj)} {σ : St} {H : Hp} {s : Shared} {κ : Bool} {a : Addr} {xs : List V} (I : Inv X pins σ H s) (h : SqK X.K κ H a xs) : ∃ its : List Value, Vals xs its ∧ SrcOf κ s.heap a its.toArray ∧ xs.length ≤ sizeLine := by
  cases κ with
  | true =>
    obtain ⟨its, r, p, z⟩ := I.tuple h
    exact ⟨its, r, p, z⟩
  | false =>
    obtain ⟨its, r, p, z⟩ := I.list h
    exact ⟨its, r, p.isList, z⟩
theorem Inv.src_inj {X : Cx} {pins : List (Addr × Obj)} {σ : St} {H : Hp} {s : Shared} {κ : Bool} {a : Addr} {xs ys : List V} (I : Inv X pins σ H s) (h : SqK X.K κ H a xs) (h' : SqK X.K κ H a ys) : xs = ys := by
  cases κ with
  | true => exact I.tuple_inj h h'
  | false => exact I.list_inj h h'

/-! ### enumerate -/
/-- pairs of a number (from st) and an item, each a new tuple -/
def Ite (K : PySem.W.Frag) (κ : Bool) (a : Addr) (st : Nat) : It :=
  ⟨fun i H => ∃ xs x, SqK K κ H a xs ∧ xs[i]? = some x, fun i H y H' => ∃ T x, H T = none ∧ y = .ref T ∧ H' = upd H T (.tup [.int ((st + i : Nat) : Int), x]) ∧ ∀ xs, SqK K κ H a xs → xs[i]? = some x, fun i H => ∃ xs, SqK K κ H a xs ∧ xs.length = i⟩
/-- a new pair is laid, the records at fp turn -/
theorem Inv.paired {X : Cx} {pins : List (Addr × Obj)} {σ : St} {H : Hp} {s : Shared} {h' : Heap} {t' : Nat} {fp : List Addr} {x y : V} {u v : Value} (I : Inv X pins σ H s) (hf : ∀ b ∈ fp, FpOk X pins H b) (rx : RelV x u) (ry : RelV y v)
    (lt : ∀ b ∈ fp, b < s.heap.objs.size) (hT : h'.get? s.heap.objs.size = some { cls := .type "tuple", data := .seq #[u, v] }) (k : ∀ b o, b ∉ fp → s.heap.get? b = some o → h'.get? b = some o) :
    Inv X pins σ (upd H s.heap.objs.size (.tup [x, y])) { s with heap := h', toks := t' } ∧ ∀ b ∈ fp, upd H s.heap.objs.size (.tup [x, y]) b = none := by
  have ne : ∀ b ∈ fp, b ≠ s.heap.objs.size := fun b hb => Nat.ne_of_lt (lt b hb)
  have fr : ∀ b ∈ fp, upd H s.heap.objs.size (.tup [x, y]) b = none := fun b hb => by rw [upd_ne (ne b hb)]; exact (hf b hb).1
  have I1 := I.laid (h' := s.heap.push { cls := .type "tuple", data := .seq #[u, v] }) (t' := t') (a := s.heap.objs.size) (o := .tup [x, y]) (fun b o e => Heap.get?_push_of_some _ e) (Nat.le_refl _)
    (show ObjOk X.prog X.w _ _ _ (.tup [x, y]) from ⟨(by show 2 ≤ sizeLine; decide), [u, v], .cons rx (.cons ry .nil), IsTup.new _ _⟩)
  refine ⟨Inv.turnedL (s := { s with heap := s.heap.push { cls := .type "tuple", data := .seq #[u, v] }, toks := t' }) (t' := t') (fp := fp) I1 (fun b o hb e => ?_) fun b hb => ⟨fr b hb, (hf b hb).2⟩, fr⟩
  have e : (s.heap.push { cls := .type "tuple", data := .seq #[u, v] }).get? b = some o := e
  by_cases z : b = s.heap.objs.size
  · subst z
    rw [Heap.get?_push_size _ rfl] at e
    cases e
    exact hT
  · rw [Heap.get?_push_ne _ _ _ z] at e
    exact k b o hb e
theorem turn_enum {P : Program} {w : World} {K : PySem.W.Frag} {elts : List Expr} {x1} {pos : Pos} (κ : Bool) (a e it : Addr) (st : Nat) (hne : e ≠ it) :
    Turn P w K (.Tuple elts x1 pos) (Ite K κ a st) [e, it] e (fun i h => (∃ old, IsEnum h e it ((st + i : Nat) : Int) old) ∧ SrcIt κ h it a i) where
  mem := by simp
  obj := fun i h t b hb => by
    obtain ⟨⟨old, he⟩, hi⟩ := t
    rcases List.mem_cons.mp hb with rfl | hb
    · exact ⟨_, he, fun v z => by cases z⟩
    · rw [List.mem_singleton.mp hb]
      exact hi.obj
  keep := fun i h h' t k => by
    obtain ⟨⟨old, he⟩, hi⟩ := t
    exact ⟨⟨old, k e (by simp) _ he⟩, hi.at_ fun o q => k it (by simp) o q⟩
  item := by
    intro X hP hw hK hc i pins s σ H E I hf t hg
    subst hP hw hK
    obtain ⟨⟨old, he⟩, hi⟩ := t
    obtain ⟨xs, x, hq, hx⟩ := hg
    obtain ⟨its, rv, so, hz⟩ := I.src hq
    obtain ⟨u, hu, ru⟩ := rv.get hx
    have hai := hi.ne so
    have hae : e ≠ a := fun z => by
      subst z
      cases κ with
      | true => obtain ⟨o', e', c', _⟩ := so; rw [he] at e'; cases e'; exact absurd (show Value.type "enumerate" = Value.type _ from c') (by decide)
      | false => obtain ⟨o', e', c', _⟩ := so; rw [he] at e'; cases e'; exact absurd (show Value.type "enumerate" = Value.type _ from c') (by decide)
    have hlt : i < its.toArray.size := by
      have := (List.getElem?_eq_some_iff.mp hu).1
      simpa using this
    have D := draws_shift (draws_src (P := X.prog) (w := X.w) (A := X.A.in1) (show X.A.in1.handled = none from I.ok.hd hc) κ it a hai its.toArray) st
    have hst : st ≤ st + i ∧ (SrcIt κ s.heap it a (st + i - st) ∧ SrcOf κ s.heap a its.toArray) := ⟨Nat.le_add_right _ _, by rw [Nat.add_sub_cancel_left]; exact hi, so⟩
    refine wpAny_pyNext_enum_itemD (i := st + i) D he hst (by omega) hne (by simp; exact ⟨hne, hae⟩) fun v h' tk hv out st' hT hsz kk => ⟨_, rfl, ?_⟩
    have ev : v = u := by
      have hv' : its.toArray[st + i - st]? = some v := hv
      rw [Nat.add_sub_cancel_left] at hv'
      have hu' : its.toArray[i]? = some u := by simpa using hu
      rw [hu'] at hv'
      exact (Option.some.inj hv').symm
    subst ev
    refine wpAny_letOwnedTupleGo_enum (s := { s with heap := h', toks := tk + 1 }) out fun h2 he2 sb2 => ?_
    have sb2 : Heap.SameBut e h' h2 := sb2
    have elt : e < s.heap.objs.size := Heap.lt_size he
    have ilt : it < s.heap.objs.size := by obtain ⟨o, q, _⟩ := hi.obj; exact Heap.lt_size q
    obtain ⟨I2, fr⟩ := I.paired (h' := h2) (t' := tk + 1) (fp := [e, it]) (x := .int ((st + i : Nat) : Int)) (y := x) (u := .int ((st + i : Nat) : Int) tk) (v := v) hf ⟨_, rfl⟩ ru
      (fun b hb => by
        rcases List.mem_cons.mp hb with rfl | hb
        · exact elt
        · rw [List.mem_singleton.mp hb]; exact ilt)
      ((sb2.2 _ (Nat.ne_of_gt elt)).trans hT) (fun b o hb q => (sb2.2 b fun z => hb (by simp [z])).trans (kk b o (fun z => hb (by simp [z])) (fun z => hb (by simp [z])) q))
    refine ⟨.ref s.heap.objs.size, _, I2, rfl, ⟨s.heap.objs.size, x, I.hok.fresh (Nat.le_refl _), rfl, rfl, fun ys hy => by rw [I.src_inj hy hq]; exact hx⟩, ⟨⟨v, ?_⟩, ?_⟩, fr⟩
    · have e1 : ((st + (i + 1) : Nat) : Int) = ((st + i : Nat) : Int) + 1 := by omega
      rw [e1]
      exact he2
    · have q := st'.2.1
      have e2 : st + i + 1 - st = i + 1 := by omega
      rw [e2] at q
      exact q.at_ fun o z => (sb2.2 it hne.symm).trans z
  done := by
    intro X hP hw hK hc i pins s σ H E I hf t hg
    subst hP hw hK
    obtain ⟨⟨old, he⟩, hi⟩ := t
    obtain ⟨xs, hq, hx⟩ := hg
    obtain ⟨its, rv, so, hz⟩ := I.src hq
    have hai := hi.ne so
    have D := draws_src (P := X.prog) (w := X.w) (A := X.A.in1) (show X.A.in1.handled = none from I.ok.hd hc) κ it a hai its.toArray
    have hn : its.toArray.size = i := by
      have := rv.length
      simp
      omega
    exact wpAny_pyNext_enum_endD D he (by rw [hn]; exact ⟨hi, so⟩) fun h' eb => ⟨rfl, I.turnedL (fp := [e, it]) (t' := s.toks) (fun b o hb q => eb b o (fun z => hb (by simp [z])) q) hf⟩
  self := fun _ _ _ _ _ t h => let ⟨⟨_, he⟩, _⟩ := t; wpAny_pyIter_enum he h
end L2

set_option Elab.async false
set_option linter.all false
set_option maxRecDepth 100000
set_option maxHeartbeats 4000000
namespace L2
open PySem PySem.Spec PyProof.Rows
section
variable {X : Cx}
/-! ### f-strings -/
/-! ### list.insert -/
/-! ### enumerate -/
theorem boot_enumerate : bootBuiltins "enumerate" = some (.type "enumerate") := by decide +kernel
def iEn (K : PySem.W.Frag) (st : Nat) (ta : TA) : TI := fun σ H R => ta σ H fun vs H1 => ∃ a xs, vs = [.ref a] ∧ SqL K H1 a xs ∧ R (Ite K false a st) H1
theorem enum_it {pins : List (Addr × Obj)} {s : Shared} {σ : St} {H : Hp} {R : It → Hp → Prop} {elts : List Expr} {x1} {tp : Pos} {a : Addr} {st : Nat} {h' : Heap} (I : Inv X pins σ H s) (he : IsEnum h' (s.heap.objs.size + 1) s.heap.objs.size ((st : Nat) : Int) .none)
    (hi : h'.IsListIter s.heap.objs.size a 0) (k : ∀ b o, s.heap.get? b = some o → h'.get? b = some o) (q : R (Ite X.K false a st) H) :
    wpAny (model X.prog X.w) X.A (pyIter (.ref (s.heap.objs.size + 1))) (PIE X pins σ (.Tuple elts x1 tp) R) X.xe { s with heap := h' } := by
  refine wpAny_pyIter_enum he ?_
  refine ⟨s.heap.objs.size + 1, [s.heap.objs.size + 1, s.heap.objs.size], _, Ite X.K false a st, H, rfl, I.kept (t' := s.toks) k, turn_enum false a _ _ st (Nat.succ_ne_self _), ⟨⟨.none, he⟩, hi⟩, fun b hb => ?_, q⟩
  rcases List.mem_cons.mp hb with rfl | hb
  · exact I.fpOk (Nat.le_succ _) (I.hok.fresh (Nat.le_succ _))
  · rw [List.mem_singleton.mp hb]
    exact I.fpOk (Nat.le_refl _) (I.hok.fresh (Nat.le_refl _))
theorem pi_enum {a : Expr} {ta : TA} {p pos tp : Pos} {elts : List Expr} {x1} (hg : Gl X "enumerate") (hm : X.mg "enumerate" = none) (ha : PA X [a] ta) (hs : starEach [a] X.env = [(false, eval a X.env)] := by rfl) :
    PI X (.Tuple elts x1 tp) (.Call (.Name "enumerate" p) [a] [] pos) (iEn X.K 0 ta) := by
  intro pins s σ H R I h
  refine Call_ (ld_blt I hg hm boot_enumerate (PyProof.Rows.callWith_type1 (thn (ha pos pins s σ H _ I h) fun us s1 ⟨vs, H1, I1, r1, l, xs, ev, hl, q⟩ => ?_) hs rfl))
  subst ev
  obtain ⟨u, rfl, ru⟩ := r1.one
  cases (show u = Value.ref l from ru)
  obtain ⟨its, r, pl, hz⟩ := I1.list hl
  exact call_enumerate_list pl.isList fun h' he hi _ k => enum_it I1 he hi k q
theorem for_enum {K : PySem.W.Frag} {κ : Bool} {a : Addr} {xs : List V} {st : Nat} {g : TG} {tb : TS} {D : Ends} {σ : St} {H : Hp} (Pv : Nat → St → Hp → Prop) (h0 : Pv 0 σ H) (hl : ∀ i σ H, i ≤ xs.length → Pv i σ H → SqK K κ H a xs)
    (hs : ∀ i x σ H T, xs[i]? = some x → Pv i σ H → H T = none → g (.ref T) σ (upd H T (.tup [.int ((st + i : Nat) : Int), x])) fun σ2 H2 => tb { D with nx := Pv (i + 1), ct := Pv (i + 1), bk := D.nx } σ2 H2) (hd : ∀ σ H, Pv xs.length σ H → D.nx σ H) :
    ∃ W : Nat → Nat → St → Hp → Prop, (∃ m, W 0 m σ H) ∧ ∀ i m σ H, W i m σ H →
      ((Ite K κ a st).stop i H ∧ D.nx σ H) ∨ ((Ite K κ a st).go i H ∧ ∃ N : St → Hp → Prop, (∀ σ' H', N σ' H' → ∃ m', m' < m ∧ W (i + 1) m' σ' H') ∧ ∀ x H', (Ite K κ a st).yld i H x H' → g x σ H' fun σ2 H2 => tb { D with nx := N, ct := N, bk := D.nx } σ2 H2) := by
  refine ⟨fun i m σ H => m = xs.length - i ∧ i ≤ xs.length ∧ Pv i σ H, ⟨xs.length, by simp, Nat.zero_le _, h0⟩, ?_⟩
  rintro i m σ H ⟨rfl, hi, p⟩
  have q := hl i σ H hi p
  by_cases hlt : i < xs.length
  · refine .inr ⟨⟨xs, xs[i], q, by simp [hlt]⟩, Pv (i + 1), fun σ' H' p' => ⟨xs.length - (i + 1), by omega, rfl, hlt, p'⟩, fun x H' y => ?_⟩
    obtain ⟨T, y, hT, rfl, rfl, hy⟩ := y
    exact hs i y σ _ T (hy xs q) p hT
  · have e : i = xs.length := by omega
    subst e
    exact .inl ⟨⟨xs, q, rfl⟩, hd σ H p⟩
end
end L2

set_option Elab.async false
set_option linter.all false
set_option maxRecDepth 100000
set_option maxHeartbeats 4000000
namespace L2
open PySem PySem.Spec PyProof.Rows
/-! ### zip of two sources -/
structure Apart (Z TI TO i1 i2 : Addr) (fp1 fp2 : List Addr) : Prop where
  a1 : TI ≠ Z
  a2 : TO ≠ Z
  a3 : TI ≠ TO
  a4 : TI ≠ i1
  a5 : TI ≠ i2
  a6 : TO ≠ i1
  a7 : TO ≠ i2
  a8 : i1 ≠ i2
  a9 : i1 ≠ Z
  a10 : i2 ≠ Z
  b1 : Z ∉ fp1
  b2 : TO ∉ fp1
  b3 : i2 ∉ fp1
  c1 : Z ∉ fp2
  c2 : TO ∉ fp2
  c3 : i1 ∉ fp2
section
variable {prog : Program} {w : World} {A : Around} {E : Value → Shared → Prop} {s : Shared} {Z TI TO i1 i2 : Addr} {fp1 fp2 : List Addr} {n1 n2 k : Nat} {Y1 Y2 : Nat → Value → Prop} {S1 S2 : Nat → Heap → Prop} {p q : Value}
end
section
variable {prog : Program} {w : World} {A : Around} {E : Value → Shared → Prop} {s : Shared} {Z TI TO i1 i2 : Addr} {fp1 fp2 : List Addr} {n1 n2 k : Nat} {Y1 Y2 : Nat → Value → Prop} {S1 S2 : Nat → Heap → Prop} {p q : Value}
end
/-! ### zip(a, b): made -/
theorem SrcOf.lt {κ : Bool} {h : Heap} {a : Addr} {its : Array Value} (st : SrcOf κ h a its) : a < h.objs.size := by
  cases κ with
  | true => obtain ⟨o, e, _⟩ := st; exact Heap.lt_size e
  | false => obtain ⟨o, e, _⟩ := st; exact Heap.lt_size e
section
variable {X : Cx}
end
end L2

set_option Elab.async false
set_option linter.all false
set_option maxRecDepth 100000
set_option maxHeartbeats 4000000
namespace L2
open PySem PySem.Spec PyProof.Rows
open AutoSeq1 (wpAny_loadPart')
/-! ### enumerate(xs, start=1) -/
section
variable {prog : Program} {w : World} {A : Around} {E : Value → Shared → Prop} {s : Shared}
end
section
variable {X : Cx}
end
end L2

set_option Elab.async false
set_option linter.all false
set_option maxRecDepth 100000
set_option maxHeartbeats 4000000
namespace L2
open PySem PySem.Spec PyProof.Rows
/-! ### texts: joined and split -/
end L2

set_option Elab.async false
set_option linter.all false
set_option maxRecDepth 100000
set_option maxHeartbeats 4000000
namespace L2
open PySem PySem.Spec PyProof.Rows
/-! ### (a, b, ..) = a list of that length -/
section
variable {prog : Program} {w : World} {A : Around} {E : Value → Shared → Prop}
end
/-! ### a comprehension over a tuple -/
/-! ### the same, the end by the heap alone -/
theorem comp_rangeH {lo : Int} {n : Nat} {g : TG} {ti : TT} {te : TE} {σ : St} {H : Hp} {D : Addr} {QD : Hp → Prop} (Pv : Nat → St → List V → Hp → Prop) (h0 : Pv 0 σ [] (upd H D (.lst []))) (hD : ∀ i σ xs H, Pv i σ xs H → H D = some (.lst xs))
    (hs : ∀ i σ xs H, i < n → Pv i σ xs H → g (.int (lo + i)) σ H fun σ2 H3 => ti σ2 H3 fun b H4 => if b = true then te σ2 H4 fun v H5 => H5 D = some (.lst xs) ∧ xs.length < sizeLine ∧ Pv (i + 1) σ2 (xs ++ [v]) (upd H5 D (.lst (xs ++ [v]))) else Pv (i + 1) σ2 xs H4)
    (hd : ∀ σ xs H, Pv n σ xs H → QD H) :
    ∃ W : Nat → Nat → St → List V → Hp → Prop, (∃ m, W 0 m σ [] (upd H D (.lst []))) ∧ ∀ i m σ' xs H', W i m σ' xs H' → H' D = some (.lst xs) ∧
      (((Itr lo n).stop i H' ∧ QD H') ∨ ((Itr lo n).go i H' ∧ ∃ N : St → List V → Hp → Prop, (∀ σ2 ys H2, N σ2 ys H2 → ∃ m', m' < m ∧ W (i + 1) m' σ2 ys H2) ∧ ∀ x H2, (Itr lo n).yld i H' x H2 → g x σ' H2 fun σ2 H3 => ti σ2 H3 fun b H4 =>
        if b = true then te σ2 H4 fun v H5 => H5 D = some (.lst xs) ∧ xs.length < sizeLine ∧ N σ2 (xs ++ [v]) (upd H5 D (.lst (xs ++ [v]))) else N σ2 xs H4)) := by
  refine ⟨fun i m σ xs H => m = n - i ∧ i ≤ n ∧ Pv i σ xs H, ⟨n, by simp, Nat.zero_le _, h0⟩, ?_⟩
  rintro i m σ xs H ⟨rfl, hi, p⟩
  refine ⟨hD i σ xs H p, ?_⟩
  by_cases hlt : i < n
  · refine .inr ⟨hlt, Pv (i + 1), fun σ' ys H' p' => ⟨n - (i + 1), by omega, rfl, hlt, p'⟩, fun x H' y => ?_⟩
    obtain ⟨e, y⟩ := y
    subst e y
    exact hs i σ xs _ hlt p
  · have e : i = n := by omega
    subst e
    exact .inl ⟨Nat.le_refl _, hd σ xs H p⟩
theorem comp_listH {K : PySem.W.Frag} {a : Addr} {ys : List V} {g : TG} {ti : TT} {te : TE} {σ : St} {H : Hp} {D : Addr} {QD : Hp → Prop} (Pv : Nat → St → List V → Hp → Prop) (h0 : Pv 0 σ [] (upd H D (.lst []))) (hD : ∀ i σ xs H, Pv i σ xs H → H D = some (.lst xs))
    (hl : ∀ i σ xs H, Pv i σ xs H → SqL K H a ys)
    (hs : ∀ i y σ xs H, ys[i]? = some y → Pv i σ xs H → g y σ H fun σ2 H3 => ti σ2 H3 fun b H4 => if b = true then te σ2 H4 fun v H5 => H5 D = some (.lst xs) ∧ xs.length < sizeLine ∧ Pv (i + 1) σ2 (xs ++ [v]) (upd H5 D (.lst (xs ++ [v]))) else Pv (i + 1) σ2 xs H4)
    (hd : ∀ σ xs H, Pv ys.length σ xs H → QD H) :
    ∃ W : Nat → Nat → St → List V → Hp → Prop, (∃ m, W 0 m σ [] (upd H D (.lst []))) ∧ ∀ i m σ' xs H', W i m σ' xs H' → H' D = some (.lst xs) ∧
      (((Itl K a).stop i H' ∧ QD H') ∨ ((Itl K a).go i H' ∧ ∃ N : St → List V → Hp → Prop, (∀ σ2 ys H2, N σ2 ys H2 → ∃ m', m' < m ∧ W (i + 1) m' σ2 ys H2) ∧ ∀ x H2, (Itl K a).yld i H' x H2 → g x σ' H2 fun σ2 H3 => ti σ2 H3 fun b H4 =>
        if b = true then te σ2 H4 fun v H5 => H5 D = some (.lst xs) ∧ xs.length < sizeLine ∧ N σ2 (xs ++ [v]) (upd H5 D (.lst (xs ++ [v]))) else N σ2 xs H4)) := by
  refine ⟨fun i m σ xs H => m = ys.length - i ∧ i ≤ ys.length ∧ Pv i σ xs H, ⟨ys.length, by simp, Nat.zero_le _, h0⟩, ?_⟩
  rintro i m σ xs H ⟨rfl, hi, p⟩
  have q := hl i σ xs H p
  refine ⟨hD i σ xs H p, ?_⟩
  by_cases hlt : i < ys.length
  · refine .inr ⟨⟨ys, ys[i], q, by simp [hlt]⟩, Pv (i + 1), fun σ' zs H' p' => ⟨ys.length - (i + 1), by omega, rfl, hlt, p'⟩, fun x H' yl => ?_⟩
    obtain ⟨e, yl⟩ := yl
    subst e
    exact hs i x σ xs _ (yl ys q) p
  · have e : i = ys.length := by omega
    subst e
    exact .inl ⟨⟨ys, q, Nat.le_refl _⟩, hd σ xs H p⟩
/-- a tuple's names as a comprehension's target -/
theorem pg_tupC {X : Cx} {N : List Str} {sc : Scope} {C : Addr} {fp : List Addr} {s : Shared} {H : Hp} {xe : Value → Shared → Prop} {es : List Expr} {k : Nat} {pos : Pos} {t : TGs} {n : Nat} (hc : (cxC X N sc C fp s H xe).calm = true) (h : PGs (cxC X N sc C fp s H xe) es t)
    (hn : (assignEach es (cxC X N sc C fp s H xe).env).length = n := by rfl) (hst : (assignEach es (cxC X N sc C fp s H xe).env).findIdx? (·.1) = none := by rfl) : PG (cxC X N sc C fp s H xe) (.Tuple es k pos) (gTup X.K n t) := pg_tup hc h hn hst
end L2

set_option Elab.async false
set_option linter.all false
set_option maxRecDepth 100000
set_option maxHeartbeats 4000000
namespace L2
open PySem PySem.Spec PyProof.Rows
theorem ps_setC {X : Cx} {i0 : Nat} {y : Str} {py spos : Pos} {F T : List Str} {fr : List Nat} {sc : Scope} {elt target iter : Expr} {ifs : List Expr} {pos : Pos} {wi : TI} {g : TG} {ti : TT} {te : TE} (S : CompScope X F T fr sc) (hc : X.calm = true) (hi : PI X target iter wi)
    (hg : ∀ C fp s H xe, PG (cxC X (F ++ T) sc C fp s H xe) target g) (hti : ∀ C fp s H xe, PIfs (cxC X (F ++ T) sc C fp s H xe) ifs ti) (he : ∀ C fp s H xe, PE (cxC X (F ++ T) sc C fp s H xe) elt te)
    (hN : X.N.Nodup) (hiy : X.N[i0]? = some y) (hly : X.env.scope.names.lookup y = some .local) (hex : X.ex = [])
    (hsw : swapsWith (.ListComp elt [⟨target, iter, ifs, 0⟩] sc pos) (some (.Name y py)) spos.line X.env = pure true := by rfl) (hs : ∀ x, foldedSetIterable iter X.env x = pure x := by intro _; rfl) : PS X (.Assign [.Name y py] (.ListComp elt [⟨target, iter, ifs, 0⟩] sc pos) spos) (tAsg (tComp wi fr T g ti te) (gName i0)) := by
  intro pins s σ H DD I h
  rw [exec_Assign_Name_used _ _ _ _ hsw]
  refine wpAny_bind (wpAny_standAt (wpAny_bind ?_))
  show wpAny _ X.A (do let _ ← comprehension (.ListComp elt [⟨target, iter, ifs, 0⟩] sc pos) sc X.env _ (newList []) false (eval iter X.env) (some (assign (.Name y py) X.env))) _ _ s
  refine wpAny_bind (wpAny_mono (wpAny_comprehension_free (use := some (assign (.Name y py) X.env)) (Q := fun _ s' => SP X pins DD .next s') rfl hs (closure_ok fun p hp hf => ?_) S.kind S.locals ?_) (fun _ s' hq => wpAny_pure (wpAny_pure hq)) fun _ _ e => e)
  · exact I.ok.has p.1 (.inl (S.frees p hp hf))
  refine thn (hi pins s σ H _ I h) fun v s1 h1 => thn h1 fun itv s2 h2 => ?_
  obtain ⟨it, fp, tn, J, H2, e, I2, T2, st2, f2, hD⟩ := h2
  subst e
  have hfo : ∀ b ∈ fp, b < s2.heap.objs.size := fun b hb => by
    obtain ⟨o, e, _⟩ := T2.obj _ _ st2 b hb
    exact Heap.lt_size e
  -- the new list
  refine wpAny_newObj_type ?_
  have hDn : H2 s2.heap.objs.size = none := I2.hok.fresh (Nat.le_refl _)
  obtain ⟨W, ⟨m0, w0⟩, turn⟩ := hD s2.heap.objs.size hDn
  have I3 : Inv X pins σ (upd H2 s2.heap.objs.size (.lst [])) { s2 with heap := s2.heap.push { cls := .type "list", dict := none, data := .seq ([] : List Value).toArray } } :=
    I2.laid (t' := s2.toks) (fun b u e => Heap.get?_push_of_some _ e) (Nat.le_refl _) ⟨Nat.zero_le _, [], 0, .nil, Heap.get?_push_size _ rfl⟩
  generalize hs3 : ({ s2 with heap := s2.heap.push { cls := .type "list", dict := none, data := .seq ([] : List Value).toArray } } : Shared) = s3 at I3
  have hsz3 : s3.heap.objs.size = s2.heap.objs.size + 1 := by rw [← hs3]; exact Heap.size_push _ _
  have neD : ∀ b ∈ fp, b ≠ s2.heap.objs.size := fun b hb => Nat.ne_of_lt (hfo b hb)
  have f3 : ∀ b ∈ fp, FpOk X pins (upd H2 s2.heap.objs.size (.lst [])) b := fun b hb => ⟨by rw [upd_ne (neD b hb)]; exact (f2 b hb).1, (f2 b hb).2⟩
  have hfo3 : ∀ b ∈ fp, b < s3.heap.objs.size := fun b hb => by rw [hsz3]; exact Nat.lt_succ_of_lt (hfo b hb)
  have st3 : tn 0 s3.heap := T2.keep _ _ _ st2 fun b hb o e => by rw [← hs3]; exact Heap.get?_push_of_some _ e
  generalize hDD : s2.heap.objs.size = D at *
  -- the frame
  refine wpAny_newFunctionEnv S.nocell (by intro y hy; simp at hy) (fun h4 hn4 hsb4 => ?_) S.kind
  have old : ∀ b o, s3.heap.get? b = some o → h4.get? b = some o := fun b o e => hsb4.extBut b o (Nat.ne_of_lt (Heap.lt_size e)) (Heap.get?_push_of_some _ e)
  generalize hCC : s3.heap.objs.size = C at *
  let R : Result → Shared → Prop := compPost (model X.prog X.w) X.A X.xe (some (assign (.Name y py) X.env)) (fun _ s' => SP X pins DD .next s') (.ref D) C
  let xe : Value → Shared → Prop := notedBy (model X.prog X.w) X.A (compEnvC sc (clGo X.env sc.names []) C X.env) fun e s' => R (.error e) s'
  have I4 : Inv (cxC X (F ++ T) sc C fp s3 (upd H2 D (.lst [])) xe) [] (compSt fr T σ) (upd H2 D (.lst [])) { s3 with heap := h4, toks := s3.toks + ([] : List (Str × Value)).length } := by
    subst hCC
    exact inv_comp S I3 f3 hfo3 hn4 old
  have st4 : tn 0 h4 := T2.keep _ _ _ st3 fun b hb o e => old b o e
  have stat : ∀ {H' : Hp}, (∀ b ∈ fp, H' b = none) → ∀ b ∈ fp, FpOk (cxC X (F ++ T) sc C fp s3 (upd H2 D (.lst [])) xe) [] H' b := fun {H'} hn b hb => by
    refine ⟨hn b hb, ?_, ?_, .inl hb, fun x c e => ?_, fun p hp => absurd (show p ∈ ([] : List (Addr × Obj)) from hp) (by simp)⟩
    · exact (I4.ok.exf b hb).1
    · exact I4.ok.exfs b hb
    · exact (I4.ok.exf b hb).2 x c e
  have loop : ∀ s5 : Shared, s5 = { s3 with heap := h4, toks := s3.toks + ([] : List (Str × Value)).length } →
      codeAny (model X.prog X.w) X.A (.compLoop (.ListComp elt [⟨target, iter, ifs, 0⟩] sc pos) 0 (.ref it) (.ref D) (compEnvC sc (clGo X.env sc.names []) C X.env)) R s5 := by
    rintro s5 rfl
    refine compLoop_any (fun n s' => ∃ i σ' xs H', Inv (cxC X (F ++ T) sc C fp s3 (upd H2 D (.lst [])) xe) [] σ' H' s' ∧ tn i s'.heap ∧ (∀ b ∈ fp, H' b = none) ∧ W i n σ' xs H') ?_ m0 ⟨0, _, [], _, I4, st4, fun b hb => (f3 b hb).1, w0⟩
    rintro n s6 ⟨i, σ6, xs, H6, I6, st6, fr6, w6⟩
    obtain ⟨hD6, tt⟩ := turn i n σ6 xs H6 w6
    rcases tt with ⟨stop, qn⟩ | ⟨go, NN, hNN, step⟩
    · refine thn (T2.done (cxC X (F ++ T) sc C fp s3 (upd H2 D (.lst [])) xe) rfl rfl rfl hc i [] s6 σ6 H6 xe I6 (stat fr6) st6 stop) fun r s7 ⟨hr, I7⟩ => ?_
      subst hr
      obtain ⟨m7, hn7, _⟩ := I7.loc
      have hCn : H6 C = none := I7.free
      have I8 : Inv X pins σ H6 s7 := I3.call' (s' := s7) (H' := H6) (ch := fp) I7.os I7.base I7.hok I7.bare fun b hb => by
        obtain ⟨_, q1, _, q2, q3, q4⟩ := f3 b hb
        exact ⟨q2, q1, q3, q4⟩
      have Cge : X.s₀.heap.objs.size ≤ C := by rw [← hCC]; exact I3.sz
      have CL : C ≠ X.env.locals := fun z => by
        have := I3.lt
        rw [← z, ← hCC] at this
        exact Nat.lt_irrefl _ this
      have CC : ∀ z c, X.env.cells.lookup z = some c → c ≠ C := fun z c e q => by
        obtain ⟨v, hv⟩ := I3.cell z c e
        have := hv.lt
        rw [q, ← hCC] at this
        exact Nat.lt_irrefl _ this
      have CP : ∀ p ∈ X.pn ++ pins, p.1 ≠ C := fun p hp q => by
        have := Heap.lt_size (I3.pin p hp).1
        rw [q, ← hCC] at this
        exact Nat.lt_irrefl _ this
      show wpAny _ X.A (assign (.Name y py) X.env (.ref D)) _ _ s7
      refine wpAny_assign_Name (store_ok2 I8 hN hiy (.inl hly) (v := .ref D) rfl (fun s8 I9 sb => ?_) (.inr hly))
      obtain ⟨a8, sb8, ha8⟩ := sb
      have a8C : C ≠ a8 := by
        rcases ha8 with z | z
        · rw [z]; exact CL
        · exact Ne.symm (CC _ _ z)
      refine ⟨m7, hn7.sameBut sb8 a8C, fun h9 hs9 => ⟨_, H6, ?_, qn⟩⟩
      exact I9.turned (it := C) (t' := s8.toks) (fun b o nb e => (hs9.2 b nb).trans e) hCn CL (.inr Cge) CC CP
    · refine thn (T2.item (cxC X (F ++ T) sc C fp s3 (upd H2 D (.lst [])) xe) rfl rfl rfl hc i [] s6 σ6 H6 xe I6 (stat fr6) st6 go) fun r s7 ⟨u, hr, h7⟩ => ?_
      subst hr
      refine thn h7 fun _ s8 ⟨x, H8, I8, r8, y8, st8, fr8⟩ => ?_
      have I8' := I8.pinned (stat fr8) (T2.obj _ _ st8)
      have back : ∀ {s9 : Shared} {σ9 : St} {H9 : Hp}, Inv (cxC X (F ++ T) sc C fp s3 (upd H2 D (.lst [])) xe) ([] ++ pinsAt fp s8.heap) σ9 H9 s9 → Inv (cxC X (F ++ T) sc C fp s3 (upd H2 D (.lst [])) xe) [] σ9 H9 s9 ∧ tn (i + 1) s9.heap ∧ ∀ b ∈ fp, H9 b = none := fun {s9 σ9 H9} I9 => by
        refine ⟨I9.unpinned, T2.keep _ _ _ st8 fun b hb o e => (I9.pin (b, o) (List.mem_append_right _ (List.mem_append_right _ (mem_pinsAt hb e)))).1, fun b hb => ?_⟩
        obtain ⟨o, e, d⟩ := T2.obj _ _ st8 b hb
        exact (I9.pin (b, o) (List.mem_append_right _ (List.mem_append_right _ (mem_pinsAt hb e)))).2.1
      refine thn (hg C fp s3 _ xe _ s8 σ6 H8 x u _ I8' r8 (step x H8 y8)) fun _ s9 ⟨σ9, H9, I9, q9⟩ => ?_
      refine thn (hti C fp s3 _ xe _ s9 σ9 H9 _ I9 q9) fun ok s10 ⟨H10, I10, q10⟩ => ?_
      cases ok with
      | false =>
        rw [if_neg Bool.false_ne_true] at q10 ⊢
        obtain ⟨m', hm, w'⟩ := hNN _ _ _ q10
        obtain ⟨b1, b2, b3⟩ := back I10
        exact ⟨m', hm, i + 1, σ9, xs, H10, b1, b2, b3, w'⟩
      | true =>
        rw [if_pos rfl] at q10 ⊢
        refine thn (he C fp s3 _ xe _ s10 σ9 H10 _ I10 q10) fun x11 s11 ⟨v11, H11, I11, r11, hD11, hz, q11⟩ => ?_
        obtain ⟨m', hm, w'⟩ := hNN _ _ _ q11
        refine thn (mt_append _ s11 σ9 H11 (.ref D) [v11] (.ref D) [x11] (fun _ H' => H' = upd H11 D (.lst (xs ++ [v11]))) I11 rfl (.cons r11 .nil) ⟨D, xs, v11, rfl, rfl, hD11, hz, rfl⟩) fun _ s12 ⟨_, H12, I12, _, e12⟩ => ?_
        subst e12
        obtain ⟨b1, b2, b3⟩ := back I12
        exact ⟨m', hm, i + 1, σ9, _, _, b1, b2, b3, w'⟩
  have st5 : codeAny (model X.prog X.w) X.A (.compStart (.ListComp elt [⟨target, iter, ifs, 0⟩] sc pos) 0 (.ref it) (.ref D) (compEnvC sc (clGo X.env sc.names []) C X.env)) R { s3 with heap := h4, toks := s3.toks + ([] : List (Str × Value)).length } :=
    codeAny_compStart_list (loop _ rfl) (T2.self _ 0 _ _ _ st4 (loop _ rfl))
  subst hs3
  exact st5

end L2

set_option Elab.async false
set_option linter.all false
set_option maxRecDepth 100000
set_option maxHeartbeats 4000000
namespace L2
open PySem PySem.Spec PyProof.Rows
/-! ### list.index of what is there -/
end L2

set_option Elab.async false
set_option linter.all false
set_option maxRecDepth 100000
namespace My
open PySem L2
/-! ### the draw: a dict of five, a list of ints -/
def kvD (l : Addr) (a b c : Int) (g : Bool) : List (Key × V) := [(Sum.inr "cells", .ref l), (Sum.inr "at", .int a), (Sum.inr "left", .int b), (Sum.inr "number", .int c), (Sum.inr "digits", .bl g)]
section
variable {κ : Type} [DecidableEq κ] {k1 k2 k3 k4 k5 : κ} {v1 v2 v3 v4 v5 : V}
end
section
variable {H : Hp} {d l : Addr} {a b c : Int} {g : Bool}
theorem five : (kvD l a b c g).length < sizeLine := small1000 (by show 5 ≤ 1000; decide)
end
structure DrawAt (H : Hp) (d l : Addr) (cs : List Int) (n : Nat) : Prop where
  dc : ∃ (a b c : Int) (g : Bool), H d = some (.dK (kvD l a b c g)) ∧ 0 ≤ a ∧ a ≤ n
  ls : H l = some (.lst (cs.map V.int))
  ne : cs ≠ []
/-- all but d is as it was -/
def But (d : Addr) (H H' : Hp) : Prop := ∀ b o, H b = some o → b ≠ d → H' b = some o
theorem But.refl (d : Addr) (H : Hp) : But d H H := fun _ _ h _ => h
theorem But.trans {d : Addr} {H H1 H2 : Hp} (x : But d H H1) (y : But d H1 H2) : But d H H2 := fun b o h n => y b o (x b o h n) n
theorem But.upd (d : Addr) (H : Hp) (o : HO) : But d H (upd H d o) := fun b u h n => by rw [upd_ne n]; exact h
theorem DrawAt.mono {H : Hp} {d l : Addr} {cs : List Int} {n m : Nat} (D : DrawAt H d l cs n) (h : n ≤ m) : DrawAt H d l cs m := by
  obtain ⟨⟨a, b, c, g, q, q0, q1⟩, ls, ne⟩ := D
  exact ⟨⟨a, b, c, g, q, q0, Int.le_trans q1 (Int.ofNat_le.mpr h)⟩, ls, ne⟩
/-- a tracked thing that is neither is kept -/
theorem DrawAt.keep {H H' : Hp} {d l : Addr} {cs : List Int} {n : Nat} (D : DrawAt H d l cs n) (k : ∀ b o, H b = some o → H' b = some o) : DrawAt H' d l cs n := by
  obtain ⟨⟨a, b, c, g, q, q0, q1⟩, ls, ne⟩ := D
  exact ⟨⟨a, b, c, g, k _ _ q, q0, q1⟩, k _ _ ls, ne⟩
/-- a def as the top has left it -/
structure Def (K : PySem.W.Frag) (mg : Str → Option Value) (x : Str) (st : Stmt) (ps : List Str) (f : Addr) (fd : FuncData) : Prop where
  F : Fun K x x st f fd
  m : mg x = some (.ref f)
  b : Binds K fd ps []
end My

set_option Elab.async false
set_option linter.all false
set_option maxRecDepth 100000
namespace L2
open PySem PySem.Spec PyProof.Rows
section
variable {X : Cx} {a : Expr} {ta : TE} {es : List Expr} {pos pos2 : Pos} {k2 : Nat}
/-! ### x in (a written tuple): the tuple isn't tracked -/
def tInC (neg : Bool) (ta : TE) (vs : List V) : TE := fun σ H Q => ta σ H fun x H1 => flatV x = true ∧ vs.all flatV = true ∧ vs.length ≤ sizeLine ∧ Q (.bl (if neg then !inV x vs else inV x vs)) H1
end
end L2

set_option Elab.async false
set_option linter.all false
set_option maxRecDepth 100000
namespace L2
open PySem PySem.Spec PyProof.Rows
/-! ### readings by simp -/
theorem scal_ii (a b : Int) : scal (.int a) (.int b) = true := rfl
theorem scal_ss (a b : Str) : scal (.str a) (.str b) = true := rfl
theorem scal_bb (a b : Bool) : scal (.bl a) (.bl b) = true := rfl
theorem scal_nn : scal .non .non = true := rfl
theorem scal_is (a : Int) (b : Str) : scal (.int a) (.str b) = true := rfl
theorem scal_si (a : Str) (b : Int) : scal (.str a) (.int b) = true := rfl
theorem scal_sn (a : Str) : scal (.str a) .non = true := rfl
theorem scal_ns (a : Str) : scal .non (.str a) = true := rfl
theorem flat_i (a : Int) : flatV (.int a) = true := rfl
theorem flat_s (a : Str) : flatV (.str a) = true := rfl
theorem flat_b (a : Bool) : flatV (.bl a) = true := rfl
theorem flat_n : flatV .non = true := rfl
theorem le_line {n : Nat} (h : n ≤ 1000) : (n ≤ sizeLine) = True := eq_true (Nat.le_trans h (by decide))
theorem ex_get {v : V} {p : V → Prop} : (∃ w, some (some v) = some (some w) ∧ p w) = p v := propext ⟨fun ⟨_, e, h⟩ => by cases e; exact h, fun h => ⟨v, rfl, h⟩⟩
theorem ex_int {i : Int} {p : Int → Prop} : (∃ j, V.int i = V.int j ∧ p j) = p i := propext ⟨fun ⟨_, e, h⟩ => by cases e; exact h, fun h => ⟨i, rfl, h⟩⟩
theorem ex_str {i : Str} {p : Str → Prop} : (∃ j, V.str i = V.str j ∧ p j) = p i := propext ⟨fun ⟨_, e, h⟩ => by cases e; exact h, fun h => ⟨i, rfl, h⟩⟩
theorem ex_bl {i : Bool} {p : Bool → Prop} : (∃ j, V.bl i = V.bl j ∧ p j) = p i := propext ⟨fun ⟨_, e, h⟩ => by cases e; exact h, fun h => ⟨i, rfl, h⟩⟩
theorem ex_ref {i : Addr} {p : Addr → Prop} : (∃ j, V.ref i = V.ref j ∧ p j) = p i := propext ⟨fun ⟨_, e, h⟩ => by cases e; exact h, fun h => ⟨i, rfl, h⟩⟩
theorem ex_int2 {i i' : Int} {p : Int → Int → Prop} : (∃ j j', V.int i = V.int j ∧ V.int i' = V.int j' ∧ p j j') = p i i' := propext ⟨fun ⟨_, _, e, e', h⟩ => by cases e; cases e'; exact h, fun h => ⟨i, i', rfl, rfl, h⟩⟩
theorem ex_str2 {i i' : Str} {p : Str → Str → Prop} : (∃ j j', V.str i = V.str j ∧ V.str i' = V.str j' ∧ p j j') = p i i' := propext ⟨fun ⟨_, _, e, e', h⟩ => by cases e; cases e'; exact h, fun h => ⟨i, i', rfl, rfl, h⟩⟩
theorem dec_true {p : Prop} [Decidable p] : (decide p = true) = p := propext decide_eq_true_iff
theorem at0 {α : Type} {a : α} {xs : List α} : atI (a :: xs) 0 = some a := atI_nat (j := 0) rfl
theorem at1 {α : Type} {a b : α} {xs : List α} : atI (a :: b :: xs) 1 = some b := atI_nat (j := 1) rfl
theorem at2 {α : Type} {a b c : α} {xs : List α} : atI (a :: b :: c :: xs) 2 = some c := atI_nat (j := 2) rfl
theorem at3 {α : Type} {a b c d : α} {xs : List α} : atI (a :: b :: c :: d :: xs) 3 = some d := atI_nat (j := 3) rfl
theorem at4 {α : Type} {a b c d e : α} {xs : List α} : atI (a :: b :: c :: d :: e :: xs) 4 = some e := atI_nat (j := 4) rfl
theorem at5 {α : Type} {a b c d e f : α} {xs : List α} : atI (a :: b :: c :: d :: e :: f :: xs) 5 = some f := atI_nat (j := 5) rfl
theorem at6 {α : Type} {a b c d e f g : α} {xs : List α} : atI (a :: b :: c :: d :: e :: f :: g :: xs) 6 = some g := atI_nat (j := 6) rfl
theorem at7 {α : Type} {a b c d e f g h : α} {xs : List α} : atI (a :: b :: c :: d :: e :: f :: g :: h :: xs) 7 = some h := atI_nat (j := 7) rfl
/-- a subscript by the tracked heap -/
def seqAt (H : Hp) (p : Addr) (i : Int) : Option V := match H p with
  | some (.tup xs) => atI xs i
  | some (.lst xs) => atI xs i
  | _ => none
def rIxM : R2 := fun x y H Q => ∃ p i, x = .ref p ∧ y = .int i ∧ ∃ v, seqAt H p i = some v ∧ Q v H
theorem ex_some {α : Type} {x : α} {p : α → Prop} : (∃ v, some x = some v ∧ p v) = p x := propext ⟨fun ⟨_, e, h⟩ => by cases e; exact h, fun h => ⟨x, rfl, h⟩⟩
theorem ix_m {X : Cx} : IxR X rIxM := by
  intro value slice pins s σ H x y v u Q I rx ry h hs
  obtain ⟨p, i, rfl, rfl, z, h, hq⟩ := h
  unfold seqAt at h
  split at h
  · exact ix_tup value slice pins s σ H _ _ v u Q I rx ry ⟨p, _, i, z, rfl, rfl, SqT.of (by assumption), h, hq⟩ hs
  · exact ix_list value slice pins s σ H _ _ v u Q I rx ry ⟨p, _, i, z, rfl, rfl, SqL.of (by assumption), h, hq⟩ hs
  · cases h
theorem ex_ri {a : Addr} {i : Int} {p : Addr → Int → Prop} : (∃ j j', V.ref a = V.ref j ∧ V.int i = V.int j' ∧ p j j') = p a i := propext ⟨fun ⟨_, _, e, e', h⟩ => by cases e; cases e'; exact h, fun h => ⟨a, i, rfl, rfl, h⟩⟩
theorem upd_old {H : Hp} {a b : Addr} {o x : HO} (ha : H a = none) (hb : H b = some x) : upd H a o b = some x := by rw [upd_ne (ne_of_none hb ha)]; exact hb
def rSetM : V → V → V → Hp → (Hp → Prop) → Prop := fun o i v H Q => ∃ p k, o = .ref p ∧ i = .int k ∧ match H p with
  | some (.lst xs) => (match ixN xs.length k with | some j => Q (upd H p (.lst (xs.set j v))) | none => False)
  | _ => False
theorem set_m {X : Cx} : PSet X rSetM := by
  intro pins s σ H o i v ov iv u Q I ro ri rv h
  obtain ⟨p, k, rfl, rfl, h⟩ := h
  cases e : H p with
  | none => rw [e] at h; exact h.elim
  | some ob =>
    rw [e] at h
    cases ob with
    | lst xs =>
      dsimp only at h
      cases e2 : ixN xs.length k with
      | none => rw [e2] at h; exact h.elim
      | some j => rw [e2] at h; exact set_list pins s σ H _ _ v ov iv u Q I ro ri rv ⟨p, xs, k, j, rfl, rfl, e, e2, h⟩
    | _ => exact h.elim
theorem ix30 : ixN 3 0 = some 0 := rfl
theorem ix31 : ixN 3 1 = some 1 := rfl
theorem ix32 : ixN 3 2 = some 2 := rfl
end L2

set_option Elab.async false
set_option linter.all false
set_option maxRecDepth 100000
namespace L2
open PySem PySem.Spec PyProof.Rows
/-! ### pure expressions: a value by the state, nothing made, nothing changed -/
abbrev Ev := St → Hp → Option V
def tEv (ev : Ev) : TE := fun σ H Q => ∃ v, ev σ H = some v ∧ Q v H
def PP (X : Cx) (e : Expr) (ev : Ev) : Prop := PE X e (tEv ev)
theorem pe_pp {X : Cx} {e : Expr} {ev : Ev} (h : PP X e ev) : PE X e (tEv ev) := h
def tEvT (ev : Ev) : TT := fun σ H Q => ∃ b, ev σ H = some (.bl b) ∧ Q b H
/-- from a rule of readings -/
theorem PP.of {X : Cx} {e : Expr} {t : TE} {ev : Ev} (h : PE X e t) (g : ∀ σ H Q v, ev σ H = some v → Q v H → t σ H Q) : PP X e ev :=
  fun pins s σ H Q I ⟨v, e1, q⟩ => h pins s σ H Q I (g σ H Q v e1 q)
def evVar (i : Nat) : Ev := fun σ _ => match σ[i]? with | some (some v) => some v | _ => none
def evC (v : V) : Ev := fun _ _ => some v
def ev2 (f : V → V → Option V) (a b : Ev) : Ev := fun σ H => match a σ H with | some x => (match b σ H with | some y => f x y | none => none) | none => none
def ev1 (f : V → Option V) (a : Ev) : Ev := fun σ H => match a σ H with | some x => f x | none => none
theorem ev2_some {f : V → V → Option V} {a b : Ev} {σ : St} {H : Hp} {v : V} (h : ev2 f a b σ H = some v) : ∃ x y, a σ H = some x ∧ b σ H = some y ∧ f x y = some v := by
  unfold ev2 at h
  split at h
  · rename_i x e1
    split at h
    · rename_i y e2
      exact ⟨x, y, e1, e2, h⟩
    · cases h
  · cases h
theorem ev1_some {f : V → Option V} {a : Ev} {σ : St} {H : Hp} {v : V} (h : ev1 f a σ H = some v) : ∃ x, a σ H = some x ∧ f x = some v := by
  unfold ev1 at h
  split at h
  · exact ⟨_, by assumption, h⟩
  · cases h
section
variable {X : Cx} {a b c : Expr} {ea eb ec : Ev} {pos pos2 : Pos}
theorem pp_var (i : Nat) {x : Str} {pos : Pos} (hN : X.N[i]? = some x := by rfl) (hv : Vis X.env.scope x := by first | exact Or.inl rfl | exact Or.inr (Or.inl rfl) | exact Or.inr (Or.inr rfl)) (hd : (x == ("__debug__" : Str)) = false := by decide)
    (hcd : (x == ("__classdict__" : Str)) = false := by decide) : PP X (.Name x pos) (evVar i) := by
  refine PP.of (pe_var hN hv hd hcd) fun σ H Q v h q => ?_
  unfold evVar at h
  split at h
  · rename_i u e
    have e2 : u = v := Option.some.inj h
    subst e2
    exact ⟨_, e, q⟩
  · cases h
theorem pp_c {e : Expr} {v : V} (h : PE X e (tC v)) : PP X e (evC v) := PP.of h fun σ H Q u e q => by
  have : v = u := Option.some.inj e
  subst this
  exact q
/-- two values, by a rule -/
theorem pp_op2 {op : Operator} {r : R2} {f : V → V → Option V} (ho : OpR X (binaryOp op) r) (g : ∀ x y v H Q, f x y = some v → Q v H → r x y H Q) (ha : PP X a ea) (hb : PP X b eb) : PP X (.BinOp a op b pos) (ev2 f ea eb) := by
  refine PP.of (pe_op ho ha hb) fun σ H Q v h q => ?_
  obtain ⟨x, y, e1, e2, e3⟩ := ev2_some h
  exact ⟨x, e1, y, e2, g x y v H Q e3 q⟩
def fI (k : Int → Int → V) : V → V → Option V | .int i, .int j => some (k i j) | _, _ => none
theorem fI_some {k : Int → Int → V} {x y v : V} (h : fI k x y = some v) : ∃ i j, x = .int i ∧ y = .int j ∧ k i j = v := by
  unfold fI at h
  split at h
  · exact ⟨_, _, rfl, rfl, Option.some.inj h⟩
  · cases h
theorem fI_ii {k : Int → Int → V} {i j : Int} : fI k (.int i) (.int j) = some (k i j) := rfl
def fEq : V → V → Option V := fun x y => if scal x y = true then some (.bl (decide (x = y))) else none
def fNe : V → V → Option V := fun x y => if scal x y = true then some (.bl (!decide (x = y))) else none
def kLt (i j : Int) : V := .bl (decide (i < j))
def kLe (i j : Int) : V := .bl (decide (i ≤ j))
def kGt (i j : Int) : V := .bl (decide (j < i))
def kGe (i j : Int) : V := .bl (decide (j ≤ i))
def kAdd (i j : Int) : V := .int (i + j)
def kSub (i j : Int) : V := .int (i - j)
theorem fI_r {k : Int → Int → V} {x y v : V} {H : Hp} {Q : VK} (h : fI k x y = some v) (q : Q v H) : rI0 k x y H Q := by
  obtain ⟨i, j, e1, e2, e3⟩ := fI_some h
  subst e3
  exact ⟨i, j, e1, e2, q⟩
theorem pp_add (ha : PP X a ea) (hb : PP X b eb) : PP X (.BinOp a .Add b pos) (ev2 (fI kAdd) ea eb) := pp_op2 op_add (fun _ _ _ _ _ h q => fI_r h q) ha hb
theorem pp_sub (ha : PP X a ea) (hb : PP X b eb) : PP X (.BinOp a .Sub b pos) (ev2 (fI kSub) ea eb) := pp_op2 op_sub (fun _ _ _ _ _ h q => fI_r h q) ha hb
def fMod : V → V → Option V | .int i, .int j => if 0 < j then some (.int (i % j)) else none | _, _ => none
theorem fMod_lit {i j : Int} (h : 0 < j) : fMod (.int i) (.int j) = some (.int (i % j)) := by show (if 0 < j then _ else _) = _; rw [if_pos h]
def fDiv : V → V → Option V | .int i, .int j => if 0 < j ∧ j < 1073741824 then some (.int (i / j)) else none | _, _ => none
theorem fDiv_lit {i j : Int} (h : 0 < j) (h2 : j < 1073741824) : fDiv (.int i) (.int j) = some (.int (i / j)) := by show (if _ then _ else _) = _; rw [if_pos ⟨h, h2⟩]
/-- in, not in: a written tuple -/
def fIn (neg : Bool) (vs : List V) : V → Option V := fun x => if flatV x = true ∧ vs.all flatV = true ∧ vs.length ≤ sizeLine then some (.bl (if neg then !inV x vs else inV x vs)) else none
theorem fIn_s {neg : Bool} {vs : List V} {x : Str} (h : vs.all flatV = true) (h2 : vs.length ≤ 1000) : fIn neg vs (.str x) = some (.bl (if neg then !inV (.str x) vs else inV (.str x) vs)) := by
  unfold fIn; rw [if_pos ⟨rfl, h, Nat.le_trans h2 (by decide)⟩]
theorem fIn_i {neg : Bool} {vs : List V} {x : Int} (h : vs.all flatV = true) (h2 : vs.length ≤ 1000) : fIn neg vs (.int x) = some (.bl (if neg then !inV (.int x) vs else inV (.int x) vs)) := by
  unfold fIn; rw [if_pos ⟨rfl, h, Nat.le_trans h2 (by decide)⟩]
/-- and, or, not -/
def fAnd (x y : Option V) : Option V := match x with | some (.bl true) => y | some (.bl false) => some (.bl false) | _ => none
def fOr (x y : Option V) : Option V := match x with | some (.bl false) => y | some (.bl true) => some (.bl true) | _ => none
def evAnd (a b : Ev) : Ev := fun σ H => fAnd (a σ H) (b σ H)
def evOr (a b : Ev) : Ev := fun σ H => fOr (a σ H) (b σ H)
theorem fAnd_bb {p q : Bool} : fAnd (some (.bl p)) (some (.bl q)) = some (.bl (p && q)) := by cases p <;> rfl
theorem fOr_bb {p q : Bool} : fOr (some (.bl p)) (some (.bl q)) = some (.bl (p || q)) := by cases p <;> rfl
def fNot : V → Option V | .bl p => some (.bl (!p)) | _ => none
theorem fNot_b {p : Bool} : fNot (.bl p) = some (.bl (!p)) := rfl
variable {rest : List Expr}
/-- is None -/
def fIsN : V → V → Option V | x, .non => some (.bl (decide (x = .non))) | _, _ => none
def fNotN : V → V → Option V | x, .non => some (.bl (!decide (x = .non))) | _, _ => none
theorem fIsN_n {x : V} : fIsN x .non = some (.bl (decide (x = .non))) := by cases x <;> rfl
theorem fNotN_n {x : V} : fNotN x .non = some (.bl (!decide (x = .non))) := by cases x <;> rfl
/-- a[i] -/
def evIx (a b : Ev) : Ev := fun σ H => match a σ H, b σ H with | some (.ref p), some (.int i) => seqAt H p i | _, _ => none
theorem pp_ix (ha : PP X a ea) (hb : PP X b eb) (hs : PlainIx b) : PP X (.Subscript a b pos) (evIx ea eb) := by
  refine PP.of (pe_ix ix_m ha hb hs) fun σ H Q v h q => ?_
  unfold evIx at h
  split at h
  · rename_i e1 e2; exact ⟨_, e1, _, e2, _, _, rfl, rfl, v, h, q⟩
  · cases h
/-- a list of arguments -/
abbrev Evs := St → Hp → Option (List V)
def PPs' (X : Cx) (es : List Expr) (ev : Evs) : Prop := PA X es (fun σ H Q => ∃ vs, ev σ H = some vs ∧ Q vs H)
def evNil : Evs := fun _ _ => some []
def evCons (a : Ev) (r : Evs) : Evs := fun σ H => match a σ H with | some x => (match r σ H with | some xs => some (x :: xs) | none => none) | none => none
theorem ppa_nil : PPs' X [] evNil := fun pos pins s σ H Q I ⟨vs, e, q⟩ => by
  cases e
  exact pa_nil pos pins s σ H Q I q
theorem ppa_cons {e : Expr} {es : List Expr} {er : Evs} (ha : PP X e ea) (hr : PPs' X es er) (hs : starEach (e :: es) X.env = (false, eval e X.env) :: starEach es X.env := by rfl) : PPs' X (e :: es) (evCons ea er) := fun pos pins s σ H Q I ⟨vs, h, q⟩ => by
  refine pa_cons ha hr hs pos pins s σ H Q I ?_
  unfold evCons at h
  split at h
  · rename_i e1
    split at h
    · rename_i e2
      cases h
      exact ⟨_, e1, _, e2, q⟩
    · cases h
  · cases h
/-- a call of a def that only tells -/
abbrev Fv := List V → Hp → Option V
def spP (g : Fv) : Sp := fun vs H Q _ => ∃ v, g vs H = some v ∧ Q v H
def evCall (g : Fv) (r : Evs) : Ev := fun σ H => match r σ H with | some vs => g vs H | none => none
/-- len of a list or tuple -/
def lenAt (H : Hp) (p : Addr) : Option V := match H p with | some (.lst xs) => some (.int xs.length) | some (.tup xs) => some (.int xs.length) | _ => none
def evLen (r : Evs) : Ev := fun σ H => match r σ H with | some [.ref p] => lenAt H p | _ => none
theorem call_len_m : CallR X (.builtin "len") (fun xs H Q => ∃ p v, xs = [.ref p] ∧ lenAt H p = some v ∧ Q v H) := by
  intro pins s σ H xs us Q I r h
  obtain ⟨p, v, e, h, q⟩ := h
  unfold lenAt at h
  split at h
  · cases h; exact call_len_seq pins s σ H xs us Q I r ⟨p, _, e, .inl (SqL.of (by assumption)), q⟩
  · cases h; exact call_len_seq pins s σ H xs us Q I r ⟨p, _, e, .inr (SqT.of (by assumption)), q⟩
  · cases h
theorem pp_len {x : Str} {p : Pos} {e : Expr} {er : Evs} (hg : Gl X x) (hm : X.mg x = none) (hv : bootBuiltins x = some (.builtin "len")) (ha : PPs' X [e] er) (hx : x = "len" := by rfl) (he : starEach [e] X.env = (false, eval e X.env) :: starEach [] X.env := by rfl) (hpl : (backTo pos (starEach [] X.env)).any (·.1) = false := by rfl) : PP X (.Call (.Name x p) [e] [] pos) (evLen er) := by
  subst hx
  refine PP.of (pe_callB call_len_m hg hm hv ha (he := he) (hpl := hpl)) fun σ H Q v h q => ?_
  unfold evLen at h
  split at h
  · rename_i p e1
    exact ⟨_, e1, p, v, rfl, h, q⟩
  · cases h
/-- tests -/
def PTT (X : Cx) (e : Expr) (ev : Ev) : Prop := PT X e (tEvT ev)
def PTW (X : Cx) (e : Expr) (ev : Ev) : Prop := PW X e (tEvT ev)
theorem pt_pp {e : Expr} (h : PTT X e ea) : PT X e (tEvT ea) := h
theorem ptp_cmp2 {op : CmpOp} {r : R2} {f : V → V → Option V} (ho : OpR X (compareOp op) r) (g : ∀ x y v H Q, f x y = some v → Q v H → r x y H Q) (ha : PP X a ea) (hb : PP X b eb) (hm : behindInMarks op b = false) : PTT X (.Compare a [op] [b] pos) (ev2 f ea eb) := by
  intro pins s σ H Q I ⟨k, h, q⟩
  obtain ⟨x, y, e1, e2, e3⟩ := ev2_some h
  exact pt_cmpR ho ha hb hm pins s σ H Q I ⟨x, e1, y, e2, g x y (.bl k) H _ e3 ⟨k, rfl, q⟩⟩
theorem ptp_lt (ha : PP X a ea) (hb : PP X b eb) : PTT X (.Compare a [.Lt] [b] pos) (ev2 (fI kLt) ea eb) := ptp_cmp2 op_lt (fun _ _ _ _ _ h q => fI_r h q) ha hb (nomark _)
theorem ptp_gt (ha : PP X a ea) (hb : PP X b eb) : PTT X (.Compare a [.Gt] [b] pos) (ev2 (fI kGt) ea eb) := ptp_cmp2 op_gt (fun _ _ _ _ _ h q => fI_r h q) ha hb (nomark _)
theorem PTW.t {e : Expr} (h : PTW X e ea) : PTT X e ea := fun pins s σ H Q I q => h _ pins s σ H Q I q
end
theorem ex_sbl {i : Bool} {p : Bool → Prop} : (∃ j, some (V.bl i) = some (V.bl j) ∧ p j) = p i := propext ⟨fun ⟨_, e, h⟩ => by cases e; exact h, fun h => ⟨i, rfl, h⟩⟩
theorem ex_cons {α : Type} {a : α} {as : List α} {p : α → List α → Prop} : (∃ v r, a :: as = v :: r ∧ p v r) = p a as := propext ⟨fun ⟨_, _, e, h⟩ => by cases e; exact h, fun h => ⟨a, as, rfl, h⟩⟩
end L2

set_option Elab.async false
set_option linter.all false
set_option maxRecDepth 100000
namespace L2
open PySem PySem.Spec PyProof.Rows
section
variable {X : Cx}
theorem call_sum (hc : X.calm = true) : CallR X (.builtin "sum") (fun xs H Q => ∃ (l : Addr) (ns : List Int), xs = [.ref l] ∧ SqL X.K H l (ns.map V.int) ∧ Q (.int ns.sum) H) := by
  intro pins s σ H xs us Q I r h
  obtain ⟨l, ns, rfl, hl, q⟩ := h
  obtain ⟨u, rfl, ru⟩ := vals1 r
  cases ru
  obtain ⟨its, r2, pl, _⟩ := I.list hl
  have hi := intsAre_of r2
  obtain ⟨ys, e⟩ := hi.allInts.items
  have e2 : numsOf its = ns := hi.numsOf
  have hil := pl.isList
  rw [e] at hil
  refine sum_intListG (I.ok.hd hc) hil fun h' tk t' kp => ⟨.int ns.sum, H, I.kept kp, ⟨t', ?_⟩, q⟩
  have e3 : numsOf (intItems ys).toList = ns := by rw [← e]; exact e2
  rw [nums_intItems] at e3
  rw [preSum_eq, List.take_of_length_le (by simp), e3]
end
end L2

set_option Elab.async false
set_option linter.all false
set_option maxRecDepth 100000
namespace L2
open PySem PySem.Spec PyProof.Rows
/-! ### == and != of lists and tuples of any depth that hold the same -/
inductive DV where
  | fl (v : V)
  | tp (l : List DV)
  | ls (l : List DV)
mutual
def Deep (K : PySem.W.Frag) (H : Hp) : DV → V → Prop
  | .fl w, v => v = w ∧ flatV w = true
  | .tp l, v => ∃ a xs, v = .ref a ∧ SqT K H a xs ∧ DeepL K H l xs
  | .ls l, v => ∃ a xs, v = .ref a ∧ SqL K H a xs ∧ DeepL K H l xs
def DeepL (K : PySem.W.Frag) (H : Hp) : List DV → List V → Prop
  | [], xs => xs = []
  | d :: l, xs => ∃ x r, xs = x :: r ∧ Deep K H d x ∧ DeepL K H l r
end
mutual
def DV.dep : DV → Nat
  | .fl _ => 0
  | .tp l => DV.depL l + 1
  | .ls l => DV.depL l + 1
def DV.depL : List DV → Nat
  | [] => 0
  | d :: l => max (DV.dep d) (DV.depL l)
end
theorem eqV_self {w : V} (h : flatV w = true) : eqV w w = true := by
  cases w with
  | non => rfl
  | bl b => simp [eqV]
  | int i => simp [eqV]
  | str z => simp [eqV]
  | _ => exact absurd (show false = true from h) Bool.false_ne_true
theorem all_range_true (n : Nat) : (List.range n).all (fun _ => true) = true := by simp
section
variable {X : Cx} {pins : List (Addr × Obj)} {σ : St} {H : Hp} {s : Shared}
mutual
theorem eqAt_deep (I : Inv X pins σ H s) : ∀ (d : DV) (A : Around) (x y : V) (v u : Value), Deep X.K H d x → Deep X.K H d y → RelV x v → RelV y u → A.units + d.dep < cLine → SeqAt.EqAt A s v u true
  | .fl w, A, x, y, v, u, hx, hy, rx, ry, _ => by
    unfold Deep at hx hy
    obtain ⟨rfl, fw⟩ := hx
    obtain ⟨rfl, _⟩ := hy
    have h := eqAt_V (A := A) (s := s) rx ry fw fw
    rw [eqV_self fw] at h
    exact h
  | .tp l, A, x, y, v, u, hx, hy, rx, ry, hd => by
    unfold Deep at hx hy
    obtain ⟨a, xs, rfl, sx, dx⟩ := hx
    obtain ⟨b, ys, rfl, sy, dy⟩ := hy
    cases rx
    cases ry
    obtain ⟨its, r1, p1, _⟩ := I.tuple sx
    obtain ⟨its2, r2, p2, _⟩ := I.tuple sy
    unfold DV.dep at hd
    obtain ⟨hl, he⟩ := eqAt_deepL I l A.in1 xs ys its its2 dx dy r1 r2 (by show A.units + 1 + _ < _; omega)
    by_cases hab : a = b
    · subst hab; exact SeqAt.EqAt.same _
    · refine SeqAt.EqAt.of_refs hab ?_
      have h := SeqAt.RcAt.tuples (A := A) (e := fun _ => true) p1 p2 (by omega) fun j h1 h2 => he j _ _ (by simpa using List.getElem?_eq_getElem (by simpa using h1)) (by simpa using List.getElem?_eq_getElem (by simpa using h2))
      rw [all_range_true, show (its.toArray.size == its2.toArray.size) = true by simpa using hl] at h
      exact h
  | .ls l, A, x, y, v, u, hx, hy, rx, ry, hd => by
    unfold Deep at hx hy
    obtain ⟨a, xs, rfl, sx, dx⟩ := hx
    obtain ⟨b, ys, rfl, sy, dy⟩ := hy
    cases rx
    cases ry
    obtain ⟨its, r1, p1, _⟩ := I.list sx
    obtain ⟨its2, r2, p2, _⟩ := I.list sy
    unfold DV.dep at hd
    obtain ⟨hl, he⟩ := eqAt_deepL I l A.in1 xs ys its its2 dx dy r1 r2 (by show A.units + 1 + _ < _; omega)
    by_cases hab : a = b
    · subst hab; exact SeqAt.EqAt.same _
    · refine SeqAt.EqAt.of_refs hab ?_
      have h := SeqAt.RcAt.lists (A := A) (e := fun _ => true) p1.isList p2.isList (by simpa using hl) (by omega) fun j h1 h2 => he j _ _ (by simpa using List.getElem?_eq_getElem (by simpa using h1)) (by simpa using List.getElem?_eq_getElem (by simpa using h2))
      rw [all_range_true] at h
      exact h
theorem eqAt_deepL (I : Inv X pins σ H s) : ∀ (l : List DV) (A : Around) (xs ys : List V) (us ws : List Value), DeepL X.K H l xs → DeepL X.K H l ys → Vals xs us → Vals ys ws → A.units + DV.depL l < cLine →
    us.length = ws.length ∧ ∀ (j : Nat) (u w : Value), us[j]? = some u → ws[j]? = some w → SeqAt.EqAt A s u w true
  | [], A, xs, ys, us, ws, hx, hy, rx, ry, _ => by
    unfold DeepL at hx hy
    subst hx hy
    cases rx
    cases ry
    exact ⟨rfl, fun j u w h => by simp at h⟩
  | d :: l, A, xs, ys, us, ws, hx, hy, rx, ry, hd => by
    unfold DeepL at hx hy
    obtain ⟨x, r, rfl, dx, dr⟩ := hx
    obtain ⟨y, r', rfl, dy, dr'⟩ := hy
    cases rx with
    | cons r1 t1 =>
      cases ry with
      | cons r2 t2 =>
        unfold DV.depL at hd
        obtain ⟨hl, he⟩ := eqAt_deepL I l A r r' _ _ dr dr' t1 t2 (by omega)
        refine ⟨by simp [hl], fun j u w h1 h2 => ?_⟩
        cases j with
        | zero =>
          simp only [List.getElem?_cons_zero, Option.some.injEq] at h1 h2
          subst h1 h2
          exact eqAt_deep I d A x y _ _ dx dy r1 r2 (by omega)
        | succ j =>
          simp only [List.getElem?_cons_succ] at h1 h2
          exact he j u w h1 h2
end
/-- x == y, x != y where both are deep and the same -/
def rEqD (K : PySem.W.Frag) (neg : Bool) : R2 := fun x y H Q => ∃ d : DV, DV.dep d ≤ 50 ∧ (∀ w, d ≠ .fl w) ∧ Deep K H d x ∧ Deep K H d y ∧ Q (.bl (!neg)) H
theorem op_neD (hu : X.A.units + 100 < cLine) : OpR X (compareOp .NotEq) (rEqD X.K true) := by
  intro pins s σ H x y v u Q I rx ry h
  obtain ⟨d, hd, hn, dx, dy, q⟩ := h
  have fin : EP X pins σ Q (.bool false) s := ⟨.bl false, H, I, rfl, q⟩
  cases d with
  | fl w => exact absurd rfl (hn w)
  | tp l =>
    unfold Deep at dx dy
    obtain ⟨a, xs, rfl, sx, dx⟩ := dx
    obtain ⟨b, ys, rfl, sy, dy⟩ := dy
    cases rx
    cases ry
    obtain ⟨its, r1, p1, _⟩ := I.tuple sx
    obtain ⟨its2, r2, p2, _⟩ := I.tuple sy
    unfold DV.dep at hd
    obtain ⟨hl, he⟩ := eqAt_deepL I l X.A.in1 xs ys its its2 dx dy r1 r2 (by show X.A.units + 1 + _ < _; omega)
    have h := SeqAt.RcNeAt.tuples (e := fun _ => true) p1 p2 (show X.A.units < cLine by omega) fun j h1 h2 => he j _ _ (by simpa using List.getElem?_eq_getElem (by simpa using h1)) (by simpa using List.getElem?_eq_getElem (by simpa using h2))
    rw [all_range_true, show (its.toArray.size == its2.toArray.size) = true by simpa using hl] at h
    exact h X.prog X.w _ _ fin
  | ls l =>
    unfold Deep at dx dy
    obtain ⟨a, xs, rfl, sx, dx⟩ := dx
    obtain ⟨b, ys, rfl, sy, dy⟩ := dy
    cases rx
    cases ry
    obtain ⟨its, r1, p1, _⟩ := I.list sx
    obtain ⟨its2, r2, p2, _⟩ := I.list sy
    unfold DV.dep at hd
    obtain ⟨hl, he⟩ := eqAt_deepL I l X.A.in1 xs ys its its2 dx dy r1 r2 (by show X.A.units + 1 + _ < _; omega)
    have h := SeqAt.RcNeAt.lists (e := fun _ => true) p1.isList p2.isList (by simpa using hl) (show X.A.units < cLine by omega) fun j h1 h2 => he j _ _ (by simpa using List.getElem?_eq_getElem (by simpa using h1)) (by simpa using List.getElem?_eq_getElem (by simpa using h2))
    rw [all_range_true] at h
    exact h X.prog X.w _ _ fin
end
theorem hu100 {A : Around} {k : Nat} (hr : Room k A) : A.units + 100 < cLine := by have := hr.un; omega
/-- a list of flat values, deep -/
theorem deepL_flat {K : PySem.W.Frag} {H : Hp} : ∀ {xs : List V}, xs.all flatV = true → DeepL K H (xs.map DV.fl) xs
  | [], _ => by unfold DeepL; rfl
  | x :: xs, h => by
    rw [List.all_cons, Bool.and_eq_true] at h
    rw [List.map_cons]
    unfold DeepL
    exact ⟨x, xs, rfl, by unfold Deep; exact ⟨rfl, h.1⟩, deepL_flat h.2⟩
theorem depL_flat : ∀ (xs : List V), DV.depL (xs.map DV.fl) = 0
  | [] => by unfold DV.depL; rfl
  | x :: xs => by rw [List.map_cons]; unfold DV.depL; rw [depL_flat xs]; unfold DV.dep; rfl
/-! ### is, is not: bools -/
section
variable {X : Cx}
end
end L2

set_option Elab.async false
set_option linter.all false
set_option maxRecDepth 100000
namespace L2
open PySem PySem.Spec PyProof.Rows
section
variable {X : Cx} {pos : Pos}
end
end L2

set_option Elab.async false
set_option linter.all false
set_option maxRecDepth 100000
namespace L2
open PySem PySem.Spec PyProof.Rows
section
variable {X : Cx} {a b : Expr} {ea eb : Ev} {pos : Pos}
def fNeg : V → Option V | .int i => some (.int (-i)) | _ => none
theorem fNeg_i {i : Int} : fNeg (.int i) = some (.int (-i)) := rfl
theorem pp_neg (ha : PP X a ea) : PP X (.UnaryOp .USub a pos) (ev1 fNeg ea) := by
  refine PP.of (pe_un un_neg ha) fun σ H Q v h q => ?_
  obtain ⟨x, e1, e2⟩ := ev1_some h
  unfold fNeg at e2
  split at e2
  · cases e2; exact ⟨_, e1, _, rfl, q⟩
  · cases e2
end
end L2

set_option Elab.async false
set_option linter.all false
set_option maxRecDepth 100000
namespace L2
open PySem PySem.Spec PyProof.Rows
/-! ### deep things by the tracked heap -/
mutual
def DeepH (H : Hp) : DV → V → Prop
  | .fl w, v => v = w
  | .tp l, v => ∃ a xs, v = .ref a ∧ H a = some (.tup xs) ∧ DeepHL H l xs
  | .ls l, v => ∃ a xs, v = .ref a ∧ H a = some (.lst xs) ∧ DeepHL H l xs
def DeepHL (H : Hp) : List DV → List V → Prop
  | [], xs => xs = []
  | d :: l, xs => ∃ x r, xs = x :: r ∧ DeepH H d x ∧ DeepHL H l r
end
mutual
theorem DeepH.same {H H' : Hp} (s : Same H H') : ∀ (d : DV) (v : V), DeepH H d v → DeepH H' d v
  | .fl w, v, h => by unfold DeepH at h ⊢; exact h
  | .tp l, v, h => by
    unfold DeepH at h ⊢
    obtain ⟨a, xs, e, ha, hl⟩ := h
    exact ⟨a, xs, e, s _ _ ha, DeepHL.same s l xs hl⟩
  | .ls l, v, h => by
    unfold DeepH at h ⊢
    obtain ⟨a, xs, e, ha, hl⟩ := h
    exact ⟨a, xs, e, s _ _ ha, DeepHL.same s l xs hl⟩
theorem DeepHL.same {H H' : Hp} (s : Same H H') : ∀ (l : List DV) (xs : List V), DeepHL H l xs → DeepHL H' l xs
  | [], xs, h => by unfold DeepHL at h ⊢; exact h
  | d :: l, xs, h => by
    unfold DeepHL at h ⊢
    obtain ⟨x, r, e, hd, hl⟩ := h
    exact ⟨x, r, e, DeepH.same s d x hd, DeepHL.same s l r hl⟩
end
theorem DeepHL.get {H : Hp} : ∀ {l : List DV} {xs : List V} {i : Nat} {x : V}, DeepHL H l xs → xs[i]? = some x → ∃ d, l[i]? = some d ∧ DeepH H d x
  | [], xs, i, x, h, e => by unfold DeepHL at h; subst h; simp at e
  | d :: l, xs, i, x, h, e => by
    unfold DeepHL at h
    obtain ⟨y, r, rfl, hd, hl⟩ := h
    cases i with
    | zero => exact ⟨d, rfl, by simp at e; rw [← e]; exact hd⟩
    | succ i => exact DeepHL.get (l := l) (i := i) hl (by simpa using e)
theorem DeepHL.len {H : Hp} : ∀ {l : List DV} {xs : List V}, DeepHL H l xs → xs.length = l.length
  | [], xs, h => by unfold DeepHL at h; subst h; rfl
  | d :: l, xs, h => by
    unfold DeepHL at h
    obtain ⟨y, r, rfl, hd, hl⟩ := h
    rw [List.length_cons, List.length_cons, DeepHL.len hl]
end L2

set_option Elab.async false
set_option linter.all false
set_option maxRecDepth 100000
namespace L2
open PySem PySem.Spec PyProof.Rows
/-! ### within a comprehension -/
end L2

set_option Elab.async false
set_option linter.all false
set_option maxRecDepth 100000
set_option maxHeartbeats 4000000
namespace My
open PySem L2
/-! ### a dict that the top wrote, read by get -/
theorem rel_abs {x : V} {u : Value} (h : absV u = some x) : RelV x u := by
  cases u <;> simp only [absV] at h <;> first | (cases h; done) | (cases h; first | rfl | exact ⟨_, rfl⟩)
def DictK (K : PySem.W.Frag) (w : World) (a : Addr) (kvs : List (Key × V)) : Prop :=
  ∃ es ep, K.lookup a = some ⟨.type "dict", none, .dict es ep, #[]⟩ ∧ (a == sysModules) = false ∧ es.toList.map (fun d => (d.hash, absV d.key, absV d.val)) = kvs.map (fun p => (keyH w p.1, some (kV p.1), some p.2)) ∧ (kvs.map (·.1)).Nodup
theorem dictK_pairs {P : Program} {w : World} : ∀ {kvs : List (Key × V)} {es : List DictEntry}, es.map (fun d => (d.hash, absV d.key, absV d.val)) = kvs.map (fun p => (keyH w p.1, some (kV p.1), some p.2)) →
    ∃ vs, KV kvs vs ∧ Pairs (mixKind P w) es vs ∧ vs.map (·.1) = kvs.map (·.1) ∧ ∀ e ∈ es, ∃ k, (mixKind P w).is k e.key = true ∧ e.hash = (mixKind P w).hash k
  | [], [], _ => ⟨[], .nil, .nil, rfl, fun _ h => nomatch h⟩
  | [], _ :: _, h => by simp at h
  | _ :: _, [], h => by simp at h
  | p :: kvs, e :: es, h => by
    rw [List.map_cons, List.map_cons] at h
    injection h with h0 h1
    injection h0 with a1 a2
    injection a2 with a2 a3
    obtain ⟨vs, r, q, m, n⟩ := dictK_pairs (P := P) h1
    have is : (mixKind P w).is p.1 e.key = true := kV_is (rel_abs a2)
    refine ⟨(p.1, e.val) :: vs, .cons ⟨rfl, rel_abs a3⟩ r, .cons is rfl q, by rw [List.map_cons, List.map_cons, m], fun d hd => ?_⟩
    rcases List.mem_cons.mp hd with rfl | hd
    · exact ⟨p.1, is, a1⟩
    · exact n d hd
theorem DictK.at {X : Cx} {pins : List (Addr × Obj)} {σ : St} {H : Hp} {s : Shared} {a : Addr} {kvs : List (Key × V)} (h : DictK X.K X.w a kvs) (I : Inv X pins σ H s) :
    ∃ vs, KV kvs vs ∧ s.heap.DictOf (mixKind X.prog X.w) a vs := by
  obtain ⟨es, ep, l, _, m, nd⟩ := h
  obtain ⟨vs, r, q, k, n⟩ := dictK_pairs (P := X.prog) m
  exact ⟨vs, r, _, es, ep, I.kIn _ _ l, ⟨rfl, rfl, rfl⟩, rfl, fun e he => n e (by simpa using he), q, by rw [k]; exact nd⟩
section
variable {X : Cx} {o e : Expr} {apos cpos : Pos} {ty : TE} {a : Addr} {kvs : List (Key × V)}
end
end My

set_option Elab.async false
set_option linter.all false
set_option maxRecDepth 100000
set_option maxHeartbeats 4000000
namespace My
open PySem L2
section
variable {X : Cx}
end
end My

set_option Elab.async false
set_option linter.all false
set_option maxRecDepth 100000
set_option maxHeartbeats 4000000
namespace L2
open PySem
end L2

set_option Elab.async false
set_option linter.all false
set_option maxRecDepth 100000
namespace L2
open PySem PySem.Spec PyProof.Rows
/-! ### reversed(range(n)) -/
theorem sub_ri_reversed : isSubtype (.type "range_iterator") (.type "reversed") = pure false := by rw [isSubtype_type]; kernel_rfl
theorem range_rev_meets (r : Addr) (a b c : Int) (t u v : Tok) (hc0 : (Builtin.Range.rangeFitsLong a && Builtin.Range.rangeFitsLong b && Builtin.Range.rangeFitsLong c && Builtin.Range.rangeFitsLong (-c) && Builtin.Range.rangeFitsLong (a - c) && Builtin.Range.rangeFitsLong (Builtin.Range.rangeSize a b c)) = true) :
    Meets (Builtin.«range.__reversed__» ⟨[.ref r], []⟩) (fun _ R s => s.heap.get? r = some { cls := .type "range", dict := none, data := .fields #[.int a t, .int b u, .int c v], slots := #[] } ∧ R (.ok (.ret (Value.ref s.heap.objs.size))) { s with heap := s.heap.push { cls := .type "range_iterator", data := .fields #[rawInt (a + (Builtin.Range.rangeSize a b c - 1) * c), rawInt (Builtin.Range.rangeSize a b c), rawInt (-c)] } }) :=
  .of_wp fun prog w A R s h => by
    obtain ⟨hp, g, d, tk, os⟩ := s
    obtain ⟨hl, h⟩ := h
    have hc1 : ¬ (!(Builtin.Range.rangeFitsLong a && Builtin.Range.rangeFitsLong b && Builtin.Range.rangeFitsLong c && Builtin.Range.rangeFitsLong (-c) && Builtin.Range.rangeFitsLong (a - c) && Builtin.Range.rangeFitsLong (Builtin.Range.rangeSize a b c))) = true := by rw [hc0]; simp
    wp_walk
    rw [if_pos hc0]
    exact ⟨_, rfl, h⟩
section
variable {prog : Program} {w : World} {A : Around} {E : Value → Shared → Prop} {s : Shared}
theorem fits_of {j : Int} (h0 : 0 ≤ j) (h1 : j < 2 ^ 62) : (Builtin.Range.rangeFitsLong 0 && Builtin.Range.rangeFitsLong j && Builtin.Range.rangeFitsLong 1 && Builtin.Range.rangeFitsLong (-1) && Builtin.Range.rangeFitsLong (0 - 1) && Builtin.Range.rangeFitsLong (Builtin.Range.rangeSize 0 j 1)) = true := by
  have e : Builtin.Range.rangeSize 0 j 1 = j := by rw [rangeSize_one]; split <;> omega
  rw [e]
  have q : Builtin.Range.rangeFitsLong j = true := by
    unfold Builtin.Range.rangeFitsLong
    rw [Bool.and_eq_true]
    exact ⟨decide_eq_true (by omega), decide_eq_true (by omega)⟩
  rw [q]
  decide +kernel
theorem call_range_rev {r : Addr} {j : Int} {t u v : Tok} {Q : Value → Shared → Prop} (hr : IsRange s.heap r 0 j 1 t u v) (h0 : 0 ≤ j) (h1 : j < 2 ^ 62)
    (h : Q (.ref s.heap.objs.size) { s with heap := s.heap.push { cls := .type "range_iterator", data := .fields #[rawInt (j - 1), rawInt j, rawInt (-1)] } }) : wpAny (model prog w) A (call (.builtin "range.__reversed__") [.ref r]) Q E s := by
  have hT : s.TypeIs (.ref r) "range" := ⟨_, hr, rfl⟩
  refine call_meets F.slot_range_reversed hT F.entry_range_reversed (F.args_range_reversed_1 _) (range_rev_meets r 0 j 1 t u v (fits_of h0 h1)) ⟨hr, ?_⟩
  have e : Builtin.Range.rangeSize 0 j 1 = j := by rw [rangeSize_one]; split <;> omega
  rw [e, show 0 + (j - 1) * 1 = j - 1 by omega]
  exact h
theorem code_reversed_rng {r : Addr} {j : Int} {t u v : Tok} {Q₁ : Value → Shared → Prop} (hr : IsRange s.heap r 0 j 1 t u v) (h0 : 0 ≤ j) (h1 : j < 2 ^ 62)
    (h : Q₁ (.ref s.heap.objs.size) { s with heap := s.heap.push { cls := .type "range_iterator", data := .fields #[rawInt (j - 1), rawInt j, rawInt (-1)] } }) :
    codeAny (model prog w) A (.call (.builtin "reversed.__new__") ⟨[.type "reversed", .ref r], []⟩) (wants Q₁ E) s := by
  have hT : s.TypeIs (.ref r) "range" := ⟨_, hr, rfl⟩
  refine codeAny_of_tree ?_
  show wpAny _ A.in1 (do checkBuiltinCall "reversed.__new__" ⟨[.type "reversed", .ref r], []⟩; again (.builtin "reversed.__new__" ⟨[.type "reversed", .ref r], []⟩)) _ _ s
  refine wpAny_bind (wpAny_of_eq (F.newCall_reversed_1 _) (wpAny_pure ⟨plainId_quiet F.plain_reversed_new _, codeAny_builtin F.entry_reversed_new ?_⟩))
  rw [Around.under_plainId F.plain_reversed_new _]
  unfold Builtin.«reversed.__new__»
  refine wpAny_bind (wpAny_of_eq (newClass_reversed _) ?_)
  try dsimp only
  refine wpAny_bind (wpAny_of_eq (a := ()) (by first | rfl | kernel_rfl) ?_)
  refine wpAny_bind (wpAny_of_eq (a := ()) (by first | rfl | kernel_rfl) ?_)
  try dsimp only
  refine wpAny_bind (wpAny_specialOf hT F.slot_range_reversed.lookup ?_)
  try dsimp only
  refine wpAny_bind (wpAny_of_eq (F.slot_range_reversed.bind _) ?_)
  try dsimp only
  first
  | rw [if_neg (show ¬ ((Value.builtin "range.__reversed__" == Value.none) = true) from Bool.false_ne_true)]
  | (show wpAny _ _ (if (Value.builtin "range.__reversed__" == Value.none) = true then _ else _) _ _ _; rw [if_neg (show ¬ ((Value.builtin "range.__reversed__" == Value.none) = true) from Bool.false_ne_true)])
  refine wpAny_bind (wpAny_rule ?_)
  refine wpAny_bind (m := runValue (.call (.builtin "range.__reversed__") ⟨[.ref r], []⟩)) (show wpAny _ _ (call (.builtin "range.__reversed__") [.ref r]) _ _ _ from call_range_rev hr h0 h1 ?_)
  first
  | exact wpAny_pure h
  | exact wpAny_bind (wpAny_pure (wpAny_pure h))
theorem call_reversed_rng {r : Addr} {j : Int} {t u v : Tok} {Q : Value → Shared → Prop} (hr : IsRange s.heap r 0 j 1 t u v) (h0 : 0 ≤ j) (h1 : j < 2 ^ 62)
    (h : Q (.ref s.heap.objs.size) { s with heap := s.heap.push { cls := .type "range_iterator", data := .fields #[rawInt (j - 1), rawInt j, rawInt (-1)] } }) : wpAny (model prog w) A (call (.type "reversed") [.ref r]) Q E s := by
  refine callType_other (U := "range_iterator") (Q₁ := fun obj s₁ => obj = .ref s.heap.objs.size ∧ s₁ = { s with heap := s.heap.push { cls := .type "range_iterator", data := .fields #[rawInt (j - 1), rawInt j, rawInt (-1)] } }) (by decide +kernel) F.create_reversed ⟨_, _, F.mro_reversed⟩ F.made_reversed sub_ri_reversed (F.typeCall_reversed_1 _) (code_reversed_rng hr h0 h1 ⟨rfl, rfl⟩) ?_
  rintro obj s₁ ⟨rfl, rfl⟩
  exact ⟨⟨_, Heap.get?_push_size _ rfl, rfl⟩, h⟩
end
/-- n - 1, n - 2, .., 0 -/
def Itv (n : Nat) : It := ⟨fun i _ => i < n, fun i H x H' => H' = H ∧ x = .int ((n : Int) - 1 - i), fun i _ => n ≤ i⟩
theorem turn_rev {P : Program} {w : World} {K : PySem.W.Frag} {tg : Expr} (it : Addr) (n : Nat) : Turn P w K tg (Itv n) [it] it (fun i h => IsRangeIter h it ((n : Int) - 1 + (i : Nat) * (-1)) ((n : Int) - (i : Nat)) (-1)) where
  mem := by simp
  obj := fun i h st b hb => by
    have e : b = it := by simpa using hb
    subst e
    exact ⟨_, st, fun v z => by
      have z' : Data.fields _ = Data.cell v := z
      cases z'⟩
  keep := fun i h h' st k => k it (by simp) _ st
  item := by
    intro X hP hw hK hc i pins s σ H E I hf st hg
    subst hP hw hK
    obtain ⟨f0, f1, f2, f3, f4, f5⟩ := hf it (by simp)
    have W := Walks.range (prog := X.prog) (w := X.w) (I.ok.hd hc) it ((n : Int) - 1) (-1) n
    refine W.item i s _ _ hg st fun v h' tk hv st' kk => ?_
    obtain ⟨t, rfl⟩ := hv
    have I1 : Inv X pins σ H { s with heap := h', toks := tk } := I.turned (fun b o hb e => kk b o (by simpa using hb) e) f0 f1 f3 f4 f5
    refine ⟨_, rfl, go_of (s := { s with heap := h', toks := tk }) (n := "range_iterator") st' rfl rfl (by decide) ⟨.int ((n : Int) - 1 - i), H, I1, ⟨t, ?_⟩, ⟨rfl, rfl⟩, st', fun b hb => (hf b hb).1⟩⟩
    rw [show (n : Int) - 1 + (i : Int) * (-1) = (n : Int) - 1 - i by omega]
  done := by
    intro X hP hw hK hc i pins s σ H E I hf st hg
    subst hP hw hK
    obtain ⟨f0, f1, f2, f3, f4, f5⟩ := hf it (by simp)
    exact wpAny_pyNext_range_end (I.ok.hd hc) st (by have : n ≤ i := hg; omega) fun h' eb => ⟨rfl, I.turned (t' := s.toks) (fun b o hb e => eb b o hb e) f0 f1 f3 f4 f5⟩
  self := fun _ _ _ _ _ st h => wpAny_pyIter_rangeiter st h
section
variable {X : Cx} {tg : Expr}
def iRev (ta : TA) : TI := fun σ H R => ta σ H fun vs H1 => ∃ n : Nat, vs = [.int (n : Int)] ∧ (n : Int) < 2 ^ 62 ∧ R (Itv n) H1
theorem pi_rev {a : Expr} {ta : TA} {p pos p2 pos2 : Pos} (hg : Gl X "range") (hm : X.mg "range" = none) (hg2 : Gl X "reversed") (hm2 : X.mg "reversed" = none) (ha : PA X [a] ta) (hs : starEach [a] X.env = [(false, eval a X.env)] := by rfl)
    (hs2 : starEach [.Call (.Name "range" p) [a] [] pos] X.env = [(false, eval (.Call (.Name "range" p) [a] [] pos) X.env)] := by rfl) : PI X tg (.Call (.Name "reversed" p2) [.Call (.Name "range" p) [a] [] pos] [] pos2) (iRev ta) := by
  intro pins s σ H R I h
  refine Call_ (ld_blt I hg2 hm2 boot_reversed (PyProof.Rows.callWith_type1 ?_ hs2 rfl))
  rw [hs2]
  show wpAny _ _ (spliced ((false, eval (.Call (.Name "range" p) [a] [] pos) X.env) :: backTo pos2 [])) _ _ s
  refine Calls.spliced_cons ?_
  refine Call_ (ld_blt I hg hm boot_range (PyProof.Rows.callWith_type1 (thn (ha pos pins s σ H _ I h) fun us s1 ⟨vs, H1, I1, r1, q1⟩ => ?_) hs rfl))
  obtain ⟨n, e, q2, q⟩ := q1
  subst e
  cases r1 with
  | cons r rr =>
    cases rr
    obtain ⟨t, rfl⟩ := r
    refine call_range_1 ?_
    refine Calls.spliced_nil ?_
    refine call_reversed_rng (IsRange.new ..) (by omega) q2 ?_
    refine wpAny_pyIter_rangeiter (Heap.get?_push_size _ rfl) ?_
    have I2 : Inv X pins σ H1 { s1 with heap := s1.heap.push { cls := .type "range", data := .fields #[.int 0 s1.toks, .int (n : Int) t, .int 1 (s1.toks + 1)] }, toks := s1.toks + 1 + 1 } := I1.kept fun b o e => Heap.get?_push_of_some _ e
    refine ⟨_, [_], _, _, H1, rfl, I2.kept (t' := s1.toks + 1 + 1) fun b o e => Heap.get?_push_of_some _ e, turn_rev _ n, ?_, fun b hb => ?_, q⟩
    · show IsRangeIter _ _ ((n : Int) - 1 + ((0 : Nat) : Int) * (-1)) ((n : Int) - ((0 : Nat) : Int)) (-1)
      rw [show (n : Int) - 1 + ((0 : Nat) : Int) * (-1) = (n : Int) - 1 by omega, show (n : Int) - ((0 : Nat) : Int) = n by omega]
      exact Heap.get?_push_size _ rfl
    · rw [List.mem_singleton.mp hb]
      exact I2.fpOk (Nat.le_refl _) (I2.hok.fresh (Nat.le_refl _))
theorem for_rev {n : Nat} {g : TG} {tb : TS} {D : Ends} {σ : St} {H : Hp} (Pv : Nat → St → Hp → Prop) (h0 : Pv 0 σ H)
    (hs : ∀ i σ H, i < n → Pv i σ H → g (.int ((n : Int) - 1 - i)) σ H fun σ2 H2 => tb { D with nx := Pv (i + 1), ct := Pv (i + 1), bk := D.nx } σ2 H2) (hd : ∀ σ H, Pv n σ H → D.nx σ H) :
    ∃ W : Nat → Nat → St → Hp → Prop, (∃ m, W 0 m σ H) ∧ ∀ i m σ H, W i m σ H →
      ((Itv n).stop i H ∧ D.nx σ H) ∨ ((Itv n).go i H ∧ ∃ N : St → Hp → Prop, (∀ σ' H', N σ' H' → ∃ m', m' < m ∧ W (i + 1) m' σ' H') ∧ ∀ x H', (Itv n).yld i H x H' → g x σ H' fun σ2 H2 => tb { D with nx := N, ct := N, bk := D.nx } σ2 H2) := by
  refine ⟨fun i m σ H => m = n - i ∧ i ≤ n ∧ Pv i σ H, ⟨n, by simp, Nat.zero_le _, h0⟩, ?_⟩
  rintro i m σ H ⟨rfl, hi, p⟩
  by_cases hlt : i < n
  · refine .inr ⟨hlt, Pv (i + 1), fun σ' H' p' => ⟨n - (i + 1), by omega, rfl, hlt, p'⟩, fun x H' y => ?_⟩
    obtain ⟨rfl, rfl⟩ := y
    exact hs i σ _ hlt p
  · have e : i = n := by omega
    subst e
    exact .inl ⟨Nat.le_refl _, hd σ H p⟩
/-! ### any -/
theorem call_any (hc : X.calm = true) : CallR X (.builtin "any") (fun xs H Q => ∃ (l : Addr) (bs : List Bool), xs = [.ref l] ∧ H l = some (.lst (bs.map V.bl)) ∧ Q (.bl (bs.any id)) H) := by
  intro pins s σ H xs us Q I r h
  obtain ⟨l, bs, rfl, hl, q⟩ := h
  obtain ⟨u, rfl, ru⟩ := vals1 r
  cases ru
  obtain ⟨its, n, rv, e, _⟩ := I.lst hl
  have hlist : s.heap.IsList l its.toArray := ⟨_, e, rfl, n, rfl⟩
  refine call_any_walk (wpAny_pyIter_list hlist ?_)
  have hne : l ≠ s.heap.objs.size := Nat.ne_of_lt (Heap.lt_size e)
  have hlen : its.length = bs.length := by rw [← rv.length]; simp
  refine ⟨s.heap.objs.size, _, _, _, _, _, fun i => bs[i]?.getD true, rfl, Walks.list (by exact I.ok.hd hc) s.heap.objs.size l hne its.toArray, ⟨⟨_, Heap.get?_push_size _ rfl, rfl, rfl⟩, ⟨_, Heap.get?_push_of_some _ e, rfl, n, rfl⟩⟩, ?_, ?_⟩
  · intro i v s' Q' E' hv hq
    have hv : its[i]? = some v := by simpa using hv
    have hi : i < bs.length := by rw [← hlen]; exact (List.getElem?_eq_some_iff.mp hv).1
    obtain ⟨u, hu, ru⟩ := rv.get (i := i) (x := V.bl bs[i]) (by simp [hi])
    rw [hv] at hu
    have e1 : v = u := Option.some.inj hu
    subst e1
    cases (show v = Value.bool bs[i] from ru)
    refine wpAny_truthy_bool ?_
    have e2 : bs[i]?.getD true = bs[i] := by simp [hi]
    have hq : Q' (bs[i]?.getD true) s' := hq
    rw [e2] at hq
    exact hq
  · intro h' tk hk
    refine ⟨.bl (bs.any id), H, I.kept fun b o e' => hk b o (by simp; exact Nat.ne_of_lt (Heap.lt_size e')) (Heap.get?_push_of_some _ e'), ?_, q⟩
    show Value.bool _ = Value.bool _
    congr 1
    rw [List.size_toArray, hlen]
    rw [Bool.eq_iff_iff, List.any_eq_true, List.any_eq_true]
    constructor
    · rintro ⟨i, hi, hb⟩
      have hi := List.mem_range.mp hi
      rw [List.getElem?_eq_getElem hi] at hb
      exact ⟨_, List.getElem_mem hi, hb⟩
    · rintro ⟨b, hb, hbt⟩
      obtain ⟨i, hi, e⟩ := List.mem_iff_getElem.mp hb
      refine ⟨i, List.mem_range.mpr hi, ?_⟩
      rw [List.getElem?_eq_getElem hi, Option.getD_some, e]
      exact hbt
end
end L2

set_option Elab.async false
set_option linter.all false
set_option maxRecDepth 100000
namespace L2
open PySem PySem.Spec PyProof.Rows
theorem ix_listC {X : Cx} {N : List Str} {sc : Scope} {C : Addr} {fp : List Addr} {s : Shared} {H : Hp} {xe : Value → Shared → Prop} : IxR (cxC X N sc C fp s H xe) (rIxL X.K) := ix_list
/-! ### a list of references to things of one shape -/
def At2 {α : Type} (H : Hp) (o : α → HO) (as : List Addr) (xs : List α) : Prop := as.length = xs.length ∧ ∀ (i : Nat) (a : Addr), as[i]? = some a → ∃ x, xs[i]? = some x ∧ H a = some (o x)
section
variable {α : Type} {H H' : Hp} {o : α → HO} {as : List Addr} {xs : List α}
theorem At2.nil : At2 H o [] [] := ⟨rfl, fun i a h => by simp at h⟩
theorem At2.snoc (h : At2 H o as xs) {a : Addr} {x : α} (e : H a = some (o x)) : At2 H o (as ++ [a]) (xs ++ [x]) := by
  obtain ⟨l, g⟩ := h
  refine ⟨by simp [l], fun i b hb => ?_⟩
  by_cases hi : i < as.length
  · rw [List.getElem?_append_left hi] at hb
    rw [List.getElem?_append_left (by omega)]
    exact g i b hb
  · rw [List.getElem?_append_right (by omega)] at hb
    rw [List.getElem?_append_right (by omega)]
    have hz : i - as.length = 0 := by
      have := (List.getElem?_eq_some_iff.mp hb).1
      simp at this; omega
    rw [hz] at hb
    rw [show i - xs.length = 0 by omega]
    have e2 : a = b := Option.some.inj hb
    exact ⟨x, rfl, by rw [← e2]; exact e⟩
theorem At2.keep (h : At2 H o as xs) (k : ∀ a ∈ as, ∀ u, H a = some u → H' a = some u) : At2 H' o as xs :=
  ⟨h.1, fun i a e => let ⟨x, ex, hx⟩ := h.2 i a e; ⟨x, ex, k a (List.mem_of_getElem? e) _ hx⟩⟩
theorem At2.same (h : At2 H o as xs) (s : Same H H') : At2 H' o as xs := h.keep fun a _ u e => s a u e
theorem At2.mem (h : At2 H o as xs) {a : Addr} (m : a ∈ as) : ∃ x ∈ xs, H a = some (o x) := by
  obtain ⟨i, hi, e⟩ := List.mem_iff_getElem.mp m
  obtain ⟨x, ex, hx⟩ := h.2 i a (by rw [List.getElem?_eq_getElem hi, e])
  exact ⟨x, List.mem_of_getElem? ex, hx⟩
theorem At2.ix (h : At2 H o as xs) {i : Nat} (hi : i < xs.length) : ∃ a, as[i]? = some a ∧ H a = some (o xs[i]) := by
  have hi' : i < as.length := by rw [h.1]; exact hi
  obtain ⟨x, ex, hx⟩ := h.2 i as[i] (List.getElem?_eq_getElem hi')
  rw [List.getElem?_eq_getElem hi] at ex
  cases ex
  exact ⟨_, List.getElem?_eq_getElem hi', hx⟩
end
theorem deep_lst {K : PySem.W.Frag} {H : Hp} {a : Addr} {xs : List V} (h : H a = some (.lst xs)) (f : xs.all flatV = true) : Deep K H (.ls (xs.map DV.fl)) (.ref a) := by
  unfold Deep
  exact ⟨a, xs, rfl, SqL.of h, deepL_flat f⟩
theorem atI_some {α : Type} {xs : List α} {v : Int} (h0 : 0 ≤ v) (h1 : v < xs.length) : ∃ x, atI xs v = some x ∧ x ∈ xs := by
  obtain ⟨j, rfl⟩ := Int.eq_ofNat_of_zero_le h0
  have hj : j < xs.length := by omega
  exact ⟨xs[j], atI_nat (List.getElem?_eq_getElem hj), List.getElem_mem hj⟩
theorem atI_int {ns : List Int} {v : Int} (h0 : 0 ≤ v) (h1 : v < ns.length) : ∃ x, atI (ns.map V.int) v = some (.int x) ∧ atI ns v = some x := by
  obtain ⟨j, rfl⟩ := Int.eq_ofNat_of_zero_le h0
  have hj : j < ns.length := by omega
  exact ⟨ns[j], atI_nat (by simp [hj]), atI_nat (List.getElem?_eq_getElem hj)⟩
end L2

set_option Elab.async false
set_option linter.all false
set_option maxRecDepth 100000
namespace L2
open PySem PySem.Spec PyProof.Rows
/-! ### sorted(a list of ints) -/
theorem vals_intsAre : ∀ {vs : List Value} {ns : List Int}, IntsAre vs ns → Vals (ns.map V.int) vs
  | _, _, .nil => .nil
  | _, _, .cons n t r => .cons ⟨t, rfl⟩ (vals_intsAre r)
section
variable {X : Cx}
theorem call_sorted (hc : X.calm = true) : CallR X (.builtin "sorted") (fun xs H Q => ∃ (p : Addr) (ns : List Int), xs = [.ref p] ∧ SqL X.K H p (ns.map V.int) ∧ ns.length < 64 ∧ ∀ (l : Addr) (ns' : List Int), H l = none → ns'.Perm ns → ns'.Pairwise (· ≤ ·) → Q (.ref l) (upd H l (.lst (ns'.map V.int)))) := by
  intro pins s σ H xs us Q I r h
  obtain ⟨p, ns, rfl, hq, h64, q⟩ := h
  obtain ⟨u, rfl, rx⟩ := vals1 r
  cases rx
  obtain ⟨its, r', pl, hz⟩ := I.list hq
  have hi := intsAre_of r'
  have hlen := r'.length
  refine sorted_ints pl.isList hi (by rw [← hlen]; simpa using h64) fun out ns' a1 a2 a3 => ?_
  obtain ⟨e, he⟩ := sortedAll_at s.heap its out
  have hl' : (ns'.map V.int).length ≤ sizeLine := by
    have := a2.length_eq
    simp
    exact Nat.le_of_lt (small1000 (by omega))
  refine ⟨.ref (s.heap.objs.size + 1), _, I.laid (t' := s.toks) (fun b o => sortedAll_old) (Nat.le_succ _) (show ObjOk X.prog X.w _ _ _ (.lst (ns'.map V.int)) from ⟨hl', out.toList, e, vals_intsAre a1, ?_⟩), rfl, q _ ns' (I.hok.fresh (Nat.le_succ _)) a2 a3⟩
  exact he
end
theorem At2.app {α : Type} {H : Hp} {o : α → HO} {as bs : List Addr} {xs ys : List α} (h : At2 H o as xs) (g : At2 H o bs ys) : At2 H o (as ++ bs) (xs ++ ys) := by
  refine ⟨by simp [h.1, g.1], fun i b hb => ?_⟩
  have hl := h.1
  by_cases hi : i < as.length
  · rw [List.getElem?_append_left hi] at hb
    rw [List.getElem?_append_left (by omega)]
    exact h.2 i b hb
  · rw [List.getElem?_append_right (by omega)] at hb
    rw [List.getElem?_append_right (by omega), ← hl]
    exact g.2 _ b hb
theorem At2.take {α : Type} {H : Hp} {o : α → HO} {as : List Addr} {xs : List α} (h : At2 H o as xs) (n : Nat) : At2 H o (as.take n) (xs.take n) := by
  refine ⟨by simp [h.1], fun i b hb => ?_⟩
  rw [List.getElem?_take] at hb ⊢
  split at hb
  · rw [if_pos (by assumption)]
    exact h.2 i b hb
  · cases hb
theorem At2.drop {α : Type} {H : Hp} {o : α → HO} {as : List Addr} {xs : List α} (h : At2 H o as xs) (n : Nat) : At2 H o (as.drop n) (xs.drop n) := by
  refine ⟨by simp [h.1], fun i b hb => ?_⟩
  rw [List.getElem?_drop] at hb ⊢
  exact h.2 _ b hb
theorem cutV_to (xs : List V) (m : Nat) : cutV xs none (some (m : Int)) = xs.take m := by
  unfold cutV
  rw [show HT.sIx xs.length xs.length (some (m : Int)) = min m xs.length from HT.sIx_nat _ _ _, HT.sIx_none, List.drop_zero, Nat.sub_zero, ← List.take_eq_take_min]
theorem cutV_from (xs : List V) (m : Nat) : cutV xs (some (m : Int)) none = xs.drop m := by
  unfold cutV
  rw [show HT.sIx xs.length 0 (some (m : Int)) = min m xs.length from HT.sIx_nat _ _ _, HT.sIx_none]
  by_cases h : m ≤ xs.length
  · rw [Nat.min_eq_left h, List.take_of_length_le (by simp)]
  · rw [Nat.min_eq_right (by omega), List.drop_length, List.drop_eq_nil_of_le (by omega)]
    simp
end L2

set_option Elab.async false
set_option linter.all false
set_option maxRecDepth 100000
set_option maxHeartbeats 4000000
namespace My
open PySem L2
def top (i : Nat) : Stmt := PySem.Challenge.pw_inningsbook_k64_whole_rain.main.body.getD i (.Pass ⟨0, 0, 0, 0⟩)
abbrev s_share : Stmt := top 2
abbrev s_aim : Stmt := top 3
abbrev s_cell : Stmt := top 5
abbrev s_mixed : Stmt := top 6
abbrev s_take : Stmt := top 7
abbrev s_pot : Stmt := top 8
abbrev s_table : Stmt := top 9
abbrev s_cuts : Stmt := top 10
abbrev s_shares : Stmt := top 11
abbrev s_aims : Stmt := top 12
abbrev s_law : Stmt := top 13
structure Ext where
  tW : Tok
structure Txt (K : PySem.W.Frag) (mg : Str → Option Value) (e : Ext) : Prop where
  n_len : mg "len" = none
  n_range : mg "range" = none
  n_reversed : mg "reversed" = none
  n_max : mg "max" = none
  n_min : mg "min" = none
  n_sum : mg "sum" = none
  n_any : mg "any" = none
  n_sorted : mg "sorted" = none
  n_enumerate : mg "enumerate" = none
  g_WHOLE : mg "WHOLE" = some (.int 1000 e.tW)
/-! ### the pot: a list of three ints that is drawn from -/
def PotAt (H : Hp) (p : Addr) (n : Nat) : Prop := ∃ (c k b : Int), H p = some (.lst [.int c, .int k, .int b]) ∧ 0 ≤ k ∧ k ≤ n
theorem PotAt.mono {H : Hp} {p : Addr} {n m : Nat} (h : PotAt H p n) (l : n ≤ m) : PotAt H p m := by
  obtain ⟨c, k, b, e, h0, h1⟩ := h
  exact ⟨c, k, b, e, h0, by omega⟩
theorem PotAt.ne {H : Hp} {p a : Addr} {n : Nat} (h : PotAt H p n) (ha : H a = none) : p ≠ a := by
  obtain ⟨c, k, b, e, h0, h1⟩ := h
  exact ne_of_none e ha
theorem PotAt.new {H : Hp} {p a : Addr} {n : Nat} {o : HO} (h : PotAt H p n) (ha : H a = none) : PotAt (upd H a o) p n := by
  have ne := h.ne ha
  obtain ⟨c, k, b, e, h0, h1⟩ := h
  exact ⟨c, k, b, by rw [upd_ne ne]; exact e, h0, h1⟩
theorem But.new {p a : Addr} {H H' : Hp} {o : HO} (h : But p H H') (ha : H' a = none) : But p H (L2.upd H' a o) := fun b u e n => by
  have q := h b u e n
  rw [upd_ne (ne_of_none q ha)]
  exact q
theorem But.same {p : Addr} {H H1 H2 : Hp} (h : But p H H1) (s : Same H1 H2) : But p H H2 := fun b u e n => s b u (h b u e n)
theorem PotAt.same {H H' : Hp} {p : Addr} {n : Nat} (h : PotAt H p n) (s : Same H H') : PotAt H' p n := by
  obtain ⟨c, k, b, e, h0, h1⟩ := h
  exact ⟨c, k, b, s _ _ e, h0, h1⟩
def spMixed : Sp := fun vs H Q _ => match vs with
  | [.int _, .int k] => 0 ≤ k ∧ k < 1000000000 ∧ ∀ v : Int, 0 ≤ v → v < 2147483587 → Q (.int v) H
  | _ => False
def spTake : Sp := fun vs H Q _ => match vs with
  | [.ref p, .int many] => 0 < many ∧ many < 1073741824 ∧ ∃ n : Nat, PotAt H p n ∧ n < 100000000 ∧ ∀ (v : Int) (H' : Hp), 0 ≤ v → v < many → PotAt H' p (n + 1) → But p H H' → Q (.int v) H'
  | _ => False
def spPot : Sp := fun vs H Q _ => match vs with
  | [.int _] => ∀ (p : Addr) (H' : Hp), H p = none → PotAt H' p 0 → Same H H' → Q (.ref p) H'
  | _ => False
section
variable {P : Program} {w : World} {K : PySem.W.Frag} {mg : Str → Option Value} {base : Heap} {e : Ext}
theorem sc_mixed : FnScope ["_law_cell_here", "_law_k", "_law_m"] ["_law_cell_here", "_law_k"] (defScope s_mixed) := ⟨rfl, rfl, rfl, by decide +kernel, rfl, by decide +kernel, by decide +kernel⟩
theorem ok_mixed {f : Addr} {fd : FuncData} (F : Fun K "_law_mixed" "_law_mixed" s_mixed f fd) (T : Txt K mg e) : FnOk P w K mg base CX0 1 f fd ["_law_cell_here", "_law_k"] spMixed := by
  refine F.ok sc_mixed (fun vs H Q E h => ?_) (fun cdv A outer s H vs Q E hr h => ?_)
  · unfold spMixed at h
    split at h
    · rfl
    · exact h.elim
  · unfold spMixed at h
    split at h
    · rename_i c k
      obtain ⟨k0, k1, q⟩ := h
      refine ⟨_, (pss_cons (ps_set (i := 2) sc_mixed.nd rfl (Or.inl rfl) (pe_op op_mod (pe_op op_add (pe_op op_mul (pe_op op_mod (pv 0) pe_int) pe_int) (pe_op op_mul (pe_op op_add (pe_op op_add (pe_op op_mul (pv 1) (pv 1)) (pe_op op_mul pe_int (pv 1))) pe_int) pe_int)) pe_int))
      (pss_cons (ps_set (i := 2) sc_mixed.nd rfl (Or.inl rfl) (pe_op op_add (pe_op op_mod (pe_op op_mul (pv 2) (pv 2)) pe_int) (pv 1)))
      (pss_one (ps_ret (pe_op op_mod (pe_op op_mul (pv 2) (pe_op op_add (pe_op op_add (pe_op op_fdiv (pv 2) pe_int) (pe_op op_mul pe_int (pv 1))) pe_int)) pe_int))))), ?_⟩
      change (_ : Ends → St → Hp → Prop) _ [some (.int c), some (.int k), none] H
      simp only [tSeq, tNext, tIfS, tRet, tRetN, tDrop, tAsg, gName, gTup, gCons, gNil, gSub, tTest, tOp, tUn, tVar, tC, tB, tInC, tAnd, tOr, tNot, tAndV, tOrV, tNotV, tIf, tCall, tCons, tNil, tTup, tLst, tCut, rI0, rI, rU, rEq, rNe, rIxM, rSetL, scal_ii, scal_ss, scal_bb, scal_nn, scal_is, scal_si, scal_sn, scal_ns, flat_i, flat_s, flat_b, flat_n, List.all_cons, List.all_nil, Bool.and_true, Bool.true_and, true_and, and_true, ex_get, ex_int, ex_str, ex_bl, ex_ref, ex_int2, ex_str2, ex_ri, dec_true, at0, at1, at2, at3, at4, at5, at6, at7, List.getElem?_cons_zero, List.getElem?_cons_succ, List.set_cons_zero, List.set_cons_succ, List.length_cons, List.length_nil, Nat.reduceAdd, le_line, Nat.reduceLeDiff, upd_same, Bool.false_eq_true, if_false, if_true, ite_true, ite_false, List.cons_append, List.nil_append, List.append_nil, rSetM, ix30, ix31, ix32, upd_upd, ex_some, seqAt, tEv, tEvT, evVar, evC, ev2, ev1, evAnd, evOr, evIx, evCons, evNil, evCall, evLen, lenAt, fI_ii, kLt, kLe, kGt, kGe, kAdd, kSub, fEq, fNe, fMod_lit, fIn_s, fIn_i, fAnd_bb, fOr_bb, fNot_b, fIsN_n, fNotN_n, ex_sbl, ex_cons, Int.reduceLT, spP, decide_true, decide_false, Bool.not_true, Bool.not_false, Bool.and_false, Bool.false_and, Bool.or_true, Bool.true_or, Bool.or_false, Bool.false_or, reduceCtorEq, false_and, and_false, fDiv_lit, fNeg_i, Int.reduceNeg]
      have m1 := Int.emod_nonneg c (by decide : (2147483647 : Int) ≠ 0)
      have m2 := Int.emod_lt_of_pos c (by decide : (0 : Int) < 2147483647)
      have a1 := Int.emod_nonneg (c % 2147483647 * 48271 + (k * k + 3 * k + 7) * 69621) (by decide : (2147483647 : Int) ≠ 0)
      have a2 := Int.emod_lt_of_pos (c % 2147483647 * 48271 + (k * k + 3 * k + 7) * 69621) (by decide : (0 : Int) < 2147483647)
      generalize (c % 2147483647 * 48271 + (k * k + 3 * k + 7) * 69621) % 2147483647 = m at *
      have b1 := Int.emod_nonneg (m * m) (by decide : (2147483629 : Int) ≠ 0)
      have b2 := Int.emod_lt_of_pos (m * m) (by decide : (0 : Int) < 2147483629)
      refine ⟨.inr ⟨by decide, by decide⟩, .inl ⟨by omega, by omega⟩, .inl ⟨by decide, by decide⟩, .inr ⟨by decide, by decide⟩, .inl ⟨by omega, by omega⟩, ⟨by decide, by decide⟩, .inl ⟨by decide, by decide⟩, .inl ⟨by omega, by omega⟩, ?_⟩
      exact q _ (Int.emod_nonneg _ (by decide)) (Int.emod_lt_of_pos _ (by decide))
    · exact h.elim
theorem sc_take : FnScope ["_law_pot_here", "_law_many", "_law_got"] ["_law_pot_here", "_law_many"] (defScope s_take) := ⟨rfl, rfl, rfl, by decide +kernel, rfl, by decide +kernel, by decide +kernel⟩
theorem ok_take {f f_mixed : Addr} {fd fd_mixed : FuncData} (F : Fun K "_law_take" "_law_take" s_take f fd) (T : Txt K mg e) (D_mixed : Def K mg "_law_mixed" s_mixed ["_law_cell_here", "_law_k"] f_mixed fd_mixed) : FnOk P w K mg base CX0 2 f fd ["_law_pot_here", "_law_many"] spTake := by
  have G_mixed : FnOk P w K mg base CX0 1 f_mixed fd_mixed ["_law_cell_here", "_law_k"] spMixed := ok_mixed D_mixed.F T
  refine F.ok sc_take (fun vs H Q E h => ?_) (fun cdv A outer s H vs Q E hr h => ?_)
  · unfold spTake at h
    split at h
    · rfl
    · exact h.elim
  · unfold spTake at h
    split at h
    · rename_i p many
      obtain ⟨hm0, hm1, n, ⟨c, k, b, hp, k0, k1⟩, hn, q⟩ := h
      have hr_mixed := hr.mono (by decide : 1 ≤ 1)
      refine ⟨_, (pss_cons (ps_asg (pe_op op_add (pe_ix ix_m (pv 0) pe_int (fun _ _ => rfl)) pe_int) (pg_sub (pv 0) pe_int set_m))
      (pss_cons (ps_if (pt_cmpR op_eq (pe_ix ix_m (pv 0) pe_int (fun _ _ => rfl)) pe_int (nomark _))
        (pss_cons (ps_set (i := 2) sc_take.nd rfl (Or.inl rfl) (pe_op op_mod (pe_ix ix_m (pv 0) pe_int (fun _ _ => rfl)) (pv 1)))
        (pss_cons (ps_asg (pe_op op_fdiv (pe_ix ix_m (pv 0) pe_int (fun _ _ => rfl)) (pv 1)) (pg_sub (pv 0) pe_int set_m))
        (pss_one (ps_ret (pv 2)))))
        pss_nil)
      (pss_one (ps_ret (pe_op op_mod (pe_call G_mixed hr_mixed rfl D_mixed.m D_mixed.F.kp D_mixed.b .nil pass0 (pa_cons (pe_ix ix_m (pv 0) pe_int (fun _ _ => rfl)) (pa_cons (pe_ix ix_m (pv 0) pe_int (fun _ _ => rfl)) pa_nil))) (pv 1)))))), ?_⟩
      change (_ : Ends → St → Hp → Prop) _ [some (.ref p), some (.int many), none] H
      simp only [tSeq, tNext, tIfS, tRet, tRetN, tDrop, tAsg, gName, gTup, gCons, gNil, gSub, tTest, tOp, tUn, tVar, tC, tB, tInC, tAnd, tOr, tNot, tAndV, tOrV, tNotV, tIf, tCall, tCons, tNil, tTup, tLst, tCut, rI0, rI, rU, rEq, rNe, rIxM, rSetL, scal_ii, scal_ss, scal_bb, scal_nn, scal_is, scal_si, scal_sn, scal_ns, flat_i, flat_s, flat_b, flat_n, List.all_cons, List.all_nil, Bool.and_true, Bool.true_and, true_and, and_true, ex_get, ex_int, ex_str, ex_bl, ex_ref, ex_int2, ex_str2, ex_ri, dec_true, at0, at1, at2, at3, at4, at5, at6, at7, List.getElem?_cons_zero, List.getElem?_cons_succ, List.set_cons_zero, List.set_cons_succ, List.length_cons, List.length_nil, Nat.reduceAdd, le_line, Nat.reduceLeDiff, upd_same, Bool.false_eq_true, if_false, if_true, ite_true, ite_false, List.cons_append, List.nil_append, List.append_nil, rSetM, ix30, ix31, ix32, upd_upd, ex_some, seqAt, tEv, tEvT, evVar, evC, ev2, ev1, evAnd, evOr, evIx, evCons, evNil, evCall, evLen, lenAt, fI_ii, kLt, kLe, kGt, kGe, kAdd, kSub, fEq, fNe, fMod_lit, fIn_s, fIn_i, fAnd_bb, fOr_bb, fNot_b, fIsN_n, fNotN_n, ex_sbl, ex_cons, Int.reduceLT, spP, decide_true, decide_false, Bool.not_true, Bool.not_false, Bool.and_false, Bool.false_and, Bool.or_true, Bool.true_or, Bool.or_false, Bool.false_or, reduceCtorEq, false_and, and_false, fDiv_lit, fNeg_i, Int.reduceNeg, hp]
      have d0 := Int.emod_nonneg c (show many ≠ 0 by omega)
      have d1 := Int.emod_lt_of_pos c hm0
      refine ite2 (fun _ => ⟨hm0, ⟨hm0, hm1⟩, q _ _ d0 d1 ⟨_, _, _, upd_same, by omega, by omega⟩ (But.upd _ _ _)⟩) (fun _ => ?_)
      refine ⟨by omega, by omega, fun v v0 v1 => ?_⟩
      simp only [tSeq, tNext, tIfS, tRet, tRetN, tDrop, tAsg, gName, gTup, gCons, gNil, gSub, tTest, tOp, tUn, tVar, tC, tB, tInC, tAnd, tOr, tNot, tAndV, tOrV, tNotV, tIf, tCall, tCons, tNil, tTup, tLst, tCut, rI0, rI, rU, rEq, rNe, rIxM, rSetL, scal_ii, scal_ss, scal_bb, scal_nn, scal_is, scal_si, scal_sn, scal_ns, flat_i, flat_s, flat_b, flat_n, List.all_cons, List.all_nil, Bool.and_true, Bool.true_and, true_and, and_true, ex_get, ex_int, ex_str, ex_bl, ex_ref, ex_int2, ex_str2, ex_ri, dec_true, at0, at1, at2, at3, at4, at5, at6, at7, List.getElem?_cons_zero, List.getElem?_cons_succ, List.set_cons_zero, List.set_cons_succ, List.length_cons, List.length_nil, Nat.reduceAdd, le_line, Nat.reduceLeDiff, upd_same, Bool.false_eq_true, if_false, if_true, ite_true, ite_false, List.cons_append, List.nil_append, List.append_nil, rSetM, ix30, ix31, ix32, upd_upd, ex_some, seqAt, tEv, tEvT, evVar, evC, ev2, ev1, evAnd, evOr, evIx, evCons, evNil, evCall, evLen, lenAt, fI_ii, kLt, kLe, kGt, kGe, kAdd, kSub, fEq, fNe, fMod_lit, fIn_s, fIn_i, fAnd_bb, fOr_bb, fNot_b, fIsN_n, fNotN_n, ex_sbl, ex_cons, Int.reduceLT, spP, decide_true, decide_false, Bool.not_true, Bool.not_false, Bool.and_false, Bool.false_and, Bool.or_true, Bool.true_or, Bool.or_false, Bool.false_or, reduceCtorEq, false_and, and_false, fDiv_lit, fNeg_i, Int.reduceNeg]
      exact ⟨hm0, q _ _ (Int.emod_nonneg _ (by omega)) (Int.emod_lt_of_pos _ hm0) ⟨_, _, _, upd_same, by omega, by omega⟩ (But.upd _ _ _)⟩
    · exact h.elim
theorem sc_pot : FnScope ["_law_cell_here"] ["_law_cell_here"] (defScope s_pot) := ⟨rfl, rfl, rfl, by decide +kernel, rfl, by decide +kernel, by decide +kernel⟩
theorem ok_pot {f : Addr} {fd : FuncData} (F : Fun K "_law_pot" "_law_pot" s_pot f fd) (T : Txt K mg e) : FnOk P w K mg base CX0 1 f fd ["_law_cell_here"] spPot := by
  refine F.ok sc_pot (fun vs H Q E h => ?_) (fun cdv A outer s H vs Q E hr h => ?_)
  · unfold spPot at h
    split at h
    · rfl
    · exact h.elim
  · unfold spPot at h
    split at h
    · rename_i c
      refine ⟨_, (pss_one (ps_ret (pe_lst (pa_cons (pe_op op_fdiv (pv 0) pe_int) (pa_cons pe_int (pa_cons (pe_op op_mod (pv 0) pe_int) pa_nil)))))), ?_⟩
      change (_ : Ends → St → Hp → Prop) _ [some (.int c)] H
      simp only [tSeq, tNext, tIfS, tRet, tRetN, tDrop, tAsg, gName, gTup, gCons, gNil, gSub, tTest, tOp, tUn, tVar, tC, tB, tInC, tAnd, tOr, tNot, tAndV, tOrV, tNotV, tIf, tCall, tCons, tNil, tTup, tLst, tCut, rI0, rI, rU, rEq, rNe, rIxM, rSetL, scal_ii, scal_ss, scal_bb, scal_nn, scal_is, scal_si, scal_sn, scal_ns, flat_i, flat_s, flat_b, flat_n, List.all_cons, List.all_nil, Bool.and_true, Bool.true_and, true_and, and_true, ex_get, ex_int, ex_str, ex_bl, ex_ref, ex_int2, ex_str2, ex_ri, dec_true, at0, at1, at2, at3, at4, at5, at6, at7, List.getElem?_cons_zero, List.getElem?_cons_succ, List.set_cons_zero, List.set_cons_succ, List.length_cons, List.length_nil, Nat.reduceAdd, le_line, Nat.reduceLeDiff, upd_same, Bool.false_eq_true, if_false, if_true, ite_true, ite_false, List.cons_append, List.nil_append, List.append_nil, rSetM, ix30, ix31, ix32, upd_upd, ex_some, seqAt, tEv, tEvT, evVar, evC, ev2, ev1, evAnd, evOr, evIx, evCons, evNil, evCall, evLen, lenAt, fI_ii, kLt, kLe, kGt, kGe, kAdd, kSub, fEq, fNe, fMod_lit, fIn_s, fIn_i, fAnd_bb, fOr_bb, fNot_b, fIsN_n, fNotN_n, ex_sbl, ex_cons, Int.reduceLT, spP, decide_true, decide_false, Bool.not_true, Bool.not_false, Bool.and_false, Bool.false_and, Bool.or_true, Bool.true_or, Bool.or_false, Bool.false_or, reduceCtorEq, false_and, and_false, fDiv_lit, fNeg_i, Int.reduceNeg]
      exact ⟨⟨by decide, by decide⟩, fun p hp => h p _ hp ⟨_, 0, _, upd_same, by omega, by omega⟩ (fun b u e => upd_old hp e)⟩
    · exact h.elim
end
end My

set_option Elab.async false
set_option linter.all false
set_option maxRecDepth 100000
set_option maxHeartbeats 4000000
namespace My
open PySem L2
/-! ### a table, cuts -/
def rowO (r : List Int) : HO := .lst (r.map V.int)
def cutO (c : Int × Int × Int) : HO := .tup [.int c.1, .int c.2.1, .int c.2.2]
structure TableAt (H : Hp) (t : Addr) (as : List Addr) (rows : List (List Int)) (m : Nat) : Prop where
  ht : H t = some (.lst (as.map V.ref))
  hr : At2 H rowO as rows
  hm : ∀ r ∈ rows, r.length = m
  m1 : 1 ≤ m
  m2 : m ≤ 11
  l1 : 1 ≤ rows.length
  l2 : rows.length ≤ 63
theorem TableAt.same {H H' : Hp} {t : Addr} {as : List Addr} {rows : List (List Int)} {m : Nat} (h : TableAt H t as rows m) (s : Same H H') : TableAt H' t as rows m :=
  ⟨s _ _ h.ht, h.hr.same s, h.hm, h.m1, h.m2, h.l1, h.l2⟩
def cutOk (n m : Nat) (c : Int × Int × Int) : Prop := 0 ≤ c.1 ∧ c.1 < n ∧ 0 ≤ c.2.1 ∧ c.2.1 ≤ c.1 ∧ 0 ≤ c.2.2 ∧ c.2.2 < m
/-- the number of the table -/
def cellI (rows : List (List Int)) (i j : Int) : Int := ((atI rows i).bind fun r => atI r j).getD 0
theorem TableAt.cell {H : Hp} {t : Addr} {as : List Addr} {rows : List (List Int)} {m : Nat} (h : TableAt H t as rows m) {i j : Int} (i0 : 0 ≤ i) (i1 : i < rows.length) (j0 : 0 ≤ j) (j1 : j < m) :
    ∃ (a : Addr) (r : List Int), atI (as.map V.ref) i = some (.ref a) ∧ H a = some (.lst (r.map V.int)) ∧ atI (r.map V.int) j = some (.int (cellI rows i j)) := by
  obtain ⟨n, rfl⟩ := Int.eq_ofNat_of_zero_le i0
  have hn : n < rows.length := by omega
  obtain ⟨a, ea, ha⟩ := h.hr.ix hn
  have hl := h.hm _ (List.getElem_mem hn)
  obtain ⟨x, e1, e2⟩ := atI_int (ns := rows[n]) j0 (by rw [hl]; exact j1)
  refine ⟨a, rows[n], atI_nat (by rw [List.getElem?_map, ea]; rfl), ha, ?_⟩
  rw [e1]
  unfold cellI
  rw [atI_nat (List.getElem?_eq_getElem hn)]
  simp only [Option.bind_some, e2, Option.getD_some]
def spShare : Sp := fun vs H Q _ => match vs with
  | [.ref t, .int overs, .ref l] => ∃ as rows m ts cs, TableAt H t as rows m ∧ 0 ≤ overs ∧ overs < rows.length ∧ H l = some (.lst (ts.map V.ref)) ∧ At2 H cutO ts cs ∧ cs.length ≤ 1000 ∧ (∀ c ∈ cs, cutOk rows.length m c) ∧
      ∀ H', Same H H' → Q (.int (if 0 > cellI rows overs 0 - (cs.map fun c => cellI rows c.1 c.2.2 - cellI rows c.2.1 c.2.2).sum then 0 else cellI rows overs 0 - (cs.map fun c => cellI rows c.1 c.2.2 - cellI rows c.2.1 c.2.2).sum)) H'
  | _ => False
section
variable {P : Program} {w : World} {K : PySem.W.Frag} {mg : Str → Option Value} {base : Heap} {e : Ext}
theorem sc_share : FnScope ["table", "overs", "cuts", "lost"] ["table", "overs", "cuts"] (defScope s_share) := ⟨rfl, rfl, rfl, by decide +kernel, rfl, by decide +kernel, by decide +kernel⟩
theorem ok_share {f : Addr} {fd : FuncData} (F : Fun K "share_had" "share_had" s_share f fd) (T : Txt K mg e) : FnOk P w K mg base CX0 1 f fd ["table", "overs", "cuts"] spShare := by
  refine F.ok sc_share (fun vs H Q E h => ?_) (fun cdv A outer s H vs Q E hr h => ?_)
  · unfold spShare at h
    split at h
    · rfl
    · exact h.elim
  · unfold spShare at h
    split at h
    · rename_i t overs l
      obtain ⟨as, rows, m, ts, cs, hT, o0, o1, hl, hC, hn, hok, q⟩ := h
      refine ⟨_, (pss_cons (ps_set (i := 3) sc_share.nd rfl (Or.inl rfl) (pe_callB (call_sum rfl) rfl T.n_sum PyProof.Rows.boot_sum (pa_cons (pe_comp (F := ["table"]) (T := ["before", "after", "wickets"]) (fr := [0]) ⟨rfl, by decide +kernel, by decide +kernel, (by show ∀ y ∈ (_ : List (Str × NameKind)), y.2 = NameKind.free → (defScope s_share).names.lookup y.1 = some NameKind.cell; decide +kernel), by decide +kernel, rfl⟩ rfl (pi_list (pv 2)) (fun _ _ _ _ _ => (pg_tupC (n := 3) rfl (pgs_cons (pg_name (i := 1) (show (["table", "before", "after", "wickets"] : List Str).Nodup by decide +kernel) rfl (Or.inl rfl)) (pgs_cons (pg_name (i := 2) (show (["table", "before", "after", "wickets"] : List Str).Nodup by decide +kernel) rfl (Or.inl rfl)) (pgs_cons (pg_name (i := 3) (show (["table", "before", "after", "wickets"] : List Str).Nodup by decide +kernel) rfl (Or.inl rfl)) pgs_nil))))) (fun _ _ _ _ _ => pif_nil) (fun _ _ _ _ _ => (pe_op op_sub (pe_ix ix_listC (pe_ix ix_listC (pv 0) (pv 1) (fun _ _ => rfl)) (pv 3) (fun _ _ => rfl)) (pe_ix ix_listC (pe_ix ix_listC (pv 0) (pv 2) (fun _ _ => rfl)) (pv 3) (fun _ _ => rfl))))) pa_nil)))
      (pss_one (ps_ret (pe_callB (call_max2 rfl) rfl T.n_max PyProof.Rows.boot_max (pa_cons (pe_pp (pp_sub (pp_ix (pp_ix (pp_var 0) (pp_var 1) (fun _ _ => rfl)) (pp_c pe_int) (fun _ _ => rfl)) (pp_var 3))) (pa_cons pe_int pa_nil)))))), ?_⟩
      change (_ : Ends → St → Hp → Prop) _ [some (.ref t), some (.int overs), some (.ref l), none] H
      refine ⟨_, rfl, l, rfl, ⟨_, SqL.of hl⟩, fun D nD => ?_⟩
      refine comp_listH (K := K) (a := l) (ys := ts.map V.ref) (fun j σ zs H' => (∃ x1 x2 x3, σ = [some (.ref t), x1, x2, x3]) ∧ H' D = some (.lst zs) ∧ zs = ((cs.take j).map fun c => cellI rows c.1 c.2.2 - cellI rows c.2.1 c.2.2).map V.int ∧ j ≤ cs.length ∧ Same H H') ?_ (fun j σ zs H' q => q.2.1) (fun j σ zs H' q => SqL.of (q.2.2.2.2 _ _ hl)) ?_ ?_
      · exact ⟨⟨none, none, none, rfl⟩, upd_same, rfl, Nat.zero_le _, fun b u e => upd_old nD e⟩
      · rintro j y σ zs H2 hy ⟨⟨x1, x2, x3, rfl⟩, hD, hz, hj, s2⟩
        obtain ⟨a, ea, rfl⟩ : ∃ a, ts[j]? = some a ∧ y = .ref a := by
          rw [List.getElem?_map] at hy
          cases e : ts[j]? with
          | none => rw [e] at hy; cases hy
          | some b => rw [e] at hy; exact ⟨b, rfl, (Option.some.inj hy).symm⟩
        obtain ⟨c, ec, hc⟩ := hC.2 j a ea
        obtain ⟨b0, b1, a0, a1, w0, w1⟩ := hok c (List.mem_of_getElem? ec)
        have hT2 := hT.same s2
        obtain ⟨aB, rB, eB1, eB2, eB3⟩ := hT2.cell (i := c.1) (j := c.2.2) b0 b1 w0 w1
        obtain ⟨aA, rA, eA1, eA2, eA3⟩ := hT2.cell (i := c.2.1) (j := c.2.2) a0 (by omega) w0 w1
        have hjl := (List.getElem?_eq_some_iff.mp ec).1
        refine ⟨a, _, rfl, SqT.of (s2 _ _ hc), rfl, ?_⟩
        refine ⟨_, _, rfl, _, _, rfl, _, _, rfl, rfl, ?_⟩
        refine ⟨_, rfl, _, rfl, t, _, _, _, rfl, rfl, SqL.of hT2.ht, eB1, _, rfl, aB, _, _, _, rfl, rfl, SqL.of eB2, eB3, ?_⟩
        refine ⟨_, rfl, _, rfl, t, _, _, _, rfl, rfl, SqL.of hT2.ht, eA1, _, rfl, aA, _, _, _, rfl, rfl, SqL.of eA2, eA3, ?_⟩
        refine ⟨_, _, rfl, rfl, hD, small1000 (by rw [hz]; simp; omega), ⟨_, _, _, rfl⟩, upd_same, ?_, hjl, fun c o ec => ?_⟩
        · rw [hz, List.take_add_one, ec, List.map_append, List.map_append]
          rfl
        · rw [upd_ne (ne_of_none ec nD)]
          exact s2 c o ec
      rintro σ zs H3 ⟨_, hD, hz, hj, s3⟩
      have hlt : (ts.map V.ref).length = cs.length := by rw [List.length_map]; exact hC.1
      rw [hlt, List.take_length] at hz
      refine ⟨D, _, rfl, SqL.of (by rw [hD, hz]), ?_⟩
      have hT3 := hT.same s3
      obtain ⟨aO, rO, eO1, eO2, eO3⟩ := hT3.cell (i := overs) (j := 0) o0 o1 (Int.le_refl _) (by have := hT.m1; omega)
      have hT3' := hT3.ht
      refine ⟨_, by simp only [tSeq, tNext, tIfS, tRet, tRetN, tDrop, tAsg, gName, gTup, gCons, gNil, gSub, tTest, tOp, tUn, tVar, tC, tB, tInC, tAnd, tOr, tNot, tAndV, tOrV, tNotV, tIf, tCall, tCons, tNil, tTup, tLst, tCut, rI0, rI, rU, rEq, rNe, rIxM, rSetL, scal_ii, scal_ss, scal_bb, scal_nn, scal_is, scal_si, scal_sn, scal_ns, flat_i, flat_s, flat_b, flat_n, List.all_cons, List.all_nil, Bool.and_true, Bool.true_and, true_and, and_true, ex_get, ex_int, ex_str, ex_bl, ex_ref, ex_int2, ex_str2, ex_ri, dec_true, at0, at1, at2, at3, at4, at5, at6, at7, List.getElem?_cons_zero, List.getElem?_cons_succ, List.set_cons_zero, List.set_cons_succ, List.length_cons, List.length_nil, Nat.reduceAdd, le_line, Nat.reduceLeDiff, upd_same, Bool.false_eq_true, if_false, if_true, ite_true, ite_false, List.cons_append, List.nil_append, List.append_nil, rSetM, ix30, ix31, ix32, upd_upd, ex_some, seqAt, tEv, tEvT, evVar, evC, ev2, ev1, evAnd, evOr, evIx, evCons, evNil, evCall, evLen, lenAt, fI_ii, kLt, kLe, kGt, kGe, kAdd, kSub, fEq, fNe, fMod_lit, fIn_s, fIn_i, fAnd_bb, fOr_bb, fNot_b, fIsN_n, fNotN_n, ex_sbl, ex_cons, Int.reduceLT, spP, decide_true, decide_false, Bool.not_true, Bool.not_false, Bool.and_false, Bool.false_and, Bool.or_true, Bool.true_or, Bool.or_false, Bool.false_or, reduceCtorEq, false_and, and_false, fDiv_lit, fNeg_i, Int.reduceNeg, hT3', eO1, eO2, eO3]; rfl, ?_⟩
      exact ⟨_, _, rfl, q _ s3⟩
    · exact h.elim
end
/-! ### what the table's numbers keep -/
def getN (l : List Int) (k : Nat) : Int := l[k]?.getD 0
theorem getN_set {l : List Int} {k : Nat} {y : Int} (h : k < l.length) : getN (l.set k y) k = y := by
  unfold getN
  rw [List.getElem?_set]
  simp [h]
theorem getN_setne {l : List Int} {k i : Nat} {y : Int} (h : i ≠ k) : getN (l.set i y) k = getN l k := by
  unfold getN
  rw [List.getElem?_set, if_neg h]
theorem getN_take {l : List Int} {k m : Nat} (h : k < m) : getN (l.take m) k = getN l k := by
  unfold getN
  rw [List.getElem?_take, if_pos h]
theorem getN_rep {n k : Nat} : getN (List.replicate n 0) k = 0 := by
  unfold getN
  rw [List.getElem?_replicate]
  split <;> rfl
theorem getN_mem {l : List Int} {k : Nat} {p : Int → Prop} (h : ∀ x ∈ l, p x) (hk : k < l.length) : p (getN l k) := by
  unfold getN
  rw [List.getElem?_eq_getElem hk]
  exact h _ (List.getElem_mem hk)
theorem atI_getN {ns : List Int} {k : Nat} (h : k < ns.length) : atI (ns.map V.int) (k : Int) = some (.int (getN ns k)) := by
  refine atI_nat ?_
  rw [List.getElem?_map]
  unfold getN
  rw [List.getElem?_eq_getElem h]
  rfl
def cN (rows : List (List Int)) (i j : Nat) : Int := getN ((rows[i]?).getD []) j
theorem cN_old {rows : List (List Int)} {r : List Int} {i j : Nat} (h : i < rows.length) : cN (rows ++ [r]) i j = cN rows i j := by
  unfold cN
  rw [List.getElem?_append_left h]
theorem cN_new {rows : List (List Int)} {r : List Int} {j : Nat} : cN (rows ++ [r]) rows.length j = getN r j := by
  unfold cN
  rw [List.getElem?_append_right (Nat.le_refl _), Nat.sub_self]
  rfl
def TabOk (rows : List (List Int)) (m : Nat) : Prop := ∀ i j : Nat, i < rows.length → j < m → (0 ≤ cN rows i j ∧ cN rows i j ≤ 1000) ∧ (j + 1 < m → cN rows i (j + 1) ≤ cN rows i j) ∧ (i + 1 < rows.length → cN rows i j ≤ cN rows (i + 1) j)
def RowInv (xs last : List Int) (m j : Nat) : Prop := ∀ k : Nat, m - j ≤ k → k ≤ m → (0 ≤ getN xs k ∧ getN xs k ≤ 1000) ∧ (k < m → getN xs (k + 1) ≤ getN xs k ∧ getN last k ≤ getN xs k)
theorem RowInv.step {xs last : List Int} {m j kk : Nat} {y1 y2 y3 y : Int} (h : RowInv xs last m j) (hj : j < m) (hkk : kk = m - 1 - j) (hl : xs.length = m + 1) (e1 : y1 = getN xs (kk + 1)) (e2 : y2 = getN last kk) (h2 : y2 ≤ 1000) (h3 : 0 ≤ y3)
    (hy : y = if (if y2 + y3 > y1 then y2 + y3 else y1) < 1000 then (if y2 + y3 > y1 then y2 + y3 else y1) else 1000) : RowInv (xs.set kk y) last m (j + 1) := by
  intro k k0 k1
  obtain ⟨⟨a0, a1⟩, _⟩ := h (kk + 1) (by omega) (by omega)
  rw [← e1] at a0 a1
  have ylo : y1 ≤ y ∧ y2 ≤ y ∧ y ≤ 1000 := by
    rw [hy]
    split <;> split <;> omega
  by_cases hk : k = kk
  · subst hk
    rw [getN_set (by omega), getN_setne (by omega), ← e1, ← e2]
    exact ⟨⟨by omega, by omega⟩, fun _ => ⟨by omega, by omega⟩⟩
  · obtain ⟨b, c⟩ := h k (by omega) k1
    rw [getN_setne (Ne.symm hk)]
    refine ⟨b, fun hm => ?_⟩
    rw [getN_setne (by omega)]
    exact c hm
theorem TabOk.snoc {rows : List (List Int)} {xs : List Int} {m : Nat} (h : TabOk rows m) (l1 : 1 ≤ rows.length) (hr : RowInv xs (rows[rows.length - 1]?.getD []) m m) : TabOk (rows ++ [xs.take m]) m := by
  intro i j hi hj
  have hi' : i < rows.length + 1 := by simpa using hi
  obtain ⟨b, c⟩ := hr j (by omega) (by omega)
  obtain ⟨c1, c2⟩ := c hj
  by_cases hlt : i < rows.length
  · obtain ⟨g1, g2, g3⟩ := h i j hlt hj
    rw [cN_old hlt, cN_old hlt]
    refine ⟨g1, g2, fun _ => ?_⟩
    by_cases hl2 : i + 1 < rows.length
    · rw [cN_old hl2]
      exact g3 hl2
    · have e : i + 1 = rows.length := by omega
      rw [e, cN_new, getN_take hj]
      have e2 : i = rows.length - 1 := by omega
      unfold cN
      rw [e2]
      exact c2
  · have e : i = rows.length := by omega
    subst e
    rw [cN_new, cN_new, getN_take hj]
    refine ⟨b, fun h2 => ?_, fun h2 => ?_⟩
    · rw [getN_take h2]
      exact c1
    · simp at h2
theorem TabOk.up {rows : List (List Int)} {m : Nat} (h : TabOk rows m) {j : Nat} (hj : j < m) {a : Nat} : ∀ d : Nat, a + d < rows.length → cN rows a j ≤ cN rows (a + d) j
  | 0, _ => Int.le_refl _
  | d + 1, hd => Int.le_trans (h.up hj d (by omega)) ((h (a + d) j (by omega) hj).2.2 hd)
theorem cellI_cN {rows : List (List Int)} {m : Nat} (hm : ∀ r ∈ rows, r.length = m) {i j : Nat} (hi : i < rows.length) (hj : j < m) : cellI rows (i : Int) (j : Int) = cN rows i j := by
  unfold cellI cN getN
  rw [atI_nat (List.getElem?_eq_getElem hi), List.getElem?_eq_getElem hi]
  have hl := hm _ (List.getElem_mem hi)
  have hj' : j < rows[i].length := by omega
  simp only [Option.bind_some, Option.getD_some]
  rw [atI_nat (List.getElem?_eq_getElem hj'), List.getElem?_eq_getElem hj']
def spCell (K : PySem.W.Frag) : Sp := fun vs H Q _ => match vs with
  | [.ref a, .int k] => ∃ ns : List Int, SqL K H a (ns.map V.int) ∧ 0 ≤ k ∧ ∀ c : Int, Q (.int c) H
  | _ => False
def spTable (K : PySem.W.Frag) : Sp := fun vs H Q _ => match vs with
  | [.ref a] => ∃ ns : List Int, SqL K H a (ns.map V.int) ∧ ns.length ≤ 63 ∧ ∀ t as rows m H', H t = none → TableAt H' t as rows m → TabOk rows m → Same H H' → Q (.ref t) H'
  | _ => False
theorem cut_le {ns : List Int} {lo hi : Int} (h0 : 0 ≤ lo) (h1 : lo ≤ hi) : ∃ ms : List Int, cutV (ns.map V.int) (some lo) (some hi) = ms.map V.int ∧ (ms.length : Int) ≤ hi - lo := by
  refine ⟨((ns.drop (HT.sIx (ns.map V.int).length 0 (some lo))).take (HT.sIx (ns.map V.int).length (ns.map V.int).length (some hi) - HT.sIx (ns.map V.int).length 0 (some lo))), ?_, ?_⟩
  · unfold cutV
    rw [List.map_take, List.map_drop]
  · rw [List.length_take, List.length_drop]
    obtain ⟨l, rfl⟩ := Int.eq_ofNat_of_zero_le h0
    obtain ⟨k, rfl⟩ := Int.eq_ofNat_of_zero_le (Int.le_trans h0 h1)
    rw [show HT.sIx (ns.map V.int).length 0 (some (l : Int)) = min l (ns.map V.int).length from HT.sIx_nat _ _ _, show HT.sIx (ns.map V.int).length (ns.map V.int).length (some (k : Int)) = min k (ns.map V.int).length from HT.sIx_nat _ _ _]
    omega
theorem same_but {p : Addr} {H0 H1 H2 : Hp} (s : Same H0 H1) (np : H0 p = none) (k : But p H1 H2) : Same H0 H2 := fun b o e => k b o (s b o e) (ne_of_none e np)
theorem cut_to (xs : List Int) (m : Nat) : cutV (xs.map V.int) none (some (m : Int)) = (xs.take m).map V.int := by
  unfold cutV
  rw [show HT.sIx (xs.map V.int).length (xs.map V.int).length (some (m : Int)) = min m (xs.map V.int).length from HT.sIx_nat _ _ _, HT.sIx_none, List.drop_zero, Nat.sub_zero, List.length_map, List.map_take, ← List.length_map (f := V.int), ← List.take_eq_take_min]
theorem setM_of {H : Hp} {p : Addr} {xs : List V} {k : Int} {j : Nat} {v : V} {Q : Hp → Prop} (h : H p = some (.lst xs)) (hj : ixN xs.length k = some j) (q : Q (upd H p (.lst (xs.set j v)))) : rSetM (.ref p) (.int k) v H Q := by
  refine ⟨p, k, rfl, rfl, ?_⟩
  rw [h]
  dsimp only
  rw [hj]
  exact q
theorem ref_at {as : List Addr} {j : Nat} {y : V} (hy : (as.map V.ref)[j]? = some y) : ∃ a, as[j]? = some a ∧ y = .ref a := by
  rw [List.getElem?_map] at hy
  cases e : as[j]? with
  | none => rw [e] at hy; cases hy
  | some b => rw [e] at hy; exact ⟨b, rfl, (Option.some.inj hy).symm⟩
section
variable {P : Program} {w : World} {K : PySem.W.Frag} {mg : Str → Option Value} {base : Heap} {e : Ext}
theorem sc_cell : FnScope ["_law_script", "_law_k"] ["_law_script", "_law_k"] (defScope s_cell) := ⟨rfl, rfl, rfl, by decide +kernel, rfl, by decide +kernel, by decide +kernel⟩
theorem ok_cell {f : Addr} {fd : FuncData} (F : Fun K "_law_cell" "_law_cell" s_cell f fd) (T : Txt K mg e) : FnOk P w K mg base CX0 1 f fd ["_law_script", "_law_k"] (spCell K) := by
  refine F.ok sc_cell (fun vs H Q E h => ?_) (fun cdv A outer s H vs Q E hr h => ?_)
  · unfold spCell at h
    split at h
    · rfl
    · exact h.elim
  · unfold spCell at h
    split at h
    · rename_i a k
      obtain ⟨ns, hS, k0, q⟩ := h
      refine ⟨_, (pss_cons (ps_if (pt_cmpR op_lt (pv 1) (pe_callB call_len_seq (by rfl) T.n_len PySem.boot_len (pa_cons (pv 0) pa_nil)) (nomark _))
        (pss_one (ps_ret (pe_ix ix_list (pv 0) (pv 1) (fun _ _ => rfl))))
        pss_nil)
      (pss_one (ps_ret pe_int))), ?_⟩
      change (_ : Ends → St → Hp → Prop) _ [some (.ref a), some (.int k)] H
      refine ⟨_, rfl, _, rfl, a, _, rfl, .inl hS, ?_⟩
      refine ⟨_, _, rfl, rfl, _, rfl, ite2 (fun hk => ?_) (fun _ => q 0)⟩
      have hk := of_decide_eq_true hk
      obtain ⟨x, e1, _⟩ := atI_int (ns := ns) k0 (by simpa using hk)
      exact ⟨_, rfl, _, rfl, a, _, _, _, rfl, rfl, hS, e1, q x⟩
    · exact h.elim
theorem sc_table : FnScope ["_law_script", "_law_pot_here", "_law_many", "_law_grown", "_law_table_here", "_law_cell_here", "_law_own", "_law_rises", "_law_row", "_law_k"] ["_law_script"] (defScope s_table) := ⟨rfl, rfl, rfl, by decide +kernel, rfl, by decide +kernel, by decide +kernel⟩
theorem ok_table {f f_cell f_mixed f_take f_pot : Addr} {fd fd_cell fd_mixed fd_take fd_pot : FuncData} (F : Fun K "_law_table" "_law_table" s_table f fd) (T : Txt K mg e)
    (D_cell : Def K mg "_law_cell" s_cell ["_law_script", "_law_k"] f_cell fd_cell)
    (D_mixed : Def K mg "_law_mixed" s_mixed ["_law_cell_here", "_law_k"] f_mixed fd_mixed) (D_take : Def K mg "_law_take" s_take ["_law_pot_here", "_law_many"] f_take fd_take) (D_pot : Def K mg "_law_pot" s_pot ["_law_cell_here"] f_pot fd_pot) : FnOk P w K mg base CX0 3 f fd ["_law_script"] (spTable K) := by
  have G_cell : FnOk P w K mg base CX0 1 f_cell fd_cell ["_law_script", "_law_k"] (spCell K) := ok_cell D_cell.F T
  have G_pot : FnOk P w K mg base CX0 1 f_pot fd_pot ["_law_cell_here"] spPot := ok_pot D_pot.F T
  have G_take : FnOk P w K mg base CX0 2 f_take fd_take ["_law_pot_here", "_law_many"] spTake := ok_take D_take.F T D_mixed
  refine F.ok sc_table (fun vs H Q E h => ?_) (fun cdv A outer s H vs Q E hr h => ?_)
  · unfold spTable at h
    split at h
    · rfl
    · exact h.elim
  · unfold spTable at h
    split at h
    · rename_i a
      obtain ⟨ns, hS, hlen, q⟩ := h
      have hr_cell := hr.mono (by decide : 1 ≤ 2)
      have hr_pot := hr.mono (by decide : 1 ≤ 2)
      have hr_take := hr.mono (by decide : 2 ≤ 2)
      refine ⟨_, (pss_cons (ps_set (i := 1) sc_table.nd rfl (Or.inl rfl) (pe_call G_pot hr_pot rfl D_pot.m D_pot.F.kp D_pot.b .nil pass0 (pa_cons (pe_call G_cell hr_cell rfl D_cell.m D_cell.F.kp D_cell.b .nil pass0 (pa_cons (pv 0) (pa_cons pe_int pa_nil))) pa_nil)))
      (pss_cons (ps_set (i := 2) sc_table.nd rfl (Or.inl rfl) (pe_op op_add pe_int (pe_call G_take hr_take rfl D_take.m D_take.F.kp D_take.b .nil pass0 (pa_cons (pv 1) (pa_cons pe_int pa_nil)))))
      (pss_cons (ps_set (i := 3) sc_table.nd rfl (Or.inr rfl) (pe_ix ix_m (pe_lst (pa_cons pe_int (pa_cons pe_int (pa_cons pe_int (pa_cons pe_int pa_nil))))) (pe_call G_take hr_take rfl D_take.m D_take.F.kp D_take.b .nil pass0 (pa_cons (pv 1) (pa_cons pe_int pa_nil))) (fun _ _ => rfl)))
      (pss_cons (ps_set (i := 4) sc_table.nd rfl (Or.inl rfl) (pe_lst (pa_cons (pe_comp (F := []) (T := ["_law_k"]) (fr := []) ⟨rfl, by decide +kernel, by decide +kernel, (by show ∀ y ∈ (_ : List (Str × NameKind)), y.2 = NameKind.free → (defScope s_table).names.lookup y.1 = some NameKind.cell; decide +kernel), by decide +kernel, rfl⟩ rfl (pi_range1 rfl T.n_range (pa_cons (pv 2) pa_nil)) (fun _ _ _ _ _ => (pg_name (i := 0) (show (["_law_k"] : List Str).Nodup by decide +kernel) rfl (Or.inl rfl))) (fun _ _ _ _ _ => pif_nil) (fun _ _ _ _ _ => pe_int)) pa_nil)))
      (pss_cons (ps_for PassesOwn.never rfl (pi_list (pe_slice sl_list (pv 0) (po_some pe_int) (po_some pe_int))) (pg_name (i := 5) sc_table.nd rfl (Or.inl rfl))
        (pss_cons (ps_set (i := 6) sc_table.nd rfl (Or.inr rfl) (pe_call G_pot hr_pot rfl D_pot.m D_pot.F.kp D_pot.b .nil pass0 (pa_cons (pv 5) pa_nil)))
        (pss_cons (ps_setC (i0 := 7) (F := ["_law_own", "_law_grown"]) (T := ["_law_k"]) (fr := [6, 3]) ⟨rfl, by decide +kernel, by decide +kernel, (by show ∀ y ∈ (_ : List (Str × NameKind)), y.2 = NameKind.free → (defScope s_table).names.lookup y.1 = some NameKind.cell; decide +kernel), by decide +kernel, rfl⟩ rfl (pi_range1 rfl T.n_range (pa_cons (pv 2) pa_nil)) (fun _ _ _ _ _ => (pg_name (i := 2) (show (["_law_own", "_law_grown", "_law_k"] : List Str).Nodup by decide +kernel) rfl (Or.inl rfl))) (fun _ _ _ _ _ => pif_nil) (fun _ _ _ _ _ => (pe_call G_take hr_take rfl D_take.m D_take.F.kp D_take.b .nil pass0 (pa_cons (pv 0) (pa_cons (pe_op op_add pe_int (pv 1)) pa_nil)))) sc_table.nd rfl rfl rfl)
        (pss_cons (ps_setC (i0 := 8) (F := []) (T := ["_law_k"]) (fr := []) ⟨rfl, by decide +kernel, by decide +kernel, (by show ∀ y ∈ (_ : List (Str × NameKind)), y.2 = NameKind.free → (defScope s_table).names.lookup y.1 = some NameKind.cell; decide +kernel), by decide +kernel, rfl⟩ rfl (pi_range1 rfl T.n_range (pa_cons (pe_pp (pp_add (pp_var 2) (pp_c pe_int))) pa_nil)) (fun _ _ _ _ _ => (pg_name (i := 0) (show (["_law_k"] : List Str).Nodup by decide +kernel) rfl (Or.inl rfl))) (fun _ _ _ _ _ => pif_nil) (fun _ _ _ _ _ => pe_int) sc_table.nd rfl rfl rfl)
        (pss_cons (ps_for PassesOwn.never rfl (pi_rev rfl T.n_range rfl T.n_reversed (pa_cons (pv 2) pa_nil)) (pg_name (i := 9) sc_table.nd rfl (Or.inl rfl))
          (pss_one (ps_asg (pe_callB (call_min2 rfl) rfl T.n_min PyProof.Rows.boot_min (pa_cons pe_int (pa_cons (pe_callB (call_max2 rfl) rfl T.n_max PyProof.Rows.boot_max (pa_cons (pe_pp (pp_ix (pp_var 8) (pp_add (pp_var 9) (pp_c pe_int)) (fun _ _ => rfl))) (pa_cons (pe_pp (pp_add (pp_ix (pp_ix (pp_var 4) (pp_neg (pp_c pe_int)) (fun _ _ => rfl)) (pp_var 9) (fun _ _ => rfl)) (pp_ix (pp_var 7) (pp_var 9) (fun _ _ => rfl)))) pa_nil))) pa_nil))) (pg_sub (pv 8) (pv 9) set_m))))
        (pss_one (ps_expr (pe_bm PySem.F.plainAttrs_list PySem.F.slot_list_append PySem.F.type_list_append mt_append (pv 4) (pa_cons (pe_slice sl_list (pv 8) po_none (po_some (pv 2))) pa_nil)))))))))
      (pss_one (ps_ret (pv 4)))))))), ?_⟩
      change (_ : Ends → St → Hp → Prop) _ [some (.ref a), none, none, none, none, none, none, none, none, none] H
      refine ⟨_, rfl, ns, hS, by decide, fun c p H1 np P1 s1 => ?_⟩
      simp only [tSeq, tNext, tIfS, tRet, tRetN, tDrop, tAsg, gName, gTup, gCons, gNil, gSub, tTest, tOp, tUn, tVar, tC, tB, tInC, tAnd, tOr, tNot, tAndV, tOrV, tNotV, tIf, tCall, tCons, tNil, tTup, tLst, tCut, rI0, rI, rU, rEq, rNe, rIxM, rSetL, scal_ii, scal_ss, scal_bb, scal_nn, scal_is, scal_si, scal_sn, scal_ns, flat_i, flat_s, flat_b, flat_n, List.all_cons, List.all_nil, Bool.and_true, Bool.true_and, true_and, and_true, ex_get, ex_int, ex_str, ex_bl, ex_ref, ex_int2, ex_str2, ex_ri, dec_true, at0, at1, at2, at3, at4, at5, at6, at7, List.getElem?_cons_zero, List.getElem?_cons_succ, List.set_cons_zero, List.set_cons_succ, List.length_cons, List.length_nil, Nat.reduceAdd, le_line, Nat.reduceLeDiff, upd_same, Bool.false_eq_true, if_false, if_true, ite_true, ite_false, List.cons_append, List.nil_append, List.append_nil, rSetM, ix30, ix31, ix32, upd_upd, ex_some, seqAt, tEv, tEvT, evVar, evC, ev2, ev1, evAnd, evOr, evIx, evCons, evNil, evCall, evLen, lenAt, fI_ii, kLt, kLe, kGt, kGe, kAdd, kSub, fEq, fNe, fMod_lit, fIn_s, fIn_i, fAnd_bb, fOr_bb, fNot_b, fIsN_n, fNotN_n, ex_sbl, ex_cons, Int.reduceLT, spP, decide_true, decide_false, Bool.not_true, Bool.not_false, Bool.and_false, Bool.false_and, Bool.or_true, Bool.true_or, Bool.or_false, Bool.false_or, reduceCtorEq, false_and, and_false, fDiv_lit, fNeg_i, Int.reduceNeg]
      refine ⟨by decide, by decide, 0, P1, by decide, fun mm H2 m0 m1 P2 k2 => ⟨1, mm, rfl, rfl, ?_⟩⟩
      intro g ng
      obtain ⟨m, hm⟩ : ∃ m : Nat, 1 + mm = (m : Int) := ⟨(1 + mm).toNat, by omega⟩
      rw [hm]
      have P3 := P2.new (o := .lst [.int 1, .int 7, .int 60, .int 500]) ng
      refine ⟨by decide, by decide, 1, P3, by decide, fun gi H4 gi0 gi1 P4 k4 => ?_⟩
      have hg4 : H4 g = some (.lst [.int 1, .int 7, .int 60, .int 500]) := k4 _ _ upd_same (P2.ne ng).symm
      obtain ⟨grown, eg, g0, g1⟩ : ∃ grown : Int, atI [V.int 1, .int 7, .int 60, .int 500] gi = some (.int grown) ∧ 1 ≤ grown ∧ grown ≤ 500 := by
        obtain ⟨v, e, mv⟩ := atI_some (xs := [V.int 1, .int 7, .int 60, .int 500]) gi0 gi1
        simp only [List.mem_cons, List.not_mem_nil, or_false] at mv
        rcases mv with rfl | rfl | rfl | rfl
        · exact ⟨1, e, by decide, by decide⟩
        · exact ⟨7, e, by decide, by decide⟩
        · exact ⟨60, e, by decide, by decide⟩
        · exact ⟨500, e, by decide, by decide⟩
      refine ⟨g, gi, rfl, rfl, .int grown, by rw [hg4]; exact eg, ?_⟩
      have s4 : Same H H4 := same_but ((same_but s1 np k2).trans fun b u e => upd_old ng e) np k4
      have P4' : PotAt H4 p 10 := P4.mono (by decide)
      -- the first row
      refine ⟨_, rfl, (m : Int), rfl, by omega, by omega, fun D nD => ?_⟩
      refine comp_rangeH (lo := 0) (n := m) (fun j σ zs H' => (∃ x, σ = [x]) ∧ H' D = some (.lst zs) ∧ zs = (List.replicate j (0 : Int)).map V.int ∧ j ≤ m ∧ Same H4 H') ?_ (fun j σ zs H' q => q.2.1) ?_ ?_
      · exact ⟨⟨none, rfl⟩, upd_same, rfl, Nat.zero_le _, fun b u e => upd_old nD e⟩
      · rintro j σ zs H5 hj ⟨⟨x, rfl⟩, hD, hz, hj2, s5⟩
        refine ⟨hD, small1000 (by rw [hz]; simp; omega), ⟨_, rfl⟩, upd_same, ?_, hj, fun c o ec => ?_⟩
        · rw [hz, List.replicate_succ', List.map_append]
          rfl
        · rw [upd_ne (ne_of_none ec nD)]
          exact s5 c o ec
      rintro σ zs H5 ⟨_, hD, hz, _, s5⟩
      intro t nt
      have sH5 : Same H H5 := s4.trans s5
      have nHt : H t = none := sH5.free nt
      have hDt : D ≠ t := ne_of_none hD nt
      have hT6 : TableAt (upd H5 t (.lst [.ref D])) t [D] [List.replicate m 0] m := by
        refine ⟨upd_same, ?_, ?_, by omega, by omega, by simp, by simp⟩
        · have := At2.nil (H := upd H5 t (.lst [.ref D])) (o := rowO)
          refine (this.snoc (a := D) (x := List.replicate m 0) ?_)
          rw [upd_ne hDt, hD, hz]
          rfl
        · intro r hr
          rw [List.mem_singleton.mp hr, List.length_replicate]
      have hO6 : TabOk [List.replicate m 0] m := fun i j hi hj => by
        have hi0 : i = 0 := by simp at hi; omega
        subst hi0
        have e : ∀ j, cN [List.replicate m 0] 0 j = 0 := fun j => getN_rep
        rw [e, e]
        exact ⟨⟨by decide, by decide⟩, fun _ => Int.le_refl _, fun h => by simp at h⟩
      have sH6 : Same H (upd H5 t (.lst [.ref D])) := sH5.trans fun b u e => upd_old nt e
      show tFor _ _ _ _ _ (upd H5 t (.lst [.ref D]))
      generalize upd H5 t (.lst [.ref D]) = H6 at hT6 sH6 ⊢
      obtain ⟨ms, hms, hml⟩ := cut_le (ns := ns) (lo := 1) (hi := 63) (by decide) (by decide)
      refine ⟨_, rfl, 1, rfl, 63, rfl, a, _, rfl, sH6.seq hS, fun l0 n0 => ⟨l0, rfl, ⟨_, SqL.of upd_same⟩, ?_⟩⟩
      rw [hms]
      have hl7 : upd H6 l0 (.lst (ms.map V.int)) l0 = some (.lst (ms.map V.int)) := upd_same
      have hT7 : TableAt (upd H6 l0 (.lst (ms.map V.int))) t [D] [List.replicate m 0] m := hT6.same fun b u e => upd_old n0 e
      have sH7 : Same H (upd H6 l0 (.lst (ms.map V.int))) := sH6.trans fun b u e => upd_old n0 e
      have hlt : l0 ≠ t := (ne_of_none hT6.ht n0).symm
      generalize upd H6 l0 (.lst (ms.map V.int)) = H7 at hl7 hT7 sH7 ⊢
      refine for_list (xs := ms.map V.int) (fun i σ H' => (∃ x5 x6 x7 x8 x9, σ = [some (.ref a), some (.ref p), some (.int (m : Int)), some (.int grown), some (.ref t), x5, x6, x7, x8, x9]) ∧ (∃ as rows, TableAt H' t as rows m ∧ rows.length = i + 1 ∧ TabOk rows m) ∧ H' l0 = some (.lst (ms.map V.int)) ∧ Same H H') ⟨⟨_, _, _, _, _, rfl⟩, ⟨_, _, hT7, rfl, hO6⟩, hl7, sH7⟩ (fun i σ H' _ q => SqL.of q.2.2.1) ?_ ?_
      · rintro i x σ H8 hx ⟨⟨x5, x6, x7, x8, x9, rfl⟩, ⟨as, rows, hT8, hrl, hO8⟩, hl8, sH8⟩
        obtain ⟨c, hc, rfl⟩ := List.mem_map.mp (List.mem_of_getElem? hx)
        have him : i < ms.length := by simpa using (List.getElem?_eq_some_iff.mp hx).1
        refine ⟨_, rfl, fun po H9 npo P9 s9 => ?_⟩
        -- the rises
        refine ⟨_, rfl, (m : Int), rfl, by omega, by omega, fun D2 nD2 => ?_⟩
        have nD2' : D2 ≠ po := (P9.ne nD2).symm
        refine comp_rangeH (lo := 0) (n := m) (fun j σ zs H' => (∃ x, σ = [some (.ref po), some (.int grown), x]) ∧ H' D2 = some (.lst zs) ∧ (∃ rs : List Int, zs = rs.map V.int ∧ rs.length = j ∧ ∀ x ∈ rs, 0 ≤ x) ∧ j ≤ m ∧ PotAt H' po j ∧ But po H9 H') ?_ (fun j σ zs H' q => q.2.1) ?_ ?_
        · exact ⟨⟨none, rfl⟩, upd_same, ⟨[], rfl, rfl, by simp⟩, Nat.zero_le _, P9.new nD2, fun b u e _ => upd_old nD2 e⟩
        · rintro j σ zs H10 hj ⟨⟨x, rfl⟩, hD2, ⟨rs, hz2, hrs, hrp⟩, hj2, P10, k10⟩
          refine ⟨_, rfl, _, rfl, 1, grown, rfl, rfl, by omega, by omega, j, P10, by omega, fun v H11 v0 v1 P11 k11 => ?_⟩
          have hD3 := k11 _ _ hD2 nD2'
          refine ⟨hD3, small1000 (by rw [hz2]; simp; omega), ⟨_, rfl⟩, upd_same, ⟨rs ++ [v], by rw [hz2]; simp, by simp; omega, fun x hx => (List.mem_append.mp hx).elim (hrp x) (fun h => by rw [List.mem_singleton.mp h]; exact v0)⟩, hj, ?_, fun b u e nb => ?_⟩
          · obtain ⟨c', k', b', e', z1, z2⟩ := P11
            exact ⟨c', k', b', by rw [upd_ne nD2'.symm]; exact e', z1, z2⟩
          · rw [upd_ne (ne_of_none e nD2)]
            exact k11 _ _ (k10 _ _ e nb) nb
        rintro σ zs H10 ⟨_, hD2, ⟨rs, hz2, hrs, hrp⟩, _, P10, k10⟩
        -- the row
        refine ⟨.int ((m : Int) + 1), by simp only [tSeq, tNext, tIfS, tRet, tRetN, tDrop, tAsg, gName, gTup, gCons, gNil, gSub, tTest, tOp, tUn, tVar, tC, tB, tInC, tAnd, tOr, tNot, tAndV, tOrV, tNotV, tIf, tCall, tCons, tNil, tTup, tLst, tCut, rI0, rI, rU, rEq, rNe, rIxM, rSetL, scal_ii, scal_ss, scal_bb, scal_nn, scal_is, scal_si, scal_sn, scal_ns, flat_i, flat_s, flat_b, flat_n, List.all_cons, List.all_nil, Bool.and_true, Bool.true_and, true_and, and_true, ex_get, ex_int, ex_str, ex_bl, ex_ref, ex_int2, ex_str2, ex_ri, dec_true, at0, at1, at2, at3, at4, at5, at6, at7, List.getElem?_cons_zero, List.getElem?_cons_succ, List.set_cons_zero, List.set_cons_succ, List.length_cons, List.length_nil, Nat.reduceAdd, le_line, Nat.reduceLeDiff, upd_same, Bool.false_eq_true, if_false, if_true, ite_true, ite_false, List.cons_append, List.nil_append, List.append_nil, rSetM, ix30, ix31, ix32, upd_upd, ex_some, seqAt, tEv, tEvT, evVar, evC, ev2, ev1, evAnd, evOr, evIx, evCons, evNil, evCall, evLen, lenAt, fI_ii, kLt, kLe, kGt, kGe, kAdd, kSub, fEq, fNe, fMod_lit, fIn_s, fIn_i, fAnd_bb, fOr_bb, fNot_b, fIsN_n, fNotN_n, ex_sbl, ex_cons, Int.reduceLT, spP, decide_true, decide_false, Bool.not_true, Bool.not_false, Bool.and_false, Bool.false_and, Bool.or_true, Bool.true_or, Bool.or_false, Bool.false_or, reduceCtorEq, false_and, and_false, fDiv_lit, fNeg_i, Int.reduceNeg], (m : Int) + 1, rfl, by omega, by omega, fun D3 nD3 => ?_⟩
        refine comp_rangeH (lo := 0) (n := ((m : Int) + 1).toNat) (fun j σ zs H' => (∃ x, σ = [x]) ∧ H' D3 = some (.lst zs) ∧ zs = (List.replicate j (0 : Int)).map V.int ∧ j ≤ m + 1 ∧ Same H10 H') ?_ (fun j σ zs H' q => q.2.1) ?_ ?_
        · exact ⟨⟨none, rfl⟩, upd_same, rfl, Nat.zero_le _, fun b u e => upd_old nD3 e⟩
        · rintro j σ zs H11 hj ⟨⟨x, rfl⟩, hD3, hz3, hj2, s11⟩
          refine ⟨hD3, small1000 (by rw [hz3]; simp; omega), ⟨_, rfl⟩, upd_same, ?_, by omega, fun c o ec => ?_⟩
          · rw [hz3, List.replicate_succ', List.map_append]
            rfl
          · rw [upd_ne (ne_of_none ec nD3)]
            exact s11 c o ec
        rintro σ zs2 H11 ⟨_, hD3, hz3, _, s11⟩
        have hD2' : H11 D2 = some (.lst (rs.map V.int)) := by rw [← hz2]; exact s11 _ _ hD2
        have hmn : ((m : Int) + 1).toNat = m + 1 := by omega
        rw [hmn] at hz3
        have keep8 : ∀ b u, H8 b = some u → H11 b = some u := fun b u e => s11 _ _ (k10 _ _ (s9 _ _ e) (ne_of_none e npo))
        have hT11 : TableAt H11 t as rows m := hT8.same keep8
        have nD3' : ∀ b u, H8 b = some u → b ≠ D3 := fun b u e => ne_of_none (k10 _ _ (s9 _ _ e) (ne_of_none e npo)) nD3
        have D23 : D2 ≠ D3 := ne_of_none hD2 nD3
        -- the loop over the row
        have hral := hT8.hr.1
        obtain ⟨aL, eaL, haL8⟩ := hT8.hr.ix (i := rows.length - 1) (by have := hT8.l1; omega)
        have hlast : rows[rows.length - 1]? = some (rows[rows.length - 1]'(by have := hT8.l1; omega)) := List.getElem?_eq_getElem _
        generalize hrL : rows[rows.length - 1]'(by have := hT8.l1; omega) = rL at haL8 hlast
        have hrLm : rL ∈ rows := by rw [← hrL]; exact List.getElem_mem _
        have hrLl := hT8.hm _ hrLm
        refine ⟨_, rfl, m, rfl, by omega, ?_⟩
        refine for_rev (n := m) (fun j σ H' => (∃ x9, σ = [some (.ref a), some (.ref p), some (.int (m : Int)), some (.int grown), some (.ref t), some (.int c), some (.ref po), some (.ref D2), some (.ref D3), x9]) ∧ (∃ xs : List Int, H' D3 = some (.lst (xs.map V.int)) ∧ xs.length = m + 1 ∧ RowInv xs rL m j) ∧ But D3 H11 H') ⟨⟨_, rfl⟩, ⟨List.replicate (m + 1) 0, by rw [hD3, hz3], by simp, fun k k0 k1 => by rw [getN_rep]; exact ⟨⟨by decide, by decide⟩, fun h => by omega⟩⟩, But.refl _ _⟩ ?_ ?_
        · rintro j σ H12 hj ⟨⟨x9, rfl⟩, ⟨xs, hx3, hxl, hinv⟩, k12⟩
          have hT12 : TableAt H12 t as rows m := ⟨k12 _ _ hT11.ht (nD3' _ _ hT8.ht), hT11.hr.keep fun b hb u e => k12 _ _ e (by obtain ⟨r, _, hr⟩ := hT8.hr.mem hb; exact nD3' _ _ hr), hT11.hm, hT11.m1, hT11.m2, hT11.l1, hT11.l2⟩
          have hD212 := k12 _ _ hD2' D23
          obtain ⟨kk, hkk⟩ : ∃ kk : Nat, (m : Int) - 1 - (j : Int) = (kk : Int) := ⟨m - 1 - j, by omega⟩
          have hkm : kk < m := by omega
          rw [hkk]
          have hLast : atI (as.map V.ref) (-1) = some (.ref aL) := by
            rcases List.eq_nil_or_concat as with h0 | ⟨front, aL', hfr⟩
            · have h2 := hT12.l1
              rw [h0] at hral
              simp at hral
              omega
            · have e : aL' = aL := by
                rw [hfr, List.concat_eq_append] at eaL hral
                rw [← hral] at eaL
                simpa using eaL
              rw [hfr, List.concat_eq_append, List.map_append, e]
              exact atI_last _ _
          have haL' : H12 aL = some (.lst (rL.map V.int)) := k12 _ _ (keep8 _ _ haL8) (nD3' _ _ haL8)
          have e1 : atI (xs.map V.int) ((kk : Int) + 1) = some (.int (getN xs (kk + 1))) := atI_getN (k := kk + 1) (by omega)
          have e2 := atI_getN (ns := rL) (k := kk) (by omega)
          have e3 := atI_getN (ns := rs) (k := kk) (by omega)
          have hy2 : getN rL kk ≤ 1000 := by
            have := (hO8 (rows.length - 1) kk (by have := hT8.l1; omega) hkm).1.2
            unfold cN at this
            rw [hlast] at this
            exact this
          have hy3 : 0 ≤ getN rs kk := getN_mem hrp (by omega)
          have hTt := hT12.ht
          refine ⟨.int (getN xs (kk + 1)), by simp only [tSeq, tNext, tIfS, tRet, tRetN, tDrop, tAsg, gName, gTup, gCons, gNil, gSub, tTest, tOp, tUn, tVar, tC, tB, tInC, tAnd, tOr, tNot, tAndV, tOrV, tNotV, tIf, tCall, tCons, tNil, tTup, tLst, tCut, rI0, rI, rU, rEq, rNe, rIxM, rSetL, scal_ii, scal_ss, scal_bb, scal_nn, scal_is, scal_si, scal_sn, scal_ns, flat_i, flat_s, flat_b, flat_n, List.all_cons, List.all_nil, Bool.and_true, Bool.true_and, true_and, and_true, ex_get, ex_int, ex_str, ex_bl, ex_ref, ex_int2, ex_str2, ex_ri, dec_true, at0, at1, at2, at3, at4, at5, at6, at7, List.getElem?_cons_zero, List.getElem?_cons_succ, List.set_cons_zero, List.set_cons_succ, List.length_cons, List.length_nil, Nat.reduceAdd, le_line, Nat.reduceLeDiff, upd_same, Bool.false_eq_true, if_false, if_true, ite_true, ite_false, List.cons_append, List.nil_append, List.append_nil, rSetM, ix30, ix31, ix32, upd_upd, ex_some, seqAt, tEv, tEvT, evVar, evC, ev2, ev1, evAnd, evOr, evIx, evCons, evNil, evCall, evLen, lenAt, fI_ii, kLt, kLe, kGt, kGe, kAdd, kSub, fEq, fNe, fMod_lit, fIn_s, fIn_i, fAnd_bb, fOr_bb, fNot_b, fIsN_n, fNotN_n, ex_sbl, ex_cons, Int.reduceLT, spP, decide_true, decide_false, Bool.not_true, Bool.not_false, Bool.and_false, Bool.false_and, Bool.or_true, Bool.true_or, Bool.or_false, Bool.false_or, reduceCtorEq, false_and, and_false, fDiv_lit, fNeg_i, Int.reduceNeg, hx3, e1], .int (getN rL kk + getN rs kk), by simp only [tSeq, tNext, tIfS, tRet, tRetN, tDrop, tAsg, gName, gTup, gCons, gNil, gSub, tTest, tOp, tUn, tVar, tC, tB, tInC, tAnd, tOr, tNot, tAndV, tOrV, tNotV, tIf, tCall, tCons, tNil, tTup, tLst, tCut, rI0, rI, rU, rEq, rNe, rIxM, rSetL, scal_ii, scal_ss, scal_bb, scal_nn, scal_is, scal_si, scal_sn, scal_ns, flat_i, flat_s, flat_b, flat_n, List.all_cons, List.all_nil, Bool.and_true, Bool.true_and, true_and, and_true, ex_get, ex_int, ex_str, ex_bl, ex_ref, ex_int2, ex_str2, ex_ri, dec_true, at0, at1, at2, at3, at4, at5, at6, at7, List.getElem?_cons_zero, List.getElem?_cons_succ, List.set_cons_zero, List.set_cons_succ, List.length_cons, List.length_nil, Nat.reduceAdd, le_line, Nat.reduceLeDiff, upd_same, Bool.false_eq_true, if_false, if_true, ite_true, ite_false, List.cons_append, List.nil_append, List.append_nil, rSetM, ix30, ix31, ix32, upd_upd, ex_some, seqAt, tEv, tEvT, evVar, evC, ev2, ev1, evAnd, evOr, evIx, evCons, evNil, evCall, evLen, lenAt, fI_ii, kLt, kLe, kGt, kGe, kAdd, kSub, fEq, fNe, fMod_lit, fIn_s, fIn_i, fAnd_bb, fOr_bb, fNot_b, fIsN_n, fNotN_n, ex_sbl, ex_cons, Int.reduceLT, spP, decide_true, decide_false, Bool.not_true, Bool.not_false, Bool.and_false, Bool.false_and, Bool.or_true, Bool.true_or, Bool.or_false, Bool.false_or, reduceCtorEq, false_and, and_false, fDiv_lit, fNeg_i, Int.reduceNeg, hTt, hLast, haL', e2, hD212, e3], ?_⟩
          refine ⟨_, _, rfl, _, _, rfl, _, rfl, _, rfl, setM_of hx3 (j := kk) (by unfold ixN; rw [if_pos (by omega), if_pos (by rw [List.length_map]; omega)]; simp) ?_⟩
          refine ⟨⟨_, rfl⟩, ⟨xs.set kk _, by rw [List.map_set]; exact upd_same, by simpa using hxl, hinv.step hj (by omega) hxl rfl rfl hy2 hy3 rfl⟩, fun b u eb nb => ?_⟩
          rw [upd_ne nb]
          exact k12 _ _ eb nb
        rintro σ H12 ⟨⟨x9, rfl⟩, ⟨xs, hx3, hxl, hinv⟩, k12⟩
        have hT12 : TableAt H12 t as rows m := ⟨k12 _ _ hT11.ht (nD3' _ _ hT8.ht), hT11.hr.keep fun b hb u e => k12 _ _ e (by obtain ⟨r, _, hr⟩ := hT8.hr.mem hb; exact nD3' _ _ hr), hT11.hm, hT11.m1, hT11.m2, hT11.l1, hT11.l2⟩
        refine ⟨_, rfl, .inl ⟨rfl, _, SqL.of hT12.ht⟩, _, rfl, _, rfl, (m : Int), rfl, D3, _, rfl, SqL.of hx3, fun r nr => ?_⟩
        rw [cut_to]
        have rt : r ≠ t := (ne_of_none hT12.ht nr).symm
        have hasl := hT12.hr.1
        refine ⟨t, _, _, rfl, rfl, upd_old nr hT12.ht, small1000 (by rw [List.length_map, hasl]; omega), ⟨_, _, _, _, _, rfl⟩, ⟨as ++ [r], rows ++ [xs.take m], ⟨by rw [List.map_append]; exact upd_same, ?_, ?_, hT12.m1, hT12.m2, by simp, by simp; omega⟩, by simp; omega, hO8.snoc hT8.l1 (by rw [hlast]; exact hinv)⟩, ?_, ?_⟩
        · refine At2.snoc (hT12.hr.keep fun b hb u e => ?_) ?_
          · have hbt : b ≠ t := by
              obtain ⟨rr, hrm, hrr⟩ := hT12.hr.mem hb
              intro z
              rw [z, hT12.ht] at hrr
              have hrm1 := hT12.hm _ hrm
              have hm1 := hT12.m1
              unfold rowO at hrr
              injection hrr with hrr
              injection hrr with hrr
              cases rr with
              | nil => simp at hrm1; omega
              | cons y ys =>
                cases as with
                | nil => simp at hrr
                | cons z zs =>
                  rw [List.map_cons, List.map_cons] at hrr
                  injection hrr with h1 _
                  cases h1
            rw [upd_ne hbt]
            exact upd_old nr e
          · rw [upd_ne rt]
            exact upd_same
        · intro r' hr'
          rcases List.mem_append.mp hr' with h | h
          · exact hT12.hm _ h
          · rw [List.mem_singleton.mp h, List.length_take]
            omega
        · rw [upd_ne hlt]
          exact upd_old nr (k12 _ _ (keep8 _ _ hl8) (nD3' _ _ hl8))
        · intro b u eb
          have hbt : b ≠ t := ne_of_none eb nHt
          rw [upd_ne hbt]
          exact upd_old nr (k12 _ _ (keep8 _ _ (sH8 _ _ eb)) (nD3' _ _ (sH8 _ _ eb)))
      · rintro σ H8 ⟨⟨x5, x6, x7, x8, x9, rfl⟩, ⟨as, rows, hT8, hrl, hO8⟩, hl8, sH8⟩
        exact ⟨_, rfl, q t as rows m H8 nHt hT8 hO8 sH8⟩
    · exact h.elim
end
end My

set_option Elab.async false
set_option linter.all false
set_option maxRecDepth 100000
set_option maxHeartbeats 4000000
namespace My
open PySem L2
def spCuts : Sp := fun vs H Q _ => match vs with
  | [.ref t, .ref p, .int most] => ∃ as rows m n, TableAt H t as rows m ∧ t ≠ p ∧ p ∉ as ∧ PotAt H p n ∧ n < 1000 ∧ 0 < most ∧ most ≤ 100 ∧
      ∀ l ts cs H', H l = none → H' l = some (.lst (ts.map V.ref)) → At2 H' cutO ts cs → cs.length ≤ 100 → (∀ c ∈ cs, cutOk rows.length m c) → But p H H' → PotAt H' p (n + 400) → Q (.ref l) H'
  | _ => False
section
variable {P : Program} {w : World} {K : PySem.W.Frag} {mg : Str → Option Value} {base : Heap} {e : Ext}
theorem sc_cuts : FnScope ["_law_table_here", "_law_pot_here", "_law_most", "_law_cuts_here", "_law_k", "_law_before", "_law_after"] ["_law_table_here", "_law_pot_here", "_law_most"] (defScope s_cuts) := ⟨rfl, rfl, rfl, by decide +kernel, rfl, by decide +kernel, by decide +kernel⟩
theorem ok_cuts {f f_mixed f_take : Addr} {fd fd_mixed fd_take : FuncData} (F : Fun K "_law_cuts" "_law_cuts" s_cuts f fd) (T : Txt K mg e)
    (D_mixed : Def K mg "_law_mixed" s_mixed ["_law_cell_here", "_law_k"] f_mixed fd_mixed) (D_take : Def K mg "_law_take" s_take ["_law_pot_here", "_law_many"] f_take fd_take) : FnOk P w K mg base CX0 3 f fd ["_law_table_here", "_law_pot_here", "_law_most"] spCuts := by
  have G_take : FnOk P w K mg base CX0 2 f_take fd_take ["_law_pot_here", "_law_many"] spTake := ok_take D_take.F T D_mixed
  refine F.ok sc_cuts (fun vs H Q E h => ?_) (fun cdv A outer s H vs Q E hr h => ?_)
  · unfold spCuts at h
    split at h
    · rfl
    · exact h.elim
  · unfold spCuts at h
    split at h
    · rename_i t p most
      obtain ⟨as, rows, m, n, hT, tp, ap, hP, hn, m0, m1, q⟩ := h
      have hr_take := hr.mono (by decide : 2 ≤ 2)
      refine ⟨_, (pss_cons (ps_set (i := 3) sc_cuts.nd rfl (Or.inl rfl) (pe_lst pa_nil))
      (pss_cons (ps_for PassesOwn.never rfl (pi_range1 rfl T.n_range (pa_cons (pe_call G_take hr_take rfl D_take.m D_take.F.kp D_take.b .nil pass0 (pa_cons (pv 1) (pa_cons (pv 2) pa_nil))) pa_nil)) (pg_name (i := 4) sc_cuts.nd rfl (Or.inl rfl))
        (pss_cons (ps_set (i := 5) sc_cuts.nd rfl (Or.inl rfl) (pe_call G_take hr_take rfl D_take.m D_take.F.kp D_take.b .nil pass0 (pa_cons (pv 1) (pa_cons (pe_pp (pp_len rfl T.n_len PySem.boot_len (ppa_cons (pp_var 0) ppa_nil))) pa_nil))))
        (pss_cons (ps_set (i := 6) sc_cuts.nd rfl (Or.inl rfl) (pe_call G_take hr_take rfl D_take.m D_take.F.kp D_take.b .nil pass0 (pa_cons (pv 1) (pa_cons (pe_pp (pp_add (pp_var 5) (pp_c pe_int))) pa_nil))))
        (pss_one (ps_expr (pe_bm PySem.F.plainAttrs_list PySem.F.slot_list_append PySem.F.type_list_append mt_append (pv 3) (pa_cons (pe_tup (pa_cons (pv 5) (pa_cons (pv 6) (pa_cons (pe_call G_take hr_take rfl D_take.m D_take.F.kp D_take.b .nil pass0 (pa_cons (pv 1) (pa_cons (pe_pp (pp_len rfl T.n_len PySem.boot_len (ppa_cons (pp_ix (pp_var 0) (pp_c pe_int) (fun _ _ => rfl)) ppa_nil))) pa_nil))) pa_nil)))) pa_nil)))))))
      (pss_one (ps_ret (pv 3))))), ?_⟩
      change (_ : Ends → St → Hp → Prop) _ [some (.ref t), some (.ref p), some (.int most), none, none, none, none] H
      refine ⟨(by show 0 ≤ sizeLine; decide), fun l nl => ?_⟩
      refine ⟨_, rfl, _, rfl, m0, by omega, n, hP.new nl, by omega, fun v H1 v0 v1 P1 k1 => ⟨v, rfl, by omega, by omega, ?_⟩⟩
      have lp : l ≠ p := (hP.ne nl).symm
      have hl1 : H1 l = some (.lst []) := k1 _ _ upd_same lp
      have kH1 : But p H H1 := fun b u eb nb => k1 _ _ (upd_old nl eb) nb
      refine for_range (lo := 0) (n := v.toNat) (fun i σ H' => (∃ x4 x5 x6, σ = [some (.ref t), some (.ref p), some (.int most), some (.ref l), x4, x5, x6]) ∧ (∃ ts cs, H' l = some (.lst (ts.map V.ref)) ∧ At2 H' cutO ts cs ∧ cs.length = i ∧ (∀ c ∈ cs, cutOk rows.length m c)) ∧ PotAt H' p (n + 1 + 3 * i) ∧ But p H H') ⟨⟨_, _, _, rfl⟩, ⟨[], [], hl1, At2.nil, rfl, by simp⟩, P1, kH1⟩ ?_ ?_
      · rintro i σ H2 hi ⟨⟨x4, x5, x6, rfl⟩, ⟨ts, cs, hl2, hC2, hcl, hok⟩, P2, k2⟩
        have hTk : ∀ H', But p H H' → TableAt H' t as rows m := fun H' k => ⟨k _ _ hT.ht tp, hT.hr.keep fun b hb u e => k _ _ e (fun z => ap (z ▸ hb)), hT.hm, hT.m1, hT.m2, hT.l1, hT.l2⟩
        have hT2 := hTk _ k2
        have hT2t := hT2.ht
        have hal : as.length = rows.length := hT.hr.1
        have l1 := hT.l1
        have l2 := hT.l2
        have mm1 := hT.m1
        have mm2 := hT.m2
        refine ⟨_, rfl, .int (rows.length : Int), (by simp only [tSeq, tNext, tIfS, tRet, tRetN, tDrop, tAsg, gName, gTup, gCons, gNil, gSub, tTest, tOp, tUn, tVar, tC, tB, tInC, tAnd, tOr, tNot, tAndV, tOrV, tNotV, tIf, tCall, tCons, tNil, tTup, tLst, tCut, rI0, rI, rU, rEq, rNe, rIxM, rSetL, scal_ii, scal_ss, scal_bb, scal_nn, scal_is, scal_si, scal_sn, scal_ns, flat_i, flat_s, flat_b, flat_n, List.all_cons, List.all_nil, Bool.and_true, Bool.true_and, true_and, and_true, ex_get, ex_int, ex_str, ex_bl, ex_ref, ex_int2, ex_str2, ex_ri, dec_true, at0, at1, at2, at3, at4, at5, at6, at7, List.getElem?_cons_zero, List.getElem?_cons_succ, List.set_cons_zero, List.set_cons_succ, List.length_cons, List.length_nil, Nat.reduceAdd, le_line, Nat.reduceLeDiff, upd_same, Bool.false_eq_true, if_false, if_true, ite_true, ite_false, List.cons_append, List.nil_append, List.append_nil, rSetM, ix30, ix31, ix32, upd_upd, ex_some, seqAt, tEv, tEvT, evVar, evC, ev2, ev1, evAnd, evOr, evIx, evCons, evNil, evCall, evLen, lenAt, fI_ii, kLt, kLe, kGt, kGe, kAdd, kSub, fEq, fNe, fMod_lit, fIn_s, fIn_i, fAnd_bb, fOr_bb, fNot_b, fIsN_n, fNotN_n, ex_sbl, ex_cons, Int.reduceLT, spP, decide_true, decide_false, Bool.not_true, Bool.not_false, Bool.and_false, Bool.false_and, Bool.or_true, Bool.true_or, Bool.or_false, Bool.false_or, reduceCtorEq, false_and, and_false, fDiv_lit, fNeg_i, Int.reduceNeg, hT2t, List.length_map, hal]), by omega, by omega, _, P2, by omega, fun b H3 b0 b1 P3 k3 => ?_⟩
        refine ⟨_, rfl, .int (b + 1), (by simp only [tSeq, tNext, tIfS, tRet, tRetN, tDrop, tAsg, gName, gTup, gCons, gNil, gSub, tTest, tOp, tUn, tVar, tC, tB, tInC, tAnd, tOr, tNot, tAndV, tOrV, tNotV, tIf, tCall, tCons, tNil, tTup, tLst, tCut, rI0, rI, rU, rEq, rNe, rIxM, rSetL, scal_ii, scal_ss, scal_bb, scal_nn, scal_is, scal_si, scal_sn, scal_ns, flat_i, flat_s, flat_b, flat_n, List.all_cons, List.all_nil, Bool.and_true, Bool.true_and, true_and, and_true, ex_get, ex_int, ex_str, ex_bl, ex_ref, ex_int2, ex_str2, ex_ri, dec_true, at0, at1, at2, at3, at4, at5, at6, at7, List.getElem?_cons_zero, List.getElem?_cons_succ, List.set_cons_zero, List.set_cons_succ, List.length_cons, List.length_nil, Nat.reduceAdd, le_line, Nat.reduceLeDiff, upd_same, Bool.false_eq_true, if_false, if_true, ite_true, ite_false, List.cons_append, List.nil_append, List.append_nil, rSetM, ix30, ix31, ix32, upd_upd, ex_some, seqAt, tEv, tEvT, evVar, evC, ev2, ev1, evAnd, evOr, evIx, evCons, evNil, evCall, evLen, lenAt, fI_ii, kLt, kLe, kGt, kGe, kAdd, kSub, fEq, fNe, fMod_lit, fIn_s, fIn_i, fAnd_bb, fOr_bb, fNot_b, fIsN_n, fNotN_n, ex_sbl, ex_cons, Int.reduceLT, spP, decide_true, decide_false, Bool.not_true, Bool.not_false, Bool.and_false, Bool.false_and, Bool.or_true, Bool.true_or, Bool.or_false, Bool.false_or, reduceCtorEq, false_and, and_false, fDiv_lit, fNeg_i, Int.reduceNeg]), by omega, by omega, _, P3, by omega, fun af H4 a0 a1 P4 k4 => ?_⟩
        have k24 : But p H H4 := fun c u ec nc => k4 _ _ (k3 _ _ (k2 _ _ ec nc) nc) nc
        have hT4 := hTk _ k24
        have hT4t := hT4.ht
        obtain ⟨a0', ea0, ha0⟩ := hT4.hr.ix (i := 0) (by omega)
        have hix : atI (as.map V.ref) 0 = some (.ref a0') := atI_nat (j := 0) (by rw [List.getElem?_map, ea0]; rfl)
        have ha0' : H4 a0' = some (.lst ((rows[0]'(by omega)).map V.int)) := ha0
        have hr0 := hT.hm _ (List.getElem_mem (show 0 < rows.length by omega))
        have hl4 : H4 l = some (.lst (ts.map V.ref)) := k4 _ _ (k3 _ _ hl2 lp) lp
        refine ⟨_, rfl, .inl ⟨rfl, _, SqL.of hl4⟩, _, rfl, _, rfl, _, rfl, .int (m : Int), (by simp only [tSeq, tNext, tIfS, tRet, tRetN, tDrop, tAsg, gName, gTup, gCons, gNil, gSub, tTest, tOp, tUn, tVar, tC, tB, tInC, tAnd, tOr, tNot, tAndV, tOrV, tNotV, tIf, tCall, tCons, tNil, tTup, tLst, tCut, rI0, rI, rU, rEq, rNe, rIxM, rSetL, scal_ii, scal_ss, scal_bb, scal_nn, scal_is, scal_si, scal_sn, scal_ns, flat_i, flat_s, flat_b, flat_n, List.all_cons, List.all_nil, Bool.and_true, Bool.true_and, true_and, and_true, ex_get, ex_int, ex_str, ex_bl, ex_ref, ex_int2, ex_str2, ex_ri, dec_true, at0, at1, at2, at3, at4, at5, at6, at7, List.getElem?_cons_zero, List.getElem?_cons_succ, List.set_cons_zero, List.set_cons_succ, List.length_cons, List.length_nil, Nat.reduceAdd, le_line, Nat.reduceLeDiff, upd_same, Bool.false_eq_true, if_false, if_true, ite_true, ite_false, List.cons_append, List.nil_append, List.append_nil, rSetM, ix30, ix31, ix32, upd_upd, ex_some, seqAt, tEv, tEvT, evVar, evC, ev2, ev1, evAnd, evOr, evIx, evCons, evNil, evCall, evLen, lenAt, fI_ii, kLt, kLe, kGt, kGe, kAdd, kSub, fEq, fNe, fMod_lit, fIn_s, fIn_i, fAnd_bb, fOr_bb, fNot_b, fIsN_n, fNotN_n, ex_sbl, ex_cons, Int.reduceLT, spP, decide_true, decide_false, Bool.not_true, Bool.not_false, Bool.and_false, Bool.false_and, Bool.or_true, Bool.true_or, Bool.or_false, Bool.false_or, reduceCtorEq, false_and, and_false, fDiv_lit, fNeg_i, Int.reduceNeg, hT4t, hix, ha0', List.length_map, hr0]), by omega, by omega, _, P4, by omega, fun wk H5 w0 w1 P5 k5 => ⟨(by show 3 ≤ sizeLine; decide), fun tu ntu => ?_⟩⟩
        have hl5 := k5 _ _ hl4 lp
        have tul : tu ≠ l := (ne_of_none hl5 ntu).symm
        have tup : tu ≠ p := (P5.ne ntu).symm
        have hcl2 : ts.length = cs.length := hC2.1
        refine ⟨l, _, _, rfl, rfl, upd_old ntu hl5, small1000 (by rw [List.length_map]; omega), ⟨_, _, _, rfl⟩, ⟨ts ++ [tu], cs ++ [(b, af, wk)], by rw [List.map_append]; exact upd_same, ?_, by simp; omega, ?_⟩, ?_, ?_⟩
        · refine At2.snoc (hC2.keep fun c hc u e => ?_) ?_
          · obtain ⟨y, _, hy⟩ := hC2.mem hc
            have cp : c ≠ p := by
              obtain ⟨c', k', b', e', _⟩ := P2
              exact ne_of hy e' (by intro z; cases z)
            have cl : c ≠ l := ne_of hy hl2 (by intro z; cases z)
            rw [upd_ne cl]
            exact upd_old ntu (k5 _ _ (k4 _ _ (k3 _ _ e cp) cp) cp)
          · rw [upd_ne tul]
            exact upd_same
        · intro c hc
          rcases List.mem_append.mp hc with h | h
          · exact hok _ h
          · rw [List.mem_singleton.mp h]
            exact ⟨b0, b1, a0, (by show af ≤ b; omega), w0, w1⟩
        · obtain ⟨c', k', b', e', z1, z2⟩ := P5
          exact ⟨c', k', b', by rw [upd_ne lp.symm, upd_ne tup.symm]; exact e', z1, by omega⟩
        · intro c u ec nc
          rw [upd_ne (ne_of_none ec nl)]
          exact upd_old ntu (k5 _ _ (k24 _ _ ec nc) nc)
      · rintro σ H2 ⟨⟨x4, x5, x6, rfl⟩, ⟨ts, cs, hl2, hC2, hcl, hok⟩, P2, k2⟩
        exact ⟨_, rfl, q l ts cs H2 nl hl2 hC2 (by omega) hok k2 (P2.mono (by omega))⟩
    · exact h.elim
end
def aimI (first had has usual : Int) : Int := if has ≤ had then first * has / had + 1 else first + usual * (has - had) / 1000 + 1
def spAim : Sp := fun vs H Q _ => match vs with
  | [.int first, .int had, .int has, .int usual] => 0 ≤ first ∧ first < 10000 ∧ 1 ≤ had ∧ had ≤ 1000 ∧ 0 ≤ has ∧ has ≤ 1000 ∧ 0 ≤ usual ∧ usual < 10000 ∧ Q (.int (aimI first had has usual)) H
  | _ => False
theorem aimI_mono {f d s s' u : Int} (d0 : 0 < d) (f0 : 0 ≤ f) (u0 : 0 ≤ u) (h : s ≤ s') : aimI f d s u ≤ aimI f d s' u := by
  unfold aimI
  by_cases h1 : s' ≤ d
  · rw [if_pos h1, if_pos (by omega)]
    have := Int.ediv_le_ediv d0 (Int.mul_le_mul_of_nonneg_left h f0)
    omega
  · rw [if_neg h1]
    by_cases h2 : s ≤ d
    · rw [if_pos h2]
      have e1 : f * s / d ≤ f := by
        have := Int.ediv_le_ediv d0 (Int.mul_le_mul_of_nonneg_left h2 f0)
        rwa [Int.mul_ediv_cancel _ (by omega)] at this
      have e2 : 0 ≤ u * (s' - d) / 1000 := Int.ediv_nonneg (Int.mul_nonneg u0 (by omega)) (by decide)
      omega
    · rw [if_neg h2]
      have := Int.ediv_le_ediv (show (0 : Int) < 1000 by decide) (Int.mul_le_mul_of_nonneg_left (show s - d ≤ s' - d by omega) u0)
      omega
section
variable {P : Program} {w : World} {K : PySem.W.Frag} {mg : Str → Option Value} {base : Heap} {e : Ext}
theorem sc_aim : FnScope ["first", "had", "has", "usual"] ["first", "had", "has", "usual"] (defScope s_aim) := ⟨rfl, rfl, rfl, by decide +kernel, rfl, by decide +kernel, by decide +kernel⟩
theorem ok_aim {f : Addr} {fd : FuncData} (F : Fun K "aim" "aim" s_aim f fd) (T : Txt K mg e) : FnOk P w K mg base CX0 1 f fd ["first", "had", "has", "usual"] spAim := by
  refine F.ok sc_aim (fun vs H Q E h => ?_) (fun cdv A outer s H vs Q E hr h => ?_)
  · unfold spAim at h
    split at h
    · rfl
    · exact h.elim
  · unfold spAim at h
    split at h
    · rename_i first had has usual
      obtain ⟨f0, f1, d0, d1, s0, s1, u0, u1, q⟩ := h
      refine ⟨_, (pss_cons (ps_if (pt_cmpR op_le (pv 2) (pv 1) (nomark _))
        (pss_one (ps_ret (pe_op op_add (pe_op op_fdiv (pe_op op_mul (pv 0) (pv 2)) (pv 1)) pe_int)))
        pss_nil)
      (pss_one (ps_ret (pe_op op_add (pe_op op_add (pv 0) (pe_op op_fdiv (pe_op op_mul (pv 3) (pe_op op_sub (pv 2) (pv 1))) (pe_glob (v := .int _) rfl T.g_WHOLE ⟨_, rfl⟩))) pe_int)))), ?_⟩
      change (_ : Ends → St → Hp → Prop) _ [some (.int first), some (.int had), some (.int has), some (.int usual)] H
      simp only [tSeq, tNext, tIfS, tRet, tRetN, tDrop, tAsg, gName, gTup, gCons, gNil, gSub, tTest, tOp, tUn, tVar, tC, tB, tInC, tAnd, tOr, tNot, tAndV, tOrV, tNotV, tIf, tCall, tCons, tNil, tTup, tLst, tCut, rI0, rI, rU, rEq, rNe, rIxM, rSetL, scal_ii, scal_ss, scal_bb, scal_nn, scal_is, scal_si, scal_sn, scal_ns, flat_i, flat_s, flat_b, flat_n, List.all_cons, List.all_nil, Bool.and_true, Bool.true_and, true_and, and_true, ex_get, ex_int, ex_str, ex_bl, ex_ref, ex_int2, ex_str2, ex_ri, dec_true, at0, at1, at2, at3, at4, at5, at6, at7, List.getElem?_cons_zero, List.getElem?_cons_succ, List.set_cons_zero, List.set_cons_succ, List.length_cons, List.length_nil, Nat.reduceAdd, le_line, Nat.reduceLeDiff, upd_same, Bool.false_eq_true, if_false, if_true, ite_true, ite_false, List.cons_append, List.nil_append, List.append_nil, rSetM, ix30, ix31, ix32, upd_upd, ex_some, seqAt, tEv, tEvT, evVar, evC, ev2, ev1, evAnd, evOr, evIx, evCons, evNil, evCall, evLen, lenAt, fI_ii, kLt, kLe, kGt, kGe, kAdd, kSub, fEq, fNe, fMod_lit, fIn_s, fIn_i, fAnd_bb, fOr_bb, fNot_b, fIsN_n, fNotN_n, ex_sbl, ex_cons, Int.reduceLT, spP, decide_true, decide_false, Bool.not_true, Bool.not_false, Bool.and_false, Bool.false_and, Bool.or_true, Bool.true_or, Bool.or_false, Bool.false_or, reduceCtorEq, false_and, and_false, fDiv_lit, fNeg_i, Int.reduceNeg]
      unfold aimI at q
      refine ite2 (fun hz => ?_) (fun hz => ?_)
      · rw [if_pos hz] at q
        exact ⟨.inl ⟨by omega, by omega⟩, ⟨by omega, by omega⟩, q⟩
      · rw [if_neg hz] at q
        exact ⟨.inl ⟨by omega, by omega⟩, ⟨by decide, by decide⟩, q⟩
    · exact h.elim
end
end My

set_option Elab.async false
set_option linter.all false
set_option maxRecDepth 100000
set_option maxHeartbeats 4000000
namespace My
open PySem L2
abbrev Cut := Int × Int × Int
def lossI (rows : List (List Int)) (c : Cut) : Int := cellI rows c.1 c.2.2 - cellI rows c.2.1 c.2.2
def lossS (rows : List (List Int)) (cs : List Cut) : Int := (cs.map (lossI rows)).sum
def shV (rows : List (List Int)) (overs : Int) (cs : List Cut) : Int := if 0 > cellI rows overs 0 - lossS rows cs then 0 else cellI rows overs 0 - lossS rows cs
section
variable {rows : List (List Int)} {m : Nat}
theorem cell_up (hm : ∀ r ∈ rows, r.length = m) (h : TabOk rows m) {a b j : Int} (a0 : 0 ≤ a) (ab : a ≤ b) (b1 : b < rows.length) (j0 : 0 ≤ j) (j1 : j < m) : cellI rows a j ≤ cellI rows b j := by
  obtain ⟨a, rfl⟩ := Int.eq_ofNat_of_zero_le a0
  obtain ⟨b, rfl⟩ := Int.eq_ofNat_of_zero_le (Int.le_trans a0 ab)
  obtain ⟨j, rfl⟩ := Int.eq_ofNat_of_zero_le j0
  rw [cellI_cN hm (by omega) (by omega), cellI_cN hm (by omega) (by omega)]
  have := h.up (a := a) (j := j) (by omega) (b - a) (by omega)
  rwa [show a + (b - a) = b by omega] at this
theorem cell_in (hm : ∀ r ∈ rows, r.length = m) (h : TabOk rows m) {a j : Int} (a0 : 0 ≤ a) (a1 : a < rows.length) (j0 : 0 ≤ j) (j1 : j < m) : 0 ≤ cellI rows a j ∧ cellI rows a j ≤ 1000 := by
  obtain ⟨a, rfl⟩ := Int.eq_ofNat_of_zero_le a0
  obtain ⟨j, rfl⟩ := Int.eq_ofNat_of_zero_le j0
  rw [cellI_cN hm (by omega) (by omega)]
  exact (h a j (by omega) (by omega)).1
theorem loss_nn (hm : ∀ r ∈ rows, r.length = m) (h : TabOk rows m) {c : Cut} (hc : cutOk rows.length m c) : 0 ≤ lossI rows c := by
  obtain ⟨b0, b1, a0, a1, w0, w1⟩ := hc
  have := cell_up hm h a0 a1 b1 w0 w1
  unfold lossI
  omega
theorem lossS_nn (hm : ∀ r ∈ rows, r.length = m) (h : TabOk rows m) : ∀ {cs : List Cut}, (∀ c ∈ cs, cutOk rows.length m c) → 0 ≤ lossS rows cs
  | [], _ => Int.le_refl 0
  | c :: cs, hc => by
    have h1 := loss_nn hm h (hc c (by simp))
    have h2 := lossS_nn hm h (cs := cs) fun x hx => hc x (by simp [hx])
    unfold lossS at h2 ⊢
    rw [List.map_cons, List.sum_cons]
    omega
theorem lossS_app (cs ds : List Cut) : lossS rows (cs ++ ds) = lossS rows cs + lossS rows ds := by
  unfold lossS
  rw [List.map_append, List.sum_append]
theorem lossS_one (c : Cut) : lossS rows [c] = lossI rows c := by
  unfold lossS
  simp
theorem lossS_cut {cs : List Cut} {i : Nat} {c : Cut} (h : cs[i]? = some c) : lossS rows cs = lossS rows (cs.take i ++ cs.drop (i + 1)) + lossI rows c := by
  obtain ⟨hi, e⟩ := List.getElem?_eq_some_iff.mp h
  have e1 : cs = cs.take i ++ c :: cs.drop (i + 1) := by
    rw [← e, List.getElem_cons_drop, List.take_append_drop]
  have e2 : lossS rows cs = lossS rows (cs.take i ++ c :: cs.drop (i + 1)) := congrArg _ e1
  rw [e2, lossS_app, lossS_app, show c :: cs.drop (i + 1) = [c] ++ cs.drop (i + 1) from rfl, lossS_app, lossS_one]
  omega
end
theorem shV_mono {rows : List (List Int)} {o o' : Int} {cs cs' : List Cut} (h : cellI rows o 0 - lossS rows cs ≤ cellI rows o' 0 - lossS rows cs') : shV rows o cs ≤ shV rows o' cs' := by
  unfold shV
  split <;> split <;> omega
def spShares : Sp := fun vs H Q _ => match vs with
  | [.ref t, .int overs, .ref l, .ref l2] => ∃ as rows m ts cs ts2 cs2, TableAt H t as rows m ∧ TabOk rows m ∧ 0 ≤ overs ∧ overs < rows.length ∧ H l = some (.lst (ts.map V.ref)) ∧ At2 H cutO ts cs ∧ H l2 = some (.lst (ts2.map V.ref)) ∧ At2 H cutO ts2 cs2 ∧ cs.length ≤ 100 ∧ cs2.length ≤ 100 ∧
      (∀ c ∈ cs, cutOk rows.length m c) ∧ (∀ c ∈ cs2, cutOk rows.length m c) ∧ ∀ H', Same H H' → Q (.bl true) H'
  | _ => False
section
variable {P : Program} {w : World} {K : PySem.W.Frag} {mg : Str → Option Value} {base : Heap} {e : Ext}
theorem sc_shares : FnScope ["_law_table_here", "_law_overs", "_law_cuts_here", "_law_more", "_law_share", "_law_k", "_law_cut", "_law_before", "_law_after", "_law_lost", "_law_rest", "_law_later", "_law_longer"] ["_law_table_here", "_law_overs", "_law_cuts_here", "_law_more"] (defScope s_shares) := ⟨rfl, rfl, rfl, by decide +kernel, rfl, by decide +kernel, by decide +kernel⟩
theorem ok_shares {f f_share : Addr} {fd fd_share : FuncData} (F : Fun K "_law_shares" "_law_shares" s_shares f fd) (T : Txt K mg e)
    (D_share : Def K mg "share_had" s_share ["table", "overs", "cuts"] f_share fd_share) : FnOk P w K mg base CX0 2 f fd ["_law_table_here", "_law_overs", "_law_cuts_here", "_law_more"] spShares := by
  have G_share : FnOk P w K mg base CX0 1 f_share fd_share ["table", "overs", "cuts"] spShare := ok_share D_share.F T
  refine F.ok sc_shares (fun vs H Q E h => ?_) (fun cdv A outer s H vs Q E hr h => ?_)
  · unfold spShares at h
    split at h
    · rfl
    · exact h.elim
  · unfold spShares at h
    split at h
    · rename_i t overs l l2
      obtain ⟨as, rows, m, ts, cs, ts2, cs2, hT, hO, o0, o1, hl, hC, hl2, hC2, n1, n2, ok1, ok2, q⟩ := h
      have hr_share := hr.mono (by decide : 1 ≤ 1)
      have hm := hT.hm
      have m1 := hT.m1
      have hc0 := cell_in hm hO (a := overs) (j := 0) o0 o1 (by decide) (by omega)
      have hs1 := lossS_nn hm hO ok1
      have hs2 := lossS_nn hm hO ok2
      -- a share as the function tells it
      refine ⟨_, (pss_cons (ps_set (i := 4) sc_shares.nd rfl (Or.inl rfl) (pe_call G_share hr_share rfl D_share.m D_share.F.kp D_share.b .nil pass0 (pa_cons (pv 0) (pa_cons (pv 1) (pa_cons (pv 2) pa_nil)))))
      (pss_cut (ps_if (PW.pt (pw_or (pt_not (pt_chain op_le op_le pe_int (pv 4) pe_int)) (pw_or1 (pt_cmpR op_gt (pe_call G_share hr_share rfl D_share.m D_share.F.kp D_share.b .nil pass0 (pa_cons (pv 0) (pa_cons (pv 1) (pa_cons (pe_op op_cat (pv 2) (pv 3)) pa_nil)))) (pv 4) (nomark _)))))
        (pss_one (ps_ret pe_bl))
        pss_nil)
      (pss_cut (ps_if (PW.pt (pw_and (pt_pp (ptp_lt (pp_add (pp_var 1) (pp_c pe_int)) (pp_len rfl T.n_len PySem.boot_len (ppa_cons (pp_var 0) ppa_nil)))) (pw_and1 (pt_cmpR op_lt (pe_call G_share hr_share rfl D_share.m D_share.F.kp D_share.b .nil pass0 (pa_cons (pv 0) (pa_cons (pe_pp (pp_add (pp_var 1) (pp_c pe_int))) (pa_cons (pv 2) pa_nil)))) (pv 4) (nomark _)))))
        (pss_one (ps_ret pe_bl))
        pss_nil)
      (pss_cons (ps_for PassesOwn.never rfl (pi_enum rfl T.n_enumerate (pa_cons (pv 2) pa_nil)) (pg_tup rfl (pgs_cons (pg_name (i := 5) sc_shares.nd rfl (Or.inl rfl)) (pgs_cons (pg_name (i := 6) sc_shares.nd rfl (Or.inl rfl)) pgs_nil)))
        (pss_cons (ps_asg (pv 6) (pg_tup rfl (pgs_cons (pg_name (i := 7) sc_shares.nd rfl (Or.inl rfl)) (pgs_cons (pg_name (i := 8) sc_shares.nd rfl (Or.inl rfl)) (pgs_cons (pg_name (i := 9) sc_shares.nd rfl (Or.inl rfl)) pgs_nil)))))
        (pss_cons (ps_set (i := 10) sc_shares.nd rfl (Or.inl rfl) (pe_op op_cat (pe_slice sl_list (pv 2) po_none (po_some (pv 5))) (pe_slice sl_list (pv 2) (po_some (pe_pp (pp_add (pp_var 5) (pp_c pe_int)))) po_none)))
        (pss_cons (ps_set (i := 11) sc_shares.nd rfl (Or.inl rfl) (pe_op op_cat (pv 10) (pe_lst (pa_cons (pe_tup (pa_cons (pv 7) (pa_cons (pe_pp (pp_add (pp_var 8) (pp_c pe_int))) (pa_cons (pv 9) pa_nil)))) pa_nil))))
        (pss_cut (ps_if (PW.pt (pw_and (pt_pp (ptp_lt (pp_var 8) (pp_var 7))) (pw_and1 (pt_cmpR op_lt (pe_call G_share hr_share rfl D_share.m D_share.F.kp D_share.b .nil pass0 (pa_cons (pv 0) (pa_cons (pv 1) (pa_cons (pv 11) pa_nil)))) (pv 4) (nomark _)))))
          (pss_one (ps_ret pe_bl))
          pss_nil)
        (pss_cons (ps_set (i := 12) sc_shares.nd rfl (Or.inl rfl) (pe_op op_cat (pv 10) (pe_lst (pa_cons (pe_tup (pa_cons (pe_pp (pp_add (pp_var 7) (pp_c pe_int))) (pa_cons (pv 8) (pa_cons (pv 9) pa_nil)))) pa_nil))))
        (pss_one (ps_if (PW.pt (pw_and (pt_pp (ptp_lt (pp_add (pp_var 7) (pp_c pe_int)) (pp_len rfl T.n_len PySem.boot_len (ppa_cons (pp_var 0) ppa_nil)))) (pw_and1 (pt_cmpR op_gt (pe_call G_share hr_share rfl D_share.m D_share.F.kp D_share.b .nil pass0 (pa_cons (pv 0) (pa_cons (pv 1) (pa_cons (pv 12) pa_nil)))) (pv 4) (nomark _)))))
          (pss_one (ps_ret pe_bl))
          pss_nil))))))))
      (pss_one (ps_ret pe_bl)))))), ?_⟩
      change (_ : Ends → St → Hp → Prop) _ [some (.ref t), some (.int overs), some (.ref l), some (.ref l2), none, none, none, none, none, none, none, none, none] H
      refine ⟨_, rfl, _, rfl, _, rfl, as, rows, m, ts, cs, hT, o0, o1, hl, hC, by omega, ok1, fun H1 s1 => ?_⟩
      show gName 4 (.int (shV rows overs cs)) _ _ _
      have hsv : shV rows overs cs = if 0 > cellI rows overs 0 - lossS rows cs then 0 else cellI rows overs 0 - lossS rows cs := rfl
      generalize hsvd : shV rows overs cs = sv at hsv ⊢
      have sv0 : 0 ≤ sv ∧ sv ≤ 1000 := by rw [hsv]; split <;> omega
      refine ⟨fun σ' H' => σ' = [some (.ref t), some (.int overs), some (.ref l), some (.ref l2), some (.int sv), none, none, none, none, none, none, none, none] ∧ Same H H', ?_, ?_⟩
      · simp only [tChain, tSeq, tNext, tIfS, tRet, tRetN, tDrop, tAsg, gName, gTup, gCons, gNil, gSub, tTest, tOp, tUn, tVar, tC, tB, tInC, tAnd, tOr, tNot, tAndV, tOrV, tNotV, tIf, tCall, tCons, tNil, tTup, tLst, tCut, rI0, rI, rU, rEq, rNe, rIxM, rSetL, scal_ii, scal_ss, scal_bb, scal_nn, scal_is, scal_si, scal_sn, scal_ns, flat_i, flat_s, flat_b, flat_n, List.all_cons, List.all_nil, Bool.and_true, Bool.true_and, true_and, and_true, ex_get, ex_int, ex_str, ex_bl, ex_ref, ex_int2, ex_str2, ex_ri, dec_true, at0, at1, at2, at3, at4, at5, at6, at7, List.getElem?_cons_zero, List.getElem?_cons_succ, List.set_cons_zero, List.set_cons_succ, List.length_cons, List.length_nil, Nat.reduceAdd, le_line, Nat.reduceLeDiff, upd_same, Bool.false_eq_true, if_false, if_true, ite_true, ite_false, List.cons_append, List.nil_append, List.append_nil, rSetM, ix30, ix31, ix32, upd_upd, ex_some, seqAt, tEv, tEvT, evVar, evC, ev2, ev1, evAnd, evOr, evIx, evCons, evNil, evCall, evLen, lenAt, fI_ii, kLt, kLe, kGt, kGe, kAdd, kSub, fEq, fNe, fMod_lit, fIn_s, fIn_i, fAnd_bb, fOr_bb, fNot_b, fIsN_n, fNotN_n, ex_sbl, ex_cons, Int.reduceLT, spP, decide_true, decide_false, Bool.not_true, Bool.not_false, Bool.and_false, Bool.false_and, Bool.or_true, Bool.true_or, Bool.or_false, Bool.false_or, reduceCtorEq, false_and, and_false, fDiv_lit, fNeg_i, Int.reduceNeg]
        rw [if_pos sv0.1, if_neg (by simp [sv0.2])]
        refine ⟨l, l2, _, _, rfl, rfl, s1 _ _ hl, s1 _ _ hl2, (by have := hC.1; have := hC2.1; rw [List.length_map, List.length_map]; exact Nat.le_of_lt (small1000 (by omega))), fun lp nlp => ?_⟩
        rw [← List.map_append]
        have sn : Same H (upd H1 lp (.lst ((ts ++ ts2).map V.ref))) := s1.trans fun b u e => upd_old nlp e
        refine ⟨as, rows, m, ts ++ ts2, cs ++ cs2, hT.same sn, o0, o1, upd_same, (hC.same sn).app (hC2.same sn), (by simp; omega), (fun c hc => (List.mem_append.mp hc).elim (ok1 c) (ok2 c)), fun H2 s2 => ?_⟩
        refine ⟨shV rows overs (cs ++ cs2), sv, rfl, rfl, ?_⟩
        rw [if_neg (by rw [← hsvd]; exact Int.not_lt.mpr (shV_mono (by rw [lossS_app]; omega)))]
        exact sn.trans s2
      rintro σ' H2 ⟨rfl, s2⟩
      refine ⟨fun σ' H' => σ' = [some (.ref t), some (.int overs), some (.ref l), some (.ref l2), some (.int sv), none, none, none, none, none, none, none, none] ∧ Same H H', ?_, ?_⟩
      · have ht2 := s2 _ _ hT.ht
        have hal := hT.hr.1
        simp only [tSeq, tNext, tIfS, tRet, tRetN, tDrop, tAsg, gName, gTup, gCons, gNil, gSub, tTest, tOp, tUn, tVar, tC, tB, tInC, tAnd, tOr, tNot, tAndV, tOrV, tNotV, tIf, tCall, tCons, tNil, tTup, tLst, tCut, rI0, rI, rU, rEq, rNe, rIxM, rSetL, scal_ii, scal_ss, scal_bb, scal_nn, scal_is, scal_si, scal_sn, scal_ns, flat_i, flat_s, flat_b, flat_n, List.all_cons, List.all_nil, Bool.and_true, Bool.true_and, true_and, and_true, ex_get, ex_int, ex_str, ex_bl, ex_ref, ex_int2, ex_str2, ex_ri, dec_true, at0, at1, at2, at3, at4, at5, at6, at7, List.getElem?_cons_zero, List.getElem?_cons_succ, List.set_cons_zero, List.set_cons_succ, List.length_cons, List.length_nil, Nat.reduceAdd, le_line, Nat.reduceLeDiff, upd_same, Bool.false_eq_true, if_false, if_true, ite_true, ite_false, List.cons_append, List.nil_append, List.append_nil, rSetM, ix30, ix31, ix32, upd_upd, ex_some, seqAt, tEv, tEvT, evVar, evC, ev2, ev1, evAnd, evOr, evIx, evCons, evNil, evCall, evLen, lenAt, fI_ii, kLt, kLe, kGt, kGe, kAdd, kSub, fEq, fNe, fMod_lit, fIn_s, fIn_i, fAnd_bb, fOr_bb, fNot_b, fIsN_n, fNotN_n, ex_sbl, ex_cons, Int.reduceLT, spP, decide_true, decide_false, Bool.not_true, Bool.not_false, Bool.and_false, Bool.false_and, Bool.or_true, Bool.true_or, Bool.or_false, Bool.false_or, reduceCtorEq, false_and, and_false, fDiv_lit, fNeg_i, Int.reduceNeg, ht2, List.length_map, hal]
        by_cases hov : overs + 1 < (rows.length : Int)
        · rw [if_pos hov]
          refine ⟨as, rows, m, ts, cs, hT.same s2, by omega, hov, s2 _ _ hl, hC.same s2, by omega, ok1, fun H3 s3 => ?_⟩
          refine ⟨shV rows (overs + 1) cs, sv, rfl, rfl, ?_⟩
          have := cell_up hm hO (a := overs) (b := overs + 1) (j := 0) o0 (by omega) hov (by decide) (by omega)
          rw [if_neg (by rw [← hsvd]; exact Int.not_lt.mpr (shV_mono (by omega)))]
          exact s2.trans s3
        · rw [if_neg hov]
          exact s2
      rintro σ' H3 ⟨rfl, s3⟩
      refine ⟨_, rfl, l, _, rfl, SqL.of (s3 _ _ hl), ?_⟩
      refine for_enum (κ := false) (xs := ts.map V.ref) (fun i σ H' => (∃ x5 x6 x7 x8 x9 x10 x11 x12, σ = [some (.ref t), some (.int overs), some (.ref l), some (.ref l2), some (.int sv), x5, x6, x7, x8, x9, x10, x11, x12]) ∧ Same H H') ⟨⟨_, _, _, _, _, _, _, _, rfl⟩, s3⟩ (fun i σ H' _ q => SqL.of (q.2 _ _ hl)) ?_ ?_
      · rintro i x σ H4 T4 hx ⟨⟨x5, x6, x7, x8, x9, x10, x11, x12, rfl⟩, s4⟩ nT
        obtain ⟨cu, ea, rfl⟩ := ref_at hx
        obtain ⟨c, ec, hc⟩ := hC.2 i cu ea
        have okc := ok1 c (List.mem_of_getElem? ec)
        obtain ⟨b0, b1, a0, a1, w0, w1⟩ := okc
        have s5 : Same H (upd H4 T4 (.tup [.int ((0 + i : Nat) : Int), .ref cu])) := s4.trans fun b u e => upd_old nT e
        refine ⟨T4, _, rfl, SqT.of upd_same, rfl, _, _, rfl, _, _, rfl, rfl, ?_⟩
        generalize upd H4 T4 (.tup [.int ((0 + i : Nat) : Int), .ref cu]) = H5 at s5 ⊢
        have hc5 : H5 cu = some (.tup [.int c.1, .int c.2.1, .int c.2.2]) := s5 _ _ hc
        refine ⟨_, rfl, cu, _, rfl, SqT.of hc5, rfl, _, _, rfl, _, _, rfl, _, _, rfl, rfl, ?_⟩
        have hl5 := s5 _ _ hl
        refine ⟨_, rfl, _, rfl, ((0 + i : Nat) : Int), rfl, l, _, rfl, SqL.of hl5, fun r1 nr1 => ?_⟩
        rw [cutV_to, ← List.map_take, Nat.zero_add]
        have s6 : Same H (upd H5 r1 (.lst ((ts.take i).map V.ref))) := s5.trans fun b u e => upd_old nr1 e
        refine ⟨_, rfl, .int ((i + 1 : Nat) : Int), (by simp only [tSeq, tNext, tIfS, tRet, tRetN, tDrop, tAsg, gName, gTup, gCons, gNil, gSub, tTest, tOp, tUn, tVar, tC, tB, tInC, tAnd, tOr, tNot, tAndV, tOrV, tNotV, tIf, tCall, tCons, tNil, tTup, tLst, tCut, rI0, rI, rU, rEq, rNe, rIxM, rSetL, scal_ii, scal_ss, scal_bb, scal_nn, scal_is, scal_si, scal_sn, scal_ns, flat_i, flat_s, flat_b, flat_n, List.all_cons, List.all_nil, Bool.and_true, Bool.true_and, true_and, and_true, ex_get, ex_int, ex_str, ex_bl, ex_ref, ex_int2, ex_str2, ex_ri, dec_true, at0, at1, at2, at3, at4, at5, at6, at7, List.getElem?_cons_zero, List.getElem?_cons_succ, List.set_cons_zero, List.set_cons_succ, List.length_cons, List.length_nil, Nat.reduceAdd, le_line, Nat.reduceLeDiff, upd_same, Bool.false_eq_true, if_false, if_true, ite_true, ite_false, List.cons_append, List.nil_append, List.append_nil, rSetM, ix30, ix31, ix32, upd_upd, ex_some, seqAt, tEv, tEvT, evVar, evC, ev2, ev1, evAnd, evOr, evIx, evCons, evNil, evCall, evLen, lenAt, fI_ii, kLt, kLe, kGt, kGe, kAdd, kSub, fEq, fNe, fMod_lit, fIn_s, fIn_i, fAnd_bb, fOr_bb, fNot_b, fIsN_n, fNotN_n, ex_sbl, ex_cons, Int.reduceLT, spP, decide_true, decide_false, Bool.not_true, Bool.not_false, Bool.and_false, Bool.false_and, Bool.or_true, Bool.true_or, Bool.or_false, Bool.false_or, reduceCtorEq, false_and, and_false, fDiv_lit, fNeg_i, Int.reduceNeg, Nat.zero_add]; rfl), ((i + 1 : Nat) : Int), rfl, l, _, rfl, SqL.of (s6 _ _ hl), fun r2 nr2 => ?_⟩
        rw [cutV_from, ← List.map_drop]
        have s7 : Same H (upd (upd H5 r1 (.lst ((ts.take i).map V.ref))) r2 (.lst ((ts.drop (i + 1)).map V.ref))) := s6.trans fun b u e => upd_old nr2 e
        have hr1 : upd (upd H5 r1 (.lst ((ts.take i).map V.ref))) r2 (.lst ((ts.drop (i + 1)).map V.ref)) r1 = some (.lst ((ts.take i).map V.ref)) := upd_old nr2 upd_same
        have htl := hC.1
        refine ⟨r1, r2, _, _, rfl, rfl, hr1, upd_same, (by rw [List.length_map, List.length_map, List.length_take, List.length_drop]; exact Nat.le_of_lt (small1000 (by omega))), fun r3 nr3 => ?_⟩
        rw [← List.map_append]
        generalize upd (upd H5 r1 (.lst ((ts.take i).map V.ref))) r2 (.lst ((ts.drop (i + 1)).map V.ref)) = H7 at s7 nr3 ⊢
        have s8 : Same H (upd H7 r3 (.lst ((ts.take i ++ ts.drop (i + 1)).map V.ref))) := s7.trans fun b u e => upd_old nr3 e
        have hr3 : upd H7 r3 (.lst ((ts.take i ++ ts.drop (i + 1)).map V.ref)) r3 = some (.lst ((ts.take i ++ ts.drop (i + 1)).map V.ref)) := upd_same
        generalize upd H7 r3 (.lst ((ts.take i ++ ts.drop (i + 1)).map V.ref)) = H8 at s8 hr3 ⊢
        have hCr : At2 H cutO (ts.take i ++ ts.drop (i + 1)) (cs.take i ++ cs.drop (i + 1)) := (hC.take i).app (hC.drop (i + 1))
        have hrok : ∀ d ∈ cs.take i ++ cs.drop (i + 1), cutOk rows.length m d := fun d hd => ok1 d ((List.mem_append.mp hd).elim List.mem_of_mem_take List.mem_of_mem_drop)
        have hrl : (cs.take i ++ cs.drop (i + 1)).length ≤ 100 := by rw [List.length_append, List.length_take, List.length_drop]; omega
        have hsum := lossS_cut (rows := rows) ec
        generalize cs.take i ++ cs.drop (i + 1) = rs at hCr hrok hrl hsum
        generalize ts.take i ++ ts.drop (i + 1) = tr at hCr hr3
        refine ⟨_, rfl, _, rfl, .int (c.2.1 + 1), (by simp only [tSeq, tNext, tIfS, tRet, tRetN, tDrop, tAsg, gName, gTup, gCons, gNil, gSub, tTest, tOp, tUn, tVar, tC, tB, tInC, tAnd, tOr, tNot, tAndV, tOrV, tNotV, tIf, tCall, tCons, tNil, tTup, tLst, tCut, rI0, rI, rU, rEq, rNe, rIxM, rSetL, scal_ii, scal_ss, scal_bb, scal_nn, scal_is, scal_si, scal_sn, scal_ns, flat_i, flat_s, flat_b, flat_n, List.all_cons, List.all_nil, Bool.and_true, Bool.true_and, true_and, and_true, ex_get, ex_int, ex_str, ex_bl, ex_ref, ex_int2, ex_str2, ex_ri, dec_true, at0, at1, at2, at3, at4, at5, at6, at7, List.getElem?_cons_zero, List.getElem?_cons_succ, List.set_cons_zero, List.set_cons_succ, List.length_cons, List.length_nil, Nat.reduceAdd, le_line, Nat.reduceLeDiff, upd_same, Bool.false_eq_true, if_false, if_true, ite_true, ite_false, List.cons_append, List.nil_append, List.append_nil, rSetM, ix30, ix31, ix32, upd_upd, ex_some, seqAt, tEv, tEvT, evVar, evC, ev2, ev1, evAnd, evOr, evIx, evCons, evNil, evCall, evLen, lenAt, fI_ii, kLt, kLe, kGt, kGe, kAdd, kSub, fEq, fNe, fMod_lit, fIn_s, fIn_i, fAnd_bb, fOr_bb, fNot_b, fIsN_n, fNotN_n, ex_sbl, ex_cons, Int.reduceLT, spP, decide_true, decide_false, Bool.not_true, Bool.not_false, Bool.and_false, Bool.false_and, Bool.or_true, Bool.true_or, Bool.or_false, Bool.false_or, reduceCtorEq, false_and, and_false, fDiv_lit, fNeg_i, Int.reduceNeg]), _, rfl, (by show 3 ≤ sizeLine; decide), fun tu ntu => ⟨(by show 1 ≤ sizeLine; decide), fun lo nlo => ⟨r3, lo, _, _, rfl, rfl, upd_old nlo (upd_old ntu hr3), upd_same, (by have := hCr.1; rw [List.length_map]; exact Nat.le_of_lt (small1000 (by simp; omega))), fun la nla => ?_⟩⟩⟩
        rw [show tr.map V.ref ++ [V.ref tu] = (tr ++ [tu]).map V.ref by rw [List.map_append]; rfl]
        have s9 : Same H8 (upd (upd (upd H8 tu (.tup [.int c.1, .int (c.2.1 + 1), .int c.2.2])) lo (.lst [.ref tu])) la (.lst ((tr ++ [tu]).map V.ref))) := fun b u e => upd_old nla (upd_old nlo (upd_old ntu e))
        have hla : upd (upd (upd H8 tu (.tup [.int c.1, .int (c.2.1 + 1), .int c.2.2])) lo (.lst [.ref tu])) la (.lst ((tr ++ [tu]).map V.ref)) la = some (.lst ((tr ++ [tu]).map V.ref)) := upd_same
        have htu : upd (upd (upd H8 tu (.tup [.int c.1, .int (c.2.1 + 1), .int c.2.2])) lo (.lst [.ref tu])) la (.lst ((tr ++ [tu]).map V.ref)) tu = some (.tup [.int c.1, .int (c.2.1 + 1), .int c.2.2]) := upd_old nla (upd_old nlo upd_same)
        generalize upd (upd (upd H8 tu (.tup [.int c.1, .int (c.2.1 + 1), .int c.2.2])) lo (.lst [.ref tu])) la (.lst ((tr ++ [tu]).map V.ref)) = H9 at s9 hla htu ⊢
        have sH9 : Same H H9 := s8.trans s9
        refine ⟨fun σ' H' => σ' = [some (.ref t), some (.int overs), some (.ref l), some (.ref l2), some (.int sv), some (.int (i : Int)), some (.ref cu), some (.int c.1), some (.int c.2.1), some (.int c.2.2), some (.ref r3), some (.ref la), x12] ∧ Same H9 H', ?_, ?_⟩
        · simp only [tSeq, tNext, tIfS, tRet, tRetN, tDrop, tAsg, gName, gTup, gCons, gNil, gSub, tTest, tOp, tUn, tVar, tC, tB, tInC, tAnd, tOr, tNot, tAndV, tOrV, tNotV, tIf, tCall, tCons, tNil, tTup, tLst, tCut, rI0, rI, rU, rEq, rNe, rIxM, rSetL, scal_ii, scal_ss, scal_bb, scal_nn, scal_is, scal_si, scal_sn, scal_ns, flat_i, flat_s, flat_b, flat_n, List.all_cons, List.all_nil, Bool.and_true, Bool.true_and, true_and, and_true, ex_get, ex_int, ex_str, ex_bl, ex_ref, ex_int2, ex_str2, ex_ri, dec_true, at0, at1, at2, at3, at4, at5, at6, at7, List.getElem?_cons_zero, List.getElem?_cons_succ, List.set_cons_zero, List.set_cons_succ, List.length_cons, List.length_nil, Nat.reduceAdd, le_line, Nat.reduceLeDiff, upd_same, Bool.false_eq_true, if_false, if_true, ite_true, ite_false, List.cons_append, List.nil_append, List.append_nil, rSetM, ix30, ix31, ix32, upd_upd, ex_some, seqAt, tEv, tEvT, evVar, evC, ev2, ev1, evAnd, evOr, evIx, evCons, evNil, evCall, evLen, lenAt, fI_ii, kLt, kLe, kGt, kGe, kAdd, kSub, fEq, fNe, fMod_lit, fIn_s, fIn_i, fAnd_bb, fOr_bb, fNot_b, fIsN_n, fNotN_n, ex_sbl, ex_cons, Int.reduceLT, spP, decide_true, decide_false, Bool.not_true, Bool.not_false, Bool.and_false, Bool.false_and, Bool.or_true, Bool.true_or, Bool.or_false, Bool.false_or, reduceCtorEq, false_and, and_false, fDiv_lit, fNeg_i, Int.reduceNeg]
          by_cases hab : c.2.1 < c.1
          · rw [if_pos hab]
            have okn : cutOk rows.length m (c.1, c.2.1 + 1, c.2.2) := ⟨b0, b1, (by show 0 ≤ c.2.1 + 1; omega), (by show c.2.1 + 1 ≤ c.1; omega), w0, w1⟩
            refine ⟨as, rows, m, tr ++ [tu], rs ++ [(c.1, c.2.1 + 1, c.2.2)], hT.same sH9, o0, o1, hla, (hCr.same sH9).snoc htu, (by simp; omega), (fun d hd => (List.mem_append.mp hd).elim (hrok d) (fun h => by rw [List.mem_singleton.mp h]; exact okn)), fun H10 s10 => ?_⟩
            refine ⟨shV rows overs (rs ++ [(c.1, c.2.1 + 1, c.2.2)]), sv, rfl, rfl, ?_⟩
            have hup := cell_up hm hO (a := c.2.1) (b := c.2.1 + 1) (j := c.2.2) a0 (by omega) (by omega) w0 w1
            have hlo : lossI rows (c.1, c.2.1 + 1, c.2.2) ≤ lossI rows c := by show cellI rows c.1 c.2.2 - cellI rows (c.2.1 + 1) c.2.2 ≤ cellI rows c.1 c.2.2 - cellI rows c.2.1 c.2.2; omega
            rw [if_neg (by rw [← hsvd]; exact Int.not_lt.mpr (shV_mono (by rw [lossS_app, lossS_one]; omega)))]
            exact s10
          · rw [if_neg hab]
            exact Same.refl _
        rintro σ' HX ⟨rfl, sX⟩
        have sHX : Same H HX := sH9.trans sX
        have hr3X : HX r3 = some (.lst (tr.map V.ref)) := sX _ _ (s9 _ _ hr3)
        refine ⟨_, rfl, .int (c.1 + 1), (by simp only [tSeq, tNext, tIfS, tRet, tRetN, tDrop, tAsg, gName, gTup, gCons, gNil, gSub, tTest, tOp, tUn, tVar, tC, tB, tInC, tAnd, tOr, tNot, tAndV, tOrV, tNotV, tIf, tCall, tCons, tNil, tTup, tLst, tCut, rI0, rI, rU, rEq, rNe, rIxM, rSetL, scal_ii, scal_ss, scal_bb, scal_nn, scal_is, scal_si, scal_sn, scal_ns, flat_i, flat_s, flat_b, flat_n, List.all_cons, List.all_nil, Bool.and_true, Bool.true_and, true_and, and_true, ex_get, ex_int, ex_str, ex_bl, ex_ref, ex_int2, ex_str2, ex_ri, dec_true, at0, at1, at2, at3, at4, at5, at6, at7, List.getElem?_cons_zero, List.getElem?_cons_succ, List.set_cons_zero, List.set_cons_succ, List.length_cons, List.length_nil, Nat.reduceAdd, le_line, Nat.reduceLeDiff, upd_same, Bool.false_eq_true, if_false, if_true, ite_true, ite_false, List.cons_append, List.nil_append, List.append_nil, rSetM, ix30, ix31, ix32, upd_upd, ex_some, seqAt, tEv, tEvT, evVar, evC, ev2, ev1, evAnd, evOr, evIx, evCons, evNil, evCall, evLen, lenAt, fI_ii, kLt, kLe, kGt, kGe, kAdd, kSub, fEq, fNe, fMod_lit, fIn_s, fIn_i, fAnd_bb, fOr_bb, fNot_b, fIsN_n, fNotN_n, ex_sbl, ex_cons, Int.reduceLT, spP, decide_true, decide_false, Bool.not_true, Bool.not_false, Bool.and_false, Bool.false_and, Bool.or_true, Bool.true_or, Bool.or_false, Bool.false_or, reduceCtorEq, false_and, and_false, fDiv_lit, fNeg_i, Int.reduceNeg]), _, rfl, _, rfl, (by show 3 ≤ sizeLine; decide), fun tu ntu => ⟨(by show 1 ≤ sizeLine; decide), fun lo nlo => ⟨r3, lo, _, _, rfl, rfl, upd_old nlo (upd_old ntu hr3X), upd_same, (by have := hCr.1; rw [List.length_map]; exact Nat.le_of_lt (small1000 (by simp; omega))), fun la nla => ?_⟩⟩⟩
        rw [show tr.map V.ref ++ [V.ref tu] = (tr ++ [tu]).map V.ref by rw [List.map_append]; rfl]
        have sY : Same HX (upd (upd (upd HX tu (.tup [.int (c.1 + 1), .int c.2.1, .int c.2.2])) lo (.lst [.ref tu])) la (.lst ((tr ++ [tu]).map V.ref))) := fun b u e => upd_old nla (upd_old nlo (upd_old ntu e))
        have hlb : upd (upd (upd HX tu (.tup [.int (c.1 + 1), .int c.2.1, .int c.2.2])) lo (.lst [.ref tu])) la (.lst ((tr ++ [tu]).map V.ref)) la = some (.lst ((tr ++ [tu]).map V.ref)) := upd_same
        have htv : upd (upd (upd HX tu (.tup [.int (c.1 + 1), .int c.2.1, .int c.2.2])) lo (.lst [.ref tu])) la (.lst ((tr ++ [tu]).map V.ref)) tu = some (.tup [.int (c.1 + 1), .int c.2.1, .int c.2.2]) := upd_old nla (upd_old nlo upd_same)
        generalize upd (upd (upd HX tu (.tup [.int (c.1 + 1), .int c.2.1, .int c.2.2])) lo (.lst [.ref tu])) la (.lst ((tr ++ [tu]).map V.ref)) = HY at sY hlb htv ⊢
        have sHY : Same H HY := sHX.trans sY
        have htY := sHY _ _ hT.ht
        have hal := hT.hr.1
        simp only [tSeq, tNext, tIfS, tRet, tRetN, tDrop, tAsg, gName, gTup, gCons, gNil, gSub, tTest, tOp, tUn, tVar, tC, tB, tInC, tAnd, tOr, tNot, tAndV, tOrV, tNotV, tIf, tCall, tCons, tNil, tTup, tLst, tCut, rI0, rI, rU, rEq, rNe, rIxM, rSetL, scal_ii, scal_ss, scal_bb, scal_nn, scal_is, scal_si, scal_sn, scal_ns, flat_i, flat_s, flat_b, flat_n, List.all_cons, List.all_nil, Bool.and_true, Bool.true_and, true_and, and_true, ex_get, ex_int, ex_str, ex_bl, ex_ref, ex_int2, ex_str2, ex_ri, dec_true, at0, at1, at2, at3, at4, at5, at6, at7, List.getElem?_cons_zero, List.getElem?_cons_succ, List.set_cons_zero, List.set_cons_succ, List.length_cons, List.length_nil, Nat.reduceAdd, le_line, Nat.reduceLeDiff, upd_same, Bool.false_eq_true, if_false, if_true, ite_true, ite_false, List.cons_append, List.nil_append, List.append_nil, rSetM, ix30, ix31, ix32, upd_upd, ex_some, seqAt, tEv, tEvT, evVar, evC, ev2, ev1, evAnd, evOr, evIx, evCons, evNil, evCall, evLen, lenAt, fI_ii, kLt, kLe, kGt, kGe, kAdd, kSub, fEq, fNe, fMod_lit, fIn_s, fIn_i, fAnd_bb, fOr_bb, fNot_b, fIsN_n, fNotN_n, ex_sbl, ex_cons, Int.reduceLT, spP, decide_true, decide_false, Bool.not_true, Bool.not_false, Bool.and_false, Bool.false_and, Bool.or_true, Bool.true_or, Bool.or_false, Bool.false_or, reduceCtorEq, false_and, and_false, fDiv_lit, fNeg_i, Int.reduceNeg, htY, List.length_map, hal]
        by_cases hab : c.1 + 1 < (rows.length : Int)
        · rw [if_pos hab]
          have okn : cutOk rows.length m (c.1 + 1, c.2.1, c.2.2) := ⟨(by show 0 ≤ c.1 + 1; omega), hab, a0, (by show c.2.1 ≤ c.1 + 1; omega), w0, w1⟩
          refine ⟨as, rows, m, tr ++ [tu], rs ++ [(c.1 + 1, c.2.1, c.2.2)], hT.same sHY, o0, o1, hlb, (hCr.same sHY).snoc htv, (by simp; omega), (fun d hd => (List.mem_append.mp hd).elim (hrok d) (fun h => by rw [List.mem_singleton.mp h]; exact okn)), fun H10 s10 => ?_⟩
          refine ⟨shV rows overs (rs ++ [(c.1 + 1, c.2.1, c.2.2)]), sv, rfl, rfl, ?_⟩
          have hup := cell_up hm hO (a := c.1) (b := c.1 + 1) (j := c.2.2) b0 (by omega) hab w0 w1
          have hlo : lossI rows c ≤ lossI rows (c.1 + 1, c.2.1, c.2.2) := by show cellI rows c.1 c.2.2 - cellI rows c.2.1 c.2.2 ≤ cellI rows (c.1 + 1) c.2.2 - cellI rows c.2.1 c.2.2; omega
          rw [if_neg (by rw [← hsvd]; exact Int.not_lt.mpr (shV_mono (by rw [lossS_app, lossS_one]; omega)))]
          exact ⟨⟨_, _, _, _, _, _, _, _, rfl⟩, sHY.trans s10⟩
        · rw [if_neg hab]
          exact ⟨⟨_, _, _, _, _, _, _, _, rfl⟩, sHY⟩
      · rintro σ H4 ⟨_, s4⟩
        exact q _ s4
    · exact h.elim
end
end My

set_option Elab.async false
set_option linter.all false
set_option maxRecDepth 100000
set_option maxHeartbeats 4000000
namespace My
open PySem L2
def spAims : Sp := fun vs H Q _ => match vs with
  | [.ref t, .int first, .int had, .int usual] => ∃ as rows m, TableAt H t as rows m ∧ TabOk rows m ∧ 0 ≤ first ∧ first < 10000 ∧ 1 ≤ had ∧ had ≤ 1000 ∧ 0 ≤ usual ∧ usual < 10000 ∧ ∀ H', Same H H' → Q (.bl true) H'
  | _ => False
theorem any_false (n : Nat) : (List.replicate n false).any id = false := by
  rw [List.any_eq_false]
  intro b hb
  rw [(List.mem_replicate.mp hb).2]
  simp
theorem getN_map {f : Int → Int} {l : List Int} {k : Nat} (h : k < l.length) : getN (l.map f) k = f (getN l k) := by
  unfold getN
  rw [List.getElem?_map, List.getElem?_eq_getElem h]
  rfl
theorem cN_row {rows : List (List Int)} {i j : Nat} (hi : i < rows.length) : cN rows i j = getN rows[i] j := by
  unfold cN
  rw [List.getElem?_eq_getElem hi]
  rfl
section
variable {P : Program} {w : World} {K : PySem.W.Frag} {mg : Str → Option Value} {base : Heap} {e : Ext}
theorem sc_aims : FnScope ["_law_table_here", "_law_first", "_law_had", "_law_usual", "_law_k", "_law_row", "_law_aims_here", "_law_ahead"] ["_law_table_here", "_law_first", "_law_had", "_law_usual"] (defScope s_aims) := ⟨rfl, rfl, rfl, by decide +kernel, rfl, by decide +kernel, by decide +kernel⟩
theorem ok_aims {f f_aim : Addr} {fd fd_aim : FuncData} (F : Fun K "_law_aims" "_law_aims" s_aims f fd) (T : Txt K mg e)
    (D_aim : Def K mg "aim" s_aim ["first", "had", "has", "usual"] f_aim fd_aim) : FnOk P w K mg base CX0 2 f fd ["_law_table_here", "_law_first", "_law_had", "_law_usual"] spAims := by
  have G_aim : FnOk P w K mg base CX0 1 f_aim fd_aim ["first", "had", "has", "usual"] spAim := ok_aim D_aim.F T
  refine F.ok sc_aims (fun vs H Q E h => ?_) (fun cdv A outer s H vs Q E hr h => ?_)
  · unfold spAims at h
    split at h
    · rfl
    · exact h.elim
  · unfold spAims at h
    split at h
    · rename_i t first had usual
      obtain ⟨as, rows, m, hT, hO, f0, f1, d0, d1, u0, u1, q⟩ := h
      have hr_aim := hr.mono (by decide : 1 ≤ 1)
      have m1 := hT.m1
      have m2 := hT.m2
      have l2 := hT.l2
      have hal := hT.hr.1
      have rowIn : ∀ {i : Nat}, (hi : i < rows.length) → ∀ x ∈ rows[i], 0 ≤ x ∧ x ≤ 1000 := fun {i} hi x hx => by
        obtain ⟨j, hj, ej⟩ := List.mem_iff_getElem.mp hx
        have hm := hT.hm _ (List.getElem_mem hi)
        have := (hO i j hi (by omega)).1
        unfold cN getN at this
        rw [List.getElem?_eq_getElem hi, Option.getD_some, List.getElem?_eq_getElem hj, Option.getD_some, ej] at this
        exact this
      refine ⟨_, (pss_cons (ps_for PassesOwn.never rfl (pi_enum rfl T.n_enumerate (pa_cons (pv 0) pa_nil)) (pg_tup rfl (pgs_cons (pg_name (i := 4) sc_aims.nd rfl (Or.inl rfl)) (pgs_cons (pg_name (i := 5) sc_aims.nd rfl (Or.inl rfl)) pgs_nil)))
        (pss_cons (ps_set (i := 6) sc_aims.nd rfl (Or.inr rfl) (pe_comp (F := ["_law_first", "_law_had", "_law_usual"]) (T := ["_law_share"]) (fr := [1, 2, 3]) ⟨rfl, by decide +kernel, by decide +kernel, (by show ∀ y ∈ (_ : List (Str × NameKind)), y.2 = NameKind.free → (defScope s_aims).names.lookup y.1 = some NameKind.cell; decide +kernel), by decide +kernel, rfl⟩ rfl (pi_list (pv 5)) (fun _ _ _ _ _ => (pg_name (i := 3) (show (["_law_first", "_law_had", "_law_usual", "_law_share"] : List Str).Nodup by decide +kernel) rfl (Or.inl rfl))) (fun _ _ _ _ _ => pif_nil) (fun _ _ _ _ _ => (pe_call G_aim hr_aim rfl D_aim.m D_aim.F.kp D_aim.b .nil pass0 (pa_cons (pv 0) (pa_cons (pv 1) (pa_cons (pv 3) (pa_cons (pv 2) pa_nil))))))))
        (pss_cut (ps_if (pt_val (pe_callB (call_any rfl) rfl T.n_any PyProof.Rows.boot_any (pa_cons (pe_comp (F := ["_law_aims_here"]) (T := ["_law_j"]) (fr := [6]) ⟨rfl, by decide +kernel, by decide +kernel, (by show ∀ y ∈ (_ : List (Str × NameKind)), y.2 = NameKind.free → (defScope s_aims).names.lookup y.1 = some NameKind.cell; decide +kernel), by decide +kernel, rfl⟩ rfl (pi_range1 rfl T.n_range (pa_cons (pe_pp (pp_sub (pp_len rfl T.n_len PySem.boot_len (ppa_cons (pp_var 6) ppa_nil)) (pp_c pe_int))) pa_nil)) (fun _ _ _ _ _ => (pg_name (i := 1) (show (["_law_aims_here", "_law_j"] : List Str).Nodup by decide +kernel) rfl (Or.inl rfl))) (fun _ _ _ _ _ => pif_nil) (fun _ _ _ _ _ => (pe_cmpR op_lt (pe_ix ix_listC (pv 0) (pv 1) (fun _ _ => rfl)) (pe_ix ix_listC (pv 0) (pe_op op_add (pv 1) pe_int) (fun _ _ => rfl)) (nomark _)))) pa_nil)))
          (pss_one (ps_ret pe_bl))
          pss_nil)
        (pss_one (ps_if (pt_pp (ptp_gt (pp_var 4) (pp_c pe_int)))
          (pss_cons (ps_set (i := 7) sc_aims.nd rfl (Or.inr rfl) (pe_comp (F := ["_law_first", "_law_had", "_law_usual"]) (T := ["_law_share"]) (fr := [1, 2, 3]) ⟨rfl, by decide +kernel, by decide +kernel, (by show ∀ y ∈ (_ : List (Str × NameKind)), y.2 = NameKind.free → (defScope s_aims).names.lookup y.1 = some NameKind.cell; decide +kernel), by decide +kernel, rfl⟩ rfl (pi_list (pe_pp (pp_ix (pp_var 0) (pp_sub (pp_var 4) (pp_c pe_int)) (fun _ _ => rfl)))) (fun _ _ _ _ _ => (pg_name (i := 3) (show (["_law_first", "_law_had", "_law_usual", "_law_share"] : List Str).Nodup by decide +kernel) rfl (Or.inl rfl))) (fun _ _ _ _ _ => pif_nil) (fun _ _ _ _ _ => (pe_call G_aim hr_aim rfl D_aim.m D_aim.F.kp D_aim.b .nil pass0 (pa_cons (pv 0) (pa_cons (pv 1) (pa_cons (pv 3) (pa_cons (pv 2) pa_nil))))))))
          (pss_one (ps_if (pt_val (pe_callB (call_any rfl) rfl T.n_any PyProof.Rows.boot_any (pa_cons (pe_comp (F := ["_law_ahead", "_law_aims_here"]) (T := ["_law_j"]) (fr := [7, 6]) ⟨rfl, by decide +kernel, by decide +kernel, (by show ∀ y ∈ (_ : List (Str × NameKind)), y.2 = NameKind.free → (defScope s_aims).names.lookup y.1 = some NameKind.cell; decide +kernel), by decide +kernel, rfl⟩ rfl (pi_range1 rfl T.n_range (pa_cons (pe_pp (pp_len rfl T.n_len PySem.boot_len (ppa_cons (pp_var 6) ppa_nil))) pa_nil)) (fun _ _ _ _ _ => (pg_name (i := 2) (show (["_law_ahead", "_law_aims_here", "_law_j"] : List Str).Nodup by decide +kernel) rfl (Or.inl rfl))) (fun _ _ _ _ _ => pif_nil) (fun _ _ _ _ _ => (pe_cmpR op_gt (pe_ix ix_listC (pv 0) (pv 2) (fun _ _ => rfl)) (pe_ix ix_listC (pv 1) (pv 2) (fun _ _ => rfl)) (nomark _)))) pa_nil)))
            (pss_one (ps_ret pe_bl))
            pss_nil)))
          pss_nil)))))
      (pss_one (ps_ret pe_bl))), ?_⟩
      change (_ : Ends → St → Hp → Prop) _ [some (.ref t), some (.int first), some (.int had), some (.int usual), none, none, none, none] H
      refine ⟨_, rfl, t, _, rfl, SqL.of hT.ht, ?_⟩
      refine for_enum (κ := false) (xs := as.map V.ref) (fun i σ H' => (∃ x4 x5 x6 x7, σ = [some (.ref t), some (.int first), some (.int had), some (.int usual), x4, x5, x6, x7]) ∧ Same H H') ⟨⟨_, _, _, _, rfl⟩, Same.refl _⟩ (fun i σ H' _ q => SqL.of (q.2 _ _ hT.ht)) ?_ ?_
      · rintro i x σ H1 T1 hx ⟨⟨x4, x5, x6, x7, rfl⟩, s1⟩ nT
        obtain ⟨ar, ea, rfl⟩ := ref_at hx
        have hi : i < rows.length := by rw [← hal]; exact (List.getElem?_eq_some_iff.mp ea).1
        obtain ⟨ar', ea', har⟩ := hT.hr.ix hi
        rw [ea] at ea'
        cases (Option.some.inj ea')
        have s2 : Same H (upd H1 T1 (.tup [.int ((0 + i : Nat) : Int), .ref ar])) := s1.trans fun b u e => upd_old nT e
        refine ⟨T1, _, rfl, SqT.of upd_same, rfl, _, _, rfl, _, _, rfl, rfl, ?_⟩
        generalize upd H1 T1 (.tup [.int ((0 + i : Nat) : Int), .ref ar]) = H2 at s2 ⊢
        rw [Nat.zero_add]
        have har2 : H2 ar = some (.lst ((rows[i]).map V.int)) := s2 _ _ har
        have hml := hT.hm _ (List.getElem_mem hi)
        have comp : ∀ {r : List Int} {a : Addr} {H0 : Hp} {D : Addr} {QD : Hp → Prop} {g : TG} {te : TE}, r.length = m → (∀ x ∈ r, 0 ≤ x ∧ x ≤ 1000) → H0 a = some (.lst (r.map V.int)) → H0 D = none →
            (∀ y σ H' Q', g y σ H' Q' = gName 3 y σ H' Q') → (∀ σ H' Q', te σ H' Q' = tCall spAim [] E0 (tCons (tVar 0) (tCons (tVar 1) (tCons (tVar 3) (tCons (tVar 2) tNil)))) σ H' Q') →
            (∀ H', H' D = some (.lst ((r.map fun x => aimI first had x usual).map V.int)) → Same H0 H' → QD H') → 
            ∃ W : Nat → Nat → St → List V → Hp → Prop, (∃ m, W 0 m [some (.int first), some (.int had), some (.int usual), none] [] (upd H0 D (.lst []))) ∧ ∀ i m σ' xs H', W i m σ' xs H' → H' D = some (.lst xs) ∧
              (((Itl K a).stop i H' ∧ QD H') ∨ ((Itl K a).go i H' ∧ ∃ N : St → List V → Hp → Prop, (∀ σ2 ys H2, N σ2 ys H2 → ∃ m', m' < m ∧ W (i + 1) m' σ2 ys H2) ∧ ∀ x H2, (Itl K a).yld i H' x H2 → g x σ' H2 fun σ2 H3 => tTrue σ2 H3 fun b H4 =>
              if b = true then te σ2 H4 fun v H5 => H5 D = some (.lst xs) ∧ xs.length < sizeLine ∧ N σ2 (xs ++ [v]) (upd H5 D (.lst (xs ++ [v]))) else N σ2 xs H4)) := by
          intro r a H0 D QD g te hrl hrin hra nD hg hte hq
          refine comp_listH (K := K) (a := a) (ys := r.map V.int) (fun j σ zs H' => (∃ x, σ = [some (.int first), some (.int had), some (.int usual), x]) ∧ H' D = some (.lst zs) ∧ zs = ((r.take j).map fun x => aimI first had x usual).map V.int ∧ j ≤ r.length ∧ Same H0 H') ?_ (fun j σ zs H' q => q.2.1) (fun j σ zs H' q => SqL.of (q.2.2.2.2 _ _ hra)) ?_ ?_
          · exact ⟨⟨none, rfl⟩, upd_same, rfl, Nat.zero_le _, fun b u e => upd_old nD e⟩
          · rintro j y σ zs H4 hy ⟨⟨x, rfl⟩, hD, hz, hj, s4⟩
            rw [hg]
            rw [List.getElem?_map] at hy
            have hjl : j < r.length := by
              cases e : r[j]? with
              | none => rw [e] at hy; cases hy
              | some z => exact (List.getElem?_eq_some_iff.mp e).1
            rw [List.getElem?_eq_getElem hjl] at hy
            cases (Option.some.inj hy)
            obtain ⟨z0, z1⟩ := hrin _ (List.getElem_mem hjl)
            show te _ _ _
            rw [hte]
            refine ⟨_, rfl, _, rfl, _, rfl, _, rfl, f0, f1, d0, d1, z0, z1, u0, u1, ?_⟩
            refine ⟨hD, small1000 (by rw [hz]; simp; omega), ⟨_, rfl⟩, upd_same, ?_, hjl, fun c o ec => ?_⟩
            · rw [hz, List.take_add_one, List.getElem?_eq_getElem hjl, List.map_append, List.map_append]
              rfl
            · rw [upd_ne (ne_of_none ec nD)]
              exact s4 c o ec
          · rintro σ zs H5 ⟨_, hD, hz, _, s5⟩
            rw [List.length_map, List.take_length] at hz
            exact hq H5 (by rw [hD, hz]) s5
        refine ⟨_, rfl, ar, rfl, ⟨_, SqL.of har2⟩, fun D nD => ?_⟩
        refine comp hml (rowIn hi) har2 nD (fun _ _ _ _ => rfl) (fun _ _ _ => rfl) (fun H3 hD3 s3 => ?_)
        have sH3 : Same H H3 := s2.trans s3
        have hARl : ((rows[i]).map fun x => aimI first had x usual).length = m := by rw [List.length_map]; exact hml
        have hARn : ∀ j, j < m → getN ((rows[i]).map fun x => aimI first had x usual) j = aimI first had (cN rows i j) usual := fun j hj => by rw [getN_map (by omega), cN_row hi]
        generalize (rows[i]).map (fun x => aimI first had x usual) = AR at hD3 hARl hARn
        refine ⟨fun σ' H' => σ' = [some (.ref t), some (.int first), some (.int had), some (.int usual), some (.int (i : Int)), some (.ref ar), some (.ref D), x7] ∧ Same H3 H', ?_, ?_⟩
        · refine ⟨.int ((m : Int) - 1), (by simp only [tSeq, tNext, tIfS, tRet, tRetN, tDrop, tAsg, gName, gTup, gCons, gNil, gSub, tTest, tOp, tUn, tVar, tC, tB, tInC, tAnd, tOr, tNot, tAndV, tOrV, tNotV, tIf, tCall, tCons, tNil, tTup, tLst, tCut, rI0, rI, rU, rEq, rNe, rIxM, rSetL, scal_ii, scal_ss, scal_bb, scal_nn, scal_is, scal_si, scal_sn, scal_ns, flat_i, flat_s, flat_b, flat_n, List.all_cons, List.all_nil, Bool.and_true, Bool.true_and, true_and, and_true, ex_get, ex_int, ex_str, ex_bl, ex_ref, ex_int2, ex_str2, ex_ri, dec_true, at0, at1, at2, at3, at4, at5, at6, at7, List.getElem?_cons_zero, List.getElem?_cons_succ, List.set_cons_zero, List.set_cons_succ, List.length_cons, List.length_nil, Nat.reduceAdd, le_line, Nat.reduceLeDiff, upd_same, Bool.false_eq_true, if_false, if_true, ite_true, ite_false, List.cons_append, List.nil_append, List.append_nil, rSetM, ix30, ix31, ix32, upd_upd, ex_some, seqAt, tEv, tEvT, evVar, evC, ev2, ev1, evAnd, evOr, evIx, evCons, evNil, evCall, evLen, lenAt, fI_ii, kLt, kLe, kGt, kGe, kAdd, kSub, fEq, fNe, fMod_lit, fIn_s, fIn_i, fAnd_bb, fOr_bb, fNot_b, fIsN_n, fNotN_n, ex_sbl, ex_cons, Int.reduceLT, spP, decide_true, decide_false, Bool.not_true, Bool.not_false, Bool.and_false, Bool.false_and, Bool.or_true, Bool.true_or, Bool.or_false, Bool.false_or, reduceCtorEq, false_and, and_false, fDiv_lit, fNeg_i, Int.reduceNeg, hD3, List.length_map, hARl]), (m : Int) - 1, rfl, by omega, by omega, fun D2 nD2 => ?_⟩
          refine comp_rangeH (lo := 0) (n := ((m : Int) - 1).toNat) (fun j σ zs H' => (∃ x, σ = [some (.ref D), x]) ∧ H' D2 = some (.lst zs) ∧ zs = (List.replicate j false).map V.bl ∧ j ≤ m ∧ Same H3 H') ?_ (fun j σ zs H' q => q.2.1) ?_ ?_
          · exact ⟨⟨none, rfl⟩, upd_same, rfl, Nat.zero_le _, fun b u e => upd_old nD2 e⟩
          · rintro j σ zs H4 hj ⟨⟨x, rfl⟩, hD4, hz, hj2, s4⟩
            have hjm : j + 1 < m := by omega
            rw [Int.zero_add]
            refine ⟨_, rfl, _, rfl, D, _, _, _, rfl, rfl, SqL.of (s4 _ _ hD3), atI_getN (k := j) (by omega), _, rfl, _, rfl, _, _, rfl, rfl, D, _, ((j + 1 : Nat) : Int), _, rfl, rfl, SqL.of (s4 _ _ hD3), atI_getN (k := j + 1) (by omega), _, _, rfl, rfl, ?_⟩
            have hle : ¬ getN AR j < getN AR (j + 1) := by
              rw [hARn j (by omega), hARn (j + 1) hjm]
              exact Int.not_lt.mpr (aimI_mono (by omega) f0 u0 ((hO i j hi (by omega)).2.1 hjm))
            refine ⟨hD4, small1000 (by rw [hz]; simp; omega), ⟨_, rfl⟩, upd_same, ?_, by omega, fun c o ec => ?_⟩
            · rw [hz, List.replicate_succ', List.map_append]
              show _ ++ [V.bl (decide (getN AR j < getN AR (j + 1)))] = _
              rw [decide_eq_false hle]
              rfl
            · rw [upd_ne (ne_of_none ec nD2)]
              exact s4 c o ec
          rintro σ zs H4 ⟨_, hD4, hz, _, s4⟩
          refine ⟨D2, _, rfl, by rw [hD4, hz], _, rfl, ?_⟩
          rw [any_false]
          exact iteF ⟨rfl, s4⟩
        rintro σ' H4 ⟨rfl, s4⟩
        have sH4 : Same H H4 := sH3.trans s4
        have hD4 := s4 _ _ hD3
        have fin : ∀ {x7 : Option V} {H' : Hp}, Same H4 H' → (∃ x4 x5 x6 x7', [some (V.ref t), some (.int first), some (.int had), some (.int usual), some (.int (i : Int)), some (.ref ar), some (.ref D), x7] = [some (V.ref t), some (.int first), some (.int had), some (.int usual), x4, x5, x6, x7']) ∧ Same H H' := fun s => ⟨⟨_, _, _, _, rfl⟩, sH4.trans s⟩
        refine ⟨decide (0 < (i : Int)), (by simp only [tSeq, tNext, tIfS, tRet, tRetN, tDrop, tAsg, gName, gTup, gCons, gNil, gSub, tTest, tOp, tUn, tVar, tC, tB, tInC, tAnd, tOr, tNot, tAndV, tOrV, tNotV, tIf, tCall, tCons, tNil, tTup, tLst, tCut, rI0, rI, rU, rEq, rNe, rIxM, rSetL, scal_ii, scal_ss, scal_bb, scal_nn, scal_is, scal_si, scal_sn, scal_ns, flat_i, flat_s, flat_b, flat_n, List.all_cons, List.all_nil, Bool.and_true, Bool.true_and, true_and, and_true, ex_get, ex_int, ex_str, ex_bl, ex_ref, ex_int2, ex_str2, ex_ri, dec_true, at0, at1, at2, at3, at4, at5, at6, at7, List.getElem?_cons_zero, List.getElem?_cons_succ, List.set_cons_zero, List.set_cons_succ, List.length_cons, List.length_nil, Nat.reduceAdd, le_line, Nat.reduceLeDiff, upd_same, Bool.false_eq_true, if_false, if_true, ite_true, ite_false, List.cons_append, List.nil_append, List.append_nil, rSetM, ix30, ix31, ix32, upd_upd, ex_some, seqAt, tEv, tEvT, evVar, evC, ev2, ev1, evAnd, evOr, evIx, evCons, evNil, evCall, evLen, lenAt, fI_ii, kLt, kLe, kGt, kGe, kAdd, kSub, fEq, fNe, fMod_lit, fIn_s, fIn_i, fAnd_bb, fOr_bb, fNot_b, fIsN_n, fNotN_n, ex_sbl, ex_cons, Int.reduceLT, spP, decide_true, decide_false, Bool.not_true, Bool.not_false, Bool.and_false, Bool.false_and, Bool.or_true, Bool.true_or, Bool.or_false, Bool.false_or, reduceCtorEq, false_and, and_false, fDiv_lit, fNeg_i, Int.reduceNeg]), ite2 (fun hpos => ?_) (fun _ => fin (Same.refl _))⟩
        have hpos := of_decide_eq_true hpos
        have hi1 : i - 1 < rows.length := by omega
        obtain ⟨ap, eap, hap⟩ := hT.hr.ix hi1
        have hap4 : H4 ap = some (.lst ((rows[i - 1]).map V.int)) := sH4 _ _ hap
        have ht4 := sH4 _ _ hT.ht
        have eix : atI (as.map V.ref) ((i : Int) - 1) = some (.ref ap) := by
          rw [show (i : Int) - 1 = ((i - 1 : Nat) : Int) by omega]
          exact atI_nat (by rw [List.getElem?_map, eap]; rfl)
        refine ⟨.ref ap, (by simp only [tSeq, tNext, tIfS, tRet, tRetN, tDrop, tAsg, gName, gTup, gCons, gNil, gSub, tTest, tOp, tUn, tVar, tC, tB, tInC, tAnd, tOr, tNot, tAndV, tOrV, tNotV, tIf, tCall, tCons, tNil, tTup, tLst, tCut, rI0, rI, rU, rEq, rNe, rIxM, rSetL, scal_ii, scal_ss, scal_bb, scal_nn, scal_is, scal_si, scal_sn, scal_ns, flat_i, flat_s, flat_b, flat_n, List.all_cons, List.all_nil, Bool.and_true, Bool.true_and, true_and, and_true, ex_get, ex_int, ex_str, ex_bl, ex_ref, ex_int2, ex_str2, ex_ri, dec_true, at0, at1, at2, at3, at4, at5, at6, at7, List.getElem?_cons_zero, List.getElem?_cons_succ, List.set_cons_zero, List.set_cons_succ, List.length_cons, List.length_nil, Nat.reduceAdd, le_line, Nat.reduceLeDiff, upd_same, Bool.false_eq_true, if_false, if_true, ite_true, ite_false, List.cons_append, List.nil_append, List.append_nil, rSetM, ix30, ix31, ix32, upd_upd, ex_some, seqAt, tEv, tEvT, evVar, evC, ev2, ev1, evAnd, evOr, evIx, evCons, evNil, evCall, evLen, lenAt, fI_ii, kLt, kLe, kGt, kGe, kAdd, kSub, fEq, fNe, fMod_lit, fIn_s, fIn_i, fAnd_bb, fOr_bb, fNot_b, fIsN_n, fNotN_n, ex_sbl, ex_cons, Int.reduceLT, spP, decide_true, decide_false, Bool.not_true, Bool.not_false, Bool.and_false, Bool.false_and, Bool.or_true, Bool.true_or, Bool.or_false, Bool.false_or, reduceCtorEq, false_and, and_false, fDiv_lit, fNeg_i, Int.reduceNeg, ht4, eix]), ap, rfl, ⟨_, SqL.of hap4⟩, fun D5 nD5 => ?_⟩
        have hml1 := hT.hm _ (List.getElem_mem hi1)
        refine comp hml1 (rowIn hi1) hap4 nD5 (fun _ _ _ _ => rfl) (fun _ _ _ => rfl) (fun H5 hD5 s5 => ?_)
        have hBRl : ((rows[i - 1]).map fun x => aimI first had x usual).length = m := by rw [List.length_map]; exact hml1
        have hBRn : ∀ j, j < m → getN ((rows[i - 1]).map fun x => aimI first had x usual) j = aimI first had (cN rows (i - 1) j) usual := fun j hj => by rw [getN_map (by omega), cN_row hi1]
        generalize (rows[i - 1]).map (fun x => aimI first had x usual) = BR at hD5 hBRl hBRn
        have hA5 := s5 _ _ hD4
        refine ⟨.int (m : Int), (by simp only [tSeq, tNext, tIfS, tRet, tRetN, tDrop, tAsg, gName, gTup, gCons, gNil, gSub, tTest, tOp, tUn, tVar, tC, tB, tInC, tAnd, tOr, tNot, tAndV, tOrV, tNotV, tIf, tCall, tCons, tNil, tTup, tLst, tCut, rI0, rI, rU, rEq, rNe, rIxM, rSetL, scal_ii, scal_ss, scal_bb, scal_nn, scal_is, scal_si, scal_sn, scal_ns, flat_i, flat_s, flat_b, flat_n, List.all_cons, List.all_nil, Bool.and_true, Bool.true_and, true_and, and_true, ex_get, ex_int, ex_str, ex_bl, ex_ref, ex_int2, ex_str2, ex_ri, dec_true, at0, at1, at2, at3, at4, at5, at6, at7, List.getElem?_cons_zero, List.getElem?_cons_succ, List.set_cons_zero, List.set_cons_succ, List.length_cons, List.length_nil, Nat.reduceAdd, le_line, Nat.reduceLeDiff, upd_same, Bool.false_eq_true, if_false, if_true, ite_true, ite_false, List.cons_append, List.nil_append, List.append_nil, rSetM, ix30, ix31, ix32, upd_upd, ex_some, seqAt, tEv, tEvT, evVar, evC, ev2, ev1, evAnd, evOr, evIx, evCons, evNil, evCall, evLen, lenAt, fI_ii, kLt, kLe, kGt, kGe, kAdd, kSub, fEq, fNe, fMod_lit, fIn_s, fIn_i, fAnd_bb, fOr_bb, fNot_b, fIsN_n, fNotN_n, ex_sbl, ex_cons, Int.reduceLT, spP, decide_true, decide_false, Bool.not_true, Bool.not_false, Bool.and_false, Bool.false_and, Bool.or_true, Bool.true_or, Bool.or_false, Bool.false_or, reduceCtorEq, false_and, and_false, fDiv_lit, fNeg_i, Int.reduceNeg, hA5, List.length_map, hARl]), (m : Int), rfl, by omega, by omega, fun D6 nD6 => ?_⟩
        refine comp_rangeH (lo := 0) (n := (m : Int).toNat) (fun j σ zs H' => (∃ x, σ = [some (.ref D5), some (.ref D), x]) ∧ H' D6 = some (.lst zs) ∧ zs = (List.replicate j false).map V.bl ∧ j ≤ m ∧ Same H5 H') ?_ (fun j σ zs H' q => q.2.1) ?_ ?_
        · exact ⟨⟨none, rfl⟩, upd_same, rfl, Nat.zero_le _, fun b u e => upd_old nD6 e⟩
        · rintro j σ zs H6 hj ⟨⟨x, rfl⟩, hD6, hz, hj2, s6⟩
          have hjm : j < m := by omega
          rw [Int.zero_add]
          refine ⟨_, rfl, _, rfl, D5, _, _, _, rfl, rfl, SqL.of (s6 _ _ hD5), atI_getN (k := j) (by omega), _, rfl, _, rfl, D, _, _, _, rfl, rfl, SqL.of (s6 _ _ hA5), atI_getN (k := j) (by omega), _, _, rfl, rfl, ?_⟩
          have hle : ¬ getN AR j < getN BR j := by
            rw [hARn j hjm, hBRn j hjm]
            have := (hO (i - 1) j hi1 hjm).2.2 (by omega)
            rw [show i - 1 + 1 = i by omega] at this
            exact Int.not_lt.mpr (aimI_mono (by omega) f0 u0 this)
          refine ⟨hD6, small1000 (by rw [hz]; simp; omega), ⟨_, rfl⟩, upd_same, ?_, by omega, fun c o ec => ?_⟩
          · rw [hz, List.replicate_succ', List.map_append]
            show _ ++ [V.bl (decide (getN AR j < getN BR j))] = _
            rw [decide_eq_false hle]
            rfl
          · rw [upd_ne (ne_of_none ec nD6)]
            exact s6 c o ec
        rintro σ zs H6 ⟨_, hD6, hz, _, s6⟩
        refine ⟨D6, _, rfl, by rw [hD6, hz], _, rfl, ?_⟩
        rw [any_false]
        exact iteF (fin (s5.trans s6))
      · rintro σ H4 ⟨_, s4⟩
        exact q _ s4
    · exact h.elim
end
end My

set_option Elab.async false
set_option linter.all false
set_option maxRecDepth 100000
set_option maxHeartbeats 4000000
namespace My
open PySem L2
def spLaw (K : PySem.W.Frag) : Sp := fun vs H Q _ => ∃ (a : Addr) (ns : List Int), vs = [.ref a] ∧ SqL K H a (ns.map V.int) ∧ ns.length ≤ 63 ∧ ∀ H', Q (.bl true) H'
theorem sorted_same {ns ns' : List Int} (hp : ns'.Perm ns) (h1 : ns'.Pairwise (· ≤ ·)) (h2 : ns.Pairwise (· ≤ ·)) : ns' = ns :=
  List.Perm.eq_of_pairwise (le := (· ≤ ·)) (fun a b _ _ x y => Int.le_antisymm x y) h1 h2 hp
theorem TabOk.take {rows : List (List Int)} {m : Nat} (h : TabOk rows m) (n : Nat) : TabOk (rows.take n) m := by
  intro i j hi hj
  rw [List.length_take] at hi
  have e : ∀ {k}, k < n → ∀ j, cN (rows.take n) k j = cN rows k j := fun hk j => by
    unfold cN
    rw [List.getElem?_take, if_pos hk]
  obtain ⟨g1, g2, g3⟩ := h i j (by omega) hj
  rw [e (by omega), e (by omega)]
  refine ⟨g1, g2, fun h2 => ?_⟩
  rw [List.length_take] at h2
  rw [e (by omega)]
  exact g3 (by omega)
section
variable {P : Program} {w : World} {K : PySem.W.Frag} {mg : Str → Option Value} {base : Heap} {e : Ext}
theorem sc_law : FnScope ["_law_script", "_law_table_here", "_law_pot_here", "_law_overs", "_law_cuts_here", "_law_first", "_law_had", "_law_usual", "_law_shares_here", "_law_aims_here"] ["_law_script"] (defScope s_law) := ⟨rfl, rfl, rfl, by decide +kernel, rfl, by decide +kernel, by decide +kernel⟩
theorem ok_law {f f_share f_aim f_cell f_mixed f_take f_pot f_table f_cuts f_shares f_aims : Addr} {fd fd_share fd_aim fd_cell fd_mixed fd_take fd_pot fd_table fd_cuts fd_shares fd_aims : FuncData} (F : Fun K "law" "law" s_law f fd) (T : Txt K mg e)
    (D_share : Def K mg "share_had" s_share ["table", "overs", "cuts"] f_share fd_share) (D_aim : Def K mg "aim" s_aim ["first", "had", "has", "usual"] f_aim fd_aim) (D_cell : Def K mg "_law_cell" s_cell ["_law_script", "_law_k"] f_cell fd_cell)
    (D_mixed : Def K mg "_law_mixed" s_mixed ["_law_cell_here", "_law_k"] f_mixed fd_mixed) (D_take : Def K mg "_law_take" s_take ["_law_pot_here", "_law_many"] f_take fd_take) (D_pot : Def K mg "_law_pot" s_pot ["_law_cell_here"] f_pot fd_pot)
    (D_table : Def K mg "_law_table" s_table ["_law_script"] f_table fd_table) (D_cuts : Def K mg "_law_cuts" s_cuts ["_law_table_here", "_law_pot_here", "_law_most"] f_cuts fd_cuts)
    (D_shares : Def K mg "_law_shares" s_shares ["_law_table_here", "_law_overs", "_law_cuts_here", "_law_more"] f_shares fd_shares) (D_aims : Def K mg "_law_aims" s_aims ["_law_table_here", "_law_first", "_law_had", "_law_usual"] f_aims fd_aims) : FnOk P w K mg base CX0 4 f fd ["_law_script"] (spLaw K) := by
  have G_share : FnOk P w K mg base CX0 1 f_share fd_share ["table", "overs", "cuts"] spShare := ok_share D_share.F T
  have G_aim : FnOk P w K mg base CX0 1 f_aim fd_aim ["first", "had", "has", "usual"] spAim := ok_aim D_aim.F T
  have G_cell : FnOk P w K mg base CX0 1 f_cell fd_cell ["_law_script", "_law_k"] (spCell K) := ok_cell D_cell.F T
  have G_pot : FnOk P w K mg base CX0 1 f_pot fd_pot ["_law_cell_here"] spPot := ok_pot D_pot.F T
  have G_take : FnOk P w K mg base CX0 2 f_take fd_take ["_law_pot_here", "_law_many"] spTake := ok_take D_take.F T D_mixed
  have G_table : FnOk P w K mg base CX0 3 f_table fd_table ["_law_script"] (spTable K) := ok_table D_table.F T D_cell D_mixed D_take D_pot
  have G_cuts : FnOk P w K mg base CX0 3 f_cuts fd_cuts ["_law_table_here", "_law_pot_here", "_law_most"] spCuts := ok_cuts D_cuts.F T D_mixed D_take
  have G_shares : FnOk P w K mg base CX0 2 f_shares fd_shares ["_law_table_here", "_law_overs", "_law_cuts_here", "_law_more"] spShares := ok_shares D_shares.F T D_share
  have G_aims : FnOk P w K mg base CX0 2 f_aims fd_aims ["_law_table_here", "_law_first", "_law_had", "_law_usual"] spAims := ok_aims D_aims.F T D_aim
  refine F.ok sc_law (fun vs H Q E h => ?_) (fun cdv A outer s H vs Q E hr h => ?_)
  · obtain ⟨a, ns, rfl, _⟩ := h
    rfl
  · obtain ⟨a, ns, rfl, hS, hlen, k⟩ := h
    have hU := hu100 hr
    have hr_share := hr.mono (by decide : 1 ≤ 3)
    have hr_aim := hr_share
    have hr_cell := hr_share
    have hr_pot := hr_share
    have hr_take := hr.mono (by decide : 2 ≤ 3)
    have hr_shares := hr_take
    have hr_aims := hr_take
    have hr_table := hr.mono (by decide : 3 ≤ 3)
    have hr_cuts := hr_table
    refine ⟨_, (pss_cons (ps_set (i := 1) sc_law.nd rfl (Or.inl rfl) (pe_call G_table hr_table rfl D_table.m D_table.F.kp D_table.b .nil pass0 (pa_cons (pv 0) pa_nil)))
      (pss_cons (ps_set (i := 2) sc_law.nd rfl (Or.inl rfl) (pe_call G_pot hr_pot rfl D_pot.m D_pot.F.kp D_pot.b .nil pass0 (pa_cons (pe_op op_fdiv (pe_call G_cell hr_cell rfl D_cell.m D_cell.F.kp D_cell.b .nil pass0 (pa_cons (pv 0) (pa_cons pe_int pa_nil))) pe_int) pa_nil)))
      (pss_cons (ps_set (i := 3) sc_law.nd rfl (Or.inl rfl) (pe_call G_take hr_take rfl D_take.m D_take.F.kp D_take.b .nil pass0 (pa_cons (pv 2) (pa_cons (pe_pp (pp_len rfl T.n_len PySem.boot_len (ppa_cons (pp_var 1) ppa_nil))) pa_nil))))
      (pss_cons (ps_set (i := 4) sc_law.nd rfl (Or.inl rfl) (pe_call G_cuts hr_cuts rfl D_cuts.m D_cuts.F.kp D_cuts.b .nil pass0 (pa_cons (pv 1) (pa_cons (pv 2) (pa_cons pe_int pa_nil)))))
      (pss_cons (ps_set (i := 5) sc_law.nd rfl (Or.inr rfl) (pe_call G_take hr_take rfl D_take.m D_take.F.kp D_take.b .nil pass0 (pa_cons (pv 2) (pa_cons pe_int pa_nil))))
      (pss_cons (ps_set (i := 6) sc_law.nd rfl (Or.inr rfl) (pe_op op_add pe_int (pe_call G_take hr_take rfl D_take.m D_take.F.kp D_take.b .nil pass0 (pa_cons (pv 2) (pa_cons pe_int pa_nil)))))
      (pss_cons (ps_set (i := 7) sc_law.nd rfl (Or.inr rfl) (pe_call G_take hr_take rfl D_take.m D_take.F.kp D_take.b .nil pass0 (pa_cons (pv 2) (pa_cons pe_int pa_nil))))
      (pss_cut (ps_if (pt_not (pt_val (pe_call G_shares hr_shares rfl D_shares.m D_shares.F.kp D_shares.b .nil pass0 (pa_cons (pv 1) (pa_cons (pv 3) (pa_cons (pv 4) (pa_cons (pe_call G_cuts hr_cuts rfl D_cuts.m D_cuts.F.kp D_cuts.b .nil pass0 (pa_cons (pv 1) (pa_cons (pv 2) (pa_cons pe_int pa_nil)))) pa_nil)))))))
        (pss_one (ps_ret pe_bl))
        pss_nil)
      (pss_cons (ps_set (i := 8) sc_law.nd rfl (Or.inl rfl) (pe_lst (pa_cons (pe_call G_share hr_share rfl D_share.m D_share.F.kp D_share.b .nil pass0 (pa_cons (pv 1) (pa_cons (pv 3) (pa_cons (pv 4) pa_nil)))) (pa_cons (pe_pp (pp_sub (pp_var 6) (pp_c pe_int))) (pa_cons (pv 6) (pa_cons (pe_callB (call_min2 rfl) rfl T.n_min PyProof.Rows.boot_min (pa_cons pe_int (pa_cons (pe_pp (pp_add (pp_var 6) (pp_c pe_int))) pa_nil))) (pa_cons pe_int (pa_cons pe_int pa_nil))))))))
      (pss_cons (ps_expr (pe_bm PySem.F.plainAttrs_list PySem.F.slot_list_append PySem.F.type_list_append mt_append (pv 8) (pa_cons (pe_call G_take hr_take rfl D_take.m D_take.F.kp D_take.b .nil pass0 (pa_cons (pv 2) (pa_cons pe_int pa_nil))) pa_nil)))
      (pss_cons (ps_setC (i0 := 9) (F := ["_law_first", "_law_had", "_law_usual"]) (T := ["_law_share"]) (fr := [5, 6, 7]) ⟨rfl, by decide +kernel, by decide +kernel, (by show ∀ y ∈ (_ : List (Str × NameKind)), y.2 = NameKind.free → (defScope s_law).names.lookup y.1 = some NameKind.cell; decide +kernel), by decide +kernel, rfl⟩ rfl (pi_list (pe_callB (call_sorted rfl) rfl T.n_sorted PyProof.Rows.boot_sorted (pa_cons (pv 8) pa_nil))) (fun _ _ _ _ _ => (pg_name (i := 3) (show (["_law_first", "_law_had", "_law_usual", "_law_share"] : List Str).Nodup by decide +kernel) rfl (Or.inl rfl))) (fun _ _ _ _ _ => pif_nil) (fun _ _ _ _ _ => (pe_call G_aim hr_aim rfl D_aim.m D_aim.F.kp D_aim.b .nil pass0 (pa_cons (pv 0) (pa_cons (pv 1) (pa_cons (pv 3) (pa_cons (pv 2) pa_nil)))))) sc_law.nd rfl rfl rfl)
      (pss_cut (ps_if (pt_cmpR (op_neD hU) (pv 9) (pe_callB (call_sorted rfl) rfl T.n_sorted PyProof.Rows.boot_sorted (pa_cons (pv 9) pa_nil)) (nomark _))
        (pss_one (ps_ret pe_bl))
        pss_nil)
      (pss_one (ps_ret (pe_call G_aims hr_aims rfl D_aims.m D_aims.F.kp D_aims.b .nil pass0 (pa_cons (pe_slice sl_list (pv 1) po_none (po_some pe_int)) (pa_cons (pv 5) (pa_cons (pv 6) (pa_cons (pv 7) pa_nil))))))))))))))))))), ?_⟩
    change (_ : Ends → St → Hp → Prop) _ [some (.ref a), none, none, none, none, none, none, none, none, none] H
    refine ⟨_, rfl, ns, hS, hlen, fun t as rows m H1 nt hT1 hO s1 => ?_⟩
    refine ⟨_, rfl, ns, s1.seq hS, by decide, fun c => ⟨c, 88, rfl, rfl, ⟨by decide, by decide⟩, fun p H2 np P2 s2 => ?_⟩⟩
    have hT2 := hT1.same s2
    have hT2t := hT2.ht
    have tp : t ≠ p := ne_of_none hT1.ht np
    have ap : p ∉ as := fun hp => by
      obtain ⟨r, _, hr⟩ := hT1.hr.mem hp
      rw [np] at hr
      cases hr
    have hal : as.length = rows.length := hT1.hr.1
    have l1 := hT1.l1
    have l2 := hT1.l2
    have m1 := hT1.m1
    have hm := hT1.hm
    refine ⟨_, rfl, .int (rows.length : Int), (by simp only [tSeq, tNext, tIfS, tRet, tRetN, tDrop, tAsg, gName, gTup, gCons, gNil, gSub, tTest, tOp, tUn, tVar, tC, tB, tInC, tAnd, tOr, tNot, tAndV, tOrV, tNotV, tIf, tCall, tCons, tNil, tTup, tLst, tCut, rI0, rI, rU, rEq, rNe, rIxM, rSetL, scal_ii, scal_ss, scal_bb, scal_nn, scal_is, scal_si, scal_sn, scal_ns, flat_i, flat_s, flat_b, flat_n, List.all_cons, List.all_nil, Bool.and_true, Bool.true_and, true_and, and_true, ex_get, ex_int, ex_str, ex_bl, ex_ref, ex_int2, ex_str2, ex_ri, dec_true, at0, at1, at2, at3, at4, at5, at6, at7, List.getElem?_cons_zero, List.getElem?_cons_succ, List.set_cons_zero, List.set_cons_succ, List.length_cons, List.length_nil, Nat.reduceAdd, le_line, Nat.reduceLeDiff, upd_same, Bool.false_eq_true, if_false, if_true, ite_true, ite_false, List.cons_append, List.nil_append, List.append_nil, rSetM, ix30, ix31, ix32, upd_upd, ex_some, seqAt, tEv, tEvT, evVar, evC, ev2, ev1, evAnd, evOr, evIx, evCons, evNil, evCall, evLen, lenAt, fI_ii, kLt, kLe, kGt, kGe, kAdd, kSub, fEq, fNe, fMod_lit, fIn_s, fIn_i, fAnd_bb, fOr_bb, fNot_b, fIsN_n, fNotN_n, ex_sbl, ex_cons, Int.reduceLT, spP, decide_true, decide_false, Bool.not_true, Bool.not_false, Bool.and_false, Bool.false_and, Bool.or_true, Bool.true_or, Bool.or_false, Bool.false_or, reduceCtorEq, false_and, and_false, fDiv_lit, fNeg_i, Int.reduceNeg, hT2t, List.length_map, hal]), by omega, by omega, 0, P2, by decide, fun overs H3 o0 o1 P3 k3 => ?_⟩
    have hTk : ∀ {H' H''}, TableAt H' t as rows m → But p H' H'' → TableAt H'' t as rows m := fun h k => ⟨k _ _ h.ht tp, h.hr.keep fun b hb u e => k _ _ e (fun z => ap (z ▸ hb)), h.hm, h.m1, h.m2, h.l1, h.l2⟩
    have hT3 := hTk hT2 k3
    refine ⟨_, rfl, _, rfl, as, rows, m, 1, hT3, tp, ap, P3, by decide, by decide, by decide, fun l ts cs H4 nl hl4 hC4 hcl hok k4 P4 => ?_⟩
    have hT4 := hTk hT3 k4
    have lp : l ≠ p := (P3.ne nl).symm
    have hCk : ∀ {H' H'' : Hp} {n : Nat}, At2 H' cutO ts cs → PotAt H' p n → But p H' H'' → At2 H'' cutO ts cs := fun h hp k => h.keep fun b hb u e => k _ _ e (by
      obtain ⟨y, _, hy⟩ := h.mem hb
      obtain ⟨c', k', b', e', _⟩ := hp
      exact ne_of hy e' (by intro z; cases z))
    refine ⟨_, rfl, by decide, by decide, _, P4, by decide, fun first H5 f0 f1 P5 k5 => ?_⟩
    refine ⟨_, rfl, by decide, by decide, _, P5, by decide, fun d H6 d0 d1 P6 k6 => ⟨1, d, rfl, rfl, ?_⟩⟩
    refine ⟨_, rfl, by decide, by decide, _, P6, by decide, fun usual H7 u0 u1 P7 k7 => ?_⟩
    have hT7 := hTk (hTk (hTk hT4 k5) k6) k7
    have hC7 := hCk (hCk (hCk hC4 P4 k5) P5 k6) P6 k7
    have hl7 := k7 _ _ (k6 _ _ (k5 _ _ hl4 lp) lp) lp
    refine ⟨fun σ' H' => σ' = [some (.ref a), some (.ref t), some (.ref p), some (.int overs), some (.ref l), some (.int first), some (.int (1 + d)), some (.int usual), none, none] ∧ TableAt H' t as rows m ∧ PotAt H' p 900 ∧ H' l = some (.lst (ts.map V.ref)) ∧ At2 H' cutO ts cs, ?_, ?_⟩
    · refine ⟨_, rfl, _, rfl, _, rfl, _, rfl, _, rfl, as, rows, m, _, hT7, tp, ap, P7, by decide, by decide, by decide, fun l3 ts3 cs3 H8 nl3 hl8 hC8 hcl8 hok8 k8 P8 => ?_⟩
      have hT8 := hTk hT7 k8
      have hl8' := k8 _ _ hl7 lp
      have hC8' := hCk hC7 P7 k8
      refine ⟨as, rows, m, ts, cs, ts3, cs3, hT8, hO, o0, o1, hl8', hC8', hl8, hC8, by omega, by omega, hok, hok8, fun H9 s9 => ⟨_, rfl, iteF ?_⟩⟩
      exact ⟨rfl, hT8.same s9, (P8.same s9).mono (by decide), s9 _ _ hl8', hC8'.same s9⟩
    rintro σ' H9 ⟨rfl, hT9, P9, hl9, hC9⟩
    refine ⟨_, rfl, _, rfl, _, rfl, as, rows, m, ts, cs, hT9, o0, o1, hl9, hC9, by omega, hok, fun H10 s10 => ?_⟩
    have hsv : 0 ≤ shV rows overs cs ∧ shV rows overs cs ≤ 1000 := by
      have hc0 := cell_in hm hO (a := overs) (j := 0) o0 o1 (by decide) (by omega)
      have := lossS_nn hm hO hok
      unfold shV
      split <;> omega
    have hsv : 0 ≤ (if 0 > cellI rows overs 0 - (cs.map fun c => cellI rows c.1 c.2.2 - cellI rows c.2.1 c.2.2).sum then 0 else cellI rows overs 0 - (cs.map fun c => cellI rows c.1 c.2.2 - cellI rows c.2.1 c.2.2).sum) ∧ (if 0 > cellI rows overs 0 - (cs.map fun c => cellI rows c.1 c.2.2 - cellI rows c.2.1 c.2.2).sum then 0 else cellI rows overs 0 - (cs.map fun c => cellI rows c.1 c.2.2 - cellI rows c.2.1 c.2.2).sum) ≤ 1000 := hsv
    generalize (if 0 > cellI rows overs 0 - (cs.map fun c => cellI rows c.1 c.2.2 - cellI rows c.2.1 c.2.2).sum then 0 else cellI rows overs 0 - (cs.map fun c => cellI rows c.1 c.2.2 - cellI rows c.2.1 c.2.2).sum) = sv at hsv ⊢
    refine ⟨.int (1 + d - 1), (by simp only [tSeq, tNext, tIfS, tRet, tRetN, tDrop, tAsg, gName, gTup, gCons, gNil, gSub, tTest, tOp, tUn, tVar, tC, tB, tInC, tAnd, tOr, tNot, tAndV, tOrV, tNotV, tIf, tCall, tCons, tNil, tTup, tLst, tCut, rI0, rI, rU, rEq, rNe, rIxM, rSetL, scal_ii, scal_ss, scal_bb, scal_nn, scal_is, scal_si, scal_sn, scal_ns, flat_i, flat_s, flat_b, flat_n, List.all_cons, List.all_nil, Bool.and_true, Bool.true_and, true_and, and_true, ex_get, ex_int, ex_str, ex_bl, ex_ref, ex_int2, ex_str2, ex_ri, dec_true, at0, at1, at2, at3, at4, at5, at6, at7, List.getElem?_cons_zero, List.getElem?_cons_succ, List.set_cons_zero, List.set_cons_succ, List.length_cons, List.length_nil, Nat.reduceAdd, le_line, Nat.reduceLeDiff, upd_same, Bool.false_eq_true, if_false, if_true, ite_true, ite_false, List.cons_append, List.nil_append, List.append_nil, rSetM, ix30, ix31, ix32, upd_upd, ex_some, seqAt, tEv, tEvT, evVar, evC, ev2, ev1, evAnd, evOr, evIx, evCons, evNil, evCall, evLen, lenAt, fI_ii, kLt, kLe, kGt, kGe, kAdd, kSub, fEq, fNe, fMod_lit, fIn_s, fIn_i, fAnd_bb, fOr_bb, fNot_b, fIsN_n, fNotN_n, ex_sbl, ex_cons, Int.reduceLT, spP, decide_true, decide_false, Bool.not_true, Bool.not_false, Bool.and_false, Bool.false_and, Bool.or_true, Bool.true_or, Bool.or_false, Bool.false_or, reduceCtorEq, false_and, and_false, fDiv_lit, fNeg_i, Int.reduceNeg]), _, rfl, .int (1 + d + 1), (by simp only [tSeq, tNext, tIfS, tRet, tRetN, tDrop, tAsg, gName, gTup, gCons, gNil, gSub, tTest, tOp, tUn, tVar, tC, tB, tInC, tAnd, tOr, tNot, tAndV, tOrV, tNotV, tIf, tCall, tCons, tNil, tTup, tLst, tCut, rI0, rI, rU, rEq, rNe, rIxM, rSetL, scal_ii, scal_ss, scal_bb, scal_nn, scal_is, scal_si, scal_sn, scal_ns, flat_i, flat_s, flat_b, flat_n, List.all_cons, List.all_nil, Bool.and_true, Bool.true_and, true_and, and_true, ex_get, ex_int, ex_str, ex_bl, ex_ref, ex_int2, ex_str2, ex_ri, dec_true, at0, at1, at2, at3, at4, at5, at6, at7, List.getElem?_cons_zero, List.getElem?_cons_succ, List.set_cons_zero, List.set_cons_succ, List.length_cons, List.length_nil, Nat.reduceAdd, le_line, Nat.reduceLeDiff, upd_same, Bool.false_eq_true, if_false, if_true, ite_true, ite_false, List.cons_append, List.nil_append, List.append_nil, rSetM, ix30, ix31, ix32, upd_upd, ex_some, seqAt, tEv, tEvT, evVar, evC, ev2, ev1, evAnd, evOr, evIx, evCons, evNil, evCall, evLen, lenAt, fI_ii, kLt, kLe, kGt, kGe, kAdd, kSub, fEq, fNe, fMod_lit, fIn_s, fIn_i, fAnd_bb, fOr_bb, fNot_b, fIsN_n, fNotN_n, ex_sbl, ex_cons, Int.reduceLT, spP, decide_true, decide_false, Bool.not_true, Bool.not_false, Bool.and_false, Bool.false_and, Bool.or_true, Bool.true_or, Bool.or_false, Bool.false_or, reduceCtorEq, false_and, and_false, fDiv_lit, fNeg_i, Int.reduceNeg]), _, _, rfl, (by show 6 ≤ sizeLine; decide), fun ls nls => ?_⟩
    have hmin : ∃ mi : Int, (if 1 + d + 1 < 1000 then 1 + d + 1 else 1000) = mi ∧ 0 ≤ mi ∧ mi ≤ 1000 := ⟨_, rfl, by split <;> omega, by split <;> omega⟩
    obtain ⟨mi, hmi, mi0, mi1⟩ := hmin
    rw [hmi]
    have s11 : Same H9 (upd H10 ls (.lst [.int sv, .int (1 + d - 1), .int (1 + d), .int mi, .int 0, .int 1000])) := s10.trans fun b u e => upd_old nls e
    have hls11 : upd H10 ls (.lst [.int sv, .int (1 + d - 1), .int (1 + d), .int mi, .int 0, .int 1000]) ls = some (.lst [.int sv, .int (1 + d - 1), .int (1 + d), .int mi, .int 0, .int 1000]) := upd_same
    show tSeq _ _ _ _ (upd H10 ls (.lst [.int sv, .int (1 + d - 1), .int (1 + d), .int mi, .int 0, .int 1000]))
    have lsp : ls ≠ p := ((P9.same s10).ne nls).symm
    generalize upd H10 ls (.lst [.int sv, .int (1 + d - 1), .int (1 + d), .int mi, .int 0, .int 1000]) = H11 at s11 hls11 ⊢
    have hT11 := hT9.same s11
    refine ⟨_, rfl, .inl ⟨rfl, _, SqL.of hls11⟩, _, rfl, by decide, by decide, _, P9.same s11, by decide, fun v H12 v0 v1 P12 k12 => ?_⟩
    have hls12 := k12 _ _ hls11 lsp
    have hT12 := hTk hT11 k12
    have tls : t ≠ ls := by
      intro z
      have h1 := hT11.ht
      rw [z, hls11] at h1
      injection h1 with h1
      injection h1 with h1
      cases as with
      | nil => simp at h1
      | cons y ys => rw [List.map_cons] at h1; injection h1 with h2 _; cases h2
    refine ⟨ls, _, _, rfl, rfl, hls12, (by show 6 < sizeLine; decide), ?_⟩
    have hls13 : upd H12 ls (.lst ([V.int sv, .int (1 + d - 1), .int (1 + d), .int mi, .int 0, .int 1000] ++ [.int v])) ls = some (.lst ([sv, 1 + d - 1, 1 + d, mi, 0, 1000, v].map V.int)) := upd_same
    have hT13 : TableAt (upd H12 ls (.lst ([V.int sv, .int (1 + d - 1), .int (1 + d), .int mi, .int 0, .int 1000] ++ [.int v]))) t as rows m := ⟨by rw [upd_ne tls]; exact hT12.ht, hT12.hr.keep fun b hb u e => by
      have hbl : b ≠ ls := by
        intro z
        obtain ⟨r, hrm, hr⟩ := hT9.hr.mem hb
        have := s10 _ _ hr
        rw [z, nls] at this
        cases this
      rw [upd_ne hbl]; exact e, hT12.hm, hT12.m1, hT12.m2, hT12.l1, hT12.l2⟩
    show tSeq _ _ _ _ (upd H12 ls (.lst ([V.int sv, .int (1 + d - 1), .int (1 + d), .int mi, .int 0, .int 1000] ++ [.int v])))
    generalize upd H12 ls (.lst ([V.int sv, .int (1 + d - 1), .int (1 + d), .int mi, .int 0, .int 1000] ++ [.int v])) = H13 at hls13 hT13 ⊢
    have hin : ∀ x ∈ [sv, 1 + d - 1, 1 + d, mi, 0, 1000, v], 0 ≤ x ∧ x ≤ 1000 := by
      intro x hx
      simp only [List.mem_cons, List.not_mem_nil, or_false] at hx
      rcases hx with rfl | rfl | rfl | rfl | rfl | rfl | rfl <;> omega
    have hsl : [sv, 1 + d - 1, 1 + d, mi, 0, 1000, v].length = 7 := rfl
    generalize [sv, 1 + d - 1, 1 + d, mi, 0, 1000, v] = sl at hls13 hin hsl
    refine ⟨_, rfl, ls, sl, rfl, SqL.of hls13, by omega, fun l5 ss nl5 hperm hpw => ⟨l5, rfl, ⟨_, SqL.of upd_same⟩, fun D nD => ?_⟩⟩
    have hssl : ss.length = 7 := by rw [hperm.length_eq]; exact hsl
    have hin5 : ∀ x ∈ ss, 0 ≤ x ∧ x ≤ 1000 := fun x hx => hin x (hperm.mem_iff.mp hx)
    have hl5 : upd H13 l5 (.lst (ss.map V.int)) l5 = some (.lst (ss.map V.int)) := upd_same
    have hT14 : TableAt (upd H13 l5 (.lst (ss.map V.int))) t as rows m := hT13.same fun b u e => upd_old nl5 e
    generalize upd H13 l5 (.lst (ss.map V.int)) = H14 at hl5 hT14 nD ⊢
    refine comp_listH (K := K) (a := l5) (ys := ss.map V.int) (fun j σ zs H' => (∃ x, σ = [some (.int first), some (.int (1 + d)), some (.int usual), x]) ∧ H' D = some (.lst zs) ∧ zs = ((ss.take j).map fun x => aimI first (1 + d) x usual).map V.int ∧ j ≤ ss.length ∧ Same H14 H') ?_ (fun j σ zs H' q => q.2.1) (fun j σ zs H' q => SqL.of (q.2.2.2.2 _ _ hl5)) ?_ ?_
    · exact ⟨⟨none, rfl⟩, upd_same, rfl, Nat.zero_le _, fun b u e => upd_old nD e⟩
    · rintro j y σ zs H15 hy ⟨⟨x, rfl⟩, hD, hz, hj, s15⟩
      have hjl : j < ss.length := by simpa using (List.getElem?_eq_some_iff.mp hy).1
      rw [List.getElem?_map, List.getElem?_eq_getElem hjl] at hy
      cases (Option.some.inj hy)
      obtain ⟨z0, z1⟩ := hin5 _ (List.getElem_mem hjl)
      refine ⟨_, rfl, _, rfl, _, rfl, _, rfl, f0, f1, by omega, by omega, z0, z1, u0, u1, ?_⟩
      refine ⟨hD, small1000 (by rw [hz]; simp; omega), ⟨_, rfl⟩, upd_same, ?_, hjl, fun c o ec => ?_⟩
      · rw [hz, List.take_add_one, List.getElem?_eq_getElem hjl, List.map_append, List.map_append]
        rfl
      · rw [upd_ne (ne_of_none ec nD)]
        exact s15 c o ec
    rintro σ zs H15 ⟨_, hD, hz, _, s15⟩
    rw [List.length_map, List.take_length] at hz
    rw [hz] at hD
    have hAl : (ss.map fun x => aimI first (1 + d) x usual).length = 7 := by rw [List.length_map]; exact hssl
    have hApw : (ss.map fun x => aimI first (1 + d) x usual).Pairwise (· ≤ ·) := List.Pairwise.map _ (fun a b hab => aimI_mono (by omega) f0 u0 hab) hpw
    generalize (ss.map fun x => aimI first (1 + d) x usual) = AI at hD hAl hApw
    have hT15 := hT14.same s15
    refine ⟨fun σ' H' => (∃ x8 x9, σ' = [some (.ref a), some (.ref t), some (.ref p), some (.int overs), some (.ref l), some (.int first), some (.int (1 + d)), some (.int usual), x8, x9]) ∧ TableAt H' t as rows m, ?_, ?_⟩
    · refine ⟨_, rfl, _, rfl, D, AI, rfl, SqL.of hD, by omega, fun l6 AI' nl6 hp6 hw6 => ?_⟩
      rw [sorted_same hp6 hw6 hApw]
      refine ⟨.ls ((AI.map V.int).map DV.fl), (by unfold DV.dep; rw [depL_flat]; decide), (fun w z => by cases z), deep_lst (upd_old nl6 hD) (by simp [flatV]), deep_lst upd_same (by simp [flatV]), _, rfl, iteF ?_⟩
      exact ⟨⟨_, _, rfl⟩, hT15.same fun b u e => upd_old nl6 e⟩
    rintro σ' H16 ⟨⟨x8, x9, rfl⟩, hT16⟩
    refine ⟨_, rfl, 20, rfl, t, _, rfl, SqL.of hT16.ht, fun t2 nt2 => ?_⟩
    rw [show (20 : Int) = ((20 : Nat) : Int) from rfl, cutV_to, ← List.map_take]
    have sT : Same H16 (upd H16 t2 (.lst ((as.take 20).map V.ref))) := fun b u e => upd_old nt2 e
    refine ⟨_, rfl, _, rfl, _, rfl, as.take 20, rows.take 20, m, ⟨upd_same, (hT16.hr.same sT).take 20, fun r hr => hm _ (List.mem_of_mem_take hr), hT16.m1, hT16.m2, by rw [List.length_take]; omega, by rw [List.length_take]; omega⟩, hO.take 20, f0, f1, by omega, by omega, u0, u1, fun H17 _ => k H17⟩
end
end My

set_option Elab.async false
set_option linter.all false
set_option maxRecDepth 100000
set_option maxHeartbeats 4000000
namespace My
open PySem L2
theorem all_mk {l : PySem.W.OpenLaw} {w : World} {K : PySem.W.Frag} {h : Heap} {mg : Str → Option Value} {fa f_share f_aim f_cell f_mixed f_take f_pot f_table f_cuts f_shares f_aims f_law : Addr} (X : K.In h) (G : h.Ns mainGlobals mg) (hfa : mg "law" = some (.ref fa))
    {od_share an_share od_aim an_aim od_cell an_cell od_mixed an_mixed od_take an_take od_pot an_pot od_table an_table od_cuts an_cuts od_shares an_shares od_aims an_aims od_law an_law : Option Addr} {sl_share sl_aim sl_cell sl_mixed sl_take sl_pot sl_table sl_cuts sl_shares sl_aims sl_law : Array (Option Value)} {oc_share kV_share dc_share pm_share cd_share ct_share oc_aim kV_aim dc_aim pm_aim cd_aim ct_aim oc_cell kV_cell dc_cell pm_cell cd_cell ct_cell oc_mixed kV_mixed dc_mixed pm_mixed cd_mixed ct_mixed oc_take kV_take dc_take pm_take cd_take ct_take oc_pot kV_pot dc_pot pm_pot cd_pot ct_pot oc_table kV_table dc_table pm_table cd_table ct_table oc_cuts kV_cuts dc_cuts pm_cuts cd_cuts ct_cuts oc_shares kV_shares dc_shares pm_shares cd_shares ct_shares oc_aims kV_aims dc_aims pm_aims cd_aims ct_aims oc_law kV_law dc_law pm_law cd_law ct_law : Value} {twhole : Tok}
    (a_share : PySem.W.nsIn K mainGlobals "share_had" = some (some (.ref f_share))) (l_share : K.lookup f_share = some ⟨oc_share, od_share, .func (PySem.W.fnOf "share_had" "share_had" (defArgs s_share) (defBody s_share) (defScope s_share) .none kV_share dc_share pm_share an_share cd_share ct_share), sl_share⟩) (c_share : PySem.W.codeIn K cd_share "share_had" = true) (k_share : PySem.W.keepIn K (.ref f_share) = true)
    (a_aim : PySem.W.nsIn K mainGlobals "aim" = some (some (.ref f_aim))) (l_aim : K.lookup f_aim = some ⟨oc_aim, od_aim, .func (PySem.W.fnOf "aim" "aim" (defArgs s_aim) (defBody s_aim) (defScope s_aim) .none kV_aim dc_aim pm_aim an_aim cd_aim ct_aim), sl_aim⟩) (c_aim : PySem.W.codeIn K cd_aim "aim" = true) (k_aim : PySem.W.keepIn K (.ref f_aim) = true)
    (a_cell : PySem.W.nsIn K mainGlobals "_law_cell" = some (some (.ref f_cell))) (l_cell : K.lookup f_cell = some ⟨oc_cell, od_cell, .func (PySem.W.fnOf "_law_cell" "_law_cell" (defArgs s_cell) (defBody s_cell) (defScope s_cell) .none kV_cell dc_cell pm_cell an_cell cd_cell ct_cell), sl_cell⟩) (c_cell : PySem.W.codeIn K cd_cell "_law_cell" = true) (k_cell : PySem.W.keepIn K (.ref f_cell) = true)
    (a_mixed : PySem.W.nsIn K mainGlobals "_law_mixed" = some (some (.ref f_mixed))) (l_mixed : K.lookup f_mixed = some ⟨oc_mixed, od_mixed, .func (PySem.W.fnOf "_law_mixed" "_law_mixed" (defArgs s_mixed) (defBody s_mixed) (defScope s_mixed) .none kV_mixed dc_mixed pm_mixed an_mixed cd_mixed ct_mixed), sl_mixed⟩) (c_mixed : PySem.W.codeIn K cd_mixed "_law_mixed" = true) (k_mixed : PySem.W.keepIn K (.ref f_mixed) = true)
    (a_take : PySem.W.nsIn K mainGlobals "_law_take" = some (some (.ref f_take))) (l_take : K.lookup f_take = some ⟨oc_take, od_take, .func (PySem.W.fnOf "_law_take" "_law_take" (defArgs s_take) (defBody s_take) (defScope s_take) .none kV_take dc_take pm_take an_take cd_take ct_take), sl_take⟩) (c_take : PySem.W.codeIn K cd_take "_law_take" = true) (k_take : PySem.W.keepIn K (.ref f_take) = true)
    (a_pot : PySem.W.nsIn K mainGlobals "_law_pot" = some (some (.ref f_pot))) (l_pot : K.lookup f_pot = some ⟨oc_pot, od_pot, .func (PySem.W.fnOf "_law_pot" "_law_pot" (defArgs s_pot) (defBody s_pot) (defScope s_pot) .none kV_pot dc_pot pm_pot an_pot cd_pot ct_pot), sl_pot⟩) (c_pot : PySem.W.codeIn K cd_pot "_law_pot" = true) (k_pot : PySem.W.keepIn K (.ref f_pot) = true)
    (a_table : PySem.W.nsIn K mainGlobals "_law_table" = some (some (.ref f_table))) (l_table : K.lookup f_table = some ⟨oc_table, od_table, .func (PySem.W.fnOf "_law_table" "_law_table" (defArgs s_table) (defBody s_table) (defScope s_table) .none kV_table dc_table pm_table an_table cd_table ct_table), sl_table⟩) (c_table : PySem.W.codeIn K cd_table "_law_table" = true) (k_table : PySem.W.keepIn K (.ref f_table) = true)
    (a_cuts : PySem.W.nsIn K mainGlobals "_law_cuts" = some (some (.ref f_cuts))) (l_cuts : K.lookup f_cuts = some ⟨oc_cuts, od_cuts, .func (PySem.W.fnOf "_law_cuts" "_law_cuts" (defArgs s_cuts) (defBody s_cuts) (defScope s_cuts) .none kV_cuts dc_cuts pm_cuts an_cuts cd_cuts ct_cuts), sl_cuts⟩) (c_cuts : PySem.W.codeIn K cd_cuts "_law_cuts" = true) (k_cuts : PySem.W.keepIn K (.ref f_cuts) = true)
    (a_shares : PySem.W.nsIn K mainGlobals "_law_shares" = some (some (.ref f_shares))) (l_shares : K.lookup f_shares = some ⟨oc_shares, od_shares, .func (PySem.W.fnOf "_law_shares" "_law_shares" (defArgs s_shares) (defBody s_shares) (defScope s_shares) .none kV_shares dc_shares pm_shares an_shares cd_shares ct_shares), sl_shares⟩) (c_shares : PySem.W.codeIn K cd_shares "_law_shares" = true) (k_shares : PySem.W.keepIn K (.ref f_shares) = true)
    (a_aims : PySem.W.nsIn K mainGlobals "_law_aims" = some (some (.ref f_aims))) (l_aims : K.lookup f_aims = some ⟨oc_aims, od_aims, .func (PySem.W.fnOf "_law_aims" "_law_aims" (defArgs s_aims) (defBody s_aims) (defScope s_aims) .none kV_aims dc_aims pm_aims an_aims cd_aims ct_aims), sl_aims⟩) (c_aims : PySem.W.codeIn K cd_aims "_law_aims" = true) (k_aims : PySem.W.keepIn K (.ref f_aims) = true)
    (a_law : PySem.W.nsIn K mainGlobals "law" = some (some (.ref f_law))) (l_law : K.lookup f_law = some ⟨oc_law, od_law, .func (PySem.W.fnOf "law" "law" (defArgs s_law) (defBody s_law) (defScope s_law) .none kV_law dc_law pm_law an_law cd_law ct_law), sl_law⟩) (c_law : PySem.W.codeIn K cd_law "law" = true) (k_law : PySem.W.keepIn K (.ref f_law) = true)
    (z_len : PySem.W.nsIn K mainGlobals "len" = some none)
    (z_range : PySem.W.nsIn K mainGlobals "range" = some none)
    (z_reversed : PySem.W.nsIn K mainGlobals "reversed" = some none)
    (z_max : PySem.W.nsIn K mainGlobals "max" = some none)
    (z_min : PySem.W.nsIn K mainGlobals "min" = some none)
    (z_sum : PySem.W.nsIn K mainGlobals "sum" = some none)
    (z_any : PySem.W.nsIn K mainGlobals "any" = some none)
    (z_sorted : PySem.W.nsIn K mainGlobals "sorted" = some none)
    (z_enumerate : PySem.W.nsIn K mainGlobals "enumerate" = some none)
    (g_WHOLE : PySem.W.nsIn K mainGlobals "WHOLE" = some (some (.int 1000 twhole)))
    : ∃ fd : FuncData, (∀ (s : Shared) (v : Value), BindsTo s fd ⟨[v], []⟩ [("_law_script", v)]) ∧ ∀ base : Heap, K.In base → base.Ns mainGlobals mg → FnOk l.prog w K mg base CX0 4 fa fd ["_law_script"] (spLaw K) := by
  have e := hfa.symm.trans (PySem.W.mg_of X G a_law)
  cases e
  have T : Txt K mg ⟨twhole⟩ := ⟨PySem.W.mg_none_of X G z_len, PySem.W.mg_none_of X G z_range, PySem.W.mg_none_of X G z_reversed, PySem.W.mg_none_of X G z_max, PySem.W.mg_none_of X G z_min, PySem.W.mg_none_of X G z_sum, PySem.W.mg_none_of X G z_any, PySem.W.mg_none_of X G z_sorted, PySem.W.mg_none_of X G z_enumerate, PySem.W.mg_of X G g_WHOLE⟩
  have F_share := fun_mk (st := s_share) l_share c_share k_share
  have D_share : Def K mg "share_had" s_share ["table", "overs", "cuts"] f_share _ := ⟨F_share, PySem.W.mg_of X G a_share, F_share.binds (ps := ["table", "overs", "cuts"]) fun _ _ _ _ _ _ us hl => match us, hl with | [_, _, _], _ => rfl⟩
  have F_aim := fun_mk (st := s_aim) l_aim c_aim k_aim
  have D_aim : Def K mg "aim" s_aim ["first", "had", "has", "usual"] f_aim _ := ⟨F_aim, PySem.W.mg_of X G a_aim, F_aim.binds (ps := ["first", "had", "has", "usual"]) fun _ _ _ _ _ _ us hl => match us, hl with | [_, _, _, _], _ => rfl⟩
  have F_cell := fun_mk (st := s_cell) l_cell c_cell k_cell
  have D_cell : Def K mg "_law_cell" s_cell ["_law_script", "_law_k"] f_cell _ := ⟨F_cell, PySem.W.mg_of X G a_cell, F_cell.binds (ps := ["_law_script", "_law_k"]) fun _ _ _ _ _ _ us hl => match us, hl with | [_, _], _ => rfl⟩
  have F_mixed := fun_mk (st := s_mixed) l_mixed c_mixed k_mixed
  have D_mixed : Def K mg "_law_mixed" s_mixed ["_law_cell_here", "_law_k"] f_mixed _ := ⟨F_mixed, PySem.W.mg_of X G a_mixed, F_mixed.binds (ps := ["_law_cell_here", "_law_k"]) fun _ _ _ _ _ _ us hl => match us, hl with | [_, _], _ => rfl⟩
  have F_take := fun_mk (st := s_take) l_take c_take k_take
  have D_take : Def K mg "_law_take" s_take ["_law_pot_here", "_law_many"] f_take _ := ⟨F_take, PySem.W.mg_of X G a_take, F_take.binds (ps := ["_law_pot_here", "_law_many"]) fun _ _ _ _ _ _ us hl => match us, hl with | [_, _], _ => rfl⟩
  have F_pot := fun_mk (st := s_pot) l_pot c_pot k_pot
  have D_pot : Def K mg "_law_pot" s_pot ["_law_cell_here"] f_pot _ := ⟨F_pot, PySem.W.mg_of X G a_pot, F_pot.binds (ps := ["_law_cell_here"]) fun _ _ _ _ _ _ us hl => match us, hl with | [_], _ => rfl⟩
  have F_table := fun_mk (st := s_table) l_table c_table k_table
  have D_table : Def K mg "_law_table" s_table ["_law_script"] f_table _ := ⟨F_table, PySem.W.mg_of X G a_table, F_table.binds (ps := ["_law_script"]) fun _ _ _ _ _ _ us hl => match us, hl with | [_], _ => rfl⟩
  have F_cuts := fun_mk (st := s_cuts) l_cuts c_cuts k_cuts
  have D_cuts : Def K mg "_law_cuts" s_cuts ["_law_table_here", "_law_pot_here", "_law_most"] f_cuts _ := ⟨F_cuts, PySem.W.mg_of X G a_cuts, F_cuts.binds (ps := ["_law_table_here", "_law_pot_here", "_law_most"]) fun _ _ _ _ _ _ us hl => match us, hl with | [_, _, _], _ => rfl⟩
  have F_shares := fun_mk (st := s_shares) l_shares c_shares k_shares
  have D_shares : Def K mg "_law_shares" s_shares ["_law_table_here", "_law_overs", "_law_cuts_here", "_law_more"] f_shares _ := ⟨F_shares, PySem.W.mg_of X G a_shares, F_shares.binds (ps := ["_law_table_here", "_law_overs", "_law_cuts_here", "_law_more"]) fun _ _ _ _ _ _ us hl => match us, hl with | [_, _, _, _], _ => rfl⟩
  have F_aims := fun_mk (st := s_aims) l_aims c_aims k_aims
  have D_aims : Def K mg "_law_aims" s_aims ["_law_table_here", "_law_first", "_law_had", "_law_usual"] f_aims _ := ⟨F_aims, PySem.W.mg_of X G a_aims, F_aims.binds (ps := ["_law_table_here", "_law_first", "_law_had", "_law_usual"]) fun _ _ _ _ _ _ us hl => match us, hl with | [_, _, _, _], _ => rfl⟩
  have F_law := fun_mk (st := s_law) l_law c_law k_law
  exact ⟨PySem.W.fnOf "law" "law" (defArgs s_law) (defBody s_law) (defScope s_law) .none kV_law dc_law pm_law an_law cd_law ct_law, fun s v => .of_eq rfl, fun base _ _ => ok_law F_law T D_share D_aim D_cell D_mixed D_take D_pot D_table D_cuts D_shares D_aims⟩
theorem walk {l : PySem.W.OpenLaw} {q : Program} {loose : List Str} {XP : (Str → Option Value) → Heap → Prop} {YP : World → Heap → Prop} {d : DefRec} {K : Params → PySem.W.Frag} (hn : l.most = some 63) (hdf : d.params.defaults = [])
    (hY : ∀ (w : World) (h : Heap), YP w h → (K w.params).In h)
    (F : ∀ (w : World) (mg : Str → Option Value) (fa : Addr) (h : Heap), (K w.params).In h → h.Ns mainGlobals mg → mg d.name = some (.ref fa) →
      ∃ fd : FuncData, (∀ (s : Shared) (u : Value), BindsTo s fd ⟨[u], []⟩ [("_law_script", u)]) ∧ ∀ base : Heap, (K w.params).In base → base.Ns mainGlobals mg → FnOk l.prog w (K w.params) mg base CX0 4 fa fd ["_law_script"] (spLaw (K w.params))) :
    PySem.W.WalkO q loose XP YP l.row.toRowW d [] (fun f vs => PySem.call f vs) :=
  L2.walk_of (n := 63) (k := 4) (x := "_law_script") (CX := fun _ => CX0) (sp := fun w => spLaw (K w.params)) hn (by decide) hdf ⟨rfl, by decide, by decide⟩ hY F (fun _ _ a ns hl _ hS => ⟨a, ns, rfl, hS, hl, fun _ => rfl⟩) fun _ _ _ _ _ z => z
end My
open PySem PySem.W PyProof.Rows
set_option maxRecDepth 100000 in
set_option maxHeartbeats 0 in
theorem PySem.Challenge.cw_inningsbook_k64_whole_rain_holds : PySem.Challenge.rw_inningsbook_k64_whole_rain.Holds := by
  w_on; o_law; k_head; (case hw => w_witness2)
  k_fill
  refine My.walk (l := PySem.Challenge.rw_inningsbook_k64_whole_rain) rfl rfl (fun w h Y => PySem.W.kIn_of Y) ?F
  case F =>
    intro w mg fa h KX G hmg
    refine' My.all_mk KX G hmg ?a_share ?l_share ?c_share ?k_share ?a_aim ?l_aim ?c_aim ?k_aim ?a_cell ?l_cell ?c_cell ?k_cell ?a_mixed ?l_mixed ?c_mixed ?k_mixed ?a_take ?l_take ?c_take ?k_take ?a_pot ?l_pot ?c_pot ?k_pot ?a_table ?l_table ?c_table ?k_table ?a_cuts ?l_cuts ?c_cuts ?k_cuts ?a_shares ?l_shares ?c_shares ?k_shares ?a_aims ?l_aims ?c_aims ?k_aims ?a_law ?l_law ?c_law ?k_law ?z_len ?z_range ?z_reversed ?z_max ?z_min ?z_sum ?z_any ?z_sorted ?z_enumerate ?g_WHOLE
    (case a_share => k_is)
    (case l_share => k_is)
    (case c_share => k_is)
    (case k_share => k_is)
    (case a_aim => k_is)
    (case l_aim => k_is)
    (case c_aim => k_is)
    (case k_aim => k_is)
    (case a_cell => k_is)
    (case l_cell => k_is)
    (case c_cell => k_is)
    (case k_cell => k_is)
    (case a_mixed => k_is)
    (case l_mixed => k_is)
    (case c_mixed => k_is)
    (case k_mixed => k_is)
    (case a_take => k_is)
    (case l_take => k_is)
    (case c_take => k_is)
    (case k_take => k_is)
    (case a_pot => k_is)
    (case l_pot => k_is)
    (case c_pot => k_is)
    (case k_pot => k_is)
    (case a_table => k_is)
    (case l_table => k_is)
    (case c_table => k_is)
    (case k_table => k_is)
    (case a_cuts => k_is)
    (case l_cuts => k_is)
    (case c_cuts => k_is)
    (case k_cuts => k_is)
    (case a_shares => k_is)
    (case l_shares => k_is)
    (case c_shares => k_is)
    (case k_shares => k_is)
    (case a_aims => k_is)
    (case l_aims => k_is)
    (case c_aims => k_is)
    (case k_aims => k_is)
    (case a_law => k_is)
    (case l_law => k_is)
    (case c_law => k_is)
    (case k_law => k_is)
    (case z_len => k_is)
    (case z_range => k_is)
    (case z_reversed => k_is)
    (case z_max => k_is)
    (case z_min => k_is)
    (case z_sum => k_is)
    (case z_any => k_is)
    (case z_sorted => k_is)
    (case z_enumerate => k_is)
    (case g_WHOLE => k_is)

