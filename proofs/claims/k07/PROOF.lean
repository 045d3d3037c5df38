import PyProof.Rows.All
import Wide.All
import OpenK.AllK
import Wide.FinOn
import Lean
import PyProof.EqAt
import PyProof.EqKinds
import PyProof.TupleCall
import PyProof.Draws
import PyProof.EnumMake
import PyProof.ZipIter
import KE.KListMore
import PyProof.Rows.FStr
import PyProof.FString
import PyProof.Rows.CallKw2
import PyProof.StrLawsTight
import PyProof.CompUse
import PyProof.CompFree
import PyProof.MaxThree
import PyProof.Rows.SumAny
import PyProof.NeKinds
import PyProof.Rows.StrJoin2
import KE.KIntText
import PyProof.Rows.StrClip
import PySem.Challenge.RW_inningsbook_k07_entries_read_and_shown
set_option Elab.async false
set_option linter.all false
set_option maxRecDepth 100000
/-! THE HAND LAYER, for ints, bools, texts, own classes, DICTS (int and text keys), calls, loops. Paste it whole ahead of your own text; what your proof does not reach may be deleted. -/
namespace L2
open PySem PySem.Spec PyProof.Rows

/-- a key: an int or a str -/
abbrev Key := Sum Int Str
def keyIs : Key → Value → Bool
  | .inl k, v => Value.isInt k v
  | .inr x, v => Value.isStrOf x v
def keyH (w : World) : Key → Int
  | .inl k => hashInt k
  | .inr x => hashStr w x
theorem keyIs_shape : ∀ {k : Key} {v : Value}, keyIs k v = true → (∃ i t, k = Sum.inl i ∧ v = Value.int i t) ∨ (∃ x t, k = Sum.inr x ∧ v = Value.str x t)
  | .inl i, v, h => by
    obtain ⟨t, e⟩ := Value.isInt_shape (k := i) (v := v) h
    exact .inl ⟨i, t, rfl, e⟩
  | .inr x, v, h => by
    obtain ⟨t, e⟩ := Value.isStrOf_shape (x := x) (v := v) h
    exact .inr ⟨x, t, rfl, e⟩
theorem keyIs_int (i : Int) (t : Tok) : keyIs (.inl i) (.int i t) = true := by simp [keyIs, Value.isInt]
theorem keyIs_str (x : Str) (t : Tok) : keyIs (.inr x) (.str x t) = true := by simp [keyIs, Value.isStrOf]
theorem key_ll (a b : Int) : decide ((Sum.inl a : Key) = Sum.inl b) = (a == b) := by
  by_cases e : a = b
  · subst e; simp
  · have h : ¬ (Sum.inl a : Key) = Sum.inl b := fun q => e (Sum.inl.inj q)
    rw [decide_eq_false h]
    exact (beq_eq_false_iff_ne.mpr e).symm
theorem key_rr (a b : Str) : decide ((Sum.inr a : Key) = Sum.inr b) = decide (a = b) := by
  by_cases e : a = b
  · subst e; simp
  · have h : ¬ (Sum.inr a : Key) = Sum.inr b := fun q => e (Sum.inr.inj q)
    rw [decide_eq_false h, decide_eq_false e]
theorem key_lr (a : Int) (b : Str) : decide ((Sum.inl a : Key) = Sum.inr b) = false := decide_eq_false (fun q => nomatch q)
theorem key_rl (a : Str) (b : Int) : decide ((Sum.inr a : Key) = Sum.inl b) = false := decide_eq_false (fun q => nomatch q)

def mixKind (prog : Program) (w : World) : PySem.KeyKind prog w Key where
  is := keyIs
  hash := keyH w
  inj := fun v a b ha hb => by
    rcases keyIs_shape ha with ⟨i, t, rfl, rfl⟩ | ⟨x, t, rfl, rfl⟩
    · rcases keyIs_shape hb with ⟨j, u, rfl, e⟩ | ⟨y, u, rfl, e⟩
      · injection e with e1 _; rw [e1]
      · exact nomatch e
    · rcases keyIs_shape hb with ⟨j, u, rfl, e⟩ | ⟨y, u, rfl, e⟩
      · exact nomatch e
      · injection e with e1 _; rw [e1]
  byValue := fun k v h => by
    rcases keyIs_shape h with ⟨i, t, rfl, rfl⟩ | ⟨x, t, rfl, rfl⟩ <;> rfl
  pyHash := fun hv h => by
    rcases keyIs_shape hv with ⟨i, t, rfl, rfl⟩ | ⟨x, t, rfl, rfl⟩
    · exact wpAny_pyHash_int h
    · exact wpAny_pyHash_str h
  eqBool := fun hu hv h => by
    rcases keyIs_shape hu with ⟨i, t, rfl, rfl⟩ | ⟨x, t, rfl, rfl⟩
    · rcases keyIs_shape hv with ⟨j, u, rfl, rfl⟩ | ⟨y, u, rfl, rfl⟩
      · rw [key_ll] at h; exact wpAny_eqBool_int h
      · rw [key_lr] at h; exact SeqAt.EqAt.int_str i t y u _ _ _ _ h
    · rcases keyIs_shape hv with ⟨j, u, rfl, rfl⟩ | ⟨y, u, rfl, rfl⟩
      · rw [key_rl] at h; exact SeqAt.EqAt.str_int x t j u _ _ _ _ h
      · rw [key_rr] at h; exact wpAny_eqBool_str h
  «strs» := fun k x t v h => by
    rcases keyIs_shape h with ⟨i, u, rfl, e⟩ | ⟨y, u, rfl, e⟩
    · exact nomatch e
    · injection e with e1 _
      subst e1
      cases v <;> rfl

theorem mixKind_int (prog : Program) (w : World) (i : Int) (t : Tok) : (mixKind prog w).is (.inl i) (.int i t) = true := keyIs_int i t
theorem mixKind_str (prog : Program) (w : World) (x : Str) (t : Tok) : (mixKind prog w).is (.inr x) (.str x t) = true := keyIs_str x t
end L2

namespace L2
open PySem PySem.Spec PyProof.Rows

/-- a value, without the heap -/
inductive V where
  | non | bl (b : Bool) | int (i : Int) | str (x : Str) | byt (b : Array UInt8) | flt (b : UInt64) | ref (a : Addr) | ty (n : String)
  deriving DecidableEq

def RelV : V → Value → Prop
  | .non, u => u = Value.none
  | .bl b, u => u = Value.bool b
  | .int i, u => ∃ t, u = Value.int i t
  | .str x, u => ∃ t, u = Value.str x t
  | .byt b, u => ∃ t, u = Value.bytes b t
  | .flt b, u => ∃ t, u = Value.float b t
  | .ref a, u => u = Value.ref a
  | .ty n, u => u = Value.type n

abbrev Vals : List V → List Value → Prop := Paired RelV
theorem Vals.length {xs : List V} {us : List Value} (r : Vals xs us) : xs.length = us.length := Paired.length r
theorem Vals.get : ∀ {xs : List V} {us : List Value} {i : Nat} {x : V}, Vals xs us → xs[i]? = some x → ∃ u, us[i]? = some u ∧ RelV x u
  | _, _, _, _, .nil, e => by simp at e
  | _, _, 0, _, .cons r _, e => by simp at e; subst e; exact ⟨_, rfl, r⟩
  | _, _, i + 1, x, .cons _ t, e => by
    obtain ⟨u, h1, h2⟩ := Vals.get (i := i) (x := x) t (by simpa using e)
    exact ⟨u, by simpa using h1, h2⟩
theorem Vals.set {x : V} {u : Value} (r : RelV x u) : ∀ {xs : List V} {us : List Value} (i : Nat), Vals xs us → Vals (xs.set i x) (us.set i u)
  | _, _, _, .nil => .nil
  | _, _, 0, .cons _ t => .cons r t
  | _, _, i + 1, .cons q t => .cons q (Vals.set r i t)
theorem Vals.append : ∀ {xs ys : List V} {us ws : List Value}, Vals xs us → Vals ys ws → Vals (xs ++ ys) (us ++ ws)
  | _, _, _, _, .nil, s => s
  | _, _, _, _, .cons r t, s => .cons r (Vals.append t s)
theorem Vals.take : ∀ {xs : List V} {us : List Value} (n : Nat), Vals xs us → Vals (xs.take n) (us.take n)
  | _, _, 0, _ => .nil
  | _, _, _ + 1, .nil => .nil
  | _, _, n + 1, .cons r t => .cons r (Vals.take n t)
theorem Vals.drop : ∀ {xs : List V} {us : List Value} (n : Nat), Vals xs us → Vals (xs.drop n) (us.drop n)
  | _, _, 0, r => r
  | _, _, _ + 1, .nil => .nil
  | _, _, n + 1, .cons _ t => Vals.drop n t
def RelO : Option V → Option Value → Prop
  | some v, some u => RelV v u
  | none, none => True
  | _, _ => False
def KV {κ : Type} : List (κ × V) → List (κ × Value) → Prop := Paired fun (p : κ × V) (q : κ × Value) => p.1 = q.1 ∧ RelV p.2 q.2

/-- a key of a dict (00_mix): an int or a text -/
def kV : Key → V
  | .inl i => .int i
  | .inr x => .str x

/-- what stands at a tracked address -/
inductive HO where
  /-- a list -/
  | lst (xs : List V)
  /-- a tuple (never changes) -/
  | tup (xs : List V)
  /-- a dict whose keys are ints and texts; one whose keys are tuples of ints and texts (the empty one is both) -/
  | dK (kvs : List (Key × V)) | dT (kvs : List (List Key × V))
  /-- a set of ints: its members, its size -/
  | set (S : Int → Bool) (n : Nat)
  /-- an instance of the class at C, its dict at dx, its attributes -/
  | ins (C dx : Addr) (fs : List (Str × V))
  /-- the dict of the instance at x -/
  | own (x : Addr)
  /-- the dict of an exception -/
  | xd (fs : List (Str × V))
  /-- a bound method, f of x -/
  | met (f x : Addr)
  /-- a range object lo, lo + 1, .. below hi -/
  | rng (lo hi : Int)
  /-- a thing that is known to the object (the script; a dict while a loop walks it): read, never written while it is so -/
  | frz (o : Obj) (u : HO)
  /-- a code object's table -/
  | tbl (ps : Array Value)
  /-- any other thing, by what is true of its one object (a def of one's own: SetO a S n := HO.ext fun h => ..) -/
  | ext (φ : Heap → Prop)

abbrev Hp := Addr → Option HO
def upd (H : Hp) (a : Addr) (o : HO) : Hp := fun b => if b = a then some o else H b
theorem upd_same {H : Hp} {a : Addr} {o : HO} : upd H a o a = some o := by unfold upd; rw [if_pos rfl]
theorem upd_ne {H : Hp} {a b : Addr} {o : HO} (h : b ≠ a) : upd H a o b = H b := by unfold upd; rw [if_neg h]
theorem upd_upd {H : Hp} {a : Addr} {o u : HO} : upd (upd H a o) a u = upd H a u := by
  funext b; unfold upd; split <;> rfl
/-- two objects of different content stand apart -/
theorem ne_of {H : Hp} {a b : Addr} {o u : HO} (h : H a = some o) (h' : H b = some u) (d : o ≠ u) : a ≠ b := by
  intro e; subst e; rw [h] at h'; exact d (Option.some.inj h')
theorem ne_of_none {H : Hp} {a b : Addr} {o : HO} (h : H a = some o) (h' : H b = none) : a ≠ b := by
  intro e; subst e; rw [h] at h'; cases h'

section
variable (P : Program) (w : World)
def ObjOk (H : Hp) (h : Heap) (a : Addr) : HO → Prop
  | .lst xs => xs.length ≤ sizeLine ∧ ∃ (its : List Value) (n : Nat), Vals xs its ∧ h.get? a = some { cls := .type "list", data := .seq its.toArray n }
  | .tup xs => xs.length ≤ sizeLine ∧ ∃ its : List Value, Vals xs its ∧ IsTup h a its.toArray
  | .dK kvs => kvs.length ≤ sizeLine ∧ (a == sysModules) = false ∧ ∃ vs, KV kvs vs ∧ h.DictOf (mixKind P w) a vs
  | .dT kvs => kvs.length ≤ sizeLine ∧ (a == sysModules) = false ∧ ∃ xs : List (List Key × Addr × Value),
      Paired (fun (p : List Key × V) (q : List Key × Addr × Value) => p.1 = q.1 ∧ H q.2.1 = some (.tup (p.1.map kV)) ∧ RelV p.2 q.2.2) kvs xs ∧
      ∃ o es ep, h.get? a = some o ∧ o.ExactDict ∧ o.data = .dict es ep ∧ es.toList = xs.map (entryOfKey (tupleKind (mixKind P w))) ∧ (xs.map (·.1)).Nodup
  | .set S n => h.SetOf (intKind P w) a S n
  | .ins C dx fs => H dx = some (.own a) ∧ fs.length ≤ 1000 ∧ dx ≠ a ∧ h.get? a = some (PySem.W.instObj C dx) ∧
      ∃ mA, h.Ns1 dx mA ∧ (∀ f, RelO (fs.lookup f) (mA f)) ∧ PySem.Within mA (fs.map (·.1))
  | .own _ => ∃ o, h.get? a = some o
  | .xd fs => ∃ mA, h.Ns1 a mA ∧ ∀ f, RelO (fs.lookup f) (mA f)
  | .rng lo hi => ∃ t u v, h.get? a = some { cls := .type "range", data := .fields #[.int lo t, .int hi u, .int 1 v] }
  | .frz o u => h.get? a = some o ∧ ObjOk H h a u
  | .tbl ps => h.get? a = some { cls := .none, data := .fields ps }
  | .met f x => h.get? a = some (PySem.W.methodObj (.ref f) (.ref x))
  | .ext φ => φ h ∧ (∃ o, h.get? a = some o) ∧ ∀ h1 h2 : Heap, φ h1 → (∀ o, h1.get? a = some o → h2.get? a = some o) → φ h2
/-- the abstract heap is held -/
def HOk (H : Hp) (h : Heap) : Prop := ∀ a o, H a = some o → ObjOk P w H h a o
end

section
variable {P : Program} {w : World} {H H' : Hp} {h h' : Heap} {a : Addr} {o : HO}
theorem ObjOk.lt (x : ObjOk P w H h a o) : a < h.objs.size := by
  cases o with
  | lst xs => obtain ⟨_, _, _, _, e⟩ := x; exact Heap.lt_size e
  | tup xs => obtain ⟨_, _, _, p⟩ := x; exact p.lt
  | dK kvs => obtain ⟨_, _, _, _, o, _, _, e, _⟩ := x; exact Heap.lt_size e
  | dT kvs => obtain ⟨_, _, _, _, o, _, _, e, _⟩ := x; exact Heap.lt_size e
  | set S n => obtain ⟨o, _, _, _, e, _⟩ := x; exact Heap.lt_size e
  | ins C dx fs => obtain ⟨_, _, _, e, _⟩ := x; exact Heap.lt_size e
  | own y => obtain ⟨_, e⟩ := x; exact Heap.lt_size e
  | xd fs => obtain ⟨_, ⟨_, _, _, e, _⟩, _⟩ := x; exact Heap.lt_size e
  | rng lo hi => obtain ⟨_, _, _, e⟩ := x; exact Heap.lt_size e
  | frz ob u => obtain ⟨e, _⟩ := x; exact Heap.lt_size e
  | tbl ps => exact Heap.lt_size (show h.get? a = some _ from x)
  | met f y => exact Heap.lt_size (show h.get? a = some _ from x)
  | ext φ => obtain ⟨_, ⟨_, e⟩, _⟩ := x; exact Heap.lt_size e
theorem Paired.mapP {α β : Type} {F G : α → β → Prop} : ∀ {l₁ : List α} {l₂ : List β}, Paired F l₁ l₂ → (∀ a b, F a b → G a b) → Paired G l₁ l₂
  | _, _, .nil, _ => .nil
  | _, _, .cons r t, f => .cons (f _ _ r) (Paired.mapP t f)
/-- what an object's description leans on: its own object, its own dict, the tuples -/
theorem ObjOk.stay (x : ObjOk P w H h a o) (k : ∀ b u, (b = a ∨ H b = some (.own a)) → h.get? b = some u → h'.get? b = some u)
    (ho : ∀ b, H b = some (.own a) → H' b = some (.own a)) (ht : ∀ b xs, H b = some (.tup xs) → H' b = some (.tup xs)) : ObjOk P w H' h' a o := by
  induction o with
  | lst xs => obtain ⟨z, its, n, r, e⟩ := x; exact ⟨z, its, n, r, k _ _ (.inl rfl) e⟩
  | tup xs => obtain ⟨z, its, r, ob, e, c⟩ := x; exact ⟨z, its, r, ob, k _ _ (.inl rfl) e, c⟩
  | dK kvs => obtain ⟨z, y, vs, r, ob, es, ep, e, c⟩ := x; exact ⟨z, y, vs, r, ob, es, ep, k _ _ (.inl rfl) e, c⟩
  | dT kvs =>
    obtain ⟨z, y, xs, r, ob, es, ep, e, c⟩ := x
    exact ⟨z, y, xs, Paired.mapP r fun p q z => ⟨z.1, ht _ _ z.2.1, z.2.2⟩, ob, es, ep, k _ _ (.inl rfl) e, c⟩
  | set S n => obtain ⟨ob, es, ep, t, e, c⟩ := x; exact ⟨ob, es, ep, t, k _ _ (.inl rfl) e, c⟩
  | ins C dx fs =>
    obtain ⟨d, z, ne, e, mA, ⟨od, es, ep, e2, c⟩, r⟩ := x
    exact ⟨ho _ d, z, ne, k _ _ (.inl rfl) e, mA, ⟨od, es, ep, k _ _ (.inr d) e2, c⟩, r⟩
  | own y => obtain ⟨ob, e⟩ := x; exact ⟨ob, k _ _ (.inl rfl) e⟩
  | xd fs => obtain ⟨mA, ⟨od, es, ep, e, c⟩, r⟩ := x; exact ⟨mA, ⟨od, es, ep, k _ _ (.inl rfl) e, c⟩, r⟩
  | rng lo hi => obtain ⟨t, u, v, e⟩ := x; exact ⟨t, u, v, k _ _ (.inl rfl) e⟩
  | frz ob u ih => obtain ⟨e, q⟩ := x; exact ⟨k _ _ (.inl rfl) e, ih q⟩
  | tbl ps =>
    have e : h.get? a = some { cls := .none, data := .fields ps } := x
    show h'.get? a = some { cls := .none, data := .fields ps }
    exact k a _ (.inl rfl) e
  | met f y =>
    have e : h.get? a = some (PySem.W.methodObj (.ref f) (.ref y)) := x
    show h'.get? a = some (PySem.W.methodObj (.ref f) (.ref y))
    exact k a _ (.inl rfl) e
  | ext φ => obtain ⟨p, ⟨o, e⟩, st⟩ := x; exact ⟨st _ _ p fun o q => k _ _ (.inl rfl) q, ⟨o, k _ _ (.inl rfl) e⟩, st⟩
theorem HOk.lt (x : HOk P w H h) (e : H a = some o) : a < h.objs.size := (x a o e).lt
theorem HOk.fresh (x : HOk P w H h) (e : h.objs.size ≤ a) : H a = none := by
  cases q : H a with
  | none => rfl
  | some u => exact absurd (Nat.lt_of_lt_of_le (x.lt q) e) (Nat.lt_irrefl _)
/-- every object of the heap is kept -/
theorem HOk.kept (x : HOk P w H h) (k : ∀ b u, h.get? b = some u → h'.get? b = some u) : HOk P w H h' := fun a o e =>
  (x a o e).stay (fun b u _ q => k b u q) (fun _ q => q) fun _ _ q => q
/-- a new object is laid and tracked -/
theorem HOk.laid (x : HOk P w H h) (k : ∀ b u, h.get? b = some u → h'.get? b = some u) (hp : h.objs.size ≤ a) (new : ObjOk P w (upd H a o) h' a o) : HOk P w (upd H a o) h' := fun b u e => by
  have hn := x.fresh hp
  by_cases hb : b = a
  · subst hb; rw [upd_same] at e; cases e; exact new
  · rw [upd_ne hb] at e
    exact (x b u e).stay (fun c v _ q => k c v q) (fun c q => by rw [upd_ne (ne_of_none q hn)]; exact q) fun c xs q => by rw [upd_ne (ne_of_none q hn)]; exact q
end

/-- what may be read as u: it is u, or a known u -/
def Rd (H : Hp) (a : Addr) (u : HO) : Prop := H a = some u ∨ ∃ o, H a = some (.frz o u)
theorem Rd.of {H : Hp} {a : Addr} {u : HO} (h : H a = some u) : Rd H a u := .inl h
theorem Rd.ok {P : Program} {w : World} {H : Hp} {h : Heap} {a : Addr} {u : HO} (r : Rd H a u) (x : HOk P w H h) : ObjOk P w H h a u := by
  rcases r with r | ⟨o, r⟩
  · exact x a u r
  · obtain ⟨_, q⟩ := x a _ r
    exact q
/-- what may be written -/
def Mut : Option HO → Prop
  | some (.lst _) => True
  | some (.dK _) => True
  | some (.dT _) => True
  | some (.set _ _) => True
  | some (.ins _ _ _) => True
  | some (.ext _) => True
  | _ => False
section
variable {P : Program} {w : World} {H : Hp} {h h' : Heap} {x e : Addr} {o' : HO}
/-- the object at e is changed: x itself, or the dict of the instance x -/
theorem HOk.write (ok : HOk P w H h) (mu : Mut (H x)) (he : e = x ∨ H e = some (.own x)) (k : ∀ b u, b ≠ e → h.get? b = some u → h'.get? b = some u) (heo : ∃ u, h'.get? e = some u)
    (new : ObjOk P w (upd H x o') h' x o') : HOk P w (upd H x o') h' := fun b u q => by
  have nown : ∀ c y, H c = some (.own y) → c ≠ x := fun c y r z => by subst z; rw [r] at mu; exact mu
  have ntup : ∀ c xs, H c = some (.tup xs) → c ≠ x := fun c xs r z => by subst z; rw [r] at mu; exact mu
  by_cases hb : b = x
  · subst hb; rw [upd_same] at q; cases q; exact new
  · rw [upd_ne hb] at q
    by_cases hbe : b = e
    · have q' : H b = some (.own x) := by
        rcases he with z | z
        · exact absurd (hbe.trans z) hb
        · rw [hbe]; exact z
      rw [q] at q'; cases q'
      obtain ⟨v, hv⟩ := heo
      exact ⟨v, by rw [hbe]; exact hv⟩
    · refine (ok b u q).stay (fun c v hc r => k c v ?_ r) (fun c r => by rw [upd_ne (nown c b r)]; exact r) fun c xs r => by rw [upd_ne (ntup c xs r)]; exact r
      rcases hc with rfl | hc
      · exact hbe
      · rintro rfl
        rcases he with z | z
        · exact nown c b hc z
        · rw [hc] at z; cases z; exact hb rfl
end

/-! ### kept unless tracked; of the frames at fs (the callers') the slots may change (an exception that passes writes there); of the records at ex (iterators) nothing is said -/
structure Un (fs ex : List Addr) (H H' : Hp) (h h' : Heap) : Prop where
  keep : ∀ b o, h.get? b = some o → H b = none → b ∉ fs → b ∉ ex → h'.get? b = some o
  slot : ∀ b o, h.get? b = some o → H b = none → b ∈ fs → b ∉ ex → ∃ sl, h'.get? b = some { o with slots := sl }
  free : ∀ b o, h.get? b = some o → H b = none → b ∉ ex → H' b = none
  there : ∀ b o, h.get? b = some o → b ∉ ex → ∃ o', h'.get? b = some o'
  tups : ∀ b xs, H b = some (.tup xs) → H' b = some (.tup xs)
  frzs : ∀ b o u, H b = some (.frz o u) → H' b = some (.frz o u)
  tbls : ∀ b ps, H b = some (.tbl ps) → ∃ more, H' b = some (.tbl (ps ++ more))
section
variable {fs fs' ex ex' : List Addr} {H H1 H2 : Hp} {h h1 h2 h' : Heap} {a x e : Addr} {o : HO}
theorem Un.any (u : Un fs ex H H1 h h1) {b : Addr} {ob : Obj} (q : h.get? b = some ob) (n : H b = none) (hx : b ∉ ex) : ∃ sl, h1.get? b = some { ob with slots := sl } := by
  by_cases hb : b ∈ fs
  · exact u.slot b ob q n hb hx
  · exact ⟨ob.slots, u.keep b ob q n hb hx⟩
theorem Un.trans (a : Un fs ex H H1 h h1) (b : Un fs ex H1 H2 h1 h2) : Un fs ex H H2 h h2 where
  keep := fun c ob q n hc hx => b.keep c ob (a.keep c ob q n hc hx) (a.free c ob q n hx) hc hx
  slot := fun c ob q n hc hx => by
    obtain ⟨sl, e1⟩ := a.slot c ob q n hc hx
    obtain ⟨sl', e2⟩ := b.slot c _ e1 (a.free c ob q n hx) hc hx
    exact ⟨sl', e2⟩
  free := fun c ob q n hx => by
    obtain ⟨o', e1⟩ := a.there c ob q hx
    exact b.free c o' e1 (a.free c ob q n hx) hx
  there := fun c ob q hx => by
    obtain ⟨o', e1⟩ := a.there c ob q hx
    exact b.there c o' e1 hx
  tups := fun c xs q => b.tups c xs (a.tups c xs q)
  frzs := fun c ob xs q => b.frzs c ob xs (a.frzs c ob xs q)
  tbls := fun c ps q => by
    obtain ⟨m1, e1⟩ := a.tbls c ps q
    obtain ⟨m2, e2⟩ := b.tbls c _ e1
    exact ⟨m1 ++ m2, by rw [e2, Array.append_assoc]⟩
theorem Un.kept (k : ∀ b u, h.get? b = some u → h'.get? b = some u) : Un fs ex H H h h' :=
  ⟨fun b ob q _ _ _ => k b ob q, fun b ob q _ _ _ => ⟨ob.slots, k b ob q⟩, fun _ _ _ n _ => n, fun b ob q _ => ⟨ob, k b ob q⟩, fun _ _ q => q, fun _ _ _ q => q, fun _ ps q => ⟨#[], by rw [q]; simp⟩⟩
theorem Un.refl : Un fs ex H H h h := Un.kept fun _ _ q => q
theorem Un.laid (k : ∀ b u, h.get? b = some u → h'.get? b = some u) (hp : h.objs.size ≤ a) (hn : H a = none) : Un fs ex H (upd H a o) h h' where
  keep := fun b u q _ _ _ => k b u q
  slot := fun b u q _ _ _ => ⟨u.slots, k b u q⟩
  free := fun b u q n _ => by rw [upd_ne (Nat.ne_of_lt (Nat.lt_of_lt_of_le (Heap.lt_size q) hp))]; exact n
  there := fun b u q _ => ⟨u, k b u q⟩
  tups := fun b xs q => by rw [upd_ne (ne_of_none q hn)]; exact q
  frzs := fun b u xs q => by rw [upd_ne (ne_of_none q hn)]; exact q
  tbls := fun b ps q => ⟨#[], by rw [upd_ne (ne_of_none q hn), q]; simp⟩
theorem Un.write (mu : Mut (H x)) (he : e = x ∨ H e = some (.own x)) (k : ∀ b u, b ≠ e → h.get? b = some u → h'.get? b = some u) (heo : ∃ u, h'.get? e = some u) : Un fs ex H (upd H x o) h h' := by
  have hx : ∀ b, H b = none → b ≠ x := fun b n z => by subst z; rw [n] at mu; exact mu
  have hb : ∀ b, H b = none → b ≠ e := fun b n z => by
    subst z
    rcases he with r | r
    · exact hx b n r
    · rw [n] at r; cases r
  have hm : ∀ b u, H b = some u → ¬ Mut (some u) → b ≠ x := fun b u q nm z => by subst z; rw [q] at mu; exact nm mu
  refine ⟨fun b u q n _ _ => k b u (hb b n) q, fun b u q n _ _ => ⟨u.slots, k b u (hb b n) q⟩, fun b u q n _ => by rw [upd_ne (hx b n)]; exact n, fun b u q _ => ?_,
    fun b xs q => by rw [upd_ne (hm b _ q fun z => z)]; exact q, fun b u xs q => by rw [upd_ne (hm b _ q fun z => z)]; exact q, fun b ps q => ⟨#[], by rw [upd_ne (hm b _ q fun z => z), q]; simp⟩⟩
  by_cases hbe : b = e
  · subst hbe; exact heo
  · exact ⟨u, k b u hbe q⟩
theorem Un.mono (u : Un fs ex H H1 h h1) (hs : ∀ b ∈ fs, b ∈ fs') (hx : ∀ b ∈ ex, b ∈ ex') : Un fs' ex' H H1 h h1 :=
  ⟨fun b ob q n hb he => u.keep b ob q n (fun z => hb (hs b z)) fun z => he (hx b z), fun _ _ q n _ he => u.any q n fun z => he (hx _ z), fun b ob q n he => u.free b ob q n fun z => he (hx b z), fun b ob q he => u.there b ob q fun z => he (hx b z), u.tups, u.frzs, u.tbls⟩
end

/-! ### the heap without what is tracked -/
def trk (h : Heap) (H : Hp) : List Addr := (List.range h.objs.size).filter fun a => (H a).isSome
def hidT (h : Heap) (H : Hp) : Heap := PySem.W.hideAll h (trk h H)
theorem hidT_size (h : Heap) (H : Hp) : (hidT h H).objs.size = h.objs.size := PySem.W.hideAll_size _ _
theorem hidT_get {h : Heap} {H : Hp} {b : Addr} {o : Obj} (e : h.get? b = some o) (n : H b = none) : (hidT h H).get? b = some o :=
  PySem.W.hideAll_get _ e fun hm => by
    have q : (H b).isSome = true := (List.mem_filter.mp hm).2
    rw [n] at q; simp at q
theorem of_hidT {h : Heap} {H : Hp} {b : Addr} {o : Obj} (e : (hidT h H).get? b = some o) : h.get? b = some o ∧ H b = none := by
  have e' : h.get? b = some o := PySem.W.of_hideAll (trk h H) e
  refine ⟨e', ?_⟩
  cases q : H b with
  | none => rfl
  | some x =>
    have hm : b ∈ trk h H := List.mem_filter.mpr ⟨List.mem_range.mpr (Heap.lt_size e'), by simp [q]⟩
    have z : (hidT h H).get? b = none := PySem.W.hideAll_none (trk h H) hm
    rw [z] at e; cases e

/-! ### OpenK's ledger, filled with every new object but one -/
def allNews (g h : Heap) (L : Addr) : List (Addr × Obj) := (List.range h.objs.size).filterMap fun a => if a = L ∨ (g.get? a).isSome = true then none else (h.get? a).map fun o => (a, o)
def rest (g h : Heap) (L d : Addr) : List (Addr × Obj) := (allNews g h L).filter fun p => decide (p.1 ≠ d)
end L2

namespace L2
open PySem PySem.Spec PyProof.Rows

/-- the module's facts, over the base: the heap at the law's entry without what is tracked there -/
structure Mod (K : PySem.W.Frag) (mg : Str → Option Value) (base : Heap) : Prop where
  kin : K.In base
  glob : base.Ns mainGlobals mg
  blt : ∃ mb, base.Ns builtinsNs mb ∧ ∀ x : Str, x ≠ "__name__" → mb x = bootBuiltins x
  nolimit : base.NoLimit

/-- the context: a def's body (or a comprehension's block) running. base: fixed through the whole law; s₀, H₀: the entry; outer: the frames whose slots others may change (a def's callers); stack: all frames that run;
   ex: iterators that were made ahead of the entry and are walked here (a comprehension's); fn: the names whose cells were made at the entry (a def: all; a comprehension's block: its own); calm: not within an except suite; pn: pins that every state bears; xe: what is wanted of an exception that leaves the code -/
structure Cx where
  prog : Program
  w : World
  K : PySem.W.Frag
  mg : Str → Option Value
  base : Heap
  A : Around
  N : List Str
  s₀ : Shared
  H₀ : Hp
  env : Env
  outer : List Env
  stack : List Env
  ex : List Addr
  fn : Str → Bool
  calm : Bool
  pn : List (Addr × Obj)
  xe : Value → Shared → Prop
/-- the callers' frames -/
def frs (l : List Env) : List Addr := l.filterMap (·.frame)
abbrev Cx.fs (X : Cx) : List Addr := frs X.outer

def Vis (sc : Scope) (x : Str) : Prop := sc.names.lookup x = some .local ∨ sc.names.lookup x = some .cell ∨ sc.names.lookup x = some .free
def Loc (sc : Scope) (x : Str) : Prop := sc.names.lookup x = some .local ∨ sc.names.lookup x = some .cell
def Look (env : Env) (h : Heap) (m : Str → Option Value) (x : Str) (u : Value) : Prop :=
  (env.kindOf x = some .local ∧ m x = some u) ∨ ((env.kindOf x = some .cell ∨ env.kindOf x = some .free) ∧ ∃ c, env.cells.lookup x = some c ∧ h.IsCell c (some u))

structure Cx.Ok (X : Cx) : Prop where
  mod : Mod X.K X.mg X.base
  kind : X.env.scope.kind = .function
  glob : X.env.globals = mainGlobals
  blt : X.env.builtins = builtinsNs
  above : X.s₀.heap.objs.size ≤ X.env.locals
  inj : ∀ x y c, X.env.cells.lookup x = some c → X.env.cells.lookup y = some c → x = y
  has : ∀ x, (X.env.kindOf x = some .cell ∨ X.env.kindOf x = some .free) → ∃ c, X.env.cells.lookup x = some c
  cab : ∀ x c, X.fn x = true → X.env.cells.lookup x = some c → X.s₀.heap.objs.size ≤ c
  hd : X.calm = true → X.A.handled = none
  frames : X.A.frames = some X.stack
  stk : X.stack = X.outer ∨ (X.stack = X.env :: X.outer ∧ X.env.frame = some X.env.locals)
  exf : ∀ b ∈ X.ex, b ≠ X.env.locals ∧ ∀ x c, X.env.cells.lookup x = some c → c ≠ b
  bs : ∀ b o, X.base.get? b = some o → X.s₀.heap.get? b = some o ∧ X.H₀ b = none
  bsz : X.base.objs.size ≤ X.s₀.heap.objs.size
  noex : ∀ b o, X.base.get? b = some o → b ∉ X.ex
  exfs : ∀ b ∈ X.ex, b ∉ X.fs
  funs : X.s₀.heap.FunFrames X.base X.outer
  frf : ∀ b ∈ X.fs, X.H₀ b = none

structure Inv (X : Cx) (pins : List (Addr × Obj)) (σ : List (Option V)) (H : Hp) (s : Shared) : Prop where
  ok : X.Ok
  os : s.os = X.s₀.os
  bare : AllBare s.gens
  base : Un X.fs X.ex X.H₀ H X.s₀.heap s.heap
  loc : ∃ m, s.heap.Ns X.env.locals m ∧ ∀ (i : Nat) (x : Str) (v : V), X.N[i]? = some x → σ[i]? = some (some v) → Vis X.env.scope x → ∃ u, RelV v u ∧ Look X.env s.heap m x u
  cell : ∀ x c, X.env.cells.lookup x = some c → ∃ v, s.heap.IsCell c v
  free : H X.env.locals = none
  freeC : ∀ x c, X.env.cells.lookup x = some c → H c = none
  pin : ∀ p ∈ X.pn ++ pins, s.heap.get? p.1 = some p.2 ∧ H p.1 = none ∧ p.1 ≠ X.env.locals ∧ p.1 ∉ X.fs ∧ ∀ v, p.2.data ≠ .cell v
  hok : HOk X.prog X.w H s.heap
  len : σ.length = X.N.length

section
variable {X : Cx} {pins : List (Addr × Obj)} {σ : List (Option V)} {H H' : Hp} {s : Shared} {h' : Heap}

theorem Cx.Ok.nofr (ok : X.Ok) {b : Addr} {o : Obj} (e : X.base.get? b = some o) : b ∉ X.fs := fun hb => by
  have := (ok.funs.mem hb).1
  rw [e] at this; cases this
theorem Inv.bs (I : Inv X pins σ H s) : ∀ b o, X.base.get? b = some o → s.heap.get? b = some o ∧ H b = none := fun b o e =>
  ⟨I.base.keep b o (I.ok.bs b o e).1 (I.ok.bs b o e).2 (I.ok.nofr e) (I.ok.noex b o e), I.base.free b o (I.ok.bs b o e).1 (I.ok.bs b o e).2 (I.ok.noex b o e)⟩
theorem Inv.bk (I : Inv X pins σ H s) : ∀ b o, X.base.get? b = some o → s.heap.get? b = some o := fun b o e => (I.bs b o e).1
theorem Inv.mod (I : Inv X pins σ H s) : Mod X.K X.mg X.base := I.ok.mod
theorem Inv.kIn (I : Inv X pins σ H s) : X.K.In s.heap := I.ok.mod.kin.keeps I.bk
theorem Inv.nolimit (I : Inv X pins σ H s) : s.heap.NoLimit := I.ok.mod.nolimit.keeps I.bk
/-- the frame over the base: for OpenK's rules (K.In X.base is I.mod.kin) -/
theorem Inv.fr (I : Inv X pins σ H s) : ∃ m, Fr X.base X.env.locals s.heap m :=
  let ⟨m, hn, _⟩ := I.loc
  ⟨m, hn, I.bk, Nat.le_trans I.ok.bsz I.ok.above⟩
theorem Inv.lt (I : Inv X pins σ H s) : X.env.locals < s.heap.objs.size := let ⟨_, hn, _⟩ := I.loc; hn.lt
theorem Inv.sz (I : Inv X pins σ H s) : X.s₀.heap.objs.size ≤ s.heap.objs.size := Nat.le_trans I.ok.above (Nat.le_of_lt I.lt)
theorem Inv.nofs (I : Inv X pins σ H s) {a : Addr} (h : s.heap.objs.size ≤ a) : a ∉ X.fs := fun hb => by
  obtain ⟨_, o, ho, _⟩ := I.ok.funs.mem hb
  exact absurd (Nat.lt_of_lt_of_le (Heap.lt_size ho) (Nat.le_trans I.sz h)) (Nat.lt_irrefl _)
theorem Inv.cne (I : Inv X pins σ H s) : ∀ x c, X.env.cells.lookup x = some c → c ≠ X.env.locals := fun x c e z => by
  obtain ⟨v, o, ho, hd⟩ := I.cell x c e
  obtain ⟨m, ⟨o', es, ep, ho', hd', _⟩, _⟩ := I.loc
  rw [z, ho'] at ho; cases ho; rw [hd'] at hd; cases hd
theorem Inv.funs (I : Inv X pins σ H s) : s.heap.FunFrames X.base X.outer := by
  have all : ∀ (l : List Env), (∀ b ∈ frs l, b ∈ X.fs) → X.s₀.heap.FunFrames X.base l → s.heap.FunFrames X.base l := by
    intro l
    induction l with
    | nil => intro _ _; trivial
    | cons env r ih =>
      intro hs hl
      obtain ⟨hk, ⟨L, o, hf, hn, ho, hd⟩, hr⟩ := hl
      have hL : L ∈ X.fs := hs L (by unfold frs; rw [List.filterMap_cons, hf]; exact List.mem_cons_self)
      obtain ⟨sl, e⟩ := I.base.slot L o ho (I.ok.frf L hL) hL fun z => I.ok.exfs L z hL
      exact ⟨hk, ⟨L, _, hf, hn, e, hd⟩, ih (fun b hb => hs b (by unfold frs; rw [List.filterMap_cons, hf]; exact List.mem_cons_of_mem _ hb)) hr⟩
  exact all X.outer (fun _ hb => hb) I.ok.funs

/-- the frames that run, for a call -/
theorem Inv.stack (I : Inv X pins σ H s) : s.heap.FunFrames X.base X.stack := by
  rcases I.ok.stk with e | ⟨e, hf⟩
  · rw [e]; exact I.funs
  · rw [e]
    obtain ⟨m, hn, _⟩ := I.loc
    refine .cons (by rw [I.ok.kind]; decide) hf hn ?_ I.funs
    exact Heap.get?_none_of_le (Nat.le_trans I.ok.bsz I.ok.above)
theorem Inv.stkSub (I : Inv X pins σ H s) : ∀ b ∈ frs X.stack, b ∈ X.env.locals :: X.fs := fun b hb => by
  rcases I.ok.stk with e | ⟨e, hf⟩
  · rw [e] at hb; exact List.mem_cons_of_mem _ hb
  · rw [e] at hb
    unfold frs at hb
    rw [List.filterMap_cons, hf] at hb
    exact hb
theorem Inv.stkFree (I : Inv X pins σ H s) : ∀ b ∈ frs X.stack, H b = none := fun b hb => by
  rcases List.mem_cons.mp (I.stkSub b hb) with e | hb
  · rw [e]; exact I.free
  · obtain ⟨_, o, ho, _⟩ := I.ok.funs.mem hb
    exact I.base.free b o ho (I.ok.frf b hb) fun z => I.ok.exfs b z hb

/-- THE STEP: the untracked objects but the frame and the records at ch are kept (the callers' frames up to slots), the frame's map is kept, the new abstract heap is held -/
theorem Inv.step {g' : Array GenState} {t' : Nat} {d' : Drawn} {ch : List Addr} (I : Inv X pins σ H s)
    (hch : ∀ b ∈ ch, (b ∈ X.ex ∨ X.s₀.heap.objs.size ≤ b) ∧ b ≠ X.env.locals ∧ (∀ x c, X.env.cells.lookup x = some c → c ≠ b) ∧ ∀ p ∈ X.pn ++ pins, p.1 ≠ b)
    (keep : ∀ b o, b ≠ X.env.locals → b ∉ X.fs → b ∉ ch → s.heap.get? b = some o → H b = none → h'.get? b = some o)
    (slot : ∀ b o, b ≠ X.env.locals → b ∈ X.fs → b ∉ ch → s.heap.get? b = some o → H b = none → ∃ sl, h'.get? b = some { o with slots := sl }) (free : ∀ b o, b ∉ ch → s.heap.get? b = some o → H b = none → H' b = none)
    (there : ∀ b o, b ∉ ch → s.heap.get? b = some o → ∃ o', h'.get? b = some o')
    (tups : ∀ b xs, H b = some (.tup xs) → H' b = some (.tup xs)) (frzs : ∀ b o u, H b = some (.frz o u) → H' b = some (.frz o u)) (tbls : ∀ b ps, H b = some (.tbl ps) → ∃ more, H' b = some (.tbl (ps ++ more)))
    (ns : ∀ m, s.heap.Ns X.env.locals m → h'.Ns X.env.locals m) (hok : HOk X.prog X.w H' h') (hg : AllBare g') :
    Inv X pins σ H' { s with heap := h', gens := g', drawn := d', toks := t' } := by
  have neL : ∀ b o, X.s₀.heap.get? b = some o → b ≠ X.env.locals := fun b o e => Nat.ne_of_lt (Nat.lt_of_lt_of_le (Heap.lt_size e) I.ok.above)
  have neC : ∀ b o, X.s₀.heap.get? b = some o → b ∉ X.ex → b ∉ ch := fun b o e hx hb => by
    rcases (hch b hb).1 with z | z
    · exact hx z
    · exact absurd (Nat.lt_of_lt_of_le (Heap.lt_size e) z) (Nat.lt_irrefl _)
  have cellK : ∀ x c, X.env.cells.lookup x = some c → ∀ v, s.heap.IsCell c v → h'.IsCell c v := fun x c e v ⟨o, ho, hd⟩ => by
    have nch : c ∉ ch := fun z => (hch c z).2.2.1 x c e rfl
    by_cases hc : c ∈ X.fs
    · obtain ⟨sl, q⟩ := slot c o (I.cne x c e) hc nch ho (I.freeC x c e)
      exact ⟨_, q, hd⟩
    · exact ⟨o, keep c o (I.cne x c e) hc nch ho (I.freeC x c e), hd⟩
  refine ⟨I.ok, I.os, hg, ⟨fun b o e n hb hx => ?_, fun b o e n hb hx => ?_, fun b o e n hx => ?_, fun b o e hx => ?_, fun b xs e => tups b xs (I.base.tups b xs e), fun b o xs e => frzs b o xs (I.base.frzs b o xs e), fun b ps e => ?_⟩, ?_, fun x c e => ?_, ?_, fun x c e => ?_, fun p hp => ?_, hok, I.len⟩
  · exact keep b o (neL b o e) hb (neC b o e hx) (I.base.keep b o e n hb hx) (I.base.free b o e n hx)
  · obtain ⟨sl, e1⟩ := I.base.slot b o e n hb hx
    obtain ⟨sl', e2⟩ := slot b _ (neL b o e) hb (neC b o e hx) e1 (I.base.free b o e n hx)
    exact ⟨sl', e2⟩
  · obtain ⟨o', e1⟩ := I.base.there b o e hx
    exact free b o' (neC b o e hx) e1 (I.base.free b o e n hx)
  · obtain ⟨o', e1⟩ := I.base.there b o e hx
    exact there b o' (neC b o e hx) e1
  · obtain ⟨m1, e1⟩ := I.base.tbls b ps e
    obtain ⟨m2, e2⟩ := tbls b _ e1
    exact ⟨m1 ++ m2, by rw [e2, Array.append_assoc]⟩
  · obtain ⟨m, hn, hl⟩ := I.loc
    refine ⟨m, ns m hn, fun i x v e1 e2 e3 => ?_⟩
    obtain ⟨u, r, l⟩ := hl i x v e1 e2 e3
    refine ⟨u, r, ?_⟩
    rcases l with l | ⟨k, c, e, z⟩
    · exact .inl l
    · exact .inr ⟨k, c, e, cellK x c e _ z⟩
  · obtain ⟨v, z⟩ := I.cell x c e
    exact ⟨v, cellK x c e v z⟩
  · obtain ⟨m, ⟨o, _, _, ho, _⟩, _⟩ := I.loc
    exact free _ o (fun z => (hch _ z).2.1 rfl) ho I.free
  · obtain ⟨v, o, ho, hd⟩ := I.cell x c e
    exact free c o (fun z => (hch c z).2.2.1 x c e rfl) ho (I.freeC x c e)
  · obtain ⟨e, n, ne, nf, d⟩ := I.pin p hp
    have nch : p.1 ∉ ch := fun z => (hch p.1 z).2.2.2 p hp rfl
    exact ⟨keep p.1 p.2 ne nf nch e n, free p.1 p.2 nch e n, ne, nf, d⟩
/-- .. where the frame's own object is kept too -/
theorem Inv.un {t' : Nat} (I : Inv X pins σ H s) (u : Un X.fs [] H H' s.heap h') (hok : HOk X.prog X.w H' h') : Inv X pins σ H' { s with heap := h', toks := t' } := by
  obtain ⟨m, ⟨o, es, ep, ho, r⟩, _⟩ := id I.loc
  obtain ⟨sl, hL⟩ := u.any ho I.free (by simp)
  exact I.step (g' := s.gens) (d' := s.drawn) (ch := []) (fun _ z => nomatch z) (fun b o _ hb _ e n => u.keep b o e n hb (by simp)) (fun b o _ hb _ e n => u.slot b o e n hb (by simp)) (fun b o _ e n => u.free b o e n (by simp)) (fun b o _ e => u.there b o e (by simp)) u.tups u.frzs u.tbls (fun m' hm => by
    obtain ⟨o', es', ep', ho', r'⟩ := hm
    rw [ho] at ho'; cases ho'
    exact ⟨_, es', ep', hL, r'⟩) hok I.bare
/-- behind a call (or a comprehension's block): the slots of this frame may have changed too, the records at ch may have turned -/
theorem Inv.call {g' : Array GenState} {t' : Nat} {d' : Drawn} {ch : List Addr} (I : Inv X pins σ H s) (u : Un (frs X.stack) ch H H' s.heap h') (hok : HOk X.prog X.w H' h') (hg : AllBare g')
    (hch : ∀ b ∈ ch, (b ∈ X.ex ∨ X.s₀.heap.objs.size ≤ b) ∧ b ≠ X.env.locals ∧ (∀ x c, X.env.cells.lookup x = some c → c ≠ b) ∧ ∀ p ∈ X.pn ++ pins, p.1 ≠ b) :
    Inv X pins σ H' { s with heap := h', gens := g', drawn := d', toks := t' } := by
  obtain ⟨m, ⟨o, es, ep, ho, r⟩, _⟩ := id I.loc
  obtain ⟨sl, hL⟩ := u.any ho I.free fun z => (hch _ z).2.1 rfl
  exact I.step (ch := ch) hch (fun b o hL hb hc e n => u.keep b o e n (fun z => (List.mem_cons.mp (I.stkSub b z)).elim hL hb) hc) (fun b o _ _ hc e n => u.any e n hc) (fun b o hc e n => u.free b o e n hc) (fun b o hc e => u.there b o e hc) u.tups u.frzs u.tbls (fun m' hm => by
    obtain ⟨o', es', ep', ho', r'⟩ := hm
    rw [ho] at ho'; cases ho'
    exact ⟨_, es', ep', hL, r'⟩) hok hg
/-- an untracked record of ours (an iterator) has turned -/
theorem Inv.turned {t' : Nat} {it : Addr} (I : Inv X pins σ H s) (k : ∀ b o, b ≠ it → s.heap.get? b = some o → h'.get? b = some o) (hn : H it = none) (hL : it ≠ X.env.locals)
    (h1 : it ∈ X.ex ∨ X.s₀.heap.objs.size ≤ it) (h2 : ∀ x c, X.env.cells.lookup x = some c → c ≠ it) (h3 : ∀ p ∈ X.pn ++ pins, p.1 ≠ it) : Inv X pins σ H { s with heap := h', toks := t' } := by
  have nit : ∀ b u, H b = some u → b ≠ it := fun b u e z => by rw [z, hn] at e; cases e
  refine I.step (g' := s.gens) (d' := s.drawn) (ch := [it]) (fun b hb => ?_) (fun b o _ _ hc e _ => k b o (fun z => hc (by simp [z])) e) (fun b o _ _ hc e _ => ⟨o.slots, k b o (fun z => hc (by simp [z])) e⟩) (fun _ _ _ _ n => n)
    (fun b o hc e => ⟨o, k b o (fun z => hc (by simp [z])) e⟩) (fun _ _ e => e) (fun _ _ _ e => e) (fun b ps e => ⟨#[], by rw [e]; simp⟩) (fun m hm => ?_) (fun b u e => ?_) I.bare
  · have e : b = it := by simpa using hb
    subst e
    exact ⟨h1, hL, h2, h3⟩
  · obtain ⟨o, es, ep, ho, r⟩ := hm
    exact ⟨o, es, ep, k _ o (Ne.symm hL) ho, r⟩
  · refine (I.hok b u e).stay (fun c v hc q => k c v ?_ q) (fun _ q => q) fun _ _ q => q
    rcases hc with z | z
    · rw [z]; exact nit b u e
    · exact nit c _ z
theorem Inv.tok (I : Inv X pins σ H s) (t : Nat) : Inv X pins σ H { s with toks := t } := I.un (h' := s.heap) (t' := t) Un.refl I.hok
/-- all objects kept -/
theorem Inv.kept {t' : Nat} (I : Inv X pins σ H s) (k : ∀ b u, s.heap.get? b = some u → h'.get? b = some u) : Inv X pins σ H { s with heap := h', toks := t' } := I.un (Un.kept k) (I.hok.kept k)
/-- a new object laid and tracked -/
theorem Inv.laid {a : Addr} {o : HO} {t' : Nat} (I : Inv X pins σ H s) (k : ∀ b u, s.heap.get? b = some u → h'.get? b = some u) (hp : s.heap.objs.size ≤ a) (new : ObjOk X.prog X.w (upd H a o) h' a o) :
    Inv X pins σ (upd H a o) { s with heap := h', toks := t' } := I.un (Un.laid k hp (I.hok.fresh hp)) (I.hok.laid k hp new)
/-- an object written -/
theorem Inv.write {x e : Addr} {o : HO} {t' : Nat} (I : Inv X pins σ H s) (mu : Mut (H x)) (he : e = x ∨ H e = some (.own x)) (k : ∀ b u, b ≠ e → s.heap.get? b = some u → h'.get? b = some u) (heo : ∃ u, h'.get? e = some u)
    (new : ObjOk X.prog X.w (upd H x o) h' x o) : Inv X pins σ (upd H x o) { s with heap := h', toks := t' } := I.un (Un.write mu he k heo) (I.hok.write mu he k heo new)
theorem Inv.pins_of {pins' : List (Addr × Obj)} (I : Inv X pins σ H s) (h : ∀ p ∈ pins', s.heap.get? p.1 = some p.2 ∧ H p.1 = none ∧ p.1 ≠ X.env.locals ∧ p.1 ∉ X.fs ∧ ∀ v, p.2.data ≠ .cell v) : Inv X pins' σ H s :=
  ⟨I.ok, I.os, I.bare, I.base, I.loc, I.cell, I.free, I.freeC, fun p hp => (List.mem_append.mp hp).elim (fun z => I.pin p (List.mem_append_left _ z)) (h p), I.hok, I.len⟩

theorem nodup_ix {N : List Str} (hN : N.Nodup) {i j : Nat} {x : Str} (a : N[i]? = some x) (b : N[j]? = some x) : i = j := by
  obtain ⟨h1, e1⟩ := List.getElem?_eq_some_iff.mp a
  obtain ⟨h2, e2⟩ := List.getElem?_eq_some_iff.mp b
  exact (List.getElem_inj hN).mp (e1.trans e2.symm)

/-- a name is stored; what changed -/
theorem store_ok2 {M : Model} {A : Around} {E : Value → Shared → Prop} {i : Nat} {x : Str} {v : V} {u : Value} {Q : Unit → Shared → Prop} (I : Inv X pins σ H s) (hN : X.N.Nodup) (hi : X.N[i]? = some x) (hx : Loc X.env.scope x) (r : RelV v u)
    (h : ∀ s', Inv X pins (σ.set i (some v)) H s' → (∃ a, Heap.SameBut a s.heap s'.heap ∧ (a = X.env.locals ∨ X.env.cells.lookup x = some a)) → Q () s') (hf : X.fn x = true ∨ X.env.scope.names.lookup x = some .local := by first | exact .inl rfl | exact .inr rfl | assumption) : wpAny M A (storeName X.env x u) Q E s := by
  obtain ⟨m, hn, hl⟩ := id I.loc
  have hcls : (X.env.scope.kind == .class || (X.env.scope.kind == .module && X.env.locals != X.env.globals)) = false := by rw [I.ok.kind]; rfl
  have hiσ : i < σ.length := by rw [I.len]; exact (List.getElem?_eq_some_iff.mp hi).1
  have cne := I.cne
  have tracked : ∀ {a : Addr} {h' : Heap}, (∃ o, s.heap.get? a = some o ∧ H a = none) → Heap.SameBut a s.heap h' → HOk X.prog X.w H h' := fun {a h'} ha hs b ob e => by
    obtain ⟨_, _, hfree⟩ := ha
    refine (I.hok b ob e).stay (fun c w' hc q => (hs.2 c ?_).trans q) (fun _ q => q) fun _ _ q => q
    rintro rfl
    rcases hc with rfl | hc
    · rw [hfree] at e; cases e
    · rw [hfree] at hc; cases hc
  rcases hx with hk | hk
  · refine wpAny_storeName_local hk hn (fun h' hn' hs => ?_) hcls
    obtain ⟨oL, _, _, hoL, _⟩ := id hn
    refine h _ ⟨I.ok, I.os, I.bare, ⟨fun b o e n hb hx => ?_, fun b o e n hb hx => ?_, I.base.free, fun b o e hx => ?_, I.base.tups, I.base.frzs, I.base.tbls⟩, ⟨_, hn', fun j y v' e1 e2 e3 => ?_⟩, fun y c e => ?_, I.free, I.freeC, fun p hp => ?_, tracked ⟨oL, hoL, I.free⟩ hs, by simpa using I.len⟩ ⟨_, hs, .inl rfl⟩
    · exact (hs.2 b (Nat.ne_of_lt (Nat.lt_of_lt_of_le (Heap.lt_size e) I.ok.above))).trans (I.base.keep b o e n hb hx)
    · obtain ⟨sl, e1⟩ := I.base.slot b o e n hb hx
      exact ⟨sl, (hs.2 b (Nat.ne_of_lt (Nat.lt_of_lt_of_le (Heap.lt_size e) I.ok.above))).trans e1⟩
    · obtain ⟨o', e1⟩ := I.base.there b o e hx
      exact ⟨o', (hs.2 b (Nat.ne_of_lt (Nat.lt_of_lt_of_le (Heap.lt_size e) I.ok.above))).trans e1⟩
    · by_cases hj : j = i
      · subst hj
        rw [hi] at e1; cases e1
        rw [List.getElem?_set_self hiσ] at e2
        cases e2
        exact ⟨u, r, .inl ⟨hk, by simp⟩⟩
      · rw [List.getElem?_set_ne (Ne.symm hj)] at e2
        obtain ⟨u', r', q⟩ := hl j y v' e1 e2 e3
        refine ⟨u', r', ?_⟩
        rcases q with ⟨k, e⟩ | ⟨k, c, e, z⟩
        · refine .inl ⟨k, ?_⟩
          have : y ≠ x := fun e => hj (nodup_ix hN e1 (e ▸ hi))
          simp [this, e]
        · exact .inr ⟨k, c, e, z.sameBut hs (cne y c e)⟩
    · obtain ⟨w', z⟩ := I.cell y c e
      exact ⟨w', z.sameBut hs (cne y c e)⟩
    · obtain ⟨e, n, ne, nf, d⟩ := I.pin p hp
      exact ⟨(hs.2 p.1 ne).trans e, n, ne, nf, d⟩
  · have hfn : X.fn x = true := by
      rcases hf with z | z
      · exact z
      · rw [z] at hk; cases hk
    obtain ⟨c, hc⟩ := I.ok.has x (.inl hk)
    obtain ⟨w', z⟩ := I.cell x c hc
    refine wpAny_storeName_cell I.ok.kind hk hc z (fun h' hc' hs => ?_)
    obtain ⟨oc, hoc, hocd⟩ := id z
    refine h { s with heap := h' } ⟨I.ok, I.os, I.bare, ⟨fun b o e n hb hx => ?_, fun b o e n hb hx => ?_, I.base.free, fun b o e hx => ?_, I.base.tups, I.base.frzs, I.base.tbls⟩, ⟨m, hn.sameBut hs (Ne.symm (cne x c hc)), fun j y v' e1 e2 e3 => ?_⟩, fun y c' e => ?_, I.free, I.freeC, fun p hp => ?_, tracked ⟨oc, hoc, I.freeC x c hc⟩ hs, by simpa using I.len⟩ ⟨c, hs, .inr hc⟩
    · exact (hs.2 b (Nat.ne_of_lt (Nat.lt_of_lt_of_le (Heap.lt_size e) (I.ok.cab x c hfn hc)))).trans (I.base.keep b o e n hb hx)
    · obtain ⟨sl, e1⟩ := I.base.slot b o e n hb hx
      exact ⟨sl, (hs.2 b (Nat.ne_of_lt (Nat.lt_of_lt_of_le (Heap.lt_size e) (I.ok.cab x c hfn hc)))).trans e1⟩
    · obtain ⟨o', e1⟩ := I.base.there b o e hx
      exact ⟨o', (hs.2 b (Nat.ne_of_lt (Nat.lt_of_lt_of_le (Heap.lt_size e) (I.ok.cab x c hfn hc)))).trans e1⟩
    · by_cases hj : j = i
      · subst hj
        rw [hi] at e1; cases e1
        rw [List.getElem?_set_self hiσ] at e2
        cases e2
        exact ⟨u, r, .inr ⟨.inl hk, c, hc, hc'⟩⟩
      · rw [List.getElem?_set_ne (Ne.symm hj)] at e2
        obtain ⟨u', r', q⟩ := hl j y v' e1 e2 e3
        refine ⟨u', r', ?_⟩
        rcases q with q | ⟨k, c', e, z'⟩
        · exact .inl q
        · refine .inr ⟨k, c', e, z'.sameBut hs ?_⟩
          rintro rfl
          exact hj (nodup_ix hN e1 (I.ok.inj _ _ _ e hc ▸ hi))
    · by_cases hcc : c' = c
      · subst hcc; exact ⟨_, hc'⟩
      · obtain ⟨w2, z2⟩ := I.cell y c' e
        exact ⟨w2, z2.sameBut hs hcc⟩
    · obtain ⟨e, n, ne, nf, d⟩ := I.pin p hp
      refine ⟨(hs.2 p.1 ?_).trans e, n, ne, nf, d⟩
      intro q
      rw [q, hoc] at e
      have q' : oc = p.2 := Option.some.inj e
      exact d w' (by rw [← q']; exact hocd)
theorem store_ok {M : Model} {A : Around} {E : Value → Shared → Prop} {i : Nat} {x : Str} {v : V} {u : Value} {Q : Unit → Shared → Prop} (I : Inv X pins σ H s) (hN : X.N.Nodup) (hi : X.N[i]? = some x) (hx : Loc X.env.scope x) (r : RelV v u)
    (h : ∀ s', Inv X pins (σ.set i (some v)) H s' → Q () s') (hf : X.fn x = true ∨ X.env.scope.names.lookup x = some .local := by first | exact .inl rfl | exact .inr rfl | assumption) : wpAny M A (storeName X.env x u) Q E s :=
  store_ok2 I hN hi hx r (fun s' I' _ => h s' I') hf
/-- behind a call or a block, the state as it is -/
theorem Inv.call' {s' : Shared} {ch : List Addr} (I : Inv X pins σ H s) (ho : s'.os = s.os) (u : Un (frs X.stack) ch H H' s.heap s'.heap) (hok : HOk X.prog X.w H' s'.heap) (hg : AllBare s'.gens)
    (hch : ∀ b ∈ ch, (b ∈ X.ex ∨ X.s₀.heap.objs.size ≤ b) ∧ b ≠ X.env.locals ∧ (∀ x c, X.env.cells.lookup x = some c → c ≠ b) ∧ ∀ p ∈ X.pn ++ pins, p.1 ≠ b) : Inv X pins σ H' s' := by
  obtain ⟨h', g', d', t', o'⟩ := s'
  have e : o' = s.os := ho
  subst e
  exact I.call (g' := g') (t' := t') (d' := d') u hok hg hch
end

/-! ### the judgements -/
/-- an exception: its class, its own dict's address (where it has one), the abstract heap behind it -/
abbrev XK := Value → Option Addr → Hp → Prop
abbrev St := List (Option V)
abbrev VK := V → Hp → Prop
/-- an expression's reading; a test's; an argument list's -/
abbrev TE := St → Hp → VK → Prop
abbrev TT := St → Hp → (Bool → Hp → Prop) → Prop
abbrev TA := St → Hp → (List V → Hp → Prop) → Prop
/-- what is wanted behind a statement -/
structure Ends where
  nx : St → Hp → Prop
  rt : VK
  bk : St → Hp → Prop := fun _ _ => False
  ct : St → Hp → Prop := fun _ _ => False
abbrev TS := Ends → St → Hp → Prop

def EP (X : Cx) (pins : List (Addr × Obj)) (σ : St) (Q : VK) (u : Value) (s' : Shared) : Prop := ∃ v H', Inv X pins σ H' s' ∧ RelV v u ∧ Q v H'
def TP (X : Cx) (pins : List (Addr × Obj)) (σ : St) (Q : Bool → Hp → Prop) (b : Bool) (s' : Shared) : Prop := ∃ H', Inv X pins σ H' s' ∧ Q b H'
def AP (X : Cx) (pins : List (Addr × Obj)) (σ : St) (Q : List V → Hp → Prop) (us : List Value) (s' : Shared) : Prop := ∃ vs H', Inv X pins σ H' s' ∧ Vals vs us ∧ Q vs H'
def SP (X : Cx) (pins : List (Addr × Obj)) (D : Ends) (f : Flow) (s' : Shared) : Prop :=
  match f with
  | .next => ∃ σ' H', Inv X pins σ' H' s' ∧ D.nx σ' H'
  | .brk => ∃ σ' H', Inv X pins σ' H' s' ∧ D.bk σ' H'
  | .cont => ∃ σ' H', Inv X pins σ' H' s' ∧ D.ct σ' H'
  | .ret u => ∃ v σ' H', Inv X pins σ' H' s' ∧ RelV v u ∧ D.rt v H'

def PE (X : Cx) (e : Expr) (t : TE) : Prop :=
  ∀ (pins : List (Addr × Obj)) (s : Shared) (σ : St) (H : Hp) (Q : VK), Inv X pins σ H s → t σ H Q → wpAny (model X.prog X.w) X.A (eval e X.env) (EP X pins σ Q) X.xe s
def PT (X : Cx) (e : Expr) (t : TT) : Prop :=
  ∀ (pins : List (Addr × Obj)) (s : Shared) (σ : St) (H : Hp) (Q : Bool → Hp → Prop), Inv X pins σ H s → t σ H Q → wpAny (model X.prog X.w) X.A (isTrue e X.env (eval e X.env)) (TP X pins σ Q) X.xe s
/-- a test whatever its 'whole' is (and, or) -/
def PW (X : Cx) (e : Expr) (t : TT) : Prop :=
  ∀ (whole : Sem Value) (pins : List (Addr × Obj)) (s : Shared) (σ : St) (H : Hp) (Q : Bool → Hp → Prop), Inv X pins σ H s → t σ H Q → wpAny (model X.prog X.w) X.A (isTrue e X.env whole) (TP X pins σ Q) X.xe s
theorem PW.pt {X : Cx} {e : Expr} {t : TT} (h : PW X e t) : PT X e t := h _
/-- an argument list (no star), from the left -/
def PA (X : Cx) (es : List Expr) (t : TA) : Prop :=
  ∀ (pos : Pos) (pins : List (Addr × Obj)) (s : Shared) (σ : St) (H : Hp) (Q : List V → Hp → Prop), Inv X pins σ H s → t σ H Q → wpAny (model X.prog X.w) X.A (spliced (backTo pos (starEach es X.env))) (AP X pins σ Q) X.xe s
def PS (X : Cx) (st : Stmt) (t : TS) : Prop :=
  ∀ (pins : List (Addr × Obj)) (s : Shared) (σ : St) (H : Hp) (D : Ends), Inv X pins σ H s → t D σ H → wpAny (model X.prog X.w) X.A (exec st X.env) (SP X pins D) X.xe s
def PSs (X : Cx) (st : List Stmt) (t : TS) : Prop :=
  ∀ (pins : List (Addr × Obj)) (s : Shared) (σ : St) (H : Hp) (D : Ends), Inv X pins σ H s → t D σ H → wpAny (model X.prog X.w) X.A (execs st X.env) (SP X pins D) X.xe s
/-- weaken the end -/
theorem thn {α : Type} {t : Sem α} {Q Q' : α → Shared → Prop} {M : Model} {A : Around} {E : Value → Shared → Prop} {s : Shared} (h : wpAny M A t Q E s) (hQ : ∀ a s, Q a s → Q' a s) : wpAny M A t Q' E s := wpAny_mono h hQ fun _ _ x => x
end L2

namespace L2
open PySem PySem.Spec PyProof.Rows
section
variable {X : Cx}

/-! ### names and constants -/
def tVar (i : Nat) : TE := fun σ H Q => ∃ v, σ[i]? = some (some v) ∧ Q v H
def tC (v : V) : TE := fun _ H Q => Q v H
theorem pe_var {i : Nat} {x : Str} {pos : Pos} (hN : X.N[i]? = some x) (hv : Vis X.env.scope x) (hd : (x == ("__debug__" : Str)) = false := by decide) (hcd : (x == ("__classdict__" : Str)) = false := by decide) : PE X (.Name x pos) (tVar i) := by
  intro pins s σ H Q I h
  obtain ⟨v, e, h⟩ := h
  obtain ⟨m, hn, hl⟩ := I.loc
  obtain ⟨u, r, l⟩ := hl i x v hN e hv
  have fin : EP X pins σ Q u s := ⟨v, H, I, r, h⟩
  rcases l with ⟨hk, hm⟩ | ⟨hk, c, hc, hcell⟩
  · exact wpAny_Name (wpAny_loadName_local I.ok.kind hk hn hm fin) hd
  · rcases hk with hk | hk
    · exact wpAny_Name (wpAny_loadName_cell I.ok.kind hk hc hcell fin) hd
    · exact wpAny_Name (wpAny_loadName_free I.ok.kind hk hc hcell fin hcd) hd
theorem pe_int {i j pos} : PE X (.Constant (.int i) j pos) (tC (.int i)) := fun _ _ _ H _ I h => wpAny_Constant_int ⟨.int i, H, I.tok _, ⟨_, rfl⟩, h⟩
theorem pe_bl {b j pos} : PE X (.Constant (.bool b) j pos) (tC (.bl b)) := fun _ _ _ H _ I h => Constant_bool ⟨.bl b, H, I, rfl, h⟩
theorem pe_non {j pos} : PE X (.Constant .none j pos) (tC .non) := fun _ _ _ H _ I h => Constant_none ⟨.non, H, I, rfl, h⟩
theorem pe_str {x j pos} : PE X (.Constant (.str x) j pos) (tC (.str x)) := fun _ _ _ H _ I h => Calls.Constant_str ⟨.str x, H, I.tok _, ⟨_, rfl⟩, h⟩

/-- a global name of the def -/
def Gl (X : Cx) (x : Str) : Prop := X.env.kindOf x = some .globalImplicit
theorem ld_glob {E : Value → Shared → Prop} {pins : List (Addr × Obj)} {s : Shared} {σ : St} {H : Hp} {x : Str} {u : Value} {pos : Pos} {Q : Value → Shared → Prop} (I : Inv X pins σ H s) (hg : Gl X x) (hm : X.mg x = some u) (h : Q u s)
    (hd : (x == ("__debug__" : Str)) = false := by decide) : wpAny (model X.prog X.w) X.A (eval (.Name x pos) X.env) Q E s :=
  Calls.Name_function_global I.ok.kind hg (Calls.loadGlobal_global (by rw [I.ok.glob]; exact I.mod.glob.keeps I.bk) hm h) hd
theorem ld_blt {E : Value → Shared → Prop} {pins : List (Addr × Obj)} {s : Shared} {σ : St} {H : Hp} {x : Str} {u : Value} {pos : Pos} {Q : Value → Shared → Prop} (I : Inv X pins σ H s) (hg : Gl X x) (hm : X.mg x = none) (hv : bootBuiltins x = some u) (h : Q u s)
    (hn : x ≠ "__name__" := by decide) (hd : (x == ("__debug__" : Str)) = false := by decide) : wpAny (model X.prog X.w) X.A (eval (.Name x pos) X.env) Q E s := by
  obtain ⟨mb, h1, h2⟩ := I.mod.blt
  exact Calls.Name_function_global I.ok.kind hg (Calls.loadGlobal_builtin (by rw [I.ok.glob]; exact I.mod.glob.keeps I.bk) hm (by rw [I.ok.blt]; exact h1.keeps I.bk) ((h2 x hn).trans hv) h) hd
/-- a module's constant, a class, a function, as a value -/
theorem pe_glob {x : Str} {v : V} {u : Value} {pos : Pos} (hg : Gl X x) (hm : X.mg x = some u) (r : RelV v u) (hd : (x == ("__debug__" : Str)) = false := by decide) : PE X (.Name x pos) (tC v) :=
  fun _ _ _ H _ I h => ld_glob I hg hm ⟨v, H, I, r, h⟩ hd
theorem pe_bltn {x : Str} {v : V} {u : Value} {pos : Pos} (hg : Gl X x) (hm : X.mg x = none) (hv : bootBuiltins x = some u) (r : RelV v u) (hn : x ≠ "__name__" := by decide) (hd : (x == ("__debug__" : Str)) = false := by decide) : PE X (.Name x pos) (tC v) :=
  fun _ _ _ H _ I h => ld_blt I hg hm hv ⟨v, H, I, r, h⟩ hn hd

/-! ### arithmetic -/
variable {a b : Expr} {ta tb : TE} {pos : Pos}
/-! ### comparisons -/
/-- a comparison as a value, as a test -/
def tB (t : TE) : TT := fun σ H Q => t σ H fun x H1 => ∃ c, x = .bl c ∧ Q c H1
/-- an expression whose value is a bool, as a test -/
theorem pt_val {e : Expr} {t : TE} (h : PE X e t) (he : ∀ whole, isTrue e X.env whole = (do let v ← whole; standAt e.pos; holding [v] (truthy v)) := by intro _; rfl) : PT X e (tB t) := by
  intro pins s σ H Q I hw
  refine isTrue_plain (thn (h pins s σ H _ I hw) fun v s1 ⟨x, H1, I1, r1, q1⟩ => ?_) (he _)
  obtain ⟨d, rfl, q⟩ := q1
  cases r1
  exact wpAny_truthy_bool ⟨H1, I1, q⟩

/-! ### and, or, not -/
variable {tA tB' : TT} {rest : List Expr}
def tAnd (t u : TT) : TT := fun σ H Q => t σ H fun c H1 => if c = true then u σ H1 Q else Q false H1
def tOr (t u : TT) : TT := fun σ H Q => t σ H fun c H1 => if c = true then Q true H1 else u σ H1 Q
def tNot (t : TT) : TT := fun σ H Q => t σ H fun c H1 => Q (!c) H1
theorem pw_and1 (ha : PT X a tA) : PW X (.BoolOp .And [a] pos) tA := by
  intro wh pins s σ H Q I h
  refine isTrue_and (thn (ha pins s σ H Q I h) fun c s1 e => ?_)
  cases c with
  | true => exact isTrue_and_nil e
  | false => exact e
theorem pw_or1 (ha : PT X a tA) : PW X (.BoolOp .Or [a] pos) tA := by
  intro wh pins s σ H Q I h
  refine isTrue_or (thn (ha pins s σ H Q I h) fun c s1 e => ?_)
  cases c with
  | false => exact isTrue_or_nil e
  | true => exact e
theorem pw_and (ha : PT X a tA) (hb : PW X (.BoolOp .And (b :: rest) pos) tB') : PW X (.BoolOp .And (a :: b :: rest) pos) (tAnd tA tB') := by
  intro wh pins s σ H Q I h
  refine isTrue_and (thn (ha pins s σ H _ I h) fun c s1 ⟨H1, I1, q1⟩ => ?_)
  cases c with
  | true => exact hb wh pins s1 σ H1 Q I1 q1
  | false => exact ⟨H1, I1, q1⟩
theorem pw_or (ha : PT X a tA) (hb : PW X (.BoolOp .Or (b :: rest) pos) tB') : PW X (.BoolOp .Or (a :: b :: rest) pos) (tOr tA tB') := by
  intro wh pins s σ H Q I h
  refine isTrue_or (thn (ha pins s σ H _ I h) fun c s1 ⟨H1, I1, q1⟩ => ?_)
  cases c with
  | true => exact ⟨H1, I1, q1⟩
  | false => exact hb wh pins s1 σ H1 Q I1 q1
theorem pt_not (ha : PT X a tA) : PT X (.UnaryOp .Not a pos) (tNot tA) := by
  intro pins s σ H Q I h
  exact isTrue_not (ha pins s σ H (fun c H1 => Q (!c) H1) I h)
/-- .. as values (bools) -/
def tAndV (ta tb : TE) : TE := fun σ H Q => ta σ H fun x H1 => ∃ c, x = .bl c ∧ if c = true then tb σ H1 Q else Q (.bl false) H1
def tOrV (ta tb : TE) : TE := fun σ H Q => ta σ H fun x H1 => ∃ c, x = .bl c ∧ if c = true then Q (.bl true) H1 else tb σ H1 Q
def tNotV (ta : TE) : TE := fun σ H Q => ta σ H fun x H1 => ∃ c, x = .bl c ∧ Q (.bl (!c)) H1
theorem pe_one {op} {t : TE} (h : PE X a t) : PE X (.BoolOp op [a] pos) t := fun pins s σ H Q I hw => BoolOp_one (h pins s σ H Q I hw)
theorem pe_and (ha : PE X a ta) (hb : PE X (.BoolOp .And (b :: rest) pos) tb) : PE X (.BoolOp .And (a :: b :: rest) pos) (tAndV ta tb) := by
  intro pins s σ H Q I h
  refine BoolOp_and (thn (ha pins s σ H _ I h) fun v s1 ⟨x, H1, I1, r1, q1⟩ => ?_)
  obtain ⟨c, rfl, q1⟩ := q1
  cases r1
  refine wpAny_truthy_bool ?_
  cases c with
  | true => exact hb pins s1 σ H1 Q I1 q1
  | false => exact ⟨.bl false, H1, I1, rfl, q1⟩
/-- a if t else b -/
def tIf (t : TT) (ta tb : TE) : TE := fun σ H Q => t σ H fun c H1 => if c = true then ta σ H1 Q else tb σ H1 Q
theorem pe_ifExp {c : Expr} (hc : PT X c tA) (ha : PE X a ta) (hb : PE X b tb) : PE X (.IfExp c a b pos) (tIf tA ta tb) := by
  intro pins s σ H Q I h
  refine wpAny_IfExp (thn (hc pins s σ H _ I h) fun d s1 ⟨H1, I1, q1⟩ => ?_)
  cases d with
  | true => exact ha pins s1 σ H1 Q I1 q1
  | false => exact hb pins s1 σ H1 Q I1 q1
end
end L2

namespace L2
open PySem PySem.Spec PyProof.Rows

/-! ### a list, a tuple that is read: tracked, frozen, or an object of the module -/
def SqL (K : PySem.W.Frag) (H : Hp) (a : Addr) (xs : List V) : Prop :=
  Rd H a (.lst xs) ∨
    ∃ (o : Obj) (its : Array Value) (n : Nat), K.lookup a = some o ∧ o.cls = .type "list" ∧ o.dict = none ∧ o.data = .seq its n ∧ its.size ≤ sizeLine ∧ Vals xs its.toList
def SqT (K : PySem.W.Frag) (H : Hp) (a : Addr) (xs : List V) : Prop :=
  Rd H a (.tup xs) ∨
    ∃ (o : Obj) (its : Array Value) (n : Nat), K.lookup a = some o ∧ o.cls = .type "tuple" ∧ o.data = .seq its n ∧ its.size ≤ sizeLine ∧ Vals xs its.toList
def absV : Value → Option V
  | .none => some .non
  | .bool b => some (.bl b)
  | .int i _ => some (.int i)
  | .str x _ => some (.str x)
  | .bytes b _ => some (.byt b)
  | .float b _ => some (.flt b)
  | .ref a => some (.ref a)
  | .type n => some (.ty n)
  | _ => none
theorem RelV.abs {x : V} {u : Value} (r : RelV x u) : absV u = some x := by
  cases x with
  | non => cases r; rfl
  | bl _ => cases r; rfl
  | int _ => obtain ⟨t, rfl⟩ := r; rfl
  | str _ => obtain ⟨t, rfl⟩ := r; rfl
  | byt _ => obtain ⟨t, rfl⟩ := r; rfl
  | flt _ => obtain ⟨t, rfl⟩ := r; rfl
  | ref _ => cases r; rfl
  | ty _ => cases r; rfl
theorem RelV.inj {x y : V} {u : Value} (r : RelV x u) (q : RelV y u) : x = y := Option.some.inj (r.abs.symm.trans q.abs)
theorem Vals.inj : ∀ {xs ys : List V} {us : List Value}, Vals xs us → Vals ys us → xs = ys
  | _, _, _, .nil, .nil => rfl
  | _, _, _, .cons r t, .cons r' t' => by rw [r.inj r', Vals.inj t t']
section
variable {X : Cx} {pins : List (Addr × Obj)} {σ : St} {H : Hp} {s : Shared} {a : Addr} {xs ys : List V}
theorem SqL.of {K : PySem.W.Frag} (h : H a = some (.lst xs)) : SqL K H a xs := .inl (.inl h)
theorem SqT.of {K : PySem.W.Frag} (h : H a = some (.tup xs)) : SqT K H a xs := .inl (.inl h)
theorem Inv.list (I : Inv X pins σ H s) (h : SqL X.K H a xs) : ∃ its : List Value, Vals xs its ∧ PlainL s.heap a its.toArray ∧ xs.length ≤ sizeLine := by
  rcases h with h | ⟨o, its, n, hk, hc, hd, hs, hz, r⟩
  · obtain ⟨z, its, n, r, e⟩ := h.ok I.hok
    exact ⟨its, r, ⟨_, n, e, rfl, rfl, rfl⟩, z⟩
  · refine ⟨its.toList, r, ⟨o, n, I.kIn a o hk, hc, hd, by simpa using hs⟩, ?_⟩
    have e := r.length
    simp only [Array.length_toList] at e
    omega
theorem Inv.tuple (I : Inv X pins σ H s) (h : SqT X.K H a xs) : ∃ its : List Value, Vals xs its ∧ IsTup s.heap a its.toArray ∧ xs.length ≤ sizeLine := by
  rcases h with h | ⟨o, its, n, hk, hc, hs, hz, r⟩
  · obtain ⟨z, its, r, p⟩ := h.ok I.hok
    exact ⟨its, r, p, z⟩
  · refine ⟨its.toList, r, ⟨o, I.kIn a o hk, hc, n, by simpa using hs⟩, ?_⟩
    have e := r.length
    simp only [Array.length_toList] at e
    omega
theorem Inv.list_inj (I : Inv X pins σ H s) (h : SqL X.K H a xs) (h' : SqL X.K H a ys) : xs = ys := by
  obtain ⟨its, r, ⟨o, n, e, _, _, d⟩, _⟩ := I.list h
  obtain ⟨its', r', ⟨o', n', e', _, _, d'⟩, _⟩ := I.list h'
  rw [e] at e'; cases e'
  rw [d] at d'
  injection d' with d1 _
  have : its = its' := by simpa using congrArg Array.toList d1
  subst this
  exact r.inj r'
theorem Inv.tuple_inj (I : Inv X pins σ H s) (h : SqT X.K H a xs) (h' : SqT X.K H a ys) : xs = ys := by
  obtain ⟨its, r, ⟨o, e, _, n, d⟩, _⟩ := I.tuple h
  obtain ⟨its', r', ⟨o', e', _, n', d'⟩, _⟩ := I.tuple h'
  rw [e] at e'; cases e'
  rw [d] at d'
  injection d' with d1 _
  have : its = its' := by simpa using congrArg Array.toList d1
  subst this
  exact r.inj r'
end

/-! ### another wish about exceptions -/
abbrev Cx.wish (X : Cx) (E : Value → Shared → Prop) : Cx := { X with xe := E }
/-- no exception leaves -/
abbrev Cx.nox (X : Cx) : Cx := X.wish fun _ _ => False
theorem Cx.Ok.wish {X : Cx} (ok : X.Ok) (E : Value → Shared → Prop) : (X.wish E).Ok :=
  ⟨ok.mod, ok.kind, ok.glob, ok.blt, ok.above, ok.inj, ok.has, ok.cab, ok.hd, ok.frames, ok.stk, ok.exf, ok.bs, ok.bsz, ok.noex, ok.exfs, ok.funs, ok.frf⟩
theorem Cx.Ok.unwish {X : Cx} {E : Value → Shared → Prop} (ok : (X.wish E).Ok) : X.Ok :=
  ⟨ok.mod, ok.kind, ok.glob, ok.blt, ok.above, ok.inj, ok.has, ok.cab, ok.hd, ok.frames, ok.stk, ok.exf, ok.bs, ok.bsz, ok.noex, ok.exfs, ok.funs, ok.frf⟩
section
variable {X : Cx} {pins : List (Addr × Obj)} {σ : St} {H : Hp} {s : Shared} {E : Value → Shared → Prop}
theorem Inv.wish (I : Inv X pins σ H s) (E : Value → Shared → Prop) : Inv (X.wish E) pins σ H s := ⟨I.ok.wish E, I.os, I.bare, I.base, I.loc, I.cell, I.free, I.freeC, I.pin, I.hok, I.len⟩
theorem Inv.unwish (I : Inv (X.wish E) pins σ H s) : Inv X pins σ H s := ⟨I.ok.unwish, I.os, I.bare, I.base, I.loc, I.cell, I.free, I.freeC, I.pin, I.hok, I.len⟩
theorem SP.unwish {D : Ends} {f : Flow} {s' : Shared} (h : SP (X.wish E) pins D f s') : SP X pins D f s' := by
  cases f with
  | next => obtain ⟨σ', H', I, q⟩ := h; exact ⟨σ', H', I.unwish, q⟩
  | brk => obtain ⟨σ', H', I, q⟩ := h; exact ⟨σ', H', I.unwish, q⟩
  | cont => obtain ⟨σ', H', I, q⟩ := h; exact ⟨σ', H', I.unwish, q⟩
  | ret u => obtain ⟨v, σ', H', I, r, q⟩ := h; exact ⟨v, σ', H', I.unwish, r, q⟩
theorem PE.nox {e : Expr} {t : TE} (h : PE X.nox e t) : PE X e t := fun pins s σ H Q I hw =>
  wpAny_mono (h pins s σ H Q (I.wish _) hw) (fun _ _ ⟨v, H', I', r, q⟩ => ⟨v, H', I'.unwish, r, q⟩) fun _ _ z => False.elim z
theorem PT.nox {e : Expr} {t : TT} (h : PT X.nox e t) : PT X e t := fun pins s σ H Q I hw =>
  wpAny_mono (h pins s σ H Q (I.wish _) hw) (fun _ _ ⟨H', I', q⟩ => ⟨H', I'.unwish, q⟩) fun _ _ z => False.elim z
theorem PSs.nox {st : List Stmt} {t : TS} (h : PSs X.nox st t) : PSs X st t := fun pins s σ H D I hw =>
  wpAny_mono (h pins s σ H D (I.wish _) hw) (fun _ _ q => q.unwish) fun _ _ z => False.elim z
end

/-! ### blocks and small statements -/
section
variable {X : Cx} {st : Stmt} {rest : List Stmt} {t u : TS} {e : Expr} {te : TE} {pos : Pos}
def tNext : TS := fun D σ H => D.nx σ H
def tSeq (t u : TS) : TS := fun D σ H => t { D with nx := u D } σ H
theorem pss_nil : PSs X [] tNext := fun _ _ σ H _ I h => wpAny_execs_nil ⟨σ, H, I, h⟩
theorem pss_cons (h1 : PS X st t) (h2 : PSs X rest u) : PSs X (st :: rest) (tSeq t u) := by
  intro pins s σ H D I h
  refine wpAny_execs_cons (thn (h1 pins s σ H { D with nx := u D } I h) fun f s1 q => ?_)
  cases f with
  | next =>
    obtain ⟨σ', H', I', q⟩ := q
    exact h2 pins s1 σ' H' D I' q
  | ret v => exact q
  | brk => exact q
  | cont => exact q
theorem pss_one (h1 : PS X st t) : PSs X [st] t := by
  intro pins s σ H D I h
  refine wpAny_execs_cons (thn (h1 pins s σ H D I h) fun f s1 q => ?_)
  cases f with
  | next => exact wpAny_execs_nil q
  | ret v => exact q
  | brk => exact q
  | cont => exact q
/-- in a def's body nothing is shown -/
theorem Inv.quiet {pins : List (Addr × Obj)} {σ : St} {H : Hp} {s : Shared} (I : Inv X pins σ H s) : interactive X.env = false := by simp [interactive, I.ok.kind]
/-- an expression whose value is dropped -/
def tDrop (te : TE) : TS := fun D σ H => te σ H fun _ H1 => D.nx σ H1
theorem ps_expr (he : PE X e te) (hs : swapsWith e none pos.line X.env = pure false := by rfl) : PS X (.Expr e pos) (tDrop te) := by
  intro pins s σ H D I h
  exact wpAny_Expr_any (thn (he pins s σ H _ I h) fun v s1 ⟨x, H1, I1, r1, q1⟩ => ⟨σ, H1, I1, q1⟩) I.quiet hs
def tRet (te : TE) : TS := fun D σ H => te σ H D.rt
theorem ps_ret (he : PE X e te) : PS X (.Return (some e) pos) (tRet te) := by
  intro pins s σ H D I h
  exact wpAny_Return_some (thn (he pins s σ H _ I h) fun v s1 ⟨x, H1, I1, r1, q1⟩ => ⟨x, σ, H1, I1, r1, q1⟩)
def tRetN : TS := fun D _ H => D.rt .non H
def tIfS (c : TT) (t u : TS) : TS := fun D σ H => c σ H fun b H1 => if b = true then t D σ H1 else u D σ H1
theorem ps_if {c : Expr} {a b : List Stmt} {tc : TT} (hc : PT X c tc) (ha : PSs X a t) (hb : PSs X b u) : PS X (.If c a b pos) (tIfS tc t u) := by
  intro pins s σ H D I h
  refine wpAny_If (thn (hc pins s σ H _ I h) fun d s1 ⟨H1, I1, q1⟩ => ?_)
  cases d with
  | true => exact ha pins s1 σ H1 D I1 q1
  | false => exact hb pins s1 σ H1 D I1 q1
/-- code that the proof never comes to -/
def tNever : TS := fun _ _ _ => False
theorem ps_never : PS X st tNever := fun _ _ _ _ _ _ h => h.elim
end

/-! ### targets -/
abbrev TG := V → St → Hp → (St → Hp → Prop) → Prop
abbrev TGs := List V → St → Hp → (St → Hp → Prop) → Prop
def PG (X : Cx) (target : Expr) (t : TG) : Prop :=
  ∀ (pins : List (Addr × Obj)) (s : Shared) (σ : St) (H : Hp) (v : V) (u : Value) (Q : St → Hp → Prop), Inv X pins σ H s → RelV v u → t v σ H Q →
    wpAny (model X.prog X.w) X.A (assign target X.env u) (fun _ s' => ∃ σ' H', Inv X pins σ' H' s' ∧ Q σ' H') X.xe s
/-- several targets, one after another -/
def PGs (X : Cx) (ts : List Expr) (t : TGs) : Prop :=
  ∀ (pins : List (Addr × Obj)) (s : Shared) (σ : St) (H : Hp) (vs : List V) (us : List Value) (Q : St → Hp → Prop), Inv X pins σ H s → Vals vs us → t vs σ H Q →
    wpAny (model X.prog X.w) X.A (assignInOrder ((assignEach ts X.env).map (·.2)) us) (fun _ s' => ∃ σ' H', Inv X pins σ' H' s' ∧ Q σ' H') X.xe s
/-- o[i] = v, by values -/
abbrev TSet := V → V → V → Hp → (Hp → Prop) → Prop
section
variable {X : Cx} {pos : Pos}
def gName (i : Nat) : TG := fun v σ H Q => Q (σ.set i (some v)) H
theorem pg_name {i : Nat} {x : Str} (hN : X.N.Nodup) (hi : X.N[i]? = some x) (hx : Loc X.env.scope x) (hf : X.fn x = true ∨ X.env.scope.names.lookup x = some .local := by first | exact .inl rfl | exact .inr rfl | assumption) : PG X (.Name x pos) (gName i) := by
  intro pins s σ H v u Q I r h
  exact wpAny_assign_Name (store_ok I hN hi hx r (fun s' I' => ⟨_, H, I', h⟩) hf)
def gNil : TGs := fun vs σ H Q => vs = [] ∧ Q σ H
def gCons (t : TG) (u : TGs) : TGs := fun vs σ H Q => ∃ v r, vs = v :: r ∧ t v σ H fun σ' H' => u r σ' H' Q
theorem pgs_nil : PGs X [] gNil := by
  intro pins s σ H vs us Q I r h
  obtain ⟨e, h⟩ := h
  subst e
  cases r
  exact assignInOrder_nil ⟨σ, H, I, h⟩
theorem pgs_cons {e : Expr} {es : List Expr} {t : TG} {u : TGs} (h1 : PG X e t) (h2 : PGs X es u)
    (hs : (assignEach (e :: es) X.env).map (·.2) = assign e X.env :: (assignEach es X.env).map (·.2) := by rfl) : PGs X (e :: es) (gCons t u) := by
  intro pins s σ H vs us Q I r h
  obtain ⟨v, vr, e1, h⟩ := h
  subst e1
  cases r with
  | cons r rr =>
    rw [hs]
    refine assignInOrder_cons (thn (h1 pins s σ H _ _ _ I r h) fun _ s1 ⟨σ1, H1, I1, q1⟩ => ?_)
    exact h2 pins s1 σ1 H1 _ _ Q I1 rr q1
/-- (a, b, ..) = a tuple of that length -/
def gTup (K : PySem.W.Frag) (n : Nat) (t : TGs) : TG := fun v σ H Q => ∃ a xs, v = .ref a ∧ SqT K H a xs ∧ xs.length = n ∧ t xs σ H Q
theorem pg_tup {es : List Expr} {k : Nat} {t : TGs} {n : Nat} (hc : X.calm = true) (h : PGs X es t)
    (hn : (assignEach es X.env).length = n := by rfl) (hst : (assignEach es X.env).findIdx? (·.1) = none := by rfl) : PG X (.Tuple es k pos) (gTup X.K n t) := by
  intro pins s σ H v u Q I r hw
  obtain ⟨a, xs, e1, hq, hl, hw⟩ := hw
  subst e1
  cases r
  obtain ⟨its, rv, ht, hz⟩ := I.tuple hq
  refine assign_Tuple_tuple (I.ok.hd hc) ht (by simp [hn, ← hl, rv.length]) hst fun h' hx => ?_
  have I1 : Inv X pins σ H { s with heap := h' } := I.kept (t' := s.toks) fun b o e => hx b o (Nat.ne_of_lt (Heap.lt_size e)) e
  exact h pins _ σ H xs _ Q I1 (by simpa using rv) hw
/-- o[i] = .. -/
def gSub (to ti : TE) (t : TSet) : TG := fun v σ H Q => to σ H fun o H1 => ti σ H1 fun i H2 => t o i v H2 fun H3 => Q σ H3
/-- target = value -/
def tAsg (te : TE) (g : TG) : TS := fun D σ H => te σ H fun x H1 => g x σ H1 D.nx
/-- name = value -/
theorem ps_set {i : Nat} {x : Str} {e : Expr} {te : TE} {pos' : Pos} (hN : X.N.Nodup) (hi : X.N[i]? = some x) (hx : Loc X.env.scope x) (he : PE X e te) (hs : swapsWith e (some (.Name x pos')) pos.line X.env = pure false := by rfl) (hf : X.fn x = true ∨ X.env.scope.names.lookup x = some .local := by first | exact .inl rfl | exact .inr rfl | assumption) :
    PS X (.Assign [.Name x pos'] e pos) (tAsg te (gName i)) := by
  intro pins s σ H D I h
  refine wpAny_Assign_Name (thn (he pins s σ H _ I h) fun v s1 ⟨y, H1, I1, r1, q1⟩ => ?_) hs
  exact store_ok I1 hN hi hx r1 (fun s2 I2 => ⟨_, H1, I2, q1⟩) hf
end

/-! ### while -/
section
variable {X : Cx} {pos : Pos}
end

/-! ### what a loop or a comprehension walks -/
/-- at turn i: it yields x (the heap may grow), or it stops -/
structure It where
  go : Nat → Hp → Prop
  yld : Nat → Hp → V → Hp → Prop
  stop : Nat → Hp → Prop
/-- the iterator's own objects may turn: they are not the frame's, not pinned, younger than the entry (or a comprehension's own) -/
def FpOk (X : Cx) (pins : List (Addr × Obj)) (H : Hp) (b : Addr) : Prop :=
  H b = none ∧ b ≠ X.env.locals ∧ b ∉ X.fs ∧ (b ∈ X.ex ∨ X.s₀.heap.objs.size ≤ b) ∧ (∀ x c, X.env.cells.lookup x = some c → c ≠ b) ∧ ∀ p ∈ X.pn ++ pins, p.1 ≠ b
theorem Inv.fpOk {X : Cx} {pins : List (Addr × Obj)} {σ : St} {H H' : Hp} {s : Shared} {b : Addr} (I : Inv X pins σ H s) (hb : s.heap.objs.size ≤ b) (hn : H' b = none) : FpOk X pins H' b := by
  refine ⟨hn, Nat.ne_of_gt (Nat.lt_of_lt_of_le I.lt hb), I.nofs hb, .inr (Nat.le_trans I.sz hb), fun x c e z => ?_, fun p hp z => ?_⟩
  · obtain ⟨v, q⟩ := I.cell x c e
    exact absurd (Nat.lt_of_lt_of_le q.lt (by rw [z]; exact hb)) (Nat.lt_irrefl _)
  · exact absurd (Nat.lt_of_lt_of_le (Heap.lt_size (I.pin p hp).1) (by rw [z]; exact hb)) (Nat.lt_irrefl _)
structure Turn (P : Program) (w : World) (K : PySem.W.Frag) (tg : Expr) (J : It) (fp : List Addr) (it : Addr) (tn : Nat → Heap → Prop) : Prop where
  mem : it ∈ fp
  obj : ∀ i h, tn i h → ∀ b ∈ fp, ∃ o, h.get? b = some o ∧ ∀ v, o.data ≠ .cell v
  keep : ∀ i h h', tn i h → (∀ b ∈ fp, ∀ o, h.get? b = some o → h'.get? b = some o) → tn i h'
  item : ∀ (X : Cx), X.prog = P → X.w = w → X.K = K → X.calm = true → ∀ (i : Nat) (pins : List (Addr × Obj)) (s : Shared) (σ : St) (H : Hp) (E : Value → Shared → Prop), Inv X pins σ H s → (∀ b ∈ fp, FpOk X pins H b) → tn i s.heap → J.go i H →
    wpAny (model P w) X.A (pyNext (.ref it)) (fun r s1 => ∃ u, r = some u ∧
      wpAny (model P w) X.A (letOwnedTupleGo tg (.ref it) u) (fun _ s2 => ∃ x H', Inv X pins σ H' s2 ∧ RelV x u ∧ J.yld i H x H' ∧ tn (i + 1) s2.heap ∧ ∀ b ∈ fp, H' b = none) E s1) E s
  done : ∀ (X : Cx), X.prog = P → X.w = w → X.K = K → X.calm = true → ∀ (i : Nat) (pins : List (Addr × Obj)) (s : Shared) (σ : St) (H : Hp) (E : Value → Shared → Prop), Inv X pins σ H s → (∀ b ∈ fp, FpOk X pins H b) → tn i s.heap → J.stop i H →
    wpAny (model P w) X.A (pyNext (.ref it)) (fun r s1 => r = none ∧ Inv X pins σ H s1) E s
  self : ∀ (A : Around) (i : Nat) (s : Shared) (Q : Value → Shared → Prop) (E : Value → Shared → Prop), tn i s.heap → Q (.ref it) s → wpAny (model P w) A (pyIter (.ref it)) Q E s
abbrev TI := St → Hp → (It → Hp → Prop) → Prop
/-- an iterator has come -/
def PIE (X : Cx) (pins : List (Addr × Obj)) (σ : St) (tg : Expr) (R : It → Hp → Prop) (itv : Value) (s2 : Shared) : Prop :=
  ∃ (it : Addr) (fp : List Addr) (tn : Nat → Heap → Prop) (J : It) (H' : Hp), itv = .ref it ∧ Inv X pins σ H' s2 ∧ Turn X.prog X.w X.K tg J fp it tn ∧ tn 0 s2.heap ∧ (∀ b ∈ fp, FpOk X pins H' b) ∧ R J H'
def PI (X : Cx) (tg iter : Expr) (wi : TI) : Prop :=
  ∀ (pins : List (Addr × Obj)) (s : Shared) (σ : St) (H : Hp) (R : It → Hp → Prop), Inv X pins σ H s → wi σ H R →
    wpAny (model X.prog X.w) X.A (eval iter X.env) (fun v s1 => wpAny (model X.prog X.w) X.A (pyIter v) (PIE X pins σ tg R) X.xe s1) X.xe s

/-- the step ahead of the store is nothing for an iterator that keeps no tuple -/
theorem go_of {M : Model} {A : Around} {E : Value → Shared → Prop} {s : Shared} {tg : Expr} {it : Addr} {u : Value} {o : Obj} {n : String} {vs : Array Value} {Q : Unit → Shared → Prop} (ho : s.heap.get? it = some o) (hc : o.cls = .type n) (hd : o.data = .fields vs)
    (hn : ["enumerate", "zip", "dict_itemiterator", "dict_reverseitemiterator", "odict_iterator", "itertools.zip_longest", "itertools.pairwise"].contains n = false) (hQ : Q () s) : wpAny M A (letOwnedTupleGo tg (.ref it) u) Q E s := by
  unfold letOwnedTupleGo
  cases tg <;> first
    | exact wpAny_pure hQ
    | (cases u <;> first
        | exact wpAny_pure hQ
        | (refine wpAny_bind (wpAny_load ho ?_)
           rw [hc, hd]
           show wpAny M A (if (["enumerate", "zip", "dict_itemiterator", "dict_reverseitemiterator", "odict_iterator", "itertools.zip_longest", "itertools.pairwise"].contains n && vs[0]? == some (rawInt _)) = true then _ else _) Q E s
           rw [if_neg (by intro h; rw [hn, Bool.false_and] at h; cases h)]
           exact wpAny_pure hQ))

/-- the list at a, as it stands at each turn (a loop may append to it) -/
def Itl (K : PySem.W.Frag) (a : Addr) : It :=
  ⟨fun i H => ∃ xs x, SqL K H a xs ∧ xs[i]? = some x, fun i H x H' => H' = H ∧ ∀ xs, SqL K H a xs → xs[i]? = some x, fun i H => ∃ xs, SqL K H a xs ∧ xs.length ≤ i⟩
def Itt (K : PySem.W.Frag) (a : Addr) : It :=
  ⟨fun i H => ∃ xs x, SqT K H a xs ∧ xs[i]? = some x, fun i H x H' => H' = H ∧ ∀ xs, SqT K H a xs → xs[i]? = some x, fun i H => ∃ xs, SqT K H a xs ∧ xs.length ≤ i⟩
/-- lo, lo + 1, .. (n of them) -/
def Itr (lo : Int) (n : Nat) : It := ⟨fun i _ => i < n, fun i H x H' => H' = H ∧ x = .int (lo + i), fun i _ => n ≤ i⟩
theorem turn_list {P : Program} {w : World} {K : PySem.W.Frag} {tg : Expr} (a it : Addr) : Turn P w K tg (Itl K a) [it] it (fun i h => h.IsListIter it a i) where
  mem := by simp
  obj := fun i h st b hb => by
    have e : b = it := by simpa using hb
    subst e
    obtain ⟨o, e, c, d⟩ := st
    exact ⟨o, e, fun v z => by rw [d] at z; cases z⟩
  keep := fun i h h' st k => st.at fun o e => k it (by simp) o e
  item := by
    intro X hP hw hK hc i pins s σ H E I hf st hg
    subst hP hw hK
    obtain ⟨xs, x, hq, hx⟩ := hg
    obtain ⟨its, rv, p, hz⟩ := I.list hq
    obtain ⟨u, hu, ru⟩ := rv.get hx
    obtain ⟨f0, f1, f2, f3, f4, f5⟩ := hf it (by simp)
    refine wpAny_pyNext_list_item st p.isList (x := u) (by simpa using hu) fun h' st' sb => ?_
    have I1 : Inv X pins σ H { s with heap := h' } := I.turned (t' := s.toks) (fun b o hb e => (sb.2 b hb).trans e) f0 f1 f3 f4 f5
    obtain ⟨o, e, c, d⟩ := id st'
    exact ⟨u, rfl, go_of (s := { s with heap := h' }) e c d (by decide) ⟨x, H, I1, ru, ⟨rfl, fun ys hy => by rw [I.list_inj hy hq]; exact hx⟩, st', fun b hb => (hf b hb).1⟩⟩
  done := by
    intro X hP hw hK hc i pins s σ H E I hf st hg
    subst hP hw hK
    obtain ⟨xs, hq, hx⟩ := hg
    obtain ⟨its, rv, p, hz⟩ := I.list hq
    obtain ⟨f0, f1, f2, f3, f4, f5⟩ := hf it (by simp)
    have hl := rv.length
    exact wpAny_pyNext_list_end (I.ok.hd hc) st p.isList (by simp; omega) fun h' eb => ⟨rfl, I.turned (t' := s.toks) (fun b o hb e => eb b o hb e) f0 f1 f3 f4 f5⟩
  self := fun _ _ _ _ _ st h => wpAny_pyIter_listiter st h
theorem turn_tuple {P : Program} {w : World} {K : PySem.W.Frag} {tg : Expr} (a it : Addr) : Turn P w K tg (Itt K a) [it] it (fun i h => h.IsTupleIter it a i) where
  mem := by simp
  obj := fun i h st b hb => by
    have e : b = it := by simpa using hb
    subst e
    obtain ⟨o, e, c, d⟩ := st
    exact ⟨o, e, fun v z => by rw [d] at z; cases z⟩
  keep := fun i h h' st k => st.at fun o e => k it (by simp) o e
  item := by
    intro X hP hw hK hc i pins s σ H E I hf st hg
    subst hP hw hK
    obtain ⟨xs, x, hq, hx⟩ := hg
    obtain ⟨its, rv, p, hz⟩ := I.tuple hq
    obtain ⟨u, hu, ru⟩ := rv.get hx
    obtain ⟨f0, f1, f2, f3, f4, f5⟩ := hf it (by simp)
    refine wpAny_pyNext_tuple_item st (show s.heap.IsTuple a its.toArray from p) (x := u) (by simpa using hu) fun h' st' sb => ?_
    have I1 : Inv X pins σ H { s with heap := h' } := I.turned (t' := s.toks) (fun b o hb e => (sb.2 b hb).trans e) f0 f1 f3 f4 f5
    obtain ⟨o, e, c, d⟩ := id st'
    exact ⟨u, rfl, go_of (s := { s with heap := h' }) e c d (by decide) ⟨x, H, I1, ru, ⟨rfl, fun ys hy => by rw [I.tuple_inj hy hq]; exact hx⟩, st', fun b hb => (hf b hb).1⟩⟩
  done := by
    intro X hP hw hK hc i pins s σ H E I hf st hg
    subst hP hw hK
    obtain ⟨xs, hq, hx⟩ := hg
    obtain ⟨its, rv, p, hz⟩ := I.tuple hq
    obtain ⟨f0, f1, f2, f3, f4, f5⟩ := hf it (by simp)
    have hl := rv.length
    exact wpAny_pyNext_tuple_end (I.ok.hd hc) st (show s.heap.IsTuple a its.toArray from p) (by simp; omega) fun h' eb => ⟨rfl, I.turned (t' := s.toks) (fun b o hb e => eb b o hb e) f0 f1 f3 f4 f5⟩
  self := fun _ _ _ _ _ st h => wpAny_pyIter_tupleiter st h
theorem turn_range {P : Program} {w : World} {K : PySem.W.Frag} {tg : Expr} (it : Addr) (lo : Int) (n : Nat) : Turn P w K tg (Itr lo n) [it] it (fun i h => IsRangeIter h it (lo + (i : Nat) * 1) ((n : Int) - (i : Nat)) 1) where
  mem := by simp
  obj := fun i h st b hb => by
    have e : b = it := by simpa using hb
    subst e
    exact ⟨_, st, fun v z => by
      have z' : Data.fields _ = Data.cell v := z
      cases z'⟩
  keep := fun i h h' st k => k it (by simp) _ st
  item := by
    intro X hP hw hK hc i pins s σ H E I hf st hg
    subst hP hw hK
    obtain ⟨f0, f1, f2, f3, f4, f5⟩ := hf it (by simp)
    have W := Walks.range (prog := X.prog) (w := X.w) (I.ok.hd hc) it lo 1 n
    refine W.item i s _ _ hg st fun v h' tk hv st' kk => ?_
    obtain ⟨t, rfl⟩ := hv
    have I1 : Inv X pins σ H { s with heap := h', toks := tk } := I.turned (fun b o hb e => kk b o (by simpa using hb) e) f0 f1 f3 f4 f5
    refine ⟨_, rfl, go_of (s := { s with heap := h', toks := tk }) (n := "range_iterator") st' rfl rfl (by decide) ⟨.int (lo + i), H, I1, ⟨t, ?_⟩, ⟨rfl, rfl⟩, st', fun b hb => (hf b hb).1⟩⟩
    rw [Int.mul_one]
  done := by
    intro X hP hw hK hc i pins s σ H E I hf st hg
    subst hP hw hK
    obtain ⟨f0, f1, f2, f3, f4, f5⟩ := hf it (by simp)
    exact wpAny_pyNext_range_end (I.ok.hd hc) st (by have : n ≤ i := hg; omega) fun h' eb => ⟨rfl, I.turned (t' := s.toks) (fun b o hb e => eb b o hb e) f0 f1 f3 f4 f5⟩
  self := fun _ _ _ _ _ st h => wpAny_pyIter_rangeiter st h
end L2

namespace L2
open PySem PySem.Spec PyProof.Rows
section
variable {X : Cx} {tg : Expr}
def iList (K : PySem.W.Frag) (tl : TE) : TI := fun σ H R => tl σ H fun x H1 => ∃ a, x = .ref a ∧ (∃ xs, SqL K H1 a xs) ∧ R (Itl K a) H1
def iTup (K : PySem.W.Frag) (tl : TE) : TI := fun σ H R => tl σ H fun x H1 => ∃ a, x = .ref a ∧ (∃ xs, SqT K H1 a xs) ∧ R (Itt K a) H1
theorem pi_list {l : Expr} {tl : TE} (hl : PE X l tl) : PI X tg l (iList X.K tl) := by
  intro pins s σ H R I h
  refine thn (hl pins s σ H _ I h) fun v s1 ⟨x, H1, I1, r1, q1⟩ => ?_
  obtain ⟨a, e, ⟨xs, hq⟩, q⟩ := q1
  subst e
  cases r1
  obtain ⟨its, rv, p, hz⟩ := I1.list hq
  refine wpAny_pyIter_list p.isList ?_
  refine ⟨s1.heap.objs.size, [s1.heap.objs.size], _, _, H1, rfl, I1.kept (t' := s1.toks) fun b o e => Heap.get?_push_of_some _ e, turn_list a _, ⟨_, Heap.get?_push_size _ rfl, rfl, rfl⟩, fun b hb => ?_, q⟩
  have e : b = s1.heap.objs.size := by simpa using hb
  subst e
  exact I1.fpOk (Nat.le_refl _) (I1.hok.fresh (Nat.le_refl _))
theorem pi_tup {l : Expr} {tl : TE} (hl : PE X l tl) : PI X tg l (iTup X.K tl) := by
  intro pins s σ H R I h
  refine thn (hl pins s σ H _ I h) fun v s1 ⟨x, H1, I1, r1, q1⟩ => ?_
  obtain ⟨a, e, ⟨xs, hq⟩, q⟩ := q1
  subst e
  cases r1
  obtain ⟨its, rv, p, hz⟩ := I1.tuple hq
  refine wpAny_pyIter_tuple (show s1.heap.IsTuple a its.toArray from p) ?_
  refine ⟨s1.heap.objs.size, [s1.heap.objs.size], _, _, H1, rfl, I1.kept (t' := s1.toks) fun b o e => Heap.get?_push_of_some _ e, turn_tuple a _, ⟨_, Heap.get?_push_size _ rfl, rfl, rfl⟩, fun b hb => ?_, q⟩
  have e : b = s1.heap.objs.size := by simpa using hb
  subst e
  exact I1.fpOk (Nat.le_refl _) (I1.hok.fresh (Nat.le_refl _))
/-- a range object just made, walked -/
theorem range_it {pins : List (Addr × Obj)} {σ : St} {H : Hp} {s : Shared} {R : It → Hp → Prop} {E : Value → Shared → Prop} {lo hi : Int} {t u v : Tok} {tk : Nat} (I : Inv X pins σ H s) (h1 : -(2 ^ 62) ≤ lo) (h2 : lo < 2 ^ 62) (h3 : -(2 ^ 62) ≤ hi) (h4 : hi < 2 ^ 62)
    (q : R (Itr lo (hi - lo).toNat) H) : wpAny (model X.prog X.w) X.A (pyIter (.ref s.heap.objs.size)) (PIE X pins σ tg R) E { s with heap := s.heap.push { cls := .type "range", data := .fields #[.int lo t, .int hi u, .int 1 v] }, toks := tk } := by
  refine wpAny_pyIter_range (IsRange.new ..) (small_one h1 h2 h3 h4) ?_
  have I1 : Inv X pins σ H { s with heap := s.heap.push { cls := .type "range", data := .fields #[.int lo t, .int hi u, .int 1 v] }, toks := tk } := I.kept fun b o e => Heap.get?_push_of_some _ e
  refine ⟨(s.heap.push { cls := .type "range", data := .fields #[.int lo t, .int hi u, .int 1 v] }).objs.size, [(s.heap.push { cls := .type "range", data := .fields #[.int lo t, .int hi u, .int 1 v] }).objs.size], _, _, H, rfl,
    I1.kept (t' := tk) fun b o e => Heap.get?_push_of_some _ e, turn_range _ lo (hi - lo).toNat, ?_, fun b hb => ?_, q⟩
  · have e1 : lo + ((0 : Nat) : Int) * 1 = lo := by simp
    have e2 : (((hi - lo).toNat : Nat) : Int) - ((0 : Nat) : Int) = Builtin.Range.rangeSize lo hi 1 := by rw [rangeSize_one]; split <;> omega
    show IsRangeIter _ _ (lo + ((0 : Nat) : Int) * 1) ((((hi - lo).toNat : Nat) : Int) - ((0 : Nat) : Int)) 1
    rw [e1, e2]
    exact Heap.get?_push_size _ rfl
  · have e : b = (s.heap.push { cls := .type "range", data := .fields #[.int lo t, .int hi u, .int 1 v] }).objs.size := by simpa using hb
    subst e
    exact I1.fpOk (Nat.le_refl _) (I1.hok.fresh (Nat.le_refl _))
def iRng1 (ta : TA) : TI := fun σ H R => ta σ H fun vs H1 => ∃ j : Int, vs = [.int j] ∧ -(2 ^ 62) ≤ j ∧ j < 2 ^ 62 ∧ R (Itr 0 j.toNat) H1
theorem pi_range1 {a : Expr} {ta : TA} {p pos : Pos} (hg : Gl X "range") (hm : X.mg "range" = none) (ha : PA X [a] ta) (hs : starEach [a] X.env = [(false, eval a X.env)] := by rfl) : PI X tg (.Call (.Name "range" p) [a] [] pos) (iRng1 ta) := by
  intro pins s σ H R I h
  refine Call_ (ld_blt I hg hm boot_range (PyProof.Rows.callWith_type1 (thn (ha pos pins s σ H _ I h) fun us s1 ⟨vs, H1, I1, r1, q1⟩ => ?_) hs rfl))
  obtain ⟨j, e, q1, q2, q⟩ := q1
  subst e
  cases r1 with
  | cons r rr =>
    cases rr
    obtain ⟨t, rfl⟩ := r
    exact call_range_1 (range_it I1 (by omega) (by omega) q1 q2 (by simpa using q))
/-! ### for -/
/-- W: the invariant by the turn and a measure; N: what the body is to reach -/
def tFor (wi : TI) (g : TG) (tb : TS) : TS := fun D σ H => wi σ H fun J H1 => ∃ W : Nat → Nat → St → Hp → Prop, (∃ m, W 0 m σ H1) ∧ ∀ i m σ H, W i m σ H →
  (J.stop i H ∧ D.nx σ H) ∨ (J.go i H ∧ ∃ N : St → Hp → Prop, (∀ σ' H', N σ' H' → ∃ m', m' < m ∧ W (i + 1) m' σ' H') ∧ ∀ x H', J.yld i H x H' → g x σ H' fun σ2 H2 => tb { D with nx := N, ct := N, bk := D.nx } σ2 H2)
/-- the records at fp as they stand -/
def pinsAt (fp : List Addr) (h : Heap) : List (Addr × Obj) := fp.filterMap fun b => (h.get? b).map fun o => (b, o)
theorem mem_pinsAt {fp : List Addr} {h : Heap} {b : Addr} {o : Obj} (hb : b ∈ fp) (e : h.get? b = some o) : (b, o) ∈ pinsAt fp h := List.mem_filterMap.mpr ⟨b, hb, by rw [e]; rfl⟩
theorem of_pinsAt {fp : List Addr} {h : Heap} {p : Addr × Obj} (hp : p ∈ pinsAt fp h) : p.1 ∈ fp ∧ h.get? p.1 = some p.2 := by
  obtain ⟨b, hb, e⟩ := List.mem_filterMap.mp hp
  cases q : h.get? b with
  | none => rw [q] at e; cases e
  | some o =>
    rw [q] at e
    have e' : (b, o) = p := Option.some.inj e
    subst e'
    exact ⟨hb, q⟩
theorem Inv.pinned {pins : List (Addr × Obj)} {σ : St} {H : Hp} {s : Shared} {fp : List Addr} (I : Inv X pins σ H s) (hf : ∀ b ∈ fp, FpOk X pins H b) (ho : ∀ b ∈ fp, ∃ o, s.heap.get? b = some o ∧ ∀ v, o.data ≠ .cell v) : Inv X (pins ++ pinsAt fp s.heap) σ H s :=
  I.pins_of fun p hp => (List.mem_append.mp hp).elim (fun z => I.pin p (List.mem_append_right _ z)) fun z => by
    obtain ⟨hb, e⟩ := of_pinsAt z
    obtain ⟨f0, f1, f2, _⟩ := hf p.1 hb
    obtain ⟨o, e', d⟩ := ho p.1 hb
    rw [e] at e'; cases e'
    exact ⟨e, f0, f1, f2, d⟩
theorem Inv.unpinned {pins pl : List (Addr × Obj)} {σ : St} {H : Hp} {s : Shared} (I : Inv X (pins ++ pl) σ H s) : Inv X pins σ H s := I.pins_of fun p hp => I.pin p (List.mem_append_right _ (List.mem_append_left _ hp))
theorem ps_for {iter : Expr} {body : List Stmt} {wi : TI} {g : TG} {tb : TS} {pos : Pos} (hp : PassesOwn (model X.prog X.w) X.A X.env X.xe) (hc : X.calm = true) (hi : PI X tg iter wi) (hg : PG X tg g) (hb : PSs X body tb)
    (hs : ∀ x, foldedSetIterable iter X.env x = pure x := by intro _; rfl) : PS X (.For tg iter body [] pos) (tFor wi g tb) := by
  intro pins s σ H D I h
  refine wpAny_For (thn (hi pins s σ H _ I h) fun v s1 h1 => thn h1 fun itv s2 h2 => ?_) hs
  obtain ⟨it, fp, tn, J, H2, e, I2, T, st2, f2, W, ⟨m0, w0⟩, turn⟩ := h2
  subst e
  -- what stays true of the iterator's objects through the loop
  have stat : ∀ {H' : Hp}, (∀ b ∈ fp, H' b = none) → ∀ b ∈ fp, FpOk X pins H' b := fun hn b hb => ⟨hn b hb, (f2 b hb).2⟩
  refine codeAny_forLoop_any (fun n s' => ∃ i σ' H', Inv X pins σ' H' s' ∧ tn i s'.heap ∧ (∀ b ∈ fp, H' b = none) ∧ W i n σ' H') ?_ m0 ⟨0, σ, H2, I2, st2, fun b hb => (f2 b hb).1, w0⟩
  rintro n s3 ⟨i, σ3, H3, I3, st3, fr3, w3⟩
  rcases turn i n σ3 H3 w3 with ⟨stop, qn⟩ | ⟨go, N, hN, step⟩
  · refine wpAny_passesOwn hp (thn (T.done X rfl rfl rfl hc i pins s3 σ3 H3 X.xe I3 (stat fr3) st3 stop) fun r s4 ⟨hr, I4⟩ => ?_)
    subst hr
    exact wpAny_execs_nil ⟨σ3, H3, I4, qn⟩
  · refine wpAny_passesOwn hp (thn (T.item X rfl rfl rfl hc i pins s3 σ3 H3 X.xe I3 (stat fr3) st3 go) fun r s4 ⟨u, hr, h4⟩ => ?_)
    subst hr
    refine wpAny_passesOwn hp (thn h4 fun _ s5 ⟨x, H5, I5, r5, y5, st5, fr5⟩ => ?_)
    have I5' := I5.pinned (stat fr5) (T.obj _ _ st5)
    refine wpAny_passesOwn hp (thn (hg _ s5 σ3 H5 x u _ I5' r5 (step x H5 y5)) fun _ s6 ⟨σ6, H6, I6, q6⟩ => ?_)
    refine wpAny_passesOwn hp (thn (hb _ s6 σ6 H6 _ I6 q6) fun f s7 q7 => ?_)
    have again : ∀ {σ7 : St} {H7 : Hp}, Inv X (pins ++ pinsAt fp s5.heap) σ7 H7 s7 → N σ7 H7 → ∃ m, m < n ∧ ∃ i σ' H', Inv X pins σ' H' s7 ∧ tn i s7.heap ∧ (∀ b ∈ fp, H' b = none) ∧ W i m σ' H' := fun {σ7 H7} I7 n7 => by
      obtain ⟨m', hm, w7⟩ := hN σ7 H7 n7
      refine ⟨m', hm, i + 1, σ7, H7, I7.unpinned, T.keep _ _ _ st5 fun b hb o e => (I7.pin (b, o) (List.mem_append_right _ (List.mem_append_right _ (mem_pinsAt hb e)))).1, fun b hb => ?_, w7⟩
      obtain ⟨o, e, d⟩ := T.obj _ _ st5 b hb
      exact (I7.pin (b, o) (List.mem_append_right _ (List.mem_append_right _ (mem_pinsAt hb e)))).2.1
    cases f with
    | next => obtain ⟨σ7, H7, I7, n7⟩ := q7; exact again I7 n7
    | cont => obtain ⟨σ7, H7, I7, n7⟩ := q7; exact again I7 n7
    | brk => obtain ⟨σ7, H7, I7, q7⟩ := q7; exact ⟨σ7, H7, I7.unpinned, q7⟩
    | ret v => obtain ⟨x7, σ7, H7, I7, r7, q7⟩ := q7; exact ⟨x7, σ7, H7, I7.unpinned, r7, q7⟩
end

/-! ### the forms one uses -/
/-- over a list that the body leaves as it is -/
theorem for_list {K : PySem.W.Frag} {a : Addr} {xs : List V} {g : TG} {tb : TS} {D : Ends} {σ : St} {H : Hp} (Pv : Nat → St → Hp → Prop) (h0 : Pv 0 σ H) (hl : ∀ i σ H, i ≤ xs.length → Pv i σ H → SqL K H a xs)
    (hs : ∀ i x σ H, xs[i]? = some x → Pv i σ H → g x σ H fun σ2 H2 => tb { D with nx := Pv (i + 1), ct := Pv (i + 1), bk := D.nx } σ2 H2) (hd : ∀ σ H, Pv xs.length σ H → D.nx σ H) :
    ∃ W : Nat → Nat → St → Hp → Prop, (∃ m, W 0 m σ H) ∧ ∀ i m σ H, W i m σ H →
      ((Itl K a).stop i H ∧ D.nx σ H) ∨ ((Itl K a).go i H ∧ ∃ N : St → Hp → Prop, (∀ σ' H', N σ' H' → ∃ m', m' < m ∧ W (i + 1) m' σ' H') ∧ ∀ x H', (Itl K a).yld i H x H' → g x σ H' fun σ2 H2 => tb { D with nx := N, ct := N, bk := D.nx } σ2 H2) := by
  refine ⟨fun i m σ H => m = xs.length - i ∧ i ≤ xs.length ∧ Pv i σ H, ⟨xs.length, by simp, Nat.zero_le _, h0⟩, ?_⟩
  rintro i m σ H ⟨rfl, hi, p⟩
  have q := hl i σ H hi p
  by_cases hlt : i < xs.length
  · refine .inr ⟨⟨xs, xs[i], q, by simp [hlt]⟩, Pv (i + 1), fun σ' H' p' => ⟨xs.length - (i + 1), by omega, rfl, hlt, p'⟩, fun x H' y => ?_⟩
    obtain ⟨e, y⟩ := y
    subst e
    exact hs i x σ _ (y xs q) p
  · have e : i = xs.length := by omega
    subst e
    exact .inl ⟨⟨xs, q, Nat.le_refl _⟩, hd σ H p⟩
end L2

namespace L2
open PySem PySem.Spec PyProof.Rows

abbrev R2 := V → V → Hp → VK → Prop
/-- a two-place operation on values: f is binaryOp op, inplaceOp op or compareOp op -/
def OpR (X : Cx) (f : Value → Value → Sem Value) (r : R2) : Prop :=
  ∀ (pins : List (Addr × Obj)) (s : Shared) (σ : St) (H : Hp) (x y : V) (v u : Value) (Q : VK), Inv X pins σ H s → RelV x v → RelV y u → r x y H Q →
    wpAny (model X.prog X.w) X.A (f v u) (EP X pins σ Q) X.xe s
/-- a call of a value that is known (a builtin, a type) with values -/
def CallR (X : Cx) (f : Value) (r : List V → Hp → VK → Prop) : Prop :=
  ∀ (pins : List (Addr × Obj)) (s : Shared) (σ : St) (H : Hp) (xs : List V) (us : List Value) (Q : VK), Inv X pins σ H s → Vals xs us → r xs H Q →
    wpAny (model X.prog X.w) X.A (call f us) (EP X pins σ Q) X.xe s
def tOp (r : R2) (ta tb : TE) : TE := fun σ H Q => ta σ H fun x H1 => tb σ H1 fun y H2 => r x y H2 Q
def tUn (r : V → Hp → VK → Prop) (ta : TE) : TE := fun σ H Q => ta σ H fun x H1 => r x H1 Q
/-- ints in, under C, and a value out -/
def rI (C : Int → Int → Prop) (g : Int → Int → V) : R2 := fun x y H Q => ∃ i j, x = .int i ∧ y = .int j ∧ C i j ∧ Q (g i j) H
def rI0 (g : Int → Int → V) : R2 := fun x y H Q => ∃ i j, x = .int i ∧ y = .int j ∧ Q (g i j) H
def rU (g : Int → V) : V → Hp → VK → Prop := fun x H Q => ∃ i, x = .int i ∧ Q (g i) H

section
variable {X : Cx} {a b c : Expr} {ta tb tc : TE} {pos : Pos}

theorem binT (ha : PE X a ta) (hb : PE X b tb) {pins : List (Addr × Obj)} {s : Shared} {σ : St} {H : Hp} {R : V → V → Hp → Prop} (I : Inv X pins σ H s)
    (h : ta σ H fun x H1 => tb σ H1 fun y H2 => R x y H2) {Q : Value → Shared → Prop} {f : Value → Value → Sem Value}
    (hf : ∀ v u s2 x y H2, Inv X pins σ H2 s2 → RelV x v → RelV y u → R x y H2 → wpAny (model X.prog X.w) X.A (f v u) Q X.xe s2) :
    wpAny (model X.prog X.w) X.A (eval a X.env) (fun v s₁ => wpAny (model X.prog X.w) X.A (eval b X.env) (fun u s₂ => wpAny (model X.prog X.w) X.A (f v u) Q X.xe s₂) X.xe s₁) X.xe s := by
  refine thn (ha pins s σ H _ I h) fun v s1 ⟨x, H1, I1, r1, q1⟩ => ?_
  refine thn (hb pins s1 σ H1 _ I1 q1) fun u s2 ⟨y, H2, I2, r2, q2⟩ => ?_
  exact hf v u s2 x y H2 I2 r1 r2 q2

theorem pe_op {op : Operator} {r : R2} (ho : OpR X (binaryOp op) r) (ha : PE X a ta) (hb : PE X b tb) : PE X (.BinOp a op b pos) (tOp r ta tb) := by
  intro pins s σ H Q I h
  exact wpAny_BinOp (binT ha hb I h fun v u s2 x y H2 I2 rx ry q => ho pins s2 σ H2 x y v u Q I2 rx ry q)
/-! ### ints -/
theorem opI {f : Value → Value → Sem Value} {C : Int → Int → Prop} {g : Int → Int → Int}
    (rule : ∀ (i j : Int) (t u : Tok) (s : Shared) (Q : Value → Shared → Prop) (E : Value → Shared → Prop), C i j → Q (.int (g i j) s.toks) { s with toks := s.toks + 1 } → wpAny (model X.prog X.w) X.A (f (.int i t) (.int j u)) Q E s) :
    OpR X f (rI C fun i j => .int (g i j)) := by
  intro pins s σ H x y v u Q I rx ry h
  obtain ⟨i, j, rfl, rfl, hc, q⟩ := h
  obtain ⟨t, rfl⟩ := rx
  obtain ⟨t', rfl⟩ := ry
  exact rule i j t t' s _ _ hc ⟨.int (g i j), H, I.tok _, ⟨_, rfl⟩, q⟩
theorem opI0 {f : Value → Value → Sem Value} {g : Int → Int → Int}
    (rule : ∀ (i j : Int) (t u : Tok) (s : Shared) (Q : Value → Shared → Prop) (E : Value → Shared → Prop), Q (.int (g i j) s.toks) { s with toks := s.toks + 1 } → wpAny (model X.prog X.w) X.A (f (.int i t) (.int j u)) Q E s) :
    OpR X f (rI0 fun i j => .int (g i j)) := by
  intro pins s σ H x y v u Q I rx ry h
  obtain ⟨i, j, rfl, rfl, q⟩ := h
  obtain ⟨t, rfl⟩ := rx
  obtain ⟨t', rfl⟩ := ry
  exact rule i j t t' s _ _ ⟨.int (g i j), H, I.tok _, ⟨_, rfl⟩, q⟩
theorem opB0 {f : Value → Value → Sem Value} {g : Int → Int → Bool}
    (rule : ∀ (i j : Int) (t u : Tok) (s : Shared) (Q : Value → Shared → Prop) (E : Value → Shared → Prop), Q (.bool (g i j)) s → wpAny (model X.prog X.w) X.A (f (.int i t) (.int j u)) Q E s) :
    OpR X f (rI0 fun i j => .bl (g i j)) := by
  intro pins s σ H x y v u Q I rx ry h
  obtain ⟨i, j, rfl, rfl, q⟩ := h
  obtain ⟨t, rfl⟩ := rx
  obtain ⟨t', rfl⟩ := ry
  exact rule i j t t' s _ _ ⟨.bl (g i j), H, I, rfl, q⟩

def CDiv (i j : Int) : Prop := 0 < j ∧ j < 1073741824
def CMul (i j : Int) : Prop := (-(2 ^ 64) < i ∧ i < 2 ^ 64) ∨ (-(2 ^ 64) < j ∧ j < 2 ^ 64)
theorem CMul.ok {i j : Int} (h : CMul i j) : IntMulOk i j := by
  rcases h with ⟨h1, h2⟩ | ⟨h1, h2⟩
  · exact .of_left (intBits_le_64 h1 h2)
  · exact .of_right (intBits_le_64 h1 h2)
theorem op_add : OpR X (binaryOp .Add) (rI0 fun i j => .int (i + j)) := opI0 fun _ _ _ _ _ _ _ q => add_int q
theorem op_sub : OpR X (binaryOp .Sub) (rI0 fun i j => .int (i - j)) := opI0 fun _ _ _ _ _ _ _ q => sub_int q
theorem op_mul : OpR X (binaryOp .Mult) (rI CMul fun i j => .int (i * j)) := opI fun _ _ _ _ _ _ _ hc q => mul_int q hc.ok
/-- // by a positive divisor -/
theorem op_fdiv : OpR X (binaryOp .FloorDiv) (rI CDiv fun i j => .int (i / j)) := opI fun i j _ _ _ _ _ hc q => by
  have h1 : (0 : Int) < j := hc.1
  have h2 : j < 1073741824 := hc.2
  exact floordiv_int (by omega) (by rw [Int.fdiv_eq_ediv_of_nonneg i (by omega)]; exact q) (.inl (PyProof.noPylong_small (by omega)))
/-- % by a positive divisor of any size -/
theorem op_mod : OpR X (binaryOp .Mod) (rI (fun _ j => 0 < j) fun i j => .int (i % j)) := opI fun i j _ _ _ _ _ hc q => by
  have h1 : (0 : Int) < j := hc
  exact mod_int' (by omega) (by rw [Int.fmod_eq_emod_of_nonneg i (by omega)]; exact q)
/-! ### bools among ints: n += (a < b) -/
end

/-! ### comparisons -/
/-- the scalars that == tells apart as data does -/
def scal : V → V → Bool
  | .non, .non => true | .non, .int _ => true | .int _, .non => true | .non, .bl _ => true | .bl _, .non => true | .non, .str _ => true | .str _, .non => true
  | .int _, .int _ => true | .bl _, .bl _ => true | .str _, .str _ => true | .byt _, .byt _ => true
  | .int _, .str _ => true | .str _, .int _ => true | .bl _, .str _ => true | .str _, .bl _ => true
  | _, _ => false
def rEq : R2 := fun x y H Q => scal x y = true ∧ Q (.bl (decide (x = y))) H
def rNe : R2 := fun x y H Q => scal x y = true ∧ Q (.bl (!decide (x = y))) H

theorem dec_int {i j : Int} : decide (V.int i = V.int j) = (i == j) := by
  rw [Bool.eq_iff_iff]
  simp
theorem dec_bl {i j : Bool} : decide (V.bl i = V.bl j) = (i == j) := by
  rw [Bool.eq_iff_iff]
  simp
theorem dec_str {i j : Str} : decide (V.str i = V.str j) = (i == j) := by
  rw [Bool.eq_iff_iff]
  simp
theorem dec_byt {i j : Array UInt8} : decide (V.byt i = V.byt j) = (i.toList == j.toList) := by
  rw [Bool.eq_iff_iff]
  cases i
  cases j
  simp

section
variable {X : Cx} {a b c : Expr} {ta tb tc : TE} {pos : Pos}
theorem fin_bl {pins : List (Addr × Obj)} {σ : St} {H : Hp} {s : Shared} {Q : VK} {k k' : Bool} (I : Inv X pins σ H s) (q : Q (.bl k) H) (e : k = k') : EP X pins σ Q (.bool k') s := by
  subst e
  exact ⟨.bl k, H, I, rfl, q⟩
theorem op_eq : OpR X (compareOp .Eq) rEq := by
  intro pins s σ H x y v u Q I rx ry h
  obtain ⟨hs, q⟩ := h
  cases x with
  | non =>
    cases rx
    cases y with
    | non => cases ry; exact PySem.EqNone.eq_none_none (fin_bl I q (by simp))
    | bl j => cases ry; exact PySem.EqNone.eq_none_bool (fin_bl I q (by simp))
    | int j => obtain ⟨t', rfl⟩ := ry; exact PySem.EqNone.eq_none_int (fin_bl I q (by simp))
    | str j => obtain ⟨t', rfl⟩ := ry; exact PySem.EqNone.eq_none_str (fin_bl I q (by simp))
    | _ => exact absurd (show false = true from hs) Bool.false_ne_true
  | bl i =>
    cases rx
    cases y with
    | non => cases ry; exact PySem.EqNone.eq_bool_none (fin_bl I q (by simp))
    | bl j => cases ry; exact eq_bool (fin_bl I q dec_bl)
    | str j => obtain ⟨t', rfl⟩ := ry; exact PySem.EqMixed.eq_bool_str (fin_bl I q (by simp))
    | _ => exact absurd (show false = true from hs) Bool.false_ne_true
  | int i =>
    obtain ⟨t, rfl⟩ := rx
    cases y with
    | non => cases ry; exact PySem.EqNone.eq_int_none (fin_bl I q (by simp))
    | int j => obtain ⟨t', rfl⟩ := ry; exact eq_int (fin_bl I q dec_int)
    | str j => obtain ⟨t', rfl⟩ := ry; exact PySem.EqMixed.eq_int_str (fin_bl I q (by simp))
    | _ => exact absurd (show false = true from hs) Bool.false_ne_true
  | str i =>
    obtain ⟨t, rfl⟩ := rx
    cases y with
    | non => cases ry; exact PySem.EqNone.eq_str_none (fin_bl I q (by simp))
    | bl j => cases ry; exact PySem.EqMixed.eq_str_bool (fin_bl I q (by simp))
    | int j => obtain ⟨t', rfl⟩ := ry; exact PySem.EqMixed.eq_str_int (fin_bl I q (by simp))
    | str j => obtain ⟨t', rfl⟩ := ry; exact eq_str (fin_bl I q dec_str)
    | _ => exact absurd (show false = true from hs) Bool.false_ne_true
  | byt i =>
    obtain ⟨t, rfl⟩ := rx
    cases y with
    | byt j => obtain ⟨t', rfl⟩ := ry; exact PySem.W.eq_bytes (fin_bl I q dec_byt)
    | _ => exact absurd (show false = true from hs) Bool.false_ne_true
  | _ => cases y <;> exact absurd (show false = true from hs) Bool.false_ne_true
theorem op_ne : OpR X (compareOp .NotEq) rNe := by
  intro pins s σ H x y v u Q I rx ry h
  obtain ⟨hs, q⟩ := h
  cases x with
  | non =>
    cases rx
    cases y with
    | non => cases ry; exact PySem.EqNone.ne_none_none (fin_bl I q (by simp))
    | bl j => cases ry; exact PySem.EqNone.ne_none_bool (fin_bl I q (by simp))
    | int j => obtain ⟨t', rfl⟩ := ry; exact PySem.EqNone.ne_none_int (fin_bl I q (by simp))
    | str j => obtain ⟨t', rfl⟩ := ry; exact PySem.EqNone.ne_none_str (fin_bl I q (by simp))
    | _ => exact absurd (show false = true from hs) Bool.false_ne_true
  | bl i =>
    cases rx
    cases y with
    | non => cases ry; exact PySem.EqNone.ne_bool_none (fin_bl I q (by simp))
    | bl j => cases ry; exact ne_bool (fin_bl I q (congrArg not dec_bl))
    | str j => obtain ⟨t', rfl⟩ := ry; exact PySem.EqMixed.ne_bool_str (fin_bl I q (by simp))
    | _ => exact absurd (show false = true from hs) Bool.false_ne_true
  | int i =>
    obtain ⟨t, rfl⟩ := rx
    cases y with
    | non => cases ry; exact PySem.EqNone.ne_int_none (fin_bl I q (by simp))
    | int j => obtain ⟨t', rfl⟩ := ry; exact ne_int (fin_bl I q (congrArg not dec_int))
    | str j => obtain ⟨t', rfl⟩ := ry; exact PySem.EqMixed.ne_int_str (fin_bl I q (by simp))
    | _ => exact absurd (show false = true from hs) Bool.false_ne_true
  | str i =>
    obtain ⟨t, rfl⟩ := rx
    cases y with
    | non => cases ry; exact PySem.EqNone.ne_str_none (fin_bl I q (by simp))
    | bl j => cases ry; exact PySem.EqMixed.ne_str_bool (fin_bl I q (by simp))
    | int j => obtain ⟨t', rfl⟩ := ry; exact PySem.EqMixed.ne_str_int (fin_bl I q (by simp))
    | str j => obtain ⟨t', rfl⟩ := ry; exact ne_str (fin_bl I q (congrArg not dec_str))
    | _ => exact absurd (show false = true from hs) Bool.false_ne_true
  | byt i =>
    obtain ⟨t, rfl⟩ := rx
    cases y with
    | byt j => obtain ⟨t', rfl⟩ := ry; exact PySem.W.ne_bytes (fin_bl I q (congrArg not dec_byt))
    | _ => exact absurd (show false = true from hs) Bool.false_ne_true
  | _ => cases y <;> exact absurd (show false = true from hs) Bool.false_ne_true

theorem op_lt : OpR X (compareOp .Lt) (rI0 fun i j => .bl (decide (i < j))) := opB0 fun _ _ _ _ _ _ _ q => lt_int q
theorem op_le : OpR X (compareOp .LtE) (rI0 fun i j => .bl (decide (i ≤ j))) := opB0 fun _ _ _ _ _ _ _ q => le_int q
theorem op_gt : OpR X (compareOp .Gt) (rI0 fun i j => .bl (decide (j < i))) := opB0 fun _ _ _ _ _ _ _ q => gt_int q
/-- the one string within the other -/
theorem op_in_str : OpR X (compareOp .In) (fun x y H Q => ∃ i j, x = .str i ∧ y = .str j ∧ Q (.bl (!(Builtin.Str.occurrences j i 0 j.length 1).isEmpty)) H) := by
  intro pins s σ H x y v u Q I rx ry h
  obtain ⟨i, j, rfl, rfl, q⟩ := h
  obtain ⟨t, rfl⟩ := rx
  obtain ⟨t', rfl⟩ := ry
  exact in_str (fin_bl I q rfl)

/-- is None, is not None: the right side a value none -/
theorem op_isN : OpR X (compareOp .Is) (fun x y H Q => y = .non ∧ Q (.bl (decide (x = .non))) H) := by
  intro pins s σ H x y v u Q I rx ry h
  obtain ⟨rfl, q⟩ := h
  cases ry
  refine is_none_gen (fin_bl I q ?_)
  cases x <;> first
    | (cases rx; rfl)
    | (obtain ⟨t, rfl⟩ := rx; rfl)
/-- two rules for one operation: by cases -/
theorem OpR.or {f : Value → Value → Sem Value} {r r' : R2} (h : OpR X f r) (h' : OpR X f r') : OpR X f (fun x y H Q => r x y H Q ∨ r' x y H Q) := by
  intro pins s σ H x y v u Q I rx ry q
  rcases q with q | q
  · exact h pins s σ H x y v u Q I rx ry q
  · exact h' pins s σ H x y v u Q I rx ry q

theorem nomark (b : Expr) {op : CmpOp} (h : op ≠ .In := by decide) (h2 : op ≠ .NotIn := by decide) : behindInMarks op b = false := by
  have e1 : (op == CmpOp.In) = false := by cases op <;> first | rfl | exact absurd rfl h
  have e2 : (op == CmpOp.NotIn) = false := by cases op <;> first | rfl | exact absurd rfl h2
  cases b <;> simp [behindInMarks, e1, e2]
/-- a comparison as a value; hm: nomark b, or (for in, not in) by with_unfolding_all rfl -/
theorem pe_cmpR {op : CmpOp} {r : R2} (ho : OpR X (compareOp op) r) (ha : PE X a ta) (hb : PE X b tb) (hm : behindInMarks op b = false) : PE X (.Compare a [op] [b] pos) (tOp r ta tb) := by
  intro pins s σ H Q I h
  exact wpAny_Compare1 (binT ha hb I h fun v u s2 x y H2 I2 rx ry q => ho pins s2 σ H2 x y v u Q I2 rx ry q) hm
/-- a reading of a value as a test -/
def tTest (t : TE) : TT := fun σ H Q => t σ H fun x H' => ∃ k, x = .bl k ∧ Q k H'
theorem pt_cmpR {op : CmpOp} {r : R2} (ho : OpR X (compareOp op) r) (ha : PE X a ta) (hb : PE X b tb) (hm : behindInMarks op b = false) : PT X (.Compare a [op] [b] pos) (tTest (tOp r ta tb)) := by
  intro pins s σ H Q I h
  refine wpAny_isTrue_Compare1 (thn (ha pins s σ H _ I h) fun v s1 ⟨x, H1, I1, r1, q1⟩ => thn (hb pins s1 σ H1 _ I1 q1) fun u s2 ⟨y, H2, I2, r2, q2⟩ =>
    thn (ho pins s2 σ H2 x y v u _ I2 r1 r2 q2) fun c s3 ⟨z, H3, I3, r3, k, e, q3⟩ => ?_) hm
  subst e
  cases r3
  exact wpAny_truthy_bool ⟨H3, I3, q3⟩
/-- a op1 b op2 c -/
def tChain (r r' : R2) (ta tb tc : TE) : TE := fun σ H Q => ta σ H fun x H1 => tb σ H1 fun y H2 => r x y H2 fun z H3 => ∃ k, z = .bl k ∧
  (if k = true then tc σ H3 fun w' H4 => r' y w' H4 Q else Q (.bl false) H3)
theorem pe_chain {op op' : CmpOp} {r r' : R2} (ho : OpR X (compareOp op) r) (ho' : OpR X (compareOp op') r') (ha : PE X a ta) (hb : PE X b tb) (hc : PE X c tc)
    (hm : lastMarks [op, op'] [b, c] = false := by with_unfolding_all rfl) : PE X (.Compare a [op, op'] [b, c] pos) (tChain r r' ta tb tc) := by
  intro pins s σ H Q I h
  refine Compare_chain (thn (ha pins s σ H _ I h) fun v s1 ⟨x, H1, I1, r1, q1⟩ => chain_link (thn (hb pins s1 σ H1 _ I1 q1) fun u s2 ⟨y, H2, I2, r2, q2⟩ =>
    thn (ho pins s2 σ H2 x y v u _ I2 r1 r2 q2) fun d s3 ⟨z, H3, I3, r3, k, e, q3⟩ => ?_)) hm
  subst e
  cases r3
  refine wpAny_truthy_bool ?_
  cases k with
  | false => exact ite_ff ⟨.bl false, H3, I3, rfl, q3⟩
  | true => exact ite_tt (chain_last (thn (hc pins s3 σ H3 _ I3 q3) fun w' s4 ⟨z', H4, I4, r4, q4⟩ => ho' pins s4 σ H4 y z' u w' Q I4 r2 r4 q4))
/-! ### truth -/
theorem line63 : (sizeLine : Nat) < 2 ^ 63 := by rw [sizeLine_eq]; decide
/-! ### strs and bytes -/
theorem op_add_str : OpR X (binaryOp .Add) (fun x y H Q => ∃ i j, x = .str i ∧ y = .str j ∧ i.length + j.length ≤ sizeLine ∧ Q (.str (i ++ j)) H) := by
  intro pins s σ H x y v u Q I rx ry h
  obtain ⟨i, j, rfl, rfl, hz, q⟩ := h
  obtain ⟨t, rfl⟩ := rx
  obtain ⟨t', rfl⟩ := ry
  exact add_str (fun t' tk => ⟨.str (i ++ j), H, I.tok _, ⟨_, rfl⟩, q⟩) hz
/-! ### scalar builtins, by CallR -/
theorem vals1 {x : V} {us : List Value} (r : Vals [x] us) : ∃ u, us = [u] ∧ RelV x u := by
  cases r with
  | cons r1 r2 => cases r2; exact ⟨_, rfl, r1⟩
theorem call_int1 : CallR X (.type "int") (fun xs H Q => (∃ i, xs = [.int i] ∧ Q (.int i) H) ∨ ∃ k, xs = [.bl k] ∧ Q (.int (if k then 1 else 0)) H) := by
  intro pins s σ H xs us Q I r h
  rcases h with ⟨i, rfl, q⟩ | ⟨k, rfl, q⟩
  · obtain ⟨u, rfl, t, rfl⟩ := vals1 r
    exact call_int_int ⟨.int i, H, I, ⟨_, rfl⟩, q⟩
  · obtain ⟨u, rfl, r1⟩ := vals1 r
    cases r1
    exact call_int_bool ⟨.int (if k then 1 else 0), H, I.tok _, ⟨_, rfl⟩, q⟩
theorem call_str_int : CallR X (.type "str") (fun xs H Q => ∃ i, xs = [.int i] ∧ i.natAbs.log2 < 1920 ∧ Q (.str (toString i)) H) := by
  intro pins s σ H xs us Q I r h
  obtain ⟨i, rfl, hz, q⟩ := h
  obtain ⟨u, rfl, t, rfl⟩ := vals1 r
  exact PySem.P.str_of_int hz ⟨.str _, H, I.tok _, ⟨_, rfl⟩, q⟩
end
end L2

namespace L2
open PySem PySem.Spec PyProof.Rows

/-! ### an instance, its attributes a map -/
structure ObjM (h : Heap) (x dx C : Addr) (mA : Str → Option Value) : Prop where
  obj : h.get? x = some (PySem.W.instObj C dx)
  ns : h.Ns1 dx mA
  ne : dx ≠ x

theorem lookIn_ns {h : Heap} {dx : Addr} {mA : Str → Option Value} (n : h.Ns1 dx mA) : ∃ od, h.get? dx = some od ∧ ∀ name, PySem.W.lookIn name od = some (mA name) := by
  obtain ⟨o, es, ep, ho, hd, hk, _, hm⟩ := n
  refine ⟨o, ho, fun name => ?_⟩
  have e := hm name
  unfold nsFind findBy at e
  rw [← Array.find?_toList] at e
  unfold PySem.W.lookIn
  rw [hd]
  dsimp only
  split
  · rename_i y q
    rw [q] at e
    exact congrArg some e
  · rename_i q
    rw [q] at e
    have a : es.toList.any (·.refKey) = false := by
      rw [List.any_eq_false]
      intro y hy
      obtain ⟨z, t, hkey⟩ := hk y (Array.mem_toList_iff.mp hy)
      simp [DictEntry.refKey, hkey]
    have a' : ¬ es.toList.any (·.refKey) = true := by rw [a]; exact Bool.false_ne_true
    rw [if_neg a']
    exact congrArg some e

theorem ObjM.look {h : Heap} {x dx C : Addr} {mA : Str → Option Value} (I : ObjM h x dx C mA) : ∃ od, PySem.W.InstAt h x (PySem.W.instObj C dx) C (some od) ∧ ∀ name, PySem.W.lookIn name od = some (mA name) :=
  let ⟨od, ho, hl⟩ := lookIn_ns I.ns
  ⟨od, ⟨I.obj, rfl, rfl, ho⟩, hl⟩

section
variable {prog : Program} {w : World} {A : Around} {E : Value → Shared → Prop} {s : Shared} {K : PySem.W.Frag} {x dx C f : Addr} {mA : Str → Option Value} {name : Str} {v : Value}

end

/-! ### the attributes as a list of pairs -/
theorem RelO.some_of {v : V} {o : Option Value} (r : RelO (some v) o) : ∃ u, o = some u ∧ RelV v u := by
  cases o with
  | none => exact (show False from r).elim
  | some u => exact ⟨u, rfl, r⟩
section
variable {P : Program} {w : World} {H H' : Hp} {h h' : Heap} {a C dx : Addr} {fs fs' : List (Str × V)}
theorem ins_get (hok : HOk P w H h) (e : H a = some (.ins C dx fs)) : ∃ mA, ObjM h a dx C mA ∧ (∀ f, RelO (fs.lookup f) (mA f)) ∧ PySem.Within mA (fs.map (·.1)) ∧ fs.length ≤ 1000 ∧ H dx = some (.own a) := by
  obtain ⟨d, z, ne, ob, mA, n, r, q⟩ := (show ObjOk P w H h a (.ins C dx fs) from hok a _ e)
  exact ⟨mA, ⟨ob, n, ne⟩, r, q, z, d⟩
end

/-! ### what of the text a class must have -/
structure Cls (K : PySem.W.Frag) (C : Addr) : Prop where
  pg : PySem.W.plainGet K C Str.empty = true
  hd : PySem.W.hasDictIn K C = true
  po : PySem.W.plainOver K C = true
  sa : PySem.W.findIn K (.ref C) "__setattr__" = some (some (.builtin "object.__setattr__"))
theorem Cls.get {K : PySem.W.Frag} {C : Addr} (c : Cls K C) (f : Str) : PySem.W.plainGet K C f = true := c.pg
/-- a constant of the class -/
structure Con (K : PySem.W.Frag) (C : Addr) (f : Str) (v : V) (u : Value) : Prop where
  at_ : PySem.W.findIn K (.ref C) f = some (some u)
  rel : RelV v u
  get : PySem.W.specialIn K u "__get__" = some none
  cp : PySem.W.copiedNames.contains f = false
/-- a method: a plain def of the class or of one above it -/
structure Meth (K : PySem.W.Frag) (C : Addr) (m : Str) (f : Addr) : Prop where
  at_ : PySem.W.findIn K (.ref C) m = some (some (.ref f))
  fn : PySem.W.isFn K (.ref f) = true
  kp : PySem.W.keepIn K (.ref f) = true

section
variable {X : Cx} {pins : List (Addr × Obj)} {σ : St} {H : Hp} {s : Shared} {a C dx : Addr} {fs : List (Str × V)} {f : Str} {v : V} {A : Around} {E : Value → Shared → Prop}

/-- a new instance, tracked, without attributes -/
theorem Inv.made (I : Inv X pins σ H s) : Inv X pins σ (upd (upd H s.heap.objs.size (.own (s.heap.objs.size + 1))) (s.heap.objs.size + 1) (.ins C s.heap.objs.size []))
    { s with heap := (s.heap.push PySem.W.emptyDict).push (PySem.W.instObj C s.heap.objs.size) } := by
  have e1 : (s.heap.push PySem.W.emptyDict).get? s.heap.objs.size = some PySem.W.emptyDict := Heap.get?_push_size s.heap rfl
  have e2 : ((s.heap.push PySem.W.emptyDict).push (PySem.W.instObj C s.heap.objs.size)).get? (s.heap.objs.size + 1) = some (PySem.W.instObj C s.heap.objs.size) := by
    have := Heap.get?_push_size (s.heap.push PySem.W.emptyDict) (o := PySem.W.instObj C s.heap.objs.size) rfl
    rwa [Heap.size_push] at this
  have e3 : (s.heap.push PySem.W.emptyDict).Ns s.heap.objs.size (fun _ => none) := ⟨PySem.W.emptyDict, #[], _, e1, rfl, (fun e he => absurd he (by simp)), fun _ => rfl⟩
  have I1 := I.laid (a := s.heap.objs.size) (o := .own (s.heap.objs.size + 1)) (h' := s.heap.push PySem.W.emptyDict) (t' := s.toks) (fun b u q => Heap.get?_push_of_some _ q) (Nat.le_refl _) ⟨_, e1⟩
  refine I1.laid (a := s.heap.objs.size + 1) (o := .ins C s.heap.objs.size []) (t' := s.toks) (fun b u q => Heap.get?_push_of_some _ q) (Nat.le_of_eq (Heap.size_push _ _)) ?_
  have ne : s.heap.objs.size ≠ s.heap.objs.size + 1 := Nat.ne_of_lt (Nat.lt_succ_self _)
  refine ⟨by rw [upd_ne ne, upd_same], Nat.zero_le _, ne, e2, fun _ => none, (Heap.Ns1.of_empty e3).at fun o q => Heap.get?_push_of_some _ q, fun _ => True.intro, fun y hy => absurd rfl hy⟩

end

/-! ### readings and rules -/
section
variable {X : Cx} {o e value : Expr} {f : Str} {pos pos' tpos : Pos} {ta tv : TE}
end

/-! ### isinstance -/
section
variable {X : Cx} {pins : List (Addr × Obj)} {σ : St} {H : Hp} {s : Shared} {A : Around} {E : Value → Shared → Prop} {Q : Value → Shared → Prop} {c : Value} {b : Bool}
/-- the type of a value, as the fragment's deciders take it; for an instance its class -/
inductive TyOf (K : PySem.W.Frag) (H : Hp) : V → Value → Prop where
  | non : TyOf K H .non (.type "NoneType")
  | bl (x : Bool) : TyOf K H (.bl x) (.type "bool")
  | int (i : Int) : TyOf K H (.int i) (.type "int")
  | str (x : Str) : TyOf K H (.str x) (.type "str")
  | flt (x : UInt64) : TyOf K H (.flt x) (.type "float")
  | lst {a : Addr} {xs : List V} (e : H a = some (.lst xs)) : TyOf K H (.ref a) (.type "list")
  | frz {a : Addr} {o : Obj} {xs : List V} (e : H a = some (.frz o (.lst xs))) : TyOf K H (.ref a) (.type "list")
  | tup {a : Addr} {xs : List V} (e : H a = some (.tup xs)) : TyOf K H (.ref a) (.type "tuple")
  | dK {a : Addr} {kvs : List (Key × V)} (e : H a = some (.dK kvs)) : TyOf K H (.ref a) (.type "dict")
  | dT {a : Addr} {kvs : List (List Key × V)} (e : H a = some (.dT kvs)) : TyOf K H (.ref a) (.type "dict")
  | ins {a C dx : Addr} {fs : List (Str × V)} (e : H a = some (.ins C dx fs)) (cl : Cls K C) (ha : PySem.W.findIn K (.ref C) "__class__" = some (some (.builtin "object.__class__")))
      (hn : PySem.W.specialIn K (.builtin "object.__class__") "__get__" = some (some (.builtin "getset_descriptor.__get__"))) (htk : PySem.W.takesIn K (.builtin "object.__class__") = some true)
      (hm : PySem.W.mroIn K C (.type "object") = some true) : TyOf K H (.ref a) (.ref C)
/-- isinstance(x, c) for one class c, a built-in or an own one: kitOne's answer -/
theorem isinst_ok {x : V} {u t : Value} (I : Inv X pins σ H s) (rx : RelV x u) (ty : TyOf X.K H x t) (e : PySem.W.kitOne X.K t c = some b) (h : ∀ tk, Q (.bool b) { s with toks := tk }) :
    wpAny (model X.prog X.w) A (call (.builtin "isinstance") [u, c]) Q E s := by
  cases ty with
  | non => cases (show u = Value.none from rx); exact PySem.W.kia_one PySem.W.kitx_none I.kIn True.intro e (fun z => nomatch z) h
  | bl y => cases (show u = Value.bool y from rx); exact PySem.W.kia_one PySem.W.kitx_bool I.kIn True.intro e (fun z => nomatch z) h
  | int i => obtain ⟨t, q⟩ := (show ∃ t, u = Value.int i t from rx); cases q; exact PySem.W.kia_one PySem.W.kitx_int I.kIn True.intro e (fun z => nomatch z) h
  | str y => obtain ⟨t, q⟩ := (show ∃ t, u = Value.str y t from rx); cases q; exact PySem.W.kia_one PySem.W.kitx_str I.kIn True.intro e (fun z => nomatch z) h
  | flt y => obtain ⟨t, q⟩ := (show ∃ t, u = Value.float y t from rx); cases q; exact PySem.W.kia_one PySem.W.kitx_float I.kIn True.intro e (fun z => nomatch z) h
  | @lst a xs ea =>
    cases (show u = Value.ref a from rx)
    obtain ⟨_, _, n, _, h1⟩ := (show ObjOk X.prog X.w H s.heap a (.lst xs) from I.hok a _ ea)
    exact PySem.W.kia_one PySem.W.kitx_list I.kIn ⟨_, h1, rfl⟩ e (fun z => nomatch z) h
  | @frz a ob xs ea =>
    cases (show u = Value.ref a from rx)
    obtain ⟨_, _, _, n, _, h1⟩ := (show ObjOk X.prog X.w H s.heap a (.frz ob (.lst xs)) from I.hok a _ ea)
    exact PySem.W.kia_one PySem.W.kitx_list I.kIn ⟨_, h1, rfl⟩ e (fun z => nomatch z) h
  | @tup a xs ea =>
    cases (show u = Value.ref a from rx)
    obtain ⟨_, _, _, p⟩ := (show ObjOk X.prog X.w H s.heap a (.tup xs) from I.hok a _ ea)
    obtain ⟨o, h1, h2, _⟩ := p
    exact PySem.W.kia_one PySem.W.kitx_tuple I.kIn ⟨o, h1, h2⟩ e (fun z => nomatch z) h
  | @dK a kvs ea =>
    cases (show u = Value.ref a from rx)
    obtain ⟨_, _, vs, _, p⟩ := (show ObjOk X.prog X.w H s.heap a (.dK kvs) from I.hok a _ ea)
    obtain ⟨o, es, ep, h1, h2, _⟩ := p
    exact PySem.W.kia_one PySem.W.kitx_dict I.kIn ⟨o, h1, h2.1⟩ e (fun z => nomatch z) h
  | @dT a kvs ea =>
    cases (show u = Value.ref a from rx)
    obtain ⟨_, _, xs, _, o, es, ep, h1, h2, _⟩ := (show ObjOk X.prog X.w H s.heap a (.dT kvs) from I.hok a _ ea)
    exact PySem.W.kia_one PySem.W.kitx_dict I.kIn ⟨o, h1, h2.1⟩ e (fun z => nomatch z) h
  | @ins a C dx fs ea cl ha hn htk hm =>
    cases (show u = Value.ref a from rx)
    obtain ⟨mA, O, _⟩ := ins_get I.hok ea
    obtain ⟨od, J, _⟩ := O.look
    exact PySem.W.kia_one (PySem.W.kitx_own (cl.get _) cl.hd ha hn htk hm) I.kIn J e (fun z => nomatch z) h
end
end L2

namespace L2
open PySem PySem.Spec PyProof.Rows

/-! ### room -/
structure Room (k : Nat) (A : Around) : Prop where
  hd : A.handled = none
  dp : A.depth + 3 * k + 5 < recursionLimit
  un : A.units + 16 * k + 200 < cLine
theorem Room.mono {j k : Nat} {A : Around} (r : Room k A) (h : j ≤ k) : Room j A := ⟨r.hd, by have := r.dp; omega, by have := r.un; omega⟩
theorem Room.deeper {k : Nat} {A : Around} (r : Room (k + 1) A) (env : Env) : Room k (A.deeper env) :=
  ⟨r.hd, by have := r.dp; show A.depth + 1 + 3 * k + 5 < _; omega, by have := r.un; show A.units + 3 + 16 * k + 200 < _; omega⟩
theorem Room.in1 {k : Nat} {A : Around} (r : Room (k + 1) A) : Room k A.in1 :=
  ⟨r.hd, by have := r.dp; show A.depth + 3 * k + 5 < _; omega, by have := r.un; show A.units + 1 + 16 * k + 200 < _; omega⟩
theorem Room.depth {k : Nat} {A : Around} (r : Room k A) : A.depth < recursionLimit := by have := r.dp; omega
theorem Room.units {k : Nat} {A : Around} (r : Room k A) : A.units + 64 < cLine := by have := r.un; omega
theorem Room.units0 {k : Nat} {A : Around} (r : Room k A) : A.units < cLine := by have := r.un; omega

/-! ### argument lists and displays -/
def tNil : TA := fun _ H Q => Q [] H
def tCons (ta : TE) (tr : TA) : TA := fun σ H Q => ta σ H fun x H1 => tr σ H1 fun xs H2 => Q (x :: xs) H2
section
variable {X : Cx} {e : Expr} {es : List Expr} {te : TE} {t : TA} {pos : Pos}
theorem pa_nil : PA X [] tNil := fun _ _ _ _ H Q I h => Calls.spliced_nil ⟨[], H, I, .nil, h⟩
theorem pa_cons (ha : PE X e te) (hr : PA X es t) (hs : starEach (e :: es) X.env = (false, eval e X.env) :: starEach es X.env := by rfl) : PA X (e :: es) (tCons te t) := by
  intro pos pins s σ H Q I h
  rw [hs]
  show wpAny _ _ (spliced ((false, eval e X.env) :: backTo pos (starEach es X.env))) _ _ s
  refine Calls.spliced_cons (thn (ha pins s σ H _ I h) fun u s1 ⟨x, H1, I1, r1, q1⟩ => ?_)
  exact thn (hr pos pins s1 σ H1 _ I1 q1) fun us s2 ⟨xs, H2, I2, r2, q2⟩ => ⟨x :: xs, H2, I2, .cons r1 r2, q2⟩

/-- a tuple, a list of written items -/
def tTup (t : TA) : TE := fun σ H Q => t σ H fun xs H1 => xs.length ≤ sizeLine ∧ ∀ p, H1 p = none → Q (.ref p) (upd H1 p (.tup xs))
def tLst (t : TA) : TE := fun σ H Q => t σ H fun xs H1 => xs.length ≤ sizeLine ∧ ∀ p, H1 p = none → Q (.ref p) (upd H1 p (.lst xs))
theorem pe_tup {x1} (h : PA X es t) : PE X (.Tuple es x1 pos) (tTup t) := by
  intro pins s σ H Q I hq
  refine wpAny_Tuple_spliced (thn (h pos pins s σ H _ I hq) fun us s1 ⟨xs, H1, I1, r, z, q⟩ => ⟨by rw [← r.length]; exact z, ?_⟩)
  have hf : H1 s1.heap.objs.size = none := I1.hok.fresh (Nat.le_refl _)
  refine ⟨.ref s1.heap.objs.size, upd H1 s1.heap.objs.size (.tup xs), I1.laid (t' := s1.toks) (fun b u e => Heap.get?_push_of_some _ e) (Nat.le_refl _) ?_, rfl, q _ hf⟩
  exact ⟨z, us, r, ⟨_, Heap.get?_push_size _ rfl, rfl, _, rfl⟩⟩
theorem pe_lst (h : PA X es t) : PE X (.List es pos) (tLst t) := by
  intro pins s σ H Q I hq
  refine wpAny_List_spliced (thn (h pos pins s σ H _ I hq) fun us s1 ⟨xs, H1, I1, r, z, q⟩ => ⟨by rw [← r.length]; exact z, ?_⟩)
  have hf : H1 s1.heap.objs.size = none := I1.hok.fresh (Nat.le_refl _)
  refine ⟨.ref s1.heap.objs.size, upd H1 s1.heap.objs.size (.lst xs), I1.laid (t' := s1.toks) (fun b u e => Heap.get?_push_of_some _ e) (Nat.le_refl _) ?_, rfl, q _ hf⟩
  exact ⟨z, us, 0, r, Heap.get?_push_size _ rfl⟩
end

/-! ### what a def promises -/
/-- a def's promise: the bound arguments in the parameters' order, the heap, the wanted end, the wanted exception -/
abbrev Sp := List V → Hp → VK → XK → Prop
/-- how an exception lies behind a call (file 08 gives it): the callers' frames, abstract heap and state ahead of the call, the wish, the exception, the state -/
abbrev CXT := List Env → Hp → Shared → XK → Value → Shared → Prop

/-- the state at a call -/
structure Env0 (P : Program) (w : World) (K : PySem.W.Frag) (mg : Str → Option Value) (base : Heap) (A : Around) (outer : List Env) (s : Shared) (H : Hp) : Prop where
  frames : A.frames = some outer
  mod : Mod K mg base
  bs : ∀ b o, base.get? b = some o → s.heap.get? b = some o ∧ H b = none
  bsz : base.objs.size ≤ s.heap.objs.size
  funs : s.heap.FunFrames base outer
  frf : ∀ b ∈ frs outer, H b = none
  hok : HOk P w H s.heap
  bare : AllBare s.gens
/-- a call's end -/
def CE (outer : List Env) (P : Program) (w : World) (H : Hp) (s : Shared) (Q : VK) (u : Value) (s' : Shared) : Prop :=
  ∃ v H', s'.os = s.os ∧ AllBare s'.gens ∧ Un (frs outer) [] H H' s.heap s'.heap ∧ HOk P w H' s'.heap ∧ RelV v u ∧ Q v H'
def CR (CX : CXT) (outer : List Env) (P : Program) (w : World) (H : Hp) (s : Shared) (Q : VK) (E : XK) (r : Result) (s' : Shared) : Prop :=
  match r with
  | .ok (.ret u) => CE outer P w H s Q u s'
  | .ok _ => False
  | .error e => CX outer H s E e s'
structure FnOk (P : Program) (w : World) (K : PySem.W.Frag) (mg : Str → Option Value) (base : Heap) (CX : CXT) (k : Nat) (f : Addr) (fd : FuncData) (ps : List Str) (sp : Sp) : Prop where
  len : ∀ vs H Q E, sp vs H Q E → vs.length = ps.length
  run : ∀ (A : Around) (outer : List Env) (s : Shared) (H : Hp) (args : Args) (us : List Value) (vs : List V) (Q : VK) (E : XK), Room k A → Env0 P w K mg base A outer s H → BindsTo s fd args (ps.zip us) → Vals vs us → sp vs H Q E →
    codeAny (model P w) A (.call (.ref f) args) (CR CX outer P w H s Q E) s
theorem FnOk.mono {P : Program} {w : World} {K : PySem.W.Frag} {mg : Str → Option Value} {base : Heap} {CX : CXT} {j k : Nat} {f : Addr} {fd : FuncData} {ps : List Str} {sp : Sp} (F : FnOk P w K mg base CX j f fd ps sp) (h : j ≤ k) :
    FnOk P w K mg base CX k f fd ps sp := ⟨F.len, fun A outer s H args us vs Q E hr => F.run A outer s H args us vs Q E (hr.mono h)⟩
theorem Env0.in1 {P : Program} {w : World} {K : PySem.W.Frag} {mg : Str → Option Value} {base : Heap} {A : Around} {outer : List Env} {s : Shared} {H : Hp} (e : Env0 P w K mg base A outer s H) :
    Env0 P w K mg base A.in1 outer s H := ⟨e.frames, e.mod, e.bs, e.bsz, e.funs, e.frf, e.hok, e.bare⟩

section
variable {X : Cx} {pins : List (Addr × Obj)} {σ : St} {H : Hp} {s s' : Shared}
/-- from a body: what a callee wants -/
theorem Inv.env0 (I : Inv X pins σ H s) : Env0 X.prog X.w X.K X.mg X.base X.A X.stack s H :=
  ⟨I.ok.frames, I.ok.mod, I.bs, Nat.le_trans I.ok.bsz I.sz, I.stack, I.stkFree, I.hok, I.bare⟩
/-- behind a call -/
theorem Inv.after {Q : VK} {u : Value} (I : Inv X pins σ H s) (h : CE X.stack X.prog X.w H s Q u s') : EP X pins σ Q u s' := by
  obtain ⟨v, H', os, bare, un, hok, r, q⟩ := h
  obtain ⟨hh, g, d, t, os'⟩ := s'
  obtain rfl : os' = s.os := os
  exact ⟨v, H', I.call (h' := hh) (g' := g) (d' := d) (t' := t) (ch := []) un hok bare (fun b z => absurd z (by simp)), r, q⟩
end

/-! ### calls -/
/-- f(..): the written arguments, then the defaults dvs; E: what is wanted of an exception -/
def tCall (sp : Sp) (dvs : List V) (E : XK) (t : TA) : TE := fun σ H Q => t σ H fun vs H1 => sp (vs ++ dvs) H1 Q E
/-- how the parameters are bound: us the positional arguments, kw the keywords' values by name, ds the defaults that fill up -/
def Binds (K : PySem.W.Frag) (fd : FuncData) (ps : List Str) (ds : List Value) : Prop :=
  ∀ (s : Shared) (us : List Value), K.In s.heap → (us ++ ds).length = ps.length → BindsTo s fd ⟨us, []⟩ (ps.zip (us ++ ds))
/-- every parameter is given -/
theorem Binds.all {K : PySem.W.Frag} {fd : FuncData} {ps : List Str} (h : ∀ us : List Value, us.length = ps.length → bindArgs fd ⟨us, []⟩ = pure (ps.zip us)) : Binds K fd ps [] := fun s us _ hl => by
  rw [List.append_nil] at hl ⊢
  exact .of_eq (h us hl)

/-- an exception of a callee reaches what this body wants of exceptions -/
def Passes (CX : CXT) (X : Cx) (E : XK) : Prop := ∀ (pins : List (Addr × Obj)) (σ : St) (H : Hp) (s : Shared) (e : Value) (s' : Shared), Inv X pins σ H s → CX X.stack H s E e s' → X.xe e s'

section
variable {X : Cx} {CX : CXT} {k : Nat} {f C : Addr} {fd : FuncData} {ps : List Str} {sp : Sp} {dvs : List V} {ds : List Value} {E : XK} {x m : Str} {p pos apos : Pos} {e o : Expr} {es : List Expr} {ta : TE} {t : TA}

/-- the callee runs -/
theorem run_fn {pins : List (Addr × Obj)} {σ : St} {H : Hp} {s : Shared} {Q : VK} {us : List Value} {vs : List V} (F : FnOk X.prog X.w X.K X.mg X.base CX k f fd ps sp) (hr : Room k X.A) (hb : Binds X.K fd ps ds) (hd : Vals dvs ds) (hx : Passes CX X E)
    (I : Inv X pins σ H s) (r : Vals vs us) (h : sp (vs ++ dvs) H Q E) : wpAny (model X.prog X.w) X.A (call (.ref f) us) (EP X pins σ Q) X.xe s := by
  have r2 : Vals (vs ++ dvs) (us ++ ds) := r.append hd
  have hl : (us ++ ds).length = ps.length := by rw [← r2.length]; exact F.len _ _ _ _ h
  refine wpAny_call (codeAny_mono (F.run X.A X.stack s H ⟨us, []⟩ (us ++ ds) (vs ++ dvs) Q E hr I.env0 (hb s us I.kIn hl) r2 h) fun r s' hq => ?_)
  cases r with
  | error e => exact hx pins σ H s e s' I hq
  | ok fl =>
    cases fl with
    | ret u => exact I.after hq
    | next => exact False.elim hq
    | brk => exact False.elim hq
    | cont => exact False.elim hq

theorem pe_call (F : FnOk X.prog X.w X.K X.mg X.base CX k f fd ps sp) (hr : Room k X.A) (hg : Gl X x) (hm : X.mg x = some (.ref f)) (hk : PySem.W.keepIn X.K (.ref f) = true) (hb : Binds X.K fd ps ds) (hd : Vals dvs ds) (hx : Passes CX X E)
    (ha : PA X (e :: es) t) (hdb : (x == ("__debug__" : Str)) = false := by decide) (he : starEach (e :: es) X.env = (false, eval e X.env) :: starEach es X.env := by rfl) (hpl : (backTo pos (starEach es X.env)).any (·.1) = false := by rfl) :
    PE X (.Call (.Name x p) (e :: es) [] pos) (tCall sp dvs E t) := by
  intro pins s σ H Q I h
  refine wpAny_Call_Name_kw (ld_glob I hg hm ?_ hdb)
  refine PySem.W.callWith_K (h₀ := X.base) I.ok.mod.kin hk (thn (ha pos pins s σ H _ I h) fun us s1 ⟨vs, H1, I1, r, q⟩ => ⟨I1.kIn, ?_⟩) he hpl
  exact run_fn F hr hb hd hx I1 r q
theorem pe_call0 (F : FnOk X.prog X.w X.K X.mg X.base CX k f fd ps sp) (hr : Room k X.A) (hg : Gl X x) (hm : X.mg x = some (.ref f)) (hk : PySem.W.keepIn X.K (.ref f) = true) (hb : Binds X.K fd ps ds) (hd : Vals dvs ds) (hx : Passes CX X E)
    (hdb : (x == ("__debug__" : Str)) = false := by decide) : PE X (.Call (.Name x p) [] [] pos) (tCall sp dvs E tNil) := by
  intro pins s σ H Q I h
  refine wpAny_Call_Name_kw (ld_glob I hg hm ?_ hdb)
  exact PySem.W.callWith_K0 I.kIn hk (run_fn (us := []) F hr hb hd hx I .nil h)

/-- what a class must have to be made -/
structure Mk (K : PySem.W.Frag) (C f : Addr) : Prop where
  makes : PySem.W.makesIn K C = true
  init : PySem.W.findIn K (.ref C) "__init__" = some (some (.ref f))
  fn : PySem.W.isFn K (.ref f) = true
  kp : PySem.W.keepIn K (.ref C) = true

end

/-! ### keywords -/
/-- the values of the keywords, from the left -/
def PK (X : Cx) (kws : List Keyword) (t : TA) : Prop :=
  ∀ (pos : Pos) (pins : List (Addr × Obj)) (s : Shared) (σ : St) (H : Hp) (Q : List V → Hp → Prop), Inv X pins σ H s → t σ H Q → wpAny (model X.prog X.w) X.A (evalAll ((backToKw pos (keywordEach kws X.env)).map (·.2))) (AP X pins σ Q) X.xe s
section
variable {X : Cx} {CX : CXT} {k : Nat} {f C : Addr} {fd : FuncData} {ps ks : List Str} {sp : Sp} {E : XK} {x m : Str} {p pos apos kpos : Pos} {e o : Expr} {es : List Expr} {kws : List Keyword} {te ta : TE} {t tk : TA} {nm : Option Str}
theorem pk_nil : PK X [] tNil := fun _ _ _ _ H Q I h => wpAny_evalAll_nil ⟨[], H, I, .nil, h⟩
theorem pk_cons (ha : PE X e te) (hr : PK X kws t) : PK X (⟨nm, e, kpos⟩ :: kws) (tCons te t) := by
  intro pos pins s σ H Q I h
  show wpAny _ _ (evalAll ((do let v ← eval e X.env; standAt pos; pure v) :: (backToKw pos (keywordEach kws X.env)).map (·.2))) _ _ s
  refine wpAny_evalAll_cons (wpAny_bind (thn (ha pins s σ H _ I h) fun u s1 ⟨x, H1, I1, r1, q1⟩ => wpAny_bind (wpAny_standAt (wpAny_pure ?_))))
  exact thn (hr pos pins s1 σ H1 _ I1 q1) fun us s2 ⟨xs, H2, I2, r2, q2⟩ => ⟨x :: xs, H2, I2, .cons r1 r2, q2⟩

/-- how a call with keywords binds: g puts the positional values us and the keywords' values ws (names ks) in the parameters' order, defaults among them -/
structure KBinds (K : PySem.W.Frag) (fd : FuncData) (ps ks : List Str) (g : List Value → List Value → List Value) (gV : List V → List V → List V) : Prop where
  to : ∀ (s : Shared) (us ws : List Value), K.In s.heap → (g us ws).length = ps.length → BindsTo s fd ⟨us, ks.zip ws⟩ (ps.zip (g us ws))
  rel : ∀ {vs : List V} {us : List Value} {zs : List V} {ws : List Value}, Vals vs us → Vals zs ws → Vals (gV vs zs) (g us ws)
variable {g : List Value → List Value → List Value} {gV : List V → List V → List V}
end

/-! ### a def's body keeps its promise -/
/-- names: the parameters first -/
structure FnScope (N P : List Str) (sc : Scope) : Prop where
  kind : sc.kind = .function
  co : sc.isCoroutine = false
  gen : sc.isGenerator = false
  nd : N.Nodup
  pre : N.take P.length = P
  par : ∀ x ∈ P, sc.names.lookup x = some .local ∨ sc.names.lookup x = some .cell
  nofree : ∀ y ∈ sc.names, y.2 ≠ .free

theorem bindL_out {kindOf : Str → Option NameKind} {x : Str} : ∀ {binds : List (Str × Value)} {m : Str → Option Value}, (∀ v, (x, v) ∉ binds) → bindL kindOf binds m x = m x
  | [], _, _ => rfl
  | (n, v) :: r, m, h => by
    unfold bindL
    rw [bindL_out fun w hw => h w (List.mem_cons_of_mem _ hw)]
    split
    · have : x ≠ n := by rintro rfl; exact h v List.mem_cons_self
      simp [this]
    · rfl
theorem bindC_out {kindOf : Str → Option NameKind} {x : Str} : ∀ {binds : List (Str × Value)} {m : Str → Option Value}, (∀ v, (x, v) ∉ binds) → bindC kindOf binds m x = m x
  | [], _, _ => rfl
  | (n, v) :: r, m, h => by
    unfold bindC
    rw [bindC_out fun w hw => h w (List.mem_cons_of_mem _ hw)]
    split
    · rfl
    · have : x ≠ n := by rintro rfl; exact h v List.mem_cons_self
      simp [this]
theorem bindL_get {kindOf : Str → Option NameKind} {x : Str} {v : Value} : ∀ {P : List Str} {vs : List Value} {i : Nat} {m : Str → Option Value}, P.Nodup → P[i]? = some x → vs[i]? = some v → kindOf x = some .local →
    bindL kindOf (P.zip vs) m x = some v
  | [], _, _, _, _, h, _, _ => by simp at h
  | _ :: _, [], _, _, _, _, h, _ => by simp at h
  | p :: P, w :: vs, 0, m, nd, h1, h2, hk => by
    simp at h1 h2; subst h1; subst h2
    show bindL kindOf ((p, w) :: P.zip vs) m p = _
    unfold bindL
    rw [bindL_out fun v hv => (List.nodup_cons.mp nd).1 (List.of_mem_zip hv).1, if_pos hk]
    simp
  | p :: P, w :: vs, i + 1, m, nd, h1, h2, hk => by
    show bindL kindOf ((p, w) :: P.zip vs) m x = _
    unfold bindL
    exact bindL_get (i := i) (List.nodup_cons.mp nd).2 (by simpa using h1) (by simpa using h2) hk
theorem bindC_get {kindOf : Str → Option NameKind} {x : Str} {v : Value} : ∀ {P : List Str} {vs : List Value} {i : Nat} {m : Str → Option Value}, P.Nodup → P[i]? = some x → vs[i]? = some v → kindOf x ≠ some .local →
    bindC kindOf (P.zip vs) m x = some v
  | [], _, _, _, _, h, _, _ => by simp at h
  | _ :: _, [], _, _, _, _, h, _ => by simp at h
  | p :: P, w :: vs, 0, m, nd, h1, h2, hk => by
    simp at h1 h2; subst h1; subst h2
    show bindC kindOf ((p, w) :: P.zip vs) m p = _
    unfold bindC
    rw [bindC_out fun v hv => (List.nodup_cons.mp nd).1 (List.of_mem_zip hv).1, if_neg hk]
    simp
  | p :: P, w :: vs, i + 1, m, nd, h1, h2, hk => by
    show bindC kindOf ((p, w) :: P.zip vs) m x = _
    unfold bindC
    exact bindC_get (i := i) (List.nodup_cons.mp nd).2 (by simpa using h1) (by simpa using h2) hk

/-- the names' values at the entry -/
def start (N : List Str) (vs : List V) : St := vs.map some ++ List.replicate (N.length - vs.length) none

/-- the context of a def's body, at its entry; an exception leaves the frame, then lies as CX says -/
def cxOf (CX : CXT) (P : Program) (w : World) (K : PySem.W.Frag) (mg : Str → Option Value) (base : Heap) (N : List Str) (qual : Str) (scope : Scope) (f : Addr) (cd : Value) (A : Around) (outer : List Env) (s : Shared) (H : Hp) (E : XK) : Cx where
  prog := P
  w := w
  K := K
  mg := mg
  base := base
  A := A.deeper (envOfC qual scope s.heap.objs.size f cd)
  N := N
  s₀ := s
  H₀ := H
  env := envOfC qual scope s.heap.objs.size f cd
  outer := outer
  stack := envOfC qual scope s.heap.objs.size f cd :: outer
  ex := []
  calm := true
  fn := fun _ => true
  pn := []
  xe := fun e s' => wpAny (model P w) (A.deeper (envOfC qual scope s.heap.objs.size f cd)) (leaving (envOfC qual scope s.heap.objs.size f cd) e) (fun _ s'' => CX outer H s E e s'') (fun e' s'' => CX outer H s E e' s'') s'

theorem cell_has {sc : Scope} {n : Nat} {x : Str} (h : sc.names.lookup x = some .cell) : ∃ c, (cellsFrom n sc.names []).lookup x = some c := by
  have q := PySem.W.cellsFrom_some sc.names n [] (.inl h)
  exact Option.isSome_iff_exists.mp q

theorem inv_start {CX : CXT} {P : Program} {w : World} {K : PySem.W.Frag} {mg : Str → Option Value} {base : Heap} {N ps : List Str} {qual : Str} {scope : Scope} {f : Addr} {cd : Value} {A : Around} {outer : List Env} {s s1 : Shared} {H : Hp} {E : XK} {us : List Value} {vs : List V}
    (S : FnScope N ps scope) (hd : A.handled = none) (e0 : Env0 P w K mg base A outer s H) (hl : vs.length = ps.length) (r : Vals vs us)
    (x : InCallC s s.heap.objs.size (bindL (envOfC qual scope s.heap.objs.size f cd).kindOf (ps.zip us) fun _ => none) (cellsFrom (s.heap.objs.size + 1) scope.names []) (bindC (envOfC qual scope s.heap.objs.size f cd).kindOf (ps.zip us) fun _ => none) s1) :
    Inv (cxOf CX P w K mg base N qual scope f cd A outer s H E) [] (start N vs) H s1 := by
  have hpl : ps.length ≤ N.length := by have := congrArg List.length S.pre; rw [List.length_take] at this; omega
  obtain ⟨h1, tk, rfl, hk⟩ := x.done
  have noA : ∀ b : Addr, b ∉ (cxOf CX P w K mg base N qual scope f cd A outer s H E).ex := fun b z => absurd (show b ∈ ([] : List Addr) from z) (by simp)
  refine ⟨⟨e0.mod, S.kind, rfl, rfl, Nat.le_refl _, fun y z c h1 h2 => ?_, fun y hy => ?_, fun y c _ h => ?_, fun _ => hd, Around.frames_deeper e0.frames, .inr ⟨rfl, rfl⟩, fun b z => absurd z (noA b), e0.bs, e0.bsz, fun b _ _ => noA b, fun b z => absurd z (noA b), e0.funs, e0.frf⟩,
    rfl, e0.bare, Un.kept hk, ⟨_, x.toInCall.ns, fun i y v h1 h2 h3 => ?_⟩, fun y c h => ⟨_, x.cell y c h⟩, e0.hok.fresh (Nat.le_refl _), fun y c h => ?_, fun p hp => absurd (show p ∈ ([] : List (Addr × Obj)) from hp) (by simp), e0.hok.kept hk, ?_⟩
  · exact name_of_addr x.apart (PySem.mem_of_lookup h1) (PySem.mem_of_lookup h2)
  · have hy : scope.names.lookup y = some .cell ∨ scope.names.lookup y = some .free := hy
    rcases hy with hy | hy
    · exact cell_has hy
    · exact absurd rfl (S.nofree _ (PySem.mem_of_lookup hy))
  · exact Nat.le_of_lt (x.above y c (PySem.mem_of_lookup h))
  · have hi : i < vs.length := by
      unfold start at h2
      by_cases hi : i < vs.length
      · exact hi
      · rw [List.getElem?_append_right (by simpa using hi)] at h2
        rw [List.getElem?_replicate] at h2
        split at h2 <;> cases h2
    have ha : vs[i]? = some v := by
      unfold start at h2
      rw [List.getElem?_append_left (by simpa using hi), List.getElem?_map] at h2
      cases e : vs[i]? with
      | none => rw [e] at h2; cases h2
      | some a => rw [e] at h2; cases h2; rfl
    obtain ⟨u, hu, rv⟩ := r.get ha
    have hp : ps[i]? = some y := by
      rw [← S.pre, List.getElem?_take_of_lt (by omega)]; exact h1
    have ndP : ps.Nodup := by rw [← S.pre]; exact S.nd.sublist (List.take_sublist _ _)
    refine ⟨u, rv, ?_⟩
    rcases S.par y (List.mem_of_getElem? hp) with k | k
    · exact .inl ⟨k, bindL_get ndP hp hu k⟩
    · obtain ⟨c, e⟩ := cell_has (n := s.heap.objs.size + 1) k
      refine .inr ⟨.inl k, c, e, ?_⟩
      have q := x.cell y c e
      rw [bindC_get ndP hp hu (by show scope.names.lookup y ≠ _; rw [k]; decide)] at q
      exact q
  · exact e0.hok.fresh (Nat.le_of_lt (x.above y c (PySem.mem_of_lookup h)))
  · unfold start
    show _ = N.length
    rw [List.length_append, List.length_map, List.length_replicate]
    omega

/-- THE RULE: a def (or a method) of the text, by its body. The body's reading t is chosen for each entry; it is run at the parameters' values -/
theorem fn_of {CX : CXT} {P : Program} {w : World} {K : PySem.W.Frag} {mg : Str → Option Value} {base : Heap} {k : Nat} {f : Addr} {name qual : Str} {params : Arguments} {body : List Stmt} {scope : Scope} {dV kV doc pm cdv ct oc : Value} {an od : Option Addr}
    {osl : Array (Option Value)} {N ps : List Str} {sp : Sp} (lk : K.lookup f = some ⟨oc, od, .func (PySem.W.fnOf name qual params body scope dV kV doc pm an cdv ct), osl⟩) (hcd : PySem.W.codeIn K cdv qual = true) (S : FnScope N ps scope)
    (len : ∀ vs H Q E, sp vs H Q E → vs.length = ps.length)
    (hbody : ∀ (A : Around) (outer : List Env) (s : Shared) (H : Hp) (vs : List V) (Q : VK) (E : XK), Room k (A.deeper (envOfC qual scope s.heap.objs.size f cdv)) → sp vs H Q E →
      ∃ t, PSs (cxOf CX P w K mg base N qual scope f cdv A outer s H E) body t ∧ t { nx := fun _ H' => Q .non H', rt := Q } (start N vs) H) :
    FnOk P w K mg base CX (k + 1) f (PySem.W.fnOf name qual params body scope dV kV doc pm an cdv ct) ps sp := by
  refine ⟨len, fun A outer s H args us vs Q E hr e0 hb r hsp => ?_⟩
  have hl := len _ _ _ _ hsp
  have KX : K.In s.heap := e0.mod.kin.keeps fun b o e => (e0.bs b o e).1
  have lim : s.heap.NoLimit := e0.mod.nolimit.keeps fun b o e => (e0.bs b o e).1
  have hkind : ∀ y ∈ ps.zip us, scope.names.lookup y.1 = some .local ∨ (scope.names.lookup y.1 = some .cell ∧ ((cellsFrom (s.heap.objs.size + 1) scope.names []).lookup y.1).isSome = true) := fun ⟨n, v⟩ hy => by
    rcases S.par n (List.of_mem_zip hy).1 with q | q
    · exact .inl q
    · exact .inr ⟨q, PySem.W.cellsFrom_some _ _ _ (.inl q)⟩
  refine codeAny_call_function hr.depth (KX _ _ lk) rfl S.co S.gen rfl (PySem.W.codeRec_of KX hcd) (hb _ _ _ _ ?_)
  refine wpAny_newFunctionEnv_cells S.kind hkind fun env he s1 x => ?_
  subst he
  refine ⟨lim.keeps x.toInCall.keep, codeAny_func ?_⟩
  obtain ⟨t, ht, hq⟩ := hbody A outer s H vs Q E (hr.deeper _) hsp
  have I : Inv (cxOf CX P w K mg base N qual scope f cdv A outer s H E) [] (start N vs) H s1 := inv_start S hr.hd e0 hl r x
  refine wpAny_mono (ht [] s1 (start N vs) H _ I hq) (fun fl s' hs => ?_) fun e s' hs => hs
  have fin : ∀ {σ' : St} {H' : Hp} {v : V} {u : Value}, Inv (cxOf CX P w K mg base N qual scope f cdv A outer s H E) [] σ' H' s' → RelV v u → Q v H' → CE outer P w H s Q u s' :=
    fun {σ' H' v u} J rv q => ⟨v, H', J.os, J.bare, J.base, J.hok, rv, q⟩
  cases fl with
  | ret u =>
    obtain ⟨v, σ', H', J, rv, q⟩ := hs
    exact fin J rv q
  | next =>
    obtain ⟨σ', H', J, q⟩ := hs
    exact fin (v := V.non) (u := Value.none) J rfl q
  | brk =>
    obtain ⟨_, _, _, q⟩ := hs
    exact False.elim q
  | cont =>
    obtain ⟨_, _, _, q⟩ := hs
    exact False.elim q
end L2

namespace L2
open PySem PySem.Spec PyProof.Rows
section
variable {X : Cx} {x : Str} {p pos : Pos} {e : Expr} {es : List Expr} {t : TA} {id T : String} {r : List V → Hp → VK → Prop}

def tCB (r : List V → Hp → VK → Prop) (t : TA) : TE := fun σ H Q => t σ H fun vs H1 => r vs H1 Q
/-- f(e, ..), f a built-in function -/
theorem pe_callB (hc : CallR X (.builtin id) r) (hg : Gl X x) (hm : X.mg x = none) (hv : bootBuiltins x = some (.builtin id)) (ha : PA X (e :: es) t) (hn : x ≠ "__name__" := by decide) (hdb : (x == ("__debug__" : Str)) = false := by decide)
    (he : starEach (e :: es) X.env = (false, eval e X.env) :: starEach es X.env := by rfl) (hpl : (backTo pos (starEach es X.env)).any (·.1) = false := by rfl) : PE X (.Call (.Name x p) (e :: es) [] pos) (tCB r t) := by
  intro pins s σ H Q I h
  refine wpAny_Call_Name_kw (ld_blt I hg hm hv ?_ hn hdb)
  exact PyProof.Rows.callWith_builtin1 (thn (ha pos pins s σ H _ I h) fun us s1 ⟨vs, H1, I1, r1, q1⟩ => hc pins s1 σ H1 vs us Q I1 r1 q1) he hpl
/-- T(e, ..), T a built-in type -/
theorem pe_callTy (hc : CallR X (.type T) r) (hg : Gl X x) (hm : X.mg x = none) (hv : bootBuiltins x = some (.type T)) (ha : PA X (e :: es) t) (hn : x ≠ "__name__" := by decide) (hdb : (x == ("__debug__" : Str)) = false := by decide)
    (he : starEach (e :: es) X.env = (false, eval e X.env) :: starEach es X.env := by rfl) (hpl : (backTo pos (starEach es X.env)).any (·.1) = false := by rfl) : PE X (.Call (.Name x p) (e :: es) [] pos) (tCB r t) := by
  intro pins s σ H Q I h
  refine wpAny_Call_Name_kw (ld_blt I hg hm hv ?_ hn hdb)
  exact PyProof.Rows.callWith_type1 (thn (ha pos pins s σ H _ I h) fun us s1 ⟨vs, H1, I1, r1, q1⟩ => hc pins s1 σ H1 vs us Q I1 r1 q1) he hpl
end
end L2

namespace L2
open PySem PySem.Spec PyProof.Rows

/-! ### lists of pairs as tables -/
section
variable {κ : Type} [DecidableEq κ]
def valV (kvs : List (κ × V)) (k : κ) : Option V := (kvs.find? fun kv => decide (kv.1 = k)).map (·.2)
/-- in its place, or at the end -/
def putK (kvs : List (κ × V)) (k : κ) (v : V) : List (κ × V) :=
  if (kvs.any fun kv => decide (kv.1 = k)) = true then kvs.map (fun kv => if kv.1 = k then (kv.1, v) else kv) else kvs ++ [(k, v)]
def dropK (kvs : List (κ × V)) (k : κ) : List (κ × V) := kvs.filter fun kv => decide (kv.1 ≠ k)

theorem valV_pos {p : κ × V} {r : List (κ × V)} {k : κ} (e : p.1 = k) : valV (p :: r) k = some p.2 := by simp [valV, List.find?_cons, e]
theorem valV_neg {p : κ × V} {r : List (κ × V)} {k : κ} (e : ¬ p.1 = k) : valV (p :: r) k = valV r k := by simp [valV, List.find?_cons, e]
theorem valV_any (k : κ) : ∀ kvs : List (κ × V), (kvs.any fun kv => decide (kv.1 = k)) = (valV kvs k).isSome
  | [] => rfl
  | p :: r => by
    rw [List.any_cons]
    by_cases e : p.1 = k
    · simp only [valV_pos e, decide_eq_true e, Bool.true_or, Option.isSome_some]
    · rw [valV_neg e, decide_eq_false e, Bool.false_or]; exact valV_any k r
theorem length_putK (kvs : List (κ × V)) (k : κ) (v : V) : (putK kvs k v).length ≤ kvs.length + 1 := by
  unfold putK
  split
  · rw [List.length_map]; omega
  · rw [List.length_append, List.length_cons, List.length_nil]; omega
theorem RelO.isSome_eq {o : Option V} {u : Option Value} (r : RelO o u) : o.isSome = u.isSome := by
  cases o with
  | none => cases u with
    | none => rfl
    | some _ => exact (show False from r).elim
  | some _ => cases u with
    | none => exact (show False from r).elim
    | some _ => rfl
theorem RelO.getD {o : Option V} {u : Option Value} {d : V} {d' : Value} (r : RelO o u) (rd : RelV d d') : RelV (o.getD d) (u.getD d') := by
  cases o with
  | none => cases u with
    | none => exact rd
    | some _ => exact (show False from r).elim
  | some _ => cases u with
    | none => exact (show False from r).elim
    | some _ => exact r

/-- raw tables of the same keys -/
theorem KV.val {kvs : List (κ × V)} {vs : List (κ × Value)} (r : KV kvs vs) (k : κ) : RelO (valV kvs k) (valueAt vs k) := by
  unfold KV at r
  induction r with
  | nil => exact True.intro
  | @cons p q ps qs h t ih =>
    obtain ⟨h1, h2⟩ := h
    by_cases e : p.1 = k
    · have e' : q.1 = k := h1.symm.trans e
      have b : valueAt (q :: qs) k = some q.2 := by simp [valueAt, List.find?_cons, e']
      rw [valV_pos e, b]; exact h2
    · have e' : ¬ q.1 = k := fun z => e (h1.trans z)
      have b : valueAt (q :: qs) k = valueAt qs k := by simp [valueAt, List.find?_cons, e']
      rw [valV_neg e, b]; exact ih
theorem KV.any {kvs : List (κ × V)} {vs : List (κ × Value)} (r : KV kvs vs) (k : κ) : (kvs.any fun kv => decide (kv.1 = k)) = vs.any fun kv => decide (kv.1 = k) := by
  unfold KV at r
  induction r with
  | nil => rfl
  | cons h t ih => rw [List.any_cons, List.any_cons, ih, h.1]
theorem KV.repl {kvs : List (κ × V)} {vs : List (κ × Value)} (r : KV kvs vs) (k : κ) {y : V} {u : Value} (ry : RelV y u) :
    KV (kvs.map fun kv => if kv.1 = k then (kv.1, y) else kv) (vs.map fun kv => if kv.1 = k then (kv.1, u) else kv) := by
  unfold KV at r ⊢
  induction r with
  | nil => exact .nil
  | @cons p q ps qs h t ih =>
    rw [List.map_cons, List.map_cons]
    refine .cons ?_ ih
    obtain ⟨h1, h2⟩ := h
    by_cases e : p.1 = k
    · rw [if_pos e, if_pos (h1.symm.trans e)]; exact ⟨h1, ry⟩
    · rw [if_neg e, if_neg (fun z => e (h1.trans z))]; exact ⟨h1, h2⟩
theorem KV.put {kvs : List (κ × V)} {vs : List (κ × Value)} (r : KV kvs vs) (k : κ) {y : V} {u : Value} (ry : RelV y u) : KV (putK kvs k y) (stored vs k u) := by
  unfold putK stored
  rw [r.any k]
  by_cases e : (vs.any fun kv => decide (kv.1 = k)) = true
  · rw [if_pos e, if_pos e]; exact r.repl k ry
  · rw [if_neg e, if_neg e]; exact Paired.snoc r ⟨rfl, ry⟩
theorem KV.drop {kvs : List (κ × V)} {vs : List (κ × Value)} (r : KV kvs vs) (k : κ) : KV (dropK kvs k) (without vs k) := by
  unfold KV at r ⊢
  unfold dropK without
  induction r with
  | nil => exact .nil
  | @cons p q ps qs h t ih =>
    obtain ⟨h1, h2⟩ := h
    rw [List.filter_cons, List.filter_cons]
    by_cases e : p.1 = k
    · have a : ¬ decide (p.1 ≠ k) = true := by simp [e]
      have b : ¬ decide (q.1 ≠ k) = true := by simp [h1.symm.trans e]
      rw [if_neg a, if_neg b]; exact ih
    · have e' : ¬ q.1 = k := fun z => e (h1.trans z)
      have a : decide (p.1 ≠ k) = true := by simp [e]
      have b : decide (q.1 ≠ k) = true := by simp [e']
      rw [if_pos a, if_pos b]; exact .cons ⟨h1, h2⟩ ih
theorem KV.keys {kvs : List (κ × V)} {vs : List (κ × Value)} (r : KV kvs vs) : kvs.map (·.1) = vs.map (·.1) := by
  unfold KV at r
  induction r with
  | nil => rfl
  | cons h t ih => rw [List.map_cons, List.map_cons, ih, h.1]
theorem KV.length {kvs : List (κ × V)} {vs : List (κ × Value)} (r : KV kvs vs) : kvs.length = vs.length := Paired.length r
end


/-! ### a tracked dict, its keys ints and texts or tuples of these -/
theorem kV_is {P : Program} {w : World} {k : Key} {u : Value} (r : RelV (kV k) u) : (mixKind P w).is k u = true := by
  cases k with
  | inl i => obtain ⟨t, e⟩ := (show ∃ t, u = Value.int i t from r); subst e; exact mixKind_int P w i t
  | inr x => obtain ⟨t, e⟩ := (show ∃ t, u = Value.str x t from r); subst e; exact mixKind_str P w x t
theorem items_are {P : Program} {w : World} : ∀ {ks : List Key} {us : List Value}, Vals (ks.map kV) us → ItemsAre (mixKind P w) ks us
  | [], _, r => by rw [List.map_nil] at r; cases r; exact .nil
  | k :: ks, _, r => by
    rw [List.map_cons] at r
    cases r with
    | cons h t => exact .cons (kV_is h) (items_are t)

/-- raw entries of a dict with tuple keys -/
abbrev KT (H : Hp) : List (List Key × V) → List (List Key × Addr × Value) → Prop := Paired fun p q => p.1 = q.1 ∧ H q.2.1 = some (.tup (p.1.map kV)) ∧ RelV p.2 q.2.2
theorem KT.val {H : Hp} {kvs : List (List Key × V)} {xs : List (List Key × Addr × Value)} (r : KT H kvs xs) (k : List Key) : RelO (valV kvs k) ((atKey xs k).map (·.2)) := by
  induction r with
  | nil => exact True.intro
  | @cons p q ps qs h t ih =>
    obtain ⟨h1, _, h2⟩ := h
    by_cases e : p.1 = k
    · have e' : q.1 = k := h1.symm.trans e
      have b : atKey (q :: qs) k = some q.2 := by simp [atKey, List.find?_cons, e']
      rw [valV_pos e, b]; exact h2
    · have e' : ¬ q.1 = k := fun z => e (h1.trans z)
      have b : atKey (q :: qs) k = atKey qs k := by simp [atKey, List.find?_cons, e']
      rw [valV_neg e, b]; exact ih
theorem KT.repl {H : Hp} {kvs : List (List Key × V)} {xs : List (List Key × Addr × Value)} (r : KT H kvs xs) (k : List Key) {y : V} {u : Value} (ry : RelV y u) :
    KT H (kvs.map fun kv => if kv.1 = k then (kv.1, y) else kv) (xs.map (putAt k u)) := by
  induction r with
  | nil => exact .nil
  | @cons p q ps qs h t ih =>
    rw [List.map_cons, List.map_cons]
    refine .cons ?_ ih
    obtain ⟨h1, h2, h3⟩ := h
    unfold putAt
    by_cases e : p.1 = k
    · rw [if_pos e, if_pos (h1.symm.trans e)]; exact ⟨h1, h2, ry⟩
    · rw [if_neg e, if_neg (fun z => e (h1.trans z))]; exact ⟨h1, h2, h3⟩
theorem KT.put {H : Hp} {kvs : List (List Key × V)} {xs : List (List Key × Addr × Value)} (r : KT H kvs xs) (k : List Key) {b : Addr} {y : V} {u : Value} (hb : H b = some (.tup (k.map kV))) (ry : RelV y u) :
    KT H (putK kvs k y) (storedH xs k b u) := by
  have e : (kvs.any fun kv => decide (kv.1 = k)) = (atKey xs k).isSome := by
    rw [valV_any, (r.val k).isSome_eq, Option.isSome_map]
  unfold putK storedH
  rw [e]
  by_cases q : (atKey xs k).isSome = true
  · rw [if_pos q, if_pos q]; exact r.repl k ry
  · rw [if_neg q, if_neg q]; exact Paired.snoc r ⟨rfl, hb, ry⟩
theorem KT.keeps {H H' : Hp} {kvs : List (List Key × V)} {xs : List (List Key × Addr × Value)} (r : KT H kvs xs) (ht : ∀ b ys, H b = some (.tup ys) → H' b = some (.tup ys)) : KT H' kvs xs :=
  Paired.mapP r fun _ _ z => ⟨z.1, ht _ _ z.2.1, z.2.2⟩

section
variable {P : Program} {w : World} {H : Hp} {h : Heap} {a : Addr}
theorem rd_of {u : HO} (ok : HOk P w H h) (e : Rd H a u) : ObjOk P w H h a u := e.ok ok
theorem dk_rd {kvs : List (Key × V)} (ok : HOk P w H h) (e : Rd H a (.dK kvs)) : kvs.length ≤ sizeLine ∧ (a == sysModules) = false ∧ ∃ vs, KV kvs vs ∧ h.DictOf (mixKind P w) a vs :=
  show ObjOk P w H h a (.dK kvs) from rd_of ok e
theorem dk_of {kvs : List (Key × V)} (ok : HOk P w H h) (e : H a = some (.dK kvs)) : kvs.length ≤ sizeLine ∧ (a == sysModules) = false ∧ ∃ vs, KV kvs vs ∧ h.DictOf (mixKind P w) a vs := dk_rd ok (.inl e)
/-- a tracked tuple of ints and texts is a key -/
theorem key_of {ks : List Key} (ok : HOk P w H h) (e : H a = some (.tup (ks.map kV))) : (tupleKind (mixKind P w)).is h ks a := by
  obtain ⟨_, its, r, o, h1, h2, n, h3⟩ := (show ObjOk P w H h a (.tup (ks.map kV)) from ok a _ e)
  exact ⟨o, its.toArray, n, h1, h2, h3, by simpa using items_are r⟩
theorem dt_rd {kvs : List (List Key × V)} (ok : HOk P w H h) (e : Rd H a (.dT kvs)) : kvs.length ≤ sizeLine ∧ (a == sysModules) = false ∧
    ∃ xs, KT H kvs xs ∧ h.DictOfH (tupleKind (mixKind P w)) a xs := by
  obtain ⟨z, y, xs, r, o, es, ep, h1, h2, h3, h4, h5⟩ := (show ObjOk P w H h a (.dT kvs) from rd_of ok e)
  refine ⟨z, y, xs, r, o, es, ep, h1, h2, h3, h4, fun x hx => ?_, h5⟩
  have all : ∀ {l : List (List Key × V)} {m : List (List Key × Addr × Value)}, KT H l m → ∀ x ∈ m, (tupleKind (mixKind P w)).is h x.1 x.2.1 := by
    intro l m q
    induction q with
    | nil => intro x hx; exact nomatch hx
    | @cons p q ps qs hq t ih =>
      intro x hx
      rcases List.mem_cons.mp hx with e | hx
      · subst e
        exact key_of ok (by rw [← hq.1]; exact hq.2.1)
      · exact ih x hx
  exact all r x hx
theorem dt_of {kvs : List (List Key × V)} (ok : HOk P w H h) (e : H a = some (.dT kvs)) : kvs.length ≤ sizeLine ∧ (a == sysModules) = false ∧
    ∃ xs, KT H kvs xs ∧ h.DictOfH (tupleKind (mixKind P w)) a xs := dt_rd ok (.inl e)
end

/-- what the dict at a holds at the key y -/
def DGet (H : Hp) (a : Addr) (y : V) (r : Option V) : Prop :=
  (∃ kvs k, Rd H a (.dK kvs) ∧ y = kV k ∧ r = valV kvs k) ∨ ∃ kvs k b, Rd H a (.dT kvs) ∧ y = .ref b ∧ H b = some (.tup (k.map kV)) ∧ r = valV kvs k
/-- the heap behind a[y] = v -/
def DPut (H : Hp) (a : Addr) (y v : V) (H' : Hp) : Prop :=
  (∃ kvs k, H a = some (.dK kvs) ∧ y = kV k ∧ kvs.length < sizeLine ∧ H' = upd H a (.dK (putK kvs k v))) ∨
  ∃ kvs k b, H a = some (.dT kvs) ∧ y = .ref b ∧ H b = some (.tup (k.map kV)) ∧ kvs.length < sizeLine ∧ H' = upd H a (.dT (putK kvs k v))
theorem DGet.k {H : Hp} {a : Addr} {kvs : List (Key × V)} {k : Key} (e : H a = some (.dK kvs)) : DGet H a (kV k) (valV kvs k) := .inl ⟨kvs, k, .inl e, rfl, rfl⟩
theorem DGet.t {H : Hp} {a b : Addr} {kvs : List (List Key × V)} {k : List Key} (e : H a = some (.dT kvs)) (eb : H b = some (.tup (k.map kV))) : DGet H a (.ref b) (valV kvs k) := .inr ⟨kvs, k, b, .inl e, rfl, eb, rfl⟩
theorem DPut.k {H : Hp} {a : Addr} {kvs : List (Key × V)} {k : Key} {v : V} (e : H a = some (.dK kvs)) (hl : kvs.length < sizeLine) : DPut H a (kV k) v (upd H a (.dK (putK kvs k v))) := .inl ⟨kvs, k, e, rfl, hl, rfl⟩
theorem DPut.t {H : Hp} {a b : Addr} {kvs : List (List Key × V)} {k : List Key} {v : V} (e : H a = some (.dT kvs)) (eb : H b = some (.tup (k.map kV))) (hl : kvs.length < sizeLine) :
    DPut H a (.ref b) v (upd H a (.dT (putK kvs k v))) := .inr ⟨kvs, k, b, e, rfl, eb, hl, rfl⟩


section
variable {X : Cx} {pins : List (Addr × Obj)} {σ : St} {H : Hp} {s : Shared} {a : Addr} {y v : V} {u r : Value} {o : Option V} {A : Around} {E : Value → Shared → Prop}

theorem Inv.big (I : Inv X pins σ H s) : sysModules < s.heap.objs.size := by
  have h : mainGlobals < s.heap.objs.size := (I.mod.glob.keeps I.bk).lt
  exact Nat.lt_trans (by decide) h

/-- d[y], there -/
theorem d_getItem {Q : Value → Shared → Prop} (hu : A.units + 1 < cLine) (I : Inv X pins σ H s) (g : DGet H a y (some v)) (ry : RelV y u) (h : ∀ w' s', Inv X pins σ H s' → RelV v w' → Q w' s') :
    wpAny (model X.prog X.w) A (getItem (.ref a) u) Q E s := by
  rcases g with ⟨kvs, k, e, ey, l⟩ | ⟨kvs, k, b, e, ey, eb, l⟩
  · subst ey
    obtain ⟨z, hd, vs, rel, dd⟩ := dk_rd I.hok e
    obtain ⟨w', hw, rw'⟩ := RelO.some_of (v := v) (o := valueAt vs k) (by rw [l]; exact rel.val k)
    exact wpAny_getItem_of (kV_is ry) dd.mapOf hw (h w' _ (I.tok _) rw')
  · subst ey
    cases (show u = Value.ref b from ry)
    obtain ⟨z, hd, xs, rel, dd⟩ := dt_rd I.hok e
    obtain ⟨w', hw, rw'⟩ := RelO.some_of (v := v) (o := (atKey xs k).map (·.2)) (by rw [l]; exact rel.val k)
    obtain ⟨p, hp, hp2⟩ := Option.map_eq_some_iff.mp hw
    refine wpAny_getItem_heap (tupleKind_room_in1 hu) (key_of I.hok eb) dd hp ?_
    rw [hp2]
    exact h w' _ (I.tok _) rw'
/-- a dict's object is replaced -/
theorem d_write {h' : Heap} {t' : Nat} {ob : HO} (I : Inv X pins σ H s) (mu : Mut (H a)) (hs : Heap.SameBut a s.heap h') (he : ∃ q, h'.get? a = some q) (new : ObjOk X.prog X.w (upd H a ob) h' a ob) :
    Inv X pins σ (upd H a ob) { s with heap := h', toks := t' } :=
  I.write (x := a) (e := a) mu (.inl rfl) (fun b q hb z => (hs.2 b hb).trans z) he new
theorem dk_new {P : Program} {w : World} {H' : Hp} {h' : Heap} {kvs : List (Key × V)} {vs : List (Key × Value)} (z : kvs.length ≤ sizeLine) (hd : (a == sysModules) = false) (rel : KV kvs vs) (dd : h'.DictOf (mixKind P w) a vs) :
    ObjOk P w H' h' a (.dK kvs) := ⟨z, hd, vs, rel, dd⟩
/-- d[y] = v -/
theorem d_setItem {H' : Hp} {Q : Unit → Shared → Prop} (hu : A.units + 1 < cLine) (I : Inv X pins σ H s) (g : DPut H a y v H') (ry : RelV y u) (rv : RelV v r) (h : ∀ s', Inv X pins σ H' s' → Q () s') :
    wpAny (model X.prog X.w) A (setItem (.ref a) u r) Q E s := by
  rcases g with ⟨kvs, k, e, ey, l, eH⟩ | ⟨kvs, k, b, e, ey, eb, l, eH⟩
  · subst ey eH
    obtain ⟨z, hd, vs, rel, dd⟩ := dk_of I.hok e
    have hz : vs.length ≤ sizeLine := by rw [← rel.length]; exact z
    have hl : (putK kvs k v).length ≤ sizeLine := by have := length_putK kvs k v; omega
    refine wpAny_setItem_pairs (hsz := hz) (kV_is ry) dd fun h' dd' hs => h _ ?_
    have he : ∃ q, h'.get? a = some q := let ⟨q, _, _, hq, _⟩ := dd'; ⟨q, hq⟩
    exact d_write I (by rw [e]; exact True.intro) hs he (dk_new hl hd (rel.put k rv) dd')
  · subst ey eH
    cases (show u = Value.ref b from ry)
    obtain ⟨z, hd, xs, rel, dd⟩ := dt_of I.hok e
    have hz : xs.length ≤ sizeLine := by rw [← Paired.length rel]; exact z
    have hl : (putK kvs k v).length ≤ sizeLine := by have := length_putK kvs k v; omega
    refine wpAny_setItem_heap (hsz := hz) (tupleKind_room_in1 hu) (key_of I.hok eb) dd fun h' dd' hs => h _ ?_
    obtain ⟨q, es, ep, hq, h2, h3, h4, _, h5⟩ := dd'
    refine d_write I (by rw [e]; exact True.intro) hs ⟨q, hq⟩ ⟨hl, hd, _, (rel.put k eb rv).keeps fun c ys ec => ?_, q, es, ep, hq, h2, h3, h4, h5⟩
    rw [upd_ne (ne_of ec e (fun z => nomatch z))]
    exact ec
end

section
variable {X : Cx} {pins : List (Addr × Obj)} {σ : St} {H : Hp} {s : Shared} {a : Addr} {kvs : List (Key × V)} {k : Key} {u : Value} {A : Around} {E : Value → Shared → Prop}
end


/-! ### readings and rules -/
/-- the element of a subscription, not a slice -/
def NoSl (i : Expr) : Prop := ∀ ov iv, subscripted i false ov iv = operate [ov, iv] (getItem ov iv)
theorem subD_of {prog : Program} {w : World} {A : Around} {E : Value → Shared → Prop} {s : Shared} {env : Env} {value slice : Expr} {pos : Pos} {T id : String} {Q : Value → Shared → Prop}
    (hl : typeLookup (.type T) "__getitem__" = pure (some (.builtin id))) (hs : NoSl slice)
    (h : wpAny (model prog w) A (eval value env) (fun o s₁ => wpAny (model prog w) A (eval slice env) (fun i s₂ => s₂.TypeIs o T ∧ wpAny (model prog w) A (getItem o i) Q E s₂) E s₁) E s) :
    wpAny (model prog w) A (eval (.Subscript value slice pos) env) Q E s := by
  refine Subscript_ (wpAny_mono h (fun o s₁ h₁ => wpAny_mono h₁ (fun i s₂ h₂ => ?_) fun _ _ x => x) fun _ _ x => x)
  obtain ⟨hT, h₂⟩ := h₂
  unfold subscriptTail
  refine wpAny_bind ?_
  rw [getitemInPython_of_ne hT.not_modules]
  refine wpAny_bind (wpAny_specialOf hT hl ?_)
  have fin : wpAny (model prog w) A (subscripted slice false o i) (fun r s₃ => wpAny (model prog w) A (letTemporaryGo value o r >>= fun _ => pure r) Q E s₃) E s₂ := by
    rw [hs o i]
    exact wpAny_operating (wpAny_mono h₂ (fun r s₃ h₃ => wpAny_bind (wpAny_letTemporaryGo (wpAny_pure h₃))) fun _ _ x => x)
  first
    | exact wpAny_pure (wpAny_bind fin)
    | exact wpAny_bind (wpAny_pure (wpAny_bind fin))
    | exact wpAny_bind fin

theorem dict_typeIs {X : Cx} {pins : List (Addr × Obj)} {σ : St} {H : Hp} {s : Shared} {a : Addr} {y : V} {o : Option V} (I : Inv X pins σ H s) (g : DGet H a y o) : s.TypeIs (.ref a) "dict" := by
  rcases g with ⟨kvs, k, e, _, _⟩ | ⟨kvs, k, b, e, _, _, _⟩
  · obtain ⟨_, _, vs, _, dd⟩ := dk_rd I.hok e
    exact dd.typeIs
  · obtain ⟨_, _, xs, _, dd⟩ := dt_rd I.hok e
    exact dd.typeIs
/-- d[y] -/
def tDGet (td ty : TE) : TE := fun σ H Q => td σ H fun x H1 => ty σ H1 fun y H2 => ∃ a v, x = .ref a ∧ DGet H2 a y (some v) ∧ Q v H2
/-- d[y] = v -/
def sDPut (td ty tv : TE) : TS := fun D σ H => tv σ H fun v H1 => td σ H1 fun x H2 => ty σ H2 fun y H3 => ∃ a H4, x = .ref a ∧ DPut H3 a y v H4 ∧ D.nx σ H4
section
variable {X : Cx} {o i e value : Expr} {pos pos' tpos : Pos} {td ty tv : TE}
theorem pe_dget (hu : X.A.units + 1 < cLine) (ho : PE X o td) (hi : PE X i ty) (hs : NoSl i) : PE X (.Subscript o i pos) (tDGet td ty) := by
  intro pins s σ H Q I h
  refine subD_of PySem.F.slot_dict_getitem.lookup hs (thn (ho pins s σ H _ I h) fun u s1 ⟨x, H1, I1, rx, q1⟩ => thn (hi pins s1 σ H1 _ I1 q1) fun iv s2 ⟨y, H2, I2, ry, a, v, ex, g, q2⟩ => ?_)
  subst ex
  obtain rfl : u = Value.ref a := rx
  exact ⟨dict_typeIs I2 g, d_getItem hu I2 g ry fun w' s3 I3 rw' => ⟨v, H2, I3, rw', q2⟩⟩
theorem ps_dput (hu : X.A.units + 1 < cLine) (ho : PE X o td) (hi : PE X i ty) (hv : PE X value tv) (hs : swapsWith value (some (.Subscript o i pos')) pos.line X.env = pure false) :
    PS X (.Assign [.Subscript o i pos'] value pos) (sDPut td ty tv) := by
  intro pins s σ H D I h
  refine wpAny_Assign_Subscript (thn (hv pins s σ H _ I h) fun r s1 ⟨v, H1, I1, rv, q1⟩ => thn (ho pins s1 σ H1 _ I1 q1) fun u s2 ⟨x, H2, I2, rx, q2⟩ => thn (hi pins s2 σ H2 _ I2 q2) fun iv s3 ⟨y, H3, I3, ry, a, H4, ex, g, q3⟩ => ?_) hs
  subst ex
  obtain rfl : u = Value.ref a := rx
  exact d_setItem hu I3 g ry rv fun s4 I4 => ⟨σ, H4, I4, q3⟩
end


/-! ### displays -/
theorem dk_empty {P : Program} {w : World} {H : Hp} (h : Heap) (hb : sysModules < h.objs.size) : ObjOk P w H (h.push { cls := .type "dict", data := .dict #[] }) h.objs.size (.dK []) :=
  ⟨Nat.zero_le _, beq_eq_false_iff_ne.mpr (Ne.symm (Nat.ne_of_lt hb)), [], .nil, Heap.DictOf.new h⟩
section
variable {X : Cx} {pos : Pos}
end

/-- the pairs of a display, from the left -/
def tPairs : List (TE × TE) → St → Hp → (List (V × V) → Hp → Prop) → Prop
  | [], _, H, Q => Q [] H
  | (tk, tv) :: r, σ, H, Q => tk σ H fun x H1 => tv σ H1 fun y H2 => tPairs r σ H2 fun ps H3 => Q ((x, y) :: ps) H3
abbrev VV : List (V × V) → List (Value × Value) → Prop := Paired fun p q => RelV p.1 q.1 ∧ RelV p.2 q.2
def PPs (X : Cx) (pos : Pos) (keys : List (Option Expr)) (values : List Expr) (trs : List (TE × TE)) : Prop :=
  ∀ (pins : List (Addr × Obj)) (s : Shared) (σ : St) (H : Hp) (Q : List (V × V) → Hp → Prop), Inv X pins σ H s → tPairs trs σ H Q →
    wpAny (model X.prog X.w) X.A (evalPairs (pairTrees keys values X.env pos)) (fun vs s' => ∃ ps H', Inv X pins σ H' s' ∧ VV ps vs ∧ Q ps H') X.xe s
theorem pps_nil {X : Cx} {pos : Pos} : PPs X pos [] [] [] := fun pins s σ H Q I h => pairTrees_nil_walk ⟨[], H, I, .nil, h⟩
theorem pps_cons {X : Cx} {pos : Pos} {k v : Expr} {ks : List (Option Expr)} {vs : List Expr} {tk tv : TE} {trs : List (TE × TE)} (hk : PE X k tk) (hv : PE X v tv) (hr : PPs X pos ks vs trs) :
    PPs X pos (some k :: ks) (v :: vs) ((tk, tv) :: trs) := fun pins s σ H Q I h =>
  pairTrees_cons_walk (thn (hk pins s σ H _ I h) fun u s1 ⟨x, H1, I1, rx, q1⟩ => thn (hv pins s1 σ H1 _ I1 q1) fun w2 s2 ⟨y, H2, I2, ry, q2⟩ =>
    thn (hr pins s2 σ H2 _ I2 q2) fun ws s3 ⟨ps, H3, I3, rel, q3⟩ => ⟨(x, y) :: ps, H3, I3, .cons ⟨rx, ry⟩ rel, q3⟩)

def mergeK (kvs more : List (Key × V)) : List (Key × V) := more.foldl (fun acc kv => putK acc kv.1 kv.2) kvs
theorem KV.merge : ∀ {more : List (Key × V)} {rs : List (Key × Value)} {kvs : List (Key × V)} {vs : List (Key × Value)}, KV more rs → KV kvs vs → KV (mergeK kvs more) (merged vs rs) := by
  intro more rs kvs vs r
  unfold KV at r
  induction r generalizing kvs vs with
  | nil => intro q; exact q
  | @cons p q ps qs h t ih =>
    intro r0
    have e : KV (putK kvs p.1 p.2) (stored vs q.1 q.2) := by
      have := r0.put p.1 h.2
      rw [← h.1]; exact this
    exact ih e
theorem length_mergeK : ∀ (more kvs : List (Key × V)), (mergeK kvs more).length ≤ kvs.length + more.length
  | [], kvs => by show kvs.length ≤ kvs.length + 0; omega
  | p :: r, kvs => by
    have h1 := length_mergeK r (putK kvs p.1 p.2)
    have h2 := length_putK kvs p.1 p.2
    show (mergeK (putK kvs p.1 p.2) r).length ≤ _
    rw [List.length_cons]; omega
theorem carries_of {P : Program} {w : World} : ∀ {kvs : List (Key × V)} {ws : List (Value × Value)}, VV (kvs.map fun kv => (kV kv.1, kv.2)) ws → ∃ rs, Carries (mixKind P w) ws rs ∧ KV kvs rs
  | [], _, r => by rw [List.map_nil] at r; cases r; exact ⟨[], True.intro, .nil⟩
  | p :: kvs, _, r => by
    rw [List.map_cons] at r
    cases r with
    | @cons a b as bs h t =>
      obtain ⟨rs, c, q⟩ := carries_of (P := P) (w := w) t
      obtain ⟨b1, b2⟩ := b
      exact ⟨(p.1, b2) :: rs, ⟨kV_is h.1, rfl, c⟩, .cons ⟨rfl, h.2⟩ q⟩
/-- {k: v, ..} with keys ints and texts; the new dict stands empty while the pairs are made -/
def tDisp (trs : List (TE × TE)) : TE := fun σ H Q => ∀ p, H p = none → tPairs trs σ (upd H p (.dK [])) fun ps H2 => H2 p = some (.dK []) ∧ ∃ kvs : List (Key × V), ps = kvs.map (fun kv => (kV kv.1, kv.2)) ∧ kvs.length ≤ 15 ∧ Q (.ref p) (upd H2 p (.dK (mergeK [] kvs)))
theorem pe_disp {X : Cx} {pos : Pos} {keys : List (Option Expr)} {values : List Expr} {trs : List (TE × TE)} (h : PPs X pos keys values trs) (hall : keys.all (·.isSome) = true) (hl : keys.length = values.length) (h0 : keys ≠ [])
    (h15 : keys.length ≤ 15) : PE X (.Dict keys values pos) (tDisp trs) := by
  intro pins s σ H Q I q
  have hn := I.hok.fresh (Nat.le_refl s.heap.objs.size)
  have I1 := I.laid (a := s.heap.objs.size) (o := .dK []) (h' := s.heap.push { cls := .type "dict", data := .dict #[] }) (t' := s.toks) (fun _ _ q => Heap.get?_push_of_some _ q) (Nat.le_refl _) (dk_empty s.heap I.big)
  refine wpAny_Dict_walk (knd := mixKind X.prog X.w) hall hl h0 h15 (thn (h pins _ σ _ _ I1 (q _ hn)) fun ws s2 ⟨ps, H2, I2, rel, e, kvs, ep, lk, q2⟩ => ?_)
  subst ep
  obtain ⟨rs, c, rk⟩ := carries_of (P := X.prog) (w := X.w) rel
  obtain ⟨z, hd, vs0, r0, dd⟩ := dk_of I2.hok e
  cases r0
  refine ⟨rs, c, dd, fun h' dd' hs => ⟨.ref s.heap.objs.size, _, ?_, rfl, q2⟩⟩
  have hz : (mergeK [] kvs).length ≤ sizeLine := by
    have h1 := length_mergeK kvs []
    rw [List.length_nil] at h1
    rw [sizeLine_eq]; omega
  have he : ∃ q, h'.get? s.heap.objs.size = some q := let ⟨q, _, _, hq, _⟩ := dd'; ⟨q, hq⟩
  exact d_write I2 (by rw [e]; exact True.intro) hs he (dk_new hz hd (rk.merge .nil) dd')


/-! ### methods -/
/-- a method call o.m(e) of a built-in, with one argument: what must be seen of the text -/
structure M1 (X : Cx) (o : Expr) (m : Str) (apos : Pos) (e : Expr) (cpos : Pos) : Prop where
  base : attributeBase o m X.env (eval o X.env) = eval o X.env
  few : ((backTo cpos (starEach [e] X.env)).all (fun x => !x.1) && (backToKw cpos (keywordEach [] X.env)).all (fun x => x.1.isSome)
    && decide (([e] : List Expr).length + ([] : List Keyword).length + (if ([] : List Keyword).isEmpty then 0 else 1) < 30)) = true
  line : (apos.endLine == cpos.line) = true
  trees : backTo cpos (starEach [e] X.env) = [(false, eval e X.env)]
structure M2 (X : Cx) (o : Expr) (m : Str) (apos : Pos) (e f : Expr) (cpos : Pos) : Prop where
  base : attributeBase o m X.env (eval o X.env) = eval o X.env
  few : ((backTo cpos (starEach [e, f] X.env)).all (fun x => !x.1) && (backToKw cpos (keywordEach [] X.env)).all (fun x => x.1.isSome)
    && decide (([e, f] : List Expr).length + ([] : List Keyword).length + (if ([] : List Keyword).isEmpty then 0 else 1) < 30)) = true
  line : (apos.endLine == cpos.line) = true
  trees : backTo cpos (starEach [e, f] X.env) = [(false, eval e X.env), (false, eval f X.env)]

section
variable {X : Cx} {pins : List (Addr × Obj)} {σ : St} {H : Hp} {s : Shared} {a : Addr} {y d : V} {u r : Value} {o : Option V} {A : Around} {E : Value → Shared → Prop}
end

section
variable {X : Cx} {o e f : Expr} {apos cpos : Pos} {td ty tx : TE}
end

/-! ### dict(d): a copy -/
section
variable {X : Cx} {pins : List (Addr × Obj)} {σ : St} {H : Hp} {s : Shared} {a : Addr} {kvs : List (Key × V)} {A : Around} {E : Value → Shared → Prop}
end


section
variable {X : Cx} {pins : List (Addr × Obj)} {σ : St} {H : Hp} {s : Shared} {a : Addr} {y : V} {u : Value} {A : Around} {E : Value → Shared → Prop}
end
end L2

namespace HT
open PySem PyProof.Rows

section
open PySem.SeqAt
open PySem.AutoSeq1 (wpAny_loadPart')
open PySem.MeetsSeq PySem.MeetsSeq2 PySem.MeetsSeq3

end

section
variable {prog : Program} {w : World} {A : Around} {E : Value → Shared → Prop} {s : Shared}

/-- t + u, t not empty -/
theorem cat_tup {t b : Addr} {vs ws : List Value} {Q : Value → Shared → Prop} (ht : IsTup s.heap t vs.toArray) (hb : IsTup s.heap b ws.toArray) (hv : vs ≠ [])
    (h1 : ws = [] → Q (.ref t) s) (h2 : ws ≠ [] → Q (.ref s.heap.objs.size) { s with heap := s.heap.push { cls := .type "tuple", data := .seq (vs ++ ws).toArray } })
    (hsz : vs.length + ws.length ≤ sizeLine) : wpAny (model prog w) A (binaryOp .Add (.ref t) (.ref b)) Q E s := by
  obtain ⟨⟨cls, dd, data, sl⟩, ho, hc, n, hd⟩ := id ht
  obtain ⟨⟨cls2, dd2, data2, sl2⟩, ho2, hc2, n2, hd2⟩ := id hb
  simp only at hc hd hc2 hd2
  subst hc hd hc2 hd2
  have e : vs.toArray ++ ws.toArray = (vs ++ ws).toArray := by simp
  by_cases hw : ws = []
  · exact concat_meets ⟨_, ho, rfl⟩ ⟨_, ho2, rfl⟩ noFill_tuple_add seq_tuple_add PySem.F.slot_tuple_add PySem.F.entry_tuple_add (PySem.F.args_tuple_add_2 _ _)
      (tuple_addW1 t b vs.toArray ws.toArray n n2 dd dd2 sl sl2 (by simpa using hv) (by simp [hw])) ⟨ho, ho2, h1 hw⟩
  · refine concat_meets ⟨_, ho, rfl⟩ ⟨_, ho2, rfl⟩ noFill_tuple_add seq_tuple_add PySem.F.slot_tuple_add PySem.F.entry_tuple_add (PySem.F.args_tuple_add_2 _ _)
      (tuple_addW2 t b vs.toArray ws.toArray n n2 dd dd2 sl sl2 (by simpa using hv) (by simpa using hw) (by rw [List.size_toArray, List.size_toArray]; exact hsz)) ⟨ho, ho2, ?_⟩
    rw [e]
    exact h2 hw

/-! ### t[a:b], not the whole -/
/-- a slice's bound as a place among n (d where it is left out) -/
def sIx (n d : Nat) : Option Int → Nat
  | none => d
  | some v => if v < 0 then (v + (n : Int)).toNat else min v.toNat n
theorem sIx_none (n d : Nat) : sIx n d none = d := rfl
theorem sIx_nat (n d k : Nat) : sIx n d (some (k : Int)) = min k n := by
  show (if (k : Int) < 0 then ((k : Int) + (n : Int)).toNat else min (k : Int).toNat n) = min k n
  rw [if_neg (by omega), Int.toNat_natCast]
theorem sIx_le (n d : Nat) (hd : d ≤ n) (o : Option Int) : sIx n d o ≤ n := by
  cases o with
  | none => exact hd
  | some v =>
    show (if v < 0 then (v + (n : Int)).toNat else min v.toNat n) ≤ n
    by_cases hv : v < 0
    · rw [if_pos hv]; omega
    · rw [if_neg hv]; exact Nat.min_le_right _ _
theorem clip_eq (v : Int) (n d : Nat) : (if v < 0 then max (v + (n : Int)) 0 else min v (n : Int)) = ((sIx n d (some v) : Nat) : Int) := by
  show (if v < 0 then max (v + (n : Int)) 0 else min v (n : Int)) = (((if v < 0 then (v + (n : Int)).toNat else min v.toNat n) : Nat) : Int)
  by_cases hv : v < 0
  · simp only [if_pos hv]; omega
  · simp only [if_neg hv]; omega
theorem adjust_gen (lo hi : Option Int) (n : Nat) : Builtin.Slice.sliceAdjust lo hi 1 (n : Int) = (((sIx n 0 lo : Nat) : Int), ((sIx n n hi : Nat) : Int)) := by
  have h1 : ¬ ((1 : Int) < 0) := by omega
  unfold Builtin.Slice.sliceAdjust
  simp only [h1, if_false]
  refine Prod.ext ?_ ?_
  · cases lo with
    | none => rfl
    | some v => exact clip_eq v n 0
  · cases hi with
    | none => rfl
    | some v => exact clip_eq v n n
theorem places_gen (i j : Nat) : Builtin.Slice.slicePlaces (i : Int) (j : Int) 1 = j - i := by
  unfold Builtin.Slice.slicePlaces
  have h1 : (1 : Int) > 0 := by omega
  simp only [h1, if_true, Int.ediv_one]
  split <;> omega
theorem slicePart_ {v : Value} {o : Option Int} {Q : Option Int → Shared → Prop} (p : IsPart v o) (h : Q o s) : wpAny (model prog w) A (Builtin.Slice.slicePartIndex v) Q E s := by
  cases p with
  | none => exact slicePart_none h
  | int i t => exact slicePart_int h
theorem sliceApplied_gen {sl : Addr} {vl vu : Value} {lo hi : Option Int} {n : Nat} {Q : Int × Int × Nat → Shared → Prop} (hs : s.heap.IsSliceOf sl vl vu .none) (pl : IsPart vl lo) (pu : IsPart vu hi)
    (h : Q (((sIx n 0 lo : Nat) : Int), 1, sIx n n hi - sIx n 0 lo) s) : wpAny (model prog w) A (Builtin.Slice.sliceApplied (.ref sl) (pure (n : Int))) Q E s := by
  obtain ⟨os, hos, hcs, hds⟩ := id hs
  unfold Builtin.Slice.sliceApplied Builtin.Slice.sliceFields
  refine wpAny_bind (wpAny_bind (wpAny_field hos hds (x := vl) rfl (wpAny_bind (wpAny_field hos hds (x := vu) rfl (wpAny_bind (wpAny_field hos hds (x := .none) rfl (wpAny_pure ?_)))))))
  refine wpAny_bind (slicePart_none ?_)
  show wpAny _ _ (if ((1 : Int) == 0) = true then _ else _) _ _ s
  rw [if_neg (by decide)]
  refine wpAny_bind (slicePart_ pl (wpAny_bind (slicePart_ pu (wpAny_bind (wpAny_pure ?_)))))
  show wpAny _ _ (match Builtin.Slice.sliceAdjust lo hi 1 (n : Int) with | (lo, hi) => pure (lo, (1 : Int), Builtin.Slice.slicePlaces lo hi 1)) _ _ s
  rw [adjust_gen lo hi n]
  show wpAny _ _ (pure (((sIx n 0 lo : Nat) : Int), (1 : Int), Builtin.Slice.slicePlaces ((sIx n 0 lo : Nat) : Int) ((sIx n n hi : Nat) : Int) 1)) _ _ s
  rw [places_gen]
  exact wpAny_pure h
theorem pick_gen (xs : Array Value) (i k : Nat) : ((List.range k).filterMap fun (m : Nat) => xs[((i : Int) + (m : Int) * 1).toNat]?).toArray = ((xs.toList.drop i).take k).toArray := by
  have e : (fun (m : Nat) => xs[((i : Int) + (m : Int) * 1).toNat]?) = fun m => xs[i + m]? := by
    funext m
    have : ((i : Int) + (m : Int) * 1).toNat = i + m := by omega
    rw [this]
  rw [e]
  have := pick_run xs i k
  rw [List.filterMap_map] at this
  have e2 : ((fun x => xs[x]?) ∘ fun x => i + x) = fun m => xs[i + m]? := rfl
  rw [e2] at this
  rw [this]

theorem getItem_tuple_cut {t sl : Addr} {items : Array Value} {vl vu : Value} {lo hi : Option Int} {Q : Value → Shared → Prop} (ht : IsTup s.heap t items) (hs : s.heap.IsSliceOf sl vl vu .none) (pl : IsPart vl lo) (pu : IsPart vu hi)
    (hw : ¬ (sIx items.size 0 lo = 0 ∧ sIx items.size items.size hi = items.size))
    (h : Q (.ref s.heap.objs.size) { s with heap := s.heap.push { cls := .type "tuple", data := .seq ((items.toList.drop (sIx items.size 0 lo)).take (sIx items.size items.size hi - sIx items.size 0 lo)).toArray } })
    (hsz : items.size ≤ sizeLine) : wpAny (model prog w) A (getItem (.ref t) (.ref sl)) Q E s := by
  have htake : sizeOk (.seq ((items.toList.drop (sIx items.size 0 lo)).take (sIx items.size items.size hi - sIx items.size 0 lo)).toArray) := by
    show ((items.toList.drop (sIx items.size 0 lo)).take (sIx items.size items.size hi - sIx items.size 0 lo)).toArray.size ≤ sizeLine
    rw [List.size_toArray, List.length_take, List.length_drop, Array.length_toList]
    omega
  have hj : sIx items.size items.size hi ≤ items.size := sIx_le _ _ (Nat.le_refl _) hi
  obtain ⟨os, hos, hcs, hds⟩ := id hs
  have hTs : s.TypeIs (.ref sl) "slice" := ⟨os, hos, hcs⟩
  unfold getItem
  try with_reducible refine wpAny_holding ?_
  first | refine wpAny_bind (wpAny_pure ?_) | skip
  refine wpAny_bind (wpAny_sequenceKey ht.typeIs (by decide) ?_)
  refine wpAny_bind (wpAny_callSpecial?_slot (name := Str.ofString "__getitem__") ht.typeIs PyProof.Rows.slot_tuple_getitem
    (wpAny_call_entry PyProof.Rows.slot_tuple_getitem ht.typeIs entry_tuple_getitem ?_ (args_tuple_getitem _ _)))
  show wpAny _ _ (Builtin.Tuple.tupleItemsOf (.ref t) >>= _) _ _ s
  refine wpAny_bind (tupleItemsOf_ ht ?_)
  refine wpAny_bind (wpAny_typeOf hTs ?_)
  rw [if_pos (by decide)]
  refine wpAny_bind (sliceApplied_gen hs pl pu ?_)
  have hno : ¬ ((((sIx items.size 0 lo : Nat) : Int) == 0 && (1 : Int) == 1 && (sIx items.size items.size hi - sIx items.size 0 lo) == items.size) = true) := by
    intro q
    rw [Bool.and_eq_true, Bool.and_eq_true] at q
    have q1 : ((sIx items.size 0 lo : Nat) : Int) = 0 := eq_of_beq q.1.1
    have q2 : sIx items.size items.size hi - sIx items.size 0 lo = items.size := eq_of_beq q.2
    exact hw ⟨by omega, by omega⟩
  show wpAny _ _ (if (((sIx items.size 0 lo : Nat) : Int) == 0 && (1 : Int) == 1 && (sIx items.size items.size hi - sIx items.size 0 lo) == items.size) = true then _ else _) _ _ s
  rw [if_neg hno, pick_gen]
  first
    | exact wpAny_bind (m := Builtin.Tuple.tupleExact _) (wpAny_newObj_type (wpAny_pure ⟨_, rfl, wpAny_pure h⟩) htake)
    | exact wpAny_bind (m := Builtin.Tuple.tupleExact _) (wpAny_newObj_type (wpAny_bind (wpAny_pure (wpAny_pure ⟨_, rfl, wpAny_pure h⟩))) htake)
    | exact wpAny_bind (wpAny_bind (m := Builtin.Tuple.tupleExact _) (wpAny_newObj_type (wpAny_pure (wpAny_pure ⟨_, rfl, wpAny_pure h⟩)) htake))
    | exact wpAny_bind (wpAny_bind (m := Builtin.Tuple.tupleExact _) (wpAny_newObj_type (wpAny_pure ⟨_, rfl, wpAny_pure h⟩) htake))
end
end HT

namespace L2
open PySem PySem.Spec PyProof.Rows

/-! ### the parts of a slice -/
abbrev TO := St → Hp → (Option Int → Hp → Prop) → Prop
/-- a slice's part (left out, or an int) -/
def PO (X : Cx) (e : Option Expr) (t : TO) : Prop :=
  ∀ (pins : List (Addr × Obj)) (s : Shared) (σ : St) (H : Hp) (Q : Option Int → Hp → Prop), Inv X pins σ H s → t σ H Q →
    wpAny (model X.prog X.w) X.A (evalPart e X.env) (fun u s' => ∃ o H', Inv X pins σ H' s' ∧ IsPart u o ∧ Q o H') X.xe s
def tNoPart : TO := fun _ H Q => Q none H
def tPart (t : TE) : TO := fun σ H Q => t σ H fun x H1 => ∃ i, x = .int i ∧ Q (some i) H1

section
variable {X : Cx} {e : Expr} {te : TE} {lo hi : Option Expr} {tl th : TO} {pos p2 : Pos}

theorem po_none : PO X none tNoPart := by
  intro pins s σ H Q I h
  rw [evalPart_none]
  exact wpAny_pure ⟨none, H, I, .none, h⟩
theorem po_some (h : PE X e te) : PO X (some e) (tPart te) := by
  intro pins s σ H Q I hw
  rw [evalPart_some]
  refine thn (h pins s σ H _ I hw) fun u s1 ⟨x, H1, I1, r1, q1⟩ => ?_
  obtain ⟨i, rfl, q⟩ := q1
  obtain ⟨t, rfl⟩ := r1
  exact ⟨some i, H1, I1, .int i t, q⟩

/-- what a slice of a value is, by values: the slice object stands at sl -/
def SlR (X : Cx) (r : V → Option Int → Option Int → Hp → VK → Prop) : Prop :=
  ∀ (pins : List (Addr × Obj)) (s : Shared) (σ : St) (H : Hp) (x : V) (v vl vu : Value) (lo hi : Option Int) (sl : Addr) (Q : VK), Inv X pins σ H s → RelV x v → s.heap.IsSliceOf sl vl vu .none → IsPart vl lo → IsPart vu hi → r x lo hi H Q →
    ∃ T id, typeLookup (.type T) "__getitem__" = pure (some (.builtin id)) ∧ s.TypeIs v T ∧ wpAny (model X.prog X.w) X.A (getItem v (.ref sl)) (EP X pins σ Q) X.xe s
theorem SlR.or {r r' : V → Option Int → Option Int → Hp → VK → Prop} (h : SlR X r) (h' : SlR X r') : SlR X (fun x lo hi H Q => r x lo hi H Q ∨ r' x lo hi H Q) := by
  intro pins s σ H x v vl vu lo hi sl Q I rx hs pl pu q
  rcases q with q | q
  · exact h pins s σ H x v vl vu lo hi sl Q I rx hs pl pu q
  · exact h' pins s σ H x v vl vu lo hi sl Q I rx hs pl pu q
def tSl (r : V → Option Int → Option Int → Hp → VK → Prop) (te : TE) (tl th : TO) : TE := fun σ H Q => te σ H fun x H1 => tl σ H1 fun l H2 => th σ H2 fun u H3 => r x l u H3 Q
/-- a[lo:hi], any a -/
theorem pe_slice {r : V → Option Int → Option Int → Hp → VK → Prop} (hr : SlR X r) (he : PE X e te) (hl : PO X lo tl) (hu : PO X hi th) : PE X (.Subscript e (.Slice lo hi none p2) pos) (tSl r te tl th) := by
  intro pins s σ H Q I h
  refine Subscript_ (thn (he pins s σ H _ I h) fun v s1 ⟨x, H1, I1, r1, q1⟩ => ?_)
  refine wpAny_Slice (thn (hl pins s1 σ H1 _ I1 q1) fun vl s2 ⟨l, H2, I2, pl, q2⟩ => thn (hu pins s2 σ H2 _ I2 q2) fun vu s3 ⟨u, H3, I3, pu, q3⟩ => ?_)
  rw [evalPart_none]
  refine wpAny_pure ?_
  have I4 : Inv X pins σ H3 { s3 with heap := s3.heap.push { cls := .type "slice", data := .fields #[vl, vu, .none] } } := I3.kept (t' := s3.toks) fun b ob q => Heap.get?_push_of_some _ q
  obtain ⟨T, id, hT, ht, hg⟩ := hr pins { s3 with heap := s3.heap.push { cls := .type "slice", data := .fields #[vl, vu, .none] } } σ H3 x v vl vu l u s3.heap.objs.size Q I4 r1 (Heap.IsSliceOf.new ..) pl pu q3
  show wpAny (model X.prog X.w) X.A (subscriptTail e (.Slice lo hi none p2) v (.ref s3.heap.objs.size)) (EP X pins σ Q) X.xe { s3 with heap := s3.heap.push { cls := .type "slice", data := .fields #[vl, vu, .none] } }
  exact tail_any (ops := [.ref s3.heap.objs.size, v]) ht hT hg (by with_unfolding_all rfl)

/-- the items of xs[lo:hi] -/
def cutV (xs : List V) (lo hi : Option Int) : List V := (xs.drop (HT.sIx xs.length 0 lo)).take (HT.sIx xs.length xs.length hi - HT.sIx xs.length 0 lo)
theorem cutV_length (xs : List V) (lo hi : Option Int) : (cutV xs lo hi).length ≤ xs.length := by
  unfold cutV
  rw [List.length_take, List.length_drop]
  omega
/-- t[lo:hi], not the whole of it (the whole would be t itself) -/
def rSlT (K : PySem.W.Frag) : V → Option Int → Option Int → Hp → VK → Prop := fun x lo hi H Q => ∃ a xs, x = .ref a ∧ SqT K H a xs ∧
  ¬ (HT.sIx xs.length 0 lo = 0 ∧ HT.sIx xs.length xs.length hi = xs.length) ∧ ∀ p, H p = none → Q (.ref p) (upd H p (.tup (cutV xs lo hi)))
theorem sl_tup : SlR X (rSlT X.K) := by
  intro pins s σ H x v vl vu lo hi sl Q I rx hs pl pu h
  obtain ⟨a, xs, rfl, hx, hw, q⟩ := h
  cases rx
  obtain ⟨its, r, ht, hz⟩ := I.tuple hx
  have hlen : its.toArray.size = xs.length := by rw [List.size_toArray]; exact r.length.symm
  refine ⟨"tuple", _, PyProof.Rows.slot_tuple_getitem.lookup, ht.typeIs, ?_⟩
  refine HT.getItem_tuple_cut ht hs pl pu (by rw [hlen]; exact hw) ?_ (by rw [hlen]; exact hz)
  rw [hlen]
  refine ⟨.ref s.heap.objs.size, _, I.laid (t' := s.toks) (o := .tup (cutV xs lo hi)) (fun b ob q => Heap.get?_push_of_some _ q) (Nat.le_refl _) ?_, rfl, q _ (I.hok.fresh (Nat.le_refl _))⟩
  exact ⟨Nat.le_trans (cutV_length xs lo hi) hz, _, (r.drop (HT.sIx xs.length 0 lo)).take (HT.sIx xs.length xs.length hi - HT.sIx xs.length 0 lo), IsTup.new _ _⟩

/-! ### t < u, t + u -/
/-- t + u, t not empty: u empty gives t itself -/
def rCatT (K : PySem.W.Frag) : R2 := fun x y H Q => ∃ a b xs ys, x = .ref a ∧ y = .ref b ∧ SqT K H a xs ∧ SqT K H b ys ∧ xs ≠ [] ∧ xs.length + ys.length ≤ sizeLine ∧
  (ys = [] → Q (.ref a) H) ∧ (ys ≠ [] → ∀ p, H p = none → Q (.ref p) (upd H p (.tup (xs ++ ys))))
theorem Vals.nil_iff {xs : List V} {us : List Value} (r : Vals xs us) : us = [] ↔ xs = [] := by
  cases r with
  | nil => simp
  | cons _ _ => simp
theorem op_catT : OpR X (binaryOp .Add) (rCatT X.K) := by
  intro pins s σ H x y v u Q I rx ry h
  obtain ⟨a, b, xs, ys, rfl, rfl, ha, hb, hx, hz, q1, q2⟩ := h
  cases rx
  cases ry
  obtain ⟨its, r1, p1, _⟩ := I.tuple ha
  obtain ⟨its2, r2, p2, _⟩ := I.tuple hb
  refine HT.cat_tup p1 p2 (fun z => hx (r1.nil_iff.mp z)) (fun z => ⟨.ref a, H, I, rfl, q1 (r2.nil_iff.mp z)⟩) (fun z => ?_) (by rw [← r1.length, ← r2.length]; exact hz)
  refine ⟨.ref s.heap.objs.size, _, I.laid (t' := s.toks) (o := .tup (xs ++ ys)) (fun b ob q => Heap.get?_push_of_some _ q) (Nat.le_refl _) ?_, rfl, q2 (fun w => z (r2.nil_iff.mpr w)) _ (I.hok.fresh (Nat.le_refl _))⟩
  exact ⟨by rw [List.length_append]; exact hz, _, r1.append r2, IsTup.new _ _⟩
end
end L2

namespace L2
open PySem PySem.Spec PyProof.Rows

/-! ### places -/
/-- the place that an index of any sign means -/
def ixN (n : Nat) (i : Int) : Option Nat := if 0 ≤ i then (if i < n then some i.toNat else none) else if -(n : Int) ≤ i then some (i + n).toNat else none
def atI {α : Type} (xs : List α) (i : Int) : Option α := (ixN xs.length i).bind fun j => xs[j]?
theorem ixN_seq {n : Nat} {i : Int} {j : Nat} (h : ixN n i = some j) : seqIndex? i n = some j ∧ j < n ∧ -(n : Int) ≤ i ∧ i < n := by
  unfold ixN at h
  by_cases h0 : 0 ≤ i
  · rw [if_pos h0] at h
    by_cases h1 : i < n
    · rw [if_pos h1] at h
      have e : i.toNat = j := Option.some.inj h
      exact ⟨by rw [seqIndex_of h0 h1, e], by omega, by omega, h1⟩
    · rw [if_neg h1] at h; cases h
  · rw [if_neg h0] at h
    by_cases h1 : -(n : Int) ≤ i
    · rw [if_pos h1] at h
      have e : (i + n).toNat = j := Option.some.inj h
      exact ⟨by rw [seqIndex_neg (by omega) h1, e], by omega, h1, by omega⟩
    · rw [if_neg h1] at h; cases h
theorem atI_get {α : Type} {xs : List α} {i : Int} {v : α} (h : atI xs i = some v) : ∃ j, seqIndex? i xs.length = some j ∧ xs[j]? = some v ∧ j < xs.length ∧ -(xs.length : Int) ≤ i ∧ i < xs.length := by
  unfold atI at h
  cases e : ixN xs.length i with
  | none => rw [e] at h; cases h
  | some j =>
    rw [e] at h
    obtain ⟨h1, h2, h3, h4⟩ := ixN_seq e
    exact ⟨j, h1, h, h2, h3, h4⟩
theorem atI_nat {α : Type} {xs : List α} {j : Nat} {v : α} (h : xs[j]? = some v) : atI xs (j : Int) = some v := by
  have hj : j < xs.length := (List.getElem?_eq_some_iff.mp h).1
  have e : ixN xs.length (j : Int) = some j := by
    unfold ixN
    rw [if_pos (by omega), if_pos (by omega)]; simp
  unfold atI; rw [e]; exact h
/-! ### what may be subscripted -/
/-- what stands as an index of a plain subscript -/
def PlainIx (b : Expr) : Prop := ∀ o i, subscripted b false o i = operate [o, i] (getItem o i)
/-- a subscript by values -/
def IxR (X : Cx) (r : R2) : Prop :=
  ∀ (value slice : Expr) (pins : List (Addr × Obj)) (s : Shared) (σ : St) (H : Hp) (x y : V) (v u : Value) (Q : VK), Inv X pins σ H s → RelV x v → RelV y u → r x y H Q →
    subscripted slice false v u = operate [v, u] (getItem v u) → wpAny (model X.prog X.w) X.A (subscriptTail value slice v u) (EP X pins σ Q) X.xe s
/-- a call of a builtin's method by values: the receiver, the arguments -/
def MtR (X : Cx) (id : String) (r : V → List V → Hp → VK → Prop) : Prop :=
  ∀ (pins : List (Addr × Obj)) (s : Shared) (σ : St) (H : Hp) (x : V) (xs : List V) (v : Value) (us : List Value) (Q : VK), Inv X pins σ H s → RelV x v → Vals xs us → r x xs H Q →
    wpAny (model X.prog X.w) X.A (call (.builtin id) (v :: us)) (EP X pins σ Q) X.xe s
section
variable {X : Cx} {a b : Expr} {ta tb : TE} {pos : Pos}
theorem IxR.or {r r' : R2} (h : IxR X r) (h' : IxR X r') : IxR X (fun x y H Q => r x y H Q ∨ r' x y H Q) := by
  intro value slice pins s σ H x y v u Q I rx ry q hs
  rcases q with q | q
  · exact h value slice pins s σ H x y v u Q I rx ry q hs
  · exact h' value slice pins s σ H x y v u Q I rx ry q hs
theorem MtR.or {id : String} {r r' : V → List V → Hp → VK → Prop} (h : MtR X id r) (h' : MtR X id r') : MtR X id (fun x xs H Q => r x xs H Q ∨ r' x xs H Q) := by
  intro pins s σ H x xs v us Q I rx rs q
  rcases q with q | q
  · exact h pins s σ H x xs v us Q I rx rs q
  · exact h' pins s σ H x xs v us Q I rx rs q
/-- a[b] -/
theorem pe_ix {r : R2} (hr : IxR X r) (ha : PE X a ta) (hb : PE X b tb) (hs : PlainIx b) : PE X (.Subscript a b pos) (tOp r ta tb) := by
  intro pins s σ H Q I h
  exact Subscript_ (binT ha hb I h fun v u s2 x y H2 I2 rx ry q => hr a b pins s2 σ H2 x y v u Q I2 rx ry q (hs _ _))

def rIxL (K : PySem.W.Frag) : R2 := fun x y H Q => ∃ p xs i v, x = .ref p ∧ y = .int i ∧ SqL K H p xs ∧ atI xs i = some v ∧ Q v H
def rIxT (K : PySem.W.Frag) : R2 := fun x y H Q => ∃ p xs i v, x = .ref p ∧ y = .int i ∧ SqT K H p xs ∧ atI xs i = some v ∧ Q v H
def rIxS : R2 := fun x y H Q => ∃ z i c, x = .str z ∧ y = .int i ∧ z.length ≤ sizeLine ∧ atI z.cps.toList i = some c ∧ Q (.str ⟨#[c]⟩) H
theorem ix_list : IxR X (rIxL X.K) := by
  intro value slice pins s σ H x y v u Q I rx ry h hs
  obtain ⟨p, xs, i, z, rfl, rfl, hq, he, q⟩ := h
  cases rx
  obtain ⟨t, rfl⟩ := ry
  obtain ⟨its, r, pl, hz⟩ := I.list hq
  obtain ⟨j, h1, h2, h3, h4, h5⟩ := atI_get he
  obtain ⟨w, ew, rw'⟩ := r.get h2
  have hl := r.length
  have hn := line63
  have fin : EP X pins σ Q w s := ⟨z, H, I, rw', q⟩
  by_cases h0 : 0 ≤ i
  · have hj : i.toNat = j := by
      rw [seqIndex_of h0 h5] at h1
      exact Option.some.inj h1
    exact item_listR pl.isList h0 (by omega) (by rw [hj]; simpa using ew) fin hs
  · have hj : (i + (its.toArray.size : Int)).toNat = j := by
      rw [seqIndex_neg (by omega) h4] at h1
      rw [List.size_toArray, ← hl]
      exact Option.some.inj h1
    exact subscriptTail_builtinR (x := w) pl.isList.typeIs slot_list_getitem.lookup
      (wpAny_getItem_list_neg (Q := fun r s' => r = w ∧ EP X pins σ Q r s') pl.isList (by omega) (by rw [List.size_toArray] <;> omega) (by omega) (by rw [hj]; simpa using ew) ⟨rfl, fin⟩) hs
theorem ix_tup : IxR X (rIxT X.K) := by
  intro value slice pins s σ H x y v u Q I rx ry h hs
  obtain ⟨p, xs, i, z, rfl, rfl, hq, he, q⟩ := h
  cases rx
  obtain ⟨t, rfl⟩ := ry
  obtain ⟨its, r, pl, hz⟩ := I.tuple hq
  obtain ⟨j, h1, h2, h3, h4, h5⟩ := atI_get he
  obtain ⟨w, ew, rw'⟩ := r.get h2
  have hl := r.length
  have hn := line63
  have fin : EP X pins σ Q w s := ⟨z, H, I, rw', q⟩
  exact subscriptTail_builtinR (x := w) pl.typeIs slot_tuple_getitem.lookup
    (getItem_tuple (j := j) (Q := fun r s' => r = w ∧ EP X pins σ Q r s') pl (by omega) (by omega) (by rw [List.size_toArray, ← hl]; exact h1) (by simpa using ew) ⟨rfl, fin⟩) hs
theorem ix_str : IxR X rIxS := by
  intro value slice pins s σ H x y v u Q I rx ry h hs
  obtain ⟨z, i, c, rfl, rfl, hz, he, q⟩ := h
  obtain ⟨t, rfl⟩ := rx
  obtain ⟨t', rfl⟩ := ry
  obtain ⟨j, h1, h2, h3, h4, h5⟩ := atI_get he
  have hl : z.cps.toList.length = z.length := by simp [Str.length]
  rw [hl] at h1 h4 h5
  have hn := line63
  exact tail_any (typeIs_str s z t) slot_str_getitem.lookup (getItem_str (c := c) (by
    have e1 : decide (i < -(2 ^ 63 : Int)) = false := decide_eq_false (by omega)
    have e2 : decide (i ≥ 2 ^ 63) = false := decide_eq_false (by omega)
    rw [e1, e2, Bool.or_false]) (by rw [h1]; simpa using h2) ⟨.str ⟨#[c]⟩, H, I.tok _, ⟨_, rfl⟩, q⟩) hs
/-! ### xs[i] = v, any sign -/
theorem Inv.lst {pins : List (Addr × Obj)} {σ : St} {H : Hp} {s : Shared} {p : Addr} {xs : List V} (I : Inv X pins σ H s) (h : H p = some (.lst xs)) :
    ∃ (its : List Value) (n : Nat), Vals xs its ∧ s.heap.get? p = some { cls := .type "list", data := .seq its.toArray n } ∧ xs.length ≤ sizeLine := by
  obtain ⟨z, its, n, r, e⟩ := I.hok p _ h
  exact ⟨its, n, r, e, z⟩
def rSetL : V → V → V → Hp → (Hp → Prop) → Prop := fun o i v H Q => ∃ p xs k j, o = .ref p ∧ i = .int k ∧ H p = some (.lst xs) ∧ ixN xs.length k = some j ∧ Q (upd H p (.lst (xs.set j v)))
/-! ### slices -/
theorem slice_bounds (lo hi : Option Int) (n : Nat) : (sliceBounds lo hi none n).1 = ((HT.sIx n 0 lo : Nat) : Int) ∧ (sliceBounds lo hi none n).2.1 = ((HT.sIx n n hi : Nat) : Int) ∧ (sliceBounds lo hi none n).2.2 = 1 := by
  refine ⟨?_, ?_, rfl⟩
  · cases lo with
    | none => simp [sliceBounds, HT.sIx]
    | some i =>
      simp only [sliceBounds, HT.sIx, Option.getD_none, show (1 : Int) > 0 by decide, if_true]
      by_cases h : i < 0
      · simp only [h, if_true] <;> omega
      · simp only [h, if_false] <;> omega
  · cases hi with
    | none => simp [sliceBounds, HT.sIx]
    | some i =>
      simp only [sliceBounds, HT.sIx, Option.getD_none, show (1 : Int) > 0 by decide, if_true]
      by_cases h : i < 0
      · simp only [h, if_true] <;> omega
      · simp only [h, if_false] <;> omega
theorem slicePick_cut (its : List Value) (lo hi : Option Int) : slicePick its.toArray lo hi none = ((its.drop (HT.sIx its.length 0 lo)).take (HT.sIx its.length its.length hi - HT.sIx its.length 0 lo)).toArray := by
  obtain ⟨h1, h2, h3⟩ := slice_bounds lo hi its.toArray.size
  unfold slicePick
  rw [h1, h2, h3]
  simp only [sliceRange_one, pick_run, List.size_toArray] <;> rfl
/-- xs[lo:hi] of a list: a new list -/
def rSlL (K : PySem.W.Frag) : V → Option Int → Option Int → Hp → VK → Prop := fun x lo hi H Q => ∃ a xs, x = .ref a ∧ SqL K H a xs ∧ ∀ p, H p = none → Q (.ref p) (upd H p (.lst (cutV xs lo hi)))
theorem sl_list : SlR X (rSlL X.K) := by
  intro pins s σ H x v vl vu lo hi sl Q I rx hs pl pu h
  obtain ⟨a, xs, rfl, hx, q⟩ := h
  cases rx
  obtain ⟨its, r, ht, hz⟩ := I.list hx
  have hlen := r.length
  refine ⟨"list", _, slot_list_getitem.lookup, ht.isList.typeIs, ?_⟩
  refine wpAny_getItem_list_slice ht.isList hs pl pu .none (by simp) ?_ (by rw [List.size_toArray] <;> omega)
  rw [slicePick_cut, ← hlen]
  refine ⟨.ref s.heap.objs.size, _, I.laid (t' := s.toks) (o := .lst (cutV xs lo hi)) (fun b ob q => Heap.get?_push_of_some _ q) (Nat.le_refl _) ?_, rfl, q _ (I.hok.fresh (Nat.le_refl _))⟩
  exact ⟨Nat.le_trans (cutV_length xs lo hi) hz, _, 0, (r.drop (HT.sIx xs.length 0 lo)).take (HT.sIx xs.length xs.length hi - HT.sIx xs.length 0 lo), Heap.get?_push_size _ rfl⟩

/-! ### in, not in: flat items -/
def flatV : V → Bool
  | .non => true
  | .bl _ => true
  | .int _ => true
  | .str _ => true
  | _ => false
/-- == of flat values -/
def eqV : V → V → Bool
  | .non, .non => true
  | .bl a, .bl b => a == b
  | .bl a, .int b => (if a then 1 else 0) == b
  | .int a, .bl b => a == (if b then 1 else 0)
  | .int a, .int b => a == b
  | .str a, .str b => a == b
  | _, _ => false
theorem eqAt_V {A : Around} {s : Shared} {y x : V} {u v : Value} (ry : RelV y u) (rx : RelV x v) (fy : flatV y = true) (fx : flatV x = true) : SeqAt.EqAt A s u v (eqV y x) := by
  cases y with
  | non =>
    cases ry
    cases x with
    | non => cases rx; exact SeqAt.EqAt.same _
    | bl b => cases rx; exact SeqAt.EqAt.none_bool b
    | int b => obtain ⟨t, rfl⟩ := rx; exact SeqAt.EqAt.none_int b t
    | str b => obtain ⟨t, rfl⟩ := rx; exact SeqAt.EqAt.none_str b t
    | _ => exact absurd (show false = true from fx) Bool.false_ne_true
  | bl a =>
    cases ry
    cases x with
    | non => cases rx; exact SeqAt.EqAt.bool_none a
    | bl b => cases rx; exact SeqAt.EqAt.bool_bool a b
    | int b => obtain ⟨t, rfl⟩ := rx; exact SeqAt.EqAt.bool_int a b t
    | str b => obtain ⟨t, rfl⟩ := rx; exact SeqAt.EqAt.bool_str a b t
    | _ => exact absurd (show false = true from fx) Bool.false_ne_true
  | int a =>
    obtain ⟨t', rfl⟩ := ry
    cases x with
    | non => cases rx; exact SeqAt.EqAt.int_none a t'
    | bl b => cases rx; exact SeqAt.EqAt.int_bool a t' b
    | int b => obtain ⟨t, rfl⟩ := rx; exact SeqAt.EqAt.int_int a t' b t
    | str b => obtain ⟨t, rfl⟩ := rx; exact SeqAt.EqAt.int_str a t' b t
    | _ => exact absurd (show false = true from fx) Bool.false_ne_true
  | str a =>
    obtain ⟨t', rfl⟩ := ry
    cases x with
    | non => cases rx; exact SeqAt.EqAt.str_none a t'
    | bl b => cases rx; exact SeqAt.EqAt.str_bool a t' b
    | int b => obtain ⟨t, rfl⟩ := rx; exact SeqAt.EqAt.str_int a t' b t
    | str b => obtain ⟨t, rfl⟩ := rx; exact SeqAt.EqAt.str_str a t' b t
    | _ => exact absurd (show false = true from fx) Bool.false_ne_true
  | _ => exact absurd (show false = true from fy) Bool.false_ne_true
/-- the items' answers, read off the values (a value's own answer does not lean on its token) -/
def eqU (x : V) (u : Value) : Bool := match u with
  | .none => eqV .non x
  | .bool b => eqV (.bl b) x
  | .int i _ => eqV (.int i) x
  | .str z _ => eqV (.str z) x
  | _ => false
theorem eqU_of {x y : V} {u : Value} (r : RelV y u) (f : flatV y = true) : eqU x u = eqV y x := by
  cases y with
  | non => cases r; rfl
  | bl b => cases r; rfl
  | int i => obtain ⟨t, rfl⟩ := r; rfl
  | str z => obtain ⟨t, rfl⟩ := r; rfl
  | _ => exact absurd (show false = true from f) Bool.false_ne_true
theorem any_eqU {x : V} : ∀ {xs : List V} {us : List Value}, Vals xs us → xs.all flatV = true → us.any (eqU x) = xs.any fun y => eqV y x
  | _, _, .nil, _ => rfl
  | y :: xs, u :: us, .cons r t, f => by
    rw [List.all_cons, Bool.and_eq_true] at f
    rw [List.any_cons, List.any_cons, eqU_of r f.1, any_eqU t f.2]
theorem mem_eqAt {A : Around} {s : Shared} {x : V} {v : Value} (rx : RelV x v) (fx : flatV x = true) : ∀ {xs : List V} {us : List Value}, Vals xs us → xs.all flatV = true → ∀ u ∈ us, SeqAt.EqAt A s u v (eqU x u)
  | _, _, .nil, _ => fun u hu => by cases hu
  | y :: xs, u :: us, .cons r t, f => fun u' hu => by
    rw [List.all_cons, Bool.and_eq_true] at f
    rcases List.mem_cons.mp hu with rfl | hu
    · rw [eqU_of r f.1]; exact eqAt_V r rx f.1 fx
    · exact mem_eqAt rx fx t f.2 u' hu
def inV (x : V) (xs : List V) : Bool := xs.any fun y => eqV y x
/-- x in a list or tuple of flat items -/
def rIn (K : PySem.W.Frag) (neg : Bool) : R2 := fun x y H Q => ∃ p xs, y = .ref p ∧ (SqL K H p xs ∨ SqT K H p xs) ∧ flatV x = true ∧ xs.all flatV = true ∧ Q (.bl (if neg then !inV x xs else inV x xs)) H
theorem op_in_seq : OpR X (compareOp .In) (rIn X.K false) := by
  intro pins s σ H x y v u Q I rx ry h
  obtain ⟨p, xs, rfl, hq, fx, fs, q⟩ := h
  cases ry
  rcases hq with hq | hq
  · obtain ⟨its, r, pl, hz⟩ := I.list hq
    refine SeqAt.in_listAt (eqU x) pl.isList (fun w hw => mem_eqAt rx fx r fs w (by simpa using hw)) ⟨.bl _, H, I, rfl, ?_⟩
    rw [show its.toArray.any (eqU x) = its.any (eqU x) by simp, any_eqU r fs]
    exact q
  · obtain ⟨its, r, pl, hz⟩ := I.tuple hq
    refine SeqAt.in_tupleAt (eqU x) pl (fun w hw => mem_eqAt rx fx r fs w (by simpa using hw)) ⟨.bl _, H, I, rfl, ?_⟩
    rw [show its.toArray.any (eqU x) = its.any (eqU x) by simp, any_eqU r fs]
    exact q
theorem op_notIn_seq : OpR X (compareOp .NotIn) (rIn X.K true) := by
  intro pins s σ H x y v u Q I rx ry h
  obtain ⟨p, xs, rfl, hq, fx, fs, q⟩ := h
  cases ry
  rcases hq with hq | hq
  · obtain ⟨its, r, pl, hz⟩ := I.list hq
    refine SeqAt.notIn_listAt (eqU x) pl.isList (fun w hw => mem_eqAt rx fx r fs w (by simpa using hw)) ⟨.bl _, H, I, rfl, ?_⟩
    rw [show its.toArray.any (eqU x) = its.any (eqU x) by simp, any_eqU r fs]
    exact q
  · obtain ⟨its, r, pl, hz⟩ := I.tuple hq
    refine SeqAt.notIn_tupleAt (eqU x) pl (fun w hw => mem_eqAt rx fx r fs w (by simpa using hw)) ⟨.bl _, H, I, rfl, ?_⟩
    rw [show its.toArray.any (eqU x) = its.any (eqU x) by simp, any_eqU r fs]
    exact q
/-! ### len, list(x), tuple(x) of any list or tuple that is read -/
theorem call_len_seq : CallR X (.builtin "len") (fun xs H Q => ∃ p ys, xs = [.ref p] ∧ (SqL X.K H p ys ∨ SqT X.K H p ys) ∧ Q (.int ys.length) H) := by
  intro pins s σ H xs us Q I r h
  obtain ⟨p, ys, rfl, hq, q⟩ := h
  obtain ⟨u, rfl, rx⟩ := vals1 r
  cases rx
  have hn := line63
  rcases hq with hq | hq
  · obtain ⟨its, r', pl, hz⟩ := I.list hq
    have hlen := r'.length
    exact Calls.call_len_list pl.isList (by simp only [List.size_toArray] <;> omega) ⟨.int ys.length, H, I.tok _, ⟨s.toks + 1, by rw [List.size_toArray, hlen]⟩, q⟩
  · obtain ⟨its, r', pl, hz⟩ := I.tuple hq
    have hlen := r'.length
    exact len_tuple pl (by simp only [List.size_toArray] <;> omega) ⟨.int ys.length, H, I.tok _, ⟨s.toks + 1, by rw [List.size_toArray, hlen]⟩, q⟩
theorem call_len_str : CallR X (.builtin "len") (fun xs H Q => ∃ z, xs = [.str z] ∧ z.length ≤ sizeLine ∧ Q (.int z.length) H) := by
  intro pins s σ H xs us Q I r h
  obtain ⟨z, rfl, hz, q⟩ := h
  obtain ⟨u, rfl, t, rfl⟩ := vals1 r
  have hn := line63
  exact len_str (by omega) ⟨.int z.length, H, I.tok _, ⟨_, rfl⟩, q⟩
theorem CallR.or {f : Value} {r r' : List V → Hp → VK → Prop} (h : CallR X f r) (h' : CallR X f r') : CallR X f (fun xs H Q => r xs H Q ∨ r' xs H Q) := by
  intro pins s σ H xs us Q I rs q
  rcases q with q | q
  · exact h pins s σ H xs us Q I rs q
  · exact h' pins s σ H xs us Q I rs q
theorem call_list_of : CallR X (.type "list") (fun xs H Q => ∃ p ys, xs = [.ref p] ∧ (SqL X.K H p ys ∨ SqT X.K H p ys) ∧ ∀ l, H l = none → Q (.ref l) (upd H l (.lst ys))) := by
  intro pins s σ H xs us Q I r h
  obtain ⟨p, ys, rfl, hq, q⟩ := h
  obtain ⟨u, rfl, rx⟩ := vals1 r
  cases rx
  have fin : ∀ (its : List Value), Vals ys its → ys.length ≤ sizeLine → ∀ (h' : Heap) (c' : Nat), (∀ b o', s.heap.get? b = some o' → h'.get? b = some o') →
      h'.get? s.heap.objs.size = some { cls := .type "list", dict := none, data := .seq its.toArray c', slots := #[] } → EP X pins σ Q (.ref s.heap.objs.size) { s with heap := h' } := fun its r' hz h' c' kp e =>
    ⟨.ref s.heap.objs.size, _, I.laid (t' := s.toks) kp (Nat.le_refl _) (show ObjOk X.prog X.w _ h' _ (.lst ys) from ⟨hz, its, c', r', e⟩), rfl, q _ (I.hok.fresh (Nat.le_refl _))⟩
  rcases hq with hq | hq
  · obtain ⟨its, r', pl, hz⟩ := I.list hq
    have hlen := r'.length
    obtain ⟨o, ho, hc, n, hd⟩ := pl.isList
    exact call_list_seq p (.inl rfl) ho hc hd (fun h' c' kp e => fin its r' hz h' c' kp e) (by simp only [List.size_toArray] <;> omega)
  · obtain ⟨its, r', pl, hz⟩ := I.tuple hq
    have hlen := r'.length
    obtain ⟨o, ho, hc, n, hd⟩ := pl
    exact call_list_seq p (.inr rfl) ho hc hd (fun h' c' kp e => fin its r' hz h' c' kp e) (by simp only [List.size_toArray] <;> omega)
theorem call_tuple_of : CallR X (.type "tuple") (fun xs H Q => ∃ p ys, xs = [.ref p] ∧ ((SqL X.K H p ys ∧ ∀ l, H l = none → Q (.ref l) (upd H l (.tup ys))) ∨ (SqT X.K H p ys ∧ Q (.ref p) H))) := by
  intro pins s σ H xs us Q I r h
  obtain ⟨p, ys, rfl, h⟩ := h
  obtain ⟨u, rfl, rx⟩ := vals1 r
  cases rx
  rcases h with ⟨hq, q⟩ | ⟨hq, q⟩
  · obtain ⟨its, r', pl, hz⟩ := I.list hq
    have hlen := r'.length
    refine call_tuple_list pl.isList (fun h' kp => ?_) (by simp only [List.size_toArray] <;> omega)
    have I1 : Inv X pins σ H { s with heap := h' } := I.kept (t' := s.toks) kp
    have I2 : Inv X pins σ (upd H h'.objs.size (.tup ys)) { s with heap := h'.push { cls := .type "tuple", data := .seq its.toArray } } :=
      I1.laid (t' := s.toks) (fun b o e => Heap.get?_push_of_some _ e) (Nat.le_refl _) (show ObjOk X.prog X.w _ _ _ (.tup ys) from ⟨hz, its, r', IsTup.new _ _⟩)
    exact ⟨.ref h'.objs.size, _, I2, rfl, q _ (I1.hok.fresh (Nat.le_refl _))⟩
  · obtain ⟨its, r', pl, hz⟩ := I.tuple hq
    exact call_tuple_same pl ⟨.ref p, H, I, rfl, q⟩

/-! ### the call of a builtin's method: o.m(..) -/
/-- the value is of that builtin type -/
def tyV (K : PySem.W.Frag) (T : String) (x : V) (H : Hp) : Prop := match x with
  | .str _ => T = "str"
  | .int _ => T = "int"
  | .ref p => (T = "list" ∧ ∃ xs, SqL K H p xs) ∨ (T = "tuple" ∧ ∃ o, K.lookup p = some o ∧ o.cls = .type "tuple" ∧ o.dict = none) ∨
      (T = "dict" ∧ ((∃ kvs, H p = some (.dK kvs)) ∨ ∃ kvs, H p = some (.dT kvs))) ∨ (T = "set" ∧ ∃ S n, H p = some (.set S n))
  | _ => False
theorem tyV_is {pins : List (Addr × Obj)} {σ : St} {H : Hp} {s : Shared} {T : String} {x : V} {v : Value} (I : Inv X pins σ H s) (r : RelV x v) (ty : tyV X.K T x H) :
    s.TypeIs v T ∧ ∀ a, v = .ref a → ∃ ob, s.heap.get? a = some ob ∧ ob.dict = none := by
  cases x with
  | str z =>
    obtain ⟨t, rfl⟩ := r
    cases (show T = "str" from ty)
    exact ⟨typeIs_str s z t, fun _ e => nomatch e⟩
  | int i =>
    obtain ⟨t, rfl⟩ := r
    cases (show T = "int" from ty)
    exact ⟨typeIs_int s i t, fun _ e => nomatch e⟩
  | ref p =>
    cases r
    rcases ty with ⟨rfl, xs, hq⟩ | ⟨rfl, o, hk, hc, hd⟩ | ⟨rfl, hk⟩ | ⟨rfl, S, n, hk⟩
    · obtain ⟨its, _, pl, _⟩ := I.list hq
      refine ⟨pl.isList.typeIs, fun a e => ?_⟩
      cases e
      obtain ⟨o, n, e, c, hd, _⟩ := pl
      exact ⟨o, e, hd⟩
    · refine ⟨⟨o, I.kIn p o hk, hc⟩, fun a e => ?_⟩
      cases e
      exact ⟨o, I.kIn _ o hk, hd⟩
    · have z : ∃ o, s.heap.get? p = some o ∧ o.ExactDict := by
        rcases hk with ⟨kvs, hk⟩ | ⟨kvs, hk⟩
        · obtain ⟨_, _, _, _, o, _, _, e, ex, _⟩ := I.hok p _ hk
          exact ⟨o, e, ex⟩
        · obtain ⟨_, _, _, _, o, _, _, e, ex, _⟩ := I.hok p _ hk
          exact ⟨o, e, ex⟩
      obtain ⟨o, e, ex⟩ := z
      refine ⟨⟨o, e, ex.1⟩, fun a e2 => ?_⟩
      cases e2
      exact ⟨o, e, ex.2.1⟩
    · obtain ⟨o, _, _, _, e, ex, _⟩ := I.hok p _ hk
      refine ⟨⟨o, e, ex.1⟩, fun a e2 => ?_⟩
      cases e2
      exact ⟨o, e, ex.2.1⟩
  | _ => exact False.elim ty
def tBM (K : PySem.W.Frag) (T : String) (r : V → List V → Hp → VK → Prop) (to : TE) (t : TA) : TE := fun σ H Q => to σ H fun x H1 => tyV K T x H1 ∧ t σ H1 fun xs H2 => r x xs H2 Q
variable {o e : Expr} {es : List Expr} {to : TE} {t : TA} {name : Str} {apos cpos : Pos} {T id : String} {r : V → List V → Hp → VK → Prop}
theorem pe_bm (pa : PlainAttrs T) (slot : Slot T name id) (hty : typeOf (.builtin id) = pure (.type "method_descriptor")) (hm : MtR X id r) (ho : PE X o to) (ha : PA X (e :: es) t)
    (hbase : attributeBase o name X.env (eval o X.env) = eval o X.env := by rfl)
    (hfew : ((backTo cpos (starEach (e :: es) X.env)).all (fun x => !x.1) && (backToKw cpos (keywordEach [] X.env)).all (fun x => x.1.isSome)
      && decide ((e :: es).length + ([] : List Keyword).length + (if ([] : List Keyword).isEmpty then 0 else 1) < 30)) = true := by rfl)
    (hline : (apos.endLine == cpos.line) = true := by rfl) (hs : starEach (e :: es) X.env = (false, eval e X.env) :: starEach es X.env := by rfl) (hplain : (backTo cpos (starEach es X.env)).any (·.1) = false := by rfl) :
    PE X (.Call (.Attribute o name apos) (e :: es) [] cpos) (tBM X.K T r to t) := by
  intro pins s σ H Q I h
  refine wpAny_Call_method_late hbase hfew hline rfl (thn (ho pins s σ H _ I h) fun v s1 ⟨x, H1, I1, r1, ty, q1⟩ => ?_)
  obtain ⟨h1, h2⟩ := tyV_is I1 r1 ty
  refine ⟨T, id, pa, slot, hty, h1, h2, ?_⟩
  have hA := ha cpos pins s1 σ H1 _ I1 q1
  rw [hs] at hA ⊢
  refine Calls.callWith_builtin (by show (false || (backTo cpos (starEach es X.env)).any (·.1)) = false; rw [hplain] <;> rfl) (Calls.evalArgs_plain ?_)
  exact thn hA fun us s2 ⟨vs, H2, I2, r2, q2⟩ => hm pins s2 σ H2 x vs v us Q I2 r1 r2 q2
/- xs.append(e), list.index on a module's tuple .. are MtR facts of 06m -/
end
end L2

namespace L2
open PySem PySem.Spec PyProof.Rows

def MtM (X : Cx) (id : String) (r : V → List V → Hp → VK → Prop) : Prop :=
  ∀ (pins : List (Addr × Obj)) (s : Shared) (σ : St) (H : Hp) (x : V) (xs : List V) (v : Value) (us : List Value) (Q : VK), Inv X pins σ H s → RelV x v → Vals xs us → r x xs H Q →
    wpAny (model X.prog X.w) X.A (call (.builtin id) (v :: us)) (EP X pins σ Q) X.xe s

/-! ### lists of values -/
theorem Vals.one : ∀ {x : V} {us : List Value}, Vals [x] us → ∃ u, us = [u] ∧ RelV x u
  | _, _, .cons r .nil => ⟨_, rfl, r⟩
theorem Vals.two : ∀ {x y : V} {us : List Value}, Vals [x, y] us → ∃ u v, us = [u, v] ∧ RelV x u ∧ RelV y v
  | _, _, _, .cons r (.cons q .nil) => ⟨_, _, rfl, r, q⟩
theorem Vals.zero : ∀ {us : List Value}, Vals [] us → us = []
  | _, .nil => rfl
theorem Vals.rep {xs : List V} {us : List Value} (h : Vals xs us) : ∀ k : Nat, Vals (List.replicate k xs).flatten (List.replicate k us).flatten
  | 0 => .nil
  | k + 1 => by
    rw [List.replicate_succ, List.replicate_succ, List.flatten_cons, List.flatten_cons]
    exact Vals.append h (Vals.rep h k)
theorem foldl_rep (its : List Value) : ∀ (k : Nat) (acc : List Value),
    List.foldl (fun x1 x2 => x1 ++ x2) acc.toArray (List.replicate k its.toArray) = (acc ++ (List.replicate k its).flatten).toArray
  | 0, acc => by simp
  | k + 1, acc => by
    have e : acc.toArray ++ its.toArray = (acc ++ its).toArray := by simp
    have e2 : (acc ++ its) ++ (List.replicate k its).flatten = acc ++ (List.replicate (k + 1) its).flatten := by
      rw [List.replicate_succ, List.flatten_cons, List.append_assoc]
    rw [← e2, ← foldl_rep its k (acc ++ its), ← e, List.replicate_succ, List.foldl_cons]

section
variable {X : Cx} {pins : List (Addr × Obj)} {σ : St} {H : Hp} {s : Shared} {l b : Addr} {xs ys zs : List V}

/-! ### the two steps: a tracked list is rewritten, a new list is laid -/
theorem Inv.lset {its its' : List Value} {n : Nat} {f : Array Value → Array Value} {t' : Nat} (I : Inv X pins σ H s) (hH : H l = some (.lst xs))
    (e : s.heap.get? l = some { cls := .type "list", data := .seq its.toArray n }) (hf : f its.toArray = its'.toArray) (hv : Vals ys its') (hz : ys.length ≤ sizeLine) :
    Inv X pins σ (upd H l (.lst ys)) { s with heap := s.heap.update l (Obj.mapSeq f), toks := t' } := by
  have q := PySem.IsL.update e f
  rw [hf] at q
  refine I.write (x := l) (e := l) (by rw [hH]; exact trivial) (.inl rfl) (fun b' u hb hu => (Heap.get?_update_other s.heap (Obj.mapSeq f) (Ne.symm hb)).trans hu) ⟨_, q⟩ ?_
  exact ⟨hz, its', _, hv, q⟩
theorem Inv.lnew {its : List Value} {t' : Nat} (I : Inv X pins σ H s) (hv : Vals ys its) (hz : ys.length ≤ sizeLine) :
    Inv X pins σ (upd H s.heap.objs.size (.lst ys)) { s with heap := s.heap.push { cls := .type "list", data := .seq its.toArray }, toks := t' } :=
  I.laid (fun _ _ q => Heap.get?_push_of_some _ q) (Nat.le_refl _) ⟨hz, its, 0, hv, Heap.get?_push_size _ rfl⟩
theorem Inv.fresh (I : Inv X pins σ H s) : H s.heap.objs.size = none := I.hok.fresh (Nat.le_refl _)
theorem Inv.lstM (I : Inv X pins σ H s) (hH : H l = some (.lst xs)) : xs.length ≤ sizeLine ∧ ∃ (its : List Value) (n : Nat), Vals xs its ∧ xs.length = its.length ∧ s.heap.get? l = some { cls := .type "list", data := .seq its.toArray n } := by
  obtain ⟨z, its, n, r, e⟩ := I.hok l _ hH
  exact ⟨z, its, n, r, r.length, e⟩

theorem notLongL {n : Nat} (h : n ≤ sizeLine) : Builtin.List.listTooLong n = false := by
  unfold Builtin.List.listTooLong
  exact decide_eq_false (by omega)
end

section
variable {X : Cx}

/-! ### methods -/
def rAppend : V → List V → Hp → VK → Prop := fun x vs H Q => ∃ l xs y, x = .ref l ∧ vs = [y] ∧ H l = some (.lst xs) ∧ xs.length < sizeLine ∧ Q .non (upd H l (.lst (xs ++ [y])))
theorem mt_append : MtM X "list.append" rAppend := by
  intro pins s σ H x vs v us Q I rx rv h
  obtain ⟨l, xs, y, rfl, rfl, hH, hz, q⟩ := h
  cases rx
  obtain ⟨u, rfl, ru⟩ := rv.one
  obtain ⟨z, its, n, r, hl, e⟩ := I.lstM hH
  refine call_meets F.slot_list_append ⟨_, e, rfl⟩ F.entry_list_append (F.args_list_append_2 _ _) (PySem.list_append l its.toArray n u (by rw [List.size_toArray]; omega)) ⟨e, ?_⟩
  refine ⟨.non, _, I.lset (its' := its ++ [u]) hH e (by simp) (r.append (.cons ru .nil)) ?_, rfl, q⟩
  rw [List.length_append, List.length_singleton]
  omega

def rExtend : V → List V → Hp → VK → Prop := fun x vs H Q => ∃ l b xs zs, x = .ref l ∧ vs = [.ref b] ∧ H l = some (.lst xs) ∧ H b = some (.lst zs) ∧ xs.length + zs.length ≤ sizeLine ∧ Q .non (upd H l (.lst (xs ++ zs)))
theorem mt_extend : MtM X "list.extend" rExtend := by
  intro pins s σ H x vs v us Q I rx rv h
  obtain ⟨l, b, xs, zs, rfl, rfl, hH, hB, hz, q⟩ := h
  cases rx
  obtain ⟨u, rfl, ru⟩ := rv.one
  cases ru
  obtain ⟨z, its, n, r, hl, e⟩ := I.lstM hH
  obtain ⟨z2, its2, n2, r2, hl2, e2⟩ := I.lstM hB
  have hsz : its.toArray.size + its2.toArray.size ≤ sizeLine := by rw [List.size_toArray, List.size_toArray]; omega
  have hlong : ¬ (!its.toArray.isEmpty && Builtin.List.listTooLong (its.toArray.size + its2.toArray.size)) = true := by
    rw [notLongL hsz, Bool.and_false]
    exact Bool.false_ne_true
  refine call_meets F.slot_list_extend ⟨_, e, rfl⟩ F.entry_list_extend (F.args_list_extend_2 _ _)
    (AutoSeq1.list_extend_list_list_0 l its.toArray n b its2.toArray n2 hlong (by rw [List.size_toArray]; omega) (by omega)) ⟨e, e2, ?_⟩
  refine ⟨.non, _, I.lset (its' := its ++ its2) hH e (by simp) (r.append r2) ?_, rfl, q⟩
  rw [List.length_append]
  omega

/-! ### list + list, list += list, list * int -/
def rCat : R2 := fun x y H Q => ∃ l b xs zs, x = .ref l ∧ y = .ref b ∧ H l = some (.lst xs) ∧ H b = some (.lst zs) ∧ xs.length + zs.length ≤ sizeLine ∧ ∀ p, H p = none → Q (.ref p) (upd H p (.lst (xs ++ zs)))
theorem op_cat : OpR X (binaryOp .Add) rCat := by
  intro pins s σ H x y v u Q I rx ry h
  obtain ⟨l, b, xs, zs, rfl, rfl, hH, hB, hz, q⟩ := h
  cases rx
  cases ry
  obtain ⟨z, its, n, r, hl, e⟩ := I.lstM hH
  obtain ⟨z2, its2, n2, r2, hl2, e2⟩ := I.lstM hB
  refine PySem.P.add_list e e2 ?_ (by rw [List.size_toArray, List.size_toArray]; omega)
  have ea : its.toArray ++ its2.toArray = (its ++ its2).toArray := by simp
  rw [ea]
  exact ⟨.ref _, _, I.lnew (t' := s.toks) (r.append r2) (by rw [List.length_append]; omega), rfl, q _ I.fresh⟩
/-- a list times an int (a negative one is nothing) -/
def rRep : R2 := fun x y H Q => ∃ l k xs, x = .ref l ∧ y = .int k ∧ H l = some (.lst xs) ∧ -(2 ^ 63) ≤ k ∧ k < 2 ^ 63 ∧ xs.length * k.toNat ≤ sizeLine ∧
  ∀ p, H p = none → Q (.ref p) (upd H p (.lst (List.replicate k.toNat xs).flatten))
theorem len_rep {α : Type} (xs : List α) (k : Nat) : (List.replicate k xs).flatten.length = k * xs.length := by
  induction k with
  | zero => simp
  | succ k ih => rw [List.replicate_succ, List.flatten_cons, List.length_append, ih, Nat.succ_mul, Nat.add_comm]
theorem op_rep : OpR X (binaryOp .Mult) rRep := by
  intro pins s σ H x y v u Q I rx ry h
  obtain ⟨l, k, xs, rfl, rfl, hH, h1, h2, hz, q⟩ := h
  cases rx
  obtain ⟨t, rfl⟩ := ry
  obtain ⟨z, its, n, r, hl, e⟩ := I.lstM hH
  have hlen : its.toArray.size * k.toNat ≤ sizeLine := by rw [List.size_toArray, ← hl]; exact hz
  have hcap : ¬ its.toArray.size * k.toNat > (2 ^ 63 - 1) / 8 := by
    have : (sizeLine : Nat) ≤ (2 ^ 63 - 1) / 8 := by decide
    omega
  have hfit : ¬ (!Builtin.List.listFitsIndex k) = true := by
    rw [fitsIndex_both h1 h2]
    exact Bool.false_ne_true
  have hlong : ¬ Builtin.List.listTooLong (its.toArray.size * k.toNat) = true := by
    rw [notLongL hlen]
    exact Bool.false_ne_true
  have hnew : List.foldl (fun x1 x2 => x1 ++ x2) #[] (List.replicate (if its.toArray.isEmpty = true then 0 else k.toNat) its.toArray) = (List.replicate k.toNat its).flatten.toArray := by
    have f0 : ∀ m : Nat, List.foldl (fun x1 x2 => x1 ++ x2) #[] (List.replicate m its.toArray) = (List.replicate m its).flatten.toArray := fun m => by
      have := foldl_rep its m []
      rw [List.nil_append] at this
      exact this
    rw [f0]
    cases its with
    | nil => simp
    | cons a r' => rw [if_neg (by simp)]
  refine wpAny_binaryOp_repeat_ref (T := "list") (U := "int") (by decide) ⟨_, e, rfl⟩ (fun s' => typeIs_int s' k t) noFill_list_mul F.fills_int_mul F.slot_int_rmul repeat_list F.slot_int_index.lookup
    (call_meets F.slot_int_rmul (typeIs_int s k t) F.entry_int_rmul (F.args_int_rmul_2 _ _) (int___rmul___int_list k t l its.toArray n)
      ⟨e, rfl, ⟨_, e, rfl⟩, call_meets F.slot_list_mul ⟨_, e, rfl⟩ F.entry_list_mul (F.args_list_mul_2 _ _) (AutoListH.list___mul___list_int_3 l its.toArray n k t hfit hcap hlong) ⟨e, ?_⟩⟩)
  rw [hnew]
  exact ⟨.ref _, _, I.lnew (t' := s.toks) (r.rep k.toNat) (by rw [len_rep, Nat.mul_comm]; exact hz), rfl, q _ I.fresh⟩

/-! ### del xs[i] -/
end

/-! ### xs[a:b] = ys -/
section
variable {prog : Program} {w : World} {A : Around} {E : Value → Shared → Prop} {s : Shared}
set_option maxRecDepth 100000 in
end

section
variable {X : Cx}
end
end L2


namespace Att
open PySem PySem.W PySem.Calls PyProof.Rows

/-! ### the script -/
theorem ints_of_wellAll {P : Params} {h : Heap} : ∀ (ns : List Int) (vs : List Value), WellAll P h vs (ns.map WData.int) → IntsAre vs ns := by
  intro ns
  induction ns with
  | nil =>
    intro vs w
    rw [List.map_nil] at w
    cases w
    exact .nil
  | cons n ns ih =>
    intro vs w
    rw [List.map_cons] at w
    cases w with
    | cons a b =>
      cases a
      exact .cons _ _ (ih _ b)

theorem script_of {l : OpenLaw} {n : Nat} (hn : l.most = some n) {P : Params} {h : Heap} {args : List WData} {vals : List Value}
    (hpre : l.row.toRowW.claim.pre args = true) (hwl : WellAll P h vals args) :
    ∃ a vs ns, vals = [Value.ref a] ∧ args = [WData.list (ns.map WData.int)] ∧ h.get? a = some { cls := .type "list", data := .seq vs.toArray } ∧ IntsAre vs ns ∧ ns.length ≤ n := by
  have hsh : WShape.hasAll [] args [.list .int] = true := (pre_splitW hpre).1
  have hc : l.pre.holds [] { args := args } = true := (pre_splitW hpre).2
  obtain ⟨d, r, rfl, h1, h2⟩ := hasAllW_cons hsh
  obtain rfl := hasAllW_nil h2
  obtain ⟨xs, rfl, h3⟩ := hasW_list h1
  obtain ⟨ns, rfl⟩ := items_int h3
  have hlen : ns.length ≤ n := by
    unfold OpenLaw.pre at hc
    have h4 : (WTm.not (.lt (.lit (.int (n : Int))) (.len (.arg 0)))).holds [] { args := [.list (ns.map .int)] } = true := by
      have h4 := (holds_andW hc).1
      rw [hn] at h4
      exact h4
    have h5 := condW_of h4 (w_not (w_lt w_lit (w_len_list (w_arg rfl))))
    rw [List.length_map] at h5
    refine Nat.le_of_not_lt fun q => ?_
    have q' : (n : Int) < ((ns.length : Nat) : Int) := by omega
    first
      | (rw [decide_eq_true q'] at h5; exact absurd h5 (by decide))
      | (simp at h5; omega)
  cases hwl with
  | cons w1 w2 =>
    cases w2
    cases w1 with
    | list ho hall => exact ⟨_, _, ns, rfl, rfl, ho, ints_of_wellAll ns _ hall, hlen⟩

theorem post_true (l : OpenLaw) (args : List WData) : l.row.toRowW.claim.post args (.bool true) args = true :=
  postW_of (r := l.row.toRowW) (X := (true == true))
    (show WShape.has [] (.bool true) .bool = true by first | rfl | decide | simp [WShape.has, WShape.arms, WShape.armsAll])
    (show (WTm.eq .res (.lit (.bool true))).value [] { args := args, res := some (.bool true), after := args } = some (.bool (true == true)) from w_eq_bool (w_res rfl) w_lit) rfl

/-! ### the attachment: holds_open's last premise (the goal 'hc' behind k_head) from a wpAny of the law's body -/
/-- the same from a codeAny of the CALL (for a layer whose function contracts speak of calls) -/
theorem attach_call {l : OpenLaw} {n : Nat} {q : Program} {loose : List Str} {XP : (Str → Option Value) → Heap → Prop} {YP : World → Heap → Prop} {d : DefRec}
    (hn : l.most = some n) (hdf : d.params.defaults = [])
    (call : ∀ (w : World) (s₀ s₁ : Shared) (mg mb : Str → Option Value) (fa : Addr) (o : Obj) (pm cd doc : Value) (a : Addr) (vs : List Value) (ns : List Int),
      Ground q loose [] XP w s₀ mg mb s₁.heap → YP w s₁.heap →
      s₁.heap.get? fa = some o → o.data = .func (docDef d.name d.params d.body d.scope pm cd doc) → s₁.heap.CodeRec cd d.name → mg d.name = some (.ref fa) →
      s₁.heap.get? a = some { cls := .type "list", data := .seq vs.toArray } → IntsAre vs ns → ns.length ≤ n → s₁.gens = #[] →
      codeAny (model l.prog w) callerA (.call (.ref fa) ⟨[.ref a], []⟩) (fun r s' => r = .ok (.ret (.bool true)) ∧ OldK s₁.heap s'.heap ∧ s'.os = s₁.os ∧ AllBare s'.gens) s₁) :
    WalkO q loose XP YP l.row.toRowW d [] (fun f vs => PySem.call f vs) := by
  intro w s₀ s₁ mg mb G Y fa o pm cd doc dV kV ho hd hcd hD hmg hg args vals as hpre hlay hrd hwl hlo
  obtain rfl : dV = .none := Dflts.none hD hdf
  obtain rfl : kV = .none := Dflts.noKw hD
  obtain ⟨a, vs, ns, rfl, rfl, hobj, hints, hlen⟩ := script_of hn hpre hwl
  refine enter_call (codeAny_mono (call w s₀ s₁ mg mb fa o pm cd doc a vs ns G Y ho (fd_plain hd) hcd hmg hobj hints hlen hg) fun r s' hq => ?_)
  obtain ⟨rfl, h2, h3, h4⟩ := hq
  exact ⟨.inl ⟨.bool true, .bool true, [], rfl, fun _ => rfl, .bool true, post_true l _, fun _ => ⟨List.Pairwise.nil, fun _ hm => (nomatch hm)⟩⟩, h2, h3, h4⟩

/-! ### rules over ANY heap (no ledger) from facts about the written part K: the library's own take a ledger (News) for what they write -/
section
variable {prog : Program} {w : World} {A : Around} {E : Value → Shared → Prop} {s : Shared} {K : Frag}

/-! the whole heap as the ledger: makes every rule that writes through a ledger a rule over any heap -/
def ledger (h : Heap) (L d : Addr) : List (Addr × Obj) := (List.range h.objs.size).filterMap fun a => if a = L ∨ a = d then none else (h.get? a).map fun o => (a, o)
end
end Att

namespace L2
open PySem PySem.Spec PyProof.Rows

theorem vals_ints : ∀ {vs : List Value} {ns : List Int}, IntsAre vs ns → Vals (ns.map V.int) vs
  | _, _, .nil => .nil
  | _, _, .cons n t h => .cons ⟨t, rfl⟩ (vals_ints h)

/-- nothing is tracked but the script, known to the object (or it is an object of the module) -/
def Only (H : Hp) : Prop := ∀ b, H b = none ∨ ∃ o xs, H b = some (.frz o (.lst xs))

/-- THE HEAD: the law's promise, at the heap behind the top. F, the promise of the law's def, may use that base is part of the heap (so K.In base, base.Ns mainGlobals mg stand in Mod) -/
theorem law_call {P : Program} {w : World} {K : PySem.W.Frag} {mg mb : Str → Option Value} {CX : CXT} {k : Nat} {fa a : Addr} {fd : FuncData} {x : Str} {sp : Sp} {s₁ : Shared} {vs : List Value} {ns : List Int}
    (KX : K.In s₁.heap) (hns : s₁.heap.Ns mainGlobals mg) (hb : s₁.heap.Ns builtinsNs mb) (hbb : ∀ x : Str, x ≠ "__name__" → mb x = bootBuiltins x) (hlim : s₁.heap.NoLimit) (hg : s₁.gens = #[])
    (ha : s₁.heap.get? a = some { cls := .type "list", data := .seq vs.toArray }) (hi : IntsAre vs ns) (hl : ns.length ≤ sizeLine) (hr : Room k callerA)
    (F : ∀ base : Heap, K.In base → base.Ns mainGlobals mg → FnOk P w K mg base CX k fa fd [x] sp) (hbind : ∀ (s : Shared) (u : Value), BindsTo s fd ⟨[u], []⟩ [(x, u)])
    (hsp : ∀ H : Hp, Only H → SqL K H a (ns.map V.int) → sp [.ref a] H (fun v _ => v = .bl true) fun _ _ _ => False)
    (hCX : ∀ H e s', CX [] H s₁ (fun _ _ _ => False) e s' → False) :
    codeAny (model P w) callerA (.call (.ref fa) ⟨[.ref a], []⟩) (fun r s' => r = .ok (.ret (.bool true)) ∧ OldK s₁.heap s'.heap ∧ s'.os = s₁.os ∧ AllBare s'.gens) s₁ := by
  have rv := vals_ints hi
  have lenV := hi.length
  -- from an abstract heap in which nothing but the script may be tracked
  have core : ∀ H : Hp, Only H → SqL K H a (ns.map V.int) → HOk P w H s₁.heap → (∀ b, H b ≠ none → b = a) → (H a ≠ none → K.lookup a = none) →
      codeAny (model P w) callerA (.call (.ref fa) ⟨[.ref a], []⟩) (fun r s' => r = .ok (.ret (.bool true)) ∧ OldK s₁.heap s'.heap ∧ s'.os = s₁.os ∧ AllBare s'.gens) s₁ := by
    intro H hO hS hok hA hK
    have base_of : ∀ {b : Addr} {o : Obj}, s₁.heap.get? b = some o → H b = none → (hidT s₁.heap H).get? b = some o := fun e n => hidT_get e n
    have noA : ∀ {b : Addr} {o : Obj} {es : Array DictEntry} {ep : Nat}, s₁.heap.get? b = some o → o.data = .dict es ep → H b = none := fun {b o es ep} e d => by
      cases q : H b with
      | none => rfl
      | some u =>
        have e' : b = a := hA b (by rw [q]; simp)
        subst e'
        rw [ha] at e; cases e
        have d' : Data.seq vs.toArray _ = Data.dict es ep := d
        cases d'
    have nsK : ∀ {b : Addr} {m : Str → Option Value}, s₁.heap.Ns b m → (hidT s₁.heap H).Ns b m := fun {b m} ⟨o, es, ep, e, d, r⟩ => ⟨o, es, ep, base_of e (noA e d), d, r⟩
    have hKb : K.In (hidT s₁.heap H) := fun b o e => base_of (KX b o e) (by
      cases q : H b with
      | none => rfl
      | some u =>
        have e' : b = a := hA b (by rw [q]; simp)
        subst e'
        rw [hK (by rw [q]; simp)] at e; cases e)
    have hM : Mod K mg (hidT s₁.heap H) := ⟨hKb, nsK hns, ⟨mb, nsK hb, hbb⟩, let ⟨mc, h1, h2⟩ := hlim; ⟨mc, nsK h1, h2⟩⟩
    have e0 : Env0 P w K mg (hidT s₁.heap H) callerA [] s₁ H := ⟨rfl, hM, fun b o e => of_hidT e, Nat.le_of_eq (hidT_size _ _), trivial, fun b hb => absurd (show b ∈ ([] : List Addr) from hb) (by simp), hok, .of_eq hg⟩
    refine codeAny_mono ((F _ hKb (nsK hns)).run callerA [] s₁ H ⟨[.ref a], []⟩ [.ref a] [.ref a] _ _ hr e0 (hbind s₁ (.ref a)) (.cons rfl .nil) (hsp H hO hS)) fun r s' h => ?_
    cases r with
    | error e => exact (hCX H e s' h).elim
    | ok fl =>
      cases fl with
      | next => exact False.elim h
      | brk => exact False.elim h
      | cont => exact False.elim h
      | ret u =>
        obtain ⟨v, H', os, bare, un, hok', r', q⟩ := h
        have q' : v = .bl true := q
        subst q'
        obtain rfl : u = Value.bool true := r'
        refine ⟨rfl, OldK.of_keep fun b o e => ?_, os, bare⟩
        cases q : H b with
        | none => exact un.keep b o e q (by intro z; exact absurd (show b ∈ ([] : List Addr) from z) (by simp)) (by simp)
        | some u =>
          rcases hO b with z | ⟨ob, xs, z⟩
          · rw [q] at z; cases z
          · have z2 := un.frzs b ob _ z
            obtain ⟨e1, _⟩ := hok b _ z
            obtain ⟨e2, _⟩ := hok' b _ z2
            rw [e] at e1; cases e1
            exact e2
  cases hk : K.lookup a with
  | some o =>
    -- the script is one of the module's own objects
    have e := KX a o hk
    rw [ha] at e
    cases e
    refine core (fun _ => none) (fun _ => .inl rfl) (.inr ⟨_, vs.toArray, _, hk, rfl, rfl, rfl, by rw [List.size_toArray, lenV]; exact hl, by simpa using rv⟩) (fun b u z => by have z' : (none : Option HO) = some u := z; cases z') (fun b z => absurd rfl z) fun z => absurd rfl z
  | none =>
    refine core (fun b => if b = a then some (.frz { cls := .type "list", data := .seq vs.toArray } (.lst (ns.map V.int))) else none) (fun b => ?_) (.inl (.inr ⟨{ cls := .type "list", data := .seq vs.toArray }, if_pos rfl⟩)) (fun b u z => ?_) (fun b z => ?_) fun _ => hk
    · by_cases hb : b = a
      · exact .inr ⟨_, _, if_pos hb⟩
      · exact .inl (if_neg hb)
    · by_cases hb : b = a
      · have z' := (if_pos hb).symm.trans z
        cases z'
        subst hb
        exact ⟨ha, by rw [List.length_map]; exact hl, vs, _, rv, ha⟩
      · have z' := (if_neg hb).symm.trans z
        cases z'
    · by_cases hb : b = a
      · exact hb
      · exact absurd (if_neg hb) z
end L2

namespace L2
open PySem PySem.Spec PyProof.Rows

/-- the goal that k_head leaves (case hc), from the law's promise. F gives the function object fd (K's own) once, then the promise over every base -/
theorem walk_of {l : PySem.W.OpenLaw} {n k : Nat} {q : Program} {loose : List Str} {XP : (Str → Option Value) → Heap → Prop} {YP : World → Heap → Prop} {d : DefRec} {K : Params → PySem.W.Frag} {CX : World → CXT} {sp : World → Sp} {x : Str}
    (hn : l.most = some n) (hn2 : n ≤ sizeLine) (hdf : d.params.defaults = []) (hr : Room k callerA)
    (hY : ∀ (w : World) (h : Heap), YP w h → (K w.params).In h)
    (F : ∀ (w : World) (mg : Str → Option Value) (fa : Addr) (h : Heap), (K w.params).In h → h.Ns mainGlobals mg → mg d.name = some (.ref fa) →
      ∃ fd : FuncData, (∀ (s : Shared) (u : Value), BindsTo s fd ⟨[u], []⟩ [(x, u)]) ∧
        ∀ base : Heap, (K w.params).In base → base.Ns mainGlobals mg → FnOk l.prog w (K w.params) mg base (CX w) k fa fd [x] (sp w))
    (hsp : ∀ (w : World) (H : Hp) (a : Addr) (ns : List Int), ns.length ≤ n → Only H → SqL (K w.params) H a (ns.map V.int) → sp w [.ref a] H (fun v _ => v = .bl true) fun _ _ _ => False)
    (hCX : ∀ (w : World) (H : Hp) (s : Shared) (e : Value) (s' : Shared), CX w [] H s (fun _ _ _ => False) e s' → False) :
    PySem.W.WalkO q loose XP YP l.row.toRowW d [] (fun f vs => PySem.call f vs) := by
  refine Att.attach_call hn hdf fun w s₀ s₁ mg mb fa o pm cd doc a vs ns G Y ho hd hcd hmg hobj hints hlen hg => ?_
  have KX := hY w _ Y
  obtain ⟨fd, hb, hF⟩ := F w mg fa _ KX G.T.g hmg
  exact law_call KX G.T.g G.T.b G.T.builtins G.T.nolimit hg hobj hints (Nat.le_trans hlen hn2) hr hF hb (fun H hO hS => hsp w H a ns hlen hO hS) fun H e s' => hCX w H s₁ e s'
end L2

/-! SHORT WORDS over the layer: a def of the text, its body, what a loop and a test want. -/
namespace L2
open PySem PySem.Spec PyProof.Rows

/-! ### the text by places -/
def defArgs (s : Stmt) : Arguments := match s with
  | .FunctionDef _ a _ _ _ _ _ _ _ _ => a
  | _ => { posonlyargs := [], args := [], vararg := none, kwonlyargs := [], kw_defaults := [], kwarg := none, defaults := [] }
def defBody (s : Stmt) : List Stmt := match s with
  | .FunctionDef _ _ b _ _ _ _ _ _ _ => b
  | _ => []
def defScope (s : Stmt) : Scope := match s with
  | .FunctionDef _ _ _ _ _ _ sc _ _ _ => sc
  | _ => { kind := .function, names := [], isGenerator := false, isCoroutine := false }

/-! ### no exception leaves a def -/
abbrev CX0 : CXT := fun _ _ _ _ _ _ => False
abbrev E0 : XK := fun _ _ _ => False
theorem pass0 {X : Cx} : Passes CX0 X E0 := fun _ _ _ _ _ _ _ h => h.elim

/-! ### a def (or method) of the text as it stands behind the top -/
structure Fun (K : PySem.W.Frag) (x qual : Str) (st : Stmt) (f : Addr) (fd : FuncData) : Prop where
  ex : ∃ (oc : Value) (od : Option Addr) (kV doc pm : Value) (an : Option Addr) (cdv ct : Value) (osl : Array (Option Value)),
    fd = PySem.W.fnOf x qual (defArgs st) (defBody st) (defScope st) .none kV doc pm an cdv ct ∧ K.lookup f = some ⟨oc, od, .func fd, osl⟩ ∧ PySem.W.codeIn K cdv qual = true
  kp : PySem.W.keepIn K (.ref f) = true
section
variable {P : Program} {w : World} {K : PySem.W.Frag} {mg : Str → Option Value} {base : Heap}
/-- THE RULE for a def: its body as a term of rules, and the reading of that term -/
theorem Fun.ok {x qual : Str} {st : Stmt} {f : Addr} {fd : FuncData} {N ps : List Str} {k : Nat} {sp : Sp} (F : Fun K x qual st f fd) (S : FnScope N ps (defScope st)) (len : ∀ vs H Q E, sp vs H Q E → vs.length = ps.length)
    (hbody : ∀ (cdv : Value) (A : Around) (outer : List Env) (s : Shared) (H : Hp) (vs : List V) (Q : VK) (E : XK), Room k (A.deeper (envOfC qual (defScope st) s.heap.objs.size f cdv)) → sp vs H Q E →
      ∃ t, PSs (cxOf CX0 P w K mg base N qual (defScope st) f cdv A outer s H E).nox (defBody st) t ∧ t { nx := fun _ H' => Q .non H', rt := Q } (start N vs) H) : FnOk P w K mg base CX0 (k + 1) f fd ps sp := by
  obtain ⟨oc, od, kV, doc, pm, an, cdv, ct, osl, rfl, lk, hcd⟩ := F.ex
  refine fn_of lk hcd S len fun A outer s H vs Q E hr hsp => ?_
  obtain ⟨t, h, q⟩ := hbody cdv A outer s H vs Q E hr hsp
  exact ⟨t, h.nox, q⟩
/-- how its arguments bind (no defaults): h is «fun _ _ _ _ _ _ us hl => match us, hl with | [_, _], _ => rfl», one _ a parameter -/
theorem Fun.binds {x qual : Str} {st : Stmt} {f : Addr} {fd : FuncData} {ps : List Str} (F : Fun K x qual st f fd)
    (h : ∀ (kV doc pm : Value) (an : Option Addr) (cdv ct : Value) (us : List Value), us.length = ps.length → bindArgs (PySem.W.fnOf x qual (defArgs st) (defBody st) (defScope st) .none kV doc pm an cdv ct) ⟨us, []⟩ = pure (ps.zip us)) : Binds K fd ps [] := by
  obtain ⟨oc, od, kV, doc, pm, an, cdv, ct, osl, rfl, lk, hcd⟩ := F.ex
  exact .all (h kV doc pm an cdv ct)
theorem fun_mk {x qual : Str} {st : Stmt} {f : Addr} {oc : Value} {od an : Option Addr} {osl : Array (Option Value)} {kV doc pm cdv ct : Value} (l : K.lookup f = some ⟨oc, od, .func (PySem.W.fnOf x qual (defArgs st) (defBody st) (defScope st) .none kV doc pm an cdv ct), osl⟩)
    (c : PySem.W.codeIn K cdv qual = true) (k : PySem.W.keepIn K (.ref f) = true) : Fun K x qual st f (PySem.W.fnOf x qual (defArgs st) (defBody st) (defScope st) .none kV doc pm an cdv ct) := ⟨⟨oc, od, kV, doc, pm, an, cdv, ct, osl, rfl, l, c⟩, k⟩
end
theorem hu_of {A : Around} {k : Nat} (hr : Room k A) : A.units + 1 < cLine := Nat.lt_of_le_of_lt (Nat.add_le_add_left (by decide : 1 ≤ 64) _) hr.units
theorem small1000 {n : Nat} (h : n ≤ 1000) : n < sizeLine := Nat.lt_of_le_of_lt h (by decide)

/-! ### expressions in short: the name that stands in the i-th slot -/
section
variable {X : Cx}
theorem pv (i : Nat) {x : Str} {pos : Pos} (hN : X.N[i]? = some x := by rfl) (hv : Vis X.env.scope x := by first | exact Or.inl rfl | exact Or.inr (Or.inl rfl) | exact Or.inr (Or.inr rfl)) (hd : (x == ("__debug__" : Str)) = false := by decide)
    (hcd : (x == ("__classdict__" : Str)) = false := by decide) : PE X (.Name x pos) (tVar i) := pe_var hN hv hd hcd
end

/-! ### tests -/
theorem iteF {A B : Prop} (h : B) : if false = true then A else B := by
  rw [if_neg Bool.false_ne_true]
  exact h
theorem iteT {A B : Prop} (h : A) : if true = true then A else B := by
  rw [if_pos rfl]
  exact h
theorem ite2 {c A B : Prop} [Decidable c] (h1 : c → A) (h2 : ¬ c → B) : if c then A else B := by
  by_cases h : c
  · rw [if_pos h]
    exact h1 h
  · rw [if_neg h]
    exact h2 h
theorem iteNS {c A B : Prop} [Decidable c] (hc : c) (h : B) : if (!decide c) = true then A else B := by
  rw [decide_eq_true hc]
  exact iteF h

/-! ### heaps -/
/-- all that was tracked is as it was -/
def Same (H H' : Hp) : Prop := ∀ b o, H b = some o → H' b = some o
theorem Same.refl (H : Hp) : Same H H := fun _ _ h => h
theorem Same.trans {H H1 H2 : Hp} (a : Same H H1) (b : Same H1 H2) : Same H H2 := fun c o h => b c o (a c o h)
theorem Same.free {H H' : Hp} (e : Same H H') {l : Addr} (h : H' l = Option.none) : H l = Option.none := by
  cases q : H l with
  | none => rfl
  | some o =>
    rw [e l o q] at h
    cases h
theorem Same.seq {K : PySem.W.Frag} {H H' : Hp} {a : Addr} {xs : List V} (e : Same H H') (h : SqL K H a xs) : SqL K H' a xs := by
  rcases h with (h | ⟨o, h⟩) | h
  · exact .inl (.inl (e _ _ h))
  · exact .inl (.inr ⟨o, e _ _ h⟩)
  · exact .inr h

/-! ### a dict's pairs: keys that differ -/
section
variable {κ : Type} [DecidableEq κ]
end
end L2

set_option Elab.async false
set_option linter.all false
set_option maxRecDepth 100000
namespace L2
open PySem PySem.Spec PyProof.Rows

/-! ### for over a text -/
def Its (x : Str) : It := ⟨fun i _ => i < x.cps.size, fun i H v H' => H' = H ∧ ∃ c, x.cps[i]? = some c ∧ v = .str ⟨#[c]⟩, fun i _ => x.cps.size ≤ i⟩
theorem turn_str {P : Program} {w : World} {K : PySem.W.Frag} {tg : Expr} (it : Addr) (x : Str) (t : Tok) (ty : String) (hty : ty = "str_ascii_iterator" ∨ ty = "str_iterator") :
    Turn P w K tg (Its x) [it] it (fun i h => h.IsStrIter it ty x t i) where
  mem := by simp
  obj := fun i h st b hb => by
    have e : b = it := by simpa using hb
    subst e
    obtain ⟨o, e, c, d⟩ := st
    exact ⟨o, e, fun v z => by rw [d] at z; cases z⟩
  keep := fun i h h' st k => let ⟨o, ho, r⟩ := st; ⟨o, k it (by simp) o ho, r⟩
  item := by
    intro X hP hw hK hc i pins s σ H E I hf st hg
    subst hP hw hK
    obtain ⟨f0, f1, f2, f3, f4, f5⟩ := hf it (by simp)
    have hi : i < x.cps.size := hg
    have fin : ∀ (h' : Heap) (tk : Nat), h'.IsStrIter it ty x t (i + 1) → (∀ b o, b ≠ it → s.heap.get? b = some o → h'.get? b = some o) →
        ∃ u, some (Value.str ⟨#[x.cps[i]]⟩ s.toks) = some u ∧ wpAny (model X.prog X.w) X.A (letOwnedTupleGo tg (.ref it) u) (fun _ s2 => ∃ y H', Inv X pins σ H' s2 ∧ RelV y u ∧ (Its x).yld i H y H' ∧ s2.heap.IsStrIter it ty x t (i + 1) ∧ ∀ b ∈ [it], H' b = none) E { s with heap := h', toks := tk } := fun h' tk st' kk => by
      have I1 : Inv X pins σ H { s with heap := h', toks := tk } := I.turned kk f0 f1 f3 f4 f5
      obtain ⟨o, e, c, d⟩ := id st'
      refine ⟨_, rfl, go_of (s := { s with heap := h', toks := tk }) (n := ty) e c d (by rcases hty with rfl | rfl <;> decide) ⟨.str ⟨#[x.cps[i]]⟩, H, I1, ⟨_, rfl⟩, ⟨rfl, _, by simp [hi], rfl⟩, st', fun b hb => (hf b hb).1⟩⟩
    rcases hty with rfl | rfl
    · exact wpAny_pyNext_ascii_item st (c := x.cps[i]) (by simp [hi]) fun h' hit' hs' => fin h' _ hit' fun b o hb e => hs'.extBut b o hb e
    · exact wpAny_pyNext_wide_item st (c := x.cps[i]) (by simp [hi]) fun h' hit' hs' => fin h' _ hit' fun b o hb e => hs'.extBut b o hb e
  done := by
    intro X hP hw hK hc i pins s σ H E I hf st hg
    subst hP hw hK
    obtain ⟨f0, f1, f2, f3, f4, f5⟩ := hf it (by simp)
    have hi : x.cps.size ≤ i := hg
    rcases hty with rfl | rfl
    · exact wpAny_pyNext_ascii_end (I.ok.hd hc) st (by simp [hi]) fun h' eb => ⟨rfl, I.turned (t' := s.toks) (fun b o hb e => eb b o hb e) f0 f1 f3 f4 f5⟩
    · exact wpAny_pyNext_wide_end (I.ok.hd hc) st (by simp [hi]) fun h' eb => ⟨rfl, I.turned (t' := s.toks) (fun b o hb e => eb b o hb e) f0 f1 f3 f4 f5⟩
  self := by
    intro A i s Q E st h
    rcases hty with rfl | rfl
    · exact wpAny_pyIter_striter_ascii st h
    · exact wpAny_pyIter_striter_wide st h
section
variable {X : Cx} {tg : Expr}
def iStr (tl : TE) : TI := fun σ H R => tl σ H fun v H1 => ∃ x, v = .str x ∧ R (Its x) H1
theorem pi_str {l : Expr} {tl : TE} (hl : PE X l tl) : PI X tg l (iStr tl) := by
  intro pins s σ H R I h
  refine thn (hl pins s σ H _ I h) fun v s1 ⟨y, H1, I1, r1, q1⟩ => ?_
  obtain ⟨x, e, q⟩ := q1
  subst e
  obtain ⟨t, rfl⟩ := (show ∃ t, v = Value.str x t from r1)
  refine wpAny_pyIter_strU ?_
  refine ⟨s1.heap.objs.size, [s1.heap.objs.size], _, _, H1, rfl, I1.kept (t' := s1.toks) fun b o e => Heap.get?_push_of_some _ e, turn_str _ x t (strIterType x) (by unfold strIterType; split <;> simp), ⟨_, Heap.get?_push_size _ rfl, rfl, rfl⟩, fun b hb => ?_, q⟩
  have e : b = s1.heap.objs.size := by simpa using hb
  subst e
  exact I1.fpOk (Nat.le_refl _) (I1.hok.fresh (Nat.le_refl _))
end

/-! ### a comprehension's cells -/
def clGo (env : Env) : List (Str × NameKind) → List (Str × Addr) → List (Str × Addr)
  | [], cs => cs
  | (n, k) :: r, cs => clGo env r (if (k == NameKind.free) = true then (match env.cells.lookup n with | some c => (n, c) :: cs | none => cs) else cs)
theorem closure_ok {scope : Scope} {env : Env} (h : ∀ p ∈ scope.names, p.2 = .free → ∃ c, env.cells.lookup p.1 = some c) : closureFor scope env = pure (clGo env scope.names []) := by
  have key : ∀ (l : List (Str × NameKind)) (cs : List (Str × Addr)), (∀ p ∈ l, p.2 = .free → ∃ c, env.cells.lookup p.1 = some c) →
      (forIn l cs fun (x : Str × NameKind) (r : List (Str × Addr)) => match x with
        | (name, kind) => if (kind == NameKind.free) = true then do let a ← cellOf env name; pure (ForInStep.yield ((name, a) :: r)) else pure (ForInStep.yield r) : Sem (List (Str × Addr))) = pure (clGo env l cs) := by
    intro l
    induction l with
    | nil => intro cs _; rfl
    | cons p r ih =>
      intro cs hl
      obtain ⟨n, k⟩ := p
      rw [List.forIn_cons]
      have hr := fun cs => ih cs fun q hq => hl q (List.mem_cons_of_mem _ hq)
      show (_ >>= _) = pure (clGo env r (if (k == NameKind.free) = true then (match env.cells.lookup n with | some c => (n, c) :: cs | none => cs) else cs))
      by_cases hk : (k == NameKind.free) = true
      · obtain ⟨c, hc⟩ := hl (n, k) List.mem_cons_self (by simpa using hk)
        dsimp only at hc ⊢
        rw [if_pos hk, if_pos hk, hc]
        have e : cellOf env n = pure c := by unfold cellOf; rw [hc]
        rw [e, pure_bind, pure_bind]
        exact hr _
      · dsimp only
        rw [if_neg hk, if_neg hk, pure_bind]
        exact hr _
  unfold closureFor
  rw [show (pure (clGo env scope.names []) : Sem (List (Str × Addr))) = (pure (clGo env scope.names []) >>= fun r => pure r) from (bind_pure _).symm, ← key scope.names [] h]
theorem clGo_lookup {env : Env} {x : Str} {c : Addr} : ∀ {l : List (Str × NameKind)} {cs : List (Str × Addr)}, (clGo env l cs).lookup x = some c → cs.lookup x = some c ∨ env.cells.lookup x = some c
  | [], _, h => .inl h
  | (n, k) :: r, cs, h => by
    rcases clGo_lookup (l := r) h with q | q
    · by_cases hk : (k == NameKind.free) = true
      · rw [if_pos hk] at q
        cases e : env.cells.lookup n with
        | none => rw [e] at q; exact .inl q
        | some d =>
          rw [e] at q
          dsimp only at q
          rw [List.lookup_cons] at q
          cases hx : x == n with
          | true =>
            rw [hx] at q
            have : x = n := by simpa using hx
            subst this
            dsimp only at q
            rw [← q]; exact .inr e
          | false => rw [hx] at q; exact .inl q
      · rw [if_neg hk] at q; exact .inl q
    · exact .inr q
theorem clGo_has {env : Env} {x : Str} : ∀ {l : List (Str × NameKind)} {cs : List (Str × Addr)}, ((x, NameKind.free) ∈ l ∧ (∃ c, env.cells.lookup x = some c)) ∨ (∃ c, cs.lookup x = some c) → ∃ c, (clGo env l cs).lookup x = some c
  | [], cs, h => by
    rcases h with ⟨h, _⟩ | h
    · exact absurd h (by simp)
    · exact h
  | (n, k) :: r, cs, h => by
    refine clGo_has (l := r) ?_
    rcases h with ⟨h, hc⟩ | h
    · rcases List.mem_cons.mp h with e | h
      · have e1 : x = n := congrArg (·.1) e
        have e2 : NameKind.free = k := congrArg (·.2) e
        subst e1 e2
        obtain ⟨c, hc⟩ := hc
        refine .inr ⟨c, ?_⟩
        rw [if_pos (by decide), hc]
        simp [List.lookup_cons]
      · exact .inl ⟨h, hc⟩
    · obtain ⟨c, hc⟩ := h
      right
      by_cases hk : (k == NameKind.free) = true
      · rw [if_pos hk]
        cases e : env.cells.lookup n with
        | none => exact ⟨c, hc⟩
        | some d =>
          dsimp only
          rw [List.lookup_cons]
          cases hx : x == n with
          | true => exact ⟨d, rfl⟩
          | false => exact ⟨c, hc⟩
      · rw [if_neg hk]; exact ⟨c, hc⟩
theorem relabel_kind {env : Env} {x : Str} : ∀ {names : List (Str × NameKind)} {k : NameKind},
    (names.map fun (p : Str × NameKind) => match p with | (n, k) => if (k == NameKind.free && env.scope.kind == .function && env.kindOf n == some .cell) = true then (n, NameKind.cell) else (n, k)).lookup x = some k →
    ∃ k', names.lookup x = some k' ∧ (k' = k ∨ (k' = .free ∧ k = .cell))
  | [], _, h => by simp at h
  | (n, k0) :: r, k, h => by
    rw [List.map_cons] at h
    by_cases hc : (k0 == NameKind.free && env.scope.kind == .function && env.kindOf n == some .cell) = true
    · dsimp only at h
      rw [if_pos hc, List.lookup_cons] at h
      rw [List.lookup_cons]
      cases hx : x == n with
      | true =>
        rw [hx] at h
        have e : NameKind.cell = k := Option.some.inj h
        have e0 : k0 = .free := by
          simp only [Bool.and_eq_true, beq_iff_eq] at hc; exact hc.1.1
        exact ⟨k0, rfl, .inr ⟨e0, e.symm⟩⟩
      | false => rw [hx] at h; exact relabel_kind (names := r) h
    · dsimp only at h
      rw [if_neg hc, List.lookup_cons] at h
      rw [List.lookup_cons]
      cases hx : x == n with
      | true => rw [hx] at h; exact ⟨k0, rfl, .inl (Option.some.inj h)⟩
      | false => rw [hx] at h; exact relabel_kind (names := r) h
theorem relabel_free {env : Env} {x : Str} : ∀ {names : List (Str × NameKind)}, names.lookup x = some .free →
    (names.map fun (p : Str × NameKind) => match p with | (n, k) => if (k == NameKind.free && env.scope.kind == .function && env.kindOf n == some .cell) = true then (n, NameKind.cell) else (n, k)).lookup x = some .cell ∨
    (names.map fun (p : Str × NameKind) => match p with | (n, k) => if (k == NameKind.free && env.scope.kind == .function && env.kindOf n == some .cell) = true then (n, NameKind.cell) else (n, k)).lookup x = some .free
  | [], h => by simp at h
  | (n, k0) :: r, h => by
    rw [List.map_cons]
    rw [List.lookup_cons] at h
    by_cases hc : (k0 == NameKind.free && env.scope.kind == .function && env.kindOf n == some .cell) = true
    · dsimp only
      rw [if_pos hc, List.lookup_cons]
      cases hx : x == n with
      | true => exact .inl rfl
      | false => rw [hx] at h; exact relabel_free (names := r) h
    · dsimp only
      rw [if_neg hc, List.lookup_cons]
      cases hx : x == n with
      | true => rw [hx] at h; exact .inr h
      | false => rw [hx] at h; exact relabel_free (names := r) h
end L2

set_option Elab.async false
set_option linter.all false
set_option maxRecDepth 100000
namespace L2
open PySem PySem.Spec PyProof.Rows

/-! ### a comprehension of one clause -/
theorem compLoop_any {prog : Program} {w : World} {A : Around} {R : Result → Shared → Prop} {s : Shared} {elt target iter : Expr} {ifs : List Expr} {scope : Scope} {pos : Pos} {it acc : Value} {env : Env} (I : Nat → Shared → Prop)
    (turn : ∀ n s, I n s → wpAny (model prog w) A (pyNext it) (fun r s₁ => match r with
      | none => R (.ok .next) s₁
      | some v => wpAny (model prog w) A (letOwnedTupleGo target it v) (fun _ s₁' => wpAny (model prog w) A (assign target env v) (fun _ s₂ =>
          wpAny (model prog w) A (forIn ifs true fun c r => if r = true then do let ok ← isTrue c env (eval c env); pure (ForInStep.yield ok) else pure (ForInStep.yield r)) (fun ok s₃ =>
            if ok = true then wpAny (model prog w) A (eval elt env) (fun x s₄ =>
              wpAny (model prog w) A (call (.builtin "list.append") [acc, x]) (fun _ s₅ => ∃ m, m < n ∧ I m s₅) (notedBy (model prog w) A env fun e s' => R (.error e) s') s₄) (notedBy (model prog w) A env fun e s' => R (.error e) s') s₃
            else ∃ m, m < n ∧ I m s₃) (notedBy (model prog w) A env fun e s' => R (.error e) s') s₂) (notedBy (model prog w) A env fun e s' => R (.error e) s') s₁') (notedBy (model prog w) A env fun e s' => R (.error e) s') s₁) (notedBy (model prog w) A env fun e s' => R (.error e) s') s)
    (n : Nat) (h : I n s) :
    codeAny (model prog w) A (.compLoop (.ListComp elt [⟨target, iter, ifs, 0⟩] scope pos) 0 it acc env) R s := by
  refine codeAny_loop rfl I (fun n s hI => ?_) n h
  show wpAny _ A ((compTurn (.ListComp elt [⟨target, iter, ifs, 0⟩] scope pos) 0 it acc env).onRaise (fun x => do noteFrame x env; theTreesLotGoes x)) _ _ s
  refine wpAny_noted ?_
  rw [compTurn_list]
  refine wpAny_bind (wpAny_standAt (wpAny_bind (wpAny_mono (turn n s hI) (fun r s₁ h₁ => ?_) fun _ _ h' => h')))
  cases r with
  | none => exact wpAny_pure h₁
  | some v =>
    refine wpAny_bind (wpAny_mono h₁ (fun _ s₁' h₁' => ?_) fun _ _ h' => h')
    refine wpAny_bind (wpAny_mono h₁' (fun _ s₂ h₂ => wpAny_bind (wpAny_mono h₂ (fun ok s₃ h₃ => ?_) fun _ _ h' => h')) fun _ _ h' => h')
    cases ok with
    | false => exact wpAny_pure ⟨rfl, h₃⟩
    | true =>
      exact wpAny_bind (wpAny_bind (wpAny_mono h₃ (fun x s₄ h₄ => wpAny_bind (wpAny_mono h₄ (fun _ s₅ h₅ => wpAny_pure (wpAny_pure ⟨rfl, h₅⟩)) fun _ _ h' => h')) fun _ _ h' => h'))

/-- the context of the block -/
def cxC (X : Cx) (N : List Str) (sc : Scope) (C : Addr) (fp : List Addr) (s : Shared) (H : Hp) (xe : Value → Shared → Prop) : Cx :=
  { X with N := N, s₀ := s, H₀ := H, env := compEnvC sc (clGo X.env sc.names []) C X.env, outer := X.stack, ex := fp, fn := fun _ => false, pn := [], xe := xe }
/-- the tests behind if -/
def PIfs (X : Cx) (ifs : List Expr) (t : TT) : Prop :=
  ∀ (pins : List (Addr × Obj)) (s : Shared) (σ : St) (H : Hp) (Q : Bool → Hp → Prop), Inv X pins σ H s → t σ H Q →
    wpAny (model X.prog X.w) X.A (forIn ifs true fun c r => if r = true then do let ok ← isTrue c X.env (eval c X.env); pure (ForInStep.yield ok) else pure (ForInStep.yield r)) (TP X pins σ Q) X.xe s
def tTrue : TT := fun _ H Q => Q true H
theorem pif_nil {X : Cx} : PIfs X [] tTrue := fun pins s σ H Q I h => wpAny_tests_nil ⟨H, I, h⟩
theorem pif_one {X : Cx} {c : Expr} {t : TT} (h : PT X c t) : PIfs X [c] t := fun pins s σ H Q I q => wpAny_tests_one (h pins s σ H Q I q)

/-- the block's names: the free ones first (each a cell of the def), then the target's -/
structure CompScope (X : Cx) (F T : List Str) (fr : List Nat) (sc : Scope) : Prop where
  kind : sc.kind = .function
  nocell : ∀ y ∈ sc.names, y.2 ≠ .cell
  locals : ∀ y ∈ sc.names, y.2 = .local → sc.names.lookup y.1 = some .local
  frees : ∀ y ∈ sc.names, y.2 = .free → X.env.kindOf y.1 = some .cell
  fnames : ∀ x ∈ F, sc.names.lookup x = some .free
  eqs : fr.map (fun j => X.N[j]?) = F.map some
theorem CompScope.len {X : Cx} {F T : List Str} {fr : List Nat} {sc : Scope} (S : CompScope X F T fr sc) : fr.length = F.length := by
  have := congrArg List.length S.eqs
  simpa using this
theorem CompScope.at_ {X : Cx} {F T : List Str} {fr : List Nat} {sc : Scope} (S : CompScope X F T fr sc) (i : Nat) (x : Str) (h : F[i]? = some x) : ∃ j, fr[i]? = some j ∧ X.N[j]? = some x := by
  have e := congrArg (fun l => l[i]?) S.eqs
  simp only [List.getElem?_map, h, Option.map_some] at e
  cases q : fr[i]? with
  | none => rw [q] at e; cases e
  | some j => rw [q] at e; exact ⟨j, rfl, Option.some.inj e⟩
def compSt (fr : List Nat) (T : List Str) (σ : St) : St := (fr.map fun j => (σ[j]?).join) ++ T.map fun _ => none
def tComp (wi : TI) (fr : List Nat) (T : List Str) (g : TG) (ti : TT) (te : TE) : TE := fun σ H Q => wi σ H fun J H1 => ∀ D, H1 D = none →
  ∃ W : Nat → Nat → St → List V → Hp → Prop, (∃ m, W 0 m (compSt fr T σ) [] (upd H1 D (.lst []))) ∧ ∀ i m σ' xs H', W i m σ' xs H' → H' D = some (.lst xs) ∧
    ((J.stop i H' ∧ Q (.ref D) H') ∨ (J.go i H' ∧ ∃ N : St → List V → Hp → Prop, (∀ σ2 ys H2, N σ2 ys H2 → ∃ m', m' < m ∧ W (i + 1) m' σ2 ys H2) ∧ ∀ x H2, J.yld i H' x H2 → g x σ' H2 fun σ2 H3 => ti σ2 H3 fun b H4 =>
      if b = true then te σ2 H4 fun v H5 => H5 D = some (.lst xs) ∧ xs.length < sizeLine ∧ N σ2 (xs ++ [v]) (upd H5 D (.lst (xs ++ [v]))) else N σ2 xs H4))

theorem cxC_ok {X : Cx} {F T : List Str} {fr : List Nat} {sc : Scope} {pins : List (Addr × Obj)} {σ : St} {H : Hp} {s : Shared} {fp : List Addr} {xe : Value → Shared → Prop} (S : CompScope X F T fr sc) (I : Inv X pins σ H s)
    (hfp : ∀ b ∈ fp, FpOk X pins H b) (hfo : ∀ b ∈ fp, b < s.heap.objs.size) : (cxC X (F ++ T) sc s.heap.objs.size fp s H xe).Ok := by
  have cl : ∀ x c, (clGo X.env sc.names []).lookup x = some c → X.env.cells.lookup x = some c := fun x c e => (clGo_lookup e).resolve_left (by simp)
  refine ⟨I.ok.mod, ?_, I.ok.glob, I.ok.blt, Nat.le_refl _, fun x y c h1 h2 => I.ok.inj x y c (cl _ _ h1) (cl _ _ h2), fun x hx => ?_, fun _ _ h => ?_, I.ok.hd, I.ok.frames, .inl rfl, fun b hb => ⟨Nat.ne_of_lt (hfo b hb), fun x c e => (hfp b hb).2.2.2.2.1 x c (cl _ _ e)⟩, I.bs, Nat.le_trans I.ok.bsz I.sz, fun b o e hb => ?_, fun b hb => ?_, I.stack, I.stkFree⟩
  · show (relabel sc X.env).kind = _
    exact S.kind
  · have hx' : ∃ k, (relabel sc X.env).names.lookup x = some k ∧ (k = .cell ∨ k = .free) := by
      rcases hx with h | h
      · exact ⟨_, h, .inl rfl⟩
      · exact ⟨_, h, .inr rfl⟩
    obtain ⟨k, hk, hkk⟩ := hx'
    obtain ⟨k', h1, h2⟩ := relabel_kind (env := X.env) hk
    have hf : k' = .free := by
      rcases h2 with h2 | h2
      · rcases hkk with z | z
        · exact absurd (by rw [h2, z]) (S.nocell _ (PySem.mem_of_lookup h1))
        · rw [h2, z]
      · exact h2.1
    rw [hf] at h1
    have hm := PySem.mem_of_lookup h1
    refine clGo_has (.inl ⟨hm, ?_⟩)
    exact I.ok.has x (.inl (S.frees _ hm rfl))
  · exact absurd h (by show ¬ (false = true); decide)
  · rcases (hfp b hb).2.2.2.1 with z | z
    · exact I.ok.noex b o e z
    · exact absurd (Nat.lt_of_lt_of_le (Heap.lt_size (I.ok.bs b o e).1) z) (Nat.lt_irrefl _)
  · intro z
    rcases List.mem_cons.mp (I.stkSub b z) with q | q
    · exact (hfp b hb).2.1 q
    · exact (hfp b hb).2.2.1 q

theorem inv_comp {X : Cx} {F T : List Str} {fr : List Nat} {sc : Scope} {pins : List (Addr × Obj)} {σ : St} {H : Hp} {s : Shared} {fp : List Addr} {xe : Value → Shared → Prop} {h4 : Heap} {tk : Nat} {m : Str → Option Value} (S : CompScope X F T fr sc) (I : Inv X pins σ H s)
    (hfp : ∀ b ∈ fp, FpOk X pins H b) (hfo : ∀ b ∈ fp, b < s.heap.objs.size) (hn : h4.Ns s.heap.objs.size m) (k : ∀ b o, s.heap.get? b = some o → h4.get? b = some o) :
    Inv (cxC X (F ++ T) sc s.heap.objs.size fp s H xe) [] (compSt fr T σ) H { s with heap := h4, toks := tk } := by
  have cl : ∀ x c, (clGo X.env sc.names []).lookup x = some c → X.env.cells.lookup x = some c := fun x c e => (clGo_lookup e).resolve_left (by simp)
  refine ⟨cxC_ok S I hfp hfo, rfl, I.bare, Un.kept k, ⟨m, hn, fun i x v h1 h2 h3 => ?_⟩, fun x c e => ?_, I.hok.fresh (Nat.le_refl _), fun x c e => I.freeC x c (cl _ _ e), fun p hp => absurd (show p ∈ ([] : List (Addr × Obj)) from hp) (by simp), I.hok.kept k, ?_⟩
  · have hi : i < fr.length := by
      unfold compSt at h2
      by_cases hi : i < fr.length
      · exact hi
      · rw [List.getElem?_append_right (by simpa using hi), List.getElem?_map] at h2
        cases q : T[i - (fr.map fun j => (σ[j]?).join).length]? with
        | none => rw [q] at h2; cases h2
        | some y => rw [q] at h2; cases h2
    have hF : F[i]? = some x := by
      have h1 : (F ++ T)[i]? = some x := h1
      rw [List.getElem?_append_left (by rw [← S.len]; exact hi)] at h1
      exact h1
    obtain ⟨j, hj, hx⟩ := S.at_ i x hF
    have hv : σ[j]? = some (some v) := by
      unfold compSt at h2
      rw [List.getElem?_append_left (by simpa using hi), List.getElem?_map, hj] at h2
      have h2 : some (σ[j]?).join = some (some v) := h2
      have h2 := Option.some.inj h2
      cases q : σ[j]? with
      | none => rw [q] at h2; cases h2
      | some y => rw [q] at h2; have h2 : y = some v := h2; rw [h2]
    have hmem : x ∈ F := List.mem_of_getElem? hF
    have hfree := S.fnames x hmem
    have hcell : X.env.kindOf x = some .cell := S.frees _ (PySem.mem_of_lookup hfree) rfl
    obtain ⟨m0, _, hl⟩ := I.loc
    obtain ⟨u, ru, lk⟩ := hl j x v hx hv (.inr (.inl hcell))
    refine ⟨u, ru, .inr ⟨relabel_free (env := X.env) hfree, ?_⟩⟩
    rcases lk with ⟨z, _⟩ | ⟨_, c, hc, hic⟩
    · rw [hcell] at z; cases z
    · obtain ⟨c', hc'⟩ := clGo_has (env := X.env) (x := x) (l := sc.names) (cs := []) (.inl ⟨PySem.mem_of_lookup hfree, c, hc⟩)
      have e : c' = c := by have := cl _ _ hc'; rw [hc] at this; exact (Option.some.inj this).symm
      subst e
      obtain ⟨o, ho, hd⟩ := hic
      exact ⟨c', hc', o, k _ _ ho, hd⟩
  · obtain ⟨v, o, ho, hd⟩ := I.cell x c (cl _ _ e)
    exact ⟨v, o, k _ _ ho, hd⟩
  · show (compSt fr T σ).length = (F ++ T).length
    unfold compSt
    rw [List.length_append, List.length_append, List.length_map, List.length_map, S.len]

theorem pe_comp {X : Cx} {F T : List Str} {fr : List Nat} {sc : Scope} {elt target iter : Expr} {ifs : List Expr} {pos : Pos} {wi : TI} {g : TG} {ti : TT} {te : TE} (S : CompScope X F T fr sc) (hc : X.calm = true) (hi : PI X target iter wi)
    (hg : ∀ C fp s H xe, PG (cxC X (F ++ T) sc C fp s H xe) target g) (hti : ∀ C fp s H xe, PIfs (cxC X (F ++ T) sc C fp s H xe) ifs ti) (he : ∀ C fp s H xe, PE (cxC X (F ++ T) sc C fp s H xe) elt te)
    (hs : ∀ x, foldedSetIterable iter X.env x = pure x := by intro _; rfl) : PE X (.ListComp elt [⟨target, iter, ifs, 0⟩] sc pos) (tComp wi fr T g ti te) := by
  intro pins s σ H Q I h
  rw [eval_ListComp]
  refine wpAny_comprehension_free (use := none) rfl hs (closure_ok fun p hp hf => ?_) S.kind S.locals ?_
  · exact I.ok.has p.1 (.inl (S.frees p hp hf))
  refine thn (hi pins s σ H _ I h) fun v s1 h1 => thn h1 fun itv s2 h2 => ?_
  obtain ⟨it, fp, tn, J, H2, e, I2, T2, st2, f2, hD⟩ := h2
  subst e
  have hfo : ∀ b ∈ fp, b < s2.heap.objs.size := fun b hb => by
    obtain ⟨o, e, _⟩ := T2.obj _ _ st2 b hb
    exact Heap.lt_size e
  -- the new list
  refine wpAny_newObj_type ?_
  have hDn : H2 s2.heap.objs.size = none := I2.hok.fresh (Nat.le_refl _)
  obtain ⟨W, ⟨m0, w0⟩, turn⟩ := hD s2.heap.objs.size hDn
  have I3 : Inv X pins σ (upd H2 s2.heap.objs.size (.lst [])) { s2 with heap := s2.heap.push { cls := .type "list", dict := none, data := .seq ([] : List Value).toArray } } :=
    I2.laid (t' := s2.toks) (fun b u e => Heap.get?_push_of_some _ e) (Nat.le_refl _) ⟨Nat.zero_le _, [], 0, .nil, Heap.get?_push_size _ rfl⟩
  generalize hs3 : ({ s2 with heap := s2.heap.push { cls := .type "list", dict := none, data := .seq ([] : List Value).toArray } } : Shared) = s3 at I3
  have hsz3 : s3.heap.objs.size = s2.heap.objs.size + 1 := by rw [← hs3]; exact Heap.size_push _ _
  have neD : ∀ b ∈ fp, b ≠ s2.heap.objs.size := fun b hb => Nat.ne_of_lt (hfo b hb)
  have f3 : ∀ b ∈ fp, FpOk X pins (upd H2 s2.heap.objs.size (.lst [])) b := fun b hb => ⟨by rw [upd_ne (neD b hb)]; exact (f2 b hb).1, (f2 b hb).2⟩
  have hfo3 : ∀ b ∈ fp, b < s3.heap.objs.size := fun b hb => by rw [hsz3]; exact Nat.lt_succ_of_lt (hfo b hb)
  have st3 : tn 0 s3.heap := T2.keep _ _ _ st2 fun b hb o e => by rw [← hs3]; exact Heap.get?_push_of_some _ e
  generalize hDD : s2.heap.objs.size = D at *
  -- the frame
  refine wpAny_newFunctionEnv S.nocell (by intro y hy; simp at hy) (fun h4 hn4 hsb4 => ?_) S.kind
  have old : ∀ b o, s3.heap.get? b = some o → h4.get? b = some o := fun b o e => hsb4.extBut b o (Nat.ne_of_lt (Heap.lt_size e)) (Heap.get?_push_of_some _ e)
  generalize hCC : s3.heap.objs.size = C at *
  let R : Result → Shared → Prop := compPost (model X.prog X.w) X.A X.xe none (EP X pins σ Q) (.ref D) C
  let xe : Value → Shared → Prop := notedBy (model X.prog X.w) X.A (compEnvC sc (clGo X.env sc.names []) C X.env) fun e s' => R (.error e) s'
  have I4 : Inv (cxC X (F ++ T) sc C fp s3 (upd H2 D (.lst [])) xe) [] (compSt fr T σ) (upd H2 D (.lst [])) { s3 with heap := h4, toks := s3.toks + ([] : List (Str × Value)).length } := by
    subst hCC
    exact inv_comp S I3 f3 hfo3 hn4 old
  have st4 : tn 0 h4 := T2.keep _ _ _ st3 fun b hb o e => old b o e
  have stat : ∀ {H' : Hp}, (∀ b ∈ fp, H' b = none) → ∀ b ∈ fp, FpOk (cxC X (F ++ T) sc C fp s3 (upd H2 D (.lst [])) xe) [] H' b := fun {H'} hn b hb => by
    refine ⟨hn b hb, ?_, ?_, .inl hb, fun x c e => ?_, fun p hp => absurd (show p ∈ ([] : List (Addr × Obj)) from hp) (by simp)⟩
    · exact (I4.ok.exf b hb).1
    · exact I4.ok.exfs b hb
    · exact (I4.ok.exf b hb).2 x c e
  have loop : ∀ s5 : Shared, s5 = { s3 with heap := h4, toks := s3.toks + ([] : List (Str × Value)).length } →
      codeAny (model X.prog X.w) X.A (.compLoop (.ListComp elt [⟨target, iter, ifs, 0⟩] sc pos) 0 (.ref it) (.ref D) (compEnvC sc (clGo X.env sc.names []) C X.env)) R s5 := by
    rintro s5 rfl
    refine compLoop_any (fun n s' => ∃ i σ' xs H', Inv (cxC X (F ++ T) sc C fp s3 (upd H2 D (.lst [])) xe) [] σ' H' s' ∧ tn i s'.heap ∧ (∀ b ∈ fp, H' b = none) ∧ W i n σ' xs H') ?_ m0 ⟨0, _, [], _, I4, st4, fun b hb => (f3 b hb).1, w0⟩
    rintro n s6 ⟨i, σ6, xs, H6, I6, st6, fr6, w6⟩
    obtain ⟨hD6, tt⟩ := turn i n σ6 xs H6 w6
    rcases tt with ⟨stop, qn⟩ | ⟨go, NN, hNN, step⟩
    · refine thn (T2.done (cxC X (F ++ T) sc C fp s3 (upd H2 D (.lst [])) xe) rfl rfl rfl hc i [] s6 σ6 H6 xe I6 (stat fr6) st6 stop) fun r s7 ⟨hr, I7⟩ => ?_
      subst hr
      obtain ⟨m7, hn7, _⟩ := I7.loc
      refine ⟨m7, hn7, fun h8 hsb => ⟨.ref D, H6, ?_, rfl, qn⟩⟩
      have hCn : H6 C = none := I7.free
      have un8 : Un (frs X.stack) fp (upd H2 D (.lst [])) H6 s3.heap h8 := by
        have u7 : Un (frs X.stack) fp (upd H2 D (.lst [])) H6 s3.heap s7.heap := I7.base
        have nC : ∀ b o, s3.heap.get? b = some o → b ≠ C := fun b o e => by rw [← hCC]; exact Nat.ne_of_lt (Heap.lt_size e)
        refine ⟨fun b o e n hb hx => (hsb.2 b (nC b o e)).trans (u7.keep b o e n hb hx), fun b o e n hb hx => ?_, u7.free, fun b o e hx => ?_, u7.tups, u7.frzs, u7.tbls⟩
        · obtain ⟨sl, q⟩ := u7.slot b o e n hb hx
          exact ⟨sl, (hsb.2 b (nC b o e)).trans q⟩
        · obtain ⟨o', q⟩ := u7.there b o e hx
          exact ⟨o', (hsb.2 b (nC b o e)).trans q⟩
      have hok8 : HOk X.prog X.w H6 h8 := fun b ob e => by
        refine (I7.hok b ob e).stay (fun c w' hc q => (hsb.2 c ?_).trans q) (fun _ q => q) fun _ _ q => q
        rintro rfl
        rcases hc with rfl | hc
        · rw [hCn] at e; cases e
        · rw [hCn] at hc; cases hc
      refine I3.call' (s' := { s7 with heap := h8 }) (H' := H6) (ch := fp) I7.os un8 hok8 I7.bare fun b hb => ?_
      obtain ⟨_, q1, _, q2, q3, q4⟩ := f3 b hb
      exact ⟨q2, q1, q3, q4⟩
    · refine thn (T2.item (cxC X (F ++ T) sc C fp s3 (upd H2 D (.lst [])) xe) rfl rfl rfl hc i [] s6 σ6 H6 xe I6 (stat fr6) st6 go) fun r s7 ⟨u, hr, h7⟩ => ?_
      subst hr
      refine thn h7 fun _ s8 ⟨x, H8, I8, r8, y8, st8, fr8⟩ => ?_
      have I8' := I8.pinned (stat fr8) (T2.obj _ _ st8)
      have back : ∀ {s9 : Shared} {σ9 : St} {H9 : Hp}, Inv (cxC X (F ++ T) sc C fp s3 (upd H2 D (.lst [])) xe) ([] ++ pinsAt fp s8.heap) σ9 H9 s9 → Inv (cxC X (F ++ T) sc C fp s3 (upd H2 D (.lst [])) xe) [] σ9 H9 s9 ∧ tn (i + 1) s9.heap ∧ ∀ b ∈ fp, H9 b = none := fun {s9 σ9 H9} I9 => by
        refine ⟨I9.unpinned, T2.keep _ _ _ st8 fun b hb o e => (I9.pin (b, o) (List.mem_append_right _ (List.mem_append_right _ (mem_pinsAt hb e)))).1, fun b hb => ?_⟩
        obtain ⟨o, e, d⟩ := T2.obj _ _ st8 b hb
        exact (I9.pin (b, o) (List.mem_append_right _ (List.mem_append_right _ (mem_pinsAt hb e)))).2.1
      refine thn (hg C fp s3 _ xe _ s8 σ6 H8 x u _ I8' r8 (step x H8 y8)) fun _ s9 ⟨σ9, H9, I9, q9⟩ => ?_
      refine thn (hti C fp s3 _ xe _ s9 σ9 H9 _ I9 q9) fun ok s10 ⟨H10, I10, q10⟩ => ?_
      cases ok with
      | false =>
        rw [if_neg Bool.false_ne_true] at q10 ⊢
        obtain ⟨m', hm, w'⟩ := hNN _ _ _ q10
        obtain ⟨b1, b2, b3⟩ := back I10
        exact ⟨m', hm, i + 1, σ9, xs, H10, b1, b2, b3, w'⟩
      | true =>
        rw [if_pos rfl] at q10 ⊢
        refine thn (he C fp s3 _ xe _ s10 σ9 H10 _ I10 q10) fun x11 s11 ⟨v11, H11, I11, r11, hD11, hz, q11⟩ => ?_
        obtain ⟨m', hm, w'⟩ := hNN _ _ _ q11
        refine thn (mt_append _ s11 σ9 H11 (.ref D) [v11] (.ref D) [x11] (fun _ H' => H' = upd H11 D (.lst (xs ++ [v11]))) I11 rfl (.cons r11 .nil) ⟨D, xs, v11, rfl, rfl, hD11, hz, rfl⟩) fun _ s12 ⟨_, H12, I12, _, e12⟩ => ?_
        subst e12
        obtain ⟨b1, b2, b3⟩ := back I12
        exact ⟨m', hm, i + 1, σ9, _, _, b1, b2, b3, w'⟩
  have st5 : codeAny (model X.prog X.w) X.A (.compStart (.ListComp elt [⟨target, iter, ifs, 0⟩] sc pos) 0 (.ref it) (.ref D) (compEnvC sc (clGo X.env sc.names []) C X.env)) R { s3 with heap := h4, toks := s3.toks + ([] : List (Str × Value)).length } :=
    codeAny_compStart_list (loop _ rfl) (T2.self _ 0 _ _ _ st4 (loop _ rfl))
  subst hs3
  exact st5

/-! ### the forms one uses -/
theorem comp_range {lo : Int} {n : Nat} {g : TG} {ti : TT} {te : TE} {σ : St} {H : Hp} {D : Addr} {Q : VK} (Pv : Nat → St → List V → Hp → Prop) (h0 : Pv 0 σ [] (upd H D (.lst []))) (hD : ∀ i σ xs H, Pv i σ xs H → H D = some (.lst xs))
    (hs : ∀ i σ xs H, i < n → Pv i σ xs H → g (.int (lo + i)) σ H fun σ2 H3 => ti σ2 H3 fun b H4 => if b = true then te σ2 H4 fun v H5 => H5 D = some (.lst xs) ∧ xs.length < sizeLine ∧ Pv (i + 1) σ2 (xs ++ [v]) (upd H5 D (.lst (xs ++ [v]))) else Pv (i + 1) σ2 xs H4)
    (hd : ∀ σ xs H, Pv n σ xs H → Q (.ref D) H) :
    ∃ W : Nat → Nat → St → List V → Hp → Prop, (∃ m, W 0 m σ [] (upd H D (.lst []))) ∧ ∀ i m σ' xs H', W i m σ' xs H' → H' D = some (.lst xs) ∧
      (((Itr lo n).stop i H' ∧ Q (.ref D) H') ∨ ((Itr lo n).go i H' ∧ ∃ N : St → List V → Hp → Prop, (∀ σ2 ys H2, N σ2 ys H2 → ∃ m', m' < m ∧ W (i + 1) m' σ2 ys H2) ∧ ∀ x H2, (Itr lo n).yld i H' x H2 → g x σ' H2 fun σ2 H3 => ti σ2 H3 fun b H4 =>
        if b = true then te σ2 H4 fun v H5 => H5 D = some (.lst xs) ∧ xs.length < sizeLine ∧ N σ2 (xs ++ [v]) (upd H5 D (.lst (xs ++ [v]))) else N σ2 xs H4)) := by
  refine ⟨fun i m σ xs H => m = n - i ∧ i ≤ n ∧ Pv i σ xs H, ⟨n, by simp, Nat.zero_le _, h0⟩, ?_⟩
  rintro i m σ xs H ⟨rfl, hi, p⟩
  refine ⟨hD i σ xs H p, ?_⟩
  by_cases hlt : i < n
  · refine .inr ⟨hlt, Pv (i + 1), fun σ' ys H' p' => ⟨n - (i + 1), by omega, rfl, hlt, p'⟩, fun x H' y => ?_⟩
    obtain ⟨e, y⟩ := y
    subst e y
    exact hs i σ xs _ hlt p
  · have e : i = n := by omega
    subst e
    exact .inl ⟨Nat.le_refl _, hd σ xs H p⟩
end L2

set_option Elab.async false
set_option linter.all false
set_option maxRecDepth 100000
namespace L2
open PySem PySem.Spec PyProof.Rows
section
variable {X : Cx}

/-! ### a cut between two statements: what holds there is said once -/
def tCut (t u : TS) : TS := fun D σ H => ∃ Pv : St → Hp → Prop, t { D with nx := Pv } σ H ∧ ∀ σ' H', Pv σ' H' → u D σ' H'
theorem pss_cut {st : Stmt} {rest : List Stmt} {t u : TS} (h1 : PS X st t) (h2 : PSs X rest u) : PSs X (st :: rest) (tCut t u) := by
  intro pins s σ H D I h
  obtain ⟨Pv, ha, hb⟩ := h
  refine wpAny_execs_cons (thn (h1 pins s σ H { D with nx := Pv } I ha) fun f s1 q => ?_)
  cases f with
  | next =>
    obtain ⟨σ', H', I', q⟩ := q
    exact h2 pins s1 σ' H' D I' (hb σ' H' q)
  | ret v => exact q
  | brk => exact q
  | cont => exact q
/-! ### cuts of a text -/
def rSlS : V → Option Int → Option Int → Hp → VK → Prop := fun x lo hi H Q => ∃ z, x = .str z ∧ z.length ≤ sizeLine ∧ Q (.str (Txt.slice z lo hi)) H
theorem sl_str : SlR X rSlS := by
  intro pins s σ H x v vl vu lo hi sl Q I rx hs pl pu h
  obtain ⟨z, rfl, hz, q⟩ := h
  obtain ⟨t, rfl⟩ := (show ∃ t, v = Value.str z t from rx)
  refine ⟨"str", _, F.slot_str_getitem.lookup, typeIs_str _ _ _, ?_⟩
  have key : ∀ (l u : Option (Int × Tok)), s.heap.IsSlice sl l u none → l.map (·.1) = lo → u.map (·.1) = hi → wpAny (model X.prog X.w) X.A (getItem (.str z t) (.ref sl)) (EP X pins σ Q) X.xe s := by
    intro l u hsl e1 e2
    subst e1 e2
    exact wpAny_getItem_str_slice (st := none) hsl rfl (post_val_or_str ⟨Nat.le_trans (Txt.slice_le z _ _) hz, fun t' k => ⟨.str (Txt.slice z (l.map (·.1)) (u.map (·.1))), H, I.tok k, ⟨t', rfl⟩, q⟩⟩)
  cases pl with
  | none => cases pu with
    | none => exact key none none hs rfl rfl
    | int j t' => exact key none (some (j, t')) hs rfl rfl
  | int i ti => cases pu with
    | none => exact key (some (i, ti)) none hs rfl rfl
    | int j t' => exact key (some (i, ti)) (some (j, t')) hs rfl rfl

/-! ### methods of a text -/
theorem strs_of : ∀ {ys : List Str} {us : List Value}, Vals (ys.map V.str) us → StrsAre us ys
  | [], _, h => by cases h; exact .nil
  | y :: ys, _, h => by
    cases h with
    | cons r t =>
      obtain ⟨k, rfl⟩ := (show ∃ t, _ = Value.str y t from r)
      exact .cons y k (strs_of t)
theorem strs_from : ∀ (l : List (Str × Tok)), Vals ((l.map (·.1)).map V.str) (strValues l)
  | [] => .nil
  | (x, t) :: r => .cons ⟨t, rfl⟩ (strs_from r)
def rJoin : V → List V → Hp → VK → Prop := fun x vs H Q => ∃ z l ys, x = .str z ∧ vs = [.ref l] ∧ H l = some (.lst (ys.map V.str)) ∧ (ys.map (·.length)).sum + ys.length * z.length ≤ 16777216 ∧ Q (.str (Txt.join z ys)) H
theorem mt_join : MtR X "str.join" rJoin := by
  intro pins s σ H x xs v us Q I rx rv h
  obtain ⟨z, l, ys, rfl, rfl, hl, hz, q⟩ := h
  obtain ⟨t, rfl⟩ := (show ∃ t, v = Value.str z t from rx)
  obtain ⟨u, rfl, ru⟩ := rv.one
  cases ru
  obtain ⟨its, n, r, e, _⟩ := I.lst hl
  exact join_list (D := l) (items := its.toArray) ⟨_, e, rfl, n, rfl⟩ (strs_of r) hz fun t' k => ⟨.str _, H, I.tok k, ⟨t', rfl⟩, q⟩
def rSplit : V → List V → Hp → VK → Prop := fun x vs H Q => ∃ z y, x = .str z ∧ vs = [.str y] ∧ (y.length == 0) = false ∧ z.length ≤ sizeLine ∧ (Builtin.Str.partsBetween z (Builtin.Str.occurrences z y 0 z.length (z.length + 1)) y.length).length ≤ sizeLine ∧
  ∀ p, H p = none → Q (.ref p) (upd H p (.lst ((Txt.split z y).map V.str)))
theorem Inv.newStrs {pins : List (Addr × Obj)} {σ : St} {H : Hp} {s : Shared} (I : Inv X pins σ H s) (l : List (Str × Tok)) (k : Nat) (hl : l.length ≤ sizeLine) :
    Inv X pins σ (upd H s.heap.objs.size (.lst ((l.map (·.1)).map V.str))) { s with heap := s.heap.push { cls := .type "list", data := .seq (strValues l).toArray }, toks := k } :=
  I.laid (fun b u e => Heap.get?_push_of_some _ e) (Nat.le_refl _) ⟨by simpa using hl, strValues l, 0, strs_from l, Heap.get?_push_size _ rfl⟩
theorem mt_split : MtR X "str.split" rSplit := by
  intro pins s σ H x xs v us Q I rx rv h
  obtain ⟨z, y, rfl, rfl, hy, hz, hn, q⟩ := h
  obtain ⟨t, rfl⟩ := (show ∃ t, v = Value.str z t from rx)
  obtain ⟨u, rfl, ru⟩ := rv.one
  obtain ⟨ty, rfl⟩ := (show ∃ t, u = Value.str y t from ru)
  have hf : H s.heap.objs.size = none := I.hok.fresh (Nat.le_refl _)
  have fin : ∀ (l : List (Str × Tok)) (k : Nat), l.map (·.1) = Txt.split z y → l.length ≤ sizeLine → EP X pins σ Q (.ref s.heap.objs.size) { s with heap := s.heap.push { cls := .type "list", data := .seq (strValues l).toArray }, toks := k } := fun l k e hl => by
    refine ⟨.ref s.heap.objs.size, _, I.newStrs l k hl, rfl, ?_⟩
    rw [e]
    exact q _ hf
  cases h1 : (decide (z.length < y.length) || decide (Builtin.Str.strKind z < Builtin.Str.strKind y)) with
  | true => exact call_meets F.slot_str_split (typeIs_str _ _ _) F.entry_str_split (F.args_str_split_2 _ _) (meets_str_split_cannot_occur z y t ty h1) (fin [(z, t)] s.toks (by unfold Txt.split; rw [if_pos h1]; rfl) (show 1 ≤ sizeLine by decide))
  | false =>
    cases hf : (Builtin.Str.occurrences z y 0 z.length (z.length + 1)).isEmpty with
    | true => exact call_meets F.slot_str_split (typeIs_str _ _ _) F.entry_str_split (F.args_str_split_2 _ _) (meets_str_split_not_found z y t ty h1 hy hf) (fin [(z, t)] s.toks (by unfold Txt.split; rw [if_neg (by rw [h1]; decide), if_pos hf]; rfl) (show 1 ≤ sizeLine by decide))
    | false =>
      refine call_meets F.slot_str_split (typeIs_str _ _ _) F.entry_str_split (F.args_str_split_2 _ _) (meets_str_split_sep z y t ty h1 hy hf hz hn) ?_
      have g := fin (numbered s.toks (Builtin.Str.partsBetween z (Builtin.Str.occurrences z y 0 z.length (z.length + 1)) y.length)) (s.toks + (Builtin.Str.partsBetween z (Builtin.Str.occurrences z y 0 z.length (z.length + 1)) y.length).length)
        (by rw [numbered_texts]; unfold Txt.split; rw [if_neg (by rw [h1]; decide), if_neg (by rw [hf]; decide)]) (by
          have := congrArg List.length (numbered_texts s.toks (Builtin.Str.partsBetween z (Builtin.Str.occurrences z y 0 z.length (z.length + 1)) y.length))
          rw [List.length_map] at this
          rw [this]; exact hn)
      rw [← strsFrom_eq] at g
      exact g
/-! ### a text some times -/
def repS (z : Str) (n : Nat) : Str := ⟨(List.replicate n z.cps).foldl (· ++ ·) #[]⟩
def rMulS : R2 := fun x y H Q => ∃ z n, x = .str z ∧ y = .int n ∧ 0 ≤ n ∧ n < 1000000 ∧ z.length * n.toNat ≤ 1000000 ∧ Q (.str (repS z n.toNat)) H
theorem repS_one (z : Str) : repS z 1 = z := by
  obtain ⟨c⟩ := z
  simp [repS]
theorem repS_zero (z : Str) : repS z 0 = Str.empty := rfl
theorem repS_of_empty {z : Str} (h : z.length = 0) (n : Nat) : repS z n = z := by
  obtain ⟨c⟩ := z
  have e : c = #[] := by simpa [Str.length] using h
  subst e
  unfold repS
  congr 1
  induction n with
  | zero => rfl
  | succ n ih => rw [List.replicate_succ, List.foldl_cons]; simpa using ih
theorem op_mul_str : OpR X (binaryOp .Mult) rMulS := by
  intro pins s σ H x y v u Q I rx ry h
  obtain ⟨z, n, rfl, rfl, h0, h1, h2, q⟩ := h
  obtain ⟨t, rfl⟩ := (show ∃ t, v = Value.str z t from rx)
  obtain ⟨t', rfl⟩ := (show ∃ t, u = Value.int n t from ry)
  have hz : z.length * n.toNat ≤ sizeLine := Nat.le_trans h2 (by decide)
  refine P.mul_str (by
    have e1 : ¬ n < -(2 ^ 63 : Int) := by omega
    have e2 : ¬ n ≥ 2 ^ 63 := by omega
    rw [decide_eq_false e1, decide_eq_false e2]; rfl) (fun hn _ hc => ?_) (fun _ _ => ?_) ?_
  · have hpos : 0 < n := by omega
    have e3 : (z.length : Int) * n ≤ 1000000 := by
      have : ((z.length * n.toNat : Nat) : Int) ≤ ((1000000 : Nat) : Int) := Int.ofNat_le.mpr h2
      rw [Int.natCast_mul, Int.toNat_of_nonneg h0] at this
      exact this
    have e4 : (z.length : Int) ≤ (2 ^ 63 - 1) / n := by
      rw [Int.le_ediv_iff_mul_le hpos]
      omega
    omega
  · unfold Builtin.Str.tooLong
    exact decide_eq_false (by omega)
  · by_cases hn : n < 1
    · rw [if_pos hn]
      have e : n = 0 := by omega
      subst e
      exact ⟨by decide, ⟨.str _, H, I.tok _, ⟨_, rfl⟩, q⟩⟩
    · rw [if_neg hn]
      by_cases hc : (n == 1 || z.length == 0) = true
      · rw [if_pos hc]
        have e : repS z n.toNat = z := by
          rcases Bool.or_eq_true _ _ ▸ hc with e | e
          · have e : n = 1 := by simpa using e
            subst e
            exact repS_one z
          · exact repS_of_empty (by simpa using e) _
        rw [e] at q
        exact ⟨.str z, H, I, ⟨t, rfl⟩, q⟩
      · rw [if_neg hc]
        refine ⟨?_, ⟨.str _, H, I.tok _, ⟨_, rfl⟩, q⟩⟩
        have : ∀ (k : Nat) (a : Array Nat), ((List.replicate k z.cps).foldl (· ++ ·) a).size = a.size + k * z.cps.size := by
          intro k
          induction k with
          | zero => intro a; simp
          | succ k ih => intro a; rw [List.replicate_succ, List.foldl_cons, ih, Array.size_append, Nat.succ_mul]; omega
        show ((List.replicate n.toNat z.cps).foldl (· ++ ·) #[]).size ≤ sizeLine
        rw [this]
        have e5 : z.cps.size = z.length := rfl
        rw [e5]
        simp only [List.size_toArray, List.length_nil, Nat.zero_add]
        rw [Nat.mul_comm]
        exact hz

/-! ### all, isinstance -/
theorem call_all (hc : X.calm = true) : CallR X (.builtin "all") (fun xs H Q => ∃ (l : Addr) (bs : List Bool), xs = [.ref l] ∧ H l = some (.lst (bs.map V.bl)) ∧ Q (.bl (bs.all id)) H) := by
  intro pins s σ H xs us Q I r h
  obtain ⟨l, bs, rfl, hl, q⟩ := h
  obtain ⟨u, rfl, ru⟩ := vals1 r
  cases ru
  obtain ⟨its, n, rv, e, _⟩ := I.lst hl
  have hlist : s.heap.IsList l its.toArray := ⟨_, e, rfl, n, rfl⟩
  refine call_all_walk (wpAny_pyIter_list hlist ?_)
  have hne : l ≠ s.heap.objs.size := Nat.ne_of_lt (Heap.lt_size e)
  have hlen : its.length = bs.length := by rw [← rv.length]; simp
  refine ⟨s.heap.objs.size, _, _, _, _, _, fun i => bs[i]?.getD true, rfl, Walks.list (by exact I.ok.hd hc) s.heap.objs.size l hne its.toArray, ⟨⟨_, Heap.get?_push_size _ rfl, rfl, rfl⟩, ⟨_, Heap.get?_push_of_some _ e, rfl, n, rfl⟩⟩, ?_, ?_⟩
  · intro i v s' Q' E' hv hq
    have hv : its[i]? = some v := by simpa using hv
    have hi : i < bs.length := by rw [← hlen]; exact (List.getElem?_eq_some_iff.mp hv).1
    obtain ⟨u, hu, ru⟩ := rv.get (i := i) (x := V.bl bs[i]) (by simp [hi])
    rw [hv] at hu
    have e1 : v = u := Option.some.inj hu
    subst e1
    cases (show v = Value.bool bs[i] from ru)
    refine wpAny_truthy_bool ?_
    have e2 : bs[i]?.getD true = bs[i] := by simp [hi]
    have hq : Q' (bs[i]?.getD true) s' := hq
    rw [e2] at hq
    exact hq
  · intro h' tk hk
    refine ⟨.bl (bs.all id), H, I.kept fun b o e' => hk b o (by simp; exact Nat.ne_of_lt (Heap.lt_size e')) (Heap.get?_push_of_some _ e'), ?_, q⟩
    show Value.bool _ = Value.bool _
    congr 1
    rw [List.size_toArray, hlen]
    rw [Bool.eq_iff_iff, List.all_eq_true, List.all_eq_true]
    constructor
    · intro h b hb
      obtain ⟨i, hi, e⟩ := List.mem_iff_getElem.mp hb
      have := h i (List.mem_range.mpr hi)
      rw [List.getElem?_eq_getElem hi] at this
      rw [← e]; exact this
    · intro h i hi
      have hi := List.mem_range.mp hi
      rw [List.getElem?_eq_getElem hi]
      exact h _ (List.getElem_mem hi)
def rIsi (K : PySem.W.Frag) : List V → Hp → VK → Prop := fun xs H Q => ∃ x c u t b, xs = [x, c] ∧ (c = .ty u ∨ False) ∧ TyOf K H x t ∧ PySem.W.kitOne K t (.type u) = some b ∧ Q (.bl b) H
theorem call_isi : CallR X (.builtin "isinstance") (rIsi X.K) := by
  intro pins s σ H xs us Q I r h
  obtain ⟨x, c, u, t, b, rfl, hc, ty, e, q⟩ := h
  rcases hc with rfl | hc
  · obtain ⟨v1, v2, rfl, r1, r2⟩ := r.two
    cases (show v2 = Value.type u from r2)
    exact isinst_ok I r1 ty e fun tk => ⟨.bl b, H, I.tok tk, rfl, q⟩
  · exact hc.elim

/-! ### two lists -/
def rEqL (K : PySem.W.Frag) (neg : Bool) : R2 := fun x y H Q => ∃ p q xs ys, x = .ref p ∧ y = .ref q ∧ SqL K H p xs ∧ SqL K H q ys ∧ xs.all flatV = true ∧ ys.all flatV = true ∧
  Q (.bl (let r := decide (xs.length = ys.length) && (xs.zip ys).all (fun z => eqV z.1 z.2); if neg then !r else r)) H
theorem op_eqL (hu : X.A.units < cLine) : OpR X (compareOp .Eq) (rEqL X.K false) := by
  intro pins s σ H x y v u Q I rx ry h
  obtain ⟨p, q, xs, ys, rfl, rfl, hp, hq, fx, fy, k⟩ := h
  cases rx
  cases ry
  obtain ⟨its, r1, p1, _⟩ := I.list hp
  obtain ⟨its2, r2, p2, _⟩ := I.list hq
  have l1 := r1.length
  have l2 := r2.length
  by_cases hl : xs.length = ys.length
  · refine SeqAt.eq_listAt (e := fun j => ((xs[j]?.bind fun a => ys[j]?.map fun b => eqV a b)).getD false) p1.isList p2.isList (by simp; omega) hu (fun j h1 h2 => ?_) ?_
    · have h1 : j < its.length := by simpa using h1
      have h2 : j < its2.length := by simpa using h2
      have g1 : xs[j]? = some xs[j] := List.getElem?_eq_getElem (by omega)
      have g2 : ys[j]? = some ys[j] := List.getElem?_eq_getElem (by omega)
      obtain ⟨u1, e1, ru1⟩ := r1.get g1
      obtain ⟨u2, e2, ru2⟩ := r2.get g2
      have f1 : flatV xs[j] = true := List.all_eq_true.mp fx _ (List.getElem_mem _)
      have f2 : flatV ys[j] = true := List.all_eq_true.mp fy _ (List.getElem_mem _)
      have z1 : its.toArray[j] = u1 := by
        rw [List.getElem?_eq_getElem h1] at e1
        simpa using Option.some.inj e1
      have z2 : its2.toArray[j] = u2 := by
        rw [List.getElem?_eq_getElem h2] at e2
        simpa using Option.some.inj e2
      rw [z1, z2, g1, g2]
      exact eqAt_V ru1 ru2 f1 f2
    · refine ⟨.bl _, H, I, rfl, ?_⟩
      have e : (List.range its.toArray.size).all (fun j => ((xs[j]?.bind fun a => ys[j]?.map fun b => eqV a b)).getD false) = (decide (xs.length = ys.length) && (xs.zip ys).all (fun z => eqV z.1 z.2)) := by
        rw [decide_eq_true hl, Bool.true_and, List.size_toArray, ← l1, Bool.eq_iff_iff, List.all_eq_true, List.all_eq_true]
        constructor
        · intro h z hz
          obtain ⟨i, hi, ez⟩ := List.mem_iff_getElem.mp hz
          rw [List.length_zip] at hi
          have := h i (List.mem_range.mpr (by omega))
          rw [List.getElem?_eq_getElem (by omega), List.getElem?_eq_getElem (by omega)] at this
          rw [← ez, List.getElem_zip]
          exact this
        · intro h i hi
          have hi := List.mem_range.mp hi
          rw [List.getElem?_eq_getElem (by omega), List.getElem?_eq_getElem (by omega)]
          refine h (xs[i], ys[i]) (List.mem_iff_getElem.mpr ⟨i, by rw [List.length_zip]; omega, by rw [List.getElem_zip]⟩)
      rw [e]
      exact k
  · refine SeqAt.eq_list_lengthsAt p1.isList p2.isList (by simp; omega) hu ⟨.bl false, H, I, rfl, ?_⟩
    have e : (decide (xs.length = ys.length) && (xs.zip ys).all (fun z => eqV z.1 z.2)) = false := by rw [decide_eq_false hl]; rfl
    have k' : Q (.bl (decide (xs.length = ys.length) && (xs.zip ys).all (fun z => eqV z.1 z.2))) H := k
    rw [e] at k'
    exact k'
end
end L2

set_option Elab.async false
set_option linter.all false
set_option maxRecDepth 100000
set_option maxHeartbeats 4000000
namespace L2
open PySem PySem.Spec PyProof.Rows

/-! ### several records turn at once -/
theorem Inv.turnedL {X : Cx} {pins : List (Addr × Obj)} {σ : St} {H : Hp} {s : Shared} {h' : Heap} {t' : Nat} {fp : List Addr} (I : Inv X pins σ H s) (k : ∀ b o, b ∉ fp → s.heap.get? b = some o → h'.get? b = some o)
    (hf : ∀ b ∈ fp, FpOk X pins H b) : Inv X pins σ H { s with heap := h', toks := t' } := by
  refine I.step (g' := s.gens) (d' := s.drawn) (ch := fp) (fun b hb => ?_) (fun b o _ _ hc e _ => k b o hc e) (fun b o _ _ hc e _ => ⟨o.slots, k b o hc e⟩) (fun _ _ _ _ n => n)
    (fun b o hc e => ⟨o, k b o hc e⟩) (fun _ _ e => e) (fun _ _ _ e => e) (fun b ps e => ⟨#[], by rw [e]; simp⟩) (fun m hm => ?_) (fun b u e => ?_) I.bare
  · obtain ⟨f0, f1, f2, f3, f4, f5⟩ := hf b hb
    exact ⟨f3, f1, f4, f5⟩
  · obtain ⟨o, es, ep, ho, r⟩ := hm
    exact ⟨o, es, ep, k _ o (fun z => (hf _ z).2.1 rfl) ho, r⟩
  · refine (I.hok b u e).stay (fun c v hc q => k c v (fun z => ?_) q) (fun _ q => q) fun _ _ q => q
    have f0 := (hf c z).1
    rcases hc with z' | z'
    · rw [z', e] at f0; cases f0
    · rw [z'] at f0; cases f0

/-! ### sources: a list or a tuple (κ = true) -/
def SqK (K : PySem.W.Frag) (κ : Bool) (H : Hp) (a : Addr) (xs : List V) : Prop := match κ with | true => SqT K H a xs | false => SqL K H a xs
def SrcIt (κ : Bool) (h : Heap) (it a : Addr) (i : Nat) : Prop := match κ with | true => h.IsTupleIter it a i | false => h.IsListIter it a i
def SrcOf (κ : Bool) (h : Heap) (a : Addr) (its : Array Value) : Prop := match κ with | true => h.IsTuple a its | false => h.IsList a its
theorem SrcIt.obj {κ : Bool} {h : Heap} {it a : Addr} {i : Nat} (st : SrcIt κ h it a i) : ∃ o, h.get? it = some o ∧ ∀ v, o.data ≠ .cell v := by
  cases κ with
  | true => obtain ⟨o, e, c, d⟩ := st; exact ⟨o, e, fun v z => by rw [d] at z; cases z⟩
  | false => obtain ⟨o, e, c, d⟩ := st; exact ⟨o, e, fun v z => by rw [d] at z; cases z⟩
theorem SrcIt.at_ {κ : Bool} {h h' : Heap} {it a : Addr} {i : Nat} (st : SrcIt κ h it a i) (k : ∀ o, h.get? it = some o → h'.get? it = some o) : SrcIt κ h' it a i := by
  cases κ with
  | true => obtain ⟨o, e, r⟩ := st; exact ⟨o, k o e, r⟩
  | false => obtain ⟨o, e, r⟩ := st; exact ⟨o, k o e, r⟩
theorem SrcOf.at_ {κ : Bool} {h h' : Heap} {a : Addr} {its : Array Value} (st : SrcOf κ h a its) (k : ∀ o, h.get? a = some o → h'.get? a = some o) : SrcOf κ h' a its := by
  cases κ with
  | true => obtain ⟨o, e, r⟩ := st; exact ⟨o, k o e, r⟩
  | false => obtain ⟨o, e, r⟩ := st; exact ⟨o, k o e, r⟩
theorem SrcIt.ne {κ : Bool} {h : Heap} {it a : Addr} {i : Nat} {its : Array Value} (st : SrcIt κ h it a i) (so : SrcOf κ h a its) : a ≠ it := by
  intro z
  subst z
  cases κ with
  | true =>
    obtain ⟨o, e, c, d⟩ := st
    obtain ⟨o', e', c', _⟩ := so
    rw [e] at e'; cases e'
    rw [c] at c'
    exact absurd c' (by decide)
  | false =>
    obtain ⟨o, e, c, d⟩ := st
    obtain ⟨o', e', c', _⟩ := so
    rw [e] at e'; cases e'
    rw [c] at c'
    exact absurd c' (by decide)
section
variable {prog : Program} {w : World} {A : Around} {E : Value → Shared → Prop} {s : Shared}
theorem nextT_item {j tp : Addr} {n : Nat} {vs : Array Value} {v : Value} {Q : Value → Shared → Prop} (hj : s.heap.IsTupleIter j tp n) (hp : s.heap.IsTuple tp vs) (hv : vs[n]? = some v)
    (k : ∀ h', h'.IsTupleIter j tp (n + 1) → Heap.SameBut j s.heap h' → Q v { s with heap := h' }) : wpAny (model prog w) A (Builtin.SmallTypes.nextOf (.ref j)) Q E s := by
  obtain ⟨oj, ej, cj, dj⟩ := id hj
  obtain ⟨op, ep, _, m, dp⟩ := hp
  have hn : ¬ ((Value.ref tp == Value.none) = true) := Bool.false_ne_true
  unfold Builtin.SmallTypes.nextOf
  refine wpAny_bind (wpAny_callSpecial?_slot (name := Str.ofString "__next__") hj.typeIs F.slot_tuple_iterator_next (wpAny_call_entry F.slot_tuple_iterator_next hj.typeIs F.entry_tuple_iterator_next ?_ (F.args_tuple_iterator_next_1 _)))
  show wpAny _ _ (field (.ref j) 0 >>= _) _ _ s
  refine wpAny_bind (wpAny_field ej dj (x := .ref tp) rfl ?_)
  show wpAny _ _ (if (Value.ref tp == Value.none) = true then _ else _) _ _ s
  rw [if_neg hn]
  show wpAny _ _ (field (.ref j) 1 >>= _) _ _ s
  refine wpAny_bind (wpAny_field ej dj (x := .int n 0) rfl ?_)
  show wpAny _ _ (seqItems? (.ref tp) >>= _) _ _ s
  refine wpAny_bind (wpAny_seqItems ep dp ?_)
  simp only [Int.toNat_natCast, hv]
  refine wpAny_bind (wpAny_setField ej dj (by simp) (wpAny_pure ⟨v, rfl, wpAny_pure (k _ ⟨_, Heap.get?_update_self _ ej (Obj.isFreed_of_fields (Obj.data_mapFields dj _)), (Obj.cls_mapFields ..).trans cj, ?_⟩ (Heap.SameBut.update ..))⟩))
  rw [Obj.data_mapFields dj]
  simp [rawInt]
theorem nextT_end {j tp : Addr} {n : Nat} {vs : Array Value} {Q : Value → Shared → Prop} (hh : A.handled = none) (hj : s.heap.IsTupleIter j tp n) (hp : s.heap.IsTuple tp vs) (hv : vs[n]? = none)
    (k : ∀ h' x, Heap.ExtBut j s.heap h' → (∃ o, h'.get? x = some o ∧ o.cls = .type "StopIteration") → E (.ref x) { s with heap := h' }) : wpAny (model prog w) A (Builtin.SmallTypes.nextOf (.ref j)) Q E s := by
  obtain ⟨oj, ej, cj, dj⟩ := id hj
  obtain ⟨op, ep, _, m, dp⟩ := hp
  have hn : ¬ ((Value.ref tp == Value.none) = true) := Bool.false_ne_true
  unfold Builtin.SmallTypes.nextOf
  refine wpAny_bind (wpAny_callSpecial?_slot (name := Str.ofString "__next__") hj.typeIs F.slot_tuple_iterator_next (wpAny_call_entry F.slot_tuple_iterator_next hj.typeIs F.entry_tuple_iterator_next ?_ (F.args_tuple_iterator_next_1 _)))
  show wpAny _ _ (field (.ref j) 0 >>= _) _ _ s
  refine wpAny_bind (wpAny_field ej dj (x := .ref tp) rfl ?_)
  show wpAny _ _ (if (Value.ref tp == Value.none) = true then _ else _) _ _ s
  rw [if_neg hn]
  show wpAny _ _ (field (.ref j) 1 >>= _) _ _ s
  refine wpAny_bind (wpAny_field ej dj (x := .int n 0) rfl ?_)
  show wpAny _ _ (seqItems? (.ref tp) >>= _) _ _ s
  refine wpAny_bind (wpAny_seqItems ep dp ?_)
  simp only [Int.toNat_natCast, hv]
  refine wpAny_bind (wpAny_rule (wpAny_bind (wpAny_setField ej dj (by simp) ?_)))
  show wpAny _ _ (newExc (.type "StopIteration") [] >>= _) _ _ _
  refine wpAny_bind ?_
  simp only [newExc, newTuple]
  refine wpAny_bind (wpAny_newObj_type ?_ (by size_fits))
  refine wpAny_bind (m := firstArgMember _ _) (wpAny_of_eq (a := Value.none) (by first | rfl | (simp only [firstArgMember]; rfl)) (wpAny_newObj_type ?_ (by size_fits)))
  simp only [raiseNew]
  refine wpAny_bind (wpAny_handled ?_)
  first | rw [show A.in1.handled = none from hh] | rw [hh]
  exact wpAny_bind (wpAny_pure (wpAny_throw (k _ _ (((Heap.SameBut.update ..).extBut.push _).push _) ⟨_, Heap.get?_push_size _ rfl, rfl⟩)))
end
theorem draws_src {P : Program} {w : World} {A : Around} (hh : A.handled = none) (κ : Bool) (it a : Addr) (hne : a ≠ it) (its : Array Value) :
    Draws P w A it [it, a] its.size (fun i v => its[i]? = some v) (fun i h => SrcIt κ h it a i ∧ SrcOf κ h a its) := by
  cases κ with
  | false => exact Draws.list hh it a hne its
  | true =>
    exact { live := fun i h st => let ⟨o, e, _⟩ := st.1; ⟨o, e⟩
            frame := fun i h h' st k => ⟨st.1.at_ fun o e => k it (by simp) o e, st.2.at_ fun o e => k a (by simp) o e⟩
            item := fun i s Q E hi st k => nextT_item st.1 st.2 (v := its[i]) (by simp [hi]) fun h' st' sb => k _ h' s.toks (by simp [hi]) ⟨st', Heap.IsTuple.extBut st.2 sb.extBut hne⟩ sb
            done := fun s Q E st k => nextT_end hh st.1 st.2 (by simp) k }
theorem draws_shift {P : Program} {w : World} {A : Around} {it : Addr} {fp : List Addr} {n : Nat} {Y : Nat → Value → Prop} {St : Nat → Heap → Prop} (D : Draws P w A it fp n Y St) (k : Nat) :
    Draws P w A it fp (n + k) (fun i v => Y (i - k) v) (fun i h => k ≤ i ∧ St (i - k) h) where
  live := fun i h st => D.live _ _ st.2
  frame := fun i h h' st q => ⟨st.1, D.frame _ _ _ st.2 q⟩
  item := fun i s Q E hi st q => D.item (i - k) s Q E (by have := st.1; omega) st.2 fun x h' tk p st' sb => q x h' tk p ⟨Nat.le_succ_of_le st.1, by rw [Nat.succ_sub st.1]; exact st'⟩ sb
  done := fun s Q E st q => D.done s Q E (by have := st.2; rwa [Nat.add_sub_cancel] at this) q
/-- what a source holds -/
theorem Inv.src {X : Cx} {pins : List (Addr × Obj)} {σ : St} {H : Hp} {s : Shared} {κ : Bool} {a : Addr} {xs : List V} (I : Inv X pins σ H s) (h : SqK X.K κ H a xs) : ∃ its : List Value, Vals xs its ∧ SrcOf κ s.heap a its.toArray ∧ xs.length ≤ sizeLine := by
  cases κ with
  | true =>
    obtain ⟨its, r, p, z⟩ := I.tuple h
    exact ⟨its, r, p, z⟩
  | false =>
    obtain ⟨its, r, p, z⟩ := I.list h
    exact ⟨its, r, p.isList, z⟩
theorem Inv.src_inj {X : Cx} {pins : List (Addr × Obj)} {σ : St} {H : Hp} {s : Shared} {κ : Bool} {a : Addr} {xs ys : List V} (I : Inv X pins σ H s) (h : SqK X.K κ H a xs) (h' : SqK X.K κ H a ys) : xs = ys := by
  cases κ with
  | true => exact I.tuple_inj h h'
  | false => exact I.list_inj h h'

/-! ### enumerate -/
/-- pairs of a number (from st) and an item, each a new tuple -/
def Ite (K : PySem.W.Frag) (κ : Bool) (a : Addr) (st : Nat) : It :=
  ⟨fun i H => ∃ xs x, SqK K κ H a xs ∧ xs[i]? = some x, fun i H y H' => ∃ T x, H T = none ∧ y = .ref T ∧ H' = upd H T (.tup [.int ((st + i : Nat) : Int), x]) ∧ ∀ xs, SqK K κ H a xs → xs[i]? = some x, fun i H => ∃ xs, SqK K κ H a xs ∧ xs.length = i⟩
/-- a new pair is laid, the records at fp turn -/
theorem Inv.paired {X : Cx} {pins : List (Addr × Obj)} {σ : St} {H : Hp} {s : Shared} {h' : Heap} {t' : Nat} {fp : List Addr} {x y : V} {u v : Value} (I : Inv X pins σ H s) (hf : ∀ b ∈ fp, FpOk X pins H b) (rx : RelV x u) (ry : RelV y v)
    (lt : ∀ b ∈ fp, b < s.heap.objs.size) (hT : h'.get? s.heap.objs.size = some { cls := .type "tuple", data := .seq #[u, v] }) (k : ∀ b o, b ∉ fp → s.heap.get? b = some o → h'.get? b = some o) :
    Inv X pins σ (upd H s.heap.objs.size (.tup [x, y])) { s with heap := h', toks := t' } ∧ ∀ b ∈ fp, upd H s.heap.objs.size (.tup [x, y]) b = none := by
  have ne : ∀ b ∈ fp, b ≠ s.heap.objs.size := fun b hb => Nat.ne_of_lt (lt b hb)
  have fr : ∀ b ∈ fp, upd H s.heap.objs.size (.tup [x, y]) b = none := fun b hb => by rw [upd_ne (ne b hb)]; exact (hf b hb).1
  have I1 := I.laid (h' := s.heap.push { cls := .type "tuple", data := .seq #[u, v] }) (t' := t') (a := s.heap.objs.size) (o := .tup [x, y]) (fun b o e => Heap.get?_push_of_some _ e) (Nat.le_refl _)
    (show ObjOk X.prog X.w _ _ _ (.tup [x, y]) from ⟨(by show 2 ≤ sizeLine; decide), [u, v], .cons rx (.cons ry .nil), IsTup.new _ _⟩)
  refine ⟨Inv.turnedL (s := { s with heap := s.heap.push { cls := .type "tuple", data := .seq #[u, v] }, toks := t' }) (t' := t') (fp := fp) I1 (fun b o hb e => ?_) fun b hb => ⟨fr b hb, (hf b hb).2⟩, fr⟩
  have e : (s.heap.push { cls := .type "tuple", data := .seq #[u, v] }).get? b = some o := e
  by_cases z : b = s.heap.objs.size
  · subst z
    rw [Heap.get?_push_size _ rfl] at e
    cases e
    exact hT
  · rw [Heap.get?_push_ne _ _ _ z] at e
    exact k b o hb e
theorem turn_enum {P : Program} {w : World} {K : PySem.W.Frag} {elts : List Expr} {x1} {pos : Pos} (κ : Bool) (a e it : Addr) (st : Nat) (hne : e ≠ it) :
    Turn P w K (.Tuple elts x1 pos) (Ite K κ a st) [e, it] e (fun i h => (∃ old, IsEnum h e it ((st + i : Nat) : Int) old) ∧ SrcIt κ h it a i) where
  mem := by simp
  obj := fun i h t b hb => by
    obtain ⟨⟨old, he⟩, hi⟩ := t
    rcases List.mem_cons.mp hb with rfl | hb
    · exact ⟨_, he, fun v z => by cases z⟩
    · rw [List.mem_singleton.mp hb]
      exact hi.obj
  keep := fun i h h' t k => by
    obtain ⟨⟨old, he⟩, hi⟩ := t
    exact ⟨⟨old, k e (by simp) _ he⟩, hi.at_ fun o q => k it (by simp) o q⟩
  item := by
    intro X hP hw hK hc i pins s σ H E I hf t hg
    subst hP hw hK
    obtain ⟨⟨old, he⟩, hi⟩ := t
    obtain ⟨xs, x, hq, hx⟩ := hg
    obtain ⟨its, rv, so, hz⟩ := I.src hq
    obtain ⟨u, hu, ru⟩ := rv.get hx
    have hai := hi.ne so
    have hae : e ≠ a := fun z => by
      subst z
      cases κ with
      | true => obtain ⟨o', e', c', _⟩ := so; rw [he] at e'; cases e'; exact absurd (show Value.type "enumerate" = Value.type _ from c') (by decide)
      | false => obtain ⟨o', e', c', _⟩ := so; rw [he] at e'; cases e'; exact absurd (show Value.type "enumerate" = Value.type _ from c') (by decide)
    have hlt : i < its.toArray.size := by
      have := (List.getElem?_eq_some_iff.mp hu).1
      simpa using this
    have D := draws_shift (draws_src (P := X.prog) (w := X.w) (A := X.A.in1) (show X.A.in1.handled = none from I.ok.hd hc) κ it a hai its.toArray) st
    have hst : st ≤ st + i ∧ (SrcIt κ s.heap it a (st + i - st) ∧ SrcOf κ s.heap a its.toArray) := ⟨Nat.le_add_right _ _, by rw [Nat.add_sub_cancel_left]; exact hi, so⟩
    refine wpAny_pyNext_enum_itemD (i := st + i) D he hst (by omega) hne (by simp; exact ⟨hne, hae⟩) fun v h' tk hv out st' hT hsz kk => ⟨_, rfl, ?_⟩
    have ev : v = u := by
      have hv' : its.toArray[st + i - st]? = some v := hv
      rw [Nat.add_sub_cancel_left] at hv'
      have hu' : its.toArray[i]? = some u := by simpa using hu
      rw [hu'] at hv'
      exact (Option.some.inj hv').symm
    subst ev
    refine wpAny_letOwnedTupleGo_enum (s := { s with heap := h', toks := tk + 1 }) out fun h2 he2 sb2 => ?_
    have sb2 : Heap.SameBut e h' h2 := sb2
    have elt : e < s.heap.objs.size := Heap.lt_size he
    have ilt : it < s.heap.objs.size := by obtain ⟨o, q, _⟩ := hi.obj; exact Heap.lt_size q
    obtain ⟨I2, fr⟩ := I.paired (h' := h2) (t' := tk + 1) (fp := [e, it]) (x := .int ((st + i : Nat) : Int)) (y := x) (u := .int ((st + i : Nat) : Int) tk) (v := v) hf ⟨_, rfl⟩ ru
      (fun b hb => by
        rcases List.mem_cons.mp hb with rfl | hb
        · exact elt
        · rw [List.mem_singleton.mp hb]; exact ilt)
      ((sb2.2 _ (Nat.ne_of_gt elt)).trans hT) (fun b o hb q => (sb2.2 b fun z => hb (by simp [z])).trans (kk b o (fun z => hb (by simp [z])) (fun z => hb (by simp [z])) q))
    refine ⟨.ref s.heap.objs.size, _, I2, rfl, ⟨s.heap.objs.size, x, I.hok.fresh (Nat.le_refl _), rfl, rfl, fun ys hy => by rw [I.src_inj hy hq]; exact hx⟩, ⟨⟨v, ?_⟩, ?_⟩, fr⟩
    · have e1 : ((st + (i + 1) : Nat) : Int) = ((st + i : Nat) : Int) + 1 := by omega
      rw [e1]
      exact he2
    · have q := st'.2.1
      have e2 : st + i + 1 - st = i + 1 := by omega
      rw [e2] at q
      exact q.at_ fun o z => (sb2.2 it hne.symm).trans z
  done := by
    intro X hP hw hK hc i pins s σ H E I hf t hg
    subst hP hw hK
    obtain ⟨⟨old, he⟩, hi⟩ := t
    obtain ⟨xs, hq, hx⟩ := hg
    obtain ⟨its, rv, so, hz⟩ := I.src hq
    have hai := hi.ne so
    have D := draws_src (P := X.prog) (w := X.w) (A := X.A.in1) (show X.A.in1.handled = none from I.ok.hd hc) κ it a hai its.toArray
    have hn : its.toArray.size = i := by
      have := rv.length
      simp
      omega
    exact wpAny_pyNext_enum_endD D he (by rw [hn]; exact ⟨hi, so⟩) fun h' eb => ⟨rfl, I.turnedL (fp := [e, it]) (t' := s.toks) (fun b o hb q => eb b o (fun z => hb (by simp [z])) q) hf⟩
  self := fun _ _ _ _ _ t h => let ⟨⟨_, he⟩, _⟩ := t; wpAny_pyIter_enum he h
end L2

set_option Elab.async false
set_option linter.all false
set_option maxRecDepth 100000
set_option maxHeartbeats 4000000
namespace L2
open PySem PySem.Spec PyProof.Rows
section
variable {X : Cx}
/-! ### f-strings -/
/-! ### list.insert -/
/-! ### enumerate -/
theorem boot_enumerate : bootBuiltins "enumerate" = some (.type "enumerate") := by decide +kernel
def iEn (K : PySem.W.Frag) (st : Nat) (ta : TA) : TI := fun σ H R => ta σ H fun vs H1 => ∃ a xs, vs = [.ref a] ∧ SqL K H1 a xs ∧ R (Ite K false a st) H1
theorem enum_it {pins : List (Addr × Obj)} {s : Shared} {σ : St} {H : Hp} {R : It → Hp → Prop} {elts : List Expr} {x1} {tp : Pos} {a : Addr} {st : Nat} {h' : Heap} (I : Inv X pins σ H s) (he : IsEnum h' (s.heap.objs.size + 1) s.heap.objs.size ((st : Nat) : Int) .none)
    (hi : h'.IsListIter s.heap.objs.size a 0) (k : ∀ b o, s.heap.get? b = some o → h'.get? b = some o) (q : R (Ite X.K false a st) H) :
    wpAny (model X.prog X.w) X.A (pyIter (.ref (s.heap.objs.size + 1))) (PIE X pins σ (.Tuple elts x1 tp) R) X.xe { s with heap := h' } := by
  refine wpAny_pyIter_enum he ?_
  refine ⟨s.heap.objs.size + 1, [s.heap.objs.size + 1, s.heap.objs.size], _, Ite X.K false a st, H, rfl, I.kept (t' := s.toks) k, turn_enum false a _ _ st (Nat.succ_ne_self _), ⟨⟨.none, he⟩, hi⟩, fun b hb => ?_, q⟩
  rcases List.mem_cons.mp hb with rfl | hb
  · exact I.fpOk (Nat.le_succ _) (I.hok.fresh (Nat.le_succ _))
  · rw [List.mem_singleton.mp hb]
    exact I.fpOk (Nat.le_refl _) (I.hok.fresh (Nat.le_refl _))
theorem pi_enum {a : Expr} {ta : TA} {p pos tp : Pos} {elts : List Expr} {x1} (hg : Gl X "enumerate") (hm : X.mg "enumerate" = none) (ha : PA X [a] ta) (hs : starEach [a] X.env = [(false, eval a X.env)] := by rfl) :
    PI X (.Tuple elts x1 tp) (.Call (.Name "enumerate" p) [a] [] pos) (iEn X.K 0 ta) := by
  intro pins s σ H R I h
  refine Call_ (ld_blt I hg hm boot_enumerate (PyProof.Rows.callWith_type1 (thn (ha pos pins s σ H _ I h) fun us s1 ⟨vs, H1, I1, r1, l, xs, ev, hl, q⟩ => ?_) hs rfl))
  subst ev
  obtain ⟨u, rfl, ru⟩ := r1.one
  cases (show u = Value.ref l from ru)
  obtain ⟨its, r, pl, hz⟩ := I1.list hl
  exact call_enumerate_list pl.isList fun h' he hi _ k => enum_it I1 he hi k q
theorem for_enum {K : PySem.W.Frag} {κ : Bool} {a : Addr} {xs : List V} {st : Nat} {g : TG} {tb : TS} {D : Ends} {σ : St} {H : Hp} (Pv : Nat → St → Hp → Prop) (h0 : Pv 0 σ H) (hl : ∀ i σ H, i ≤ xs.length → Pv i σ H → SqK K κ H a xs)
    (hs : ∀ i x σ H T, xs[i]? = some x → Pv i σ H → H T = none → g (.ref T) σ (upd H T (.tup [.int ((st + i : Nat) : Int), x])) fun σ2 H2 => tb { D with nx := Pv (i + 1), ct := Pv (i + 1), bk := D.nx } σ2 H2) (hd : ∀ σ H, Pv xs.length σ H → D.nx σ H) :
    ∃ W : Nat → Nat → St → Hp → Prop, (∃ m, W 0 m σ H) ∧ ∀ i m σ H, W i m σ H →
      ((Ite K κ a st).stop i H ∧ D.nx σ H) ∨ ((Ite K κ a st).go i H ∧ ∃ N : St → Hp → Prop, (∀ σ' H', N σ' H' → ∃ m', m' < m ∧ W (i + 1) m' σ' H') ∧ ∀ x H', (Ite K κ a st).yld i H x H' → g x σ H' fun σ2 H2 => tb { D with nx := N, ct := N, bk := D.nx } σ2 H2) := by
  refine ⟨fun i m σ H => m = xs.length - i ∧ i ≤ xs.length ∧ Pv i σ H, ⟨xs.length, by simp, Nat.zero_le _, h0⟩, ?_⟩
  rintro i m σ H ⟨rfl, hi, p⟩
  have q := hl i σ H hi p
  by_cases hlt : i < xs.length
  · refine .inr ⟨⟨xs, xs[i], q, by simp [hlt]⟩, Pv (i + 1), fun σ' H' p' => ⟨xs.length - (i + 1), by omega, rfl, hlt, p'⟩, fun x H' y => ?_⟩
    obtain ⟨T, y, hT, rfl, rfl, hy⟩ := y
    exact hs i y σ _ T (hy xs q) p hT
  · have e : i = xs.length := by omega
    subst e
    exact .inl ⟨⟨xs, q, rfl⟩, hd σ H p⟩
end
end L2

set_option Elab.async false
set_option linter.all false
set_option maxRecDepth 100000
set_option maxHeartbeats 4000000
namespace L2
open PySem PySem.Spec PyProof.Rows
/-! ### zip of two sources -/
structure Apart (Z TI TO i1 i2 : Addr) (fp1 fp2 : List Addr) : Prop where
  a1 : TI ≠ Z
  a2 : TO ≠ Z
  a3 : TI ≠ TO
  a4 : TI ≠ i1
  a5 : TI ≠ i2
  a6 : TO ≠ i1
  a7 : TO ≠ i2
  a8 : i1 ≠ i2
  a9 : i1 ≠ Z
  a10 : i2 ≠ Z
  b1 : Z ∉ fp1
  b2 : TO ∉ fp1
  b3 : i2 ∉ fp1
  c1 : Z ∉ fp2
  c2 : TO ∉ fp2
  c3 : i1 ∉ fp2
section
variable {prog : Program} {w : World} {A : Around} {E : Value → Shared → Prop} {s : Shared} {Z TI TO i1 i2 : Addr} {fp1 fp2 : List Addr} {n1 n2 k : Nat} {Y1 Y2 : Nat → Value → Prop} {S1 S2 : Nat → Heap → Prop} {p q : Value}
theorem zipD_item {Q : Value → Shared → Prop} (D1 : Draws prog w A i1 fp1 n1 Y1 S1) (D2 : Draws prog w A i2 fp2 n2 Y2 S2) (N : Apart Z TI TO i1 i2 fp1 fp2) (zZ : IsZip s.heap Z TI TO .none) (zI : IsPair s.heap TI (.ref i1) (.ref i2)) (zO : IsPair s.heap TO p q)
    (s1 : S1 k s.heap) (s2 : S2 k s.heap) (l1 : k < n1) (l2 : k < n2)
    (kk : ∀ x y h' tk, Y1 k x → Y2 k y → IsZip h' Z TI TO (rawInt s.heap.objs.size) → IsPair h' TO x y → S1 (k + 1) h' → S2 (k + 1) h' → IsPair h' s.heap.objs.size x y → (∀ c o, c ≠ Z → c ≠ TO → c ≠ i1 → c ≠ i2 → s.heap.get? c = some o → h'.get? c = some o) → Q (.ref s.heap.objs.size) { s with heap := h', toks := tk }) :
    wpAny (model prog w) A (Builtin.«zip.__next__» ⟨[.ref Z], []⟩) (fun fin s' => ∃ v, fin = .done (.ret v) ∧ Q v s') E s := by
  obtain ⟨hp, g, d, tk0, os⟩ := s
  show wpAny _ _ (field (.ref Z) 2 >>= _) _ _ _
  refine wpAny_bind (wpAny_field zZ rfl (x := .bool false) rfl ?_)
  show wpAny _ _ (field (.ref Z) 3 >>= _) _ _ _
  refine wpAny_bind (wpAny_field zZ rfl (x := .ref TI) rfl (wpAny_bind (wpAny_seqItems zI rfl ?_)))
  show wpAny _ _ (Builtin.SmallTypes.ownedTupleIsFree (.ref Z) >>= _) _ _ _
  refine wpAny_bind ?_
  unfold Builtin.SmallTypes.ownedTupleIsFree
  refine wpAny_bind (wpAny_field zZ rfl (x := .none) rfl (wpAny_pure ?_))
  simp only [if_true]
  refine wpAny_bind (wpAny_rule (wpAny_bind (wpAny_field zZ rfl (x := .ref TO) rfl ?_)))
  refine wpAny_bind (wpAny_setField_rec zZ (by simp) fun g1 zZ1 b1 => ?_)
  replace zZ1 : IsZip g1 Z TI TO .ellipsis := zZ1
  replace b1 : Heap.SameBut Z hp g1 := b1
  refine wpAny_bind ?_
  simp only [List.zipIdx_cons, List.zipIdx_nil, List.forIn_cons, List.forIn_nil]
  -- the first
  refine wpAny_bind (wpAny_bind (wpAny_onRaise ?_))
  show wpAny _ _ (Builtin.SmallTypes.nextOf (.ref i1) >>= _) _ _ _
  refine wpAny_bind (D1.item k _ _ _ l1 (D1.frame _ _ _ s1 fun b hb o e => b1.extBut b o (fun z => N.b1 (z ▸ hb)) e) fun x g2 t2 y1 s12 b2 => wpAny_pure ?_)
  replace b2 : Heap.SameBut i1 g1 g2 := b2
  have zO2 : IsPair g2 TO p q := b2.extBut _ _ N.a6 (b1.extBut _ _ N.a2 zO)
  refine wpAny_bind (wpAny_seqItems zO2 rfl (wpAny_bind (wpAny_updateSeq_pair zO2 fun g3 zO3 b3 => ?_)))
  replace zO3 : IsPair g3 TO x q := zO3
  replace b3 : Heap.SameBut TO g2 g3 := b3
  refine wpAny_bind (wpAny_letGo (wpAny_pure ?_))
  -- the second
  refine wpAny_bind (wpAny_bind (wpAny_onRaise ?_))
  show wpAny _ _ (Builtin.SmallTypes.nextOf (.ref i2) >>= _) _ _ _
  refine wpAny_bind (D2.item k _ _ _ l2 (D2.frame _ _ _ s2 fun b hb o e => b3.extBut b o (fun z => N.c2 (z ▸ hb)) (b2.extBut b o (fun z => N.c3 (z ▸ hb)) (b1.extBut b o (fun z => N.c1 (z ▸ hb)) e))) fun y g4 t4 y2 s24 b4 => wpAny_pure ?_)
  replace b4 : Heap.SameBut i2 g3 g4 := b4
  have zO4 : IsPair g4 TO x q := b4.extBut _ _ N.a7 zO3
  refine wpAny_bind (wpAny_seqItems zO4 rfl (wpAny_bind (wpAny_updateSeq_pair zO4 fun g5 zO5 b5 => ?_)))
  replace zO5 : IsPair g5 TO x y := zO5
  replace b5 : Heap.SameBut TO g4 g5 := b5
  refine wpAny_bind (wpAny_letGo (wpAny_pure (wpAny_pure ?_)))
  -- the pair
  refine wpAny_bind (wpAny_seqItems zO5 rfl (wpAny_bind (wpAny_newTuple ?_)))
  have z5 : g5.objs.size = hp.objs.size := by rw [b5.1, b4.1, b3.1, b2.1, b1.1]
  have zZ5 : IsZip g5 Z TI TO .ellipsis := b5.extBut _ _ N.a2.symm (b4.extBut _ _ N.a10.symm (b3.extBut _ _ N.a2.symm (b2.extBut _ _ N.a9.symm zZ1)))
  have s15 : S1 (k + 1) g5 := D1.frame _ _ _ s12 fun b hb o e => b5.extBut b o (fun z => N.b2 (z ▸ hb)) (b4.extBut b o (fun z => N.b3 (z ▸ hb)) (b3.extBut b o (fun z => N.b2 (z ▸ hb)) e))
  have s25 : S2 (k + 1) g5 := D2.frame _ _ _ s24 fun b hb o e => b5.extBut b o (fun z => N.c2 (z ▸ hb)) e
  have keep5 : ∀ c o, c ≠ Z → c ≠ TO → c ≠ i1 → c ≠ i2 → hp.get? c = some o → g5.get? c = some o := fun c o n1 n2 n3 n4 e => b5.extBut _ _ n2 (b4.extBut _ _ n4 (b3.extBut _ _ n2 (b2.extBut _ _ n3 (b1.extBut _ _ n1 e))))
  have Zlt : Z < g5.objs.size := Heap.lt_size zZ5
  show wpAny _ _ (Builtin.SmallTypes.ownedTupleHandOut (.ref Z) (.ref g5.objs.size) >>= _) _ _ _
  refine wpAny_bind ?_
  unfold Builtin.SmallTypes.ownedTupleHandOut
  have zZ6 : IsZip (g5.push { cls := .type "tuple", data := .seq #[x, y] }) Z TI TO .ellipsis := Heap.get?_push_of_some _ zZ5
  refine wpAny_bind (wpAny_setField_rec zZ6 (by simp) fun g7 zZ7 b7 => ?_)
  replace zZ7 : IsZip g7 Z TI TO (rawInt g5.objs.size) := zZ7
  replace b7 : Heap.SameBut Z (g5.push { cls := .type "tuple", data := .seq #[x, y] }) g7 := b7
  refine wpAny_setField_rec zZ7 (by simp) fun g8 zZ8 b8 => ?_
  replace zZ8 : IsZip g8 Z TI TO (rawInt g5.objs.size) := zZ8
  replace b8 : Heap.SameBut Z g7 g8 := b8
  have up : ∀ c o, c ≠ Z → g5.get? c = some o → g8.get? c = some o := fun c o n e => b8.extBut _ _ n (b7.extBut _ _ n (Heap.get?_push_of_some _ e))
  have zT : IsPair g8 g5.objs.size x y := b8.extBut _ _ (Nat.ne_of_gt Zlt) (b7.extBut _ _ (Nat.ne_of_gt Zlt) (Heap.get?_push_size _ rfl))
  rw [z5] at zZ8 zT
  refine wpAny_pure ⟨_, rfl, ?_⟩
  show Q (.ref g5.objs.size) _
  rw [z5]
  exact kk x y g8 _ y1 y2 zZ8 (up _ _ N.a2 zO5) (D1.frame _ _ _ s15 fun b hb o e => up b o (fun z => N.b1 (z ▸ hb)) e) (D2.frame _ _ _ s25 fun b hb o e => up b o (fun z => N.c1 (z ▸ hb)) e) zT fun c o m1 m2 m3 m4 e => up c o m1 (keep5 c o m1 m2 m3 m4 e)
theorem zipD_end {Q : Fin → Shared → Prop} (D1 : Draws prog w A i1 fp1 n1 Y1 S1) (N : Apart Z TI TO i1 i2 fp1 fp2) (zZ : IsZip s.heap Z TI TO .none) (zI : IsPair s.heap TI (.ref i1) (.ref i2)) (s1 : S1 n1 s.heap)
    (kk : ∀ h' x, (∀ c o, c ≠ Z → c ≠ i1 → s.heap.get? c = some o → h'.get? c = some o) → (∃ o, h'.get? x = some o ∧ o.cls = .type "StopIteration") → E (.ref x) { s with heap := h' }) :
    wpAny (model prog w) A (Builtin.«zip.__next__» ⟨[.ref Z], []⟩) Q E s := by
  show wpAny _ _ (field (.ref Z) 2 >>= _) _ _ _
  refine wpAny_bind (wpAny_field zZ rfl (x := .bool false) rfl ?_)
  show wpAny _ _ (field (.ref Z) 3 >>= _) _ _ _
  refine wpAny_bind (wpAny_field zZ rfl (x := .ref TI) rfl (wpAny_bind (wpAny_seqItems zI rfl ?_)))
  show wpAny _ _ (Builtin.SmallTypes.ownedTupleIsFree (.ref Z) >>= _) _ _ _
  refine wpAny_bind ?_
  unfold Builtin.SmallTypes.ownedTupleIsFree
  refine wpAny_bind (wpAny_field zZ rfl (x := .none) rfl (wpAny_pure ?_))
  simp only [if_true]
  refine wpAny_bind (wpAny_rule (wpAny_bind (wpAny_field zZ rfl (x := .ref TO) rfl ?_)))
  refine wpAny_bind (wpAny_setField_rec zZ (by simp) fun g1 zZ1 b1 => ?_)
  replace zZ1 : IsZip g1 Z TI TO .ellipsis := zZ1
  replace b1 : Heap.SameBut Z s.heap g1 := b1
  refine wpAny_bind ?_
  simp only [List.zipIdx_cons, List.zipIdx_nil, List.forIn_cons, List.forIn_nil]
  refine wpAny_bind (wpAny_bind (wpAny_onRaise ?_))
  show wpAny _ _ (Builtin.SmallTypes.nextOf (.ref i1) >>= _) _ _ _
  refine wpAny_bind (D1.done _ _ _ (D1.frame _ _ _ s1 fun b hb o e => b1.extBut b o (fun z => N.b1 (z ▸ hb)) e) fun g2 x b2 hx => ?_)
  replace b2 : Heap.ExtBut i1 g1 g2 := b2
  obtain ⟨ox, ex, cx⟩ := hx
  have zZ2 : IsZip g2 Z TI TO .ellipsis := b2 _ _ N.a9.symm zZ1
  have xZ : x ≠ Z := fun z => by
    subst z
    rw [zZ2] at ex
    cases ex
    simp at cx
  exact wpAny_setField_rec zZ2 (by simp) fun g3 _ b3 => kk g3 x (fun c o m1 m2 e => b3.extBut _ _ m1 (b2 _ _ m2 (b1.extBut _ _ m1 e))) ⟨ox, b3.extBut _ _ xZ ex, cx⟩
end
section
variable {prog : Program} {w : World} {A : Around} {E : Value → Shared → Prop} {s : Shared} {Z TI TO i1 i2 : Addr} {fp1 fp2 : List Addr} {n1 n2 k : Nat} {Y1 Y2 : Nat → Value → Prop} {S1 S2 : Nat → Heap → Prop} {p q : Value}
theorem nextZ_item {Q : Option Value → Shared → Prop} (D1 : Draws prog w A.in1 i1 fp1 n1 Y1 S1) (D2 : Draws prog w A.in1 i2 fp2 n2 Y2 S2) (N : Apart Z TI TO i1 i2 fp1 fp2) (zZ : IsZip s.heap Z TI TO .none) (zI : IsPair s.heap TI (.ref i1) (.ref i2)) (zO : IsPair s.heap TO p q)
    (s1 : S1 k s.heap) (s2 : S2 k s.heap) (l1 : k < n1) (l2 : k < n2)
    (kk : ∀ x y h' tk, Y1 k x → Y2 k y → IsZip h' Z TI TO (rawInt s.heap.objs.size) → IsPair h' TO x y → S1 (k + 1) h' → S2 (k + 1) h' → IsPair h' s.heap.objs.size x y → (∀ c o, c ≠ Z → c ≠ TO → c ≠ i1 → c ≠ i2 → s.heap.get? c = some o → h'.get? c = some o) → Q (some (.ref s.heap.objs.size)) { s with heap := h', toks := tk }) :
    wpAny (model prog w) A (pyNext (.ref Z)) Q E s := by
  have zT : s.TypeIs (.ref Z) "zip" := ⟨_, zZ, rfl⟩
  unfold pyNext
  exact wpAny_bind (wpAny_attempt (wpAny_callSpecial?_slot (name := Str.ofString "__next__") zT F.slot_zip_next (wpAny_call_entry F.slot_zip_next zT F.entry_zip_next
    (zipD_item D1 D2 N zZ zI zO s1 s2 l1 l2 fun x y h' tk r1 r2 r3 r4 r5 r6 r7 r8 => wpAny_pure (kk x y h' tk r1 r2 r3 r4 r5 r6 r7 r8)) (F.args_zip_next_1 _))))
theorem nextZ_end {Q : Option Value → Shared → Prop} (D1 : Draws prog w A.in1 i1 fp1 n1 Y1 S1) (N : Apart Z TI TO i1 i2 fp1 fp2) (zZ : IsZip s.heap Z TI TO .none) (zI : IsPair s.heap TI (.ref i1) (.ref i2)) (s1 : S1 n1 s.heap)
    (kk : ∀ h', (∀ c o, c ≠ Z → c ≠ i1 → s.heap.get? c = some o → h'.get? c = some o) → Q none { s with heap := h' }) : wpAny (model prog w) A (pyNext (.ref Z)) Q E s := by
  have zT : s.TypeIs (.ref Z) "zip" := ⟨_, zZ, rfl⟩
  unfold pyNext
  refine wpAny_bind (wpAny_attempt (wpAny_callSpecial?_slot (name := Str.ofString "__next__") zT F.slot_zip_next (wpAny_call_entry F.slot_zip_next zT F.entry_zip_next (zipD_end D1 N zZ zI s1 fun h' x up hx => ?_) (F.args_zip_next_1 _))))
  obtain ⟨ox, ex, cx⟩ := hx
  exact wpAny_bind (wpAny_isInstance (T := "StopIteration") (b := true) ⟨ox, ex, cx⟩ isSubtype_stop (wpAny_pure (kk _ up)))
end
/-- pairs of the items of two sources, each a new tuple -/
def Itz (K : PySem.W.Frag) (κ1 κ2 : Bool) (a b : Addr) : It :=
  ⟨fun i H => ∃ xs ys x y, SqK K κ1 H a xs ∧ SqK K κ2 H b ys ∧ xs[i]? = some x ∧ ys[i]? = some y,
   fun i H v H' => ∃ T x y, H T = none ∧ v = .ref T ∧ H' = upd H T (.tup [x, y]) ∧ (∀ xs, SqK K κ1 H a xs → xs[i]? = some x) ∧ ∀ ys, SqK K κ2 H b ys → ys[i]? = some y,
   fun i H => ∃ xs, SqK K κ1 H a xs ∧ xs.length = i⟩
theorem nlt {x y : Nat} (h : x < y) : @Ne Addr x y := Nat.ne_of_lt h
theorem ngt {x y : Nat} (h : y < x) : @Ne Addr x y := Nat.ne_of_gt h
theorem nin2 {z x y : Addr} (h1 : z ≠ x) (h2 : z ≠ y) : z ∉ [x, y] := by simp [h1, h2]
theorem apart_of {a b n : Nat} (ha : a < n) (hb : b < n) : Apart (n + 4 : Nat) (n + 2 : Nat) (n + 3 : Nat) n (n + 1 : Nat) [n, a] [(n + 1 : Nat), b] :=
  ⟨nlt (by omega), nlt (by omega), nlt (by omega), ngt (by omega), ngt (by omega), ngt (by omega), ngt (by omega), nlt (by omega), nlt (by omega), nlt (by omega),
   nin2 (ngt (by omega)) (ngt (by omega)), nin2 (ngt (by omega)) (ngt (by omega)), nin2 (ngt (by omega)) (ngt (by omega)), nin2 (ngt (by omega)) (ngt (by omega)), nin2 (ngt (by omega)) (ngt (by omega)), nin2 (nlt (by omega)) (ngt (by omega))⟩
theorem turn_zip {P : Program} {w : World} {K : PySem.W.Frag} {elts : List Expr} {x1} {pos : Pos} (κ1 κ2 : Bool) (a b n : Nat) (ha : a < n) (hb : b < n) :
    Turn P w K (.Tuple elts x1 pos) (Itz K κ1 κ2 a b) [(n + 4 : Nat), (n + 2 : Nat), (n + 3 : Nat), n, (n + 1 : Nat)] (n + 4 : Nat)
      (fun i h => IsZip h (n + 4 : Nat) (n + 2 : Nat) (n + 3 : Nat) .none ∧ IsPair h (n + 2 : Nat) (.ref n) (.ref (n + 1 : Nat)) ∧ (∃ p q, IsPair h (n + 3 : Nat) p q) ∧ SrcIt κ1 h n a i ∧ SrcIt κ2 h (n + 1 : Nat) b i) where
  mem := by simp
  obj := fun i h t c hc => by
    obtain ⟨zZ, zI, ⟨p, q, zO⟩, t1, t2⟩ := t
    simp only [List.mem_cons, List.not_mem_nil, or_false] at hc
    rcases hc with rfl | rfl | rfl | rfl | rfl
    · exact ⟨_, zZ, fun v z => by cases z⟩
    · exact ⟨_, zI, fun v z => by cases z⟩
    · exact ⟨_, zO, fun v z => by cases z⟩
    · exact t1.obj
    · exact t2.obj
  keep := fun i h h' t k => by
    obtain ⟨zZ, zI, ⟨p, q, zO⟩, t1, t2⟩ := t
    exact ⟨k _ (.head _) _ zZ, k _ (.tail _ (.head _)) _ zI, ⟨p, q, k _ (.tail _ (.tail _ (.head _))) _ zO⟩, t1.at_ fun o e => k _ (.tail _ (.tail _ (.tail _ (.head _)))) o e, t2.at_ fun o e => k _ (.tail _ (.tail _ (.tail _ (.tail _ (.head _))))) o e⟩
  item := by
    intro X hP hw hK hc i pins s σ H E I hf t hg
    subst hP hw hK
    obtain ⟨zZ, zI, ⟨p, q, zO⟩, t1, t2⟩ := t
    obtain ⟨xs, ys, x, y, hxs, hys, hx, hy⟩ := hg
    obtain ⟨its, rv, so, _⟩ := I.src hxs
    obtain ⟨jts, rw', so', _⟩ := I.src hys
    obtain ⟨u, hu, ru⟩ := rv.get hx
    obtain ⟨v, hv, rv'⟩ := rw'.get hy
    have hh : X.A.in1.handled = none := I.ok.hd hc
    have D1 := draws_src (P := X.prog) (w := X.w) (A := X.A.in1) hh κ1 n a (nlt ha) its.toArray
    have D2 := draws_src (P := X.prog) (w := X.w) (A := X.A.in1) hh κ2 (n + 1 : Nat) b (nlt (by omega)) jts.toArray
    have N := apart_of ha hb
    have l1 : i < its.toArray.size := by simpa using (List.getElem?_eq_some_iff.mp hu).1
    have l2 : i < jts.toArray.size := by simpa using (List.getElem?_eq_some_iff.mp hv).1
    refine nextZ_item D1 D2 N zZ zI zO ⟨t1, so⟩ ⟨t2, so'⟩ l1 l2 fun u' v' h' tk e1 e2 zZ' zO' t1' t2' zT up => ⟨_, rfl, ?_⟩
    have eu : u' = u := by
      have hu' : its.toArray[i]? = some u := by simpa using hu
      have e1' : its.toArray[i]? = some u' := e1
      rw [hu'] at e1'
      exact (Option.some.inj e1').symm
    have ev : v' = v := by
      have hv' : jts.toArray[i]? = some v := by simpa using hv
      have e2' : jts.toArray[i]? = some v' := e2
      rw [hv'] at e2'
      exact (Option.some.inj e2').symm
    subst eu ev
    refine wpAny_letOwnedTupleGo_zip (s := { s with heap := h', toks := tk }) zZ' fun h2 zZ2 sb => ?_
    have sb : Heap.SameBut (n + 4 : Nat) h' h2 := sb
    have Zlt : (n + 4 : Nat) < s.heap.objs.size := Heap.lt_size zZ
    obtain ⟨I2, fr⟩ := I.paired (h' := h2) (t' := tk) (fp := [(n + 4 : Nat), (n + 2 : Nat), (n + 3 : Nat), n, (n + 1 : Nat)]) (x := x) (y := y) (u := u') (v := v') hf ru rv'
      (fun c hc => by
        simp only [List.mem_cons, List.not_mem_nil, or_false] at hc
        rcases hc with hc | hc | hc | hc | hc <;> rw [hc]
        · exact Zlt
        · exact (by omega : n + 2 < s.heap.objs.size)
        · exact (by omega : n + 3 < s.heap.objs.size)
        · exact (by omega : n < s.heap.objs.size)
        · exact (by omega : n + 1 < s.heap.objs.size))
      ((sb.2 _ (ngt Zlt)).trans zT) (fun c o hc e => by
        simp only [List.mem_cons, List.not_mem_nil, or_false, not_or] at hc
        exact (sb.2 c hc.1).trans (up c o hc.1 hc.2.2.1 hc.2.2.2.1 hc.2.2.2.2 e))
    refine ⟨.ref s.heap.objs.size, _, I2, rfl, ⟨s.heap.objs.size, x, y, I.hok.fresh (Nat.le_refl _), rfl, rfl, fun zs hz => by rw [I.src_inj hz hxs]; exact hx, fun zs hz => by rw [I.src_inj hz hys]; exact hy⟩, ⟨zZ2, ?_, ⟨u', v', ?_⟩, ?_, ?_⟩, fr⟩
    · exact (sb.2 _ N.a1).trans (up _ _ N.a1 N.a3 N.a4 N.a5 zI)
    · exact (sb.2 _ N.a2).trans zO'
    · exact t1'.1.at_ fun o e => (sb.2 _ N.a9).trans e
    · exact t2'.1.at_ fun o e => (sb.2 _ N.a10).trans e
  done := by
    intro X hP hw hK hc i pins s σ H E I hf t hg
    subst hP hw hK
    obtain ⟨zZ, zI, _, t1, t2⟩ := t
    obtain ⟨xs, hxs, hx⟩ := hg
    obtain ⟨its, rv, so, _⟩ := I.src hxs
    have hh : X.A.in1.handled = none := I.ok.hd hc
    have D1 := draws_src (P := X.prog) (w := X.w) (A := X.A.in1) hh κ1 n a (nlt ha) its.toArray
    have N := apart_of ha hb
    have hn : its.toArray.size = i := by
      have := rv.length
      simp
      omega
    exact nextZ_end D1 N zZ zI (by rw [hn]; exact ⟨t1, so⟩) fun h' up => ⟨rfl, I.turnedL (fp := [(n + 4 : Nat), (n + 2 : Nat), (n + 3 : Nat), n, (n + 1 : Nat)]) (t' := s.toks) (fun c o hc e => up c o (fun z => hc (by simp [z])) (fun z => hc (by simp [z])) e) hf⟩
  self := fun _ _ _ _ _ t h => wpAny_pyIter_zip t.1 h
theorem for_zip {K : PySem.W.Frag} {κ1 κ2 : Bool} {a b : Addr} {xs ys : List V} {g : TG} {tb : TS} {D : Ends} {σ : St} {H : Hp} (he : xs.length = ys.length) (Pv : Nat → St → Hp → Prop) (h0 : Pv 0 σ H) (hl : ∀ i σ H, i ≤ xs.length → Pv i σ H → SqK K κ1 H a xs ∧ SqK K κ2 H b ys)
    (hs : ∀ i x y σ H T, xs[i]? = some x → ys[i]? = some y → Pv i σ H → H T = none → g (.ref T) σ (upd H T (.tup [x, y])) fun σ2 H2 => tb { D with nx := Pv (i + 1), ct := Pv (i + 1), bk := D.nx } σ2 H2) (hd : ∀ σ H, Pv xs.length σ H → D.nx σ H) :
    ∃ W : Nat → Nat → St → Hp → Prop, (∃ m, W 0 m σ H) ∧ ∀ i m σ H, W i m σ H →
      ((Itz K κ1 κ2 a b).stop i H ∧ D.nx σ H) ∨ ((Itz K κ1 κ2 a b).go i H ∧ ∃ N : St → Hp → Prop, (∀ σ' H', N σ' H' → ∃ m', m' < m ∧ W (i + 1) m' σ' H') ∧ ∀ x H', (Itz K κ1 κ2 a b).yld i H x H' → g x σ H' fun σ2 H2 => tb { D with nx := N, ct := N, bk := D.nx } σ2 H2) := by
  refine ⟨fun i m σ H => m = xs.length - i ∧ i ≤ xs.length ∧ Pv i σ H, ⟨xs.length, by simp, Nat.zero_le _, h0⟩, ?_⟩
  rintro i m σ H ⟨rfl, hi, p⟩
  obtain ⟨q1, q2⟩ := hl i σ H hi p
  by_cases hlt : i < xs.length
  · have hlt2 : i < ys.length := by omega
    refine .inr ⟨⟨xs, ys, xs[i], ys[i], q1, q2, by simp [hlt], by simp [hlt2]⟩, Pv (i + 1), fun σ' H' p' => ⟨xs.length - (i + 1), by omega, rfl, hlt, p'⟩, fun x H' y => ?_⟩
    obtain ⟨T, y1, y2, hT, rfl, rfl, hy1, hy2⟩ := y
    exact hs i y1 y2 σ _ T (hy1 xs q1) (hy2 ys q2) p hT
  · have e : i = xs.length := by omega
    subst e
    exact .inl ⟨⟨xs, q1, rfl⟩, hd σ H p⟩
/-! ### zip(a, b): made -/
abbrev zq1 (h : Heap) (o1 : Obj) : Heap := h.push o1
abbrev zq2 (h : Heap) (o1 o2 : Obj) : Heap := (zq1 h o1).push o2
abbrev zq3 (h : Heap) (o1 o2 : Obj) : Heap := (zq2 h o1 o2).push { cls := .type "tuple", data := .seq #[.ref h.objs.size, .ref (zq1 h o1).objs.size] }
abbrev zq4 (h : Heap) (o1 o2 : Obj) : Heap := (zq3 h o1 o2).push { cls := .type "tuple", data := .seq #[.none, .none] }
abbrev zq5 (h : Heap) (o1 o2 : Obj) : Heap := (zq4 h o1 o2).push { cls := .type "zip", data := .fields #[.none, .bool false, .bool false, .ref (zq2 h o1 o2).objs.size, .ref (zq3 h o1 o2).objs.size] }
theorem zq_facts (h : Heap) (o1 o2 : Obj) (f1 : o1.isFreed = false) (f2 : o2.isFreed = false) : (zq4 h o1 o2).objs.size = h.objs.size + 4 ∧ IsZip (zq5 h o1 o2) (h.objs.size + 4) (h.objs.size + 2) (h.objs.size + 3) .none ∧
    IsPair (zq5 h o1 o2) (h.objs.size + 2) (.ref h.objs.size) (.ref (h.objs.size + 1)) ∧ IsPair (zq5 h o1 o2) (h.objs.size + 3) .none .none ∧ (zq5 h o1 o2).get? h.objs.size = some o1 ∧ (zq5 h o1 o2).get? (h.objs.size + 1) = some o2 ∧
    ∀ c o, h.get? c = some o → (zq5 h o1 o2).get? c = some o := by
  have s1 : (zq1 h o1).objs.size = h.objs.size + 1 := Heap.size_push ..
  have s2 : (zq2 h o1 o2).objs.size = h.objs.size + 2 := by rw [Heap.size_push, s1]
  have s3 : (zq3 h o1 o2).objs.size = h.objs.size + 3 := by rw [Heap.size_push, s2]
  have s4 : (zq4 h o1 o2).objs.size = h.objs.size + 4 := by rw [Heap.size_push, s3]
  have e5 : (zq5 h o1 o2).get? (zq4 h o1 o2).objs.size = some _ := Heap.get?_push_size _ rfl
  have e4 : (zq5 h o1 o2).get? (zq3 h o1 o2).objs.size = some _ := Heap.get?_push_of_some _ (Heap.get?_push_size _ rfl)
  have e3 : (zq5 h o1 o2).get? (zq2 h o1 o2).objs.size = some _ := Heap.get?_push_of_some _ (Heap.get?_push_of_some _ (Heap.get?_push_size _ rfl))
  have e2 : (zq5 h o1 o2).get? (zq1 h o1).objs.size = some o2 := Heap.get?_push_of_some _ (Heap.get?_push_of_some _ (Heap.get?_push_of_some _ (Heap.get?_push_size _ f2)))
  have e1 : (zq5 h o1 o2).get? h.objs.size = some o1 := Heap.get?_push_of_some _ (Heap.get?_push_of_some _ (Heap.get?_push_of_some _ (Heap.get?_push_of_some _ (Heap.get?_push_size _ f1))))
  rw [s2, s3, s4] at e5
  rw [s1, s2] at e3
  rw [s3] at e4
  rw [s1] at e2
  exact ⟨s4, e5, e3, e4, e1, e2, fun c o e => Heap.get?_push_of_some _ (Heap.get?_push_of_some _ (Heap.get?_push_of_some _ (Heap.get?_push_of_some _ (Heap.get?_push_of_some _ e))))⟩
def itObj (κ : Bool) (a : Addr) : Obj := match κ with | true => { cls := .type "tuple_iterator", data := .fields #[.ref a, .int 0 0] } | false => { cls := .type "list_iterator", data := .fields #[.ref a, .int 0 0] }
theorem meets_zipT (a b : Addr) (xs ys : Array Value) :
    Meets (Builtin.«zip.__new__» ⟨[.type "zip", .ref a, .ref b], []⟩) (fun _ R s => s.heap.IsTuple a xs ∧ s.heap.IsTuple b ys ∧ R (.ok (.ret (.ref (zq4 s.heap (itObj true a) (itObj true b)).objs.size))) { s with heap := zq5 s.heap (itObj true a) (itObj true b) }) :=
  .of_wp fun prog w A R s h => by
    obtain ⟨hp, g, d, tk, os⟩ := s
    obtain ⟨h1, h2, h⟩ := h
    have hsub := sub_zip
    have q1 : Heap.IsTuple (Shared.heap ⟨hp, g, d, tk, os⟩) a xs := h1
    have q2 : Heap.IsTuple (Shared.heap ⟨hp.push { cls := .type "tuple_iterator", data := .fields #[.ref a, .int 0 0] }, g, d, tk, os⟩) b ys := Heap.IsTuple.push h2 _
    wp_walk using wpAny_pyIter_tuple q1, wpAny_pyIter_tuple q2
    exact ⟨_, rfl, h⟩
theorem meets_zipL (a b : Addr) (xs ys : Array Value) :
    Meets (Builtin.«zip.__new__» ⟨[.type "zip", .ref a, .ref b], []⟩) (fun _ R s => s.heap.IsList a xs ∧ s.heap.IsList b ys ∧ R (.ok (.ret (.ref (zq4 s.heap (itObj false a) (itObj false b)).objs.size))) { s with heap := zq5 s.heap (itObj false a) (itObj false b) }) :=
  .of_wp fun prog w A R s h => by
    obtain ⟨hp, g, d, tk, os⟩ := s
    obtain ⟨h1, h2, h⟩ := h
    have hsub := sub_zip
    have q1 : Heap.IsList (Shared.heap ⟨hp, g, d, tk, os⟩) a xs := h1
    have q2 : Heap.IsList (Shared.heap ⟨hp.push { cls := .type "list_iterator", data := .fields #[.ref a, .int 0 0] }, g, d, tk, os⟩) b ys := Heap.IsList.push h2 _
    wp_walk using wpAny_pyIter_list q1, wpAny_pyIter_list q2
    exact ⟨_, rfl, h⟩
theorem meets_zip (κ : Bool) (a b : Addr) (xs ys : Array Value) :
    Meets (Builtin.«zip.__new__» ⟨[.type "zip", .ref a, .ref b], []⟩) (fun _ R s => SrcOf κ s.heap a xs ∧ SrcOf κ s.heap b ys ∧ R (.ok (.ret (.ref (zq4 s.heap (itObj κ a) (itObj κ b)).objs.size))) { s with heap := zq5 s.heap (itObj κ a) (itObj κ b) }) := by
  cases κ with
  | true => exact meets_zipT a b xs ys
  | false => exact meets_zipL a b xs ys
theorem itObj_at {κ : Bool} {h : Heap} {a it : Addr} (e : h.get? it = some (itObj κ a)) : SrcIt κ h it a 0 := by
  cases κ with
  | true => exact ⟨_, e, rfl, rfl⟩
  | false => exact ⟨_, e, rfl, rfl⟩
theorem itObj_live {κ : Bool} {a : Addr} : (itObj κ a).isFreed = false := by cases κ <;> rfl
theorem SrcOf.lt {κ : Bool} {h : Heap} {a : Addr} {its : Array Value} (st : SrcOf κ h a its) : a < h.objs.size := by
  cases κ with
  | true => obtain ⟨o, e, _⟩ := st; exact Heap.lt_size e
  | false => obtain ⟨o, e, _⟩ := st; exact Heap.lt_size e
section
variable {X : Cx}
theorem boot_zip : bootBuiltins "zip" = some (.type "zip") := by decide +kernel
def iZip (K : PySem.W.Frag) (ta : TA) : TI := fun σ H R => ta σ H fun vs H1 => ∃ κ a b xs ys, vs = [.ref a, .ref b] ∧ SqK K κ H1 a xs ∧ SqK K κ H1 b ys ∧ R (Itz K κ κ a b) H1
theorem pi_zip {a b : Expr} {ta : TA} {p pos tp : Pos} {elts : List Expr} {x1} (hg : Gl X "zip") (hm : X.mg "zip" = none) (ha : PA X [a, b] ta) (hs : starEach [a, b] X.env = [(false, eval a X.env), (false, eval b X.env)] := by rfl) (hs2 : starEach [b] X.env = [(false, eval b X.env)] := by rfl) :
    PI X (.Tuple elts x1 tp) (.Call (.Name "zip" p) [a, b] [] pos) (iZip X.K ta) := by
  intro pins s σ H R I h
  refine Call_ (ld_blt I hg hm boot_zip (PyProof.Rows.callWith_type1 (thn (ha pos pins s σ H _ I h) fun us s1 ⟨vs, H1, I1, r1, κ, l, m, xs, ys, ev, hl, hm', q⟩ => ?_) (by rw [hs, hs2]) (by rw [hs2]; rfl)))
  subst ev
  obtain ⟨u1, u2, rfl, ru1, ru2⟩ := r1.two
  cases (show u1 = Value.ref l from ru1)
  cases (show u2 = Value.ref m from ru2)
  obtain ⟨its, _, so, _⟩ := I1.src hl
  obtain ⟨jts, _, so', _⟩ := I1.src hm'
  obtain ⟨s4, zZ, zI, zO, e1, e2, up⟩ := zq_facts s1.heap (itObj κ l) (itObj κ m) itObj_live itObj_live
  refine callType_new F.called_zip (by decide) (F.typeCall_zip_2 _ _) (F.newCall_zip_2 _ _) (fun obj => F.args_object_init_3 obj _ _) F.entry_zip_new (meets_zip κ l m its.toArray jts.toArray) ⟨so, so', ?_⟩
  show _ ∧ _
  rw [s4]
  refine ⟨⟨_, zZ, rfl⟩, wpAny_pyIter_zip (s := { s1 with heap := zq5 s1.heap (itObj κ l) (itObj κ m) }) zZ ?_⟩
  refine ⟨_, _, _, Itz X.K κ κ l m, H1, rfl, I1.kept (t' := s1.toks) up, turn_zip κ κ l m s1.heap.objs.size so.lt so'.lt, ⟨zZ, zI, ⟨_, _, zO⟩, itObj_at e1, itObj_at e2⟩, fun c hc => ?_, q⟩
  have ge : s1.heap.objs.size ≤ c := by
    simp only [List.mem_cons, List.not_mem_nil, or_false] at hc
    rcases hc with rfl | rfl | rfl | rfl | rfl
    · exact Nat.le_add_right _ _
    · exact Nat.le_add_right _ _
    · exact Nat.le_add_right _ _
    · exact Nat.le_refl _
    · exact Nat.le_add_right _ _
  exact I1.fpOk ge (I1.hok.fresh ge)
end
end L2

set_option Elab.async false
set_option linter.all false
set_option maxRecDepth 100000
set_option maxHeartbeats 4000000
namespace L2
open PySem PySem.Spec PyProof.Rows
open AutoSeq1 (wpAny_loadPart')
/-! ### enumerate(xs, start=1) -/
theorem typeCallK (a b : Value) : checkTypeCall "enumerate" ⟨[a], [("start", b)]⟩ = pure () := by kernel_rfl
theorem newCallK (a b : Value) : checkBuiltinCall "enumerate.__new__" ⟨[.type "enumerate", a], [("start", b)]⟩ = pure () := by kernel_rfl
theorem meets_enumK (l : Addr) (items : Array Value) (n : Nat) (dct : Option Addr) (sl : Array (Option Value)) (t : Tok) :
    Meets (Builtin.«enumerate.__new__» ⟨[.type "enumerate", .ref l], [("start", .int 1 t)]⟩) (fun _ R s => s.heap.get? l = some { cls := .type "list", dict := dct, data := .seq items n, slots := sl } ∧
      R (.ok (.ret (.ref (s.heap.push (itObj false l)).objs.size)))
        { s with heap := (s.heap.push (itObj false l)).push { cls := .type "enumerate", data := .fields #[.none, .bool false, .ref s.heap.objs.size, rawInt 1, .none, .none] } }) :=
  .of_wp fun prog w A R s h => by
    obtain ⟨hp, g, d, tk, os⟩ := s
    obtain ⟨hl, h⟩ := h
    have hsub := sub_enumerate
    have f1 := AutoSeq1.idx_int
    have hL : Heap.IsList (Shared.heap ⟨hp, g, d, tk, os⟩) l items := ⟨_, hl, rfl, n, rfl⟩
    wp_walk using wpAny_loadPart' hl
    refine wpAny_stack_any fun st => wpAny_pure ?_
    split
    · rename_i c _ _ _ _ _
      cases (c == Value.type "enumerate")
      · wp_walk using wpAny_loadPart' hl, wpAny_pyIter_list hL
        exact ⟨_, rfl, h⟩
      · wp_walk using wpAny_loadPart' hl, wpAny_pyIter_list hL
        exact ⟨_, rfl, h⟩
    · wp_walk using wpAny_loadPart' hl, wpAny_pyIter_list hL
      exact ⟨_, rfl, h⟩
theorem argsK (a b c : Value) : argsOk "object.__init__" ⟨[a, b], [("start", c)]⟩ := by
  unfold argsOk
  rw [signature?_of (id := "object.__init__") (n := ['_', '_', 't', 'i', 'n', 'i', '_', '_']) (o := ['t', 'c', 'e', 'j', 'b', 'o']) (by kernel_rfl) F.owner_object]
  kernel_rfl
theorem initK {self l : Value} {tk : Tok} (hl : typeLookup (.type "enumerate") "__init__" = pure (some (.builtin "object.__init__"))) (hm : Bind.madeBy (.type "enumerate") = pure (some "enumerate.__new__")) :
    Meets (Builtin.«object.__init__» ⟨[self, l], [("start", .int 1 tk)]⟩) (fun _ R s => s.TypeIs self "enumerate" ∧ R (.ok (.ret .none)) s) := by
  refine Meets.of_wp fun prog w A R s hs => ?_
  obtain ⟨hT, hq⟩ := hs
  have hne : (some "enumerate.__new__" != some "object.__new__") = true := by decide
  repeat (any_goals (first | assumption | wp_step))
  exact ⟨_, rfl, hq⟩
def noneEnd (s2 : Shared) : Result → Shared → Prop := fun r s' => r = .ok (.ret .none) ∧ s' = s2
def enumEnd (s : Shared) (l : Addr) : Result → Shared → Prop := fun r s1 => r = .ok (.ret (.ref (s.heap.objs.size + 1))) ∧
  s1 = { s with heap := (s.heap.push (itObj false l)).push { cls := .type "enumerate", data := .fields #[.none, .bool false, .ref s.heap.objs.size, rawInt 1, .none, .none] } }
section
variable {prog : Program} {w : World} {A : Around} {E : Value → Shared → Prop} {s : Shared}
theorem call_enumK {l : Addr} {items : Array Value} {t : Tok} {Q : Value → Shared → Prop} (hL : s.heap.IsList l items)
    (k : ∀ h', IsEnum h' (s.heap.objs.size + 1) s.heap.objs.size 1 .none → h'.IsListIter s.heap.objs.size l 0 → (∀ b o, s.heap.get? b = some o → h'.get? b = some o) → Q (.ref (s.heap.objs.size + 1)) { s with heap := h' }) :
    wpAny (model prog w) A (call (.type "enumerate") [.ref l] [("start", .int 1 t)]) Q E s := by
  obtain ⟨⟨c, dct, dt, sl⟩, hl, hc, n, hd⟩ := hL
  replace hc : c = .type "list" := hc
  replace hd : dt = .seq items n := hd
  subst hc hd
  have z1 : (s.heap.push (itObj false l)).objs.size = s.heap.objs.size + 1 := Heap.size_push ..
  have e1 : IsEnum ((s.heap.push (itObj false l)).push { cls := .type "enumerate", data := .fields #[.none, .bool false, .ref s.heap.objs.size, rawInt 1, .none, .none] }) (s.heap.objs.size + 1) s.heap.objs.size 1 .none := by
    have q := Heap.get?_push_size (s.heap.push (itObj false l)) (o := { cls := .type "enumerate", data := .fields #[.none, .bool false, .ref s.heap.objs.size, rawInt 1, .none, .none] }) rfl
    rw [z1] at q
    exact q
  have fin := k _ e1 ⟨_, Heap.get?_push_of_some _ (Heap.get?_push_size _ rfl), rfl, rfl⟩ fun b o x => Heap.get?_push_of_some _ (Heap.get?_push_of_some _ x)
  have ft := F.called_enumerate
  obtain ⟨c, tl, hmro⟩ := ft.mro
  have hmade := ft.made
  have hsub := ft.sub
  have hct := typeCallK (.ref l) (.int 1 t)
  refine wpAny_call (codeAny_of_tree ?_)
  show wpAny _ _ (callAny (.type "enumerate") _) _ _ _
  refine wpAny_pure ⟨Code.quiet_builtin _ (by decide +kernel), codeAny_builtin F.entry_type_call ?_⟩
  rw [Around.under_plain (weight_type_call_type "enumerate" [.ref l] [("start", .int 1 t)]) (units_type_call_type "enumerate" [.ref l] [("start", .int 1 t)])]
  have h1 := ft.notType
  have h2 := ft.canCreate
  repeat (any_goals (first | assumption | wp_step))
  refine codeAny_mono (codeAny_call_builtin ft.plain F.entry_enumerate_new (wpAny_of_eq (newCallK _ _) (meets_enumK l items n dct sl t prog w A.in1 (enumEnd s l) s ⟨hl, by rw [z1]; exact ⟨rfl, rfl⟩⟩))) fun r s₁ hr => ?_
  obtain ⟨rfl, rfl⟩ := hr
  have hT : Shared.TypeIs { s with heap := (s.heap.push (itObj false l)).push { cls := .type "enumerate", data := .fields #[.none, .bool false, .ref s.heap.objs.size, rawInt 1, .none, .none] } } (.ref (s.heap.objs.size + 1)) "enumerate" := ⟨_, e1, rfl⟩
  have hli := ft.init.lookup
  have hbi := ft.init.bind (.ref (s.heap.objs.size + 1))
  repeat (any_goals (first | assumption | wp_step))
  refine codeAny_mono (R := noneEnd { s with heap := (s.heap.push (itObj false l)).push { cls := .type "enumerate", data := .fields #[.none, .bool false, .ref s.heap.objs.size, rawInt 1, .none, .none] } })
    (codeAny_call_builtin ft.init.plain F.entry_object_init (ft.init.check _ _ _ _ _ _ _ _ hT (argsK _ _ _) (initK (tk := t) ft.init.lookup ft.made prog w A.in1 (noneEnd _) _ ⟨hT, rfl, rfl⟩))) fun r₂ s₂ hr₂ => ?_
  obtain ⟨rfl, rfl⟩ := hr₂
  repeat (any_goals (first | assumption | wp_step))
end
section
variable {X : Cx}
theorem pi_enumS {a : Expr} {ta : TA} {p pos tp kp cp : Pos} {ck} {elts : List Expr} {x1} (hg : Gl X "enumerate") (hm : X.mg "enumerate" = none) (ha : PA X [a] ta)
    (hall : (backToKw pos (keywordEach [⟨some "start", .Constant (.int 1) ck cp, kp⟩] X.env)).all (·.1.isSome) = true := by rfl) (he : starEach [a] X.env = (false, eval a X.env) :: starEach [] X.env := by rfl)
    (hks : (backToKw pos (keywordEach [⟨some "start", .Constant (.int 1) ck cp, kp⟩] X.env)).filterMap (·.1) = [Str.ofString "start"] := by rfl)
    (hpl : ((backTo pos (starEach [a] X.env)).any (·.1) || (backToKw pos (keywordEach [⟨some "start", .Constant (.int 1) ck cp, kp⟩] X.env)).any (·.1.isNone)) = false := by rfl) :
    PI X (.Tuple elts x1 tp) (.Call (.Name "enumerate" p) [a] [⟨some "start", .Constant (.int 1) ck cp, kp⟩] pos) (iEn X.K 1 ta) := by
  intro pins s σ H R I h
  refine wpAny_Call_Name_kw (ld_blt I hg hm boot_enumerate ?_)
  refine PySem.W.callWith_of (P := fun _ => True) hpl (fun h _ => ⟨.machine, .inr (.inl rfl), .now⟩) (evalArgs_kw2 hall (thn (ha pos pins s σ H _ I h) fun us s1 ⟨vs, H1, I1, r1, l, xs, ev, hl, q⟩ => ?_) he)
  subst ev
  obtain ⟨u, rfl, ru⟩ := r1.one
  cases (show u = Value.ref l from ru)
  refine thn (pk_cons (X := X) (nm := some "start") (kpos := kp) (pe_int (i := 1) (j := ck) (pos := cp)) pk_nil pos pins s1 σ H1 (fun zs H2 => zs = [.int 1] ∧ H2 = H1) I1 ⟨rfl, rfl⟩) fun ks s2 ⟨zs, H2, I2, rz, ez, eh⟩ => ⟨trivial, ?_⟩
  subst ez eh
  obtain ⟨u2, rfl, ru2⟩ := rz.one
  obtain ⟨t, rfl⟩ := ru2
  rw [hks]
  obtain ⟨its, r, pl, hz⟩ := I2.list hl
  exact call_enumK pl.isList fun h' he hi k => enum_it I2 he hi k q
end
end L2

set_option Elab.async false
set_option linter.all false
set_option maxRecDepth 100000
set_option maxHeartbeats 4000000
namespace L2
open PySem PySem.Spec PyProof.Rows
/-! ### texts: joined and split -/
theorem join_two (s x y : Str) (r : List Str) : Str.join s (x :: y :: r) = x ++ s ++ Str.join s (y :: r) := rfl
theorem join_one (s x : Str) : Str.join s [x] = x := rfl
theorem cps_ext {a b : Str} (h : a.cps.toList = b.cps.toList) : a = b := by
  obtain ⟨a⟩ := a
  obtain ⟨b⟩ := b
  congr 1
  exact Array.toList_inj.mp h
theorem app_list (a b : Str) : (a ++ b).cps.toList = a.cps.toList ++ b.cps.toList := by rw [Str.cps_append, Array.toList_append]
theorem cut_inj {c : Nat} : ∀ {p q a b : List Nat}, c ∉ p → c ∉ q → p ++ c :: a = q ++ c :: b → p = q ∧ a = b
  | [], [], _, _, _, _, h => ⟨rfl, (List.cons.inj h).2⟩
  | [], y :: q, _, _, _, hq, h => absurd (by rw [(List.cons.inj h).1]; exact List.mem_cons_self) hq
  | x :: p, [], _, _, hp, _, h => absurd (by rw [← (List.cons.inj h).1]; exact List.mem_cons_self) hp
  | x :: p, y :: q, a, b, hp, hq, h => by
    have h1 := (List.cons.inj h).1
    have h2 := cut_inj (fun z => hp (List.mem_cons_of_mem _ z)) (fun z => hq (List.mem_cons_of_mem _ z)) (List.cons.inj h).2
    exact ⟨by rw [h1, h2.1], h2.2⟩
theorem join_inj (c : Nat) : ∀ {ps qs : List Str}, ps ≠ [] → qs ≠ [] → (∀ p ∈ ps, c ∉ p.cps.toList) → (∀ q ∈ qs, c ∉ q.cps.toList) → Str.join ⟨#[c]⟩ ps = Str.join ⟨#[c]⟩ qs → ps = qs
  | [], _, h, _, _, _, _ => absurd rfl h
  | _, [], _, h, _, _, _ => absurd rfl h
  | [p], [q], _, _, _, _, h => by rw [join_one, join_one] at h; rw [h]
  | [p], q :: q2 :: r, _, _, fp, _, h => by
    rw [join_one, join_two] at h
    refine absurd ?_ (fp p List.mem_cons_self)
    rw [h, app_list, app_list]
    simp
  | p :: p2 :: r, [q], _, _, _, fq, h => by
    rw [join_one, join_two] at h
    refine absurd ?_ (fq q List.mem_cons_self)
    rw [← h, app_list, app_list]
    simp
  | p :: p2 :: r, q :: q2 :: r', _, _, fp, fq, h => by
    rw [join_two, join_two] at h
    have hl := congrArg (fun z : Str => z.cps.toList) h
    simp only [app_list, List.append_assoc] at hl
    obtain ⟨h1, h2⟩ := cut_inj (c := c) (fp p List.mem_cons_self) (fq q List.mem_cons_self) hl
    have h3 := join_inj c (by simp) (by simp) (fun z hz => fp z (List.mem_cons_of_mem _ hz)) (fun z hz => fq z (List.mem_cons_of_mem _ hz)) (cps_ext h2)
    rw [cps_ext h1, h3]
theorem join_count {s : Str} (hs : 1 ≤ s.length) : ∀ ps : List Str, ps.length ≤ (Str.join s ps).length + 1
  | [] => Nat.zero_le _
  | [p] => by simp
  | p :: q :: r => by
    have ih := join_count hs (q :: r)
    rw [join_two, Str.length_append, Str.length_append]
    simp only [List.length_cons] at ih ⊢
    omega
theorem split_ne (z y : Str) : Txt.split z y ≠ [] := by
  unfold Txt.split
  split
  · simp
  · split
    · simp
    · rw [StrLaws.partsBetween_eq]
      obtain ⟨p, r, e⟩ := StrLaws.partsFrom_ne z y.length 0 (Builtin.Str.occurrences z y 0 z.length (z.length + 1))
      rw [e]
      simp
theorem split_count {z y : Str} (hy : 1 ≤ y.length) : (Builtin.Str.partsBetween z (Builtin.Str.occurrences z y 0 z.length (z.length + 1)) y.length).length ≤ z.length + 1 := by
  obtain ⟨f, h⟩ := StrLaws.occ_chain z y (z.length + 1)
  have e := StrLaws.join_partsFrom z y _ _ _ h
  rw [StrLaws.sub_whole] at e
  have q := join_count hy (StrLaws.partsFrom z y.length 0 (Builtin.Str.occurrences z y 0 z.length (z.length + 1)))
  rw [e] at q
  rw [StrLaws.partsBetween_eq]
  exact q
theorem split_join {c : Nat} {ps : List Str} (hne : ps ≠ []) (fr : ∀ p ∈ ps, c ∉ p.cps.toList) : Txt.split (Str.join ⟨#[c]⟩ ps) ⟨#[c]⟩ = ps :=
  join_inj c (split_ne _ _) hne (StrLaws.split_free _ c) fr (StrLaws.join_split _ _)
theorem repS_succ (z : Str) (n : Nat) : repS z (n + 1) = z ++ repS z n := by
  have key : ∀ (k : Nat) (a : Array Nat), (List.replicate k z.cps).foldl (· ++ ·) a = a ++ (List.replicate k z.cps).foldl (· ++ ·) #[] := by
    intro k
    induction k with
    | zero => intro a; simp
    | succ k ih =>
      intro a
      rw [List.replicate_succ, List.foldl_cons, List.foldl_cons, ih (a ++ z.cps), ih (#[] ++ z.cps)]
      simp
  refine Str.ext' ?_
  rw [Str.cps_append]
  show (List.replicate (n + 1) z.cps).foldl (· ++ ·) #[] = z.cps ++ (List.replicate n z.cps).foldl (· ++ ·) #[]
  rw [List.replicate_succ, List.foldl_cons, key]
  simp
/-- a separator behind a joined text is an empty part more -/
theorem join_snoc (s : Str) : ∀ {ps : List Str} (x : Str), ps ≠ [] → Str.join s (ps ++ [x]) = Str.join s ps ++ s ++ x
  | [], _, h => absurd rfl h
  | [p], x, _ => rfl
  | p :: q :: r, x, _ => by
    have ih := join_snoc s (ps := q :: r) x (by simp)
    show p ++ s ++ Str.join s ((q :: r) ++ [x]) = _
    rw [ih, join_two]
    simp only [Str.append_assoc]
theorem join_rep (s : Str) : ∀ (k : Nat) {ps : List Str}, ps ≠ [] → Str.join s ps ++ repS s k = Str.join s (ps ++ List.replicate k Str.empty)
  | 0, ps, _ => by rw [repS_zero, Str.append_empty, List.replicate_zero, List.append_nil]
  | k + 1, ps, h => by
    rw [repS_succ, List.replicate_succ, ← Str.append_assoc]
    have e : Str.join s ps ++ s = Str.join s (ps ++ [Str.empty]) := by rw [join_snoc s _ h, Str.append_empty]
    rw [e, join_rep s k (by simp), List.append_assoc]
    rfl
theorem join_last (s : Str) : ∀ (ps : List Str) (x y : Str), Str.join s (ps ++ [x]) ++ y = Str.join s (ps ++ [x ++ y])
  | [], _, _ => rfl
  | p :: r, x, y => by
    rw [join_snoc s x (by simp), join_snoc s (x ++ y) (by simp)]
    simp only [Str.append_assoc]
theorem rep_join (s : Str) (k : Nat) : repS s k = Str.join s (List.replicate k Str.empty ++ [Str.empty]) := by
  have q := join_rep s k (ps := [Str.empty]) (by simp)
  rw [join_one, Str.empty_append] at q
  rw [q]
  congr 1
  have : ∀ n : Nat, [Str.empty] ++ List.replicate n Str.empty = List.replicate n Str.empty ++ [Str.empty] := fun n => by
    rw [← List.replicate_succ', List.replicate_succ]
    rfl
  exact this k
end L2

set_option Elab.async false
set_option linter.all false
set_option maxRecDepth 100000
set_option maxHeartbeats 4000000
namespace L2
open PySem PySem.Spec PyProof.Rows
/-! ### (a, b, ..) = a list of that length -/
section
variable {prog : Program} {w : World} {A : Around} {E : Value → Shared → Prop}
end
/-! ### a comprehension over a tuple -/
/-! ### the same, the end by the heap alone -/
theorem comp_rangeH {lo : Int} {n : Nat} {g : TG} {ti : TT} {te : TE} {σ : St} {H : Hp} {D : Addr} {QD : Hp → Prop} (Pv : Nat → St → List V → Hp → Prop) (h0 : Pv 0 σ [] (upd H D (.lst []))) (hD : ∀ i σ xs H, Pv i σ xs H → H D = some (.lst xs))
    (hs : ∀ i σ xs H, i < n → Pv i σ xs H → g (.int (lo + i)) σ H fun σ2 H3 => ti σ2 H3 fun b H4 => if b = true then te σ2 H4 fun v H5 => H5 D = some (.lst xs) ∧ xs.length < sizeLine ∧ Pv (i + 1) σ2 (xs ++ [v]) (upd H5 D (.lst (xs ++ [v]))) else Pv (i + 1) σ2 xs H4)
    (hd : ∀ σ xs H, Pv n σ xs H → QD H) :
    ∃ W : Nat → Nat → St → List V → Hp → Prop, (∃ m, W 0 m σ [] (upd H D (.lst []))) ∧ ∀ i m σ' xs H', W i m σ' xs H' → H' D = some (.lst xs) ∧
      (((Itr lo n).stop i H' ∧ QD H') ∨ ((Itr lo n).go i H' ∧ ∃ N : St → List V → Hp → Prop, (∀ σ2 ys H2, N σ2 ys H2 → ∃ m', m' < m ∧ W (i + 1) m' σ2 ys H2) ∧ ∀ x H2, (Itr lo n).yld i H' x H2 → g x σ' H2 fun σ2 H3 => ti σ2 H3 fun b H4 =>
        if b = true then te σ2 H4 fun v H5 => H5 D = some (.lst xs) ∧ xs.length < sizeLine ∧ N σ2 (xs ++ [v]) (upd H5 D (.lst (xs ++ [v]))) else N σ2 xs H4)) := by
  refine ⟨fun i m σ xs H => m = n - i ∧ i ≤ n ∧ Pv i σ xs H, ⟨n, by simp, Nat.zero_le _, h0⟩, ?_⟩
  rintro i m σ xs H ⟨rfl, hi, p⟩
  refine ⟨hD i σ xs H p, ?_⟩
  by_cases hlt : i < n
  · refine .inr ⟨hlt, Pv (i + 1), fun σ' ys H' p' => ⟨n - (i + 1), by omega, rfl, hlt, p'⟩, fun x H' y => ?_⟩
    obtain ⟨e, y⟩ := y
    subst e y
    exact hs i σ xs _ hlt p
  · have e : i = n := by omega
    subst e
    exact .inl ⟨Nat.le_refl _, hd σ xs H p⟩
theorem comp_strH {z : Str} {g : TG} {ti : TT} {te : TE} {σ : St} {H : Hp} {D : Addr} {QD : Hp → Prop} (Pv : Nat → St → List V → Hp → Prop) (h0 : Pv 0 σ [] (upd H D (.lst []))) (hD : ∀ i σ xs H, Pv i σ xs H → H D = some (.lst xs))
    (hs : ∀ i c σ xs H, z.cps[i]? = some c → Pv i σ xs H → g (.str ⟨#[c]⟩) σ H fun σ2 H3 => ti σ2 H3 fun b H4 => if b = true then te σ2 H4 fun v H5 => H5 D = some (.lst xs) ∧ xs.length < sizeLine ∧ Pv (i + 1) σ2 (xs ++ [v]) (upd H5 D (.lst (xs ++ [v]))) else Pv (i + 1) σ2 xs H4)
    (hd : ∀ σ xs H, Pv z.cps.size σ xs H → QD H) :
    ∃ W : Nat → Nat → St → List V → Hp → Prop, (∃ m, W 0 m σ [] (upd H D (.lst []))) ∧ ∀ i m σ' xs H', W i m σ' xs H' → H' D = some (.lst xs) ∧
      (((Its z).stop i H' ∧ QD H') ∨ ((Its z).go i H' ∧ ∃ N : St → List V → Hp → Prop, (∀ σ2 ys H2, N σ2 ys H2 → ∃ m', m' < m ∧ W (i + 1) m' σ2 ys H2) ∧ ∀ x H2, (Its z).yld i H' x H2 → g x σ' H2 fun σ2 H3 => ti σ2 H3 fun b H4 =>
        if b = true then te σ2 H4 fun v H5 => H5 D = some (.lst xs) ∧ xs.length < sizeLine ∧ N σ2 (xs ++ [v]) (upd H5 D (.lst (xs ++ [v]))) else N σ2 xs H4)) := by
  refine ⟨fun i m σ xs H => m = z.cps.size - i ∧ i ≤ z.cps.size ∧ Pv i σ xs H, ⟨z.cps.size, by simp, Nat.zero_le _, h0⟩, ?_⟩
  rintro i m σ xs H ⟨rfl, hi, p⟩
  refine ⟨hD i σ xs H p, ?_⟩
  by_cases hlt : i < z.cps.size
  · refine .inr ⟨hlt, Pv (i + 1), fun σ' ys H' p' => ⟨z.cps.size - (i + 1), by omega, rfl, hlt, p'⟩, fun x H' yl => ?_⟩
    obtain ⟨e, c, hc, e2⟩ := yl
    subst e e2
    exact hs i c σ xs _ hc p
  · have e : i = z.cps.size := by omega
    subst e
    exact .inl ⟨Nat.le_refl _, hd σ xs H p⟩
theorem comp_listH {K : PySem.W.Frag} {a : Addr} {ys : List V} {g : TG} {ti : TT} {te : TE} {σ : St} {H : Hp} {D : Addr} {QD : Hp → Prop} (Pv : Nat → St → List V → Hp → Prop) (h0 : Pv 0 σ [] (upd H D (.lst []))) (hD : ∀ i σ xs H, Pv i σ xs H → H D = some (.lst xs))
    (hl : ∀ i σ xs H, Pv i σ xs H → SqL K H a ys)
    (hs : ∀ i y σ xs H, ys[i]? = some y → Pv i σ xs H → g y σ H fun σ2 H3 => ti σ2 H3 fun b H4 => if b = true then te σ2 H4 fun v H5 => H5 D = some (.lst xs) ∧ xs.length < sizeLine ∧ Pv (i + 1) σ2 (xs ++ [v]) (upd H5 D (.lst (xs ++ [v]))) else Pv (i + 1) σ2 xs H4)
    (hd : ∀ σ xs H, Pv ys.length σ xs H → QD H) :
    ∃ W : Nat → Nat → St → List V → Hp → Prop, (∃ m, W 0 m σ [] (upd H D (.lst []))) ∧ ∀ i m σ' xs H', W i m σ' xs H' → H' D = some (.lst xs) ∧
      (((Itl K a).stop i H' ∧ QD H') ∨ ((Itl K a).go i H' ∧ ∃ N : St → List V → Hp → Prop, (∀ σ2 ys H2, N σ2 ys H2 → ∃ m', m' < m ∧ W (i + 1) m' σ2 ys H2) ∧ ∀ x H2, (Itl K a).yld i H' x H2 → g x σ' H2 fun σ2 H3 => ti σ2 H3 fun b H4 =>
        if b = true then te σ2 H4 fun v H5 => H5 D = some (.lst xs) ∧ xs.length < sizeLine ∧ N σ2 (xs ++ [v]) (upd H5 D (.lst (xs ++ [v]))) else N σ2 xs H4)) := by
  refine ⟨fun i m σ xs H => m = ys.length - i ∧ i ≤ ys.length ∧ Pv i σ xs H, ⟨ys.length, by simp, Nat.zero_le _, h0⟩, ?_⟩
  rintro i m σ xs H ⟨rfl, hi, p⟩
  have q := hl i σ xs H p
  refine ⟨hD i σ xs H p, ?_⟩
  by_cases hlt : i < ys.length
  · refine .inr ⟨⟨ys, ys[i], q, by simp [hlt]⟩, Pv (i + 1), fun σ' zs H' p' => ⟨ys.length - (i + 1), by omega, rfl, hlt, p'⟩, fun x H' yl => ?_⟩
    obtain ⟨e, yl⟩ := yl
    subst e
    exact hs i x σ xs _ (yl ys q) p
  · have e : i = ys.length := by omega
    subst e
    exact .inl ⟨⟨ys, q, Nat.le_refl _⟩, hd σ xs H p⟩
theorem comp_tupH {K : PySem.W.Frag} {a : Addr} {ys : List V} {g : TG} {ti : TT} {te : TE} {σ : St} {H : Hp} {D : Addr} {QD : Hp → Prop} (Pv : Nat → St → List V → Hp → Prop) (h0 : Pv 0 σ [] (upd H D (.lst []))) (hD : ∀ i σ xs H, Pv i σ xs H → H D = some (.lst xs))
    (hl : ∀ i σ xs H, Pv i σ xs H → SqT K H a ys)
    (hs : ∀ i y σ xs H, ys[i]? = some y → Pv i σ xs H → g y σ H fun σ2 H3 => ti σ2 H3 fun b H4 => if b = true then te σ2 H4 fun v H5 => H5 D = some (.lst xs) ∧ xs.length < sizeLine ∧ Pv (i + 1) σ2 (xs ++ [v]) (upd H5 D (.lst (xs ++ [v]))) else Pv (i + 1) σ2 xs H4)
    (hd : ∀ σ xs H, Pv ys.length σ xs H → QD H) :
    ∃ W : Nat → Nat → St → List V → Hp → Prop, (∃ m, W 0 m σ [] (upd H D (.lst []))) ∧ ∀ i m σ' xs H', W i m σ' xs H' → H' D = some (.lst xs) ∧
      (((Itt K a).stop i H' ∧ QD H') ∨ ((Itt K a).go i H' ∧ ∃ N : St → List V → Hp → Prop, (∀ σ2 ys H2, N σ2 ys H2 → ∃ m', m' < m ∧ W (i + 1) m' σ2 ys H2) ∧ ∀ x H2, (Itt K a).yld i H' x H2 → g x σ' H2 fun σ2 H3 => ti σ2 H3 fun b H4 =>
        if b = true then te σ2 H4 fun v H5 => H5 D = some (.lst xs) ∧ xs.length < sizeLine ∧ N σ2 (xs ++ [v]) (upd H5 D (.lst (xs ++ [v]))) else N σ2 xs H4)) := by
  refine ⟨fun i m σ xs H => m = ys.length - i ∧ i ≤ ys.length ∧ Pv i σ xs H, ⟨ys.length, by simp, Nat.zero_le _, h0⟩, ?_⟩
  rintro i m σ xs H ⟨rfl, hi, p⟩
  have q := hl i σ xs H p
  refine ⟨hD i σ xs H p, ?_⟩
  by_cases hlt : i < ys.length
  · refine .inr ⟨⟨ys, ys[i], q, by simp [hlt]⟩, Pv (i + 1), fun σ' zs H' p' => ⟨ys.length - (i + 1), by omega, rfl, hlt, p'⟩, fun x H' y => ?_⟩
    obtain ⟨e, y⟩ := y
    subst e
    exact hs i x σ xs _ (y ys q) p
  · have e : i = ys.length := by omega
    subst e
    exact .inl ⟨⟨ys, q, Nat.le_refl _⟩, hd σ xs H p⟩
/-- a tuple's names as a comprehension's target -/
theorem pg_tupC {X : Cx} {N : List Str} {sc : Scope} {C : Addr} {fp : List Addr} {s : Shared} {H : Hp} {xe : Value → Shared → Prop} {es : List Expr} {k : Nat} {pos : Pos} {t : TGs} {n : Nat} (hc : (cxC X N sc C fp s H xe).calm = true) (h : PGs (cxC X N sc C fp s H xe) es t)
    (hn : (assignEach es (cxC X N sc C fp s H xe).env).length = n := by rfl) (hst : (assignEach es (cxC X N sc C fp s H xe).env).findIdx? (·.1) = none := by rfl) : PG (cxC X N sc C fp s H xe) (.Tuple es k pos) (gTup X.K n t) := pg_tup hc h hn hst
end L2

set_option Elab.async false
set_option linter.all false
set_option maxRecDepth 100000
set_option maxHeartbeats 4000000
namespace L2
open PySem PySem.Spec PyProof.Rows
theorem ps_setC {X : Cx} {i0 : Nat} {y : Str} {py spos : Pos} {F T : List Str} {fr : List Nat} {sc : Scope} {elt target iter : Expr} {ifs : List Expr} {pos : Pos} {wi : TI} {g : TG} {ti : TT} {te : TE} (S : CompScope X F T fr sc) (hc : X.calm = true) (hi : PI X target iter wi)
    (hg : ∀ C fp s H xe, PG (cxC X (F ++ T) sc C fp s H xe) target g) (hti : ∀ C fp s H xe, PIfs (cxC X (F ++ T) sc C fp s H xe) ifs ti) (he : ∀ C fp s H xe, PE (cxC X (F ++ T) sc C fp s H xe) elt te)
    (hN : X.N.Nodup) (hiy : X.N[i0]? = some y) (hly : X.env.scope.names.lookup y = some .local) (hex : X.ex = [])
    (hsw : swapsWith (.ListComp elt [⟨target, iter, ifs, 0⟩] sc pos) (some (.Name y py)) spos.line X.env = pure true := by rfl) (hs : ∀ x, foldedSetIterable iter X.env x = pure x := by intro _; rfl) : PS X (.Assign [.Name y py] (.ListComp elt [⟨target, iter, ifs, 0⟩] sc pos) spos) (tAsg (tComp wi fr T g ti te) (gName i0)) := by
  intro pins s σ H DD I h
  rw [exec_Assign_Name_used _ _ _ _ hsw]
  refine wpAny_bind (wpAny_standAt (wpAny_bind ?_))
  show wpAny _ X.A (do let _ ← comprehension (.ListComp elt [⟨target, iter, ifs, 0⟩] sc pos) sc X.env _ (newList []) false (eval iter X.env) (some (assign (.Name y py) X.env))) _ _ s
  refine wpAny_bind (wpAny_mono (wpAny_comprehension_free (use := some (assign (.Name y py) X.env)) (Q := fun _ s' => SP X pins DD .next s') rfl hs (closure_ok fun p hp hf => ?_) S.kind S.locals ?_) (fun _ s' hq => wpAny_pure (wpAny_pure hq)) fun _ _ e => e)
  · exact I.ok.has p.1 (.inl (S.frees p hp hf))
  refine thn (hi pins s σ H _ I h) fun v s1 h1 => thn h1 fun itv s2 h2 => ?_
  obtain ⟨it, fp, tn, J, H2, e, I2, T2, st2, f2, hD⟩ := h2
  subst e
  have hfo : ∀ b ∈ fp, b < s2.heap.objs.size := fun b hb => by
    obtain ⟨o, e, _⟩ := T2.obj _ _ st2 b hb
    exact Heap.lt_size e
  -- the new list
  refine wpAny_newObj_type ?_
  have hDn : H2 s2.heap.objs.size = none := I2.hok.fresh (Nat.le_refl _)
  obtain ⟨W, ⟨m0, w0⟩, turn⟩ := hD s2.heap.objs.size hDn
  have I3 : Inv X pins σ (upd H2 s2.heap.objs.size (.lst [])) { s2 with heap := s2.heap.push { cls := .type "list", dict := none, data := .seq ([] : List Value).toArray } } :=
    I2.laid (t' := s2.toks) (fun b u e => Heap.get?_push_of_some _ e) (Nat.le_refl _) ⟨Nat.zero_le _, [], 0, .nil, Heap.get?_push_size _ rfl⟩
  generalize hs3 : ({ s2 with heap := s2.heap.push { cls := .type "list", dict := none, data := .seq ([] : List Value).toArray } } : Shared) = s3 at I3
  have hsz3 : s3.heap.objs.size = s2.heap.objs.size + 1 := by rw [← hs3]; exact Heap.size_push _ _
  have neD : ∀ b ∈ fp, b ≠ s2.heap.objs.size := fun b hb => Nat.ne_of_lt (hfo b hb)
  have f3 : ∀ b ∈ fp, FpOk X pins (upd H2 s2.heap.objs.size (.lst [])) b := fun b hb => ⟨by rw [upd_ne (neD b hb)]; exact (f2 b hb).1, (f2 b hb).2⟩
  have hfo3 : ∀ b ∈ fp, b < s3.heap.objs.size := fun b hb => by rw [hsz3]; exact Nat.lt_succ_of_lt (hfo b hb)
  have st3 : tn 0 s3.heap := T2.keep _ _ _ st2 fun b hb o e => by rw [← hs3]; exact Heap.get?_push_of_some _ e
  generalize hDD : s2.heap.objs.size = D at *
  -- the frame
  refine wpAny_newFunctionEnv S.nocell (by intro y hy; simp at hy) (fun h4 hn4 hsb4 => ?_) S.kind
  have old : ∀ b o, s3.heap.get? b = some o → h4.get? b = some o := fun b o e => hsb4.extBut b o (Nat.ne_of_lt (Heap.lt_size e)) (Heap.get?_push_of_some _ e)
  generalize hCC : s3.heap.objs.size = C at *
  let R : Result → Shared → Prop := compPost (model X.prog X.w) X.A X.xe (some (assign (.Name y py) X.env)) (fun _ s' => SP X pins DD .next s') (.ref D) C
  let xe : Value → Shared → Prop := notedBy (model X.prog X.w) X.A (compEnvC sc (clGo X.env sc.names []) C X.env) fun e s' => R (.error e) s'
  have I4 : Inv (cxC X (F ++ T) sc C fp s3 (upd H2 D (.lst [])) xe) [] (compSt fr T σ) (upd H2 D (.lst [])) { s3 with heap := h4, toks := s3.toks + ([] : List (Str × Value)).length } := by
    subst hCC
    exact inv_comp S I3 f3 hfo3 hn4 old
  have st4 : tn 0 h4 := T2.keep _ _ _ st3 fun b hb o e => old b o e
  have stat : ∀ {H' : Hp}, (∀ b ∈ fp, H' b = none) → ∀ b ∈ fp, FpOk (cxC X (F ++ T) sc C fp s3 (upd H2 D (.lst [])) xe) [] H' b := fun {H'} hn b hb => by
    refine ⟨hn b hb, ?_, ?_, .inl hb, fun x c e => ?_, fun p hp => absurd (show p ∈ ([] : List (Addr × Obj)) from hp) (by simp)⟩
    · exact (I4.ok.exf b hb).1
    · exact I4.ok.exfs b hb
    · exact (I4.ok.exf b hb).2 x c e
  have loop : ∀ s5 : Shared, s5 = { s3 with heap := h4, toks := s3.toks + ([] : List (Str × Value)).length } →
      codeAny (model X.prog X.w) X.A (.compLoop (.ListComp elt [⟨target, iter, ifs, 0⟩] sc pos) 0 (.ref it) (.ref D) (compEnvC sc (clGo X.env sc.names []) C X.env)) R s5 := by
    rintro s5 rfl
    refine compLoop_any (fun n s' => ∃ i σ' xs H', Inv (cxC X (F ++ T) sc C fp s3 (upd H2 D (.lst [])) xe) [] σ' H' s' ∧ tn i s'.heap ∧ (∀ b ∈ fp, H' b = none) ∧ W i n σ' xs H') ?_ m0 ⟨0, _, [], _, I4, st4, fun b hb => (f3 b hb).1, w0⟩
    rintro n s6 ⟨i, σ6, xs, H6, I6, st6, fr6, w6⟩
    obtain ⟨hD6, tt⟩ := turn i n σ6 xs H6 w6
    rcases tt with ⟨stop, qn⟩ | ⟨go, NN, hNN, step⟩
    · refine thn (T2.done (cxC X (F ++ T) sc C fp s3 (upd H2 D (.lst [])) xe) rfl rfl rfl hc i [] s6 σ6 H6 xe I6 (stat fr6) st6 stop) fun r s7 ⟨hr, I7⟩ => ?_
      subst hr
      obtain ⟨m7, hn7, _⟩ := I7.loc
      have hCn : H6 C = none := I7.free
      have I8 : Inv X pins σ H6 s7 := I3.call' (s' := s7) (H' := H6) (ch := fp) I7.os I7.base I7.hok I7.bare fun b hb => by
        obtain ⟨_, q1, _, q2, q3, q4⟩ := f3 b hb
        exact ⟨q2, q1, q3, q4⟩
      have Cge : X.s₀.heap.objs.size ≤ C := by rw [← hCC]; exact I3.sz
      have CL : C ≠ X.env.locals := fun z => by
        have := I3.lt
        rw [← z, ← hCC] at this
        exact Nat.lt_irrefl _ this
      have CC : ∀ z c, X.env.cells.lookup z = some c → c ≠ C := fun z c e q => by
        obtain ⟨v, hv⟩ := I3.cell z c e
        have := hv.lt
        rw [q, ← hCC] at this
        exact Nat.lt_irrefl _ this
      have CP : ∀ p ∈ X.pn ++ pins, p.1 ≠ C := fun p hp q => by
        have := Heap.lt_size (I3.pin p hp).1
        rw [q, ← hCC] at this
        exact Nat.lt_irrefl _ this
      show wpAny _ X.A (assign (.Name y py) X.env (.ref D)) _ _ s7
      refine wpAny_assign_Name (store_ok2 I8 hN hiy (.inl hly) (v := .ref D) rfl (fun s8 I9 sb => ?_) (.inr hly))
      obtain ⟨a8, sb8, ha8⟩ := sb
      have a8C : C ≠ a8 := by
        rcases ha8 with z | z
        · rw [z]; exact CL
        · exact Ne.symm (CC _ _ z)
      refine ⟨m7, hn7.sameBut sb8 a8C, fun h9 hs9 => ⟨_, H6, ?_, qn⟩⟩
      exact I9.turned (it := C) (t' := s8.toks) (fun b o nb e => (hs9.2 b nb).trans e) hCn CL (.inr Cge) CC CP
    · refine thn (T2.item (cxC X (F ++ T) sc C fp s3 (upd H2 D (.lst [])) xe) rfl rfl rfl hc i [] s6 σ6 H6 xe I6 (stat fr6) st6 go) fun r s7 ⟨u, hr, h7⟩ => ?_
      subst hr
      refine thn h7 fun _ s8 ⟨x, H8, I8, r8, y8, st8, fr8⟩ => ?_
      have I8' := I8.pinned (stat fr8) (T2.obj _ _ st8)
      have back : ∀ {s9 : Shared} {σ9 : St} {H9 : Hp}, Inv (cxC X (F ++ T) sc C fp s3 (upd H2 D (.lst [])) xe) ([] ++ pinsAt fp s8.heap) σ9 H9 s9 → Inv (cxC X (F ++ T) sc C fp s3 (upd H2 D (.lst [])) xe) [] σ9 H9 s9 ∧ tn (i + 1) s9.heap ∧ ∀ b ∈ fp, H9 b = none := fun {s9 σ9 H9} I9 => by
        refine ⟨I9.unpinned, T2.keep _ _ _ st8 fun b hb o e => (I9.pin (b, o) (List.mem_append_right _ (List.mem_append_right _ (mem_pinsAt hb e)))).1, fun b hb => ?_⟩
        obtain ⟨o, e, d⟩ := T2.obj _ _ st8 b hb
        exact (I9.pin (b, o) (List.mem_append_right _ (List.mem_append_right _ (mem_pinsAt hb e)))).2.1
      refine thn (hg C fp s3 _ xe _ s8 σ6 H8 x u _ I8' r8 (step x H8 y8)) fun _ s9 ⟨σ9, H9, I9, q9⟩ => ?_
      refine thn (hti C fp s3 _ xe _ s9 σ9 H9 _ I9 q9) fun ok s10 ⟨H10, I10, q10⟩ => ?_
      cases ok with
      | false =>
        rw [if_neg Bool.false_ne_true] at q10 ⊢
        obtain ⟨m', hm, w'⟩ := hNN _ _ _ q10
        obtain ⟨b1, b2, b3⟩ := back I10
        exact ⟨m', hm, i + 1, σ9, xs, H10, b1, b2, b3, w'⟩
      | true =>
        rw [if_pos rfl] at q10 ⊢
        refine thn (he C fp s3 _ xe _ s10 σ9 H10 _ I10 q10) fun x11 s11 ⟨v11, H11, I11, r11, hD11, hz, q11⟩ => ?_
        obtain ⟨m', hm, w'⟩ := hNN _ _ _ q11
        refine thn (mt_append _ s11 σ9 H11 (.ref D) [v11] (.ref D) [x11] (fun _ H' => H' = upd H11 D (.lst (xs ++ [v11]))) I11 rfl (.cons r11 .nil) ⟨D, xs, v11, rfl, rfl, hD11, hz, rfl⟩) fun _ s12 ⟨_, H12, I12, _, e12⟩ => ?_
        subst e12
        obtain ⟨b1, b2, b3⟩ := back I12
        exact ⟨m', hm, i + 1, σ9, _, _, b1, b2, b3, w'⟩
  have st5 : codeAny (model X.prog X.w) X.A (.compStart (.ListComp elt [⟨target, iter, ifs, 0⟩] sc pos) 0 (.ref it) (.ref D) (compEnvC sc (clGo X.env sc.names []) C X.env)) R { s3 with heap := h4, toks := s3.toks + ([] : List (Str × Value)).length } :=
    codeAny_compStart_list (loop _ rfl) (T2.self _ 0 _ _ _ st4 (loop _ rfl))
  subst hs3
  exact st5

end L2

set_option Elab.async false
set_option linter.all false
set_option maxRecDepth 100000
namespace My
open PySem L2
/-! ### the draw: a dict of five, a list of ints -/
def kvD (l : Addr) (a b c : Int) (g : Bool) : List (Key × V) := [(Sum.inr "cells", .ref l), (Sum.inr "at", .int a), (Sum.inr "left", .int b), (Sum.inr "number", .int c), (Sum.inr "digits", .bl g)]
theorem ce_at : ¬ (Sum.inr "cells" : Key) = (Sum.inr "at" : Key) := by decide +kernel
theorem ce_le : ¬ (Sum.inr "cells" : Key) = (Sum.inr "left" : Key) := by decide +kernel
theorem ce_nu : ¬ (Sum.inr "cells" : Key) = (Sum.inr "number" : Key) := by decide +kernel
theorem ce_di : ¬ (Sum.inr "cells" : Key) = (Sum.inr "digits" : Key) := by decide +kernel
theorem at_le : ¬ (Sum.inr "at" : Key) = (Sum.inr "left" : Key) := by decide +kernel
theorem at_nu : ¬ (Sum.inr "at" : Key) = (Sum.inr "number" : Key) := by decide +kernel
theorem at_di : ¬ (Sum.inr "at" : Key) = (Sum.inr "digits" : Key) := by decide +kernel
theorem le_nu : ¬ (Sum.inr "left" : Key) = (Sum.inr "number" : Key) := by decide +kernel
theorem le_di : ¬ (Sum.inr "left" : Key) = (Sum.inr "digits" : Key) := by decide +kernel
theorem nu_di : ¬ (Sum.inr "number" : Key) = (Sum.inr "digits" : Key) := by decide +kernel
theorem le_at : ¬ (Sum.inr "left" : Key) = (Sum.inr "at" : Key) := fun h => at_le h.symm
theorem nu_at : ¬ (Sum.inr "number" : Key) = (Sum.inr "at" : Key) := fun h => at_nu h.symm
theorem di_at : ¬ (Sum.inr "digits" : Key) = (Sum.inr "at" : Key) := fun h => at_di h.symm
theorem nu_le : ¬ (Sum.inr "number" : Key) = (Sum.inr "left" : Key) := fun h => le_nu h.symm
theorem di_le : ¬ (Sum.inr "digits" : Key) = (Sum.inr "left" : Key) := fun h => le_di h.symm
theorem di_nu : ¬ (Sum.inr "digits" : Key) = (Sum.inr "number" : Key) := fun h => nu_di h.symm
section
variable {κ : Type} [DecidableEq κ] {k1 k2 k3 k4 k5 : κ} {v1 v2 v3 v4 v5 : V}
theorem put5_2 (x : V) (h1 : ¬ k1 = k2) (h3 : ¬ k3 = k2) (h4 : ¬ k4 = k2) (h5 : ¬ k5 = k2) : putK [(k1, v1), (k2, v2), (k3, v3), (k4, v4), (k5, v5)] k2 x = [(k1, v1), (k2, x), (k3, v3), (k4, v4), (k5, v5)] := by simp [putK, h1, h3, h4, h5]
theorem put5_3 (x : V) (h1 : ¬ k1 = k3) (h2 : ¬ k2 = k3) (h4 : ¬ k4 = k3) (h5 : ¬ k5 = k3) : putK [(k1, v1), (k2, v2), (k3, v3), (k4, v4), (k5, v5)] k3 x = [(k1, v1), (k2, v2), (k3, x), (k4, v4), (k5, v5)] := by simp [putK, h1, h2, h4, h5]
theorem put5_4 (x : V) (h1 : ¬ k1 = k4) (h2 : ¬ k2 = k4) (h3 : ¬ k3 = k4) (h5 : ¬ k5 = k4) : putK [(k1, v1), (k2, v2), (k3, v3), (k4, v4), (k5, v5)] k4 x = [(k1, v1), (k2, v2), (k3, v3), (k4, x), (k5, v5)] := by simp [putK, h1, h2, h3, h5]
theorem made5 (h12 : ¬ k1 = k2) (h13 : ¬ k1 = k3) (h14 : ¬ k1 = k4) (h15 : ¬ k1 = k5) (h23 : ¬ k2 = k3) (h24 : ¬ k2 = k4) (h25 : ¬ k2 = k5) (h34 : ¬ k3 = k4) (h35 : ¬ k3 = k5) (h45 : ¬ k4 = k5) :
    putK (putK (putK (putK (putK [] k1 v1) k2 v2) k3 v3) k4 v4) k5 v5 = [(k1, v1), (k2, v2), (k3, v3), (k4, v4), (k5, v5)] := by simp [putK, h12, h13, h14, h15, h23, h24, h25, h34, h35, h45]
end
section
variable {H : Hp} {d l : Addr} {a b c : Int} {g : Bool}
theorem dg_cells (h : H d = some (.dK (kvD l a b c g))) : DGet H d (.str "cells") (some (.ref l)) := by
  have q := DGet.k (k := Sum.inr "cells") h
  rw [kvD, valV_pos rfl] at q
  exact q
theorem dg_at (h : H d = some (.dK (kvD l a b c g))) : DGet H d (.str "at") (some (.int a)) := by
  have q := DGet.k (k := Sum.inr "at") h
  rw [kvD, valV_neg ce_at, valV_pos rfl] at q
  exact q
theorem dg_left (h : H d = some (.dK (kvD l a b c g))) : DGet H d (.str "left") (some (.int b)) := by
  have q := DGet.k (k := Sum.inr "left") h
  rw [kvD, valV_neg ce_le, valV_neg at_le, valV_pos rfl] at q
  exact q
theorem dg_number (h : H d = some (.dK (kvD l a b c g))) : DGet H d (.str "number") (some (.int c)) := by
  have q := DGet.k (k := Sum.inr "number") h
  rw [kvD, valV_neg ce_nu, valV_neg at_nu, valV_neg le_nu, valV_pos rfl] at q
  exact q
theorem dg_digits (h : H d = some (.dK (kvD l a b c g))) : DGet H d (.str "digits") (some (.bl g)) := by
  have q := DGet.k (k := Sum.inr "digits") h
  rw [kvD, valV_neg ce_di, valV_neg at_di, valV_neg le_di, valV_neg nu_di, valV_pos rfl] at q
  exact q
theorem pk_at (x : Int) : putK (kvD l a b c g) (Sum.inr "at") (.int x) = kvD l x b c g := put5_2 _ ce_at le_at nu_at di_at
theorem pk_left (x : Int) : putK (kvD l a b c g) (Sum.inr "left") (.int x) = kvD l a x c g := put5_3 _ ce_le at_le nu_le di_le
theorem pk_number (x : Int) : putK (kvD l a b c g) (Sum.inr "number") (.int x) = kvD l a b x g := put5_4 _ ce_nu at_nu le_nu di_nu
theorem five : (kvD l a b c g).length < sizeLine := small1000 (by show 5 ≤ 1000; decide)
theorem dp_at (h : H d = some (.dK (kvD l a b c g))) (x : Int) : DPut H d (.str "at") (.int x) (upd H d (.dK (kvD l x b c g))) := by
  have q := DPut.k (k := Sum.inr "at") (v := .int x) h five
  rw [pk_at] at q
  exact q
theorem dp_left (h : H d = some (.dK (kvD l a b c g))) (x : Int) : DPut H d (.str "left") (.int x) (upd H d (.dK (kvD l a x c g))) := by
  have q := DPut.k (k := Sum.inr "left") (v := .int x) h five
  rw [pk_left] at q
  exact q
theorem dp_number (h : H d = some (.dK (kvD l a b c g))) (x : Int) : DPut H d (.str "number") (.int x) (upd H d (.dK (kvD l a b x g))) := by
  have q := DPut.k (k := Sum.inr "number") (v := .int x) h five
  rw [pk_number] at q
  exact q
theorem kv_merge : mergeK [] [((Sum.inr "cells" : Key), V.ref l), (Sum.inr "at", .int a), (Sum.inr "left", .int b), (Sum.inr "number", .int c), (Sum.inr "digits", .bl g)] = kvD l a b c g := made5 ce_at ce_le ce_nu ce_di at_le at_nu at_di le_nu le_di nu_di
end
structure DrawAt (H : Hp) (d l : Addr) (cs : List Int) (n : Nat) : Prop where
  dc : ∃ (a b c : Int) (g : Bool), H d = some (.dK (kvD l a b c g)) ∧ 0 ≤ a ∧ a ≤ n
  ls : H l = some (.lst (cs.map V.int))
  ne : cs ≠ []
/-- all but d is as it was -/
def But (d : Addr) (H H' : Hp) : Prop := ∀ b o, H b = some o → b ≠ d → H' b = some o
theorem But.refl (d : Addr) (H : Hp) : But d H H := fun _ _ h _ => h
theorem But.trans {d : Addr} {H H1 H2 : Hp} (x : But d H H1) (y : But d H1 H2) : But d H H2 := fun b o h n => y b o (x b o h n) n
theorem But.upd (d : Addr) (H : Hp) (o : HO) : But d H (upd H d o) := fun b u h n => by rw [upd_ne n]; exact h
theorem DrawAt.nel {H : Hp} {d l : Addr} {cs : List Int} {n : Nat} (D : DrawAt H d l cs n) : l ≠ d := by
  obtain ⟨a, b, c, g, h, _⟩ := D.dc
  exact ne_of D.ls h (by intro z; cases z)
theorem DrawAt.mono {H : Hp} {d l : Addr} {cs : List Int} {n m : Nat} (D : DrawAt H d l cs n) (h : n ≤ m) : DrawAt H d l cs m := by
  obtain ⟨⟨a, b, c, g, q, q0, q1⟩, ls, ne⟩ := D
  exact ⟨⟨a, b, c, g, q, q0, Int.le_trans q1 (Int.ofNat_le.mpr h)⟩, ls, ne⟩
/-- a tracked thing that is neither is kept -/
theorem DrawAt.keep {H H' : Hp} {d l : Addr} {cs : List Int} {n : Nat} (D : DrawAt H d l cs n) (k : ∀ b o, H b = some o → H' b = some o) : DrawAt H' d l cs n := by
  obtain ⟨⟨a, b, c, g, q, q0, q1⟩, ls, ne⟩ := D
  exact ⟨⟨a, b, c, g, k _ _ q, q0, q1⟩, k _ _ ls, ne⟩
/-- pick's promise: a number below many; the draw again -/
def spPick : Sp := fun vs H Q _ => ∃ (d l : Addr) (cs : List Int) (n : Nat) (many : Int), vs = [.ref d, .int many] ∧ 0 < many ∧ many < 1073741824 ∧ DrawAt H d l cs n ∧ n < 1000000000 ∧
  ∀ (v : Int) (H' : Hp), 0 ≤ v → v < many → DrawAt H' d l cs (n + 1) → But d H H' → Q (.int v) H'
def spDrawn (K : PySem.W.Frag) : Sp := fun vs H Q _ => ∃ (a : Addr) (ns : List Int), vs = [.ref a] ∧ SqL K H a (ns.map V.int) ∧ ns.length ≤ 63 ∧
  ∀ (d l : Addr) (cs : List Int) (H' : Hp), H d = none → H l = none → DrawAt H' d l cs 0 → Same H H' → Q (.ref d) H'
/-- a def as the top has left it -/
structure Def (K : PySem.W.Frag) (mg : Str → Option Value) (x : Str) (st : Stmt) (ps : List Str) (f : Addr) (fd : FuncData) : Prop where
  F : Fun K x x st f fd
  m : mg x = some (.ref f)
  b : Binds K fd ps []
end My

set_option Elab.async false
set_option linter.all false
set_option maxRecDepth 100000
namespace L2
open PySem PySem.Spec PyProof.Rows
section
variable {X : Cx} {a : Expr} {ta : TE} {es : List Expr} {pos pos2 : Pos} {k2 : Nat}
/-! ### x in (a written tuple): the tuple isn't tracked -/
def tInC (neg : Bool) (ta : TE) (vs : List V) : TE := fun σ H Q => ta σ H fun x H1 => flatV x = true ∧ vs.all flatV = true ∧ vs.length ≤ sizeLine ∧ Q (.bl (if neg then !inV x vs else inV x vs)) H1
end
end L2

set_option Elab.async false
set_option linter.all false
set_option maxRecDepth 100000
namespace L2
open PySem PySem.Spec PyProof.Rows
/-! ### readings by simp -/
theorem scal_ii (a b : Int) : scal (.int a) (.int b) = true := rfl
theorem scal_ss (a b : Str) : scal (.str a) (.str b) = true := rfl
theorem scal_bb (a b : Bool) : scal (.bl a) (.bl b) = true := rfl
theorem scal_nn : scal .non .non = true := rfl
theorem scal_is (a : Int) (b : Str) : scal (.int a) (.str b) = true := rfl
theorem scal_si (a : Str) (b : Int) : scal (.str a) (.int b) = true := rfl
theorem scal_sn (a : Str) : scal (.str a) .non = true := rfl
theorem scal_ns (a : Str) : scal .non (.str a) = true := rfl
theorem flat_i (a : Int) : flatV (.int a) = true := rfl
theorem flat_s (a : Str) : flatV (.str a) = true := rfl
theorem flat_b (a : Bool) : flatV (.bl a) = true := rfl
theorem flat_n : flatV .non = true := rfl
theorem le_line {n : Nat} (h : n ≤ 1000) : (n ≤ sizeLine) = True := eq_true (Nat.le_trans h (by decide))
theorem ex_get {v : V} {p : V → Prop} : (∃ w, some (some v) = some (some w) ∧ p w) = p v := propext ⟨fun ⟨_, e, h⟩ => by cases e; exact h, fun h => ⟨v, rfl, h⟩⟩
theorem ex_int {i : Int} {p : Int → Prop} : (∃ j, V.int i = V.int j ∧ p j) = p i := propext ⟨fun ⟨_, e, h⟩ => by cases e; exact h, fun h => ⟨i, rfl, h⟩⟩
theorem ex_str {i : Str} {p : Str → Prop} : (∃ j, V.str i = V.str j ∧ p j) = p i := propext ⟨fun ⟨_, e, h⟩ => by cases e; exact h, fun h => ⟨i, rfl, h⟩⟩
theorem ex_bl {i : Bool} {p : Bool → Prop} : (∃ j, V.bl i = V.bl j ∧ p j) = p i := propext ⟨fun ⟨_, e, h⟩ => by cases e; exact h, fun h => ⟨i, rfl, h⟩⟩
theorem ex_ref {i : Addr} {p : Addr → Prop} : (∃ j, V.ref i = V.ref j ∧ p j) = p i := propext ⟨fun ⟨_, e, h⟩ => by cases e; exact h, fun h => ⟨i, rfl, h⟩⟩
theorem ex_int2 {i i' : Int} {p : Int → Int → Prop} : (∃ j j', V.int i = V.int j ∧ V.int i' = V.int j' ∧ p j j') = p i i' := propext ⟨fun ⟨_, _, e, e', h⟩ => by cases e; cases e'; exact h, fun h => ⟨i, i', rfl, rfl, h⟩⟩
theorem ex_str2 {i i' : Str} {p : Str → Str → Prop} : (∃ j j', V.str i = V.str j ∧ V.str i' = V.str j' ∧ p j j') = p i i' := propext ⟨fun ⟨_, _, e, e', h⟩ => by cases e; cases e'; exact h, fun h => ⟨i, i', rfl, rfl, h⟩⟩
theorem dec_true {p : Prop} [Decidable p] : (decide p = true) = p := propext decide_eq_true_iff
theorem at0 {α : Type} {a : α} {xs : List α} : atI (a :: xs) 0 = some a := atI_nat (j := 0) rfl
theorem at1 {α : Type} {a b : α} {xs : List α} : atI (a :: b :: xs) 1 = some b := atI_nat (j := 1) rfl
theorem at2 {α : Type} {a b c : α} {xs : List α} : atI (a :: b :: c :: xs) 2 = some c := atI_nat (j := 2) rfl
theorem at3 {α : Type} {a b c d : α} {xs : List α} : atI (a :: b :: c :: d :: xs) 3 = some d := atI_nat (j := 3) rfl
theorem at4 {α : Type} {a b c d e : α} {xs : List α} : atI (a :: b :: c :: d :: e :: xs) 4 = some e := atI_nat (j := 4) rfl
theorem at5 {α : Type} {a b c d e f : α} {xs : List α} : atI (a :: b :: c :: d :: e :: f :: xs) 5 = some f := atI_nat (j := 5) rfl
theorem at6 {α : Type} {a b c d e f g : α} {xs : List α} : atI (a :: b :: c :: d :: e :: f :: g :: xs) 6 = some g := atI_nat (j := 6) rfl
theorem at7 {α : Type} {a b c d e f g h : α} {xs : List α} : atI (a :: b :: c :: d :: e :: f :: g :: h :: xs) 7 = some h := atI_nat (j := 7) rfl
/-- a subscript by the tracked heap -/
def seqAt (H : Hp) (p : Addr) (i : Int) : Option V := match H p with
  | some (.tup xs) => atI xs i
  | some (.lst xs) => atI xs i
  | _ => none
def rIxM : R2 := fun x y H Q => ∃ p i, x = .ref p ∧ y = .int i ∧ ∃ v, seqAt H p i = some v ∧ Q v H
theorem seq_l {H : Hp} {p : Addr} {xs : List V} {i : Int} (h : H p = some (.lst xs)) : seqAt H p i = atI xs i := by unfold seqAt; rw [h]
theorem ex_some {α : Type} {x : α} {p : α → Prop} : (∃ v, some x = some v ∧ p v) = p x := propext ⟨fun ⟨_, e, h⟩ => by cases e; exact h, fun h => ⟨x, rfl, h⟩⟩
theorem ix_m {X : Cx} : IxR X rIxM := by
  intro value slice pins s σ H x y v u Q I rx ry h hs
  obtain ⟨p, i, rfl, rfl, z, h, hq⟩ := h
  unfold seqAt at h
  split at h
  · exact ix_tup value slice pins s σ H _ _ v u Q I rx ry ⟨p, _, i, z, rfl, rfl, SqT.of (by assumption), h, hq⟩ hs
  · exact ix_list value slice pins s σ H _ _ v u Q I rx ry ⟨p, _, i, z, rfl, rfl, SqL.of (by assumption), h, hq⟩ hs
  · cases h
theorem ex_ri {a : Addr} {i : Int} {p : Addr → Int → Prop} : (∃ j j', V.ref a = V.ref j ∧ V.int i = V.int j' ∧ p j j') = p a i := propext ⟨fun ⟨_, _, e, e', h⟩ => by cases e; cases e'; exact h, fun h => ⟨a, i, rfl, rfl, h⟩⟩
theorem upd_old {H : Hp} {a b : Addr} {o x : HO} (ha : H a = none) (hb : H b = some x) : upd H a o b = some x := by rw [upd_ne (ne_of_none hb ha)]; exact hb
def rSetM : V → V → V → Hp → (Hp → Prop) → Prop := fun o i v H Q => ∃ p k, o = .ref p ∧ i = .int k ∧ match H p with
  | some (.lst xs) => (match ixN xs.length k with | some j => Q (upd H p (.lst (xs.set j v))) | none => False)
  | _ => False
theorem ix30 : ixN 3 0 = some 0 := rfl
theorem ix31 : ixN 3 1 = some 1 := rfl
theorem ix32 : ixN 3 2 = some 2 := rfl
end L2

set_option Elab.async false
set_option linter.all false
set_option maxRecDepth 100000
namespace L2
open PySem PySem.Spec PyProof.Rows
/-! ### pure expressions: a value by the state, nothing made, nothing changed -/
abbrev Ev := St → Hp → Option V
def tEv (ev : Ev) : TE := fun σ H Q => ∃ v, ev σ H = some v ∧ Q v H
def PP (X : Cx) (e : Expr) (ev : Ev) : Prop := PE X e (tEv ev)
theorem pe_pp {X : Cx} {e : Expr} {ev : Ev} (h : PP X e ev) : PE X e (tEv ev) := h
def tEvT (ev : Ev) : TT := fun σ H Q => ∃ b, ev σ H = some (.bl b) ∧ Q b H
/-- from a rule of readings -/
theorem PP.of {X : Cx} {e : Expr} {t : TE} {ev : Ev} (h : PE X e t) (g : ∀ σ H Q v, ev σ H = some v → Q v H → t σ H Q) : PP X e ev :=
  fun pins s σ H Q I ⟨v, e1, q⟩ => h pins s σ H Q I (g σ H Q v e1 q)
def evVar (i : Nat) : Ev := fun σ _ => match σ[i]? with | some (some v) => some v | _ => none
def evC (v : V) : Ev := fun _ _ => some v
def ev2 (f : V → V → Option V) (a b : Ev) : Ev := fun σ H => match a σ H with | some x => (match b σ H with | some y => f x y | none => none) | none => none
def ev1 (f : V → Option V) (a : Ev) : Ev := fun σ H => match a σ H with | some x => f x | none => none
theorem ev2_some {f : V → V → Option V} {a b : Ev} {σ : St} {H : Hp} {v : V} (h : ev2 f a b σ H = some v) : ∃ x y, a σ H = some x ∧ b σ H = some y ∧ f x y = some v := by
  unfold ev2 at h
  split at h
  · rename_i x e1
    split at h
    · rename_i y e2
      exact ⟨x, y, e1, e2, h⟩
    · cases h
  · cases h
section
variable {X : Cx} {a b c : Expr} {ea eb ec : Ev} {pos pos2 : Pos}
theorem pp_var (i : Nat) {x : Str} {pos : Pos} (hN : X.N[i]? = some x := by rfl) (hv : Vis X.env.scope x := by first | exact Or.inl rfl | exact Or.inr (Or.inl rfl) | exact Or.inr (Or.inr rfl)) (hd : (x == ("__debug__" : Str)) = false := by decide)
    (hcd : (x == ("__classdict__" : Str)) = false := by decide) : PP X (.Name x pos) (evVar i) := by
  refine PP.of (pe_var hN hv hd hcd) fun σ H Q v h q => ?_
  unfold evVar at h
  split at h
  · rename_i u e
    have e2 : u = v := Option.some.inj h
    subst e2
    exact ⟨_, e, q⟩
  · cases h
theorem pp_c {e : Expr} {v : V} (h : PE X e (tC v)) : PP X e (evC v) := PP.of h fun σ H Q u e q => by
  have : v = u := Option.some.inj e
  subst this
  exact q
/-- two values, by a rule -/
theorem pp_op2 {op : Operator} {r : R2} {f : V → V → Option V} (ho : OpR X (binaryOp op) r) (g : ∀ x y v H Q, f x y = some v → Q v H → r x y H Q) (ha : PP X a ea) (hb : PP X b eb) : PP X (.BinOp a op b pos) (ev2 f ea eb) := by
  refine PP.of (pe_op ho ha hb) fun σ H Q v h q => ?_
  obtain ⟨x, y, e1, e2, e3⟩ := ev2_some h
  exact ⟨x, e1, y, e2, g x y v H Q e3 q⟩
def fI (k : Int → Int → V) : V → V → Option V | .int i, .int j => some (k i j) | _, _ => none
theorem fI_some {k : Int → Int → V} {x y v : V} (h : fI k x y = some v) : ∃ i j, x = .int i ∧ y = .int j ∧ k i j = v := by
  unfold fI at h
  split at h
  · exact ⟨_, _, rfl, rfl, Option.some.inj h⟩
  · cases h
theorem fI_ii {k : Int → Int → V} {i j : Int} : fI k (.int i) (.int j) = some (k i j) := rfl
def fEq : V → V → Option V := fun x y => if scal x y = true then some (.bl (decide (x = y))) else none
def fNe : V → V → Option V := fun x y => if scal x y = true then some (.bl (!decide (x = y))) else none
def kLt (i j : Int) : V := .bl (decide (i < j))
def kLe (i j : Int) : V := .bl (decide (i ≤ j))
def kGt (i j : Int) : V := .bl (decide (j < i))
def kGe (i j : Int) : V := .bl (decide (j ≤ i))
def kAdd (i j : Int) : V := .int (i + j)
def kSub (i j : Int) : V := .int (i - j)
theorem fI_r {k : Int → Int → V} {x y v : V} {H : Hp} {Q : VK} (h : fI k x y = some v) (q : Q v H) : rI0 k x y H Q := by
  obtain ⟨i, j, e1, e2, e3⟩ := fI_some h
  subst e3
  exact ⟨i, j, e1, e2, q⟩
theorem pp_sub (ha : PP X a ea) (hb : PP X b eb) : PP X (.BinOp a .Sub b pos) (ev2 (fI kSub) ea eb) := pp_op2 op_sub (fun _ _ _ _ _ h q => fI_r h q) ha hb
def fMod : V → V → Option V | .int i, .int j => if 0 < j then some (.int (i % j)) else none | _, _ => none
theorem fMod_lit {i j : Int} (h : 0 < j) : fMod (.int i) (.int j) = some (.int (i % j)) := by show (if 0 < j then _ else _) = _; rw [if_pos h]
def fDiv : V → V → Option V | .int i, .int j => if 0 < j ∧ j < 1073741824 then some (.int (i / j)) else none | _, _ => none
theorem fDiv_lit {i j : Int} (h : 0 < j) (h2 : j < 1073741824) : fDiv (.int i) (.int j) = some (.int (i / j)) := by show (if _ then _ else _) = _; rw [if_pos ⟨h, h2⟩]
/-- in, not in: a written tuple -/
def fIn (neg : Bool) (vs : List V) : V → Option V := fun x => if flatV x = true ∧ vs.all flatV = true ∧ vs.length ≤ sizeLine then some (.bl (if neg then !inV x vs else inV x vs)) else none
theorem fIn_s {neg : Bool} {vs : List V} {x : Str} (h : vs.all flatV = true) (h2 : vs.length ≤ 1000) : fIn neg vs (.str x) = some (.bl (if neg then !inV (.str x) vs else inV (.str x) vs)) := by
  unfold fIn; rw [if_pos ⟨rfl, h, Nat.le_trans h2 (by decide)⟩]
theorem fIn_i {neg : Bool} {vs : List V} {x : Int} (h : vs.all flatV = true) (h2 : vs.length ≤ 1000) : fIn neg vs (.int x) = some (.bl (if neg then !inV (.int x) vs else inV (.int x) vs)) := by
  unfold fIn; rw [if_pos ⟨rfl, h, Nat.le_trans h2 (by decide)⟩]
/-- and, or, not -/
def fAnd (x y : Option V) : Option V := match x with | some (.bl true) => y | some (.bl false) => some (.bl false) | _ => none
def fOr (x y : Option V) : Option V := match x with | some (.bl false) => y | some (.bl true) => some (.bl true) | _ => none
def evAnd (a b : Ev) : Ev := fun σ H => fAnd (a σ H) (b σ H)
def evOr (a b : Ev) : Ev := fun σ H => fOr (a σ H) (b σ H)
theorem fAnd_bb {p q : Bool} : fAnd (some (.bl p)) (some (.bl q)) = some (.bl (p && q)) := by cases p <;> rfl
theorem fOr_bb {p q : Bool} : fOr (some (.bl p)) (some (.bl q)) = some (.bl (p || q)) := by cases p <;> rfl
def fNot : V → Option V | .bl p => some (.bl (!p)) | _ => none
theorem fNot_b {p : Bool} : fNot (.bl p) = some (.bl (!p)) := rfl
variable {rest : List Expr}
/-- is None -/
def fIsN : V → V → Option V | x, .non => some (.bl (decide (x = .non))) | _, _ => none
def fNotN : V → V → Option V | x, .non => some (.bl (!decide (x = .non))) | _, _ => none
theorem fIsN_n {x : V} : fIsN x .non = some (.bl (decide (x = .non))) := by cases x <;> rfl
theorem fNotN_n {x : V} : fNotN x .non = some (.bl (!decide (x = .non))) := by cases x <;> rfl
/-- a[i] -/
def evIx (a b : Ev) : Ev := fun σ H => match a σ H, b σ H with | some (.ref p), some (.int i) => seqAt H p i | _, _ => none
theorem pp_ix (ha : PP X a ea) (hb : PP X b eb) (hs : PlainIx b) : PP X (.Subscript a b pos) (evIx ea eb) := by
  refine PP.of (pe_ix ix_m ha hb hs) fun σ H Q v h q => ?_
  unfold evIx at h
  split at h
  · rename_i e1 e2; exact ⟨_, e1, _, e2, _, _, rfl, rfl, v, h, q⟩
  · cases h
/-- a list of arguments -/
abbrev Evs := St → Hp → Option (List V)
def PPs' (X : Cx) (es : List Expr) (ev : Evs) : Prop := PA X es (fun σ H Q => ∃ vs, ev σ H = some vs ∧ Q vs H)
def evNil : Evs := fun _ _ => some []
def evCons (a : Ev) (r : Evs) : Evs := fun σ H => match a σ H with | some x => (match r σ H with | some xs => some (x :: xs) | none => none) | none => none
theorem ppa_nil : PPs' X [] evNil := fun pos pins s σ H Q I ⟨vs, e, q⟩ => by
  cases e
  exact pa_nil pos pins s σ H Q I q
theorem ppa_cons {e : Expr} {es : List Expr} {er : Evs} (ha : PP X e ea) (hr : PPs' X es er) (hs : starEach (e :: es) X.env = (false, eval e X.env) :: starEach es X.env := by rfl) : PPs' X (e :: es) (evCons ea er) := fun pos pins s σ H Q I ⟨vs, h, q⟩ => by
  refine pa_cons ha hr hs pos pins s σ H Q I ?_
  unfold evCons at h
  split at h
  · rename_i e1
    split at h
    · rename_i e2
      cases h
      exact ⟨_, e1, _, e2, q⟩
    · cases h
  · cases h
/-- a call of a def that only tells -/
abbrev Fv := List V → Hp → Option V
def spP (g : Fv) : Sp := fun vs H Q _ => ∃ v, g vs H = some v ∧ Q v H
def evCall (g : Fv) (r : Evs) : Ev := fun σ H => match r σ H with | some vs => g vs H | none => none
/-- len of a list or tuple -/
def lenAt (H : Hp) (p : Addr) : Option V := match H p with | some (.lst xs) => some (.int xs.length) | some (.tup xs) => some (.int xs.length) | _ => none
def evLen (r : Evs) : Ev := fun σ H => match r σ H with | some [.ref p] => lenAt H p | _ => none
theorem call_len_m : CallR X (.builtin "len") (fun xs H Q => ∃ p v, xs = [.ref p] ∧ lenAt H p = some v ∧ Q v H) := by
  intro pins s σ H xs us Q I r h
  obtain ⟨p, v, e, h, q⟩ := h
  unfold lenAt at h
  split at h
  · cases h; exact call_len_seq pins s σ H xs us Q I r ⟨p, _, e, .inl (SqL.of (by assumption)), q⟩
  · cases h; exact call_len_seq pins s σ H xs us Q I r ⟨p, _, e, .inr (SqT.of (by assumption)), q⟩
  · cases h
theorem pp_len {x : Str} {p : Pos} {e : Expr} {er : Evs} (hg : Gl X x) (hm : X.mg x = none) (hv : bootBuiltins x = some (.builtin "len")) (ha : PPs' X [e] er) (hx : x = "len" := by rfl) (he : starEach [e] X.env = (false, eval e X.env) :: starEach [] X.env := by rfl) (hpl : (backTo pos (starEach [] X.env)).any (·.1) = false := by rfl) : PP X (.Call (.Name x p) [e] [] pos) (evLen er) := by
  subst hx
  refine PP.of (pe_callB call_len_m hg hm hv ha (he := he) (hpl := hpl)) fun σ H Q v h q => ?_
  unfold evLen at h
  split at h
  · rename_i p e1
    exact ⟨_, e1, p, v, rfl, h, q⟩
  · cases h
/-- tests -/
def PTT (X : Cx) (e : Expr) (ev : Ev) : Prop := PT X e (tEvT ev)
def PTW (X : Cx) (e : Expr) (ev : Ev) : Prop := PW X e (tEvT ev)
theorem pt_pp {e : Expr} (h : PTT X e ea) : PT X e (tEvT ea) := h
theorem ptp_val {e : Expr} (h : PP X e ea) (he : ∀ whole, isTrue e X.env whole = (do let v ← whole; standAt e.pos; holding [v] (truthy v)) := by intro _; rfl) : PTT X e ea := by
  intro pins s σ H Q I ⟨b, e1, q⟩
  exact pt_val h he pins s σ H Q I ⟨.bl b, e1, b, rfl, q⟩
theorem ptp_cmp2 {op : CmpOp} {r : R2} {f : V → V → Option V} (ho : OpR X (compareOp op) r) (g : ∀ x y v H Q, f x y = some v → Q v H → r x y H Q) (ha : PP X a ea) (hb : PP X b eb) (hm : behindInMarks op b = false) : PTT X (.Compare a [op] [b] pos) (ev2 f ea eb) := by
  intro pins s σ H Q I ⟨k, h, q⟩
  obtain ⟨x, y, e1, e2, e3⟩ := ev2_some h
  exact pt_cmpR ho ha hb hm pins s σ H Q I ⟨x, e1, y, e2, g x y (.bl k) H _ e3 ⟨k, rfl, q⟩⟩
theorem ptp_eq (ha : PP X a ea) (hb : PP X b eb) : PTT X (.Compare a [.Eq] [b] pos) (ev2 fEq ea eb) := ptp_cmp2 op_eq (fun x y v H Q h q => by
  unfold fEq at h
  split at h
  · cases h; exact ⟨by assumption, q⟩
  · cases h) ha hb (nomark _)
theorem ptp_ne (ha : PP X a ea) (hb : PP X b eb) : PTT X (.Compare a [.NotEq] [b] pos) (ev2 fNe ea eb) := ptp_cmp2 op_ne (fun x y v H Q h q => by
  unfold fNe at h
  split at h
  · cases h; exact ⟨by assumption, q⟩
  · cases h) ha hb (nomark _)
theorem ptp_lt (ha : PP X a ea) (hb : PP X b eb) : PTT X (.Compare a [.Lt] [b] pos) (ev2 (fI kLt) ea eb) := ptp_cmp2 op_lt (fun _ _ _ _ _ h q => fI_r h q) ha hb (nomark _)
theorem ptp_gt (ha : PP X a ea) (hb : PP X b eb) : PTT X (.Compare a [.Gt] [b] pos) (ev2 (fI kGt) ea eb) := ptp_cmp2 op_gt (fun _ _ _ _ _ h q => fI_r h q) ha hb (nomark _)
theorem ptp_isN (ha : PP X a ea) (hb : PP X b eb) : PTT X (.Compare a [.Is] [b] pos) (ev2 fIsN ea eb) := ptp_cmp2 op_isN (fun x y v H Q h q => by
  unfold fIsN at h
  split at h
  · cases h; exact ⟨rfl, q⟩
  · cases h) ha hb (nomark _)
theorem ptw_or1 (ha : PTT X a ea) : PTW X (.BoolOp .Or [a] pos) ea := pw_or1 ha
theorem ptw_or (ha : PTT X a ea) (hb : PTW X (.BoolOp .Or (b :: rest) pos) eb) : PTW X (.BoolOp .Or (a :: b :: rest) pos) (evOr ea eb) := by
  intro wh pins s σ H Q I ⟨k, h, q⟩
  refine pw_or ha hb wh pins s σ H Q I ?_
  unfold evOr fOr at h
  split at h
  · rename_i e; exact ⟨false, e, iteF ⟨k, h, q⟩⟩
  · rename_i e; cases h; exact ⟨true, e, iteT q⟩
  · cases h
theorem PTW.t {e : Expr} (h : PTW X e ea) : PTT X e ea := fun pins s σ H Q I q => h _ pins s σ H Q I q
end
theorem ex_sbl {i : Bool} {p : Bool → Prop} : (∃ j, some (V.bl i) = some (V.bl j) ∧ p j) = p i := propext ⟨fun ⟨_, e, h⟩ => by cases e; exact h, fun h => ⟨i, rfl, h⟩⟩
theorem ex_cons {α : Type} {a : α} {as : List α} {p : α → List α → Prop} : (∃ v r, a :: as = v :: r ∧ p v r) = p a as := propext ⟨fun ⟨_, _, e, h⟩ => by cases e; exact h, fun h => ⟨a, as, rfl, h⟩⟩
end L2

set_option Elab.async false
set_option linter.all false
set_option maxRecDepth 100000
namespace L2
open PySem PySem.Spec PyProof.Rows
section
variable {X : Cx}
end
end L2

set_option Elab.async false
set_option linter.all false
set_option maxRecDepth 100000
namespace L2
open PySem PySem.Spec PyProof.Rows
/-! ### == and != of lists and tuples of any depth that hold the same -/
inductive DV where
  | fl (v : V)
  | tp (l : List DV)
  | ls (l : List DV)
mutual
def Deep (K : PySem.W.Frag) (H : Hp) : DV → V → Prop
  | .fl w, v => v = w ∧ flatV w = true
  | .tp l, v => ∃ a xs, v = .ref a ∧ SqT K H a xs ∧ DeepL K H l xs
  | .ls l, v => ∃ a xs, v = .ref a ∧ SqL K H a xs ∧ DeepL K H l xs
def DeepL (K : PySem.W.Frag) (H : Hp) : List DV → List V → Prop
  | [], xs => xs = []
  | d :: l, xs => ∃ x r, xs = x :: r ∧ Deep K H d x ∧ DeepL K H l r
end
mutual
def DV.dep : DV → Nat
  | .fl _ => 0
  | .tp l => DV.depL l + 1
  | .ls l => DV.depL l + 1
def DV.depL : List DV → Nat
  | [] => 0
  | d :: l => max (DV.dep d) (DV.depL l)
end
theorem eqV_self {w : V} (h : flatV w = true) : eqV w w = true := by
  cases w with
  | non => rfl
  | bl b => simp [eqV]
  | int i => simp [eqV]
  | str z => simp [eqV]
  | _ => exact absurd (show false = true from h) Bool.false_ne_true
theorem all_range_true (n : Nat) : (List.range n).all (fun _ => true) = true := by simp
section
variable {X : Cx} {pins : List (Addr × Obj)} {σ : St} {H : Hp} {s : Shared}
mutual
theorem eqAt_deep (I : Inv X pins σ H s) : ∀ (d : DV) (A : Around) (x y : V) (v u : Value), Deep X.K H d x → Deep X.K H d y → RelV x v → RelV y u → A.units + d.dep < cLine → SeqAt.EqAt A s v u true
  | .fl w, A, x, y, v, u, hx, hy, rx, ry, _ => by
    unfold Deep at hx hy
    obtain ⟨rfl, fw⟩ := hx
    obtain ⟨rfl, _⟩ := hy
    have h := eqAt_V (A := A) (s := s) rx ry fw fw
    rw [eqV_self fw] at h
    exact h
  | .tp l, A, x, y, v, u, hx, hy, rx, ry, hd => by
    unfold Deep at hx hy
    obtain ⟨a, xs, rfl, sx, dx⟩ := hx
    obtain ⟨b, ys, rfl, sy, dy⟩ := hy
    cases rx
    cases ry
    obtain ⟨its, r1, p1, _⟩ := I.tuple sx
    obtain ⟨its2, r2, p2, _⟩ := I.tuple sy
    unfold DV.dep at hd
    obtain ⟨hl, he⟩ := eqAt_deepL I l A.in1 xs ys its its2 dx dy r1 r2 (by show A.units + 1 + _ < _; omega)
    by_cases hab : a = b
    · subst hab; exact SeqAt.EqAt.same _
    · refine SeqAt.EqAt.of_refs hab ?_
      have h := SeqAt.RcAt.tuples (A := A) (e := fun _ => true) p1 p2 (by omega) fun j h1 h2 => he j _ _ (by simpa using List.getElem?_eq_getElem (by simpa using h1)) (by simpa using List.getElem?_eq_getElem (by simpa using h2))
      rw [all_range_true, show (its.toArray.size == its2.toArray.size) = true by simpa using hl] at h
      exact h
  | .ls l, A, x, y, v, u, hx, hy, rx, ry, hd => by
    unfold Deep at hx hy
    obtain ⟨a, xs, rfl, sx, dx⟩ := hx
    obtain ⟨b, ys, rfl, sy, dy⟩ := hy
    cases rx
    cases ry
    obtain ⟨its, r1, p1, _⟩ := I.list sx
    obtain ⟨its2, r2, p2, _⟩ := I.list sy
    unfold DV.dep at hd
    obtain ⟨hl, he⟩ := eqAt_deepL I l A.in1 xs ys its its2 dx dy r1 r2 (by show A.units + 1 + _ < _; omega)
    by_cases hab : a = b
    · subst hab; exact SeqAt.EqAt.same _
    · refine SeqAt.EqAt.of_refs hab ?_
      have h := SeqAt.RcAt.lists (A := A) (e := fun _ => true) p1.isList p2.isList (by simpa using hl) (by omega) fun j h1 h2 => he j _ _ (by simpa using List.getElem?_eq_getElem (by simpa using h1)) (by simpa using List.getElem?_eq_getElem (by simpa using h2))
      rw [all_range_true] at h
      exact h
theorem eqAt_deepL (I : Inv X pins σ H s) : ∀ (l : List DV) (A : Around) (xs ys : List V) (us ws : List Value), DeepL X.K H l xs → DeepL X.K H l ys → Vals xs us → Vals ys ws → A.units + DV.depL l < cLine →
    us.length = ws.length ∧ ∀ (j : Nat) (u w : Value), us[j]? = some u → ws[j]? = some w → SeqAt.EqAt A s u w true
  | [], A, xs, ys, us, ws, hx, hy, rx, ry, _ => by
    unfold DeepL at hx hy
    subst hx hy
    cases rx
    cases ry
    exact ⟨rfl, fun j u w h => by simp at h⟩
  | d :: l, A, xs, ys, us, ws, hx, hy, rx, ry, hd => by
    unfold DeepL at hx hy
    obtain ⟨x, r, rfl, dx, dr⟩ := hx
    obtain ⟨y, r', rfl, dy, dr'⟩ := hy
    cases rx with
    | cons r1 t1 =>
      cases ry with
      | cons r2 t2 =>
        unfold DV.depL at hd
        obtain ⟨hl, he⟩ := eqAt_deepL I l A r r' _ _ dr dr' t1 t2 (by omega)
        refine ⟨by simp [hl], fun j u w h1 h2 => ?_⟩
        cases j with
        | zero =>
          simp only [List.getElem?_cons_zero, Option.some.injEq] at h1 h2
          subst h1 h2
          exact eqAt_deep I d A x y _ _ dx dy r1 r2 (by omega)
        | succ j =>
          simp only [List.getElem?_cons_succ] at h1 h2
          exact he j u w h1 h2
end
/-- x == y, x != y where both are deep and the same -/
def rEqD (K : PySem.W.Frag) (neg : Bool) : R2 := fun x y H Q => ∃ d : DV, DV.dep d ≤ 50 ∧ (∀ w, d ≠ .fl w) ∧ Deep K H d x ∧ Deep K H d y ∧ Q (.bl (!neg)) H
theorem op_neD (hu : X.A.units + 100 < cLine) : OpR X (compareOp .NotEq) (rEqD X.K true) := by
  intro pins s σ H x y v u Q I rx ry h
  obtain ⟨d, hd, hn, dx, dy, q⟩ := h
  have fin : EP X pins σ Q (.bool false) s := ⟨.bl false, H, I, rfl, q⟩
  cases d with
  | fl w => exact absurd rfl (hn w)
  | tp l =>
    unfold Deep at dx dy
    obtain ⟨a, xs, rfl, sx, dx⟩ := dx
    obtain ⟨b, ys, rfl, sy, dy⟩ := dy
    cases rx
    cases ry
    obtain ⟨its, r1, p1, _⟩ := I.tuple sx
    obtain ⟨its2, r2, p2, _⟩ := I.tuple sy
    unfold DV.dep at hd
    obtain ⟨hl, he⟩ := eqAt_deepL I l X.A.in1 xs ys its its2 dx dy r1 r2 (by show X.A.units + 1 + _ < _; omega)
    have h := SeqAt.RcNeAt.tuples (e := fun _ => true) p1 p2 (show X.A.units < cLine by omega) fun j h1 h2 => he j _ _ (by simpa using List.getElem?_eq_getElem (by simpa using h1)) (by simpa using List.getElem?_eq_getElem (by simpa using h2))
    rw [all_range_true, show (its.toArray.size == its2.toArray.size) = true by simpa using hl] at h
    exact h X.prog X.w _ _ fin
  | ls l =>
    unfold Deep at dx dy
    obtain ⟨a, xs, rfl, sx, dx⟩ := dx
    obtain ⟨b, ys, rfl, sy, dy⟩ := dy
    cases rx
    cases ry
    obtain ⟨its, r1, p1, _⟩ := I.list sx
    obtain ⟨its2, r2, p2, _⟩ := I.list sy
    unfold DV.dep at hd
    obtain ⟨hl, he⟩ := eqAt_deepL I l X.A.in1 xs ys its its2 dx dy r1 r2 (by show X.A.units + 1 + _ < _; omega)
    have h := SeqAt.RcNeAt.lists (e := fun _ => true) p1.isList p2.isList (by simpa using hl) (show X.A.units < cLine by omega) fun j h1 h2 => he j _ _ (by simpa using List.getElem?_eq_getElem (by simpa using h1)) (by simpa using List.getElem?_eq_getElem (by simpa using h2))
    rw [all_range_true] at h
    exact h X.prog X.w _ _ fin
end
theorem hu100 {A : Around} {k : Nat} (hr : Room k A) : A.units + 100 < cLine := by have := hr.un; omega
/-- a list of flat values, deep -/
theorem deepL_flat {K : PySem.W.Frag} {H : Hp} : ∀ {xs : List V}, xs.all flatV = true → DeepL K H (xs.map DV.fl) xs
  | [], _ => by unfold DeepL; rfl
  | x :: xs, h => by
    rw [List.all_cons, Bool.and_eq_true] at h
    rw [List.map_cons]
    unfold DeepL
    exact ⟨x, xs, rfl, by unfold Deep; exact ⟨rfl, h.1⟩, deepL_flat h.2⟩
theorem depL_flat : ∀ (xs : List V), DV.depL (xs.map DV.fl) = 0
  | [] => by unfold DV.depL; rfl
  | x :: xs => by rw [List.map_cons]; unfold DV.depL; rw [depL_flat xs]; unfold DV.dep; rfl
/-- flat tuples -/
theorem deep_tup {K : PySem.W.Frag} {H : Hp} {a : Addr} {xs : List V} (h : H a = some (.tup xs)) (f : xs.all flatV = true) : Deep K H (.tp (xs.map DV.fl)) (.ref a) := by
  unfold Deep
  exact ⟨a, xs, rfl, SqT.of h, deepL_flat f⟩
/-! ### is, is not: bools -/
section
variable {X : Cx}
end
end L2

set_option Elab.async false
set_option linter.all false
set_option maxRecDepth 100000
namespace L2
open PySem PySem.Spec PyProof.Rows
section
variable {X : Cx} {pos : Pos}
end
end L2

set_option Elab.async false
set_option linter.all false
set_option maxRecDepth 100000
namespace L2
open PySem PySem.Spec PyProof.Rows
section
variable {X : Cx} {a b : Expr} {ea eb : Ev} {pos : Pos}
def fNeg : V → Option V | .int i => some (.int (-i)) | _ => none
theorem fNeg_i {i : Int} : fNeg (.int i) = some (.int (-i)) := rfl
/-- x in a list or a tuple of flat items that is tracked -/
def inAt (H : Hp) (x : V) (p : Addr) : Option Bool := match H p with
  | some (.lst xs) => if flatV x = true ∧ xs.all flatV = true then some (inV x xs) else none
  | some (.tup xs) => if flatV x = true ∧ xs.all flatV = true then some (inV x xs) else none
  | _ => none
def rInM (neg : Bool) : R2 := fun x y H Q => ∃ p b, y = .ref p ∧ inAt H x p = some b ∧ Q (.bl (if neg then !b else b)) H
theorem op_inM : OpR X (compareOp .In) (rInM false) := by
  intro pins s σ H x y v u Q I rx ry h
  obtain ⟨p, b, rfl, hb, q⟩ := h
  unfold inAt at hb
  split at hb
  · split at hb
    · rename_i hf; cases hb; exact op_in_seq pins s σ H x _ v u Q I rx ry ⟨p, _, rfl, .inl (SqL.of (by assumption)), hf.1, hf.2, q⟩
    · cases hb
  · split at hb
    · rename_i hf; cases hb; exact op_in_seq pins s σ H x _ v u Q I rx ry ⟨p, _, rfl, .inr (SqT.of (by assumption)), hf.1, hf.2, q⟩
    · cases hb
  · cases hb
end
end L2

set_option Elab.async false
set_option linter.all false
set_option maxRecDepth 100000
namespace L2
open PySem PySem.Spec PyProof.Rows
/-! ### deep things by the tracked heap -/
mutual
def DeepH (H : Hp) : DV → V → Prop
  | .fl w, v => v = w
  | .tp l, v => ∃ a xs, v = .ref a ∧ H a = some (.tup xs) ∧ DeepHL H l xs
  | .ls l, v => ∃ a xs, v = .ref a ∧ H a = some (.lst xs) ∧ DeepHL H l xs
def DeepHL (H : Hp) : List DV → List V → Prop
  | [], xs => xs = []
  | d :: l, xs => ∃ x r, xs = x :: r ∧ DeepH H d x ∧ DeepHL H l r
end
mutual
theorem DeepH.same {H H' : Hp} (s : Same H H') : ∀ (d : DV) (v : V), DeepH H d v → DeepH H' d v
  | .fl w, v, h => by unfold DeepH at h ⊢; exact h
  | .tp l, v, h => by
    unfold DeepH at h ⊢
    obtain ⟨a, xs, e, ha, hl⟩ := h
    exact ⟨a, xs, e, s _ _ ha, DeepHL.same s l xs hl⟩
  | .ls l, v, h => by
    unfold DeepH at h ⊢
    obtain ⟨a, xs, e, ha, hl⟩ := h
    exact ⟨a, xs, e, s _ _ ha, DeepHL.same s l xs hl⟩
theorem DeepHL.same {H H' : Hp} (s : Same H H') : ∀ (l : List DV) (xs : List V), DeepHL H l xs → DeepHL H' l xs
  | [], xs, h => by unfold DeepHL at h ⊢; exact h
  | d :: l, xs, h => by
    unfold DeepHL at h ⊢
    obtain ⟨x, r, e, hd, hl⟩ := h
    exact ⟨x, r, e, DeepH.same s d x hd, DeepHL.same s l r hl⟩
end
theorem DeepHL.get {H : Hp} : ∀ {l : List DV} {xs : List V} {i : Nat} {x : V}, DeepHL H l xs → xs[i]? = some x → ∃ d, l[i]? = some d ∧ DeepH H d x
  | [], xs, i, x, h, e => by unfold DeepHL at h; subst h; simp at e
  | d :: l, xs, i, x, h, e => by
    unfold DeepHL at h
    obtain ⟨y, r, rfl, hd, hl⟩ := h
    cases i with
    | zero => exact ⟨d, rfl, by simp at e; rw [← e]; exact hd⟩
    | succ i => exact DeepHL.get (l := l) (i := i) hl (by simpa using e)
theorem DeepHL.len {H : Hp} : ∀ {l : List DV} {xs : List V}, DeepHL H l xs → xs.length = l.length
  | [], xs, h => by unfold DeepHL at h; subst h; rfl
  | d :: l, xs, h => by
    unfold DeepHL at h
    obtain ⟨y, r, rfl, hd, hl⟩ := h
    rw [List.length_cons, List.length_cons, DeepHL.len hl]
end L2

set_option Elab.async false
set_option linter.all false
set_option maxRecDepth 100000
namespace L2
open PySem PySem.Spec PyProof.Rows
/-! ### within a comprehension -/
/-- constants among items: their reading costs nothing -/
theorem pa_consK {X : Cx} {c : Const} {k : Nat} {p : Pos} {es : List Expr} {te : TE} {t : TA} (ha : PE X (.Constant c k p) te) (hr : PA X es t) : PA X (.Constant c k p :: es) (tCons te t) := pa_cons ha hr (by rfl)
end L2

set_option Elab.async false
set_option linter.all false
set_option maxRecDepth 100000
set_option maxHeartbeats 4000000
namespace My
open PySem L2
/-! ### a dict that the top wrote, read by get -/
theorem rel_abs {x : V} {u : Value} (h : absV u = some x) : RelV x u := by
  cases u <;> simp only [absV] at h <;> first | (cases h; done) | (cases h; first | rfl | exact ⟨_, rfl⟩)
def DictK (K : PySem.W.Frag) (w : World) (a : Addr) (kvs : List (Key × V)) : Prop :=
  ∃ es ep, K.lookup a = some ⟨.type "dict", none, .dict es ep, #[]⟩ ∧ (a == sysModules) = false ∧ es.toList.map (fun d => (d.hash, absV d.key, absV d.val)) = kvs.map (fun p => (keyH w p.1, some (kV p.1), some p.2)) ∧ (kvs.map (·.1)).Nodup
theorem dictK_pairs {P : Program} {w : World} : ∀ {kvs : List (Key × V)} {es : List DictEntry}, es.map (fun d => (d.hash, absV d.key, absV d.val)) = kvs.map (fun p => (keyH w p.1, some (kV p.1), some p.2)) →
    ∃ vs, KV kvs vs ∧ Pairs (mixKind P w) es vs ∧ vs.map (·.1) = kvs.map (·.1) ∧ ∀ e ∈ es, ∃ k, (mixKind P w).is k e.key = true ∧ e.hash = (mixKind P w).hash k
  | [], [], _ => ⟨[], .nil, .nil, rfl, fun _ h => nomatch h⟩
  | [], _ :: _, h => by simp at h
  | _ :: _, [], h => by simp at h
  | p :: kvs, e :: es, h => by
    rw [List.map_cons, List.map_cons] at h
    injection h with h0 h1
    injection h0 with a1 a2
    injection a2 with a2 a3
    obtain ⟨vs, r, q, m, n⟩ := dictK_pairs (P := P) h1
    have is : (mixKind P w).is p.1 e.key = true := kV_is (rel_abs a2)
    refine ⟨(p.1, e.val) :: vs, .cons ⟨rfl, rel_abs a3⟩ r, .cons is rfl q, by rw [List.map_cons, List.map_cons, m], fun d hd => ?_⟩
    rcases List.mem_cons.mp hd with rfl | hd
    · exact ⟨p.1, is, a1⟩
    · exact n d hd
theorem DictK.at {X : Cx} {pins : List (Addr × Obj)} {σ : St} {H : Hp} {s : Shared} {a : Addr} {kvs : List (Key × V)} (h : DictK X.K X.w a kvs) (I : Inv X pins σ H s) :
    ∃ vs, KV kvs vs ∧ s.heap.DictOf (mixKind X.prog X.w) a vs := by
  obtain ⟨es, ep, l, _, m, nd⟩ := h
  obtain ⟨vs, r, q, k, n⟩ := dictK_pairs (P := X.prog) m
  exact ⟨vs, r, _, es, ep, I.kIn _ _ l, ⟨rfl, rfl, rfl⟩, rfl, fun e he => n e (by simpa using he), q, by rw [k]; exact nd⟩
def tDGetK (a : Addr) (kvs : List (Key × V)) (ty : TE) : TE := fun σ H Q => ty σ H fun y H1 => ∃ k, y = kV k ∧ Q ((valV kvs k).getD .non) H1
section
variable {X : Cx} {o e : Expr} {apos cpos : Pos} {ty : TE} {a : Addr} {kvs : List (Key × V)}
theorem pe_dgetK (hk : DictK X.K X.w a kvs) (ho : PE X o (tC (.ref a))) (he : PE X e ty) (m : M1 X o "get" apos e cpos) : PE X (.Call (.Attribute o "get" apos) [e] [] cpos) (tDGetK a kvs ty) := by
  intro pins s σ H Q I h
  refine wpAny_Call_method m.base m.few m.line PySem.F.plainAttrs_dict PySem.F.slot_dict_get PySem.F.type_dict_get (thn (ho pins s σ H (fun x H1 => x = .ref a ∧ H1 = H) I ⟨rfl, rfl⟩) fun u s1 ⟨x, H1, I1, rx, ex, eH⟩ => ?_)
  subst ex eH
  obtain rfl : u = Value.ref a := rx
  obtain ⟨vs, r, dd⟩ := hk.at I1
  refine ⟨dd.typeIs, fun b q => ?_, ?_⟩
  · cases q
    obtain ⟨ob, _, _, h1, h2, _⟩ := dd
    exact ⟨ob, h1, h2.2.1⟩
  rw [m.trees]
  refine Calls.callWith_builtin rfl (Calls.evalArgs_plain (Calls.spliced_cons (thn (he pins s1 σ _ _ I1 h) fun iv s2 ⟨y, H2, I2, ry, k, ey, q2⟩ => Calls.spliced_nil ?_)))
  subst ey
  obtain ⟨vs, r, dd⟩ := hk.at I2
  refine call_meetsIn PySem.F.slot_dict_get dd.typeIs PySem.F.entry_dict_get (PySem.F.args_dict_get_2 _ _) (meets_dict_get (mixKind X.prog X.w) a (kV_is ry) hk.choose_spec.choose_spec.2.1) ⟨_, dd.mapOf, _, H2, I2.tok _, ?_, q2⟩
  exact (r.val k).getD rfl
end
end My

set_option Elab.async false
set_option linter.all false
set_option maxRecDepth 100000
set_option maxHeartbeats 4000000
namespace My
open PySem L2
section
variable {X : Cx}
def rJoinT (K : PySem.W.Frag) : V → List V → Hp → VK → Prop := fun x vs H Q => ∃ z l ys, x = .str z ∧ vs = [.ref l] ∧ SqT K H l (ys.map V.str) ∧ (ys.map (·.length)).sum + ys.length * z.length ≤ 16777216 ∧ Q (.str (Txt.join z ys)) H
theorem mt_joinT : MtR X "str.join" (rJoinT X.K) := by
  intro pins s σ H x xs v us Q I rx rv h
  obtain ⟨z, l, ys, rfl, rfl, hl, hz, q⟩ := h
  obtain ⟨t, rfl⟩ := (show ∃ t, v = Value.str z t from rx)
  obtain ⟨u, rfl, ru⟩ := rv.one
  cases ru
  obtain ⟨its, r, e, _⟩ := I.tuple hl
  exact PyProof.Rows.join_tuple (D := l) (items := its.toArray) e (strs_of r) hz fun t' k => ⟨.str _, H, I.tok k, ⟨t', rfl⟩, q⟩
end
end My

set_option Elab.async false
set_option linter.all false
set_option maxRecDepth 100000
set_option maxHeartbeats 4000000
namespace L2
open PySem
theorem comp_zipH {K : PySem.W.Frag} {κ1 κ2 : Bool} {a b : Addr} {us ys : List V} {g : TG} {ti : TT} {te : TE} {σ : St} {H : Hp} {D : Addr} {QD : Hp → Prop} (he : us.length = ys.length) (Pv : Nat → St → List V → Hp → Prop) (h0 : Pv 0 σ [] (upd H D (.lst []))) (hD : ∀ i σ xs H, Pv i σ xs H → H D = some (.lst xs))
    (hl : ∀ i σ xs H, Pv i σ xs H → SqK K κ1 H a us ∧ SqK K κ2 H b ys)
    (hs : ∀ i x y σ xs H T, us[i]? = some x → ys[i]? = some y → Pv i σ xs H → H T = none → g (.ref T) σ (upd H T (.tup [x, y])) fun σ2 H3 => ti σ2 H3 fun b H4 => if b = true then te σ2 H4 fun v H5 => H5 D = some (.lst xs) ∧ xs.length < sizeLine ∧ Pv (i + 1) σ2 (xs ++ [v]) (upd H5 D (.lst (xs ++ [v]))) else Pv (i + 1) σ2 xs H4)
    (hd : ∀ σ xs H, Pv us.length σ xs H → QD H) :
    ∃ W : Nat → Nat → St → List V → Hp → Prop, (∃ m, W 0 m σ [] (upd H D (.lst []))) ∧ ∀ i m σ' xs H', W i m σ' xs H' → H' D = some (.lst xs) ∧
      (((Itz K κ1 κ2 a b).stop i H' ∧ QD H') ∨ ((Itz K κ1 κ2 a b).go i H' ∧ ∃ N : St → List V → Hp → Prop, (∀ σ2 ys H2, N σ2 ys H2 → ∃ m', m' < m ∧ W (i + 1) m' σ2 ys H2) ∧ ∀ x H2, (Itz K κ1 κ2 a b).yld i H' x H2 → g x σ' H2 fun σ2 H3 => ti σ2 H3 fun b H4 =>
        if b = true then te σ2 H4 fun v H5 => H5 D = some (.lst xs) ∧ xs.length < sizeLine ∧ N σ2 (xs ++ [v]) (upd H5 D (.lst (xs ++ [v]))) else N σ2 xs H4)) := by
  refine ⟨fun i m σ xs H => m = us.length - i ∧ i ≤ us.length ∧ Pv i σ xs H, ⟨us.length, by simp, Nat.zero_le _, h0⟩, ?_⟩
  rintro i m σ xs H ⟨rfl, hi, p⟩
  obtain ⟨q1, q2⟩ := hl i σ xs H p
  refine ⟨hD i σ xs H p, ?_⟩
  by_cases hlt : i < us.length
  · have hlt2 : i < ys.length := by omega
    refine .inr ⟨⟨us, ys, us[i], ys[i], q1, q2, by simp [hlt], by simp [hlt2]⟩, Pv (i + 1), fun σ' zs H' p' => ⟨us.length - (i + 1), by omega, rfl, hlt, p'⟩, fun x H' y => ?_⟩
    obtain ⟨T, y1, y2, hT, rfl, rfl, hy1, hy2⟩ := y
    exact hs i y1 y2 σ xs _ T (hy1 us q1) (hy2 ys q2) p hT
  · have e : i = us.length := by omega
    subst e
    exact .inl ⟨⟨us, q1, rfl⟩, hd σ xs H p⟩
end L2

set_option Elab.async false
set_option linter.all false
set_option maxRecDepth 100000
set_option maxHeartbeats 4000000
namespace My
open PySem L2
def top (i : Nat) : Stmt := PySem.Challenge.pw_inningsbook_k07_entries_read_and_shown.main.body.getD i (.Pass ⟨0, 0, 0, 0⟩)
abbrev s_made : Stmt := top 9
abbrev s_isname : Stmt := top 10
abbrev s_numin : Stmt := top 11
abbrev s_wordsof : Stmt := top 12
abbrev s_numbered : Stmt := top 13
abbrev s_enames : Stmt := top 20
abbrev s_outw : Stmt := top 21
abbrev s_ballw : Stmt := top 22
abbrev s_entryw : Stmt := top 23
abbrev s_read : Stmt := top 24
abbrev s_wball : Stmt := top 25
abbrev s_shown : Stmt := top 26
abbrev s_drawn : Stmt := top 28
abbrev s_pick : Stmt := top 29
abbrev s_kws : Stmt := top 30
abbrev s_letters : Stmt := top 31
abbrev s_name : Stmt := top 32
abbrev s_spaced : Stmt := top 33
abbrev s_rowsl : Stmt := top 34
abbrev s_lball : Stmt := top 35
abbrev s_lentry : Stmt := top 36
abbrev s_lwords : Stmt := top 37
abbrev s_alike : Stmt := top 38
abbrev s_ltold : Stmt := top 39
abbrev s_law : Stmt := top 40
structure Ext where
  tL : Tok
  tM : Tok
  tF : Tok
  tG : Tok
  tR : Tok
  aK : Addr
  aN : Addr
  aI : Addr
  aP : Addr
  aE : Addr
/-- the keywords -/
def kwL : List Str := (["over", "overs", "spell", "wide", "noball", "side", "innings", "follow", "team", "player", "start", "bat", "bye", "leg", "no", "nobye", "rope", "out", "bowled", "caught", "before", "stumped", "hit", "run", "strike", "other", "in", "bowl", "hurt", "swap", "declare", "close", "left", "played", "points", "breaker"] : List String).map Str.ofString
def kindL : List Str := (["bat", "bye", "leg", "wide", "no", "nobye"] : List String).map Str.ofString
def wayL : List Str := (["bowled", "caught", "before", "stumped", "hit"] : List String).map Str.ofString
def endL : List Str := (["strike", "other"] : List String).map Str.ofString
structure Txt (K : PySem.W.Frag) (mg : Str → Option Value) (e : Ext) : Prop where
  n_len : mg "len" = none
  n_list : mg "list" = none
  n_int : mg "int" = none
  n_range : mg "range" = none
  n_all : mg "all" = none
  n_isinstance : mg "isinstance" = none
  n_bool : mg "bool" = none
  n_str : mg "str" = none
  n_tuple : mg "tuple" = none
  n_enumerate : mg "enumerate" = none
  n_zip : mg "zip" = none
  g_LETTERS : mg "LETTERS" = some (.str "abcdefghijklmnopqrstuvwxyz" e.tL)
  g_MOST_LETTERS : mg "MOST_LETTERS" = some (.int 8 e.tM)
  g_FIGURES : mg "FIGURES" = some (.str "0123456789" e.tF)
  g_MOST_FIGURES : mg "MOST_FIGURES" = some (.int 4 e.tG)
  g_MOST_RUNS : mg "MOST_RUNS" = some (.int 9 e.tR)
  g_NAMES_BEHIND : mg "NAMES_BEHIND" = some (.ref e.aN)
  g_KINDS : mg "KINDS" = some (.ref e.aI)
  t_KINDS : ∀ H, SqT K H e.aI (kindL.map V.str)
  g_PLAIN_WAYS : mg "PLAIN_WAYS" = some (.ref e.aP)
  t_PLAIN_WAYS : ∀ H, SqT K H e.aP (wayL.map V.str)
  g_ENDS : mg "ENDS" = some (.ref e.aE)
  t_ENDS : ∀ H, SqT K H e.aE (endL.map V.str)
  g_KEYWORDS : mg "KEYWORDS" = some (.ref e.aK)
  t_KEYWORDS : ∀ H, SqT K H e.aK (kwL.map V.str)
theorem atI_0 {x : V} {xs : List V} : atI (x :: xs) 0 = some x := atI_nat (j := 0) rfl
def signsB (z g : Str) : Bool := z.cps.toList.all fun c => decide (c ∈ g.cps.toList)
def madeB (z g : Str) (m : Int) : Bool := decide ((1 : Int) ≤ z.length) && (decide ((z.length : Int) ≤ m) && signsB z g)
def spMade : Sp := fun vs H Q _ => ∃ (z g : Str) (m : Int), vs = [.str z, .str g, .int m] ∧ z.length ≤ 1000 ∧ ∀ H', Same H H' → Q (.bl (madeB z g m)) H'
theorem upd_new {H : Hp} {a : Addr} {o : HO} (h : H a = none) : Same H (upd H a o) := fun b u e => by rw [upd_ne (ne_of_none e h)]; exact e
theorem len1000 {z : Str} (h : z.length ≤ 1000) : z.length ≤ sizeLine := Nat.le_trans h (by decide)
theorem DrawAt.upd {H : Hp} {d l a : Addr} {cs : List Int} {n : Nat} {o : HO} (D : DrawAt H d l cs n) (h1 : a ≠ d) (h2 : a ≠ l) : DrawAt (upd H a o) d l cs n := by
  obtain ⟨⟨x, b, c, g, q, q0, q1⟩, ls, ne⟩ := D
  exact ⟨⟨x, b, c, g, by rw [upd_ne h1.symm]; exact q, q0, q1⟩, by rw [upd_ne h2.symm]; exact ls, ne⟩
/-- a new thing is neither the dict nor the list -/
theorem DrawAt.nd {H : Hp} {d l a : Addr} {cs : List Int} {n : Nat} (D : DrawAt H d l cs n) (h : H a = none) : a ≠ d ∧ a ≠ l := by
  obtain ⟨⟨x, b, c, g, q, q0, q1⟩, ls, ne⟩ := D
  exact ⟨(ne_of_none q h).symm, (ne_of_none ls h).symm⟩
theorem join_len {ys : List Str} (h : ∀ y ∈ ys, y.length = 1) : (ys.map (·.length)).sum = ys.length := by
  induction ys with
  | nil => rfl
  | cons y r ih =>
    rw [List.map_cons, List.sum_cons, ih fun z hz => h z (List.mem_cons_of_mem _ hz), h y List.mem_cons_self, List.length_cons]
    omega
theorem add_len (x y : Str) : (x ++ y).length = x.length + y.length := Str.length_append x y
theorem add_ok {x y : Str} (h : x.length + y.length ≤ 1000) : x.length + y.length ≤ sizeLine := Nat.le_trans h (by decide)
def abc : Str := "abcdefghijklmnopqrstuvwxyz"
def nameB (z : Str) : Bool := madeB z abc 8 && !inV (.str z) (kwL.map V.str)
def spName : Sp := fun vs H Q _ => ∃ (z : Str), vs = [.str z] ∧ z.length ≤ 1000 ∧ ∀ H', Same H H' → Q (.bl (nameB z)) H'
def spKws : Sp := fun vs H Q _ => vs = [] ∧ ∀ (l : Addr) (H' : Hp), H l = none → H' l = some (.lst (kwL.map V.str)) → Same H H' → Q (.ref l) H'
section
variable {P : Program} {w : World} {K : PySem.W.Frag} {mg : Str → Option Value} {base : Heap} {e : Ext}
theorem sc_drawn : FnScope ["_law_script", "_law_cells"] ["_law_script"] (defScope s_drawn) := ⟨rfl, rfl, rfl, by decide +kernel, rfl, by decide +kernel, by decide +kernel⟩
theorem ok_drawn {f : Addr} {fd : FuncData} (F : Fun K "_law_drawn" "_law_drawn" s_drawn f fd) (T : Txt K mg e) : FnOk P w K mg base CX0 1 f fd ["_law_script"] (spDrawn K) := by
  refine F.ok sc_drawn (fun vs H Q E h => ?_) (fun cdv A outer s H vs Q E hr h => ?_)
  · obtain ⟨a, ns, rfl, _⟩ := h
    rfl
  · obtain ⟨a, ns, rfl, hS, hlen, k⟩ := h
    have hu := hu_of hr
    have hU := hr.units0
    refine ⟨_, (pss_cons (ps_set (i := 1) sc_drawn.nd rfl (Or.inl rfl) (pe_op op_cat (pe_callTy call_list_of rfl T.n_list PyProof.Rows.boot_list (pa_cons (pv 0) pa_nil)) (pe_op op_rep (pe_lst (pa_cons pe_int pa_nil)) (pe_callTy call_int1 rfl T.n_int PyProof.Rows.boot_int (pa_cons (pe_cmpR (op_eqL hU) (pv 0) (pe_lst pa_nil) (nomark _)) pa_nil)))))
      (pss_one (ps_ret (pe_disp (pps_cons pe_str (pv 1) (pps_cons pe_str pe_int (pps_cons pe_str pe_int (pps_cons pe_str (pe_op op_fdiv (pe_ix ix_list (pv 1) pe_int (fun _ _ => rfl)) pe_int) (pps_cons pe_str (pe_cmpR op_eq (pe_op op_mod (pe_ix ix_list (pv 1) pe_int (fun _ _ => rfl)) pe_int) pe_int (nomark _)) pps_nil))))) rfl rfl (by simp) (by decide))))), ?_⟩
    -- list(script)
    refine ⟨_, rfl, a, _, rfl, .inl hS, fun l1 n1 => ?_⟩
    have s1 : Same H (upd H l1 (.lst (ns.map V.int))) := fun b o e => by rw [upd_ne (ne_of_none e n1)]; exact e
    -- [0]
    refine ⟨(by show 1 ≤ sizeLine; decide), fun l2 n2 => ?_⟩
    have s2 : Same (upd H l1 (.lst (ns.map V.int))) (upd (upd H l1 (.lst (ns.map V.int))) l2 (.lst [V.int 0])) := fun b o e => by rw [upd_ne (ne_of_none e n2)]; exact e
    -- script == []
    refine ⟨_, rfl, (by show 0 ≤ sizeLine; decide), fun l3 n3 => ?_⟩
    have s3 : Same (upd (upd H l1 (.lst (ns.map V.int))) l2 (.lst [V.int 0])) (upd (upd (upd H l1 (.lst (ns.map V.int))) l2 (.lst [V.int 0])) l3 (.lst [])) := fun b o e => by rw [upd_ne (ne_of_none e n3)]; exact e
    have hl1 := s3 _ _ (s2 _ _ (upd_same (H := H) (a := l1) (o := .lst (ns.map V.int))))
    have hl2 := s3 _ _ (upd_same (H := upd H l1 (.lst (ns.map V.int))) (a := l2) (o := .lst [V.int 0]))
    have hl3 := upd_same (H := upd (upd H l1 (.lst (ns.map V.int))) l2 (.lst [V.int 0])) (a := l3) (o := .lst [])
    have hS3 := s3.seq (s2.seq (s1.seq hS))
    generalize hH3 : upd (upd (upd H l1 (.lst (ns.map V.int))) l2 (.lst [V.int 0])) l3 (.lst []) = H3 at *
    have s03 : Same H H3 := fun b o e => s3 b o (s2 b o (s1 b o e))
    refine ⟨a, l3, _, _, rfl, rfl, hS3, SqL.of hl3, ?_, rfl, ?_⟩
    · rw [List.all_map]
      exact List.all_eq_true.mpr fun _ _ => rfl
    -- int(..)
    refine .inr ⟨_, rfl, ?_⟩
    have cells : ∃ (r : Int) (cs : List Int), (if (decide ((ns.map V.int).length = ([] : List V).length) && ((ns.map V.int).zip ([] : List V)).all fun z => eqV z.1 z.2) then (1 : Int) else 0) = r ∧ 0 ≤ r ∧ r ≤ 1 ∧ ns.map V.int ++ (List.replicate r.toNat [V.int 0]).flatten = cs.map V.int ∧ cs ≠ [] := by
      cases ns with
      | nil => exact ⟨1, [0], rfl, by decide, by decide, rfl, by simp⟩
      | cons x r => exact ⟨0, x :: r, by simp, by decide, by decide, by simp, by simp⟩
    obtain ⟨r, cs, e, r0, r1, ecs, hne⟩ := cells
    show rRep _ (V.int (if (decide ((ns.map V.int).length = ([] : List V).length) && ((ns.map V.int).zip ([] : List V)).all fun z => eqV z.1 z.2) then (1 : Int) else 0)) _ _
    rw [e]
    refine ⟨l2, r, _, rfl, rfl, hl2, by omega, by omega, ?_, fun l4 n4 => ?_⟩
    · show 1 * r.toNat ≤ sizeLine
      have : (1 : Nat) ≤ sizeLine := by decide
      omega
    -- the cells
    refine ⟨l1, l4, _, _, rfl, rfl, by rw [upd_ne (ne_of_none hl1 n4)]; exact hl1, upd_same, ?_, fun l n5 => ?_⟩
    · have : (1000 : Nat) ≤ sizeLine := by decide
      rw [List.length_map, L2.len_rep]
      simp only [List.length_singleton]
      omega
    rw [ecs]
    have s5 : Same H (upd (upd H3 l4 (.lst (List.replicate r.toNat [V.int 0]).flatten)) l (.lst (cs.map V.int))) := fun b o e => by
      have q := s03 b o e
      have q4 : upd H3 l4 (.lst (List.replicate r.toNat [V.int 0]).flatten) b = some o := by rw [upd_ne (ne_of_none q n4)]; exact q
      rw [upd_ne (ne_of_none q4 n5)]
      exact q4
    have hlc := upd_same (H := upd H3 l4 (.lst (List.replicate r.toNat [V.int 0]).flatten)) (a := l) (o := .lst (cs.map V.int))
    have nl : H l = none := by
      have q := n5
      have s4 : Same H (upd H3 l4 (.lst (List.replicate r.toNat [V.int 0]).flatten)) := fun b o e => by
        have q := s03 b o e
        rw [upd_ne (ne_of_none q n4)]; exact q
      exact s4.free q
    generalize upd (upd H3 l4 (.lst (List.replicate r.toNat [V.int 0]).flatten)) l (.lst (cs.map V.int)) = H5 at *
    -- the dict
    intro d nd
    have nld : l ≠ d := ne_of_none hlc nd
    obtain ⟨x, rest, rfl⟩ : ∃ x rest, cs = x :: rest := by
      cases cs with
      | nil => exact absurd rfl hne
      | cons x r => exact ⟨x, r, rfl⟩
    have hlc' : (upd H5 d (.dK [])) l = some (.lst ((x :: rest).map V.int)) := by rw [upd_ne nld]; exact hlc
    refine ⟨_, rfl, _, rfl, l, _, 0, .int x, rfl, rfl, SqL.of hlc', atI_0, x, 2, rfl, rfl, ⟨by decide, by decide⟩, _, rfl, l, _, 0, .int x, rfl, rfl, SqL.of hlc', atI_0, x, 2, rfl, rfl, (by show (0 : Int) < 2; decide), rfl, ?_⟩
    refine ⟨upd_same, [(Sum.inr "cells", .ref l), (Sum.inr "at", .int 0), (Sum.inr "left", .int 60), (Sum.inr "number", .int (x / 2)), (Sum.inr "digits", .bl (decide (V.int (x % 2) = V.int 0)))], rfl, (show (5 : Nat) ≤ 15 by decide), ?_⟩
    rw [kv_merge, upd_upd]
    refine k d l (x :: rest) _ (s5.free nd) nl ⟨⟨0, 60, x / 2, _, upd_same, by decide, by decide⟩, by rw [upd_ne nld]; exact hlc, by simp⟩ fun b o e => ?_
    rw [upd_ne (ne_of_none (s5 b o e) nd)]
    exact s5 b o e
theorem sc_pick : FnScope ["_law_draw", "_law_many", "_law_cells", "_law_value", "_law_k", "_law_m"] ["_law_draw", "_law_many"] (defScope s_pick) := ⟨rfl, rfl, rfl, by decide +kernel, rfl, by decide +kernel, by decide +kernel⟩
theorem ok_pick {f : Addr} {fd : FuncData} (F : Fun K "_law_pick" "_law_pick" s_pick f fd) (T : Txt K mg e) : FnOk P w K mg base CX0 1 f fd ["_law_draw", "_law_many"] spPick := by
  refine F.ok sc_pick (fun vs H Q E h => ?_) (fun cdv A outer s H vs Q E hr h => ?_)
  · obtain ⟨d, l, cs, n, many, rfl, _⟩ := h
    rfl
  · obtain ⟨d, l, cs, n, many, rfl, hm0, hm1, D, hn, k⟩ := h
    have hu := hu_of hr
    have nld := D.nel
    obtain ⟨⟨a, b, c, g, hd, ha0, ha1⟩, hl, hne⟩ := D
    have hpos : (0 : Int) < (cs.map V.int).length := by
      cases cs with
      | nil => exact absurd rfl hne
      | cons x r => rw [List.map_cons, List.length_cons]; omega
    have cell : ∀ i : Int, ∃ v : Int, atI (cs.map V.int) (i % ((cs.map V.int).length : Int)) = some (V.int v) := fun i => by
      have h0 := Int.emod_nonneg i (by omega : ((cs.map V.int).length : Int) ≠ 0)
      have h1 := Int.emod_lt_of_pos i hpos
      obtain ⟨j, hj⟩ := Int.eq_ofNat_of_zero_le h0
      rw [hj] at h1 ⊢
      have hj' : j < cs.length := by rw [List.length_map] at h1; omega
      exact ⟨cs[j], atI_nat (by rw [List.getElem?_map, List.getElem?_eq_getElem hj']; rfl)⟩
    refine ⟨_, (pss_cons (ps_set (i := 2) sc_pick.nd rfl (Or.inl rfl) (pe_dget hu (pv 0) pe_str (fun _ _ => rfl)))
      (pss_cons (ps_if (pt_val (pe_dget hu (pv 0) pe_str (fun _ _ => rfl)))
        (pss_cons (ps_set (i := 3) sc_pick.nd rfl (Or.inl rfl) (pe_op op_mod (pe_dget hu (pv 0) pe_str (fun _ _ => rfl)) (pv 1)))
        (pss_cons (ps_dput hu (pv 0) pe_str (pe_op op_fdiv (pe_dget hu (pv 0) pe_str (fun _ _ => rfl)) (pv 1)) rfl)
        (pss_cons (ps_dput hu (pv 0) pe_str (pe_op op_sub (pe_dget hu (pv 0) pe_str (fun _ _ => rfl)) pe_int) rfl)
        (pss_cons (ps_if (pt_cmpR op_eq (pe_dget hu (pv 0) pe_str (fun _ _ => rfl)) pe_int (nomark _))
          (pss_cons (ps_dput hu (pv 0) pe_str (pe_op op_add (pe_dget hu (pv 0) pe_str (fun _ _ => rfl)) pe_int) rfl)
          (pss_cons (ps_dput hu (pv 0) pe_str (pe_ix ix_list (pv 2) (pe_op op_mod (pe_dget hu (pv 0) pe_str (fun _ _ => rfl)) (pe_callB call_len_seq (by rfl) T.n_len PySem.boot_len (pa_cons (pv 2) pa_nil))) (fun _ _ => rfl)) rfl)
          (pss_one (ps_dput hu (pv 0) pe_str pe_int rfl))))
          pss_nil)
        (pss_one (ps_ret (pv 3)))))))
        pss_nil)
      (pss_cons (ps_dput hu (pv 0) pe_str (pe_op op_add (pe_dget hu (pv 0) pe_str (fun _ _ => rfl)) pe_int) rfl)
      (pss_cons (ps_set (i := 4) sc_pick.nd rfl (Or.inl rfl) (pe_dget hu (pv 0) pe_str (fun _ _ => rfl)))
      (pss_cons (ps_set (i := 5) sc_pick.nd rfl (Or.inl rfl) (pe_op op_mod (pe_op op_mul (pe_op op_add (pe_op op_add (pe_op op_mod (pe_ix ix_list (pv 2) (pe_op op_mod (pv 4) (pe_callB call_len_seq (by rfl) T.n_len PySem.boot_len (pa_cons (pv 2) pa_nil))) (fun _ _ => rfl)) pe_int) (pe_op op_mul (pe_op op_mul (pv 4) (pv 4)) pe_int)) pe_int) pe_int) pe_int))
      (pss_cons (ps_set (i := 5) sc_pick.nd rfl (Or.inl rfl) (pe_op op_mod (pe_op op_mul (pv 5) (pv 5)) pe_int))
      (pss_one (ps_ret (pe_op op_mod (pe_op op_fdiv (pv 5) pe_int) (pv 1)))))))))), ?_⟩
    refine ⟨_, rfl, d, _, rfl, dg_cells hd, ?_⟩
    refine ⟨_, rfl, d, _, rfl, dg_digits hd, _, rfl, ?_⟩
    cases g with
    | true =>
      refine iteT ?_
      -- value
      refine ⟨_, rfl, d, _, rfl, dg_number hd, _, rfl, _, _, rfl, rfl, hm0, ?_⟩
      -- number
      refine ⟨_, rfl, d, _, rfl, dg_number hd, _, rfl, _, _, rfl, rfl, ⟨hm0, hm1⟩, _, rfl, d, _, rfl, dp_number hd _, ?_⟩
      -- left
      refine ⟨_, rfl, d, _, rfl, dg_left upd_same, _, _, rfl, rfl, _, rfl, d, _, rfl, dp_left upd_same _, ?_⟩
      -- if left == 0
      refine ⟨_, rfl, d, _, rfl, dg_left upd_same, rfl, _, rfl, ?_⟩
      have hv0 : 0 ≤ c % many := Int.emod_nonneg _ (by omega)
      have hv1 : c % many < many := Int.emod_lt_of_pos _ hm0
      refine ite2 (fun _ => ?_) (fun _ => ?_)
      · refine ⟨_, rfl, d, _, rfl, dg_at upd_same, _, _, rfl, rfl, _, rfl, d, _, rfl, dp_at upd_same _, ?_⟩
        obtain ⟨x, hx⟩ := cell (a + 1)
        have hl' : ∀ o, upd H d o l = some (.lst (cs.map V.int)) := fun o => by rw [upd_ne nld]; exact hl
        rw [upd_upd, upd_upd]
        refine ⟨_, rfl, _, rfl, d, _, rfl, dg_at upd_same, _, rfl, l, _, rfl, .inl (SqL.of (hl' _)), _, _, rfl, rfl, hpos, l, _, _, _, rfl, rfl, SqL.of (hl' _), hx, _, rfl, d, _, rfl, dp_number upd_same _, ?_⟩
        refine ⟨_, rfl, d, _, rfl, dp_left upd_same _, ?_⟩
        rw [upd_upd, upd_upd]
        refine ⟨_, rfl, ?_⟩
        exact k _ _ hv0 hv1 ⟨⟨a + 1, 60, x, true, upd_same, by omega, by omega⟩, hl' _, hne⟩ (But.upd _ _ _)
      · refine ⟨_, rfl, ?_⟩
        rw [upd_upd]
        exact k _ _ hv0 hv1 ⟨⟨a, _, _, true, upd_same, ha0, by omega⟩, by rw [upd_ne nld]; exact hl, hne⟩ (But.upd _ _ _)
    | false =>
      refine iteF ?_
      refine ⟨_, rfl, d, _, rfl, dg_at hd, _, _, rfl, rfl, _, rfl, d, _, rfl, dp_at hd _, ?_⟩
      refine ⟨_, rfl, d, _, rfl, dg_at upd_same, ?_⟩
      have hl' : ∀ o, upd H d o l = some (.lst (cs.map V.int)) := fun o => by rw [upd_ne nld]; exact hl
      obtain ⟨x, hx⟩ := cell (a + 1)
      refine ⟨_, rfl, _, rfl, _, rfl, l, _, rfl, .inl (SqL.of (hl' _)), _, _, rfl, rfl, hpos, l, _, _, _, rfl, rfl, SqL.of (hl' _), hx, _, _, rfl, rfl, (show (0 : Int) < 2147483629 by decide), _, rfl, _, rfl, _, _, rfl, rfl, .inl ⟨by omega, by omega⟩, _, _, rfl, rfl, .inr ⟨by decide, by decide⟩, _, _, rfl, rfl, _, _, rfl, rfl, _, _, rfl, rfl, .inr ⟨by decide, by decide⟩, _, _, rfl, rfl, (show (0 : Int) < 2147483647 by decide), ?_⟩
      have m1 := Int.emod_nonneg ((x % 2147483629 + (a + 1) * (a + 1) * 7919 + 11) * 48271) (by decide : (2147483647 : Int) ≠ 0)
      have m2 := Int.emod_lt_of_pos ((x % 2147483629 + (a + 1) * (a + 1) * 7919 + 11) * 48271) (by decide : (0 : Int) < 2147483647)
      refine ⟨_, rfl, _, rfl, _, _, rfl, rfl, .inl ⟨by omega, by omega⟩, _, _, rfl, rfl, (show (0 : Int) < 1999999973 by decide), ?_⟩
      refine ⟨_, rfl, _, _, rfl, rfl, ⟨by decide, by decide⟩, _, rfl, _, _, rfl, rfl, hm0, ?_⟩
      exact k _ _ (Int.emod_nonneg _ (by omega)) (Int.emod_lt_of_pos _ hm0) ⟨⟨a + 1, b, c, false, upd_same, by omega, by omega⟩, hl' _, hne⟩ (But.upd _ _ _)
theorem sc_made : FnScope ["word", "signs", "most"] ["word", "signs", "most"] (defScope s_made) := ⟨rfl, rfl, rfl, by decide +kernel, rfl, by decide +kernel, by decide +kernel⟩
theorem ok_made {f : Addr} {fd : FuncData} (F : Fun K "made_of" "made_of" s_made f fd) (T : Txt K mg e) : FnOk P w K mg base CX0 1 f fd ["word", "signs", "most"] spMade := by
  refine F.ok sc_made (fun vs H Q E h => ?_) (fun cdv A outer s H vs Q E hr h => ?_)
  · obtain ⟨z, g, m, rfl, _⟩ := h
    rfl
  · obtain ⟨z, g, m, rfl, hz, k⟩ := h
    have hz' := len1000 hz
    refine ⟨_, (pss_one (ps_ret (pe_and (pe_chain op_le op_le pe_int (pe_callB call_len_str (by rfl) T.n_len PySem.boot_len (pa_cons (pv 0) pa_nil)) (pv 2)) (pe_one (pe_callB (call_all rfl) rfl T.n_all PyProof.Rows.boot_all (pa_cons (pe_comp (F := ["signs"]) (T := ["sign"]) (fr := [1]) ⟨rfl, by decide +kernel, by decide +kernel, (by show ∀ y ∈ (_ : List (Str × NameKind)), y.2 = NameKind.free → (defScope s_made).names.lookup y.1 = some NameKind.cell; decide +kernel), by decide +kernel, rfl⟩ rfl (pi_str (pv 0)) (fun _ _ _ _ _ => (pg_name (i := 1) (show (["signs", "sign"] : List Str).Nodup by decide +kernel) rfl (Or.inl rfl))) (fun _ _ _ _ _ => pif_nil) (fun _ _ _ _ _ => (pe_cmpR op_in_str (pv 1) (pv 0) (by with_unfolding_all rfl)))) pa_nil)))))), ?_⟩
    refine ⟨_, rfl, z, rfl, hz', _, _, rfl, rfl, _, rfl, ?_⟩
    by_cases h1 : (1 : Int) ≤ z.length
    · rw [decide_eq_true h1]
      refine iteT ⟨_, rfl, _, _, rfl, rfl, _, rfl, ?_⟩
      by_cases h2 : (z.length : Int) ≤ m
      · rw [decide_eq_true h2]
        refine iteT ⟨_, rfl, z, rfl, fun D nD => ?_⟩
        refine comp_strH (z := z) (fun i σ xs H' => i ≤ z.cps.size ∧ (∃ v, σ = [some (.str g), v]) ∧ xs = ((z.cps.toList.take i).map fun c => decide (c ∈ g.cps.toList)).map V.bl ∧ H' D = some (.lst xs) ∧ ∀ b o, H b = some o → H' b = some o) ?_ (fun i σ xs H' p => p.2.2.2.1) ?_ ?_
        · exact ⟨Nat.zero_le _, ⟨none, rfl⟩, by simp, upd_same, upd_new nD⟩
        · rintro i c σ xs H1 hc ⟨hi, ⟨v, rfl⟩, hx, hD, kp⟩
          refine ⟨_, rfl, _, rfl, _, _, rfl, rfl, hD, ?_, ?_⟩
          · rw [hx, List.length_map, List.length_map, List.length_take]
            have : (1000 : Nat) < sizeLine := by decide
            have : z.cps.toList.length = z.length := by simp [Str.length]
            omega
          · have hlt : i < z.cps.size := by
              rcases Nat.lt_or_ge i z.cps.size with q | q
              · exact q
              · rw [Array.getElem?_eq_none q] at hc; cases hc
            refine ⟨hlt, ⟨_, rfl⟩, ?_, upd_same, fun b o eb => ?_⟩
            · rw [StrLaws.found_one, hx, List.take_add_one, List.map_append, List.map_append]
              congr 1
              have : z.cps.toList[i]? = some c := by simpa using hc
              rw [this]
              rfl
            · have nb : b ≠ D := ne_of_none eb nD
              rw [upd_ne nb]
              exact kp b o eb
        · rintro σ xs H1 ⟨_, _, hx, hD, kp⟩
          refine ⟨D, (z.cps.toList.map fun c => decide (c ∈ g.cps.toList)), rfl, ?_, ?_⟩
          · rw [hD, hx, List.take_of_length_le (by simp)]
          · have e1 : ((z.cps.toList.map fun c => decide (c ∈ g.cps.toList)).all id) = signsB z g := by
              rw [List.all_map]
              rfl
            have q := k H1 kp
            unfold madeB at q
            rw [decide_eq_true h1, decide_eq_true h2, Bool.true_and, Bool.true_and, ← e1] at q
            exact q
      · rw [decide_eq_false h2]
        refine iteF ?_
        have q := k H (Same.refl H)
        unfold madeB at q
        rw [decide_eq_true h1, decide_eq_false h2] at q
        exact q
    · rw [decide_eq_false h1]
      refine iteF ⟨_, rfl, iteF ?_⟩
      have q := k H (Same.refl H)
      unfold madeB at q
      rw [decide_eq_false h1] at q
      exact q
theorem sc_isname : FnScope ["word"] ["word"] (defScope s_isname) := ⟨rfl, rfl, rfl, by decide +kernel, rfl, by decide +kernel, by decide +kernel⟩
theorem ok_isname {f f_made : Addr} {fd fd_made : FuncData} (F : Fun K "is_name" "is_name" s_isname f fd) (T : Txt K mg e) (D_made : Def K mg "made_of" s_made ["word", "signs", "most"] f_made fd_made) : FnOk P w K mg base CX0 2 f fd ["word"] spName := by
  have G_made : FnOk P w K mg base CX0 1 f_made fd_made ["word", "signs", "most"] spMade := ok_made D_made.F T
  refine F.ok sc_isname (fun vs H Q E h => ?_) (fun cdv A outer s H vs Q E hr h => ?_)
  · obtain ⟨z, rfl, _⟩ := h
    rfl
  · obtain ⟨z, rfl, hz, k⟩ := h
    have hr_made := hr.mono (by decide : 1 ≤ 1)
    refine ⟨_, (pss_one (ps_ret (pe_and (pe_call G_made hr_made rfl D_made.m D_made.F.kp D_made.b .nil pass0 (pa_cons (pv 0) (pa_cons (pe_glob (v := .str _) rfl T.g_LETTERS ⟨_, rfl⟩) (pa_cons (pe_glob (v := .int _) rfl T.g_MOST_LETTERS ⟨_, rfl⟩) pa_nil)))) (pe_one (pe_cmpR op_notIn_seq (pv 0) (pe_glob (v := .ref _) rfl T.g_KEYWORDS rfl) (by with_unfolding_all rfl)))))), ?_⟩
    refine ⟨_, rfl, z, abc, 8, rfl, hz, fun H1 s1 => ⟨_, rfl, ?_⟩⟩
    have q := k H1 s1
    unfold nameB at q
    cases hb : madeB z abc 8 with
    | false =>
      refine iteF ?_
      rw [hb] at q
      exact q
    | true =>
      refine iteT ⟨_, rfl, e.aK, _, rfl, .inr (T.t_KEYWORDS _), rfl, by decide +kernel, ?_⟩
      rw [hb, Bool.true_and] at q
      exact q
theorem sc_kws : FnScope ["_law_heads", "_law_others"] [] (defScope s_kws) := ⟨rfl, rfl, rfl, by decide +kernel, rfl, by decide +kernel, by decide +kernel⟩
theorem split_heads : Txt.split "over overs spell wide noball side innings follow team player start bat bye leg no nobye rope out" " " = kwL.take 18 := by decide +kernel
theorem split_others : Txt.split "bowled caught before stumped hit run strike other in bowl hurt swap declare close left played points" " " = (kwL.drop 18).take 17 := by decide +kernel
theorem ok_kws {f : Addr} {fd : FuncData} (F : Fun K "_law_keywords" "_law_keywords" s_kws f fd) (T : Txt K mg e) : FnOk P w K mg base CX0 1 f fd [] spKws := by
  refine F.ok sc_kws (fun vs H Q E h => ?_) (fun cdv A outer s H vs Q E hr h => ?_)
  · obtain ⟨rfl, _⟩ := h
    rfl
  · obtain ⟨rfl, k⟩ := h
    refine ⟨_, (pss_cons (ps_set (i := 0) sc_kws.nd rfl (Or.inl rfl) pe_str)
      (pss_cons (ps_set (i := 1) sc_kws.nd rfl (Or.inl rfl) pe_str)
      (pss_one (ps_ret (pe_op op_cat (pe_op op_cat (pe_bm PySem.F.plainAttrs_str PySem.F.slot_str_split PySem.F.type_str_split mt_split (pv 0) (pa_cons pe_str pa_nil)) (pe_bm PySem.F.plainAttrs_str PySem.F.slot_str_split PySem.F.type_str_split mt_split (pv 1) (pa_cons pe_str pa_nil))) (pe_lst (pa_cons pe_str pa_nil))))))), ?_⟩
    refine ⟨_, rfl, rfl, _, _, rfl, rfl, by decide +kernel, by decide +kernel, by decide +kernel, fun l1 n1 => ?_⟩
    refine ⟨_, rfl, rfl, _, _, rfl, rfl, by decide +kernel, by decide +kernel, by decide +kernel, fun l2 n2 => ?_⟩
    have h1 := upd_new (o := .lst ((Txt.split "bowled caught before stumped hit run strike other in bowl hurt swap declare close left played points" " ").map V.str)) n2 _ _ (upd_same (H := H) (a := l1) (o := .lst ((Txt.split "over overs spell wide noball side innings follow team player start bat bye leg no nobye rope out" " ").map V.str)))
    refine ⟨l1, l2, _, _, rfl, rfl, h1, upd_same, by decide +kernel, fun l3 n3 => ?_⟩
    refine ⟨(by show 1 ≤ sizeLine; decide), fun l4 n4 => ?_⟩
    refine ⟨l3, l4, _, _, rfl, rfl, upd_new n4 _ _ upd_same, upd_same, by decide +kernel, fun l5 n5 => ?_⟩
    have s1 := upd_new (o := .lst ((Txt.split "over overs spell wide noball side innings follow team player start bat bye leg no nobye rope out" " ").map V.str)) n1
    have s2 := upd_new (o := .lst ((Txt.split "bowled caught before stumped hit run strike other in bowl hurt swap declare close left played points" " ").map V.str)) n2
    refine k l5 _ ?_ ?_ ?_
    · exact ((s1.trans s2).trans ((upd_new n3).trans (upd_new n4))).free n5
    · rw [upd_same]
      rw [split_heads, split_others]
      rfl
    · exact ((s1.trans s2).trans ((upd_new n3).trans (upd_new n4))).trans (upd_new n5)
end
/-! ### numbers as texts -/
theorem call_int_text {X : Cx} : CallR X (.type "int") (fun xs H Q => ∃ (z : Str) (n : Int), xs = [.str z] ∧ intText? z = some n ∧ z.length ≤ 640 ∧ Q (.int n) H) := by
  intro pins s σ H xs us Q I r h
  obtain ⟨z, n, rfl, hn, hl, q⟩ := h
  obtain ⟨u, rfl, t, rfl⟩ := vals1 r
  exact PySem.W.KIN.call_text hn hl ⟨.int n, H, I.tok _, ⟨_, rfl⟩, q⟩
def fig : Str := "0123456789"
/-- a nought ahead of more -/
def zeroB (z : Str) : Bool := decide (z.cps.toList.head? = some 48) && decide (2 ≤ z.length)
def okN (z : Str) : Bool := madeB z fig 4 && !zeroB z
def valN (z : Str) : Int := (PySem.NumText.digitsVal z.cps.toList : Nat)
def spNumin : Sp := fun vs H Q _ => ∃ z : Str, vs = [.str z] ∧ z.length ≤ 1000 ∧ ∀ H', Same H H' → Q (if okN z = true then .int (valN z) else .non) H'
theorem fig_all : ∀ c ∈ fig.cps.toList, 48 ≤ c ∧ c ≤ 57 ∧ Txt.find fig ⟨#[c]⟩ = ((c - 48 : Nat) : Int) := by decide +kernel
theorem okN_digits {z : Str} (h : madeB z fig 4 = true) : PySem.NumText.AllDigits z.cps.toList := by
  unfold madeB at h
  rw [Bool.and_eq_true, Bool.and_eq_true] at h
  intro c hc
  have q := List.all_eq_true.mp (show z.cps.toList.all (fun c => decide (c ∈ fig.cps.toList)) = true from h.2.2) c hc
  have r := fig_all c (of_decide_eq_true q)
  exact ⟨r.1, r.2.1⟩
theorem not_zero {c : Nat} (hc0 : ¬ c = 48) : decide (V.str ⟨#[c]⟩ = V.str "0") = false := decide_eq_false (fun h => hc0 (by
  injection h with h
  have h2 : (#[c] : Array Nat) = (Str.ofString "0").cps := congrArg Str.cps h
  have h3 : (Str.ofString "0").cps = #[48] := by decide +kernel
  rw [h3] at h2
  simpa using h2))
theorem zero_long {z : Str} {c : Nat} {r : List Nat} (hcr : z.cps.toList = c :: r) (hc0 : c = 48) (hz0 : ¬ z = "0") : zeroB z = true := by
  have hl2 : z.cps.toList.length = z.length := by simp [Str.length]
  unfold zeroB
  rw [hcr, hc0]
  have : 2 ≤ z.length := by
    rcases Nat.lt_or_ge z.length 2 with h | h
    · exfalso
      rw [hcr] at hl2
      have hr0 : r = [] := by
        cases r with
        | nil => rfl
        | cons _ _ => simp at hl2; omega
      apply hz0
      obtain ⟨a⟩ := z
      have : a.toList = [48] := by rw [← hc0, ← hr0]; exact hcr
      have : a = #[48] := by rw [← Array.toArray_toList (xs := a), this]
      rw [this]
      decide +kernel
    · exact h
  rw [decide_eq_true this]
  rfl
section
variable {P : Program} {w : World} {K : PySem.W.Frag} {mg : Str → Option Value} {base : Heap} {e : Ext}
theorem sc_numin : FnScope ["word"] ["word"] (defScope s_numin) := ⟨rfl, rfl, rfl, by decide +kernel, rfl, by decide +kernel, by decide +kernel⟩
theorem ok_numin {f f_made : Addr} {fd fd_made : FuncData} (F : Fun K "number_in" "number_in" s_numin f fd) (T : Txt K mg e) (D_made : Def K mg "made_of" s_made ["word", "signs", "most"] f_made fd_made) : FnOk P w K mg base CX0 2 f fd ["word"] spNumin := by
  have G_made : FnOk P w K mg base CX0 1 f_made fd_made ["word", "signs", "most"] spMade := ok_made D_made.F T
  refine F.ok sc_numin (fun vs H Q E h => ?_) (fun cdv A outer s H vs Q E hr h => ?_)
  · obtain ⟨z, rfl, _⟩ := h
    rfl
  · obtain ⟨z, rfl, hz, k⟩ := h
    have hz' := len1000 hz
    have hr_made := hr.mono (by decide : 1 ≤ 1)
    refine ⟨_, (pss_cut (ps_if (pt_not (pt_val (pe_call G_made hr_made rfl D_made.m D_made.F.kp D_made.b .nil pass0 (pa_cons (pv 0) (pa_cons (pe_glob (v := .str _) rfl T.g_FIGURES ⟨_, rfl⟩) (pa_cons (pe_glob (v := .int _) rfl T.g_MOST_FIGURES ⟨_, rfl⟩) pa_nil))))))
        (pss_one (ps_ret pe_non))
        pss_nil)
      (pss_cut (ps_if (PW.pt (pw_and (pt_cmpR op_eq (pe_ix ix_str (pv 0) pe_int (fun _ _ => rfl)) pe_str (nomark _)) (pw_and1 (pt_cmpR op_ne (pv 0) pe_str (nomark _)))))
        (pss_one (ps_ret pe_non))
        pss_nil)
      (pss_one (ps_ret (pe_callTy call_int_text rfl T.n_int PyProof.Rows.boot_int (pa_cons (pv 0) pa_nil)))))), ?_⟩
    refine ⟨fun σ' H' => σ' = [some (.str z)] ∧ Same H H' ∧ madeB z fig 4 = true, ?_, ?_⟩
    · refine ⟨_, rfl, z, fig, 4, rfl, hz, fun H1 s1 => ⟨_, rfl, ?_⟩⟩
      cases hb : madeB z fig 4 with
      | false =>
        have q := k H1 s1
        unfold okN at q
        rw [hb] at q
        exact q
      | true => exact ⟨rfl, s1, rfl⟩
    rintro σ' H1 ⟨rfl, s1, hb⟩
    have q := k H1 s1
    unfold okN at q
    rw [hb, Bool.true_and] at q
    have hlen : 1 ≤ z.length ∧ z.length ≤ 4 := by
      unfold madeB at hb
      rw [Bool.and_eq_true, Bool.and_eq_true] at hb
      have := of_decide_eq_true hb.1
      have := of_decide_eq_true hb.2.1
      omega
    have hl2 : z.cps.toList.length = z.length := by simp [Str.length]
    obtain ⟨c, r, hcr⟩ : ∃ c r, z.cps.toList = c :: r := by
      cases e : z.cps.toList with
      | nil => rw [e] at hl2; simp at hl2; omega
      | cons c r => exact ⟨c, r, rfl⟩
    refine ⟨fun σ' H' => σ' = [some (.str z)] ∧ H' = H1 ∧ zeroB z = false, ?_, ?_⟩
    · refine ⟨_, rfl, z, 0, c, rfl, rfl, hz', (show atI z.cps.toList 0 = some c by rw [hcr]; exact atI_nat (j := 0) rfl), rfl, _, rfl, ?_⟩
      by_cases hc0 : c = 48
      · have e1 : decide (V.str ⟨#[c]⟩ = V.str "0") = true := by rw [hc0]; decide +kernel
        rw [e1]
        refine ⟨_, rfl, rfl, _, rfl, ?_⟩
        by_cases hz0 : z = "0"
        · refine iteNS (by rw [hz0]) ⟨rfl, rfl, by rw [hz0]; decide +kernel⟩
        · have e3 : zeroB z = true := zero_long hcr hc0 hz0
          rw [e3] at q
          have e4 : (!decide (V.str z = V.str "0")) = true := by
            rw [decide_eq_false (fun h => hz0 (by injection h))]
            rfl
          rw [e4]
          exact q
      · rw [not_zero hc0]
        exact ⟨rfl, rfl, by unfold zeroB; rw [hcr]; simp [hc0]⟩
    rintro σ' H' ⟨rfl, eH, hzb⟩
    rw [eH]
    rw [hzb] at q
    exact ⟨_, rfl, z, valN z, rfl, PySem.intText_digits (okN_digits hb) (by rw [hcr]; simp) (by omega), by omega, q⟩
end
end My

set_option Elab.async false
set_option linter.all false
set_option maxRecDepth 100000
set_option maxHeartbeats 4000000
namespace My
open PySem L2
theorem sp_eq : (Str.ofString " ") = ⟨#[32]⟩ := by decide +kernel
theorem nl_eq : (Str.ofString "\n") = ⟨#[10]⟩ := by decide +kernel
theorem em_eq : (Str.ofString "") = Str.empty := by decide +kernel
def wordsOf (z : Str) : List Str := (Txt.split z (Str.ofString " ")).filter fun y => !decide (y = Str.empty)
theorem dec_em (y : Str) : (!decide (V.str y = V.str (Str.ofString ""))) = !decide (y = Str.empty) := by
  rw [em_eq]
  congr 1
  rw [Bool.eq_iff_iff, decide_eq_true_eq, decide_eq_true_eq]
  exact ⟨fun h => V.str.inj h, fun h => by rw [h]⟩
def rowsGo : Nat → List Str → List (Nat × List Str)
  | _, [] => []
  | n, r :: rs => (if wordsOf r = [] then [] else [(n, wordsOf r)]) ++ rowsGo (n + 1) rs
theorem rowsGo_app : ∀ (n : Nat) (a b : List Str), rowsGo n (a ++ b) = rowsGo n a ++ rowsGo (n + a.length) b
  | n, [], b => by simp [rowsGo]
  | n, r :: a, b => by
    rw [List.cons_append, rowsGo, rowsGo, rowsGo_app (n + 1) a b, List.append_assoc, List.length_cons]
    congr 3
    omega
def spWords : Sp := fun vs H Q _ => ∃ z : Str, vs = [.str z] ∧ z.length ≤ 1000000 ∧ ∀ (l : Addr) (H' : Hp), H l = none → H' l = some (.lst ((wordsOf z).map V.str)) → Same H H' → Q (.ref l) H'
/-- pairs of a number and words: each a tuple, and its list -/
def NumRows (H : Hp) (l : Addr) : List Addr → List (Nat × List Str) → Prop
  | [], [] => True
  | a :: as, r :: rs => (∃ w, a ≠ l ∧ w ≠ l ∧ H a = some (.tup [.int (r.1 : Int), .ref w]) ∧ H w = some (.lst (r.2.map V.str))) ∧ NumRows H l as rs
  | _, _ => False
theorem NumRows.but {H H' : Hp} {l : Addr} (k : But l H H') : ∀ {as : List Addr} {rs : List (Nat × List Str)}, NumRows H l as rs → NumRows H' l as rs
  | [], [], _ => True.intro
  | a :: as, r :: rs, h => by
    obtain ⟨⟨w, n1, n2, h1, h2⟩, h3⟩ := h
    exact ⟨⟨w, n1, n2, k _ _ h1 n1, k _ _ h2 n2⟩, h3.but k⟩
  | [], _ :: _, h => h.elim
  | _ :: _, [], h => h.elim
theorem NumRows.snoc {H : Hp} {l a w : Addr} {r : Nat × List Str} (n1 : a ≠ l) (n2 : w ≠ l) (h1 : H a = some (.tup [.int (r.1 : Int), .ref w])) (h2 : H w = some (.lst (r.2.map V.str))) : ∀ {as : List Addr} {rs : List (Nat × List Str)}, NumRows H l as rs → NumRows H l (as ++ [a]) (rs ++ [r])
  | [], [], _ => ⟨⟨w, n1, n2, h1, h2⟩, True.intro⟩
  | _ :: _, _ :: _, h => ⟨h.1, NumRows.snoc n1 n2 h1 h2 h.2⟩
  | [], _ :: _, h => h.elim
  | _ :: _, [], h => h.elim
theorem NumRows.len {H : Hp} {l : Addr} : ∀ {as : List Addr} {rs : List (Nat × List Str)}, NumRows H l as rs → as.length = rs.length
  | [], [], _ => rfl
  | _ :: _, _ :: _, h => by rw [List.length_cons, List.length_cons, NumRows.len h.2]
  | [], _ :: _, h => h.elim
  | _ :: _, [], h => h.elim
theorem NumRows.get {H : Hp} {l : Addr} : ∀ {as : List Addr} {rs : List (Nat × List Str)} {i : Nat} {a : Addr}, NumRows H l as rs → as[i]? = some a → ∃ r w, rs[i]? = some r ∧ H a = some (.tup [.int (r.1 : Int), .ref w]) ∧ H w = some (.lst (r.2.map V.str))
  | [], [], _, _, _, h => by simp at h
  | a :: as, r :: rs, 0, b, h, e => by
    obtain ⟨⟨w, _, _, h1, h2⟩, _⟩ := h
    have : a = b := by simpa using e
    subst this
    exact ⟨r, w, rfl, h1, h2⟩
  | _ :: _, _ :: _, i + 1, b, h, e => NumRows.get (i := i) h.2 (by simpa using e)
  | [], _ :: _, _, _, h, _ => h.elim
  | _ :: _, [], _, _, h, _ => h.elim
def spNumbered : Sp := fun vs H Q _ => ∃ z : Str, vs = [.str z] ∧ z.length ≤ 1000000 ∧ ∀ (l : Addr) (as : List Addr) (H' : Hp), H l = none → H' l = some (.lst (as.map V.ref)) → NumRows H' l as (rowsGo 1 (Txt.split z (Str.ofString "\n"))) → Same H H' → Q (.ref l) H'
theorem part_le {s : Str} : ∀ {ps : List Str} {p : Str}, p ∈ ps → p.length ≤ (Str.join s ps).length
  | [q], p, h => by rw [List.mem_singleton.mp h, join_one]; exact Nat.le_refl _
  | q :: r :: t, p, h => by
    rw [join_two, Str.length_append, Str.length_append]
    rcases List.mem_cons.mp h with h | h
    · rw [h]; omega
    · have := part_le (s := s) h
      omega
theorem split_len {z y : Str} (hy : 1 ≤ y.length) : (Txt.split z y).length ≤ z.length + 1 := by
  have q := join_count hy (Txt.split z y)
  rwa [StrLaws.join_split] at q
theorem one1 : 1 ≤ (Str.ofString " ").length := by decide +kernel
theorem one2 : 1 ≤ (Str.ofString "\n").length := by decide +kernel
theorem s1m : (1000001 : Nat) < sizeLine := by decide
section
variable {P : Program} {w : World} {K : PySem.W.Frag} {mg : Str → Option Value} {base : Heap} {e : Ext}
theorem sc_wordsof : FnScope ["row"] ["row"] (defScope s_wordsof) := ⟨rfl, rfl, rfl, by decide +kernel, rfl, by decide +kernel, by decide +kernel⟩
theorem ok_wordsof {f : Addr} {fd : FuncData} (F : Fun K "words_of" "words_of" s_wordsof f fd) (T : Txt K mg e) : FnOk P w K mg base CX0 1 f fd ["row"] spWords := by
  refine F.ok sc_wordsof (fun vs H Q E h => ?_) (fun cdv A outer s H vs Q E hr h => ?_)
  · obtain ⟨z, rfl, _⟩ := h
    rfl
  · obtain ⟨z, rfl, hz, k⟩ := h
    have hm := s1m
    refine ⟨_, (pss_one (ps_ret (pe_comp (F := []) (T := ["word"]) (fr := []) ⟨rfl, by decide +kernel, by decide +kernel, (by show ∀ y ∈ (_ : List (Str × NameKind)), y.2 = NameKind.free → (defScope s_wordsof).names.lookup y.1 = some NameKind.cell; decide +kernel), by decide +kernel, rfl⟩ rfl (pi_list (pe_bm PySem.F.plainAttrs_str PySem.F.slot_str_split PySem.F.type_str_split mt_split (pv 0) (pa_cons pe_str pa_nil))) (fun _ _ _ _ _ => (pg_name (i := 0) (show (["word"] : List Str).Nodup by decide +kernel) rfl (Or.inl rfl))) (fun _ _ _ _ _ => (pif_one (pt_cmpR op_ne (pv 0) pe_str (nomark _)))) (fun _ _ _ _ _ => (pv 0))))), ?_⟩
    refine ⟨_, rfl, rfl, z, Str.ofString " ", rfl, rfl, by decide +kernel, by omega, Nat.le_trans (split_count one1) (by omega), fun p np => ?_⟩
    refine ⟨p, rfl, ⟨_, SqL.of upd_same⟩, fun D nD => ?_⟩
    have spl := split_len (z := z) one1
    refine comp_listH (K := K) (a := p) (ys := (Txt.split z (Str.ofString " ")).map V.str) (fun i σ xs H' => (∃ v, σ = [v]) ∧ xs = (((Txt.split z (Str.ofString " ")).take i).filter (fun y => !decide (y = Str.empty))).map V.str ∧ H' D = some (.lst xs) ∧ H' p = some (.lst ((Txt.split z (Str.ofString " ")).map V.str)) ∧ Same H H') ?_ (fun i σ xs H' q => q.2.2.1) (fun i σ xs H' q => SqL.of q.2.2.2.1) ?_ ?_
    · exact ⟨⟨none, rfl⟩, rfl, upd_same, upd_new nD _ _ upd_same, (upd_new np).trans (upd_new nD)⟩
    · rintro i y σ xs H1 hy ⟨⟨v, rfl⟩, rfl, hD, hp, s1⟩
      obtain ⟨t, ht, rfl⟩ : ∃ t, (Txt.split z (Str.ofString " "))[i]? = some t ∧ V.str t = y := by
        rw [List.getElem?_map] at hy
        cases e : (Txt.split z (Str.ofString " "))[i]? with
        | none => rw [e] at hy; cases hy
        | some t => rw [e] at hy; exact ⟨t, rfl, Option.some.inj hy⟩
      have tk : (Txt.split z (Str.ofString " ")).take (i + 1) = (Txt.split z (Str.ofString " ")).take i ++ [t] := by rw [List.take_add_one, ht]; rfl
      refine ⟨_, rfl, rfl, _, rfl, ?_⟩
      rw [dec_em, tk, List.filter_append]
      have pD : p ≠ D := by
        intro q
        subst q
        rw [upd_same] at nD
        cases nD
      by_cases hb : t = Str.empty
      · have e1 : (!decide (t = Str.empty)) = false := by rw [decide_eq_true hb]; rfl
        rw [e1]
        refine iteF ⟨⟨_, rfl⟩, ?_, hD, hp, s1⟩
        simp [e1]
      · have e1 : (!decide (t = Str.empty)) = true := by rw [decide_eq_false hb]; rfl
        rw [e1]
        refine iteT ⟨_, rfl, hD, ?_, ⟨_, rfl⟩, ?_, upd_same, by rw [upd_ne pD]; exact hp, fun b o eb => ?_⟩
        · rw [List.length_map]
          refine Nat.lt_of_le_of_lt (List.length_filter_le _ _) ?_
          rw [List.length_take]
          omega
        · simp [e1]
        · have nb : b ≠ D := ne_of_none (upd_new np b o eb) nD
          rw [upd_ne nb]
          exact s1 b o eb
    · rintro σ xs H1 ⟨_, rfl, hD, hp, s1⟩
      refine k D H1 ((upd_new np).free nD) ?_ s1
      rw [List.length_map, List.take_length] at hD
      exact hD
end
end My

set_option Elab.async false
set_option linter.all false
set_option maxRecDepth 100000
set_option maxHeartbeats 4000000
namespace My
open PySem L2
section
variable {P : Program} {w : World} {K : PySem.W.Frag} {mg : Str → Option Value} {base : Heap} {e : Ext}
theorem sc_numbered : FnScope ["text", "rows", "number", "row", "words"] ["text"] (defScope s_numbered) := ⟨rfl, rfl, rfl, by decide +kernel, rfl, by decide +kernel, by decide +kernel⟩
theorem ok_numbered {f f_wordsof : Addr} {fd fd_wordsof : FuncData} (F : Fun K "numbered_rows" "numbered_rows" s_numbered f fd) (T : Txt K mg e) (D_wordsof : Def K mg "words_of" s_wordsof ["row"] f_wordsof fd_wordsof) : FnOk P w K mg base CX0 2 f fd ["text"] spNumbered := by
  have G_wordsof : FnOk P w K mg base CX0 1 f_wordsof fd_wordsof ["row"] spWords := ok_wordsof D_wordsof.F T
  refine F.ok sc_numbered (fun vs H Q E h => ?_) (fun cdv A outer s H vs Q E hr h => ?_)
  · obtain ⟨z, rfl, _⟩ := h
    rfl
  · obtain ⟨z, rfl, hz, k⟩ := h
    have hm := s1m
    have hr_wordsof := hr.mono (by decide : 1 ≤ 1)
    refine ⟨_, (pss_cons (ps_set (i := 1) sc_numbered.nd rfl (Or.inl rfl) (pe_lst pa_nil))
      (pss_cons (ps_for PassesOwn.never rfl (pi_enumS rfl T.n_enumerate (pa_cons (pe_bm PySem.F.plainAttrs_str PySem.F.slot_str_split PySem.F.type_str_split mt_split (pv 0) (pa_cons pe_str pa_nil)) pa_nil)) (pg_tup rfl (pgs_cons (pg_name (i := 2) sc_numbered.nd rfl (Or.inl rfl)) (pgs_cons (pg_name (i := 3) sc_numbered.nd rfl (Or.inl rfl)) pgs_nil)))
        (pss_cons (ps_set (i := 4) sc_numbered.nd rfl (Or.inl rfl) (pe_call G_wordsof hr_wordsof rfl D_wordsof.m D_wordsof.F.kp D_wordsof.b .nil pass0 (pa_cons (pv 3) pa_nil)))
        (pss_one (ps_if (pt_cmpR op_gt (pe_callB call_len_seq (by rfl) T.n_len PySem.boot_len (pa_cons (pv 4) pa_nil)) pe_int (nomark _))
          (pss_one (ps_expr (pe_bm PySem.F.plainAttrs_list PySem.F.slot_list_append PySem.F.type_list_append mt_append (pv 1) (pa_cons (pe_tup (pa_cons (pv 2) (pa_cons (pv 4) pa_nil))) pa_nil))))
          pss_nil))))
      (pss_one (ps_ret (pv 1))))), ?_⟩
    refine ⟨Nat.zero_le _, fun l nl => ?_⟩
    refine ⟨_, rfl, rfl, z, Str.ofString "\n", rfl, rfl, by decide +kernel, by omega, Nat.le_trans (split_count one2) (by omega), fun p np => ?_⟩
    have spl := split_len (z := z) one2
    have lp : l ≠ p := ne_of_none upd_same np
    refine ⟨p, _, rfl, SqL.of upd_same, ?_⟩
    refine for_enum (κ := false) (xs := (Txt.split z (Str.ofString "\n")).map V.str) (fun i σ H' => (∃ x2 x3 x4, σ = [some (.str z), some (.ref l), x2, x3, x4]) ∧ (∃ as rs, H' l = some (.lst (as.map V.ref)) ∧ NumRows H' l as rs ∧ as.length ≤ i ∧ rs ++ rowsGo (1 + i) ((Txt.split z (Str.ofString "\n")).drop i) = rowsGo 1 (Txt.split z (Str.ofString "\n"))) ∧ H' p = some (.lst ((Txt.split z (Str.ofString "\n")).map V.str)) ∧ Same H H') ?_ (fun i σ H' _ q => SqL.of q.2.2.1) ?_ ?_
    · exact ⟨⟨_, _, _, rfl⟩, ⟨[], [], by rw [upd_ne lp]; exact upd_same, True.intro, Nat.le_refl _, rfl⟩, upd_same, (upd_new nl).trans (upd_new np)⟩
    · rintro i x σ H1 T1 hx ⟨⟨x2, x3, x4, rfl⟩, ⟨as, rs, hl, hN, hlen, hgo⟩, hp, s1⟩ nT
      have hi : i < ((Txt.split z (Str.ofString "\n")).map V.str).length := (List.getElem?_eq_some_iff.mp hx).1
      rw [List.length_map] at hi
      obtain ⟨t, ht, rfl⟩ : ∃ t, (Txt.split z (Str.ofString "\n"))[i]? = some t ∧ V.str t = x := by
        rw [List.getElem?_map] at hx
        cases e : (Txt.split z (Str.ofString "\n"))[i]? with
        | none => rw [e] at hx; cases hx
        | some t => rw [e] at hx; exact ⟨t, rfl, Option.some.inj hx⟩
      have htl : t.length ≤ z.length := by
        have q := part_le (s := Str.ofString "\n") (List.mem_of_getElem? ht)
        rwa [StrLaws.join_split] at q
      have dr : (Txt.split z (Str.ofString "\n")).drop i = t :: (Txt.split z (Str.ofString "\n")).drop (i + 1) := by
        obtain ⟨h1, h2⟩ := List.getElem?_eq_some_iff.mp ht
        rw [List.drop_eq_getElem_cons h1, h2]
      rw [dr, rowsGo, ← List.append_assoc, Nat.add_assoc] at hgo
      have lT : l ≠ T1 := ne_of_none hl nT
      have pT : p ≠ T1 := ne_of_none hp nT
      refine ⟨T1, _, rfl, SqT.of upd_same, rfl, _, _, rfl, _, _, rfl, rfl, ?_⟩
      refine ⟨_, rfl, t, rfl, by omega, fun w H2 nw hw s2 => ?_⟩
      have hl2 := s2 _ _ (upd_new nT _ _ hl)
      have hp2 := s2 _ _ (upd_new nT _ _ hp)
      have b2 : But l H1 H2 := fun b o eb _ => s2 _ _ (upd_new nT b o eb)
      have hN2 := hN.but b2
      have wl : w ≠ l := fun q => by rw [q, upd_new nT _ _ hl] at nw; cases nw
      have s02 : Same H H2 := fun b o eb => s2 _ _ (upd_new nT b o (s1 b o eb))
      refine ⟨_, rfl, w, _, rfl, .inl (SqL.of hw), _, _, rfl, rfl, _, rfl, ?_⟩
      refine ite2 (fun hb => ?_) (fun hb => ?_)
      · have hne : wordsOf t ≠ [] := by
          intro q
          rw [q] at hb
          exact absurd hb (by decide)
        refine ⟨_, rfl, .inl ⟨rfl, _, SqL.of hl2⟩, _, rfl, _, rfl, (by show 2 ≤ sizeLine; decide), fun q nq => ⟨l, _, _, rfl, rfl, upd_new nq _ _ hl2, ?_, ?_⟩⟩
        · rw [List.length_map]
          omega
        · have ql : q ≠ l := fun z => by rw [z, hl2] at nq; cases nq
          have b3 : But l H2 (upd (upd H2 q (.tup [.int ((1 + i : Nat) : Int), .ref w])) l (.lst (as.map V.ref ++ [.ref q]))) := fun b o eb nb => by rw [upd_ne nb]; exact upd_new nq b o eb
          refine ⟨⟨_, _, _, rfl⟩, ⟨as ++ [q], rs ++ [(1 + i, wordsOf t)], ?_, (hN2.but b3).snoc ql wl (by rw [upd_ne ql]; exact upd_same) (b3 _ _ hw wl), ?_, ?_⟩, ?_, fun b o eb => ?_⟩
          · rw [List.map_append]
            exact upd_same
          · rw [List.length_append, List.length_singleton]
            omega
          · rw [if_neg hne] at hgo
            exact hgo
          · rw [upd_ne lp.symm]
            exact upd_new nq _ _ hp2
          · have nb : b ≠ l := ne_of_none eb nl
            exact b3 b o (s02 b o eb) nb
      · have hne : wordsOf t = [] := by
          cases q : wordsOf t with
          | nil => rfl
          | cons y r =>
            rw [q] at hb
            refine absurd ?_ hb
            refine decide_eq_true ?_
            show (0 : Int) < ((y :: r).map V.str).length
            rw [List.map_cons, List.length_cons]
            omega
        rw [if_pos hne, List.append_nil] at hgo
        exact ⟨⟨_, _, _, rfl⟩, ⟨as, rs, hl2, hN2, by omega, hgo⟩, hp2, s02⟩
    · rintro σ H1 ⟨⟨x2, x3, x4, rfl⟩, ⟨as, rs, hl, hN, hlen, hgo⟩, hp, s1⟩
      rw [List.length_map, List.drop_length, rowsGo, List.append_nil] at hgo
      refine ⟨_, rfl, k l as H1 nl hl ?_ s1⟩
      rw [← hgo]
      exact hN
end
end My

set_option Elab.async false
set_option linter.all false
set_option maxRecDepth 100000
set_option maxHeartbeats 4000000
namespace My
open PySem L2
def WordOk (x : Str) : Prop := x ≠ Str.empty ∧ 32 ∉ x.cps.toList ∧ 10 ∉ x.cps.toList ∧ x.length ≤ 20
/-- a row of these words, with blanks -/
def RowIs (z : Str) (ws : List Str) : Prop := wordsOf z = ws ∧ 10 ∉ z.cps.toList ∧ z.length ≤ 1000
def nonE (y : Str) : Bool := !decide (y = Str.empty)
structure Parts (z : Str) (qs : List Str) (ws : List Str) : Prop where
  eq : z = Str.join (Str.ofString " ") qs
  ne : qs ≠ []
  fr : ∀ q ∈ qs, 32 ∉ q.cps.toList ∧ 10 ∉ q.cps.toList
  ws : qs.filter nonE = ws
theorem join_free {c : Nat} {s : Str} (hs : c ∉ s.cps.toList) : ∀ {qs : List Str}, (∀ q ∈ qs, c ∉ q.cps.toList) → c ∉ (Str.join s qs).cps.toList
  | [], _ => by show c ∉ ([] : List Nat); simp
  | [q], h => h q List.mem_cons_self
  | q :: r :: t, h => by
    rw [join_two, app_list, app_list]
    have ih := join_free hs (qs := r :: t) fun x hx => h x (List.mem_cons_of_mem _ hx)
    have h0 := h q List.mem_cons_self
    simp only [List.mem_append, not_or]
    exact ⟨⟨h0, hs⟩, ih⟩
theorem wordsOf_join {qs : List Str} (hne : qs ≠ []) (fr : ∀ q ∈ qs, 32 ∉ q.cps.toList) : wordsOf (Str.join (Str.ofString " ") qs) = qs.filter nonE := by
  unfold wordsOf
  rw [sp_eq, split_join hne fr]
  rfl
theorem Parts.row {z : Str} {qs ws : List Str} (h : Parts z qs ws) (hz : z.length ≤ 1000) : RowIs z ws := by
  refine ⟨?_, ?_, hz⟩
  · rw [h.eq, wordsOf_join h.ne fun q hq => (h.fr q hq).1, h.ws]
  · rw [h.eq]
    exact join_free (by decide +kernel) fun q hq => (h.fr q hq).2
theorem fr_em : 32 ∉ Str.empty.cps.toList ∧ 10 ∉ Str.empty.cps.toList := by decide +kernel
theorem rep_em (k : Nat) : (List.replicate k Str.empty).filter nonE = [] := by
  rw [List.filter_eq_nil_iff]
  intro a ha
  rw [(List.mem_replicate.mp ha).2]
  decide
theorem Parts.blanks {z : Str} {qs ws : List Str} (h : Parts z qs ws) (k : Nat) : Parts (z ++ repS (Str.ofString " ") k) (qs ++ List.replicate k Str.empty) ws := by
  refine ⟨by rw [h.eq, join_rep _ k h.ne], fun q => h.ne (List.append_eq_nil_iff.mp q).1, fun q hq => ?_, by rw [List.filter_append, rep_em, List.append_nil, h.ws]⟩
  rcases List.mem_append.mp hq with hq | hq
  · exact h.fr q hq
  · rw [(List.mem_replicate.mp hq).2]
    exact fr_em
theorem Parts.start (k : Nat) : Parts (repS (Str.ofString " ") k) (List.replicate k Str.empty ++ [Str.empty]) [] := by
  refine ⟨rep_join _ k, by simp, fun q hq => ?_, ?_⟩
  · rcases List.mem_append.mp hq with hq | hq
    · rw [(List.mem_replicate.mp hq).2]
      exact fr_em
    · rw [List.mem_singleton.mp hq]
      exact fr_em
  · rw [List.filter_append, rep_em]
    rfl
theorem Parts.word {z x : Str} {ps ws : List Str} (h : Parts z (ps ++ [Str.empty]) ws) (hx : WordOk x) : Parts (z ++ x) (ps ++ [x]) (ws ++ [x]) := by
  refine ⟨by rw [h.eq, join_last, Str.empty_append], by simp, fun q hq => ?_, ?_⟩
  · rcases List.mem_append.mp hq with hq | hq
    · exact h.fr q (List.mem_append_left _ hq)
    · rw [List.mem_singleton.mp hq]
      exact ⟨hx.2.1, hx.2.2.1⟩
  · have q := h.ws
    rw [List.filter_append] at q ⊢
    have e1 : [Str.empty].filter nonE = [] := rfl
    have e2 : [x].filter nonE = [x] := by simp [nonE, hx.1]
    rw [e1, List.append_nil] at q
    rw [e2, q]
theorem repS_length (k : Nat) : (repS (Str.ofString " ") k).length = k := by
  have key : ∀ n, (repS (Str.ofString " ") n).length = n := fun n => by
    induction n with
    | zero => rfl
    | succ n ih =>
      rw [repS_succ, Str.length_append, ih]
      have : (Str.ofString " ").length = 1 := by decide +kernel
      omega
  exact key k
def spSpaced : Sp := fun vs H Q _ => ∃ (d l a : Addr) (cs : List Int) (n : Nat) (ws : List Str), vs = [.ref d, .ref a] ∧ DrawAt H d l cs n ∧ n < 1000000 ∧ H a = some (.lst (ws.map V.str)) ∧ ws.length ≤ 12 ∧ (∀ x ∈ ws, WordOk x) ∧
  ∀ (z : Str) (H' : Hp), RowIs z ws → DrawAt H' d l cs (n + 14) → But d H H' → Q (.str z) H'
theorem L1m : (1000000 : Nat) ≤ sizeLine := by decide
theorem sp1 : (Str.ofString " ").length = 1 := by decide +kernel
section
variable {P : Program} {w : World} {K : PySem.W.Frag} {mg : Str → Option Value} {base : Heap} {e : Ext}
theorem sc_spaced : FnScope ["_law_draw", "_law_words_here", "_law_row", "_law_k", "_law_word"] ["_law_draw", "_law_words_here"] (defScope s_spaced) := ⟨rfl, rfl, rfl, by decide +kernel, rfl, by decide +kernel, by decide +kernel⟩
theorem ok_spaced {f f_pick : Addr} {fd fd_pick : FuncData} (F : Fun K "_law_spaced" "_law_spaced" s_spaced f fd) (T : Txt K mg e) (D_pick : Def K mg "_law_pick" s_pick ["_law_draw", "_law_many"] f_pick fd_pick) : FnOk P w K mg base CX0 2 f fd ["_law_draw", "_law_words_here"] spSpaced := by
  have G_pick : FnOk P w K mg base CX0 1 f_pick fd_pick ["_law_draw", "_law_many"] spPick := ok_pick D_pick.F T
  refine F.ok sc_spaced (fun vs H Q E h => ?_) (fun cdv A outer s H vs Q E hr h => ?_)
  · obtain ⟨d, l, a, cs, n, ws, rfl, _⟩ := h
    rfl
  · obtain ⟨d, l, a, cs, n, ws, rfl, D0, hn, ha, hws, hok, k⟩ := h
    have hr_pick := hr.mono (by decide : 1 ≤ 1)
    have hm := L1m
    have ad : a ≠ d := by
      obtain ⟨x, b, c, g, q, _⟩ := D0.dc
      exact ne_of ha q (by intro z; cases z)
    refine ⟨_, (pss_cons (ps_set (i := 2) sc_spaced.nd rfl (Or.inl rfl) (pe_op op_mul_str pe_str (pe_call G_pick hr_pick rfl D_pick.m D_pick.F.kp D_pick.b .nil pass0 (pa_cons (pv 0) (pa_cons pe_int pa_nil)))))
      (pss_cons (ps_for PassesOwn.never rfl (pi_enum rfl T.n_enumerate (pa_cons (pv 1) pa_nil)) (pg_tup rfl (pgs_cons (pg_name (i := 3) sc_spaced.nd rfl (Or.inl rfl)) (pgs_cons (pg_name (i := 4) sc_spaced.nd rfl (Or.inl rfl)) pgs_nil)))
        (pss_cut (ps_if (pt_cmpR op_gt (pv 3) pe_int (nomark _))
          (pss_one (ps_set (i := 2) sc_spaced.nd rfl (Or.inl rfl) (pe_op op_add_str (pv 2) (pe_op op_mul_str pe_str (pe_op op_add pe_int (pe_call G_pick hr_pick rfl D_pick.m D_pick.F.kp D_pick.b .nil pass0 (pa_cons (pv 0) (pa_cons pe_int pa_nil))))))))
          pss_nil)
        (pss_one (ps_set (i := 2) sc_spaced.nd rfl (Or.inl rfl) (pe_op op_add_str (pv 2) (pv 4))))))
      (pss_one (ps_ret (pe_op op_add_str (pv 2) (pe_op op_mul_str pe_str (pe_call G_pick hr_pick rfl D_pick.m D_pick.F.kp D_pick.b .nil pass0 (pa_cons (pv 0) (pa_cons pe_int pa_nil))))))))), ?_⟩
    refine ⟨_, rfl, d, l, cs, n, 3, rfl, by decide, by decide, D0, by omega, fun v H1 v0 v1 D1 k1 => ⟨_, _, rfl, rfl, v0, by omega, by rw [sp1]; omega, ?_⟩⟩
    refine ⟨_, rfl, a, _, rfl, SqL.of (k1 _ _ ha ad), ?_⟩
    refine for_enum (κ := false) (xs := ws.map V.str) (fun i σ H' => (∃ z x3 x4, σ = [some (.ref d), some (.ref a), some (.str z), x3, x4] ∧ (∃ qs, Parts z qs (ws.take i) ∧ (i = 0 → ∃ ps, qs = ps ++ [Str.empty])) ∧ z.length ≤ 2 + 23 * i) ∧ DrawAt H' d l cs (n + 1 + i) ∧ H' a = some (.lst (ws.map V.str)) ∧ But d H H') ?_ (fun i σ H' _ q => SqL.of q.2.2.1) ?_ ?_
    · refine ⟨⟨_, _, _, rfl, ⟨_, by rw [List.take_zero]; exact Parts.start v.toNat, fun _ => ⟨_, rfl⟩⟩, ?_⟩, D1, k1 _ _ ha ad, k1⟩
      rw [repS_length]
      omega
    · rintro i x σ H2 T1 hx ⟨⟨z, x3, x4, rfl, ⟨qs, hq, hq0⟩, hz⟩, D2, ha2, k2⟩ nT
      have hi : i < (ws.map V.str).length := (List.getElem?_eq_some_iff.mp hx).1
      rw [List.length_map] at hi
      obtain ⟨t, ht, rfl⟩ : ∃ t, ws[i]? = some t ∧ V.str t = x := by
        rw [List.getElem?_map] at hx
        cases e : ws[i]? with
        | none => rw [e] at hx; cases hx
        | some t => rw [e] at hx; exact ⟨t, rfl, Option.some.inj hx⟩
      have tok := hok t (List.mem_of_getElem? ht)
      obtain ⟨nTd, nTl⟩ := D2.nd nT
      have D3 : DrawAt (upd H2 T1 (.tup [.int ((0 + i : Nat) : Int), .str t])) d l cs (n + 1 + i) := D2.upd nTd nTl
      have ha3 := upd_new (o := .tup [.int ((0 + i : Nat) : Int), .str t]) nT _ _ ha2
      have k3 : But d H (upd H2 T1 (.tup [.int ((0 + i : Nat) : Int), .str t])) := fun b o eb nb => upd_new nT b o (k2 b o eb nb)
      refine ⟨T1, _, rfl, SqT.of upd_same, rfl, _, _, rfl, _, _, rfl, rfl, ?_⟩
      refine ⟨fun σ' H' => ∃ z' ps, σ' = [some (.ref d), some (.ref a), some (.str z'), some (.int ((0 + i : Nat) : Int)), some (.str t)] ∧ Parts z' (ps ++ [Str.empty]) (ws.take i) ∧ z'.length ≤ 2 + 23 * i + 3 ∧ DrawAt H' d l cs (n + 1 + (i + 1)) ∧ H' a = some (.lst (ws.map V.str)) ∧ But d H H', ?_, ?_⟩
      · refine ⟨_, rfl, _, _, rfl, rfl, _, rfl, ite2 (fun hb => ?_) (fun hb => ?_)⟩
        · refine ⟨_, rfl, _, rfl, d, l, cs, _, 3, rfl, by decide, by decide, D3, by omega, fun u H4 u0 u1 D4 k4 => ?_⟩
          refine ⟨_, _, rfl, rfl, _, _, rfl, rfl, by omega, by omega, by rw [sp1]; omega, _, _, rfl, rfl, by rw [repS_length]; omega, ?_⟩
          refine ⟨_, qs ++ List.replicate u.toNat Str.empty, rfl, ?_, ?_, D4, k4 _ _ ha3 ad, k3.trans k4⟩
          · have e1 : (1 + u).toNat = u.toNat + 1 := by omega
            have q := hq.blanks (1 + u).toNat
            rw [e1, List.replicate_succ', ← List.append_assoc] at q
            rw [e1]
            exact q
          · rw [Str.length_append, repS_length]
            omega
        · have i0 : i = 0 := by
            rcases Nat.eq_zero_or_pos i with h | h
            · exact h
            · refine absurd (decide_eq_true ?_) hb
              show (0 : Int) < ((0 + i : Nat) : Int)
              omega
          obtain ⟨ps, rfl⟩ := hq0 i0
          exact ⟨z, ps, rfl, hq, by omega, D3.mono (by omega), ha3, k3⟩
      · rintro σ' H4 ⟨z', ps, rfl, hp, hz', D4, ha4, k4⟩
        refine ⟨_, rfl, _, rfl, _, _, rfl, rfl, by have := tok.2.2.2; omega, ?_⟩
        refine ⟨⟨_, _, _, rfl, ⟨ps ++ [t], ?_, fun h => absurd h (Nat.succ_ne_zero _)⟩, ?_⟩, D4, ha4, k4⟩
        · have tk : ws.take (i + 1) = ws.take i ++ [t] := by rw [List.take_add_one, ht]; rfl
          rw [tk]
          exact hp.word tok
        · rw [Str.length_append]
          have := tok.2.2.2
          omega
    · rintro σ H2 ⟨⟨z, x3, x4, rfl, ⟨qs, hq, _⟩, hz⟩, D2, ha2, k2⟩
      rw [List.length_map] at hz D2 hq
      rw [List.take_length] at hq
      refine ⟨_, rfl, _, rfl, d, l, cs, _, 3, rfl, by decide, by decide, D2, by omega, fun u H3 u0 u1 D3 k3 => ?_⟩
      refine ⟨_, _, rfl, rfl, u0, by omega, by rw [sp1]; omega, _, _, rfl, rfl, by rw [repS_length]; omega, ?_⟩
      refine k _ _ ((hq.blanks u.toNat).row ?_) (D3.mono (by omega)) (k2.trans k3)
      rw [Str.length_append, repS_length]
      omega
end
end My

set_option Elab.async false
set_option linter.all false
set_option maxRecDepth 100000
set_option maxHeartbeats 4000000
namespace My
open PySem L2
theorem words_blank (k : Nat) : wordsOf (repS (Str.ofString " ") k) = [] := by
  have h := Parts.start k
  rw [h.eq, wordsOf_join h.ne fun q hq => (h.fr q hq).1, h.ws]
theorem words_em : wordsOf Str.empty = [] := words_blank 0
theorem go_em : ∀ (k n : Nat), rowsGo n (List.replicate k Str.empty) = []
  | 0, _ => rfl
  | k + 1, n => by
    rw [List.replicate_succ, rowsGo, if_pos words_em, go_em k]
    rfl
theorem blank_free (k : Nat) : 10 ∉ (repS (Str.ofString " ") k).cps.toList := by
  have h := Parts.start k
  rw [h.eq]
  exact join_free (by decide +kernel) fun q hq => (h.fr q hq).2
def LinesAt (H : Hp) : List Addr → List (List Str) → Prop
  | [], [] => True
  | a :: as, ws :: r => H a = some (.lst (ws.map V.str)) ∧ LinesAt H as r
  | _, _ => False
theorem LinesAt.len {H : Hp} : ∀ {as : List Addr} {ls : List (List Str)}, LinesAt H as ls → as.length = ls.length
  | [], [], _ => rfl
  | _ :: _, _ :: _, h => by rw [List.length_cons, List.length_cons, LinesAt.len h.2]
  | [], _ :: _, h => h.elim
  | _ :: _, [], h => h.elim
theorem LinesAt.get {H : Hp} : ∀ {as : List Addr} {ls : List (List Str)} {i : Nat} {a : Addr}, LinesAt H as ls → as[i]? = some a → ∃ ws, ls[i]? = some ws ∧ H a = some (.lst (ws.map V.str))
  | [], [], _, _, _, h => by simp at h
  | a :: as, ws :: r, 0, b, h, e => by
    have : a = b := by simpa using e
    subst this
    exact ⟨ws, rfl, h.1⟩
  | _ :: _, _ :: _, i + 1, b, h, e => LinesAt.get (i := i) h.2 (by simpa using e)
  | [], _ :: _, _, _, h, _ => h.elim
  | _ :: _, [], _, _, h, _ => h.elim
def LineOk (ws : List Str) : Prop := ws ≠ [] ∧ ws.length ≤ 12 ∧ ∀ x ∈ ws, WordOk x
def RowOk (z : Str) : Prop := 10 ∉ z.cps.toList ∧ z.length ≤ 1000
def spRows : Sp := fun vs H Q _ => ∃ (d l ll : Addr) (cs : List Int) (n : Nat) (as : List Addr) (ls : List (List Str)), vs = [.ref d, .ref ll] ∧ DrawAt H d l cs n ∧ n < 100000 ∧ H ll = some (.lst (as.map V.ref)) ∧ LinesAt H as ls ∧ ls.length ≤ 40 ∧ (∀ ws ∈ ls, LineOk ws) ∧
  ∀ (r rl pl : Addr) (rows : List Str) (places : List Nat) (H' : Hp), H r = none → H' r = some (.lst [.ref rl, .ref pl]) → H' rl = some (.lst (rows.map V.str)) → H' pl = some (.lst (places.map fun (j : Nat) => V.int (j : Int))) →
    rowsGo 1 rows = places.zip ls → places.length = ls.length → (∀ z ∈ rows, RowOk z) → rows.length ≤ 2 * ls.length + 2 → DrawAt H' d l cs (n + 800) → But d H H' → Q (.ref r) H'
theorem str_map_snoc (rows : List Str) (z : Str) : rows.map V.str ++ [V.str z] = (rows ++ [z]).map V.str := by rw [List.map_append]; rfl
section
variable {P : Program} {w : World} {K : PySem.W.Frag} {mg : Str → Option Value} {base : Heap} {e : Ext}
theorem sc_rowsl : FnScope ["_law_draw", "_law_lines", "_law_rows_here", "_law_places", "_law_words_here"] ["_law_draw", "_law_lines"] (defScope s_rowsl) := ⟨rfl, rfl, rfl, by decide +kernel, rfl, by decide +kernel, by decide +kernel⟩
theorem ok_rowsl {f f_pick f_spaced : Addr} {fd fd_pick fd_spaced : FuncData} (F : Fun K "_law_rows" "_law_rows" s_rowsl f fd) (T : Txt K mg e) (D_pick : Def K mg "_law_pick" s_pick ["_law_draw", "_law_many"] f_pick fd_pick)
    (D_spaced : Def K mg "_law_spaced" s_spaced ["_law_draw", "_law_words_here"] f_spaced fd_spaced) : FnOk P w K mg base CX0 3 f fd ["_law_draw", "_law_lines"] spRows := by
  have G_pick : FnOk P w K mg base CX0 1 f_pick fd_pick ["_law_draw", "_law_many"] spPick := ok_pick D_pick.F T
  have G_spaced : FnOk P w K mg base CX0 2 f_spaced fd_spaced ["_law_draw", "_law_words_here"] spSpaced := ok_spaced D_spaced.F T D_pick
  refine F.ok sc_rowsl (fun vs H Q E h => ?_) (fun cdv A outer s H vs Q E hr h => ?_)
  · obtain ⟨d, l, ll, cs, n, as, ls, rfl, _⟩ := h
    rfl
  · obtain ⟨d, l, ll, cs, n, as, ls, rfl, D0, hn, hll, hL, hls, hok, k⟩ := h
    have hr_pick := hr.mono (by decide : 1 ≤ 2)
    have hr_spaced := hr.mono (by decide : 2 ≤ 2)
    have hm := L1m
    have hlen := hL.len
    have lld : ll ≠ d := by
      obtain ⟨x, b, c, g, q, _⟩ := D0.dc
      exact ne_of hll q (by intro z; cases z)
    refine ⟨_, (pss_cons (ps_set (i := 2) sc_rowsl.nd rfl (Or.inl rfl) (pe_lst pa_nil))
      (pss_cons (ps_set (i := 3) sc_rowsl.nd rfl (Or.inl rfl) (pe_lst pa_nil))
      (pss_cons (ps_for PassesOwn.never rfl (pi_list (pv 1)) (pg_name (i := 4) sc_rowsl.nd rfl (Or.inl rfl))
        (pss_cut (ps_if (pt_cmpR op_eq (pe_call G_pick hr_pick rfl D_pick.m D_pick.F.kp D_pick.b .nil pass0 (pa_cons (pv 0) (pa_cons pe_int pa_nil))) pe_int (nomark _))
          (pss_one (ps_expr (pe_bm PySem.F.plainAttrs_list PySem.F.slot_list_append PySem.F.type_list_append mt_append (pv 2) (pa_cons (pe_op op_mul_str pe_str (pe_call G_pick hr_pick rfl D_pick.m D_pick.F.kp D_pick.b .nil pass0 (pa_cons (pv 0) (pa_cons pe_int pa_nil)))) pa_nil))))
          pss_nil)
        (pss_cons (ps_expr (pe_bm PySem.F.plainAttrs_list PySem.F.slot_list_append PySem.F.type_list_append mt_append (pv 2) (pa_cons (pe_call G_spaced hr_spaced rfl D_spaced.m D_spaced.F.kp D_spaced.b .nil pass0 (pa_cons (pv 0) (pa_cons (pv 4) pa_nil))) pa_nil)))
        (pss_one (ps_expr (pe_bm PySem.F.plainAttrs_list PySem.F.slot_list_append PySem.F.type_list_append mt_append (pv 3) (pa_cons (pe_callB call_len_seq (by rfl) T.n_len PySem.boot_len (pa_cons (pv 2) pa_nil)) pa_nil)))))))
      (pss_one (ps_ret (pe_lst (pa_cons (pe_op op_cat (pv 2) (pe_op op_rep (pe_lst (pa_cons pe_str pa_nil)) (pe_call G_pick hr_pick rfl D_pick.m D_pick.F.kp D_pick.b .nil pass0 (pa_cons (pv 0) (pa_cons pe_int pa_nil))))) (pa_cons (pv 3) pa_nil)))))))), ?_⟩
    refine ⟨Nat.zero_le _, fun rh n1 => ?_⟩
    have s1 := upd_new (o := .lst []) n1
    refine ⟨Nat.zero_le _, fun pl n2 => ?_⟩
    have s2 := upd_new (o := .lst []) n2
    have D1 := (D0.keep s1).keep s2
    have rp : rh ≠ pl := ne_of_none upd_same n2
    obtain ⟨nrd, nrl⟩ := D0.nd n1
    obtain ⟨npd, npl⟩ := D0.nd (s1.free n2)
    have np : H pl = none := s1.free n2
    refine ⟨_, rfl, ll, rfl, ⟨_, SqL.of (s2 _ _ (s1 _ _ hll))⟩, ?_⟩
    refine for_list (xs := as.map V.ref) (fun i σ H' => (∃ x4, σ = [some (.ref d), some (.ref ll), some (.ref rh), some (.ref pl), x4]) ∧ (∃ (rows : List Str) (places : List Nat), H' rh = some (.lst (rows.map V.str)) ∧ H' pl = some (.lst (places.map fun (j : Nat) => V.int (j : Int))) ∧ rowsGo 1 rows = places.zip (ls.take i) ∧ places.length = i ∧ (∀ z ∈ rows, RowOk z) ∧ rows.length ≤ 2 * i) ∧ DrawAt H' d l cs (n + 18 * i) ∧ But d H H') ?_ (fun i σ H' _ q => SqL.of (q.2.2.2 _ _ hll lld)) ?_ ?_
    · exact ⟨⟨_, rfl⟩, ⟨[], [], by rw [upd_ne rp]; exact upd_same, upd_same, rfl, rfl, by simp, Nat.le_refl _⟩, D1, fun b o eb _ => s2 _ _ (s1 _ _ eb)⟩
    · rintro i x σ H2 hx ⟨⟨x4, rfl⟩, ⟨rows, places, hrh, hpl, hgo, hplen, hrok, hrlen⟩, D2, k2⟩
      have hi : i < (as.map V.ref).length := (List.getElem?_eq_some_iff.mp hx).1
      rw [List.length_map] at hi
      obtain ⟨a, ea, rfl⟩ : ∃ a, as[i]? = some a ∧ V.ref a = x := by
        rw [List.getElem?_map] at hx
        cases e : as[i]? with
        | none => rw [e] at hx; cases hx
        | some t => rw [e] at hx; exact ⟨t, rfl, Option.some.inj hx⟩
      obtain ⟨ws, ews, hws⟩ := hL.get ea
      have ad : a ≠ d := by
        obtain ⟨x, b, c, g, q, _⟩ := D0.dc
        exact ne_of hws q (by intro z; cases z)
      obtain ⟨wne, wlen, wok⟩ := hok ws (List.mem_of_getElem? ews)
      refine ⟨fun σ' H' => σ' = [some (.ref d), some (.ref ll), some (.ref rh), some (.ref pl), some (.ref a)] ∧ (∃ (rows : List Str), H' rh = some (.lst (rows.map V.str)) ∧ H' pl = some (.lst (places.map fun (j : Nat) => V.int (j : Int))) ∧ rowsGo 1 rows = places.zip (ls.take i) ∧ (∀ z ∈ rows, RowOk z) ∧ rows.length ≤ 2 * i + 1) ∧ DrawAt H' d l cs (n + 18 * i + 2) ∧ But d H H', ?_, ?_⟩
      · refine ⟨_, rfl, d, l, cs, _, 5, rfl, by decide, by decide, D2, by omega, fun v H3 v0 v1 D3 k3 => ⟨rfl, _, rfl, ite2 (fun _ => ?_) (fun _ => ?_)⟩⟩
        · refine ⟨_, rfl, .inl ⟨rfl, _, SqL.of (k3 _ _ hrh nrd)⟩, _, rfl, d, l, cs, _, 3, rfl, by decide, by decide, D3, by omega, fun u H4 u0 u1 D4 k4 => ?_⟩
          refine ⟨_, _, rfl, rfl, u0, by omega, by rw [sp1]; omega, rh, _, _, rfl, rfl, k4 _ _ (k3 _ _ hrh nrd) nrd, ?_, ?_⟩
          · rw [List.length_map]; omega
          · refine ⟨rfl, ⟨rows ++ [repS (Str.ofString " ") u.toNat], by rw [str_map_snoc]; exact upd_same, by rw [upd_ne rp.symm]; exact k4 _ _ (k3 _ _ hpl npd) npd, ?_, ?_, ?_⟩, (D4.upd nrd nrl).mono (by omega), fun b o eb nb => ?_⟩
            · rw [rowsGo_app, hgo, rowsGo, if_pos (words_blank _)]
              simp [rowsGo]
            · intro z hz
              rcases List.mem_append.mp hz with hz | hz
              · exact hrok z hz
              · rw [List.mem_singleton.mp hz]
                exact ⟨blank_free _, by rw [repS_length]; omega⟩
            · rw [List.length_append, List.length_singleton]; omega
            · rw [upd_ne (ne_of_none eb n1)]
              exact k4 b o (k3 b o (k2 b o eb nb) nb) nb
        · exact ⟨rfl, ⟨rows, k3 _ _ hrh nrd, k3 _ _ hpl npd, hgo, hrok, by omega⟩, D3.mono (by omega), k2.trans k3⟩
      · rintro σ' H4 ⟨rfl, ⟨rows', hrh4, hpl4, hgo4, hrok4, hrlen4⟩, D4, k4⟩
        refine ⟨_, rfl, .inl ⟨rfl, _, SqL.of hrh4⟩, _, rfl, _, rfl, d, l, a, cs, _, ws, rfl, D4, by omega, k4 _ _ hws ad, wlen, wok, fun z H5 hrow D5 k5 => ?_⟩
        refine ⟨rh, _, _, rfl, rfl, k5 _ _ hrh4 nrd, ?_, ?_⟩
        · rw [List.length_map]; omega
        · rw [str_map_snoc]
          refine ⟨_, rfl, .inl ⟨rfl, _, SqL.of (by rw [upd_ne rp.symm]; exact k5 _ _ hpl4 npd)⟩, _, rfl, rh, _, rfl, .inl (SqL.of upd_same), pl, _, _, rfl, rfl, by rw [upd_ne rp.symm]; exact k5 _ _ hpl4 npd, ?_, ?_⟩
          · rw [List.length_map, hplen]; omega
          · refine ⟨⟨_, rfl⟩, ⟨rows' ++ [z], places ++ [rows'.length + 1], by rw [upd_ne rp]; exact upd_same, ?_, ?_, ?_, ?_, ?_⟩, ?_, fun b o eb nb => ?_⟩
            · have e9 : (places.map fun (j : Nat) => V.int (j : Int)) ++ [V.int ((((rows' ++ [z]).map V.str).length : Nat) : Int)] = (places ++ [rows'.length + 1]).map fun (j : Nat) => V.int (j : Int) := by
                rw [List.length_map, List.length_append, List.length_singleton, List.map_append]
                rfl
              rw [← e9]
              exact upd_same
            · have tk : ls.take (i + 1) = ls.take i ++ [ws] := by rw [List.take_add_one, ews]; rfl
              have hl2 : (ls.take i).length = i := by
                rw [List.length_take]
                have := hL.len
                omega
              rw [tk, List.zip_append (by rw [hplen, hl2]), rowsGo_app, hgo4]
              congr 1
              rw [rowsGo, hrow.1, if_neg wne]
              show [(1 + rows'.length, ws)] ++ [] = [(rows'.length + 1, ws)]
              rw [List.append_nil, Nat.add_comm]
            · rw [List.length_append, hplen]; rfl
            · intro y hy
              rcases List.mem_append.mp hy with hy | hy
              · exact hrok4 y hy
              · rw [List.mem_singleton.mp hy]
                exact ⟨hrow.2.1, hrow.2.2⟩
            · rw [List.length_append, List.length_singleton]; omega
            · exact ((D5.upd nrd nrl).upd npd npl).mono (by omega)
            · rw [upd_ne (ne_of_none eb np), upd_ne (ne_of_none eb n1)]
              exact k5 b o (k4 b o eb nb) nb
    · rintro σ H2 ⟨⟨x4, rfl⟩, ⟨rows, places, hrh, hpl, hgo, hplen, hrok, hrlen⟩, D2, k2⟩
      rw [List.length_map, hlen] at hgo hplen hrlen D2
      rw [List.take_length] at hgo
      refine ⟨_, rfl, (by show 1 ≤ sizeLine; decide), fun l1 m1 => ?_⟩
      have D3 := D2.keep (upd_new (o := .lst [V.str (Str.ofString "")]) m1)
      obtain ⟨n1d, _⟩ := D2.nd m1
      refine ⟨_, rfl, d, l, cs, _, 3, rfl, by decide, by decide, D3, by omega, fun u H4 u0 u1 D4 k4 => ?_⟩
      refine ⟨l1, u, _, rfl, rfl, k4 _ _ upd_same n1d, by omega, by omega, ?_, fun l2 m2 => ?_⟩
      · show 1 * u.toNat ≤ sizeLine
        omega
      have hrh4 := k4 _ _ (upd_new (o := .lst [V.str (Str.ofString "")]) m1 _ _ hrh) nrd
      have hpl4 := k4 _ _ (upd_new (o := .lst [V.str (Str.ofString "")]) m1 _ _ hpl) npd
      refine ⟨rh, l2, _, _, rfl, rfl, upd_new m2 _ _ hrh4, upd_same, ?_, fun l3 m3 => ?_⟩
      · rw [List.length_map, L2.len_rep]
        simp only [List.length_singleton]
        omega
      refine ⟨_, rfl, (by show 2 ≤ sizeLine; decide), fun r m4 => ?_⟩
      have ee : rows.map V.str ++ (List.replicate u.toNat [V.str (Str.ofString "")]).flatten = (rows ++ List.replicate u.toNat Str.empty).map V.str := by
        rw [List.map_append, List.map_replicate, em_eq]
        congr 1
        simp
      have s3 := (upd_new m2).trans (upd_new (o := .lst (rows.map V.str ++ (List.replicate u.toNat [V.str (Str.ofString "")]).flatten)) m3)
      have s34 := s3.trans (upd_new (o := .lst [V.ref l3, V.ref pl]) m4)
      have D5 := D4.keep s34
      refine k r l3 pl (rows ++ List.replicate u.toNat Str.empty) places _ ?_ upd_same (upd_new m4 _ _ ?_) (s34 _ _ hpl4) ?_ hplen ?_ ?_ (D5.mono (by omega)) fun b o eb nb => s34 b o (k4 b o (upd_new m1 b o (k2 b o eb nb)) nb)
      · cases q : H r with
        | none => rfl
        | some o =>
          exfalso
          obtain ⟨x, b, c, g, q', _⟩ := D4.dc
          have rd : r ≠ d := (ne_of_none (s3 _ _ q') m4).symm
          have z := s3 r o (k4 r o (upd_new m1 r o (k2 r o q rd)) rd)
          rw [z] at m4
          cases m4
      · rw [← ee]
        exact upd_same
      · rw [rowsGo_app, hgo, go_em, List.append_nil]
      · intro y hy
        rcases List.mem_append.mp hy with hy | hy
        · exact hrok y hy
        · rw [(List.mem_replicate.mp hy).2]
          exact ⟨fr_em.2, Nat.zero_le _⟩
      · rw [List.length_append, List.length_replicate]
        omega
end
end My

set_option Elab.async false
set_option linter.all false
set_option maxRecDepth 100000
set_option maxHeartbeats 4000000
namespace My
open PySem L2
/-! ### names that are drawn -/
theorem app_l (x y : Str) : (x ++ y).cps.toList = x.cps.toList ++ y.cps.toList := app_list x y
theorem len_l (z : Str) : z.cps.toList.length = z.length := by simp [Str.length]
theorem slice_take (x : Str) (n : Nat) : (Txt.slice x none (some (n : Int))).cps.toList = x.cps.toList.take n := by
  have h := PyProof.Rows.slice_to_min_closes (x := x) (n := (n : Int)) (m := if (x.length : Int) < n then (x.length : Int) else n) (by omega) rfl
  have e := eq_of_beq h
  rw [e]
  have hl := len_l x
  simp only [Int.toNat_zero, List.drop_zero, Int.sub_zero, List.toList_toArray]
  by_cases c : (x.length : Int) < n
  · rw [if_pos c, Int.toNat_natCast, List.take_of_length_le (by omega), List.take_of_length_le (by omega)]
  · rw [if_neg c, Int.toNat_natCast]
def abcs (z : Str) : Prop := ∀ c ∈ z.cps.toList, c ∈ abc.cps.toList
theorem abcs_b {z : Str} (h : abcs z) : signsB z abc = true := List.all_eq_true.mpr fun c hc => decide_eq_true (h c hc)
theorem abcs_app {x y : Str} (hx : abcs x) (hy : abcs y) : abcs (x ++ y) := fun c hc => by
  rw [app_l] at hc
  rcases List.mem_append.mp hc with h | h
  · exact hx c h
  · exact hy c h
theorem abcs_take {x : Str} (n : Nat) (hx : abcs x) : abcs (Txt.slice x none (some (n : Int))) := fun c hc => by
  rw [slice_take] at hc
  exact hx c (List.mem_of_mem_take hc)
theorem repS_list (z : Str) (n : Nat) : (repS z n).cps.toList = (List.replicate n z.cps.toList).flatten := by
  have : ∀ (k : Nat) (a : Array Nat), ((List.replicate k z.cps).foldl (· ++ ·) a).toList = a.toList ++ (List.replicate k z.cps.toList).flatten := by
    intro k
    induction k with
    | zero => intro a; simp
    | succ k ih => intro a; rw [List.replicate_succ, List.foldl_cons, ih, List.replicate_succ, List.flatten_cons, Array.toList_append, List.append_assoc]
  unfold repS
  rw [this]
  simp
theorem abcs_rep {z : Str} (n : Nat) (hz : abcs z) : abcs (repS z n) := fun c hc => by
  rw [repS_list] at hc
  obtain ⟨l, hl, hc⟩ := List.mem_flatten.mp hc
  rw [(List.mem_replicate.mp hl).2] at hc
  exact hz c hc
theorem rep_len (z : Str) (n : Nat) : (repS z n).length = n * z.length := by
  rw [← len_l, repS_list, ← len_l z]
  exact L2.len_rep _ _
theorem join_cps : ∀ (us : List Nat), (Str.join (Str.ofString "") (us.map fun c => ⟨#[c]⟩)).cps.toList = us
  | [] => by show ([] : List Nat) = []; rfl
  | [c] => by show [c] = [c]; rfl
  | c :: d :: t => by
    have ih := join_cps (d :: t)
    rw [List.map_cons] at ih
    rw [List.map_cons, List.map_cons]
    rw [join_two, app_list, app_list, ih]
    have e0 : (Str.ofString "").cps.toList = [] := by decide +kernel
    rw [e0]
    rfl
theorem kw_q : ∀ k ∈ kwL, k.cps.toList.getLast? ≠ some 113 := by decide +kernel
theorem not_kw {z : Str} (h : ∀ k ∈ kwL, z ≠ k) : inV (.str z) (kwL.map V.str) = false := by
  unfold inV
  rw [List.any_eq_false]
  intro y hy
  obtain ⟨k, hk, rfl⟩ := List.mem_map.mp hy
  show ¬ (k == z) = true
  intro e
  exact h k hk (eq_of_beq e).symm
theorem nameB_of {z : Str} (h1 : 1 ≤ z.length) (h2 : z.length ≤ 8) (ha : abcs z) (hk : inV (.str z) (kwL.map V.str) = false) : nameB z = true := by
  unfold nameB madeB
  rw [abcs_b ha, hk, decide_eq_true (by omega : (1 : Int) ≤ z.length), decide_eq_true (by omega : (z.length : Int) ≤ 8)]
  rfl
theorem nameB_to {z : Str} (h : nameB z = true) : 1 ≤ z.length ∧ z.length ≤ 8 ∧ abcs z := by
  unfold nameB madeB at h
  simp only [Bool.and_eq_true, decide_eq_true_eq] at h
  refine ⟨by omega, by omega, fun c hc => ?_⟩
  exact of_decide_eq_true (List.all_eq_true.mp h.1.2.2 c hc)
theorem name_q {z : Str} (h : abcs z) : nameB (Txt.slice z none (some 7) ++ Str.ofString "q") = true := by
  have e : (Txt.slice z none (some 7)).cps.toList = z.cps.toList.take 7 := slice_take z 7
  have el : (Txt.slice z none (some 7) ++ Str.ofString "q").cps.toList = z.cps.toList.take 7 ++ [113] := by
    rw [app_l, e]
    congr 1
  have ll := len_l (Txt.slice z none (some 7) ++ Str.ofString "q")
  rw [el, List.length_append, List.length_take] at ll
  simp only [List.length_singleton] at ll
  refine nameB_of (by omega) (by omega) ?_ (not_kw fun k hk e2 => kw_q k hk ?_)
  · refine abcs_app (abcs_take 7 h) ?_
    show ∀ c ∈ (Str.ofString "q").cps.toList, c ∈ abc.cps.toList
    decide +kernel
  · rw [← e2, el, List.getLast?_append]
    rfl
def spLetters : Sp := fun vs H Q _ => ∃ (d l : Addr) (cs : List Int) (n : Nat) (m : Int), vs = [.ref d, .int m] ∧ 0 ≤ m ∧ m ≤ 30 ∧ DrawAt H d l cs n ∧ n < 1000000 ∧
  ∀ (z : Str) (H' : Hp), z.length = m.toNat → abcs z → DrawAt H' d l cs (n + 30) → But d H H' → Q (.str z) H'
def spNameD : Sp := fun vs H Q _ => ∃ (d l : Addr) (cs : List Int) (n : Nat), vs = [.ref d] ∧ DrawAt H d l cs n ∧ n < 900000 ∧ ∀ (z : Str) (H' : Hp), nameB z = true → DrawAt H' d l cs (n + 80) → But d H H' → Q (.str z) H'
theorem abc_len : abc.cps.toList.length = 26 := by decide +kernel
def words10 : List Str := ["x", "xx", "xy", "yx", "bats", "a", "z", "aaaaaaaa", "aaaaaaab", "ends"]
theorem words10_ok : ∀ x ∈ words10, 1 ≤ x.length ∧ x.length ≤ 8 ∧ ∀ c ∈ x.cps.toList, c ∈ abc.cps.toList := by decide +kernel
section
variable {P : Program} {w : World} {K : PySem.W.Frag} {mg : Str → Option Value} {base : Heap} {e : Ext}
theorem sc_letters : FnScope ["_law_draw", "_law_many"] ["_law_draw", "_law_many"] (defScope s_letters) := ⟨rfl, rfl, rfl, by decide +kernel, rfl, by decide +kernel, by decide +kernel⟩
theorem ok_letters {f f_pick : Addr} {fd fd_pick : FuncData} (F : Fun K "_law_letters" "_law_letters" s_letters f fd) (T : Txt K mg e) (D_pick : Def K mg "_law_pick" s_pick ["_law_draw", "_law_many"] f_pick fd_pick) : FnOk P w K mg base CX0 2 f fd ["_law_draw", "_law_many"] spLetters := by
  have G_pick : FnOk P w K mg base CX0 1 f_pick fd_pick ["_law_draw", "_law_many"] spPick := ok_pick D_pick.F T
  refine F.ok sc_letters (fun vs H Q E h => ?_) (fun cdv A outer s H vs Q E hr h => ?_)
  · obtain ⟨d, l, cs, n, m, rfl, _⟩ := h
    rfl
  · obtain ⟨d, l, cs, n, m, rfl, hm0, hm1, D0, hn, k⟩ := h
    have hr_pick := hr.mono (by decide : 1 ≤ 1)
    refine ⟨_, (pss_one (ps_ret (pe_bm PySem.F.plainAttrs_str PySem.F.slot_str_join PySem.F.type_str_join mt_join pe_str (pa_cons (pe_comp (F := ["_law_draw"]) (T := ["_law_k"]) (fr := [0]) ⟨rfl, by decide +kernel, by decide +kernel, (by show ∀ y ∈ (_ : List (Str × NameKind)), y.2 = NameKind.free → (defScope s_letters).names.lookup y.1 = some NameKind.cell; decide +kernel), by decide +kernel, rfl⟩ rfl (pi_range1 rfl T.n_range (pa_cons (pv 1) pa_nil)) (fun _ _ _ _ _ => (pg_name (i := 1) (show (["_law_draw", "_law_k"] : List Str).Nodup by decide +kernel) rfl (Or.inl rfl))) (fun _ _ _ _ _ => pif_nil) (fun _ _ _ _ _ => (pe_ix ix_str pe_str (pe_call G_pick hr_pick rfl D_pick.m D_pick.F.kp D_pick.b .nil pass0 (pa_cons (pv 0) (pa_cons pe_int pa_nil))) (fun _ _ => rfl)))) pa_nil)))), ?_⟩
    refine ⟨rfl, _, rfl, m, rfl, by omega, by omega, fun D nD => ?_⟩
    obtain ⟨nDd, nDl⟩ := D0.nd nD
    refine comp_range (lo := 0) (n := m.toNat) (Q := fun x H1 => rJoin (V.str (Str.ofString "")) [x] H1 Q) (fun i σ xs H' => (∃ v, σ = [some (.ref d), v]) ∧ (∃ us : List Nat, xs = (us.map fun c => (⟨#[c]⟩ : Str)).map V.str ∧ us.length = i ∧ ∀ c ∈ us, c ∈ abc.cps.toList) ∧ H' D = some (.lst xs) ∧ DrawAt H' d l cs (n + i) ∧ But d H H') ?_ (fun i σ xs H' p => p.2.2.1) ?_ ?_
    · exact ⟨⟨none, rfl⟩, ⟨[], rfl, rfl, by simp⟩, upd_same, D0.upd nDd nDl, fun b o eb _ => upd_new nD b o eb⟩
    · rintro i σ xs H1 hi ⟨⟨v, rfl⟩, ⟨us, rfl, hu, hu1⟩, hD, D1, kp⟩
      refine ⟨_, rfl, d, l, cs, n + i, 26, rfl, by decide, by decide, D1, by omega, fun v H2 v0 v1 D2 kp2 => ?_⟩
      obtain ⟨j, hj⟩ := Int.eq_ofNat_of_zero_le v0
      have hj2 : j < abc.cps.toList.length := by rw [abc_len]; omega
      refine ⟨_, _, _, rfl, rfl, by decide +kernel, (show atI _ v = some _ from by rw [hj]; exact atI_nat (List.getElem?_eq_getElem hj2)), kp2 _ _ hD nDd, ?_, ⟨_, rfl⟩, ⟨us ++ [abc.cps.toList[j]], ?_, ?_, ?_⟩, upd_same, ?_, ?_⟩
      · rw [List.length_map, List.length_map, hu]
        have : (1000 : Nat) < sizeLine := by decide
        omega
      · rw [List.map_append, List.map_append]; rfl
      · rw [List.length_append, List.length_singleton, hu]
      · intro c hc
        rcases List.mem_append.mp hc with q | q
        · exact hu1 c q
        · rw [List.mem_singleton.mp q]
          exact List.getElem_mem hj2
      · exact D2.upd nDd nDl
      · intro b o eb nb
        have nbD : b ≠ D := ne_of_none eb nD
        rw [upd_ne nbD]
        exact kp2 b o (kp b o eb nb) nb
    · rintro σ xs H1 ⟨_, ⟨us, rfl, hu, hu1⟩, hD, D1, kp⟩
      have hy1 : ∀ y ∈ us.map (fun c => (⟨#[c]⟩ : Str)), y.length = 1 := fun y hy => by
        obtain ⟨c, _, rfl⟩ := List.mem_map.mp hy
        rfl
      have ej : Txt.join (Str.ofString "") (us.map fun c => (⟨#[c]⟩ : Str)) = Str.join (Str.ofString "") (us.map fun c => (⟨#[c]⟩ : Str)) := StrLaws.glued_eq_join _ _
      refine ⟨_, D, us.map (fun c => (⟨#[c]⟩ : Str)), rfl, rfl, hD, ?_, ?_⟩
      · rw [join_len hy1, List.length_map, hu]
        have e2 : (Str.ofString "").length = 0 := by decide +kernel
        rw [e2]
        omega
      · refine k _ _ ?_ ?_ (D1.mono (by omega)) kp
        · rw [← len_l, ej, join_cps, hu]
        · intro c hc
          rw [ej, join_cps] at hc
          exact hu1 c hc
end
end My

set_option Elab.async false
set_option linter.all false
set_option maxRecDepth 100000
set_option maxHeartbeats 4000000
namespace My
open PySem L2
section
variable {P : Program} {w : World} {K : PySem.W.Frag} {mg : Str → Option Value} {base : Heap} {e : Ext}
theorem sc_name : FnScope ["_law_draw", "_law_way", "_law_word", "_law_spot"] ["_law_draw"] (defScope s_name) := ⟨rfl, rfl, rfl, by decide +kernel, rfl, by decide +kernel, by decide +kernel⟩
theorem ok_name {f f_pick f_letters f_kws : Addr} {fd fd_pick fd_letters fd_kws : FuncData} (F : Fun K "_law_name" "_law_name" s_name f fd) (T : Txt K mg e) (D_pick : Def K mg "_law_pick" s_pick ["_law_draw", "_law_many"] f_pick fd_pick)
    (D_letters : Def K mg "_law_letters" s_letters ["_law_draw", "_law_many"] f_letters fd_letters) (D_kws : Def K mg "_law_keywords" s_kws [] f_kws fd_kws) : FnOk P w K mg base CX0 3 f fd ["_law_draw"] spNameD := by
  have G_pick : FnOk P w K mg base CX0 1 f_pick fd_pick ["_law_draw", "_law_many"] spPick := ok_pick D_pick.F T
  have G_letters : FnOk P w K mg base CX0 2 f_letters fd_letters ["_law_draw", "_law_many"] spLetters := ok_letters D_letters.F T D_pick
  have G_kws : FnOk P w K mg base CX0 1 f_kws fd_kws [] spKws := ok_kws D_kws.F T
  refine F.ok sc_name (fun vs H Q E h => ?_) (fun cdv A outer s H vs Q E hr h => ?_)
  · obtain ⟨d, l, cs, n, rfl, _⟩ := h
    rfl
  · obtain ⟨d, l, cs, n, rfl, D0, hn, k⟩ := h
    have hr_pick := hr.mono (by decide : 1 ≤ 2)
    have hr_letters := hr.mono (by decide : 2 ≤ 2)
    have hr_kws := hr_pick
    refine ⟨_, (pss_cons (ps_set (i := 1) sc_name.nd rfl (Or.inl rfl) (pe_call G_pick hr_pick rfl D_pick.m D_pick.F.kp D_pick.b .nil pass0 (pa_cons (pv 0) (pa_consK pe_int pa_nil))))
      (pss_cons (ps_set (i := 2) sc_name.nd rfl (Or.inl rfl) (pe_ix ix_m (pe_lst (pa_consK pe_str (pa_consK pe_str (pa_consK pe_str (pa_consK pe_str (pa_consK pe_str (pa_consK pe_str (pa_consK pe_str (pa_consK pe_str (pa_consK pe_str (pa_consK pe_str pa_nil))))))))))) (pe_call G_pick hr_pick rfl D_pick.m D_pick.F.kp D_pick.b .nil pass0 (pa_cons (pv 0) (pa_consK pe_int pa_nil))) (fun _ _ => rfl)))
      (pss_cut (ps_if (pt_pp (ptp_eq (pp_var 1) (pp_c pe_int)))
        (pss_one (ps_set (i := 2) sc_name.nd rfl (Or.inl rfl) (pe_call G_letters hr_letters rfl D_letters.m D_letters.F.kp D_letters.b .nil pass0 (pa_cons (pv 0) (pa_cons (pe_op op_add pe_int (pe_call G_pick hr_pick rfl D_pick.m D_pick.F.kp D_pick.b .nil pass0 (pa_cons (pv 0) (pa_consK pe_int pa_nil)))) pa_nil)))))
        pss_nil)
      (pss_cut (ps_if (pt_pp (ptp_eq (pp_var 1) (pp_c pe_int)))
        (pss_cons (ps_set (i := 3) sc_name.nd rfl (Or.inl rfl) (pe_call G_pick hr_pick rfl D_pick.m D_pick.F.kp D_pick.b .nil pass0 (pa_cons (pv 0) (pa_consK pe_int pa_nil))))
        (pss_one (ps_set (i := 2) sc_name.nd rfl (Or.inl rfl) (pe_op op_add_str (pe_op op_add_str (pe_op op_mul_str pe_str (pv 3)) (pe_call G_letters hr_letters rfl D_letters.m D_letters.F.kp D_letters.b .nil pass0 (pa_cons (pv 0) (pa_consK pe_int pa_nil)))) (pe_op op_mul_str pe_str (pe_pp (pp_sub (pp_c pe_int) (pp_var 3))))))))
        pss_nil)
      (pss_cut (ps_if (pt_cmpR op_inM (pv 2) (pe_call0 G_kws hr_kws rfl D_kws.m D_kws.F.kp D_kws.b .nil pass0) (by with_unfolding_all rfl))
        (pss_one (ps_set (i := 2) sc_name.nd rfl (Or.inl rfl) (pe_op op_add_str (pe_slice sl_str (pv 2) po_none (po_some pe_int)) pe_str)))
        pss_nil)
      (pss_one (ps_ret (pv 2)))))))), ?_⟩
    change (_ : Ends → St → Hp → Prop) _ [some (.ref d), none, none, none] H
    refine ⟨_, rfl, d, l, cs, n, 3, rfl, by decide, by decide, D0, by omega, fun way H1 _ _ D1 k1 => ?_⟩
    refine ⟨(by show 10 ≤ sizeLine; decide), fun l1 n1 => ⟨_, rfl, d, l, cs, n + 1, 10, rfl, by decide, by decide, D1.upd (D1.nd n1).1 (D1.nd n1).2, by omega, fun v H2 v0 v1 D2 k2 => ?_⟩⟩
    have g2 : But d H H2 := fun b o eb nb => k2 b o (upd_new n1 b o (k1 b o eb nb)) nb
    have e1 : H2 l1 = some (.lst (words10.map V.str)) := k2 l1 _ upd_same (D1.nd n1).1
    obtain ⟨x0, ex, mx⟩ : ∃ x, atI (words10.map V.str) v = some (.str x) ∧ x ∈ words10 := by
      obtain ⟨j, rfl⟩ := Int.eq_ofNat_of_zero_le v0
      have hj : j < words10.length := by show j < 10; omega
      exact ⟨words10[j], atI_nat (by rw [List.getElem?_map, List.getElem?_eq_getElem hj]; rfl), List.getElem_mem hj⟩
    refine ⟨l1, v, rfl, rfl, .str x0, (seq_l e1).trans ex, ?_⟩
    obtain ⟨w1, w2, w3⟩ := words10_ok x0 mx
    refine ⟨fun σ' H' => ∃ y : Str, 1 ≤ y.length ∧ y.length ≤ 8 ∧ abcs y ∧ σ' = [some (.ref d), some (.int way), some (.str y), none] ∧ DrawAt H' d l cs (n + 35) ∧ But d H H', ?_, ?_⟩
    · refine ⟨decide (V.int way = .int 0), (by simp only [tSeq, tNext, tIfS, tRet, tRetN, tDrop, tAsg, gName, gTup, gCons, gNil, gSub, tTest, tOp, tUn, tVar, tC, tB, tInC, tAnd, tOr, tNot, tAndV, tOrV, tNotV, tIf, tCall, tCons, tNil, tTup, tLst, tCut, rI0, rI, rU, rEq, rNe, rIxM, rSetL, scal_ii, scal_ss, scal_bb, scal_nn, scal_is, scal_si, scal_sn, scal_ns, flat_i, flat_s, flat_b, flat_n, List.all_cons, List.all_nil, Bool.and_true, Bool.true_and, true_and, and_true, ex_get, ex_int, ex_str, ex_bl, ex_ref, ex_int2, ex_str2, ex_ri, dec_true, at0, at1, at2, at3, at4, at5, at6, at7, List.getElem?_cons_zero, List.getElem?_cons_succ, List.set_cons_zero, List.set_cons_succ, List.length_cons, List.length_nil, Nat.reduceAdd, le_line, Nat.reduceLeDiff, upd_same, Bool.false_eq_true, if_false, if_true, ite_true, ite_false, List.cons_append, List.nil_append, List.append_nil, rSetM, ix30, ix31, ix32, upd_upd, ex_some, seqAt, tEv, tEvT, evVar, evC, ev2, ev1, evAnd, evOr, evIx, evCons, evNil, evCall, evLen, lenAt, fI_ii, kLt, kLe, kGt, kGe, kAdd, kSub, fEq, fNe, fMod_lit, fIn_s, fIn_i, fAnd_bb, fOr_bb, fNot_b, fIsN_n, fNotN_n, ex_sbl, ex_cons, Int.reduceLT, spP, decide_true, decide_false, Bool.not_true, Bool.not_false, Bool.and_false, Bool.false_and, Bool.or_true, Bool.true_or, Bool.or_false, Bool.false_or, reduceCtorEq, false_and, and_false, fDiv_lit, fNeg_i, Int.reduceNeg]), ite2 (fun _ => ?_) (fun _ => ⟨x0, w1, w2, w3, rfl, D2.mono (by omega), g2⟩)⟩
      refine ⟨_, rfl, _, rfl, d, l, cs, n + 2, 8, rfl, by decide, by decide, D2, by omega, fun u H3 u0 u1 D3 k3 => ⟨_, _, rfl, rfl, d, l, cs, n + 3, 1 + u, rfl, by omega, by omega, D3, by omega, fun z H4 hz ha D4 k4 => ?_⟩⟩
      exact ⟨z, by omega, by omega, ha, rfl, D4.mono (by omega), (g2.trans k3).trans k4⟩
    rintro σ' H3 ⟨y, y1, y2, ya, rfl, D3, g3⟩
    refine ⟨fun σ' H' => ∃ (y : Str) (x : Option V), 1 ≤ y.length ∧ y.length ≤ 8 ∧ abcs y ∧ σ' = [some (.ref d), some (.int way), some (.str y), x] ∧ DrawAt H' d l cs (n + 70) ∧ But d H H', ?_, ?_⟩
    · refine ⟨decide (V.int way = .int 1), (by simp only [tSeq, tNext, tIfS, tRet, tRetN, tDrop, tAsg, gName, gTup, gCons, gNil, gSub, tTest, tOp, tUn, tVar, tC, tB, tInC, tAnd, tOr, tNot, tAndV, tOrV, tNotV, tIf, tCall, tCons, tNil, tTup, tLst, tCut, rI0, rI, rU, rEq, rNe, rIxM, rSetL, scal_ii, scal_ss, scal_bb, scal_nn, scal_is, scal_si, scal_sn, scal_ns, flat_i, flat_s, flat_b, flat_n, List.all_cons, List.all_nil, Bool.and_true, Bool.true_and, true_and, and_true, ex_get, ex_int, ex_str, ex_bl, ex_ref, ex_int2, ex_str2, ex_ri, dec_true, at0, at1, at2, at3, at4, at5, at6, at7, List.getElem?_cons_zero, List.getElem?_cons_succ, List.set_cons_zero, List.set_cons_succ, List.length_cons, List.length_nil, Nat.reduceAdd, le_line, Nat.reduceLeDiff, upd_same, Bool.false_eq_true, if_false, if_true, ite_true, ite_false, List.cons_append, List.nil_append, List.append_nil, rSetM, ix30, ix31, ix32, upd_upd, ex_some, seqAt, tEv, tEvT, evVar, evC, ev2, ev1, evAnd, evOr, evIx, evCons, evNil, evCall, evLen, lenAt, fI_ii, kLt, kLe, kGt, kGe, kAdd, kSub, fEq, fNe, fMod_lit, fIn_s, fIn_i, fAnd_bb, fOr_bb, fNot_b, fIsN_n, fNotN_n, ex_sbl, ex_cons, Int.reduceLT, spP, decide_true, decide_false, Bool.not_true, Bool.not_false, Bool.and_false, Bool.false_and, Bool.or_true, Bool.true_or, Bool.or_false, Bool.false_or, reduceCtorEq, false_and, and_false, fDiv_lit, fNeg_i, Int.reduceNeg]), ite2 (fun _ => ?_) (fun _ => ⟨y, _, y1, y2, ya, rfl, D3.mono (by omega), g3⟩)⟩
      refine ⟨_, rfl, d, l, cs, n + 35, 4, rfl, by decide, by decide, D3, by omega, fun spot H4 s0 s1 D4 k4 => ?_⟩
      have lm : (Str.ofString "m").length = 1 := by decide +kernel
      have am : abcs (Str.ofString "m") := by show ∀ c ∈ (Str.ofString "m").cps.toList, c ∈ abc.cps.toList; decide +kernel
      refine ⟨_, rfl, _, _, rfl, rfl, s0, by omega, by rw [lm]; omega, ?_⟩
      refine ⟨_, rfl, d, l, cs, n + 36, 1, rfl, by decide, by decide, D4, by omega, fun z H5 hz ha D5 k5 => ?_⟩
      have q1 := rep_len (Str.ofString "m") spot.toNat
      have q2 := rep_len (Str.ofString "m") (3 - spot).toNat
      rw [lm] at q1 q2
      have q3 : z.length = 1 := hz
      refine ⟨_, _, rfl, rfl, add_ok (by omega), .int (3 - spot), (by simp only [tSeq, tNext, tIfS, tRet, tRetN, tDrop, tAsg, gName, gTup, gCons, gNil, gSub, tTest, tOp, tUn, tVar, tC, tB, tInC, tAnd, tOr, tNot, tAndV, tOrV, tNotV, tIf, tCall, tCons, tNil, tTup, tLst, tCut, rI0, rI, rU, rEq, rNe, rIxM, rSetL, scal_ii, scal_ss, scal_bb, scal_nn, scal_is, scal_si, scal_sn, scal_ns, flat_i, flat_s, flat_b, flat_n, List.all_cons, List.all_nil, Bool.and_true, Bool.true_and, true_and, and_true, ex_get, ex_int, ex_str, ex_bl, ex_ref, ex_int2, ex_str2, ex_ri, dec_true, at0, at1, at2, at3, at4, at5, at6, at7, List.getElem?_cons_zero, List.getElem?_cons_succ, List.set_cons_zero, List.set_cons_succ, List.length_cons, List.length_nil, Nat.reduceAdd, le_line, Nat.reduceLeDiff, upd_same, Bool.false_eq_true, if_false, if_true, ite_true, ite_false, List.cons_append, List.nil_append, List.append_nil, rSetM, ix30, ix31, ix32, upd_upd, ex_some, seqAt, tEv, tEvT, evVar, evC, ev2, ev1, evAnd, evOr, evIx, evCons, evNil, evCall, evLen, lenAt, fI_ii, kLt, kLe, kGt, kGe, kAdd, kSub, fEq, fNe, fMod_lit, fIn_s, fIn_i, fAnd_bb, fOr_bb, fNot_b, fIsN_n, fNotN_n, ex_sbl, ex_cons, Int.reduceLT, spP, decide_true, decide_false, Bool.not_true, Bool.not_false, Bool.and_false, Bool.false_and, Bool.or_true, Bool.true_or, Bool.or_false, Bool.false_or, reduceCtorEq, false_and, and_false, fDiv_lit, fNeg_i, Int.reduceNeg]), _, _, rfl, rfl, by omega, by omega, by rw [lm]; omega, _, _, rfl, rfl, add_ok (by rw [add_len]; omega), ?_⟩
      exact ⟨_, _, by rw [add_len, add_len]; omega, by rw [add_len, add_len]; omega, abcs_app (abcs_app (abcs_rep _ am) ha) (abcs_rep _ am), rfl, D5.mono (by omega), (g3.trans k4).trans k5⟩
    rintro σ' H4 ⟨y, x, y1, y2, ya, rfl, D4, g4⟩
    refine ⟨fun σ' H' => ∃ (y : Str) (x : Option V), nameB y = true ∧ σ' = [some (.ref d), some (.int way), some (.str y), x] ∧ DrawAt H' d l cs (n + 80) ∧ But d H H', ?_, ?_⟩
    · refine ⟨_, rfl, rfl, fun lk H5 nk hk s5 => ⟨lk, inV (.str y) (kwL.map V.str), rfl, ?_, _, rfl, ?_⟩⟩
      · unfold inAt
        rw [hk]
        have fk : (kwL.map V.str).all flatV = true := by rw [List.all_map]; exact List.all_eq_true.mpr fun _ _ => rfl
        exact if_pos ⟨rfl, fk⟩
      have D5 := (D4.keep s5).mono (by omega : n + 70 ≤ n + 80)
      have g5 : But d H H5 := fun b o eb nb => s5 b o (g4 b o eb nb)
      cases hy : inV (.str y) (kwL.map V.str) with
      | false => exact ⟨y, x, nameB_of y1 y2 ya hy, rfl, D5, g5⟩
      | true =>
        refine ⟨_, rfl, 7, rfl, y, rfl, Nat.le_trans y2 (by decide), _, _, rfl, rfl, add_ok ?_, _, x, name_q ya, rfl, D5, g5⟩
        have := Txt.slice_le y none (some 7)
        have e2 : (Str.ofString "q").length = 1 := by decide +kernel
        omega
    rintro σ' H5 ⟨y, x, hy, rfl, D5, g5⟩
    exact ⟨_, rfl, k y H5 hy D5 g5⟩
end
end My

set_option Elab.async false
set_option linter.all false
set_option maxRecDepth 100000
set_option maxHeartbeats 4000000
namespace My
open PySem L2
/-! ### out_of_words -/
def outTail (r : List Str) : Option (Str × Str × Str) := match r with
  | [y] => if inV (.str y) (wayL.map V.str) = true then some (y, "", "") else none
  | [y, n, d] => if V.str y = .str "run" ∧ nameB n = true ∧ inV (.str d) (endL.map V.str) = true then some (y, n, d) else none
  | _ => none
def outOf (ws : List Str) : Option (Str × Str × Str) := match ws with
  | [] => some ("", "", "")
  | x :: r => if V.str x = .str "out" then outTail r else none
def Told3 (o : Option (Str × Str × Str)) (H : Hp) (Q : VK) : Prop := match o with
  | none => ∀ H', Same H H' → Q .non H'
  | some p => ∀ t H', H t = none → H' t = some (.tup [.str p.1, .str p.2.1, .str p.2.2]) → Same H H' → Q (.ref t) H'
def spOut : Sp := fun vs H Q _ => ∃ (a : Addr) (ws : List Str), vs = [.ref a] ∧ H a = some (.lst (ws.map V.str)) ∧ (∀ x ∈ ws, x.length ≤ 1000) ∧ Told3 (outOf ws) H Q
theorem ite_no {b : Bool} (hb : b = false) {p q : Prop} (hq : q) : if b = true then p else q := by rw [hb]; exact iteF hq
theorem ite_yes {b : Bool} (hb : b = true) {p q : Prop} (hp : p) : if b = true then p else q := by rw [hb]; exact iteT hp
theorem len_no {n : Nat} {m : Int} (hn : (n : Int) ≠ m) : decide (V.int (n : Int) = V.int m) = false := decide_eq_false fun z => by injection z with z; exact hn z
theorem len_yes {n : Nat} {m : Int} (hn : (n : Int) = m) : decide (V.int (n : Int) = V.int m) = true := decide_eq_true (by rw [hn])
section
variable {P : Program} {w : World} {K : PySem.W.Frag} {mg : Str → Option Value} {base : Heap} {e : Ext}
theorem sc_outw : FnScope ["words"] ["words"] (defScope s_outw) := ⟨rfl, rfl, rfl, by decide +kernel, rfl, by decide +kernel, by decide +kernel⟩
theorem ok_outw {f f_isname f_made : Addr} {fd fd_isname fd_made : FuncData} (F : Fun K "out_of_words" "out_of_words" s_outw f fd) (T : Txt K mg e) (D_isname : Def K mg "is_name" s_isname ["word"] f_isname fd_isname) (D_made : Def K mg "made_of" s_made ["word", "signs", "most"] f_made fd_made) : FnOk P w K mg base CX0 3 f fd ["words"] spOut := by
  have G_isname : FnOk P w K mg base CX0 2 f_isname fd_isname ["word"] spName := ok_isname D_isname.F T D_made
  refine F.ok sc_outw (fun vs H Q E h => ?_) (fun cdv A outer s H vs Q E hr h => ?_)
  · obtain ⟨a, ws, rfl, _⟩ := h
    rfl
  · obtain ⟨a, ws, rfl, ha, hw, k⟩ := h
    have hr_isname := hr.mono (by decide : 2 ≤ 2)
    refine ⟨_, (pss_cons (ps_if (pt_pp (ptp_eq (pp_len rfl T.n_len PySem.boot_len (ppa_cons (pp_var 0) ppa_nil)) (pp_c pe_int)))
        (pss_one (ps_ret (pe_tup (pa_consK pe_str (pa_consK pe_str (pa_consK pe_str pa_nil))))))
        pss_nil)
      (pss_cons (ps_if (pt_pp (ptp_ne (pp_ix (pp_var 0) (pp_c pe_int) (fun _ _ => rfl)) (pp_c pe_str)))
        (pss_one (ps_ret pe_non))
        pss_nil)
      (pss_cons (ps_if (PW.pt (pw_and (pt_pp (ptp_eq (pp_len rfl T.n_len PySem.boot_len (ppa_cons (pp_var 0) ppa_nil)) (pp_c pe_int))) (pw_and1 (pt_cmpR op_in_seq (pe_pp (pp_ix (pp_var 0) (pp_c pe_int) (fun _ _ => rfl))) (pe_glob (v := .ref _) rfl T.g_PLAIN_WAYS rfl) (by with_unfolding_all rfl)))))
        (pss_one (ps_ret (pe_tup (pa_cons (pe_pp (pp_ix (pp_var 0) (pp_c pe_int) (fun _ _ => rfl))) (pa_consK pe_str (pa_consK pe_str pa_nil))))))
        pss_nil)
      (pss_cons (ps_if (PW.pt (pw_and (pt_pp (ptp_eq (pp_len rfl T.n_len PySem.boot_len (ppa_cons (pp_var 0) ppa_nil)) (pp_c pe_int))) (pw_and (pt_pp (ptp_eq (pp_ix (pp_var 0) (pp_c pe_int) (fun _ _ => rfl)) (pp_c pe_str))) (pw_and (pt_val (pe_call G_isname hr_isname rfl D_isname.m D_isname.F.kp D_isname.b .nil pass0 (pa_cons (pe_pp (pp_ix (pp_var 0) (pp_c pe_int) (fun _ _ => rfl))) pa_nil))) (pw_and1 (pt_cmpR op_in_seq (pe_pp (pp_ix (pp_var 0) (pp_c pe_int) (fun _ _ => rfl))) (pe_glob (v := .ref _) rfl T.g_ENDS rfl) (by with_unfolding_all rfl)))))))
        (pss_one (ps_ret (pe_tup (pa_cons (pe_pp (pp_ix (pp_var 0) (pp_c pe_int) (fun _ _ => rfl))) (pa_cons (pe_pp (pp_ix (pp_var 0) (pp_c pe_int) (fun _ _ => rfl))) (pa_cons (pe_pp (pp_ix (pp_var 0) (pp_c pe_int) (fun _ _ => rfl))) pa_nil))))))
        pss_nil)
      (pss_one (ps_ret pe_non)))))), ?_⟩
    change (_ : Ends → St → Hp → Prop) _ [some (.ref a)] H
    refine ⟨decide (V.int (ws.map V.str).length = .int 0), (by simp only [tSeq, tNext, tIfS, tRet, tRetN, tDrop, tAsg, gName, gTup, gCons, gNil, gSub, tTest, tOp, tUn, tVar, tC, tB, tInC, tAnd, tOr, tNot, tAndV, tOrV, tNotV, tIf, tCall, tCons, tNil, tTup, tLst, tCut, rI0, rI, rU, rEq, rNe, rIxM, rSetL, scal_ii, scal_ss, scal_bb, scal_nn, scal_is, scal_si, scal_sn, scal_ns, flat_i, flat_s, flat_b, flat_n, List.all_cons, List.all_nil, Bool.and_true, Bool.true_and, true_and, and_true, ex_get, ex_int, ex_str, ex_bl, ex_ref, ex_int2, ex_str2, ex_ri, dec_true, at0, at1, at2, at3, at4, at5, at6, at7, List.getElem?_cons_zero, List.getElem?_cons_succ, List.set_cons_zero, List.set_cons_succ, List.length_cons, List.length_nil, Nat.reduceAdd, le_line, Nat.reduceLeDiff, upd_same, Bool.false_eq_true, if_false, if_true, ite_true, ite_false, List.cons_append, List.nil_append, List.append_nil, rSetM, ix30, ix31, ix32, upd_upd, ex_some, seqAt, tEv, tEvT, evVar, evC, ev2, ev1, evAnd, evOr, evIx, evCons, evNil, evCall, evLen, lenAt, fI_ii, kLt, kLe, kGt, kGe, kAdd, kSub, fEq, fNe, fMod_lit, fIn_s, fIn_i, fAnd_bb, fOr_bb, fNot_b, fIsN_n, fNotN_n, ex_sbl, ex_cons, Int.reduceLT, spP, decide_true, decide_false, Bool.not_true, Bool.not_false, Bool.and_false, Bool.false_and, Bool.or_true, Bool.true_or, Bool.or_false, Bool.false_or, reduceCtorEq, false_and, and_false, fDiv_lit, fNeg_i, Int.reduceNeg, ha]), ?_⟩
    match ws, ha, hw, k with
    | [], ha, hw, k =>
      refine iteT ⟨(by show 3 ≤ sizeLine; decide), fun t nt => ?_⟩
      exact k t _ nt upd_same (upd_new nt)
    | x :: r, ha, hw, k =>
      refine ite_no (len_no (by simp; omega)) ?_
      refine ⟨!decide (V.str x = .str "out"), (by simp only [tSeq, tNext, tIfS, tRet, tRetN, tDrop, tAsg, gName, gTup, gCons, gNil, gSub, tTest, tOp, tUn, tVar, tC, tB, tInC, tAnd, tOr, tNot, tAndV, tOrV, tNotV, tIf, tCall, tCons, tNil, tTup, tLst, tCut, rI0, rI, rU, rEq, rNe, rIxM, rSetL, scal_ii, scal_ss, scal_bb, scal_nn, scal_is, scal_si, scal_sn, scal_ns, flat_i, flat_s, flat_b, flat_n, List.all_cons, List.all_nil, Bool.and_true, Bool.true_and, true_and, and_true, ex_get, ex_int, ex_str, ex_bl, ex_ref, ex_int2, ex_str2, ex_ri, dec_true, at0, at1, at2, at3, at4, at5, at6, at7, List.getElem?_cons_zero, List.getElem?_cons_succ, List.set_cons_zero, List.set_cons_succ, List.length_cons, List.length_nil, Nat.reduceAdd, le_line, Nat.reduceLeDiff, upd_same, Bool.false_eq_true, if_false, if_true, ite_true, ite_false, List.cons_append, List.nil_append, List.append_nil, rSetM, ix30, ix31, ix32, upd_upd, ex_some, seqAt, tEv, tEvT, evVar, evC, ev2, ev1, evAnd, evOr, evIx, evCons, evNil, evCall, evLen, lenAt, fI_ii, kLt, kLe, kGt, kGe, kAdd, kSub, fEq, fNe, fMod_lit, fIn_s, fIn_i, fAnd_bb, fOr_bb, fNot_b, fIsN_n, fNotN_n, ex_sbl, ex_cons, Int.reduceLT, spP, decide_true, decide_false, Bool.not_true, Bool.not_false, Bool.and_false, Bool.false_and, Bool.or_true, Bool.true_or, Bool.or_false, Bool.false_or, reduceCtorEq, false_and, and_false, fDiv_lit, fNeg_i, Int.reduceNeg, ha, List.map_cons]), ?_⟩
      by_cases hx : V.str x = .str "out"
      · have ex : outOf (x :: r) = outTail r := if_pos hx
        rw [ex] at k
        refine ite_no (by rw [decide_eq_true hx]; rfl) ?_
        refine ⟨decide (V.int (List.map V.str (x :: r)).length = .int 2), (by simp only [tSeq, tNext, tIfS, tRet, tRetN, tDrop, tAsg, gName, gTup, gCons, gNil, gSub, tTest, tOp, tUn, tVar, tC, tB, tInC, tAnd, tOr, tNot, tAndV, tOrV, tNotV, tIf, tCall, tCons, tNil, tTup, tLst, tCut, rI0, rI, rU, rEq, rNe, rIxM, rSetL, scal_ii, scal_ss, scal_bb, scal_nn, scal_is, scal_si, scal_sn, scal_ns, flat_i, flat_s, flat_b, flat_n, List.all_cons, List.all_nil, Bool.and_true, Bool.true_and, true_and, and_true, ex_get, ex_int, ex_str, ex_bl, ex_ref, ex_int2, ex_str2, ex_ri, dec_true, at0, at1, at2, at3, at4, at5, at6, at7, List.getElem?_cons_zero, List.getElem?_cons_succ, List.set_cons_zero, List.set_cons_succ, List.length_cons, List.length_nil, Nat.reduceAdd, le_line, Nat.reduceLeDiff, upd_same, Bool.false_eq_true, if_false, if_true, ite_true, ite_false, List.cons_append, List.nil_append, List.append_nil, rSetM, ix30, ix31, ix32, upd_upd, ex_some, seqAt, tEv, tEvT, evVar, evC, ev2, ev1, evAnd, evOr, evIx, evCons, evNil, evCall, evLen, lenAt, fI_ii, kLt, kLe, kGt, kGe, kAdd, kSub, fEq, fNe, fMod_lit, fIn_s, fIn_i, fAnd_bb, fOr_bb, fNot_b, fIsN_n, fNotN_n, ex_sbl, ex_cons, Int.reduceLT, spP, decide_true, decide_false, Bool.not_true, Bool.not_false, Bool.and_false, Bool.false_and, Bool.or_true, Bool.true_or, Bool.or_false, Bool.false_or, reduceCtorEq, false_and, and_false, fDiv_lit, fNeg_i, Int.reduceNeg, ha, List.map_cons]), ?_⟩
        match r, ha, hw, k with
        | [], ha, hw, k =>
          refine ite_no (len_no (by simp)) (iteF ?_)
          refine ⟨false, (by simp only [tSeq, tNext, tIfS, tRet, tRetN, tDrop, tAsg, gName, gTup, gCons, gNil, gSub, tTest, tOp, tUn, tVar, tC, tB, tInC, tAnd, tOr, tNot, tAndV, tOrV, tNotV, tIf, tCall, tCons, tNil, tTup, tLst, tCut, rI0, rI, rU, rEq, rNe, rIxM, rSetL, scal_ii, scal_ss, scal_bb, scal_nn, scal_is, scal_si, scal_sn, scal_ns, flat_i, flat_s, flat_b, flat_n, List.all_cons, List.all_nil, Bool.and_true, Bool.true_and, true_and, and_true, ex_get, ex_int, ex_str, ex_bl, ex_ref, ex_int2, ex_str2, ex_ri, dec_true, at0, at1, at2, at3, at4, at5, at6, at7, List.getElem?_cons_zero, List.getElem?_cons_succ, List.set_cons_zero, List.set_cons_succ, List.length_cons, List.length_nil, Nat.reduceAdd, le_line, Nat.reduceLeDiff, upd_same, Bool.false_eq_true, if_false, if_true, ite_true, ite_false, List.cons_append, List.nil_append, List.append_nil, rSetM, ix30, ix31, ix32, upd_upd, ex_some, seqAt, tEv, tEvT, evVar, evC, ev2, ev1, evAnd, evOr, evIx, evCons, evNil, evCall, evLen, lenAt, fI_ii, kLt, kLe, kGt, kGe, kAdd, kSub, fEq, fNe, fMod_lit, fIn_s, fIn_i, fAnd_bb, fOr_bb, fNot_b, fIsN_n, fNotN_n, ex_sbl, ex_cons, Int.reduceLT, spP, decide_true, decide_false, Bool.not_true, Bool.not_false, Bool.and_false, Bool.false_and, Bool.or_true, Bool.true_or, Bool.or_false, Bool.false_or, reduceCtorEq, false_and, and_false, fDiv_lit, fNeg_i, Int.reduceNeg, ha, List.map_cons, List.map_nil]; rfl), iteF (iteF ?_)⟩
          exact k H (Same.refl _)
        | [y], ha, hw, k =>
          refine ite_yes (len_yes (by rfl)) ?_
          refine ⟨.str y, (by simp only [tSeq, tNext, tIfS, tRet, tRetN, tDrop, tAsg, gName, gTup, gCons, gNil, gSub, tTest, tOp, tUn, tVar, tC, tB, tInC, tAnd, tOr, tNot, tAndV, tOrV, tNotV, tIf, tCall, tCons, tNil, tTup, tLst, tCut, rI0, rI, rU, rEq, rNe, rIxM, rSetL, scal_ii, scal_ss, scal_bb, scal_nn, scal_is, scal_si, scal_sn, scal_ns, flat_i, flat_s, flat_b, flat_n, List.all_cons, List.all_nil, Bool.and_true, Bool.true_and, true_and, and_true, ex_get, ex_int, ex_str, ex_bl, ex_ref, ex_int2, ex_str2, ex_ri, dec_true, at0, at1, at2, at3, at4, at5, at6, at7, List.getElem?_cons_zero, List.getElem?_cons_succ, List.set_cons_zero, List.set_cons_succ, List.length_cons, List.length_nil, Nat.reduceAdd, le_line, Nat.reduceLeDiff, upd_same, Bool.false_eq_true, if_false, if_true, ite_true, ite_false, List.cons_append, List.nil_append, List.append_nil, rSetM, ix30, ix31, ix32, upd_upd, ex_some, seqAt, tEv, tEvT, evVar, evC, ev2, ev1, evAnd, evOr, evIx, evCons, evNil, evCall, evLen, lenAt, fI_ii, kLt, kLe, kGt, kGe, kAdd, kSub, fEq, fNe, fMod_lit, fIn_s, fIn_i, fAnd_bb, fOr_bb, fNot_b, fIsN_n, fNotN_n, ex_sbl, ex_cons, Int.reduceLT, spP, decide_true, decide_false, Bool.not_true, Bool.not_false, Bool.and_false, Bool.false_and, Bool.or_true, Bool.true_or, Bool.or_false, Bool.false_or, reduceCtorEq, false_and, and_false, fDiv_lit, fNeg_i, Int.reduceNeg, ha, List.map_cons]), e.aP, _, rfl, .inr (T.t_PLAIN_WAYS _), rfl, by decide +kernel, ?_⟩
          cases hy : inV (.str y) (wayL.map V.str) with
          | true =>
            have ey : outTail [y] = some (y, Str.ofString "", Str.ofString "") := if_pos hy
            rw [ey] at k
            refine ⟨true, rfl, iteT ⟨.str y, (by simp only [tSeq, tNext, tIfS, tRet, tRetN, tDrop, tAsg, gName, gTup, gCons, gNil, gSub, tTest, tOp, tUn, tVar, tC, tB, tInC, tAnd, tOr, tNot, tAndV, tOrV, tNotV, tIf, tCall, tCons, tNil, tTup, tLst, tCut, rI0, rI, rU, rEq, rNe, rIxM, rSetL, scal_ii, scal_ss, scal_bb, scal_nn, scal_is, scal_si, scal_sn, scal_ns, flat_i, flat_s, flat_b, flat_n, List.all_cons, List.all_nil, Bool.and_true, Bool.true_and, true_and, and_true, ex_get, ex_int, ex_str, ex_bl, ex_ref, ex_int2, ex_str2, ex_ri, dec_true, at0, at1, at2, at3, at4, at5, at6, at7, List.getElem?_cons_zero, List.getElem?_cons_succ, List.set_cons_zero, List.set_cons_succ, List.length_cons, List.length_nil, Nat.reduceAdd, le_line, Nat.reduceLeDiff, upd_same, Bool.false_eq_true, if_false, if_true, ite_true, ite_false, List.cons_append, List.nil_append, List.append_nil, rSetM, ix30, ix31, ix32, upd_upd, ex_some, seqAt, tEv, tEvT, evVar, evC, ev2, ev1, evAnd, evOr, evIx, evCons, evNil, evCall, evLen, lenAt, fI_ii, kLt, kLe, kGt, kGe, kAdd, kSub, fEq, fNe, fMod_lit, fIn_s, fIn_i, fAnd_bb, fOr_bb, fNot_b, fIsN_n, fNotN_n, ex_sbl, ex_cons, Int.reduceLT, spP, decide_true, decide_false, Bool.not_true, Bool.not_false, Bool.and_false, Bool.false_and, Bool.or_true, Bool.true_or, Bool.or_false, Bool.false_or, reduceCtorEq, false_and, and_false, fDiv_lit, fNeg_i, Int.reduceNeg, ha, List.map_cons]), (by show 3 ≤ sizeLine; decide), fun t nt => k t _ nt upd_same (upd_new nt)⟩⟩
          | false =>
            have ey : outTail [y] = none := if_neg (by rw [hy]; decide)
            rw [ey] at k
            refine ⟨false, rfl, iteF ⟨false, (by simp only [tSeq, tNext, tIfS, tRet, tRetN, tDrop, tAsg, gName, gTup, gCons, gNil, gSub, tTest, tOp, tUn, tVar, tC, tB, tInC, tAnd, tOr, tNot, tAndV, tOrV, tNotV, tIf, tCall, tCons, tNil, tTup, tLst, tCut, rI0, rI, rU, rEq, rNe, rIxM, rSetL, scal_ii, scal_ss, scal_bb, scal_nn, scal_is, scal_si, scal_sn, scal_ns, flat_i, flat_s, flat_b, flat_n, List.all_cons, List.all_nil, Bool.and_true, Bool.true_and, true_and, and_true, ex_get, ex_int, ex_str, ex_bl, ex_ref, ex_int2, ex_str2, ex_ri, dec_true, at0, at1, at2, at3, at4, at5, at6, at7, List.getElem?_cons_zero, List.getElem?_cons_succ, List.set_cons_zero, List.set_cons_succ, List.length_cons, List.length_nil, Nat.reduceAdd, le_line, Nat.reduceLeDiff, upd_same, Bool.false_eq_true, if_false, if_true, ite_true, ite_false, List.cons_append, List.nil_append, List.append_nil, rSetM, ix30, ix31, ix32, upd_upd, ex_some, seqAt, tEv, tEvT, evVar, evC, ev2, ev1, evAnd, evOr, evIx, evCons, evNil, evCall, evLen, lenAt, fI_ii, kLt, kLe, kGt, kGe, kAdd, kSub, fEq, fNe, fMod_lit, fIn_s, fIn_i, fAnd_bb, fOr_bb, fNot_b, fIsN_n, fNotN_n, ex_sbl, ex_cons, Int.reduceLT, spP, decide_true, decide_false, Bool.not_true, Bool.not_false, Bool.and_false, Bool.false_and, Bool.or_true, Bool.true_or, Bool.or_false, Bool.false_or, reduceCtorEq, false_and, and_false, fDiv_lit, fNeg_i, Int.reduceNeg, ha, List.map_cons, List.map_nil]; rfl), iteF (iteF (k H (Same.refl _)))⟩⟩
        | [y, n], ha, hw, k =>
          refine ite_no (len_no (by simp)) (iteF ?_)
          refine ⟨false, (by simp only [tSeq, tNext, tIfS, tRet, tRetN, tDrop, tAsg, gName, gTup, gCons, gNil, gSub, tTest, tOp, tUn, tVar, tC, tB, tInC, tAnd, tOr, tNot, tAndV, tOrV, tNotV, tIf, tCall, tCons, tNil, tTup, tLst, tCut, rI0, rI, rU, rEq, rNe, rIxM, rSetL, scal_ii, scal_ss, scal_bb, scal_nn, scal_is, scal_si, scal_sn, scal_ns, flat_i, flat_s, flat_b, flat_n, List.all_cons, List.all_nil, Bool.and_true, Bool.true_and, true_and, and_true, ex_get, ex_int, ex_str, ex_bl, ex_ref, ex_int2, ex_str2, ex_ri, dec_true, at0, at1, at2, at3, at4, at5, at6, at7, List.getElem?_cons_zero, List.getElem?_cons_succ, List.set_cons_zero, List.set_cons_succ, List.length_cons, List.length_nil, Nat.reduceAdd, le_line, Nat.reduceLeDiff, upd_same, Bool.false_eq_true, if_false, if_true, ite_true, ite_false, List.cons_append, List.nil_append, List.append_nil, rSetM, ix30, ix31, ix32, upd_upd, ex_some, seqAt, tEv, tEvT, evVar, evC, ev2, ev1, evAnd, evOr, evIx, evCons, evNil, evCall, evLen, lenAt, fI_ii, kLt, kLe, kGt, kGe, kAdd, kSub, fEq, fNe, fMod_lit, fIn_s, fIn_i, fAnd_bb, fOr_bb, fNot_b, fIsN_n, fNotN_n, ex_sbl, ex_cons, Int.reduceLT, spP, decide_true, decide_false, Bool.not_true, Bool.not_false, Bool.and_false, Bool.false_and, Bool.or_true, Bool.true_or, Bool.or_false, Bool.false_or, reduceCtorEq, false_and, and_false, fDiv_lit, fNeg_i, Int.reduceNeg, ha, List.map_cons, List.map_nil]; rfl), iteF (iteF ?_)⟩
          exact k H (Same.refl _)
        | [y, n, d], ha, hw, k =>
          refine ite_no (len_no (by simp)) (iteF ?_)
          refine ⟨true, (by simp only [tSeq, tNext, tIfS, tRet, tRetN, tDrop, tAsg, gName, gTup, gCons, gNil, gSub, tTest, tOp, tUn, tVar, tC, tB, tInC, tAnd, tOr, tNot, tAndV, tOrV, tNotV, tIf, tCall, tCons, tNil, tTup, tLst, tCut, rI0, rI, rU, rEq, rNe, rIxM, rSetL, scal_ii, scal_ss, scal_bb, scal_nn, scal_is, scal_si, scal_sn, scal_ns, flat_i, flat_s, flat_b, flat_n, List.all_cons, List.all_nil, Bool.and_true, Bool.true_and, true_and, and_true, ex_get, ex_int, ex_str, ex_bl, ex_ref, ex_int2, ex_str2, ex_ri, dec_true, at0, at1, at2, at3, at4, at5, at6, at7, List.getElem?_cons_zero, List.getElem?_cons_succ, List.set_cons_zero, List.set_cons_succ, List.length_cons, List.length_nil, Nat.reduceAdd, le_line, Nat.reduceLeDiff, upd_same, Bool.false_eq_true, if_false, if_true, ite_true, ite_false, List.cons_append, List.nil_append, List.append_nil, rSetM, ix30, ix31, ix32, upd_upd, ex_some, seqAt, tEv, tEvT, evVar, evC, ev2, ev1, evAnd, evOr, evIx, evCons, evNil, evCall, evLen, lenAt, fI_ii, kLt, kLe, kGt, kGe, kAdd, kSub, fEq, fNe, fMod_lit, fIn_s, fIn_i, fAnd_bb, fOr_bb, fNot_b, fIsN_n, fNotN_n, ex_sbl, ex_cons, Int.reduceLT, spP, decide_true, decide_false, Bool.not_true, Bool.not_false, Bool.and_false, Bool.false_and, Bool.or_true, Bool.true_or, Bool.or_false, Bool.false_or, reduceCtorEq, false_and, and_false, fDiv_lit, fNeg_i, Int.reduceNeg, ha, List.map_cons, List.map_nil]; rfl), iteT ?_⟩
          refine ⟨decide (V.str y = .str "run"), (by simp only [tSeq, tNext, tIfS, tRet, tRetN, tDrop, tAsg, gName, gTup, gCons, gNil, gSub, tTest, tOp, tUn, tVar, tC, tB, tInC, tAnd, tOr, tNot, tAndV, tOrV, tNotV, tIf, tCall, tCons, tNil, tTup, tLst, tCut, rI0, rI, rU, rEq, rNe, rIxM, rSetL, scal_ii, scal_ss, scal_bb, scal_nn, scal_is, scal_si, scal_sn, scal_ns, flat_i, flat_s, flat_b, flat_n, List.all_cons, List.all_nil, Bool.and_true, Bool.true_and, true_and, and_true, ex_get, ex_int, ex_str, ex_bl, ex_ref, ex_int2, ex_str2, ex_ri, dec_true, at0, at1, at2, at3, at4, at5, at6, at7, List.getElem?_cons_zero, List.getElem?_cons_succ, List.set_cons_zero, List.set_cons_succ, List.length_cons, List.length_nil, Nat.reduceAdd, le_line, Nat.reduceLeDiff, upd_same, Bool.false_eq_true, if_false, if_true, ite_true, ite_false, List.cons_append, List.nil_append, List.append_nil, rSetM, ix30, ix31, ix32, upd_upd, ex_some, seqAt, tEv, tEvT, evVar, evC, ev2, ev1, evAnd, evOr, evIx, evCons, evNil, evCall, evLen, lenAt, fI_ii, kLt, kLe, kGt, kGe, kAdd, kSub, fEq, fNe, fMod_lit, fIn_s, fIn_i, fAnd_bb, fOr_bb, fNot_b, fIsN_n, fNotN_n, ex_sbl, ex_cons, Int.reduceLT, spP, decide_true, decide_false, Bool.not_true, Bool.not_false, Bool.and_false, Bool.false_and, Bool.or_true, Bool.true_or, Bool.or_false, Bool.false_or, reduceCtorEq, false_and, and_false, fDiv_lit, fNeg_i, Int.reduceNeg, ha, List.map_cons]), ?_⟩
          by_cases hy : V.str y = .str "run"
          · refine ite_yes (decide_eq_true hy) ?_
            refine ⟨.str n, (by simp only [tSeq, tNext, tIfS, tRet, tRetN, tDrop, tAsg, gName, gTup, gCons, gNil, gSub, tTest, tOp, tUn, tVar, tC, tB, tInC, tAnd, tOr, tNot, tAndV, tOrV, tNotV, tIf, tCall, tCons, tNil, tTup, tLst, tCut, rI0, rI, rU, rEq, rNe, rIxM, rSetL, scal_ii, scal_ss, scal_bb, scal_nn, scal_is, scal_si, scal_sn, scal_ns, flat_i, flat_s, flat_b, flat_n, List.all_cons, List.all_nil, Bool.and_true, Bool.true_and, true_and, and_true, ex_get, ex_int, ex_str, ex_bl, ex_ref, ex_int2, ex_str2, ex_ri, dec_true, at0, at1, at2, at3, at4, at5, at6, at7, List.getElem?_cons_zero, List.getElem?_cons_succ, List.set_cons_zero, List.set_cons_succ, List.length_cons, List.length_nil, Nat.reduceAdd, le_line, Nat.reduceLeDiff, upd_same, Bool.false_eq_true, if_false, if_true, ite_true, ite_false, List.cons_append, List.nil_append, List.append_nil, rSetM, ix30, ix31, ix32, upd_upd, ex_some, seqAt, tEv, tEvT, evVar, evC, ev2, ev1, evAnd, evOr, evIx, evCons, evNil, evCall, evLen, lenAt, fI_ii, kLt, kLe, kGt, kGe, kAdd, kSub, fEq, fNe, fMod_lit, fIn_s, fIn_i, fAnd_bb, fOr_bb, fNot_b, fIsN_n, fNotN_n, ex_sbl, ex_cons, Int.reduceLT, spP, decide_true, decide_false, Bool.not_true, Bool.not_false, Bool.and_false, Bool.false_and, Bool.or_true, Bool.true_or, Bool.or_false, Bool.false_or, reduceCtorEq, false_and, and_false, fDiv_lit, fNeg_i, Int.reduceNeg, ha, List.map_cons]), n, rfl, hw n (by simp), fun H1 s1 => ⟨_, rfl, ?_⟩⟩
            cases hn : nameB n with
            | true =>
              have ha1 := s1 _ _ ha
              refine iteT ⟨.str d, (by simp only [tSeq, tNext, tIfS, tRet, tRetN, tDrop, tAsg, gName, gTup, gCons, gNil, gSub, tTest, tOp, tUn, tVar, tC, tB, tInC, tAnd, tOr, tNot, tAndV, tOrV, tNotV, tIf, tCall, tCons, tNil, tTup, tLst, tCut, rI0, rI, rU, rEq, rNe, rIxM, rSetL, scal_ii, scal_ss, scal_bb, scal_nn, scal_is, scal_si, scal_sn, scal_ns, flat_i, flat_s, flat_b, flat_n, List.all_cons, List.all_nil, Bool.and_true, Bool.true_and, true_and, and_true, ex_get, ex_int, ex_str, ex_bl, ex_ref, ex_int2, ex_str2, ex_ri, dec_true, at0, at1, at2, at3, at4, at5, at6, at7, List.getElem?_cons_zero, List.getElem?_cons_succ, List.set_cons_zero, List.set_cons_succ, List.length_cons, List.length_nil, Nat.reduceAdd, le_line, Nat.reduceLeDiff, upd_same, Bool.false_eq_true, if_false, if_true, ite_true, ite_false, List.cons_append, List.nil_append, List.append_nil, rSetM, ix30, ix31, ix32, upd_upd, ex_some, seqAt, tEv, tEvT, evVar, evC, ev2, ev1, evAnd, evOr, evIx, evCons, evNil, evCall, evLen, lenAt, fI_ii, kLt, kLe, kGt, kGe, kAdd, kSub, fEq, fNe, fMod_lit, fIn_s, fIn_i, fAnd_bb, fOr_bb, fNot_b, fIsN_n, fNotN_n, ex_sbl, ex_cons, Int.reduceLT, spP, decide_true, decide_false, Bool.not_true, Bool.not_false, Bool.and_false, Bool.false_and, Bool.or_true, Bool.true_or, Bool.or_false, Bool.false_or, reduceCtorEq, false_and, and_false, fDiv_lit, fNeg_i, Int.reduceNeg, ha1, List.map_cons]), e.aE, _, rfl, .inr (T.t_ENDS _), rfl, by decide +kernel, ?_⟩
              cases hd : inV (.str d) (endL.map V.str) with
              | true =>
                have ey : outTail [y, n, d] = some (y, n, d) := if_pos ⟨hy, hn, hd⟩
                rw [ey] at k
                refine ⟨true, rfl, iteT ⟨.str y, (by simp only [tSeq, tNext, tIfS, tRet, tRetN, tDrop, tAsg, gName, gTup, gCons, gNil, gSub, tTest, tOp, tUn, tVar, tC, tB, tInC, tAnd, tOr, tNot, tAndV, tOrV, tNotV, tIf, tCall, tCons, tNil, tTup, tLst, tCut, rI0, rI, rU, rEq, rNe, rIxM, rSetL, scal_ii, scal_ss, scal_bb, scal_nn, scal_is, scal_si, scal_sn, scal_ns, flat_i, flat_s, flat_b, flat_n, List.all_cons, List.all_nil, Bool.and_true, Bool.true_and, true_and, and_true, ex_get, ex_int, ex_str, ex_bl, ex_ref, ex_int2, ex_str2, ex_ri, dec_true, at0, at1, at2, at3, at4, at5, at6, at7, List.getElem?_cons_zero, List.getElem?_cons_succ, List.set_cons_zero, List.set_cons_succ, List.length_cons, List.length_nil, Nat.reduceAdd, le_line, Nat.reduceLeDiff, upd_same, Bool.false_eq_true, if_false, if_true, ite_true, ite_false, List.cons_append, List.nil_append, List.append_nil, rSetM, ix30, ix31, ix32, upd_upd, ex_some, seqAt, tEv, tEvT, evVar, evC, ev2, ev1, evAnd, evOr, evIx, evCons, evNil, evCall, evLen, lenAt, fI_ii, kLt, kLe, kGt, kGe, kAdd, kSub, fEq, fNe, fMod_lit, fIn_s, fIn_i, fAnd_bb, fOr_bb, fNot_b, fIsN_n, fNotN_n, ex_sbl, ex_cons, Int.reduceLT, spP, decide_true, decide_false, Bool.not_true, Bool.not_false, Bool.and_false, Bool.false_and, Bool.or_true, Bool.true_or, Bool.or_false, Bool.false_or, reduceCtorEq, false_and, and_false, fDiv_lit, fNeg_i, Int.reduceNeg, ha1, List.map_cons]), .str n, (by simp only [tSeq, tNext, tIfS, tRet, tRetN, tDrop, tAsg, gName, gTup, gCons, gNil, gSub, tTest, tOp, tUn, tVar, tC, tB, tInC, tAnd, tOr, tNot, tAndV, tOrV, tNotV, tIf, tCall, tCons, tNil, tTup, tLst, tCut, rI0, rI, rU, rEq, rNe, rIxM, rSetL, scal_ii, scal_ss, scal_bb, scal_nn, scal_is, scal_si, scal_sn, scal_ns, flat_i, flat_s, flat_b, flat_n, List.all_cons, List.all_nil, Bool.and_true, Bool.true_and, true_and, and_true, ex_get, ex_int, ex_str, ex_bl, ex_ref, ex_int2, ex_str2, ex_ri, dec_true, at0, at1, at2, at3, at4, at5, at6, at7, List.getElem?_cons_zero, List.getElem?_cons_succ, List.set_cons_zero, List.set_cons_succ, List.length_cons, List.length_nil, Nat.reduceAdd, le_line, Nat.reduceLeDiff, upd_same, Bool.false_eq_true, if_false, if_true, ite_true, ite_false, List.cons_append, List.nil_append, List.append_nil, rSetM, ix30, ix31, ix32, upd_upd, ex_some, seqAt, tEv, tEvT, evVar, evC, ev2, ev1, evAnd, evOr, evIx, evCons, evNil, evCall, evLen, lenAt, fI_ii, kLt, kLe, kGt, kGe, kAdd, kSub, fEq, fNe, fMod_lit, fIn_s, fIn_i, fAnd_bb, fOr_bb, fNot_b, fIsN_n, fNotN_n, ex_sbl, ex_cons, Int.reduceLT, spP, decide_true, decide_false, Bool.not_true, Bool.not_false, Bool.and_false, Bool.false_and, Bool.or_true, Bool.true_or, Bool.or_false, Bool.false_or, reduceCtorEq, false_and, and_false, fDiv_lit, fNeg_i, Int.reduceNeg, ha1, List.map_cons]), .str d, (by simp only [tSeq, tNext, tIfS, tRet, tRetN, tDrop, tAsg, gName, gTup, gCons, gNil, gSub, tTest, tOp, tUn, tVar, tC, tB, tInC, tAnd, tOr, tNot, tAndV, tOrV, tNotV, tIf, tCall, tCons, tNil, tTup, tLst, tCut, rI0, rI, rU, rEq, rNe, rIxM, rSetL, scal_ii, scal_ss, scal_bb, scal_nn, scal_is, scal_si, scal_sn, scal_ns, flat_i, flat_s, flat_b, flat_n, List.all_cons, List.all_nil, Bool.and_true, Bool.true_and, true_and, and_true, ex_get, ex_int, ex_str, ex_bl, ex_ref, ex_int2, ex_str2, ex_ri, dec_true, at0, at1, at2, at3, at4, at5, at6, at7, List.getElem?_cons_zero, List.getElem?_cons_succ, List.set_cons_zero, List.set_cons_succ, List.length_cons, List.length_nil, Nat.reduceAdd, le_line, Nat.reduceLeDiff, upd_same, Bool.false_eq_true, if_false, if_true, ite_true, ite_false, List.cons_append, List.nil_append, List.append_nil, rSetM, ix30, ix31, ix32, upd_upd, ex_some, seqAt, tEv, tEvT, evVar, evC, ev2, ev1, evAnd, evOr, evIx, evCons, evNil, evCall, evLen, lenAt, fI_ii, kLt, kLe, kGt, kGe, kAdd, kSub, fEq, fNe, fMod_lit, fIn_s, fIn_i, fAnd_bb, fOr_bb, fNot_b, fIsN_n, fNotN_n, ex_sbl, ex_cons, Int.reduceLT, spP, decide_true, decide_false, Bool.not_true, Bool.not_false, Bool.and_false, Bool.false_and, Bool.or_true, Bool.true_or, Bool.or_false, Bool.false_or, reduceCtorEq, false_and, and_false, fDiv_lit, fNeg_i, Int.reduceNeg, ha1, List.map_cons]), (by show 3 ≤ sizeLine; decide), fun t nt => k t _ (s1.free nt) upd_same (s1.trans (upd_new nt))⟩⟩
              | false =>
                have ey : outTail [y, n, d] = none := if_neg (by rw [hd]; simp)
                rw [ey] at k
                exact ⟨false, rfl, iteF (k H1 s1)⟩
            | false =>
              have ey : outTail [y, n, d] = none := if_neg (by rw [hn]; simp)
              rw [ey] at k
              exact iteF (iteF (k H1 s1))
          · have ey : outTail [y, n, d] = none := if_neg (fun z => hy z.1)
            rw [ey] at k
            refine ite_no (decide_eq_false hy) (iteF ?_)
            exact k H (Same.refl _)
        | y :: n :: d :: q :: r, ha, hw, k =>
          refine ite_no (len_no (by simp; omega)) (iteF ?_)
          refine ⟨decide (V.int (List.map V.str (x :: y :: n :: d :: q :: r)).length = .int 4), (by simp only [tSeq, tNext, tIfS, tRet, tRetN, tDrop, tAsg, gName, gTup, gCons, gNil, gSub, tTest, tOp, tUn, tVar, tC, tB, tInC, tAnd, tOr, tNot, tAndV, tOrV, tNotV, tIf, tCall, tCons, tNil, tTup, tLst, tCut, rI0, rI, rU, rEq, rNe, rIxM, rSetL, scal_ii, scal_ss, scal_bb, scal_nn, scal_is, scal_si, scal_sn, scal_ns, flat_i, flat_s, flat_b, flat_n, List.all_cons, List.all_nil, Bool.and_true, Bool.true_and, true_and, and_true, ex_get, ex_int, ex_str, ex_bl, ex_ref, ex_int2, ex_str2, ex_ri, dec_true, at0, at1, at2, at3, at4, at5, at6, at7, List.getElem?_cons_zero, List.getElem?_cons_succ, List.set_cons_zero, List.set_cons_succ, List.length_cons, List.length_nil, Nat.reduceAdd, le_line, Nat.reduceLeDiff, upd_same, Bool.false_eq_true, if_false, if_true, ite_true, ite_false, List.cons_append, List.nil_append, List.append_nil, rSetM, ix30, ix31, ix32, upd_upd, ex_some, seqAt, tEv, tEvT, evVar, evC, ev2, ev1, evAnd, evOr, evIx, evCons, evNil, evCall, evLen, lenAt, fI_ii, kLt, kLe, kGt, kGe, kAdd, kSub, fEq, fNe, fMod_lit, fIn_s, fIn_i, fAnd_bb, fOr_bb, fNot_b, fIsN_n, fNotN_n, ex_sbl, ex_cons, Int.reduceLT, spP, decide_true, decide_false, Bool.not_true, Bool.not_false, Bool.and_false, Bool.false_and, Bool.or_true, Bool.true_or, Bool.or_false, Bool.false_or, reduceCtorEq, false_and, and_false, fDiv_lit, fNeg_i, Int.reduceNeg, ha, List.map_cons]), ?_⟩
          refine ite_no (len_no (by simp; omega)) (iteF ?_)
          exact k H (Same.refl _)
      · have ex : outOf (x :: r) = none := if_neg hx
        rw [ex] at k
        rw [decide_eq_false hx]
        exact iteT (k H (Same.refl _))
end
end My

set_option Elab.async false
set_option linter.all false
set_option maxRecDepth 100000
set_option maxHeartbeats 4000000
namespace My
open PySem L2
/-! ### ball_of_words, entry_of_names, entry_of_words -/
structure BallW where
  kind : Str
  runs : Int
  rope : Bool
  out : Str × Str × Str
def BallW.vals (b : BallW) : List V := [.str "ball", .str b.kind, .int b.runs, .bl b.rope, .str b.out.1, .str b.out.2.1, .str b.out.2.2]
def ropeB (r : List Str) : Bool := match r with
  | x :: _ => decide (V.str x = .str "rope")
  | [] => false
def ballOf (ws : List Str) : Option BallW := match ws with
  | k :: n :: r => if inV (.str k) (kindL.map V.str) = true ∧ okN n = true ∧ valN n ≤ 9 then (outOf (if ropeB r = true then r.drop 1 else r)).map fun o => ⟨k, valN n, ropeB r, o⟩ else none
  | _ => none
def ToldV (o : Option (List V)) (H : Hp) (Q : VK) : Prop := match o with
  | none => ∀ H', Same H H' → Q .non H'
  | some xs => ∀ t H', H t = none → H' t = some (.tup xs) → Same H H' → Q (.ref t) H'
def spBallw : Sp := fun vs H Q _ => ∃ (a : Addr) (ws : List Str), vs = [.ref a] ∧ H a = some (.lst (ws.map V.str)) ∧ ws.length ≤ 1000 ∧ (∀ x ∈ ws, x.length ≤ 1000) ∧ ToldV ((ballOf ws).map BallW.vals) H Q
theorem cut_from (xs : List V) (k : Nat) : cutV xs (some (k : Int)) none = xs.drop k := by
  unfold cutV
  rw [HT.sIx_nat, HT.sIx_none, List.take_of_length_le (by rw [List.length_drop]; exact Nat.le_refl _)]
  by_cases h : k ≤ xs.length
  · rw [Nat.min_eq_left h]
  · rw [Nat.min_eq_right (by omega), List.drop_length, List.drop_eq_nil_of_le (by omega)]
theorem cut_23 (x y : V) (r : List V) : cutV (x :: y :: r) (some 2) (some 3) = r.take 1 := by
  unfold cutV
  have a := HT.sIx_nat (x :: y :: r).length 0 2
  have b := HT.sIx_nat (x :: y :: r).length (x :: y :: r).length 3
  rw [show (some 2 : Option Int) = some ((2 : Nat) : Int) from rfl, show (some 3 : Option Int) = some ((3 : Nat) : Int) from rfl, a, b]
  cases r with
  | nil => rfl
  | cons z r =>
    have h1 : min 2 (x :: y :: z :: r).length = 2 := by simp
    have h2 : min 3 (x :: y :: z :: r).length = 3 := by simp
    rw [h1, h2]
    rfl
theorem cut_2 (x y : V) (r : List V) : cutV (x :: y :: r) (some 2) none = r := cut_from _ 2
theorem cut_3 (x y z : V) (r : List V) : cutV (x :: y :: z :: r) (some 3) none = r := cut_from _ 3
theorem cut_1 (x : V) (r : List V) : cutV (x :: r) (some 1) none = r := cut_from _ 1
theorem eqL_of {K : PySem.W.Frag} {H : Hp} {Q : VK} {p q : Addr} {xs ys : List V} {b : Bool} (hp : SqL K H p xs) (hq : SqL K H q ys) (fx : xs.all flatV = true) (fy : ys.all flatV = true) (hb : (decide (xs.length = ys.length) && (xs.zip ys).all fun z => eqV z.1 z.2) = b) (k : Q (.bl b) H) : rEqL K false (.ref p) (.ref q) H Q :=
  ⟨p, q, xs, ys, rfl, rfl, hp, hq, fx, fy, by subst hb; exact k⟩
theorem rope_eq (r : List Str) : (decide (((r.map V.str).take 1).length = [V.str "rope"].length) && (((r.map V.str).take 1).zip [V.str "rope"]).all fun z => eqV z.1 z.2) = ropeB r := by
  cases r with
  | nil => rfl
  | cons x r =>
    show (eqV (.str x) (.str "rope") && true) = decide (V.str x = .str "rope")
    rw [Bool.and_true, Bool.eq_iff_iff, decide_eq_true_iff]
    show (x == Str.ofString "rope") = true ↔ _
    rw [beq_iff_eq]
    exact ⟨fun z => by rw [z], fun z => by injection z⟩
theorem rope_arg {K : PySem.W.Frag} {C : VK} {a : Addr} {x n : Str} {r : List Str} {σ : St} {H : Hp} (h0 : σ[0]? = some (some (.ref a))) (ha : H a = some (.lst ((x :: n :: r).map V.str))) (h : ∀ p, H p = none → C (.ref p) (upd H p (.lst ((if ropeB r = true then r.drop 1 else r).map V.str)))) :
    if ropeB r = true then tSl (rSlL K) (tVar 0) (tPart (tC (.int 3))) tNoPart σ H C else tSl (rSlL K) (tVar 0) (tPart (tC (.int 2))) tNoPart σ H C := by
  cases hb : ropeB r with
  | false =>
    rw [hb] at h
    refine iteF ⟨_, h0, _, rfl, a, _, rfl, SqL.of ha, fun p np => ?_⟩
    have := h p np
    rw [show cutV (List.map V.str (x :: n :: r)) (some 2) none = r.map V.str from cut_2 _ _ _]
    exact this
  | true =>
    rw [hb] at h
    cases r with
    | nil => cases hb
    | cons z r =>
      refine iteT ⟨_, h0, _, rfl, a, _, rfl, SqL.of ha, fun p np => ?_⟩
      have := h p np
      rw [show cutV (List.map V.str (x :: n :: z :: r)) (some 3) none = r.map V.str from cut_3 _ _ _ _]
      exact this
section
variable {P : Program} {w : World} {K : PySem.W.Frag} {mg : Str → Option Value} {base : Heap} {e : Ext}
theorem sc_ballw : FnScope ["words", "runs", "rope", "out"] ["words"] (defScope s_ballw) := ⟨rfl, rfl, rfl, by decide +kernel, rfl, by decide +kernel, by decide +kernel⟩
theorem ok_ballw {f f_isname f_made f_numin f_outw : Addr} {fd fd_isname fd_made fd_numin fd_outw : FuncData} (F : Fun K "ball_of_words" "ball_of_words" s_ballw f fd) (T : Txt K mg e) (D_isname : Def K mg "is_name" s_isname ["word"] f_isname fd_isname) (D_made : Def K mg "made_of" s_made ["word", "signs", "most"] f_made fd_made)
    (D_numin : Def K mg "number_in" s_numin ["word"] f_numin fd_numin) (D_outw : Def K mg "out_of_words" s_outw ["words"] f_outw fd_outw) : FnOk P w K mg base CX0 4 f fd ["words"] spBallw := by
  have G_numin : FnOk P w K mg base CX0 2 f_numin fd_numin ["word"] spNumin := ok_numin D_numin.F T D_made
  have G_outw : FnOk P w K mg base CX0 3 f_outw fd_outw ["words"] spOut := ok_outw D_outw.F T D_isname D_made
  refine F.ok sc_ballw (fun vs H Q E h => ?_) (fun cdv A outer s H vs Q E hr h => ?_)
  · obtain ⟨a, ws, rfl, _⟩ := h
    rfl
  · obtain ⟨a, ws, rfl, ha, hl, hw, k⟩ := h
    have hr_numin := hr.mono (by decide : 2 ≤ 3)
    have hr_outw := hr.mono (by decide : 3 ≤ 3)
    have hV := hr.units0
    refine ⟨_, (pss_cons (ps_if (PW.pt (pw_or (pt_pp (ptp_lt (pp_len rfl T.n_len PySem.boot_len (ppa_cons (pp_var 0) ppa_nil)) (pp_c pe_int))) (pw_or1 (pt_cmpR op_notIn_seq (pe_pp (pp_ix (pp_var 0) (pp_c pe_int) (fun _ _ => rfl))) (pe_glob (v := .ref _) rfl T.g_KINDS rfl) (by with_unfolding_all rfl)))))
        (pss_one (ps_ret pe_non))
        pss_nil)
      (pss_cons (ps_set (i := 1) sc_ballw.nd rfl (Or.inl rfl) (pe_call G_numin hr_numin rfl D_numin.m D_numin.F.kp D_numin.b .nil pass0 (pa_cons (pe_pp (pp_ix (pp_var 0) (pp_c pe_int) (fun _ _ => rfl))) pa_nil)))
      (pss_cons (ps_if (pt_pp (PTW.t (ptw_or (ptp_isN (pp_var 1) (pp_c pe_non)) (ptw_or1 (ptp_gt (pp_var 1) (pp_c (pe_glob (v := .int _) rfl T.g_MOST_RUNS ⟨_, rfl⟩)))))))
        (pss_one (ps_ret pe_non))
        pss_nil)
      (pss_cons (ps_set (i := 2) sc_ballw.nd rfl (Or.inl rfl) (pe_cmpR (op_eqL hV) (pe_slice sl_list (pv 0) (po_some pe_int) (po_some pe_int)) (pe_lst (pa_consK pe_str pa_nil)) (nomark _)))
      (pss_cons (ps_set (i := 3) sc_ballw.nd rfl (Or.inl rfl) (pe_call G_outw hr_outw rfl D_outw.m D_outw.F.kp D_outw.b .nil pass0 (pa_cons (pe_ifExp (pt_pp (ptp_val (pp_var 2))) (pe_slice sl_list (pv 0) (po_some pe_int) po_none) (pe_slice sl_list (pv 0) (po_some pe_int) po_none)) pa_nil)))
      (pss_cons (ps_if (pt_pp (ptp_isN (pp_var 3) (pp_c pe_non)))
        (pss_one (ps_ret pe_non))
        pss_nil)
      (pss_one (ps_ret (pe_op op_catT (pe_tup (pa_consK pe_str (pa_cons (pe_pp (pp_ix (pp_var 0) (pp_c pe_int) (fun _ _ => rfl))) (pa_cons (pv 1) (pa_cons (pv 2) pa_nil))))) (pv 3)))))))))), ?_⟩
    change (_ : Ends → St → Hp → Prop) _ [some (.ref a), none, none, none] H
    refine ⟨decide (((ws.map V.str).length : Int) < 2), (by simp only [tSeq, tNext, tIfS, tRet, tRetN, tDrop, tAsg, gName, gTup, gCons, gNil, gSub, tTest, tOp, tUn, tVar, tC, tB, tInC, tAnd, tOr, tNot, tAndV, tOrV, tNotV, tIf, tCall, tCons, tNil, tTup, tLst, tCut, rI0, rI, rU, rEq, rNe, rIxM, rSetL, scal_ii, scal_ss, scal_bb, scal_nn, scal_is, scal_si, scal_sn, scal_ns, flat_i, flat_s, flat_b, flat_n, List.all_cons, List.all_nil, Bool.and_true, Bool.true_and, true_and, and_true, ex_get, ex_int, ex_str, ex_bl, ex_ref, ex_int2, ex_str2, ex_ri, dec_true, at0, at1, at2, at3, at4, at5, at6, at7, List.getElem?_cons_zero, List.getElem?_cons_succ, List.set_cons_zero, List.set_cons_succ, List.length_cons, List.length_nil, Nat.reduceAdd, le_line, Nat.reduceLeDiff, upd_same, Bool.false_eq_true, if_false, if_true, ite_true, ite_false, List.cons_append, List.nil_append, List.append_nil, rSetM, ix30, ix31, ix32, upd_upd, ex_some, seqAt, tEv, tEvT, evVar, evC, ev2, ev1, evAnd, evOr, evIx, evCons, evNil, evCall, evLen, lenAt, fI_ii, kLt, kLe, kGt, kGe, kAdd, kSub, fEq, fNe, fMod_lit, fIn_s, fIn_i, fAnd_bb, fOr_bb, fNot_b, fIsN_n, fNotN_n, ex_sbl, ex_cons, Int.reduceLT, spP, decide_true, decide_false, Bool.not_true, Bool.not_false, Bool.and_false, Bool.false_and, Bool.or_true, Bool.true_or, Bool.or_false, Bool.false_or, reduceCtorEq, false_and, and_false, fDiv_lit, fNeg_i, Int.reduceNeg, ha]), ?_⟩
    match ws, ha, hl, hw, k with
    | [], ha, hl, hw, k => exact iteT (iteT (k H (Same.refl _)))
    | [_], ha, hl, hw, k => exact iteT (iteT (k H (Same.refl _)))
    | x :: n :: r, ha, hl, hw, k =>
      refine ite_no (decide_eq_false (by simp; omega)) ?_
      refine ⟨.str x, (by simp only [tSeq, tNext, tIfS, tRet, tRetN, tDrop, tAsg, gName, gTup, gCons, gNil, gSub, tTest, tOp, tUn, tVar, tC, tB, tInC, tAnd, tOr, tNot, tAndV, tOrV, tNotV, tIf, tCall, tCons, tNil, tTup, tLst, tCut, rI0, rI, rU, rEq, rNe, rIxM, rSetL, scal_ii, scal_ss, scal_bb, scal_nn, scal_is, scal_si, scal_sn, scal_ns, flat_i, flat_s, flat_b, flat_n, List.all_cons, List.all_nil, Bool.and_true, Bool.true_and, true_and, and_true, ex_get, ex_int, ex_str, ex_bl, ex_ref, ex_int2, ex_str2, ex_ri, dec_true, at0, at1, at2, at3, at4, at5, at6, at7, List.getElem?_cons_zero, List.getElem?_cons_succ, List.set_cons_zero, List.set_cons_succ, List.length_cons, List.length_nil, Nat.reduceAdd, le_line, Nat.reduceLeDiff, upd_same, Bool.false_eq_true, if_false, if_true, ite_true, ite_false, List.cons_append, List.nil_append, List.append_nil, rSetM, ix30, ix31, ix32, upd_upd, ex_some, seqAt, tEv, tEvT, evVar, evC, ev2, ev1, evAnd, evOr, evIx, evCons, evNil, evCall, evLen, lenAt, fI_ii, kLt, kLe, kGt, kGe, kAdd, kSub, fEq, fNe, fMod_lit, fIn_s, fIn_i, fAnd_bb, fOr_bb, fNot_b, fIsN_n, fNotN_n, ex_sbl, ex_cons, Int.reduceLT, spP, decide_true, decide_false, Bool.not_true, Bool.not_false, Bool.and_false, Bool.false_and, Bool.or_true, Bool.true_or, Bool.or_false, Bool.false_or, reduceCtorEq, false_and, and_false, fDiv_lit, fNeg_i, Int.reduceNeg, ha, List.map_cons]), e.aI, _, rfl, .inr (T.t_KINDS _), rfl, by decide +kernel, ?_⟩
      cases hx : inV (.str x) (kindL.map V.str) with
      | false =>
        have ek : ballOf (x :: n :: r) = none := if_neg (by rw [hx]; simp)
        rw [ek] at k
        exact ⟨true, rfl, iteT (k H (Same.refl _))⟩
      | true =>
        refine ⟨false, rfl, iteF ?_⟩
        refine ⟨.str n, (by simp only [tSeq, tNext, tIfS, tRet, tRetN, tDrop, tAsg, gName, gTup, gCons, gNil, gSub, tTest, tOp, tUn, tVar, tC, tB, tInC, tAnd, tOr, tNot, tAndV, tOrV, tNotV, tIf, tCall, tCons, tNil, tTup, tLst, tCut, rI0, rI, rU, rEq, rNe, rIxM, rSetL, scal_ii, scal_ss, scal_bb, scal_nn, scal_is, scal_si, scal_sn, scal_ns, flat_i, flat_s, flat_b, flat_n, List.all_cons, List.all_nil, Bool.and_true, Bool.true_and, true_and, and_true, ex_get, ex_int, ex_str, ex_bl, ex_ref, ex_int2, ex_str2, ex_ri, dec_true, at0, at1, at2, at3, at4, at5, at6, at7, List.getElem?_cons_zero, List.getElem?_cons_succ, List.set_cons_zero, List.set_cons_succ, List.length_cons, List.length_nil, Nat.reduceAdd, le_line, Nat.reduceLeDiff, upd_same, Bool.false_eq_true, if_false, if_true, ite_true, ite_false, List.cons_append, List.nil_append, List.append_nil, rSetM, ix30, ix31, ix32, upd_upd, ex_some, seqAt, tEv, tEvT, evVar, evC, ev2, ev1, evAnd, evOr, evIx, evCons, evNil, evCall, evLen, lenAt, fI_ii, kLt, kLe, kGt, kGe, kAdd, kSub, fEq, fNe, fMod_lit, fIn_s, fIn_i, fAnd_bb, fOr_bb, fNot_b, fIsN_n, fNotN_n, ex_sbl, ex_cons, Int.reduceLT, spP, decide_true, decide_false, Bool.not_true, Bool.not_false, Bool.and_false, Bool.false_and, Bool.or_true, Bool.true_or, Bool.or_false, Bool.false_or, reduceCtorEq, false_and, and_false, fDiv_lit, fNeg_i, Int.reduceNeg, ha, List.map_cons]), n, rfl, hw n (by simp), fun H1 s1 => ?_⟩
        have ha1 := s1 _ _ ha
        cases hn : okN n with
        | false =>
          have ek : ballOf (x :: n :: r) = none := if_neg (by rw [hn]; simp)
          rw [ek] at k
          refine ⟨true, (by simp only [tSeq, tNext, tIfS, tRet, tRetN, tDrop, tAsg, gName, gTup, gCons, gNil, gSub, tTest, tOp, tUn, tVar, tC, tB, tInC, tAnd, tOr, tNot, tAndV, tOrV, tNotV, tIf, tCall, tCons, tNil, tTup, tLst, tCut, rI0, rI, rU, rEq, rNe, rIxM, rSetL, scal_ii, scal_ss, scal_bb, scal_nn, scal_is, scal_si, scal_sn, scal_ns, flat_i, flat_s, flat_b, flat_n, List.all_cons, List.all_nil, Bool.and_true, Bool.true_and, true_and, and_true, ex_get, ex_int, ex_str, ex_bl, ex_ref, ex_int2, ex_str2, ex_ri, dec_true, at0, at1, at2, at3, at4, at5, at6, at7, List.getElem?_cons_zero, List.getElem?_cons_succ, List.set_cons_zero, List.set_cons_succ, List.length_cons, List.length_nil, Nat.reduceAdd, le_line, Nat.reduceLeDiff, upd_same, Bool.false_eq_true, if_false, if_true, ite_true, ite_false, List.cons_append, List.nil_append, List.append_nil, rSetM, ix30, ix31, ix32, upd_upd, ex_some, seqAt, tEv, tEvT, evVar, evC, ev2, ev1, evAnd, evOr, evIx, evCons, evNil, evCall, evLen, lenAt, fI_ii, kLt, kLe, kGt, kGe, kAdd, kSub, fEq, fNe, fMod_lit, fIn_s, fIn_i, fAnd_bb, fOr_bb, fNot_b, fIsN_n, fNotN_n, ex_sbl, ex_cons, Int.reduceLT, spP, decide_true, decide_false, Bool.not_true, Bool.not_false, Bool.and_false, Bool.false_and, Bool.or_true, Bool.true_or, Bool.or_false, Bool.false_or, reduceCtorEq, false_and, and_false, fDiv_lit, fNeg_i, Int.reduceNeg]; rfl), iteT (k H1 s1)⟩
        | true =>
          refine ⟨decide (valN n > 9), (by simp only [tSeq, tNext, tIfS, tRet, tRetN, tDrop, tAsg, gName, gTup, gCons, gNil, gSub, tTest, tOp, tUn, tVar, tC, tB, tInC, tAnd, tOr, tNot, tAndV, tOrV, tNotV, tIf, tCall, tCons, tNil, tTup, tLst, tCut, rI0, rI, rU, rEq, rNe, rIxM, rSetL, scal_ii, scal_ss, scal_bb, scal_nn, scal_is, scal_si, scal_sn, scal_ns, flat_i, flat_s, flat_b, flat_n, List.all_cons, List.all_nil, Bool.and_true, Bool.true_and, true_and, and_true, ex_get, ex_int, ex_str, ex_bl, ex_ref, ex_int2, ex_str2, ex_ri, dec_true, at0, at1, at2, at3, at4, at5, at6, at7, List.getElem?_cons_zero, List.getElem?_cons_succ, List.set_cons_zero, List.set_cons_succ, List.length_cons, List.length_nil, Nat.reduceAdd, le_line, Nat.reduceLeDiff, upd_same, Bool.false_eq_true, if_false, if_true, ite_true, ite_false, List.cons_append, List.nil_append, List.append_nil, rSetM, ix30, ix31, ix32, upd_upd, ex_some, seqAt, tEv, tEvT, evVar, evC, ev2, ev1, evAnd, evOr, evIx, evCons, evNil, evCall, evLen, lenAt, fI_ii, kLt, kLe, kGt, kGe, kAdd, kSub, fEq, fNe, fMod_lit, fIn_s, fIn_i, fAnd_bb, fOr_bb, fNot_b, fIsN_n, fNotN_n, ex_sbl, ex_cons, Int.reduceLT, spP, decide_true, decide_false, Bool.not_true, Bool.not_false, Bool.and_false, Bool.false_and, Bool.or_true, Bool.true_or, Bool.or_false, Bool.false_or, reduceCtorEq, false_and, and_false, fDiv_lit, fNeg_i, Int.reduceNeg]), ?_⟩
          by_cases h9 : valN n ≤ 9
          · refine ite_no (decide_eq_false (by omega)) ?_
            have ek : ballOf (x :: n :: r) = (outOf (if ropeB r = true then r.drop 1 else r)).map fun o => ⟨x, valN n, ropeB r, o⟩ := if_pos ⟨hx, hn, h9⟩
            rw [ek] at k
            refine ⟨_, rfl, _, rfl, _, rfl, a, _, rfl, SqL.of ha1, fun p np => ?_⟩
            refine ⟨(by show 1 ≤ sizeLine; decide), fun p2 np2 => ?_⟩
            rw [show cutV (List.map V.str (x :: n :: r)) (some 2) (some 3) = (r.map V.str).take 1 from cut_23 _ _ _] at np2 ⊢
            refine eqL_of (SqL.of (upd_old np2 upd_same)) (SqL.of upd_same) ?_ rfl (rope_eq r) ?_
            · rw [List.all_eq_true]
              intro v hv
              obtain ⟨z, _, rfl⟩ := List.mem_map.mp (List.mem_of_mem_take hv)
              rfl
            generalize hG : upd (upd H1 p (.lst ((r.map V.str).take 1))) p2 (.lst [.str "rope"]) = H2
            have s2 : Same H H2 := by rw [← hG]; exact s1.trans ((upd_new np).trans (upd_new np2))
            have ha2 := s2 _ _ ha
            refine ⟨ropeB r, (by simp only [tSeq, tNext, tIfS, tRet, tRetN, tDrop, tAsg, gName, gTup, gCons, gNil, gSub, tTest, tOp, tUn, tVar, tC, tB, tInC, tAnd, tOr, tNot, tAndV, tOrV, tNotV, tIf, tCall, tCons, tNil, tTup, tLst, tCut, rI0, rI, rU, rEq, rNe, rIxM, rSetL, scal_ii, scal_ss, scal_bb, scal_nn, scal_is, scal_si, scal_sn, scal_ns, flat_i, flat_s, flat_b, flat_n, List.all_cons, List.all_nil, Bool.and_true, Bool.true_and, true_and, and_true, ex_get, ex_int, ex_str, ex_bl, ex_ref, ex_int2, ex_str2, ex_ri, dec_true, at0, at1, at2, at3, at4, at5, at6, at7, List.getElem?_cons_zero, List.getElem?_cons_succ, List.set_cons_zero, List.set_cons_succ, List.length_cons, List.length_nil, Nat.reduceAdd, le_line, Nat.reduceLeDiff, upd_same, Bool.false_eq_true, if_false, if_true, ite_true, ite_false, List.cons_append, List.nil_append, List.append_nil, rSetM, ix30, ix31, ix32, upd_upd, ex_some, seqAt, tEv, tEvT, evVar, evC, ev2, ev1, evAnd, evOr, evIx, evCons, evNil, evCall, evLen, lenAt, fI_ii, kLt, kLe, kGt, kGe, kAdd, kSub, fEq, fNe, fMod_lit, fIn_s, fIn_i, fAnd_bb, fOr_bb, fNot_b, fIsN_n, fNotN_n, ex_sbl, ex_cons, Int.reduceLT, spP, decide_true, decide_false, Bool.not_true, Bool.not_false, Bool.and_false, Bool.false_and, Bool.or_true, Bool.true_or, Bool.or_false, Bool.false_or, reduceCtorEq, false_and, and_false, fDiv_lit, fNeg_i, Int.reduceNeg]), rope_arg rfl ha2 fun p3 np3 => ?_⟩
            generalize hR : (if ropeB r = true then r.drop 1 else r) = r3 at k np3 ⊢
            have hw3 : ∀ z ∈ r3, z.length ≤ 1000 := fun z hz => hw z (by
              rw [← hR] at hz
              split at hz
              · exact List.mem_cons_of_mem _ (List.mem_cons_of_mem _ (List.mem_of_mem_drop hz))
              · exact List.mem_cons_of_mem _ (List.mem_cons_of_mem _ hz))
            refine ⟨p3, r3, rfl, upd_same, hw3, ?_⟩
            have s3 := s2.trans (upd_new (o := .lst (r3.map V.str)) np3)
            generalize outOf r3 = o at k ⊢
            cases o with
            | none =>
              intro H' s'
              exact ⟨true, (by simp only [tSeq, tNext, tIfS, tRet, tRetN, tDrop, tAsg, gName, gTup, gCons, gNil, gSub, tTest, tOp, tUn, tVar, tC, tB, tInC, tAnd, tOr, tNot, tAndV, tOrV, tNotV, tIf, tCall, tCons, tNil, tTup, tLst, tCut, rI0, rI, rU, rEq, rNe, rIxM, rSetL, scal_ii, scal_ss, scal_bb, scal_nn, scal_is, scal_si, scal_sn, scal_ns, flat_i, flat_s, flat_b, flat_n, List.all_cons, List.all_nil, Bool.and_true, Bool.true_and, true_and, and_true, ex_get, ex_int, ex_str, ex_bl, ex_ref, ex_int2, ex_str2, ex_ri, dec_true, at0, at1, at2, at3, at4, at5, at6, at7, List.getElem?_cons_zero, List.getElem?_cons_succ, List.set_cons_zero, List.set_cons_succ, List.length_cons, List.length_nil, Nat.reduceAdd, le_line, Nat.reduceLeDiff, upd_same, Bool.false_eq_true, if_false, if_true, ite_true, ite_false, List.cons_append, List.nil_append, List.append_nil, rSetM, ix30, ix31, ix32, upd_upd, ex_some, seqAt, tEv, tEvT, evVar, evC, ev2, ev1, evAnd, evOr, evIx, evCons, evNil, evCall, evLen, lenAt, fI_ii, kLt, kLe, kGt, kGe, kAdd, kSub, fEq, fNe, fMod_lit, fIn_s, fIn_i, fAnd_bb, fOr_bb, fNot_b, fIsN_n, fNotN_n, ex_sbl, ex_cons, Int.reduceLT, spP, decide_true, decide_false, Bool.not_true, Bool.not_false, Bool.and_false, Bool.false_and, Bool.or_true, Bool.true_or, Bool.or_false, Bool.false_or, reduceCtorEq, false_and, and_false, fDiv_lit, fNeg_i, Int.reduceNeg]), iteT (k H' (s3.trans s'))⟩
            | some o =>
              intro t H' nt ht s'
              have s4 := s3.trans s'
              have ha4 := s4 _ _ ha
              refine ⟨false, (by simp only [tSeq, tNext, tIfS, tRet, tRetN, tDrop, tAsg, gName, gTup, gCons, gNil, gSub, tTest, tOp, tUn, tVar, tC, tB, tInC, tAnd, tOr, tNot, tAndV, tOrV, tNotV, tIf, tCall, tCons, tNil, tTup, tLst, tCut, rI0, rI, rU, rEq, rNe, rIxM, rSetL, scal_ii, scal_ss, scal_bb, scal_nn, scal_is, scal_si, scal_sn, scal_ns, flat_i, flat_s, flat_b, flat_n, List.all_cons, List.all_nil, Bool.and_true, Bool.true_and, true_and, and_true, ex_get, ex_int, ex_str, ex_bl, ex_ref, ex_int2, ex_str2, ex_ri, dec_true, at0, at1, at2, at3, at4, at5, at6, at7, List.getElem?_cons_zero, List.getElem?_cons_succ, List.set_cons_zero, List.set_cons_succ, List.length_cons, List.length_nil, Nat.reduceAdd, le_line, Nat.reduceLeDiff, upd_same, Bool.false_eq_true, if_false, if_true, ite_true, ite_false, List.cons_append, List.nil_append, List.append_nil, rSetM, ix30, ix31, ix32, upd_upd, ex_some, seqAt, tEv, tEvT, evVar, evC, ev2, ev1, evAnd, evOr, evIx, evCons, evNil, evCall, evLen, lenAt, fI_ii, kLt, kLe, kGt, kGe, kAdd, kSub, fEq, fNe, fMod_lit, fIn_s, fIn_i, fAnd_bb, fOr_bb, fNot_b, fIsN_n, fNotN_n, ex_sbl, ex_cons, Int.reduceLT, spP, decide_true, decide_false, Bool.not_true, Bool.not_false, Bool.and_false, Bool.false_and, Bool.or_true, Bool.true_or, Bool.or_false, Bool.false_or, reduceCtorEq, false_and, and_false, fDiv_lit, fNeg_i, Int.reduceNeg]), iteF ?_⟩
              refine ⟨.str x, (by simp only [tSeq, tNext, tIfS, tRet, tRetN, tDrop, tAsg, gName, gTup, gCons, gNil, gSub, tTest, tOp, tUn, tVar, tC, tB, tInC, tAnd, tOr, tNot, tAndV, tOrV, tNotV, tIf, tCall, tCons, tNil, tTup, tLst, tCut, rI0, rI, rU, rEq, rNe, rIxM, rSetL, scal_ii, scal_ss, scal_bb, scal_nn, scal_is, scal_si, scal_sn, scal_ns, flat_i, flat_s, flat_b, flat_n, List.all_cons, List.all_nil, Bool.and_true, Bool.true_and, true_and, and_true, ex_get, ex_int, ex_str, ex_bl, ex_ref, ex_int2, ex_str2, ex_ri, dec_true, at0, at1, at2, at3, at4, at5, at6, at7, List.getElem?_cons_zero, List.getElem?_cons_succ, List.set_cons_zero, List.set_cons_succ, List.length_cons, List.length_nil, Nat.reduceAdd, le_line, Nat.reduceLeDiff, upd_same, Bool.false_eq_true, if_false, if_true, ite_true, ite_false, List.cons_append, List.nil_append, List.append_nil, rSetM, ix30, ix31, ix32, upd_upd, ex_some, seqAt, tEv, tEvT, evVar, evC, ev2, ev1, evAnd, evOr, evIx, evCons, evNil, evCall, evLen, lenAt, fI_ii, kLt, kLe, kGt, kGe, kAdd, kSub, fEq, fNe, fMod_lit, fIn_s, fIn_i, fAnd_bb, fOr_bb, fNot_b, fIsN_n, fNotN_n, ex_sbl, ex_cons, Int.reduceLT, spP, decide_true, decide_false, Bool.not_true, Bool.not_false, Bool.and_false, Bool.false_and, Bool.or_true, Bool.true_or, Bool.or_false, Bool.false_or, reduceCtorEq, false_and, and_false, fDiv_lit, fNeg_i, Int.reduceNeg, ha4, List.map_cons]), _, rfl, _, rfl, (by show 4 ≤ sizeLine; decide), fun t4 nt4 => ⟨_, rfl, t4, t, _, _, rfl, rfl, SqT.of upd_same, SqT.of (upd_old nt4 ht), by simp, Nat.le_trans (show 7 ≤ 100 by decide) (by decide), (fun z => by cases z), fun _ t5 nt5 => ?_⟩⟩
              exact k t5 _ ((s4.trans (upd_new nt4)).free nt5) upd_same (s4.trans ((upd_new nt4).trans (upd_new nt5)))
          · have ek : ballOf (x :: n :: r) = none := if_neg (fun z => h9 z.2.2)
            rw [ek] at k
            exact ite_yes (decide_eq_true (by omega)) (k H1 s1)
/-! entry_of_names -/
def nbK : List (Key × V) := [(.inr "start", .int 4), (.inr "in", .int 1), (.inr "bowl", .int 1), (.inr "hurt", .int 1), (.inr "swap", .int 2), (.inr "declare", .int 0), (.inr "follow", .int 0), (.inr "close", .int 0)]
def namesB (ws : List Str) : Bool := match ws with
  | x :: r => decide ((valV nbK (.inr x)).getD .non = .int (r.length : Nat)) && r.all nameB
  | [] => false
def spEnames : Sp := fun vs H Q _ => ∃ (a : Addr) (x : Str) (r : List Str), vs = [.ref a] ∧ H a = some (.lst ((x :: r).map V.str)) ∧ r.length ≤ 1000 ∧ (∀ y ∈ x :: r, y.length ≤ 1000) ∧ ToldV (if namesB (x :: r) = true then some ((x :: r).map V.str) else none) H Q
theorem nb_scal (x : Str) (n : Int) : scal ((valV nbK (.inr x)).getD .non) (.int n) = true := by
  have : ∀ p ∈ nbK, ∃ m, p.2 = .int m := by
    intro p hp
    simp only [nbK, List.mem_cons, List.not_mem_nil, or_false] at hp
    rcases hp with rfl | rfl | rfl | rfl | rfl | rfl | rfl | rfl <;> exact ⟨_, rfl⟩
  unfold valV
  cases e : nbK.find? fun kv => decide (kv.1 = Sum.inr x) with
  | none => rfl
  | some p =>
    obtain ⟨m, hm⟩ := this p (List.mem_of_find?_eq_some e)
    show scal p.2 _ = true
    rw [hm]
    rfl
theorem sc_enames : FnScope ["words", "names"] ["words"] (defScope s_enames) := ⟨rfl, rfl, rfl, by decide +kernel, rfl, by decide +kernel, by decide +kernel⟩
theorem ok_enames {f f_isname f_made : Addr} {fd fd_isname fd_made : FuncData} (F : Fun K "entry_of_names" "entry_of_names" s_enames f fd) (T : Txt K mg e) (hN : DictK K w e.aN nbK) (D_isname : Def K mg "is_name" s_isname ["word"] f_isname fd_isname) (D_made : Def K mg "made_of" s_made ["word", "signs", "most"] f_made fd_made) : FnOk P w K mg base CX0 3 f fd ["words"] spEnames := by
  have G_isname : FnOk P w K mg base CX0 2 f_isname fd_isname ["word"] spName := ok_isname D_isname.F T D_made
  refine F.ok sc_enames (fun vs H Q E h => ?_) (fun cdv A outer s H vs Q E hr h => ?_)
  · obtain ⟨a, x, r, rfl, _⟩ := h
    rfl
  · obtain ⟨a, x, r, rfl, ha, hl, hw, k⟩ := h
    have hr_isname := hr.mono (by decide : 2 ≤ 2)
    refine ⟨_, (pss_cons (ps_set (i := 1) sc_enames.nd rfl (Or.inl rfl) (pe_slice sl_list (pv 0) (po_some pe_int) po_none))
      (pss_cons (ps_if (pt_cmpR op_ne (pe_dgetK hN (pe_glob (v := .ref _) rfl T.g_NAMES_BEHIND rfl) (pe_pp (pp_ix (pp_var 0) (pp_c pe_int) (fun _ _ => rfl))) ⟨rfl, rfl, rfl, rfl⟩) (pe_pp (pp_len rfl T.n_len PySem.boot_len (ppa_cons (pp_var 1) ppa_nil))) (nomark _))
        (pss_one (ps_ret pe_non))
        pss_nil)
      (pss_cons (ps_if (pt_not (pt_val (pe_callB (call_all rfl) rfl T.n_all PyProof.Rows.boot_all (pa_cons (pe_comp (F := []) (T := ["name"]) (fr := []) ⟨rfl, by decide +kernel, by decide +kernel, (by show ∀ y ∈ (_ : List (Str × NameKind)), y.2 = NameKind.free → (defScope s_enames).names.lookup y.1 = some NameKind.cell; decide +kernel), by decide +kernel, rfl⟩ rfl (pi_list (pv 1)) (fun _ _ _ _ _ => (pg_name (i := 0) (show (["name"] : List Str).Nodup by decide +kernel) rfl (Or.inl rfl))) (fun _ _ _ _ _ => pif_nil) (fun _ _ _ _ _ => (pe_call G_isname hr_isname rfl D_isname.m D_isname.F.kp D_isname.b .nil pass0 (pa_cons (pv 0) pa_nil)))) pa_nil))))
        (pss_one (ps_ret pe_non))
        pss_nil)
      (pss_one (ps_ret (pe_callTy call_tuple_of rfl T.n_tuple PyProof.Rows.boot_tuple (pa_cons (pv 0) pa_nil))))))), ?_⟩
    change (_ : Ends → St → Hp → Prop) _ [some (.ref a), none] H
    refine ⟨_, rfl, _, rfl, a, _, rfl, SqL.of ha, fun p np => ?_⟩
    rw [show cutV (List.map V.str (x :: r)) (some 1) none = r.map V.str from cut_1 _ _]
    have ha1 := upd_old (o := .lst (r.map V.str)) np ha
    refine ⟨.str x, (by simp only [tSeq, tNext, tIfS, tRet, tRetN, tDrop, tAsg, gName, gTup, gCons, gNil, gSub, tTest, tOp, tUn, tVar, tC, tB, tInC, tAnd, tOr, tNot, tAndV, tOrV, tNotV, tIf, tCall, tCons, tNil, tTup, tLst, tCut, rI0, rI, rU, rEq, rNe, rIxM, rSetL, scal_ii, scal_ss, scal_bb, scal_nn, scal_is, scal_si, scal_sn, scal_ns, flat_i, flat_s, flat_b, flat_n, List.all_cons, List.all_nil, Bool.and_true, Bool.true_and, true_and, and_true, ex_get, ex_int, ex_str, ex_bl, ex_ref, ex_int2, ex_str2, ex_ri, dec_true, at0, at1, at2, at3, at4, at5, at6, at7, List.getElem?_cons_zero, List.getElem?_cons_succ, List.set_cons_zero, List.set_cons_succ, List.length_cons, List.length_nil, Nat.reduceAdd, le_line, Nat.reduceLeDiff, upd_same, Bool.false_eq_true, if_false, if_true, ite_true, ite_false, List.cons_append, List.nil_append, List.append_nil, rSetM, ix30, ix31, ix32, upd_upd, ex_some, seqAt, tEv, tEvT, evVar, evC, ev2, ev1, evAnd, evOr, evIx, evCons, evNil, evCall, evLen, lenAt, fI_ii, kLt, kLe, kGt, kGe, kAdd, kSub, fEq, fNe, fMod_lit, fIn_s, fIn_i, fAnd_bb, fOr_bb, fNot_b, fIsN_n, fNotN_n, ex_sbl, ex_cons, Int.reduceLT, spP, decide_true, decide_false, Bool.not_true, Bool.not_false, Bool.and_false, Bool.false_and, Bool.or_true, Bool.true_or, Bool.or_false, Bool.false_or, reduceCtorEq, false_and, and_false, fDiv_lit, fNeg_i, Int.reduceNeg, ha1, List.map_cons]), .inr x, rfl, .int ((r.map V.str).length : Nat), (by simp only [tSeq, tNext, tIfS, tRet, tRetN, tDrop, tAsg, gName, gTup, gCons, gNil, gSub, tTest, tOp, tUn, tVar, tC, tB, tInC, tAnd, tOr, tNot, tAndV, tOrV, tNotV, tIf, tCall, tCons, tNil, tTup, tLst, tCut, rI0, rI, rU, rEq, rNe, rIxM, rSetL, scal_ii, scal_ss, scal_bb, scal_nn, scal_is, scal_si, scal_sn, scal_ns, flat_i, flat_s, flat_b, flat_n, List.all_cons, List.all_nil, Bool.and_true, Bool.true_and, true_and, and_true, ex_get, ex_int, ex_str, ex_bl, ex_ref, ex_int2, ex_str2, ex_ri, dec_true, at0, at1, at2, at3, at4, at5, at6, at7, List.getElem?_cons_zero, List.getElem?_cons_succ, List.set_cons_zero, List.set_cons_succ, List.length_cons, List.length_nil, Nat.reduceAdd, le_line, Nat.reduceLeDiff, upd_same, Bool.false_eq_true, if_false, if_true, ite_true, ite_false, List.cons_append, List.nil_append, List.append_nil, rSetM, ix30, ix31, ix32, upd_upd, ex_some, seqAt, tEv, tEvT, evVar, evC, ev2, ev1, evAnd, evOr, evIx, evCons, evNil, evCall, evLen, lenAt, fI_ii, kLt, kLe, kGt, kGe, kAdd, kSub, fEq, fNe, fMod_lit, fIn_s, fIn_i, fAnd_bb, fOr_bb, fNot_b, fIsN_n, fNotN_n, ex_sbl, ex_cons, Int.reduceLT, spP, decide_true, decide_false, Bool.not_true, Bool.not_false, Bool.and_false, Bool.false_and, Bool.or_true, Bool.true_or, Bool.or_false, Bool.false_or, reduceCtorEq, false_and, and_false, fDiv_lit, fNeg_i, Int.reduceNeg]), nb_scal x _, _, rfl, ?_⟩
    have s1 := upd_new (o := .lst (r.map V.str)) np
    have hp1 : upd H p (.lst (r.map V.str)) p = some (.lst (r.map V.str)) := upd_same
    generalize upd H p (.lst (r.map V.str)) = H1 at ha1 s1 hp1 ⊢
    rw [List.length_map]
    cases hc : decide ((valV nbK (.inr x)).getD .non = .int (r.length : Nat)) with
    | false =>
      have ek : namesB (x :: r) = false := by show (decide _ && _) = _; rw [hc]; rfl
      rw [ek] at k
      exact iteT (k H1 s1)
    | true =>
      have ek : namesB (x :: r) = r.all nameB := by show (decide _ && _) = _; rw [hc]; rfl
      rw [ek] at k
      refine iteF ?_
      refine ⟨_, rfl, p, rfl, ⟨_, SqL.of hp1⟩, fun D nD => ?_⟩
      refine comp_listH (K := K) (a := p) (ys := r.map V.str) (fun i σ zs H' => (∃ x1, σ = [x1]) ∧ H' D = some (.lst zs) ∧ zs = ((r.take i).map nameB).map V.bl ∧ i ≤ r.length ∧ Same H1 H') ?_ (fun i σ zs H' q => q.2.1) (fun i σ zs H' q => SqL.of (q.2.2.2.2 _ _ hp1)) ?_ ?_
      · exact ⟨⟨none, rfl⟩, upd_same, rfl, Nat.zero_le _, upd_new nD⟩
      · rintro i y σ zs H4 hy ⟨⟨x1, rfl⟩, hD, hz, hi, s4⟩
        obtain ⟨z, ez, rfl⟩ : ∃ z, r[i]? = some z ∧ V.str z = y := by
          rw [List.getElem?_map] at hy
          cases q : r[i]? with
          | none => rw [q] at hy; cases hy
          | some t => rw [q] at hy; exact ⟨t, rfl, Option.some.inj hy⟩
        have hir := (List.getElem?_eq_some_iff.mp ez).1
        refine ⟨_, rfl, z, rfl, hw z (List.mem_cons_of_mem _ (List.mem_of_getElem? ez)), fun H5 s5 => ⟨s5 _ _ hD, small1000 (by rw [hz]; simp; omega), ⟨_, rfl⟩, upd_same, ?_, hir, fun b o eb => ?_⟩⟩
        · rw [hz, List.take_add_one, ez, List.map_append, List.map_append]
          rfl
        · rw [upd_ne (ne_of_none eb nD)]
          exact s5 b o (s4 b o eb)
      · rintro σ zs H4 ⟨_, hD, hz, hi, s4⟩
        rw [List.length_map, List.take_length] at hz
        have s5 := s1.trans s4
        have ea : (r.map nameB).all id = r.all nameB := by rw [List.all_map]; rfl
        refine ⟨D, r.map nameB, rfl, by rw [hD, hz], _, rfl, ?_⟩
        rw [ea]
        cases hn : r.all nameB with
        | false =>
          rw [hn] at k
          exact iteT (k H4 s5)
        | true =>
          rw [hn] at k
          refine iteF ⟨_, rfl, a, _, rfl, .inl ⟨SqL.of (s5 _ _ ha), fun l nl => ?_⟩⟩
          exact k l _ (s5.free nl) upd_same (s5.trans (upd_new nl))
/-! entry_of_words -/
def entryOf (ws : List Str) : Option (List V) := match ballOf ws with
  | some b => some b.vals
  | none => if namesB ws = true then some (ws.map V.str) else none
def spEntryw : Sp := fun vs H Q _ => ∃ (a : Addr) (x : Str) (r : List Str), vs = [.ref a] ∧ H a = some (.lst ((x :: r).map V.str)) ∧ r.length ≤ 900 ∧ (∀ y ∈ x :: r, y.length ≤ 1000) ∧ ToldV (entryOf (x :: r)) H Q
theorem sc_entryw : FnScope ["words", "ball"] ["words"] (defScope s_entryw) := ⟨rfl, rfl, rfl, by decide +kernel, rfl, by decide +kernel, by decide +kernel⟩
theorem ok_entryw {f f_isname f_made f_numin f_outw f_ballw f_enames : Addr} {fd fd_isname fd_made fd_numin fd_outw fd_ballw fd_enames : FuncData} (F : Fun K "entry_of_words" "entry_of_words" s_entryw f fd) (T : Txt K mg e) (hN : DictK K w e.aN nbK) (D_isname : Def K mg "is_name" s_isname ["word"] f_isname fd_isname) (D_made : Def K mg "made_of" s_made ["word", "signs", "most"] f_made fd_made)
    (D_numin : Def K mg "number_in" s_numin ["word"] f_numin fd_numin) (D_outw : Def K mg "out_of_words" s_outw ["words"] f_outw fd_outw) (D_ballw : Def K mg "ball_of_words" s_ballw ["words"] f_ballw fd_ballw) (D_enames : Def K mg "entry_of_names" s_enames ["words"] f_enames fd_enames) : FnOk P w K mg base CX0 5 f fd ["words"] spEntryw := by
  have G_ballw : FnOk P w K mg base CX0 4 f_ballw fd_ballw ["words"] spBallw := ok_ballw D_ballw.F T D_isname D_made D_numin D_outw
  have G_enames : FnOk P w K mg base CX0 3 f_enames fd_enames ["words"] spEnames := ok_enames D_enames.F T hN D_isname D_made
  refine F.ok sc_entryw (fun vs H Q E h => ?_) (fun cdv A outer s H vs Q E hr h => ?_)
  · obtain ⟨a, x, r, rfl, _⟩ := h
    rfl
  · obtain ⟨a, x, r, rfl, ha, hl, hw, k⟩ := h
    have hr_ballw := hr.mono (by decide : 4 ≤ 4)
    have hr_enames := hr.mono (by decide : 3 ≤ 4)
    refine ⟨_, (pss_cons (ps_set (i := 1) sc_entryw.nd rfl (Or.inl rfl) (pe_call G_ballw hr_ballw rfl D_ballw.m D_ballw.F.kp D_ballw.b .nil pass0 (pa_cons (pv 0) pa_nil)))
      (pss_cons (ps_if (pt_pp (ptp_isN (pp_var 1) (pp_c pe_non)))
        (pss_one (ps_ret (pe_call G_enames hr_enames rfl D_enames.m D_enames.F.kp D_enames.b .nil pass0 (pa_cons (pv 0) pa_nil))))
        pss_nil)
      (pss_one (ps_ret (pv 1))))), ?_⟩
    change (_ : Ends → St → Hp → Prop) _ [some (.ref a), none] H
    refine ⟨_, rfl, a, x :: r, rfl, ha, by simp; omega, hw, ?_⟩
    unfold entryOf at k
    generalize ballOf (x :: r) = o at k ⊢
    cases o with
    | some b =>
      intro t H' nt ht s'
      refine ⟨false, (by simp only [tSeq, tNext, tIfS, tRet, tRetN, tDrop, tAsg, gName, gTup, gCons, gNil, gSub, tTest, tOp, tUn, tVar, tC, tB, tInC, tAnd, tOr, tNot, tAndV, tOrV, tNotV, tIf, tCall, tCons, tNil, tTup, tLst, tCut, rI0, rI, rU, rEq, rNe, rIxM, rSetL, scal_ii, scal_ss, scal_bb, scal_nn, scal_is, scal_si, scal_sn, scal_ns, flat_i, flat_s, flat_b, flat_n, List.all_cons, List.all_nil, Bool.and_true, Bool.true_and, true_and, and_true, ex_get, ex_int, ex_str, ex_bl, ex_ref, ex_int2, ex_str2, ex_ri, dec_true, at0, at1, at2, at3, at4, at5, at6, at7, List.getElem?_cons_zero, List.getElem?_cons_succ, List.set_cons_zero, List.set_cons_succ, List.length_cons, List.length_nil, Nat.reduceAdd, le_line, Nat.reduceLeDiff, upd_same, Bool.false_eq_true, if_false, if_true, ite_true, ite_false, List.cons_append, List.nil_append, List.append_nil, rSetM, ix30, ix31, ix32, upd_upd, ex_some, seqAt, tEv, tEvT, evVar, evC, ev2, ev1, evAnd, evOr, evIx, evCons, evNil, evCall, evLen, lenAt, fI_ii, kLt, kLe, kGt, kGe, kAdd, kSub, fEq, fNe, fMod_lit, fIn_s, fIn_i, fAnd_bb, fOr_bb, fNot_b, fIsN_n, fNotN_n, ex_sbl, ex_cons, Int.reduceLT, spP, decide_true, decide_false, Bool.not_true, Bool.not_false, Bool.and_false, Bool.false_and, Bool.or_true, Bool.true_or, Bool.or_false, Bool.false_or, reduceCtorEq, false_and, and_false, fDiv_lit, fNeg_i, Int.reduceNeg]), iteF ⟨_, rfl, k t H' nt ht s'⟩⟩
    | none =>
      intro H' s'
      refine ⟨true, (by simp only [tSeq, tNext, tIfS, tRet, tRetN, tDrop, tAsg, gName, gTup, gCons, gNil, gSub, tTest, tOp, tUn, tVar, tC, tB, tInC, tAnd, tOr, tNot, tAndV, tOrV, tNotV, tIf, tCall, tCons, tNil, tTup, tLst, tCut, rI0, rI, rU, rEq, rNe, rIxM, rSetL, scal_ii, scal_ss, scal_bb, scal_nn, scal_is, scal_si, scal_sn, scal_ns, flat_i, flat_s, flat_b, flat_n, List.all_cons, List.all_nil, Bool.and_true, Bool.true_and, true_and, and_true, ex_get, ex_int, ex_str, ex_bl, ex_ref, ex_int2, ex_str2, ex_ri, dec_true, at0, at1, at2, at3, at4, at5, at6, at7, List.getElem?_cons_zero, List.getElem?_cons_succ, List.set_cons_zero, List.set_cons_succ, List.length_cons, List.length_nil, Nat.reduceAdd, le_line, Nat.reduceLeDiff, upd_same, Bool.false_eq_true, if_false, if_true, ite_true, ite_false, List.cons_append, List.nil_append, List.append_nil, rSetM, ix30, ix31, ix32, upd_upd, ex_some, seqAt, tEv, tEvT, evVar, evC, ev2, ev1, evAnd, evOr, evIx, evCons, evNil, evCall, evLen, lenAt, fI_ii, kLt, kLe, kGt, kGe, kAdd, kSub, fEq, fNe, fMod_lit, fIn_s, fIn_i, fAnd_bb, fOr_bb, fNot_b, fIsN_n, fNotN_n, ex_sbl, ex_cons, Int.reduceLT, spP, decide_true, decide_false, Bool.not_true, Bool.not_false, Bool.and_false, Bool.false_and, Bool.or_true, Bool.true_or, Bool.or_false, Bool.false_or, reduceCtorEq, false_and, and_false, fDiv_lit, fNeg_i, Int.reduceNeg]), iteT ?_⟩
      refine ⟨_, rfl, a, x, r, rfl, s' _ _ ha, by omega, hw, ?_⟩
      generalize (if namesB (x :: r) = true then some ((x :: r).map V.str) else none) = o at k ⊢
      cases o with
      | none => exact fun H2 s2 => k H2 (s'.trans s2)
      | some xs => exact fun t H2 nt ht s2 => k t H2 (s'.free nt) ht (s'.trans s2)
end
end My

set_option Elab.async false
set_option linter.all false
set_option maxRecDepth 100000
set_option maxHeartbeats 4000000
namespace My
open PySem L2
/-! ### read_entries -/
def Tups (H : Hp) : List Addr → List (List V) → Prop
  | [], [] => True
  | a :: as, x :: xs => H a = some (.tup x) ∧ Tups H as xs
  | _, _ => False
theorem Tups.len {H : Hp} : ∀ {as : List Addr} {xs : List (List V)}, Tups H as xs → as.length = xs.length
  | [], [], _ => rfl
  | a :: as, x :: xs, h => by rw [List.length_cons, List.length_cons, Tups.len h.2]
theorem Tups.keep {H H' : Hp} : ∀ {as : List Addr} {xs : List (List V)}, Tups H as xs → (∀ a ∈ as, ∀ o, H a = some o → H' a = some o) → Tups H' as xs
  | [], [], _, _ => trivial
  | a :: as, x :: xs, h, k => ⟨k a (by simp) _ h.1, Tups.keep h.2 fun b hb => k b (by simp [hb])⟩
theorem Tups.same {H H' : Hp} {as : List Addr} {xs : List (List V)} (h : Tups H as xs) (s : Same H H') : Tups H' as xs := h.keep fun a _ o e => s a o e
theorem Tups.snoc {H : Hp} {a : Addr} {x : List V} (h1 : H a = some (.tup x)) : ∀ {as : List Addr} {xs : List (List V)}, Tups H as xs → Tups H (as ++ [a]) (xs ++ [x])
  | [], [], _ => ⟨h1, trivial⟩
  | b :: as, y :: xs, h => ⟨h.1, Tups.snoc h1 h.2⟩
theorem Tups.get {H : Hp} : ∀ {as : List Addr} {xs : List (List V)} {i : Nat} {a : Addr}, Tups H as xs → as[i]? = some a → ∃ x, xs[i]? = some x ∧ H a = some (.tup x)
  | [], [], i, a, _, e => by simp at e
  | b :: as, y :: xs, 0, a, h, e => by
    have : b = a := by simpa using e
    subst this
    exact ⟨y, rfl, h.1⟩
  | b :: as, y :: xs, i + 1, a, h, e => Tups.get (i := i) h.2 (by simpa using e)
def spRead (K : PySem.W.Frag) : Sp := fun vs H Q _ => ∃ (z : Str) (es : List (List V)), vs = [.str z] ∧ z.length ≤ 1000000 ∧ (∀ r ∈ rowsGo 1 (Txt.split z (Str.ofString "\n")), r.2.length ≤ 900 ∧ ∀ x ∈ r.2, x.length ≤ 1000) ∧ (rowsGo 1 (Txt.split z (Str.ofString "\n"))).length ≤ 900 ∧
  (rowsGo 1 (Txt.split z (Str.ofString "\n"))).map (fun r => entryOf r.2) = es.map some ∧
  ∀ (lt : Addr) (as : List Addr) (H' : Hp), H lt = none → (∀ a ∈ as, H a = none ∧ a ≠ lt) → Same H H' → H' lt = some (.lst (as.map V.ref)) → Tups H' as es → Q (.ref lt) H'
theorem entry_ne {ws : List Str} {xs : List V} (h : entryOf ws = some xs) : ∃ x r, ws = x :: r := by
  cases ws with
  | nil => cases h
  | cons x r => exact ⟨x, r, rfl⟩
section
variable {P : Program} {w : World} {K : PySem.W.Frag} {mg : Str → Option Value} {base : Heap} {e : Ext}
theorem sc_read : FnScope ["text", "entries", "place", "words", "entry"] ["text"] (defScope s_read) := ⟨rfl, rfl, rfl, by decide +kernel, rfl, by decide +kernel, by decide +kernel⟩
theorem ok_read {f f_numbered f_wordsof f_isname f_made f_numin f_outw f_ballw f_enames f_entryw : Addr} {fd fd_numbered fd_wordsof fd_isname fd_made fd_numin fd_outw fd_ballw fd_enames fd_entryw : FuncData} (F : Fun K "read_entries" "read_entries" s_read f fd) (T : Txt K mg e) (hN : DictK K w e.aN nbK)
    (D_numbered : Def K mg "numbered_rows" s_numbered ["text"] f_numbered fd_numbered) (D_wordsof : Def K mg "words_of" s_wordsof ["row"] f_wordsof fd_wordsof) (D_isname : Def K mg "is_name" s_isname ["word"] f_isname fd_isname) (D_made : Def K mg "made_of" s_made ["word", "signs", "most"] f_made fd_made)
    (D_numin : Def K mg "number_in" s_numin ["word"] f_numin fd_numin) (D_outw : Def K mg "out_of_words" s_outw ["words"] f_outw fd_outw) (D_ballw : Def K mg "ball_of_words" s_ballw ["words"] f_ballw fd_ballw) (D_enames : Def K mg "entry_of_names" s_enames ["words"] f_enames fd_enames) (D_entryw : Def K mg "entry_of_words" s_entryw ["words"] f_entryw fd_entryw) : FnOk P w K mg base CX0 6 f fd ["text"] (spRead K) := by
  have G_numbered : FnOk P w K mg base CX0 2 f_numbered fd_numbered ["text"] spNumbered := ok_numbered D_numbered.F T D_wordsof
  have G_entryw : FnOk P w K mg base CX0 5 f_entryw fd_entryw ["words"] spEntryw := ok_entryw D_entryw.F T hN D_isname D_made D_numin D_outw D_ballw D_enames
  refine F.ok sc_read (fun vs H Q E h => ?_) (fun cdv A outer s H vs Q E hr h => ?_)
  · obtain ⟨z, es, rfl, _⟩ := h
    rfl
  · obtain ⟨z, es, rfl, hz, hx, hc, hes, k⟩ := h
    have hr_numbered := hr.mono (by decide : 2 ≤ 5)
    have hr_entryw := hr.mono (by decide : 5 ≤ 5)
    refine ⟨_, (pss_cons (ps_set (i := 1) sc_read.nd rfl (Or.inl rfl) (pe_lst pa_nil))
      (pss_cons (ps_for PassesOwn.never rfl (pi_list (pe_call G_numbered hr_numbered rfl D_numbered.m D_numbered.F.kp D_numbered.b .nil pass0 (pa_cons (pv 0) pa_nil))) (pg_tup rfl (pgs_cons (pg_name (i := 2) sc_read.nd rfl (Or.inl rfl)) (pgs_cons (pg_name (i := 3) sc_read.nd rfl (Or.inl rfl)) pgs_nil)))
        (pss_cons (ps_set (i := 4) sc_read.nd rfl (Or.inl rfl) (pe_call G_entryw hr_entryw rfl D_entryw.m D_entryw.F.kp D_entryw.b .nil pass0 (pa_cons (pv 3) pa_nil)))
        (pss_cons (ps_if (pt_pp (ptp_isN (pp_var 4) (pp_c pe_non)))
          (pss_one ps_never)
          pss_nil)
        (pss_one (ps_expr (pe_bm PySem.F.plainAttrs_list PySem.F.slot_list_append PySem.F.type_list_append mt_append (pv 1) (pa_cons (pv 4) pa_nil)))))))
      (pss_one (ps_ret (pv 1))))), ?_⟩
    change (_ : Ends → St → Hp → Prop) _ [some (.str z), none, none, none, none] H
    refine ⟨(by show 0 ≤ sizeLine; decide), fun lt nlt => ?_⟩
    refine ⟨_, rfl, z, rfl, hz, fun l ar H1 nl hl hN s1 => ⟨l, rfl, ⟨_, SqL.of hl⟩, ?_⟩⟩
    generalize rowsGo 1 (Txt.split z (Str.ofString "\n")) = rs at hx hc hes hN
    have hlt1 : H1 lt = some (.lst []) := s1 _ _ upd_same
    have l_lt : l ≠ lt := (ne_of_none upd_same nl).symm
    have s01 : Same H H1 := (upd_new nlt).trans s1
    have hlen := hN.len
    have hel : rs.length = es.length := by have := congrArg List.length hes; simpa using this
    refine for_list (xs := ar.map V.ref) (fun i σ H' => ∃ as x2 x3 x4, σ = [some (.str z), some (.ref lt), x2, x3, x4] ∧ H' lt = some (.lst (as.map V.ref)) ∧ Tups H' as (es.take i) ∧ But lt H1 H' ∧ (∀ a ∈ as, H1 a = none ∧ a ≠ lt)) ⟨[], _, _, _, rfl, hlt1, trivial, But.refl _ _, by simp⟩ (fun i σ H' _ q => ?_) ?_ ?_
    · obtain ⟨as, x2, x3, x4, _, _, _, kb, _⟩ := q
      exact SqL.of (kb _ _ hl l_lt)
    · rintro i x σ H2 hxi ⟨as, x2, x3, x4, rfl, hl2, t2, k2, fr⟩
      obtain ⟨a, ea, rfl⟩ : ∃ a, ar[i]? = some a ∧ V.ref a = x := by
        rw [List.getElem?_map] at hxi
        cases e : ar[i]? with
        | none => rw [e] at hxi; cases hxi
        | some a => rw [e] at hxi; exact ⟨a, rfl, Option.some.inj hxi⟩
      obtain ⟨r, wl, er, h1, h2⟩ := hN.get ea
      have hil : i < rs.length := (List.getElem?_eq_some_iff.mp er).1
      have hie : i < es.length := by omega
      have hxs : entryOf r.2 = some es[i] := by
        have := congrArg (fun l => l[i]?) hes
        simp only [List.getElem?_map, er, List.getElem?_eq_getElem hie, Option.map_some] at this
        exact Option.some.inj this
      obtain ⟨x, r', ews⟩ := entry_ne hxs
      obtain ⟨hr9, hr0⟩ := hx r (List.mem_of_getElem? er)
      rw [ews] at h2 hr9 hr0 hxs
      have wl_lt : wl ≠ lt := ne_of h2 hlt1 (by intro z; cases z)
      have a_lt : a ≠ lt := ne_of h1 hlt1 (by intro z; cases z)
      have h1' := k2 _ _ h1 a_lt
      have h2' := k2 _ _ h2 wl_lt
      refine ⟨a, _, rfl, SqT.of h1', rfl, _, _, rfl, _, _, rfl, rfl, ?_⟩
      refine ⟨_, rfl, wl, x, r', rfl, h2', by simp at hr9; omega, hr0, ?_⟩
      rw [hxs]
      intro t H3 nt ht s3
      have hl3 := s3 _ _ hl2
      have t_lt : t ≠ lt := (ne_of_none hl2 nt).symm
      have aln := t2.len
      rw [List.length_take] at aln
      refine ⟨false, (by simp only [tSeq, tNext, tIfS, tRet, tRetN, tDrop, tAsg, gName, gTup, gCons, gNil, gSub, tTest, tOp, tUn, tVar, tC, tB, tInC, tAnd, tOr, tNot, tAndV, tOrV, tNotV, tIf, tCall, tCons, tNil, tTup, tLst, tCut, rI0, rI, rU, rEq, rNe, rIxM, rSetL, scal_ii, scal_ss, scal_bb, scal_nn, scal_is, scal_si, scal_sn, scal_ns, flat_i, flat_s, flat_b, flat_n, List.all_cons, List.all_nil, Bool.and_true, Bool.true_and, true_and, and_true, ex_get, ex_int, ex_str, ex_bl, ex_ref, ex_int2, ex_str2, ex_ri, dec_true, at0, at1, at2, at3, at4, at5, at6, at7, List.getElem?_cons_zero, List.getElem?_cons_succ, List.set_cons_zero, List.set_cons_succ, List.length_cons, List.length_nil, Nat.reduceAdd, le_line, Nat.reduceLeDiff, upd_same, Bool.false_eq_true, if_false, if_true, ite_true, ite_false, List.cons_append, List.nil_append, List.append_nil, rSetM, ix30, ix31, ix32, upd_upd, ex_some, seqAt, tEv, tEvT, evVar, evC, ev2, ev1, evAnd, evOr, evIx, evCons, evNil, evCall, evLen, lenAt, fI_ii, kLt, kLe, kGt, kGe, kAdd, kSub, fEq, fNe, fMod_lit, fIn_s, fIn_i, fAnd_bb, fOr_bb, fNot_b, fIsN_n, fNotN_n, ex_sbl, ex_cons, Int.reduceLT, spP, decide_true, decide_false, Bool.not_true, Bool.not_false, Bool.and_false, Bool.false_and, Bool.or_true, Bool.true_or, Bool.or_false, Bool.false_or, reduceCtorEq, false_and, and_false, fDiv_lit, fNeg_i, Int.reduceNeg]), iteF ⟨_, rfl, .inl ⟨rfl, _, SqL.of hl3⟩, _, rfl, lt, _, .ref t, rfl, rfl, hl3, small1000 (by rw [List.length_map]; omega), ?_⟩⟩
      have nt1 : H1 t = none := by
        cases e : H1 t with
        | none => rfl
        | some o => rw [k2 t o e t_lt] at nt; cases nt
      refine ⟨as ++ [t], _, _, _, rfl, by rw [upd_same, List.map_append]; rfl, ?_, fun b o eb nb => ?_, fun b hb => ?_⟩
      · rw [List.take_add_one, List.getElem?_eq_getElem hie]
        refine Tups.snoc (by rw [upd_ne t_lt]; exact ht) ((t2.same s3).keep fun b hb o eb => ?_)
        rw [upd_ne (fr b hb).2]
        exact eb
      · rw [upd_ne nb]
        exact s3 b o (k2 b o eb nb)
      · rcases List.mem_append.mp hb with hb | hb
        · exact fr b hb
        · rw [List.mem_singleton.mp hb]
          exact ⟨nt1, t_lt⟩
    · rintro σ H2 ⟨as, x2, x3, x4, rfl, hl2, t2, k2, fr⟩
      rw [List.length_map, hlen, hel, List.take_length] at t2
      refine ⟨_, rfl, k lt as H2 nlt (fun b hb => ⟨s01.free (fr b hb).1, (fr b hb).2⟩) (fun b o eb => k2 b o (s01 b o eb) (ne_of_none eb nlt)) hl2 t2⟩
end
end My

set_option Elab.async false
set_option linter.all false
set_option maxRecDepth 100000
set_option maxHeartbeats 4000000
namespace My
open PySem L2
/-! ### words_of_ball, shown_entry -/
inductive Ent where
  | ball (b : BallW)
  | names (x : Str) (r : List Str)
def Ent.vals : Ent → List V
  | .ball b => b.vals
  | .names x r => (x :: r).map V.str
def numW (i : Int) : Str := toString i
def ropeW (b : Bool) : List Str := if b = true then ["rope"] else []
def outA (o : Str × Str × Str) : List Str := if V.str o.1 = .str "" then [] else [Str.ofString "out", o.1]
def outB (o : Str × Str × Str) : List Str := if V.str o.1 = .str "run" then [o.2.1, o.2.2] else []
def emS : Str := Str.ofString ""
def Ent.ws : Ent → List Str
  | .ball b => [b.kind, numW b.runs] ++ ropeW b.rope ++ outA b.out ++ outB b.out
  | .names x r => x :: r
def OutOk (o : Str × Str × Str) : Prop := o = (emS, emS, emS) ∨ (∃ y ∈ wayL, o = (y, emS, emS)) ∨ ∃ n d, nameB n = true ∧ d ∈ endL ∧ o = (Str.ofString "run", n, d)
def Ent.Ok : Ent → Prop
  | .ball b => b.kind ∈ kindL ∧ (∃ j : Nat, j ≤ 9 ∧ b.runs = (j : Int)) ∧ OutOk b.out
  | .names x r => namesB (x :: r) = true ∧ r.length ≤ 4
def nbW : List Str := (["start", "in", "bowl", "hurt", "swap", "declare", "follow", "close"] : List String).map Str.ofString
theorem nb_mem {x : Str} {r : List Str} (h : namesB (x :: r) = true) : x ∈ nbW := by
  have h1 : decide ((valV nbK (.inr x)).getD .non = .int (r.length : Nat)) = true := by
    have h' : (decide ((valV nbK (.inr x)).getD .non = .int (r.length : Nat)) && r.all nameB) = true := h
    rw [Bool.and_eq_true] at h'
    exact h'.1
  have h2 := of_decide_eq_true h1
  unfold valV at h2
  cases e : nbK.find? fun kv => decide (kv.1 = Sum.inr x) with
  | none => rw [e] at h2; cases h2
  | some p =>
    have hp := List.find?_some e
    have hm := List.mem_of_find?_eq_some e
    have hp' : p.1 = Sum.inr x := of_decide_eq_true hp
    simp only [nbK, List.mem_cons, List.not_mem_nil, or_false] at hm
    rcases hm with rfl | rfl | rfl | rfl | rfl | rfl | rfl | rfl <;> (injection hp' with hx; rw [← hx]; decide +kernel)
theorem nb_ne : ∀ x ∈ nbW, V.str x ≠ .str "ball" ∧ inV (.str x) (kindL.map V.str) = false ∧ WordOk x := by
  unfold WordOk
  decide +kernel
theorem sum_le20 {ys : List Str} (h : ∀ y ∈ ys, y.length ≤ 20) : (ys.map (·.length)).sum ≤ 20 * ys.length := by
  induction ys with
  | nil => simp
  | cons y ys ih =>
    have h1 := h y (by simp)
    have h2 := ih fun z hz => h z (by simp [hz])
    rw [List.map_cons, List.sum_cons, List.length_cons]
    omega
theorem Ent.ws_len {en : Ent} (ok : en.Ok) : en.ws.length ≤ 7 := by
  cases en with
  | ball b =>
    show ([b.kind, numW b.runs] ++ ropeW b.rope ++ outA b.out ++ outB b.out).length ≤ 7
    rw [List.length_append, List.length_append, List.length_append]
    have h1 : (ropeW b.rope).length ≤ 1 := by unfold ropeW; split <;> simp
    have h2 : (outA b.out).length ≤ 2 := by unfold outA; split <;> simp
    have h3 : (outB b.out).length ≤ 2 := by unfold outB; split <;> simp
    show 2 + _ + _ + _ ≤ 7
    omega
  | names x r =>
    have := ok.2
    show r.length + 1 ≤ 7
    omega
def spWball : Sp := fun vs H Q _ => ∃ (t : Addr) (b : BallW), vs = [.ref t] ∧ H t = some (.tup b.vals) ∧ b.runs.natAbs.log2 < 1920 ∧ ∀ l H', H l = none → H' l = some (.lst ((Ent.ball b).ws.map V.str)) → Same H H' → Q (.ref l) H'
def spShown : Sp := fun vs H Q _ => ∃ (t : Addr) (en : Ent), vs = [.ref t] ∧ H t = some (.tup en.vals) ∧ en.Ok ∧ (∀ x ∈ en.ws, x.length ≤ 20) ∧ ∀ H', Same H H' → Q (.str (Txt.join (Str.ofString " ") en.ws)) H'
section
variable {P : Program} {w : World} {K : PySem.W.Frag} {mg : Str → Option Value} {base : Heap} {e : Ext}
theorem sc_wball : FnScope ["entry", "words"] ["entry"] (defScope s_wball) := ⟨rfl, rfl, rfl, by decide +kernel, rfl, by decide +kernel, by decide +kernel⟩
theorem ok_wball {f : Addr} {fd : FuncData} (F : Fun K "words_of_ball" "words_of_ball" s_wball f fd) (T : Txt K mg e) : FnOk P w K mg base CX0 1 f fd ["entry"] spWball := by
  refine F.ok sc_wball (fun vs H Q E h => ?_) (fun cdv A outer s H vs Q E hr h => ?_)
  · obtain ⟨t, b, rfl, _⟩ := h
    rfl
  · obtain ⟨t, b, rfl, ht, hb, k⟩ := h
    refine ⟨_, (pss_cons (ps_set (i := 1) sc_wball.nd rfl (Or.inl rfl) (pe_lst (pa_cons (pe_pp (pp_ix (pp_var 0) (pp_c pe_int) (fun _ _ => rfl))) (pa_cons (pe_callTy call_str_int rfl T.n_str PyProof.Rows.boot_str (pa_cons (pe_pp (pp_ix (pp_var 0) (pp_c pe_int) (fun _ _ => rfl))) pa_nil)) pa_nil))))
      (pss_cut (ps_if (pt_pp (ptp_val (pp_ix (pp_var 0) (pp_c pe_int) (fun _ _ => rfl))))
        (pss_one (ps_expr (pe_bm PySem.F.plainAttrs_list PySem.F.slot_list_append PySem.F.type_list_append mt_append (pv 1) (pa_consK pe_str pa_nil))))
        pss_nil)
      (pss_cut (ps_if (pt_pp (ptp_ne (pp_ix (pp_var 0) (pp_c pe_int) (fun _ _ => rfl)) (pp_c pe_str)))
        (pss_one (ps_expr (pe_bm PySem.F.plainAttrs_list PySem.F.slot_list_extend PySem.F.type_list_extend mt_extend (pv 1) (pa_cons (pe_lst (pa_consK pe_str (pa_cons (pe_pp (pp_ix (pp_var 0) (pp_c pe_int) (fun _ _ => rfl))) pa_nil))) pa_nil))))
        pss_nil)
      (pss_cut (ps_if (pt_pp (ptp_eq (pp_ix (pp_var 0) (pp_c pe_int) (fun _ _ => rfl)) (pp_c pe_str)))
        (pss_one (ps_expr (pe_bm PySem.F.plainAttrs_list PySem.F.slot_list_extend PySem.F.type_list_extend mt_extend (pv 1) (pa_cons (pe_lst (pa_cons (pe_pp (pp_ix (pp_var 0) (pp_c pe_int) (fun _ _ => rfl))) (pa_cons (pe_pp (pp_ix (pp_var 0) (pp_c pe_int) (fun _ _ => rfl))) pa_nil))) pa_nil))))
        pss_nil)
      (pss_one (ps_ret (pv 1))))))), ?_⟩
    change (_ : Ends → St → Hp → Prop) _ [some (.ref t), none] H
    unfold BallW.vals at ht
    refine ⟨.str b.kind, (by simp only [tSeq, tNext, tIfS, tRet, tRetN, tDrop, tAsg, gName, gTup, gCons, gNil, gSub, tTest, tOp, tUn, tVar, tC, tB, tInC, tAnd, tOr, tNot, tAndV, tOrV, tNotV, tIf, tCall, tCons, tNil, tTup, tLst, tCut, rI0, rI, rU, rEq, rNe, rIxM, rSetL, scal_ii, scal_ss, scal_bb, scal_nn, scal_is, scal_si, scal_sn, scal_ns, flat_i, flat_s, flat_b, flat_n, List.all_cons, List.all_nil, Bool.and_true, Bool.true_and, true_and, and_true, ex_get, ex_int, ex_str, ex_bl, ex_ref, ex_int2, ex_str2, ex_ri, dec_true, at0, at1, at2, at3, at4, at5, at6, at7, List.getElem?_cons_zero, List.getElem?_cons_succ, List.set_cons_zero, List.set_cons_succ, List.length_cons, List.length_nil, Nat.reduceAdd, le_line, Nat.reduceLeDiff, upd_same, Bool.false_eq_true, if_false, if_true, ite_true, ite_false, List.cons_append, List.nil_append, List.append_nil, rSetM, ix30, ix31, ix32, upd_upd, ex_some, seqAt, tEv, tEvT, evVar, evC, ev2, ev1, evAnd, evOr, evIx, evCons, evNil, evCall, evLen, lenAt, fI_ii, kLt, kLe, kGt, kGe, kAdd, kSub, fEq, fNe, fMod_lit, fIn_s, fIn_i, fAnd_bb, fOr_bb, fNot_b, fIsN_n, fNotN_n, ex_sbl, ex_cons, Int.reduceLT, spP, decide_true, decide_false, Bool.not_true, Bool.not_false, Bool.and_false, Bool.false_and, Bool.or_true, Bool.true_or, Bool.or_false, Bool.false_or, reduceCtorEq, false_and, and_false, fDiv_lit, fNeg_i, Int.reduceNeg, ht]), .int b.runs, (by simp only [tSeq, tNext, tIfS, tRet, tRetN, tDrop, tAsg, gName, gTup, gCons, gNil, gSub, tTest, tOp, tUn, tVar, tC, tB, tInC, tAnd, tOr, tNot, tAndV, tOrV, tNotV, tIf, tCall, tCons, tNil, tTup, tLst, tCut, rI0, rI, rU, rEq, rNe, rIxM, rSetL, scal_ii, scal_ss, scal_bb, scal_nn, scal_is, scal_si, scal_sn, scal_ns, flat_i, flat_s, flat_b, flat_n, List.all_cons, List.all_nil, Bool.and_true, Bool.true_and, true_and, and_true, ex_get, ex_int, ex_str, ex_bl, ex_ref, ex_int2, ex_str2, ex_ri, dec_true, at0, at1, at2, at3, at4, at5, at6, at7, List.getElem?_cons_zero, List.getElem?_cons_succ, List.set_cons_zero, List.set_cons_succ, List.length_cons, List.length_nil, Nat.reduceAdd, le_line, Nat.reduceLeDiff, upd_same, Bool.false_eq_true, if_false, if_true, ite_true, ite_false, List.cons_append, List.nil_append, List.append_nil, rSetM, ix30, ix31, ix32, upd_upd, ex_some, seqAt, tEv, tEvT, evVar, evC, ev2, ev1, evAnd, evOr, evIx, evCons, evNil, evCall, evLen, lenAt, fI_ii, kLt, kLe, kGt, kGe, kAdd, kSub, fEq, fNe, fMod_lit, fIn_s, fIn_i, fAnd_bb, fOr_bb, fNot_b, fIsN_n, fNotN_n, ex_sbl, ex_cons, Int.reduceLT, spP, decide_true, decide_false, Bool.not_true, Bool.not_false, Bool.and_false, Bool.false_and, Bool.or_true, Bool.true_or, Bool.or_false, Bool.false_or, reduceCtorEq, false_and, and_false, fDiv_lit, fNeg_i, Int.reduceNeg, ht]), _, rfl, hb, (by show 2 ≤ sizeLine; decide), fun l nl => ?_⟩
    have ht1 := upd_old (o := .lst [.str b.kind, .str (toString b.runs)]) nl ht
    refine ⟨fun σ' H' => σ' = [some (.ref t), some (.ref l)] ∧ H' l = some (.lst (([b.kind, numW b.runs] ++ ropeW b.rope).map V.str)) ∧ Same H H', ?_, ?_⟩
    · refine ⟨b.rope, (by simp only [tSeq, tNext, tIfS, tRet, tRetN, tDrop, tAsg, gName, gTup, gCons, gNil, gSub, tTest, tOp, tUn, tVar, tC, tB, tInC, tAnd, tOr, tNot, tAndV, tOrV, tNotV, tIf, tCall, tCons, tNil, tTup, tLst, tCut, rI0, rI, rU, rEq, rNe, rIxM, rSetL, scal_ii, scal_ss, scal_bb, scal_nn, scal_is, scal_si, scal_sn, scal_ns, flat_i, flat_s, flat_b, flat_n, List.all_cons, List.all_nil, Bool.and_true, Bool.true_and, true_and, and_true, ex_get, ex_int, ex_str, ex_bl, ex_ref, ex_int2, ex_str2, ex_ri, dec_true, at0, at1, at2, at3, at4, at5, at6, at7, List.getElem?_cons_zero, List.getElem?_cons_succ, List.set_cons_zero, List.set_cons_succ, List.length_cons, List.length_nil, Nat.reduceAdd, le_line, Nat.reduceLeDiff, upd_same, Bool.false_eq_true, if_false, if_true, ite_true, ite_false, List.cons_append, List.nil_append, List.append_nil, rSetM, ix30, ix31, ix32, upd_upd, ex_some, seqAt, tEv, tEvT, evVar, evC, ev2, ev1, evAnd, evOr, evIx, evCons, evNil, evCall, evLen, lenAt, fI_ii, kLt, kLe, kGt, kGe, kAdd, kSub, fEq, fNe, fMod_lit, fIn_s, fIn_i, fAnd_bb, fOr_bb, fNot_b, fIsN_n, fNotN_n, ex_sbl, ex_cons, Int.reduceLT, spP, decide_true, decide_false, Bool.not_true, Bool.not_false, Bool.and_false, Bool.false_and, Bool.or_true, Bool.true_or, Bool.or_false, Bool.false_or, reduceCtorEq, false_and, and_false, fDiv_lit, fNeg_i, Int.reduceNeg, ht1]), ?_⟩
      cases hr : b.rope with
      | false => exact iteF ⟨rfl, upd_same, upd_new nl⟩
      | true =>
        refine iteT ⟨_, rfl, .inl ⟨rfl, _, SqL.of upd_same⟩, l, _, _, rfl, rfl, upd_same, small1000 (by simp), ?_⟩
        exact ⟨rfl, upd_same, fun b o eb => by rw [upd_ne (ne_of_none eb nl)]; exact upd_new nl b o eb⟩
    rintro σ' H1 ⟨rfl, hl1, s1⟩
    have ht1 := s1 _ _ ht
    have ln1 : (([b.kind, numW b.runs] ++ ropeW b.rope).map V.str).length ≤ 3 := by
      unfold ropeW
      cases b.rope <;> simp
    refine ⟨fun σ' H' => σ' = [some (.ref t), some (.ref l)] ∧ H' l = some (.lst (([b.kind, numW b.runs] ++ ropeW b.rope ++ outA b.out).map V.str)) ∧ Same H H', ?_, ?_⟩
    · refine ⟨!decide (V.str b.out.1 = .str ""), (by simp only [tSeq, tNext, tIfS, tRet, tRetN, tDrop, tAsg, gName, gTup, gCons, gNil, gSub, tTest, tOp, tUn, tVar, tC, tB, tInC, tAnd, tOr, tNot, tAndV, tOrV, tNotV, tIf, tCall, tCons, tNil, tTup, tLst, tCut, rI0, rI, rU, rEq, rNe, rIxM, rSetL, scal_ii, scal_ss, scal_bb, scal_nn, scal_is, scal_si, scal_sn, scal_ns, flat_i, flat_s, flat_b, flat_n, List.all_cons, List.all_nil, Bool.and_true, Bool.true_and, true_and, and_true, ex_get, ex_int, ex_str, ex_bl, ex_ref, ex_int2, ex_str2, ex_ri, dec_true, at0, at1, at2, at3, at4, at5, at6, at7, List.getElem?_cons_zero, List.getElem?_cons_succ, List.set_cons_zero, List.set_cons_succ, List.length_cons, List.length_nil, Nat.reduceAdd, le_line, Nat.reduceLeDiff, upd_same, Bool.false_eq_true, if_false, if_true, ite_true, ite_false, List.cons_append, List.nil_append, List.append_nil, rSetM, ix30, ix31, ix32, upd_upd, ex_some, seqAt, tEv, tEvT, evVar, evC, ev2, ev1, evAnd, evOr, evIx, evCons, evNil, evCall, evLen, lenAt, fI_ii, kLt, kLe, kGt, kGe, kAdd, kSub, fEq, fNe, fMod_lit, fIn_s, fIn_i, fAnd_bb, fOr_bb, fNot_b, fIsN_n, fNotN_n, ex_sbl, ex_cons, Int.reduceLT, spP, decide_true, decide_false, Bool.not_true, Bool.not_false, Bool.and_false, Bool.false_and, Bool.or_true, Bool.true_or, Bool.or_false, Bool.false_or, reduceCtorEq, false_and, and_false, fDiv_lit, fNeg_i, Int.reduceNeg, ht1]), ?_⟩
      by_cases ho : V.str b.out.1 = .str ""
      · refine ite_no (by rw [decide_eq_true ho]; rfl) ⟨rfl, ?_, s1⟩
        rw [show outA b.out = [] from if_pos ho, List.append_nil]
        exact hl1
      · refine ite_yes (by rw [decide_eq_false ho]; rfl) ?_
        refine ⟨_, rfl, .inl ⟨rfl, _, SqL.of hl1⟩, .str b.out.1, (by simp only [tSeq, tNext, tIfS, tRet, tRetN, tDrop, tAsg, gName, gTup, gCons, gNil, gSub, tTest, tOp, tUn, tVar, tC, tB, tInC, tAnd, tOr, tNot, tAndV, tOrV, tNotV, tIf, tCall, tCons, tNil, tTup, tLst, tCut, rI0, rI, rU, rEq, rNe, rIxM, rSetL, scal_ii, scal_ss, scal_bb, scal_nn, scal_is, scal_si, scal_sn, scal_ns, flat_i, flat_s, flat_b, flat_n, List.all_cons, List.all_nil, Bool.and_true, Bool.true_and, true_and, and_true, ex_get, ex_int, ex_str, ex_bl, ex_ref, ex_int2, ex_str2, ex_ri, dec_true, at0, at1, at2, at3, at4, at5, at6, at7, List.getElem?_cons_zero, List.getElem?_cons_succ, List.set_cons_zero, List.set_cons_succ, List.length_cons, List.length_nil, Nat.reduceAdd, le_line, Nat.reduceLeDiff, upd_same, Bool.false_eq_true, if_false, if_true, ite_true, ite_false, List.cons_append, List.nil_append, List.append_nil, rSetM, ix30, ix31, ix32, upd_upd, ex_some, seqAt, tEv, tEvT, evVar, evC, ev2, ev1, evAnd, evOr, evIx, evCons, evNil, evCall, evLen, lenAt, fI_ii, kLt, kLe, kGt, kGe, kAdd, kSub, fEq, fNe, fMod_lit, fIn_s, fIn_i, fAnd_bb, fOr_bb, fNot_b, fIsN_n, fNotN_n, ex_sbl, ex_cons, Int.reduceLT, spP, decide_true, decide_false, Bool.not_true, Bool.not_false, Bool.and_false, Bool.false_and, Bool.or_true, Bool.true_or, Bool.or_false, Bool.false_or, reduceCtorEq, false_and, and_false, fDiv_lit, fNeg_i, Int.reduceNeg, ht1]), (by show 2 ≤ sizeLine; decide), fun p np => ?_⟩
        have l_p : l ≠ p := ne_of_none hl1 np
        refine ⟨l, p, _, _, rfl, rfl, upd_old np hl1, upd_same, (Nat.le_of_lt (small1000 (by simp at ln1 ⊢; omega))), ?_⟩
        refine ⟨rfl, ?_, fun b o eb => by rw [upd_ne (ne_of_none eb nl)]; exact upd_new np b o (s1 b o eb)⟩
        rw [upd_same, show outA b.out = [Str.ofString "out", b.out.1] from if_neg ho]
        simp only [List.map_append]
        rfl
    rintro σ' H2 ⟨rfl, hl2, s2⟩
    have ht2 := s2 _ _ ht
    have ln2 : (([b.kind, numW b.runs] ++ ropeW b.rope ++ outA b.out).map V.str).length ≤ 5 := by
      rw [List.length_map] at ln1 ⊢
      rw [List.length_append]
      unfold outA
      split <;> simp at ln1 ⊢ <;> omega
    refine ⟨fun σ' H' => σ' = [some (.ref t), some (.ref l)] ∧ H' l = some (.lst (((([b.kind, numW b.runs] ++ ropeW b.rope ++ outA b.out) ++ outB b.out)).map V.str)) ∧ Same H H', ?_, ?_⟩
    · refine ⟨decide (V.str b.out.1 = .str "run"), (by simp only [tSeq, tNext, tIfS, tRet, tRetN, tDrop, tAsg, gName, gTup, gCons, gNil, gSub, tTest, tOp, tUn, tVar, tC, tB, tInC, tAnd, tOr, tNot, tAndV, tOrV, tNotV, tIf, tCall, tCons, tNil, tTup, tLst, tCut, rI0, rI, rU, rEq, rNe, rIxM, rSetL, scal_ii, scal_ss, scal_bb, scal_nn, scal_is, scal_si, scal_sn, scal_ns, flat_i, flat_s, flat_b, flat_n, List.all_cons, List.all_nil, Bool.and_true, Bool.true_and, true_and, and_true, ex_get, ex_int, ex_str, ex_bl, ex_ref, ex_int2, ex_str2, ex_ri, dec_true, at0, at1, at2, at3, at4, at5, at6, at7, List.getElem?_cons_zero, List.getElem?_cons_succ, List.set_cons_zero, List.set_cons_succ, List.length_cons, List.length_nil, Nat.reduceAdd, le_line, Nat.reduceLeDiff, upd_same, Bool.false_eq_true, if_false, if_true, ite_true, ite_false, List.cons_append, List.nil_append, List.append_nil, rSetM, ix30, ix31, ix32, upd_upd, ex_some, seqAt, tEv, tEvT, evVar, evC, ev2, ev1, evAnd, evOr, evIx, evCons, evNil, evCall, evLen, lenAt, fI_ii, kLt, kLe, kGt, kGe, kAdd, kSub, fEq, fNe, fMod_lit, fIn_s, fIn_i, fAnd_bb, fOr_bb, fNot_b, fIsN_n, fNotN_n, ex_sbl, ex_cons, Int.reduceLT, spP, decide_true, decide_false, Bool.not_true, Bool.not_false, Bool.and_false, Bool.false_and, Bool.or_true, Bool.true_or, Bool.or_false, Bool.false_or, reduceCtorEq, false_and, and_false, fDiv_lit, fNeg_i, Int.reduceNeg, ht2]), ?_⟩
      by_cases ho : V.str b.out.1 = .str "run"
      · refine ite_yes (decide_eq_true ho) ?_
        refine ⟨_, rfl, .inl ⟨rfl, _, SqL.of hl2⟩, .str b.out.2.1, (by simp only [tSeq, tNext, tIfS, tRet, tRetN, tDrop, tAsg, gName, gTup, gCons, gNil, gSub, tTest, tOp, tUn, tVar, tC, tB, tInC, tAnd, tOr, tNot, tAndV, tOrV, tNotV, tIf, tCall, tCons, tNil, tTup, tLst, tCut, rI0, rI, rU, rEq, rNe, rIxM, rSetL, scal_ii, scal_ss, scal_bb, scal_nn, scal_is, scal_si, scal_sn, scal_ns, flat_i, flat_s, flat_b, flat_n, List.all_cons, List.all_nil, Bool.and_true, Bool.true_and, true_and, and_true, ex_get, ex_int, ex_str, ex_bl, ex_ref, ex_int2, ex_str2, ex_ri, dec_true, at0, at1, at2, at3, at4, at5, at6, at7, List.getElem?_cons_zero, List.getElem?_cons_succ, List.set_cons_zero, List.set_cons_succ, List.length_cons, List.length_nil, Nat.reduceAdd, le_line, Nat.reduceLeDiff, upd_same, Bool.false_eq_true, if_false, if_true, ite_true, ite_false, List.cons_append, List.nil_append, List.append_nil, rSetM, ix30, ix31, ix32, upd_upd, ex_some, seqAt, tEv, tEvT, evVar, evC, ev2, ev1, evAnd, evOr, evIx, evCons, evNil, evCall, evLen, lenAt, fI_ii, kLt, kLe, kGt, kGe, kAdd, kSub, fEq, fNe, fMod_lit, fIn_s, fIn_i, fAnd_bb, fOr_bb, fNot_b, fIsN_n, fNotN_n, ex_sbl, ex_cons, Int.reduceLT, spP, decide_true, decide_false, Bool.not_true, Bool.not_false, Bool.and_false, Bool.false_and, Bool.or_true, Bool.true_or, Bool.or_false, Bool.false_or, reduceCtorEq, false_and, and_false, fDiv_lit, fNeg_i, Int.reduceNeg, ht2]), .str b.out.2.2, (by simp only [tSeq, tNext, tIfS, tRet, tRetN, tDrop, tAsg, gName, gTup, gCons, gNil, gSub, tTest, tOp, tUn, tVar, tC, tB, tInC, tAnd, tOr, tNot, tAndV, tOrV, tNotV, tIf, tCall, tCons, tNil, tTup, tLst, tCut, rI0, rI, rU, rEq, rNe, rIxM, rSetL, scal_ii, scal_ss, scal_bb, scal_nn, scal_is, scal_si, scal_sn, scal_ns, flat_i, flat_s, flat_b, flat_n, List.all_cons, List.all_nil, Bool.and_true, Bool.true_and, true_and, and_true, ex_get, ex_int, ex_str, ex_bl, ex_ref, ex_int2, ex_str2, ex_ri, dec_true, at0, at1, at2, at3, at4, at5, at6, at7, List.getElem?_cons_zero, List.getElem?_cons_succ, List.set_cons_zero, List.set_cons_succ, List.length_cons, List.length_nil, Nat.reduceAdd, le_line, Nat.reduceLeDiff, upd_same, Bool.false_eq_true, if_false, if_true, ite_true, ite_false, List.cons_append, List.nil_append, List.append_nil, rSetM, ix30, ix31, ix32, upd_upd, ex_some, seqAt, tEv, tEvT, evVar, evC, ev2, ev1, evAnd, evOr, evIx, evCons, evNil, evCall, evLen, lenAt, fI_ii, kLt, kLe, kGt, kGe, kAdd, kSub, fEq, fNe, fMod_lit, fIn_s, fIn_i, fAnd_bb, fOr_bb, fNot_b, fIsN_n, fNotN_n, ex_sbl, ex_cons, Int.reduceLT, spP, decide_true, decide_false, Bool.not_true, Bool.not_false, Bool.and_false, Bool.false_and, Bool.or_true, Bool.true_or, Bool.or_false, Bool.false_or, reduceCtorEq, false_and, and_false, fDiv_lit, fNeg_i, Int.reduceNeg, ht2]), (by show 2 ≤ sizeLine; decide), fun p np => ?_⟩
        refine ⟨l, p, _, _, rfl, rfl, upd_old np hl2, upd_same, (Nat.le_of_lt (small1000 (by simp at ln2 ⊢; omega))), ?_⟩
        refine ⟨rfl, ?_, fun b o eb => by rw [upd_ne (ne_of_none eb nl)]; exact upd_new np b o (s2 b o eb)⟩
        rw [upd_same, show outB b.out = [b.out.2.1, b.out.2.2] from if_pos ho]
        simp only [List.map_append]
        rfl
      · refine ite_no (decide_eq_false ho) ⟨rfl, ?_, s2⟩
        rw [show outB b.out = [] from if_neg ho, List.append_nil]
        exact hl2
    rintro σ' H3 ⟨rfl, hl3, s3⟩
    exact ⟨_, rfl, k l H3 nl hl3 s3⟩
theorem sc_shown : FnScope ["entry"] ["entry"] (defScope s_shown) := ⟨rfl, rfl, rfl, by decide +kernel, rfl, by decide +kernel, by decide +kernel⟩
theorem ok_shown {f f_wball : Addr} {fd fd_wball : FuncData} (F : Fun K "shown_entry" "shown_entry" s_shown f fd) (T : Txt K mg e) (D_wball : Def K mg "words_of_ball" s_wball ["entry"] f_wball fd_wball) : FnOk P w K mg base CX0 2 f fd ["entry"] spShown := by
  have G_wball : FnOk P w K mg base CX0 1 f_wball fd_wball ["entry"] spWball := ok_wball D_wball.F T
  refine F.ok sc_shown (fun vs H Q E h => ?_) (fun cdv A outer s H vs Q E hr h => ?_)
  · obtain ⟨t, en, rfl, _⟩ := h
    rfl
  · obtain ⟨t, en, rfl, ht, ok, hw, k⟩ := h
    have hr_wball := hr.mono (by decide : 1 ≤ 1)
    refine ⟨_, (pss_cons (ps_if (pt_pp (ptp_eq (pp_ix (pp_var 0) (pp_c pe_int) (fun _ _ => rfl)) (pp_c pe_str)))
        (pss_one (ps_ret (pe_bm PySem.F.plainAttrs_str PySem.F.slot_str_join PySem.F.type_str_join mt_join pe_str (pa_cons (pe_call G_wball hr_wball rfl D_wball.m D_wball.F.kp D_wball.b .nil pass0 (pa_cons (pv 0) pa_nil)) pa_nil))))
        pss_nil)
      (pss_one (ps_ret (pe_bm PySem.F.plainAttrs_str PySem.F.slot_str_join PySem.F.type_str_join mt_joinT pe_str (pa_cons (pv 0) pa_nil))))), ?_⟩
    change (_ : Ends → St → Hp → Prop) _ [some (.ref t)] H
    have sm : (en.ws.map (·.length)).sum + en.ws.length * (Str.ofString " ").length ≤ 16777216 := by
      have h1 := sum_le20 hw
      have h2 := Ent.ws_len ok
      have h3 : (Str.ofString " ").length = 1 := by decide +kernel
      rw [h3]
      omega
    cases en with
    | ball b =>
      have ht' : H t = some (.tup [.str "ball", .str b.kind, .int b.runs, .bl b.rope, .str b.out.1, .str b.out.2.1, .str b.out.2.2]) := ht
      refine ⟨true, (by simp only [tSeq, tNext, tIfS, tRet, tRetN, tDrop, tAsg, gName, gTup, gCons, gNil, gSub, tTest, tOp, tUn, tVar, tC, tB, tInC, tAnd, tOr, tNot, tAndV, tOrV, tNotV, tIf, tCall, tCons, tNil, tTup, tLst, tCut, rI0, rI, rU, rEq, rNe, rIxM, rSetL, scal_ii, scal_ss, scal_bb, scal_nn, scal_is, scal_si, scal_sn, scal_ns, flat_i, flat_s, flat_b, flat_n, List.all_cons, List.all_nil, Bool.and_true, Bool.true_and, true_and, and_true, ex_get, ex_int, ex_str, ex_bl, ex_ref, ex_int2, ex_str2, ex_ri, dec_true, at0, at1, at2, at3, at4, at5, at6, at7, List.getElem?_cons_zero, List.getElem?_cons_succ, List.set_cons_zero, List.set_cons_succ, List.length_cons, List.length_nil, Nat.reduceAdd, le_line, Nat.reduceLeDiff, upd_same, Bool.false_eq_true, if_false, if_true, ite_true, ite_false, List.cons_append, List.nil_append, List.append_nil, rSetM, ix30, ix31, ix32, upd_upd, ex_some, seqAt, tEv, tEvT, evVar, evC, ev2, ev1, evAnd, evOr, evIx, evCons, evNil, evCall, evLen, lenAt, fI_ii, kLt, kLe, kGt, kGe, kAdd, kSub, fEq, fNe, fMod_lit, fIn_s, fIn_i, fAnd_bb, fOr_bb, fNot_b, fIsN_n, fNotN_n, ex_sbl, ex_cons, Int.reduceLT, spP, decide_true, decide_false, Bool.not_true, Bool.not_false, Bool.and_false, Bool.false_and, Bool.or_true, Bool.true_or, Bool.or_false, Bool.false_or, reduceCtorEq, false_and, and_false, fDiv_lit, fNeg_i, Int.reduceNeg, ht']), iteT ?_⟩
      refine ⟨rfl, _, rfl, t, b, rfl, ht, ?_, fun l H1 nl hl s1 => ?_⟩
      · obtain ⟨_, ⟨j, hj, ej⟩, _⟩ := ok
        rw [ej]
        have := Nat.log2_le_self j
        show j.log2 < 1920
        omega
      · exact ⟨_, l, _, rfl, rfl, hl, sm, k H1 s1⟩
    | names x r =>
      have ht' : H t = some (.tup (.str x :: r.map V.str)) := ht
      refine ⟨decide (V.str x = .str "ball"), (by simp only [tSeq, tNext, tIfS, tRet, tRetN, tDrop, tAsg, gName, gTup, gCons, gNil, gSub, tTest, tOp, tUn, tVar, tC, tB, tInC, tAnd, tOr, tNot, tAndV, tOrV, tNotV, tIf, tCall, tCons, tNil, tTup, tLst, tCut, rI0, rI, rU, rEq, rNe, rIxM, rSetL, scal_ii, scal_ss, scal_bb, scal_nn, scal_is, scal_si, scal_sn, scal_ns, flat_i, flat_s, flat_b, flat_n, List.all_cons, List.all_nil, Bool.and_true, Bool.true_and, true_and, and_true, ex_get, ex_int, ex_str, ex_bl, ex_ref, ex_int2, ex_str2, ex_ri, dec_true, at0, at1, at2, at3, at4, at5, at6, at7, List.getElem?_cons_zero, List.getElem?_cons_succ, List.set_cons_zero, List.set_cons_succ, List.length_cons, List.length_nil, Nat.reduceAdd, le_line, Nat.reduceLeDiff, upd_same, Bool.false_eq_true, if_false, if_true, ite_true, ite_false, List.cons_append, List.nil_append, List.append_nil, rSetM, ix30, ix31, ix32, upd_upd, ex_some, seqAt, tEv, tEvT, evVar, evC, ev2, ev1, evAnd, evOr, evIx, evCons, evNil, evCall, evLen, lenAt, fI_ii, kLt, kLe, kGt, kGe, kAdd, kSub, fEq, fNe, fMod_lit, fIn_s, fIn_i, fAnd_bb, fOr_bb, fNot_b, fIsN_n, fNotN_n, ex_sbl, ex_cons, Int.reduceLT, spP, decide_true, decide_false, Bool.not_true, Bool.not_false, Bool.and_false, Bool.false_and, Bool.or_true, Bool.true_or, Bool.or_false, Bool.false_or, reduceCtorEq, false_and, and_false, fDiv_lit, fNeg_i, Int.reduceNeg, ht']), ite_no (decide_eq_false ?_) ?_⟩
      · exact (nb_ne x (nb_mem ok.1)).1
      · exact ⟨rfl, _, rfl, _, t, _, rfl, rfl, SqT.of ht, sm, k H (Same.refl _)⟩
end
end My

set_option Elab.async false
set_option linter.all false
set_option maxRecDepth 100000
set_option maxHeartbeats 4000000
namespace My
open PySem L2
/-! ### what is written is read -/
theorem out_way : ∀ y ∈ wayL, outOf (outA (y, emS, emS) ++ outB (y, emS, emS)) = some (y, emS, emS) ∧ ropeB (outA (y, emS, emS) ++ outB (y, emS, emS)) = false ∧ (∀ z ∈ outA (y, emS, emS) ++ outB (y, emS, emS), WordOk z) := by
  unfold WordOk
  decide +kernel
theorem out_em : outOf (outA (emS, emS, emS) ++ outB (emS, emS, emS)) = some (emS, emS, emS) ∧ ropeB (outA (emS, emS, emS) ++ outB (emS, emS, emS)) = false ∧ (∀ z ∈ outA (emS, emS, emS) ++ outB (emS, emS, emS), WordOk z) := by
  unfold WordOk
  decide +kernel
theorem end_in : ∀ d ∈ endL, inV (.str d) (endL.map V.str) = true ∧ WordOk d := by
  unfold WordOk
  decide +kernel
theorem kind_in : ∀ d ∈ kindL, inV (.str d) (kindL.map V.str) = true ∧ WordOk d := by
  unfold WordOk
  decide +kernel
theorem num_in : ∀ j ∈ List.range 10, okN (numW (j : Nat)) = true ∧ valN (numW (j : Nat)) = (j : Int) ∧ WordOk (numW (j : Nat)) := by
  unfold WordOk
  decide +kernel
theorem rope_word : WordOk (Str.ofString "rope") ∧ WordOk (Str.ofString "out") ∧ WordOk (Str.ofString "run") := by
  unfold WordOk
  decide +kernel
theorem abc_free : ∀ c ∈ abc.cps.toList, c ≠ 32 ∧ c ≠ 10 := by decide +kernel
theorem name_word {x : Str} (h : nameB x = true) : WordOk x := by
  obtain ⟨h1, h2, h3⟩ := nameB_to h
  refine ⟨fun z => ?_, fun z => (abc_free 32 (h3 32 z)).1 rfl, fun z => (abc_free 10 (h3 10 z)).2 rfl, by omega⟩
  rw [z] at h1
  exact absurd h1 (by decide)
theorem out_read {o : Str × Str × Str} (h : OutOk o) : outOf (outA o ++ outB o) = some o ∧ ropeB (outA o ++ outB o) = false ∧ ∀ z ∈ outA o ++ outB o, WordOk z := by
  rcases h with rfl | ⟨y, hy, rfl⟩ | ⟨n, d, hn, hd, rfl⟩
  · exact out_em
  · exact out_way y hy
  · have ea : outA (Str.ofString "run", n, d) = [Str.ofString "out", Str.ofString "run"] := if_neg (show V.str (Str.ofString "run") ≠ .str (Str.ofString "") by decide +kernel)
    have eb : outB (Str.ofString "run", n, d) = [n, d] := if_pos rfl
    rw [ea, eb]
    refine ⟨?_, ?_, ?_⟩
    · show (if V.str (Str.ofString "out") = .str "out" then outTail [Str.ofString "run", n, d] else none) = _
      rw [if_pos rfl]
      exact if_pos ⟨rfl, hn, (end_in d hd).1⟩
    · show decide (V.str (Str.ofString "out") = .str (Str.ofString "rope")) = false
      decide +kernel
    · intro z hz
      simp only [List.cons_append, List.nil_append, List.mem_cons, List.not_mem_nil, or_false] at hz
      rcases hz with rfl | rfl | rfl | rfl
      · exact rope_word.2.1
      · exact rope_word.2.2
      · exact name_word hn
      · exact (end_in _ hd).2
theorem ent_read {en : Ent} (ok : en.Ok) : entryOf en.ws = some en.vals := by
  cases en with
  | names x r =>
    obtain ⟨h, _⟩ := ok
    have hb : ballOf (x :: r) = none := by
      cases r with
      | nil => rfl
      | cons n r => exact if_neg (fun z => by rw [(nb_ne x (nb_mem h)).2.1] at z; exact Bool.false_ne_true z.1)
    show (match ballOf (x :: r) with | some b => some b.vals | none => if namesB (x :: r) = true then some ((x :: r).map V.str) else none) = _
    rw [hb]
    exact if_pos h
  | ball b =>
    obtain ⟨hk, ⟨j, hj, ej⟩, ho⟩ := ok
    obtain ⟨o1, o2, _⟩ := out_read ho
    obtain ⟨n1, n2, _⟩ := num_in j (List.mem_range.mpr (by omega))
    have hb : ballOf (b.kind :: numW b.runs :: (ropeW b.rope ++ outA b.out ++ outB b.out)) = some b := by
      rw [ej]
      refine (if_pos ⟨(kind_in _ hk).1, n1, by rw [n2]; omega⟩).trans ?_
      have er : ropeB (ropeW b.rope ++ outA b.out ++ outB b.out) = b.rope := by
        cases hr : b.rope with
        | false => exact o2
        | true =>
          show decide (V.str (Str.ofString "rope") = .str (Str.ofString "rope")) = true
          exact decide_eq_true rfl
      have e3 : (if ropeB (ropeW b.rope ++ outA b.out ++ outB b.out) = true then (ropeW b.rope ++ outA b.out ++ outB b.out).drop 1 else ropeW b.rope ++ outA b.out ++ outB b.out) = outA b.out ++ outB b.out := by
        rw [er]
        cases hr : b.rope with
        | false => rfl
        | true => rfl
      rw [e3, er, o1, n2, ← ej]
      rfl
    show (match ballOf (b.kind :: numW b.runs :: (ropeW b.rope ++ outA b.out ++ outB b.out)) with | some b => some b.vals | none => _) = _
    rw [hb]
    rfl
theorem ent_words {en : Ent} (ok : en.Ok) : ∀ x ∈ en.ws, WordOk x := by
  cases en with
  | names x r =>
    obtain ⟨h, _⟩ := ok
    intro z hz
    rcases List.mem_cons.mp hz with rfl | hz
    · exact (nb_ne _ (nb_mem h)).2.2
    · have h' : (decide ((valV nbK (.inr x)).getD .non = .int (r.length : Nat)) && r.all nameB) = true := h
      rw [Bool.and_eq_true, List.all_eq_true] at h'
      exact name_word (h'.2 z hz)
  | ball b =>
    obtain ⟨hk, ⟨j, hj, ej⟩, ho⟩ := ok
    obtain ⟨_, _, o3⟩ := out_read ho
    obtain ⟨_, _, n3⟩ := num_in j (List.mem_range.mpr (by omega))
    intro z hz
    have hz' : z ∈ b.kind :: numW b.runs :: (ropeW b.rope ++ (outA b.out ++ outB b.out)) := by
      rw [← List.append_assoc]
      exact hz
    rcases List.mem_cons.mp hz' with rfl | hz'
    · exact (kind_in _ hk).2
    rcases List.mem_cons.mp hz' with rfl | hz'
    · rw [ej]; exact n3
    rcases List.mem_append.mp hz' with hz' | hz'
    · unfold ropeW at hz'
      split at hz'
      · rw [List.mem_singleton.mp hz']; exact rope_word.1
      · cases hz'
    · exact o3 z hz'
end My

set_option Elab.async false
set_option linter.all false
set_option maxRecDepth 100000
set_option maxHeartbeats 4000000
namespace My
open PySem L2
/-! ### _law_ball, _law_entry -/
theorem at_mem {L : List Str} {v : Int} (h0 : 0 ≤ v) (h1 : v < (L.length : Int)) : ∃ x, atI (L.map V.str) v = some (.str x) ∧ x ∈ L := by
  obtain ⟨j, rfl⟩ := Int.eq_ofNat_of_zero_le h0
  have hj : j < L.length := by omega
  exact ⟨L[j], atI_nat (by rw [List.getElem?_map, List.getElem?_eq_getElem hj]; rfl), List.getElem_mem hj⟩
def ways10 : List Str := ["", "", "", "run", "run", "bowled", "caught", "before", "stumped", "hit"]
theorem ways10_ok : ∀ y ∈ ways10, V.str y ≠ .str "run" → y = emS ∨ y ∈ wayL := by decide +kernel
theorem DrawAt.nw {H : Hp} {d l a : Addr} {cs : List Int} {n : Nat} {o : HO} (D : DrawAt H d l cs n) (ha : H a = none) : DrawAt (L2.upd H a o) d l cs n := D.upd (D.nd ha).1 (D.nd ha).2
theorem but_new {H H' : Hp} {d a : Addr} {o : HO} (k : But d H H') (ha : H' a = none) : But d H (upd H' a o) := fun b u e n => upd_old ha (k b u e n)
def spLball : Sp := fun vs H Q _ => ∃ (d l : Addr) (cs : List Int) (n : Nat), vs = [.ref d] ∧ DrawAt H d l cs n ∧ n < 800000 ∧ ∀ (t : Addr) (b : BallW) (H' : Hp), (Ent.ball b).Ok → H t = none → H' t = some (.tup b.vals) → DrawAt H' d l cs (n + 90) → But d H H' → Q (.ref t) H'
def spLentry : Sp := fun vs H Q _ => ∃ (d l : Addr) (cs : List Int) (n : Nat), vs = [.ref d] ∧ DrawAt H d l cs n ∧ n < 700000 ∧ ∀ (t : Addr) (en : Ent) (H' : Hp), en.Ok → H t = none → H' t = some (.tup en.vals) → DrawAt H' d l cs (n + 400) → But d H H' → Q (.ref t) H'
theorem but_free {H H' : Hp} {d l a : Addr} {cs : List Int} {n : Nat} (k : But d H H') (D : DrawAt H' d l cs n) (ha : H' a = none) : H a = none := by
  cases e : H a with
  | none => rfl
  | some o => rw [k a o e (D.nd ha).1] at ha; cases ha
section
variable {P : Program} {w : World} {K : PySem.W.Frag} {mg : Str → Option Value} {base : Heap} {e : Ext}
theorem sc_lball : FnScope ["_law_draw", "_law_kind", "_law_runs", "_law_rope", "_law_way"] ["_law_draw"] (defScope s_lball) := ⟨rfl, rfl, rfl, by decide +kernel, rfl, by decide +kernel, by decide +kernel⟩
theorem ok_lball {f f_pick f_letters f_kws f_name : Addr} {fd fd_pick fd_letters fd_kws fd_name : FuncData} (F : Fun K "_law_ball" "_law_ball" s_lball f fd) (T : Txt K mg e) (D_pick : Def K mg "_law_pick" s_pick ["_law_draw", "_law_many"] f_pick fd_pick)
    (D_letters : Def K mg "_law_letters" s_letters ["_law_draw", "_law_many"] f_letters fd_letters) (D_kws : Def K mg "_law_keywords" s_kws [] f_kws fd_kws) (D_name : Def K mg "_law_name" s_name ["_law_draw"] f_name fd_name) : FnOk P w K mg base CX0 4 f fd ["_law_draw"] spLball := by
  have G_pick : FnOk P w K mg base CX0 1 f_pick fd_pick ["_law_draw", "_law_many"] spPick := ok_pick D_pick.F T
  have G_name : FnOk P w K mg base CX0 3 f_name fd_name ["_law_draw"] spNameD := ok_name D_name.F T D_pick D_letters D_kws
  refine F.ok sc_lball (fun vs H Q E h => ?_) (fun cdv A outer s H vs Q E hr h => ?_)
  · obtain ⟨d, l, cs, n, rfl, _⟩ := h
    rfl
  · obtain ⟨d, l, cs, n, rfl, D0, hn, k⟩ := h
    have hr_pick := hr.mono (by decide : 1 ≤ 3)
    have hr_name := hr.mono (by decide : 3 ≤ 3)
    refine ⟨_, (pss_cons (ps_set (i := 1) sc_lball.nd rfl (Or.inl rfl) (pe_ix ix_m (pe_lst (pa_consK pe_str (pa_consK pe_str (pa_consK pe_str (pa_consK pe_str (pa_consK pe_str (pa_consK pe_str pa_nil))))))) (pe_call G_pick hr_pick rfl D_pick.m D_pick.F.kp D_pick.b .nil pass0 (pa_cons (pv 0) (pa_consK pe_int pa_nil))) (fun _ _ => rfl)))
      (pss_cons (ps_set (i := 2) sc_lball.nd rfl (Or.inl rfl) (pe_call G_pick hr_pick rfl D_pick.m D_pick.F.kp D_pick.b .nil pass0 (pa_cons (pv 0) (pa_consK pe_int pa_nil))))
      (pss_cons (ps_set (i := 3) sc_lball.nd rfl (Or.inl rfl) (pe_cmpR op_eq (pe_call G_pick hr_pick rfl D_pick.m D_pick.F.kp D_pick.b .nil pass0 (pa_cons (pv 0) (pa_consK pe_int pa_nil))) pe_int (nomark _)))
      (pss_cons (ps_set (i := 4) sc_lball.nd rfl (Or.inl rfl) (pe_ix ix_m (pe_lst (pa_consK pe_str (pa_consK pe_str (pa_consK pe_str (pa_consK pe_str (pa_consK pe_str (pa_consK pe_str (pa_consK pe_str (pa_consK pe_str (pa_consK pe_str (pa_consK pe_str pa_nil))))))))))) (pe_call G_pick hr_pick rfl D_pick.m D_pick.F.kp D_pick.b .nil pass0 (pa_cons (pv 0) (pa_consK pe_int pa_nil))) (fun _ _ => rfl)))
      (pss_cons (ps_if (pt_pp (ptp_eq (pp_var 4) (pp_c pe_str)))
        (pss_one (ps_ret (pe_tup (pa_consK pe_str (pa_cons (pv 1) (pa_cons (pv 2) (pa_cons (pv 3) (pa_cons (pv 4) (pa_cons (pe_call G_name hr_name rfl D_name.m D_name.F.kp D_name.b .nil pass0 (pa_cons (pv 0) pa_nil)) (pa_cons (pe_ix ix_m (pe_lst (pa_consK pe_str (pa_consK pe_str pa_nil))) (pe_call G_pick hr_pick rfl D_pick.m D_pick.F.kp D_pick.b .nil pass0 (pa_cons (pv 0) (pa_consK pe_int pa_nil))) (fun _ _ => rfl)) pa_nil))))))))))
        pss_nil)
      (pss_one (ps_ret (pe_tup (pa_consK pe_str (pa_cons (pv 1) (pa_cons (pv 2) (pa_cons (pv 3) (pa_cons (pv 4) (pa_consK pe_str (pa_consK pe_str pa_nil))))))))))))))), ?_⟩
    change (_ : Ends → St → Hp → Prop) _ [some (.ref d), none, none, none, none] H
    refine ⟨(by show 6 ≤ sizeLine; decide), fun l1 n1 => ⟨_, rfl, d, l, cs, n, 6, rfl, by decide, by decide, D0.nw n1, by omega, fun v1 H1 a1 b1 D1 k1 => ?_⟩⟩
    obtain ⟨kd, ek, mk⟩ := at_mem (L := kindL) a1 b1
    have e1 : H1 l1 = some (.lst (kindL.map V.str)) := k1 l1 _ upd_same (D0.nd n1).1
    have g1 : But d H H1 := fun b o eb nb => k1 b o (upd_new n1 b o eb) nb
    refine ⟨l1, v1, rfl, rfl, .str kd, (seq_l e1).trans ek, ?_⟩
    refine ⟨_, rfl, d, l, cs, n + 1, 10, rfl, by decide, by decide, D1, by omega, fun v2 H2 a2 b2 D2 k2 => ?_⟩
    refine ⟨_, rfl, d, l, cs, n + 1 + 1, 3, rfl, by decide, by decide, D2, by omega, fun v3 H3 a3 b3 D3 k3 => ⟨rfl, ?_⟩⟩
    refine ⟨(by show 10 ≤ sizeLine; decide), fun l4 n4 => ⟨_, rfl, d, l, cs, n + 1 + 1 + 1, 10, rfl, by decide, by decide, D3.nw n4, by omega, fun v4 H4 a4 b4 D4 k4 => ?_⟩⟩
    obtain ⟨y, ey, my⟩ := at_mem (L := ways10) a4 b4
    have e4 : H4 l4 = some (.lst (ways10.map V.str)) := k4 l4 _ upd_same (D3.nd n4).1
    have g3 : But d H H3 := (g1.trans k2).trans k3
    have g4 : But d H H4 := fun b o eb nb => k4 b o (upd_new n4 b o (g3 b o eb nb)) nb
    refine ⟨l4, v4, rfl, rfl, .str y, (seq_l e4).trans ey, ?_⟩
    obtain ⟨j, rfl⟩ := Int.eq_ofNat_of_zero_le a2
    refine ⟨decide (V.str y = .str "run"), (by simp only [tSeq, tNext, tIfS, tRet, tRetN, tDrop, tAsg, gName, gTup, gCons, gNil, gSub, tTest, tOp, tUn, tVar, tC, tB, tInC, tAnd, tOr, tNot, tAndV, tOrV, tNotV, tIf, tCall, tCons, tNil, tTup, tLst, tCut, rI0, rI, rU, rEq, rNe, rIxM, rSetL, scal_ii, scal_ss, scal_bb, scal_nn, scal_is, scal_si, scal_sn, scal_ns, flat_i, flat_s, flat_b, flat_n, List.all_cons, List.all_nil, Bool.and_true, Bool.true_and, true_and, and_true, ex_get, ex_int, ex_str, ex_bl, ex_ref, ex_int2, ex_str2, ex_ri, dec_true, at0, at1, at2, at3, at4, at5, at6, at7, List.getElem?_cons_zero, List.getElem?_cons_succ, List.set_cons_zero, List.set_cons_succ, List.length_cons, List.length_nil, Nat.reduceAdd, le_line, Nat.reduceLeDiff, upd_same, Bool.false_eq_true, if_false, if_true, ite_true, ite_false, List.cons_append, List.nil_append, List.append_nil, rSetM, ix30, ix31, ix32, upd_upd, ex_some, seqAt, tEv, tEvT, evVar, evC, ev2, ev1, evAnd, evOr, evIx, evCons, evNil, evCall, evLen, lenAt, fI_ii, kLt, kLe, kGt, kGe, kAdd, kSub, fEq, fNe, fMod_lit, fIn_s, fIn_i, fAnd_bb, fOr_bb, fNot_b, fIsN_n, fNotN_n, ex_sbl, ex_cons, Int.reduceLT, spP, decide_true, decide_false, Bool.not_true, Bool.not_false, Bool.and_false, Bool.false_and, Bool.or_true, Bool.true_or, Bool.or_false, Bool.false_or, reduceCtorEq, false_and, and_false, fDiv_lit, fNeg_i, Int.reduceNeg]), ?_⟩
    by_cases hy : V.str y = .str "run"
    · refine ite_yes (decide_eq_true hy) ?_
      have ey : y = Str.ofString "run" := by injection hy
      subst ey
      refine ⟨_, rfl, _, rfl, _, rfl, _, rfl, _, rfl, d, l, cs, _, rfl, D4, by omega, fun z H5 hz D5 k5 => ?_⟩
      refine ⟨(by show 2 ≤ sizeLine; decide), fun l6 n6 => ⟨_, rfl, d, l, cs, _, 2, rfl, by decide, by decide, D5.nw n6, by omega, fun v6 H6 a6 b6 D6 k6 => ?_⟩⟩
      obtain ⟨en, een, men⟩ := at_mem (L := endL) a6 b6
      have e6 : H6 l6 = some (.lst (endL.map V.str)) := k6 l6 _ upd_same (D5.nd n6).1
      have g5 := g4.trans k5
      have g6 : But d H H6 := fun b o eb nb => k6 b o (upd_new n6 b o (g5 b o eb nb)) nb
      refine ⟨l6, v6, rfl, rfl, .str en, (seq_l e6).trans een, (by show 7 ≤ sizeLine; decide), fun t nt => ?_⟩
      exact k t ⟨kd, (j : Int), decide (V.int v3 = .int 0), Str.ofString "run", z, en⟩ _ ⟨mk, ⟨j, by omega, rfl⟩, .inr (.inr ⟨z, en, hz, men, rfl⟩)⟩ (but_free g6 D6 nt) upd_same ((D6.nw nt).mono (by omega)) (but_new g6 nt)
    · refine ite_no (decide_eq_false hy) ?_
      refine ⟨_, rfl, _, rfl, _, rfl, _, rfl, (by show 7 ≤ sizeLine; decide), fun t nt => ?_⟩
      refine k t ⟨kd, (j : Int), decide (V.int v3 = .int 0), y, emS, emS⟩ _ ⟨mk, ⟨j, by omega, rfl⟩, ?_⟩ (but_free g4 D4 nt) upd_same ((D4.nw nt).mono (by omega)) (but_new g4 nt)
      rcases ways10_ok y my hy with rfl | h
      · exact .inl rfl
      · exact .inr (.inl ⟨y, h, rfl⟩)
end
end My

set_option Elab.async false
set_option linter.all false
set_option maxRecDepth 100000
set_option maxHeartbeats 4000000
namespace My
open PySem L2
theorem names_ok {x : Str} {r : List Str} (h : (valV nbK (.inr x)).getD .non = .int (r.length : Nat)) (hr : ∀ z ∈ r, nameB z = true) (hl : r.length ≤ 4) : (Ent.names x r).Ok := by
  refine ⟨?_, hl⟩
  show (decide ((valV nbK (.inr x)).getD .non = .int (r.length : Nat)) && r.all nameB) = true
  rw [decide_eq_true h, Bool.true_and]
  exact List.all_eq_true.mpr hr
def one3 : List Str := ["in", "bowl", "hurt"]
def none3 : List Str := ["declare", "follow", "close"]
theorem one3_ok : ∀ x ∈ one3, (valV nbK (.inr x)).getD .non = .int (1 : Nat) := by decide +kernel
theorem none3_ok : ∀ x ∈ none3, (valV nbK (.inr x)).getD .non = .int (0 : Nat) := by decide +kernel
theorem start_ok : (valV nbK (.inr (Str.ofString "start"))).getD .non = .int (4 : Nat) ∧ (valV nbK (.inr (Str.ofString "swap"))).getD .non = .int (2 : Nat) := by decide +kernel
section
variable {P : Program} {w : World} {K : PySem.W.Frag} {mg : Str → Option Value} {base : Heap} {e : Ext}
theorem sc_lentry : FnScope ["_law_draw", "_law_way"] ["_law_draw"] (defScope s_lentry) := ⟨rfl, rfl, rfl, by decide +kernel, rfl, by decide +kernel, by decide +kernel⟩
theorem ok_lentry {f f_pick f_letters f_kws f_name f_lball : Addr} {fd fd_pick fd_letters fd_kws fd_name fd_lball : FuncData} (F : Fun K "_law_entry" "_law_entry" s_lentry f fd) (T : Txt K mg e) (D_pick : Def K mg "_law_pick" s_pick ["_law_draw", "_law_many"] f_pick fd_pick)
    (D_letters : Def K mg "_law_letters" s_letters ["_law_draw", "_law_many"] f_letters fd_letters) (D_kws : Def K mg "_law_keywords" s_kws [] f_kws fd_kws) (D_name : Def K mg "_law_name" s_name ["_law_draw"] f_name fd_name) (D_lball : Def K mg "_law_ball" s_lball ["_law_draw"] f_lball fd_lball) : FnOk P w K mg base CX0 5 f fd ["_law_draw"] spLentry := by
  have G_pick : FnOk P w K mg base CX0 1 f_pick fd_pick ["_law_draw", "_law_many"] spPick := ok_pick D_pick.F T
  have G_name : FnOk P w K mg base CX0 3 f_name fd_name ["_law_draw"] spNameD := ok_name D_name.F T D_pick D_letters D_kws
  have G_lball : FnOk P w K mg base CX0 4 f_lball fd_lball ["_law_draw"] spLball := ok_lball D_lball.F T D_pick D_letters D_kws D_name
  refine F.ok sc_lentry (fun vs H Q E h => ?_) (fun cdv A outer s H vs Q E hr h => ?_)
  · obtain ⟨d, l, cs, n, rfl, _⟩ := h
    rfl
  · obtain ⟨d, l, cs, n, rfl, D0, hn, k⟩ := h
    have hr_pick := hr.mono (by decide : 1 ≤ 4)
    have hr_name := hr.mono (by decide : 3 ≤ 4)
    have hr_lball := hr.mono (by decide : 4 ≤ 4)
    refine ⟨_, (pss_cons (ps_set (i := 1) sc_lentry.nd rfl (Or.inl rfl) (pe_call G_pick hr_pick rfl D_pick.m D_pick.F.kp D_pick.b .nil pass0 (pa_cons (pv 0) (pa_consK pe_int pa_nil))))
      (pss_cons (ps_if (pt_pp (ptp_lt (pp_var 1) (pp_c pe_int)))
        (pss_one (ps_ret (pe_call G_lball hr_lball rfl D_lball.m D_lball.F.kp D_lball.b .nil pass0 (pa_cons (pv 0) pa_nil))))
        pss_nil)
      (pss_cons (ps_if (pt_pp (ptp_eq (pp_var 1) (pp_c pe_int)))
        (pss_one (ps_ret (pe_tup (pa_consK pe_str (pa_cons (pe_call G_name hr_name rfl D_name.m D_name.F.kp D_name.b .nil pass0 (pa_cons (pv 0) pa_nil)) (pa_cons (pe_call G_name hr_name rfl D_name.m D_name.F.kp D_name.b .nil pass0 (pa_cons (pv 0) pa_nil)) (pa_cons (pe_call G_name hr_name rfl D_name.m D_name.F.kp D_name.b .nil pass0 (pa_cons (pv 0) pa_nil)) (pa_cons (pe_call G_name hr_name rfl D_name.m D_name.F.kp D_name.b .nil pass0 (pa_cons (pv 0) pa_nil)) pa_nil))))))))
        pss_nil)
      (pss_cons (ps_if (pt_pp (ptp_eq (pp_var 1) (pp_c pe_int)))
        (pss_one (ps_ret (pe_tup (pa_consK pe_str (pa_cons (pe_call G_name hr_name rfl D_name.m D_name.F.kp D_name.b .nil pass0 (pa_cons (pv 0) pa_nil)) (pa_cons (pe_call G_name hr_name rfl D_name.m D_name.F.kp D_name.b .nil pass0 (pa_cons (pv 0) pa_nil)) pa_nil))))))
        pss_nil)
      (pss_cons (ps_if (pt_pp (ptp_lt (pp_var 1) (pp_c pe_int)))
        (pss_one (ps_ret (pe_tup (pa_cons (pe_ix ix_m (pe_lst (pa_consK pe_str (pa_consK pe_str (pa_consK pe_str pa_nil)))) (pe_pp (pp_sub (pp_var 1) (pp_c pe_int))) (fun _ _ => rfl)) (pa_cons (pe_call G_name hr_name rfl D_name.m D_name.F.kp D_name.b .nil pass0 (pa_cons (pv 0) pa_nil)) pa_nil)))))
        pss_nil)
      (pss_one (ps_ret (pe_tup (pa_cons (pe_ix ix_m (pe_lst (pa_consK pe_str (pa_consK pe_str (pa_consK pe_str pa_nil)))) (pe_pp (pp_sub (pp_var 1) (pp_c pe_int))) (fun _ _ => rfl)) pa_nil))))))))), ?_⟩
    change (_ : Ends → St → Hp → Prop) _ [some (.ref d), none] H
    refine ⟨_, rfl, d, l, cs, n, 16, rfl, by decide, by decide, D0, by omega, fun v H1 a1 b1 D1 k1 => ?_⟩
    refine ⟨decide (v < 8), (by simp only [tSeq, tNext, tIfS, tRet, tRetN, tDrop, tAsg, gName, gTup, gCons, gNil, gSub, tTest, tOp, tUn, tVar, tC, tB, tInC, tAnd, tOr, tNot, tAndV, tOrV, tNotV, tIf, tCall, tCons, tNil, tTup, tLst, tCut, rI0, rI, rU, rEq, rNe, rIxM, rSetL, scal_ii, scal_ss, scal_bb, scal_nn, scal_is, scal_si, scal_sn, scal_ns, flat_i, flat_s, flat_b, flat_n, List.all_cons, List.all_nil, Bool.and_true, Bool.true_and, true_and, and_true, ex_get, ex_int, ex_str, ex_bl, ex_ref, ex_int2, ex_str2, ex_ri, dec_true, at0, at1, at2, at3, at4, at5, at6, at7, List.getElem?_cons_zero, List.getElem?_cons_succ, List.set_cons_zero, List.set_cons_succ, List.length_cons, List.length_nil, Nat.reduceAdd, le_line, Nat.reduceLeDiff, upd_same, Bool.false_eq_true, if_false, if_true, ite_true, ite_false, List.cons_append, List.nil_append, List.append_nil, rSetM, ix30, ix31, ix32, upd_upd, ex_some, seqAt, tEv, tEvT, evVar, evC, ev2, ev1, evAnd, evOr, evIx, evCons, evNil, evCall, evLen, lenAt, fI_ii, kLt, kLe, kGt, kGe, kAdd, kSub, fEq, fNe, fMod_lit, fIn_s, fIn_i, fAnd_bb, fOr_bb, fNot_b, fIsN_n, fNotN_n, ex_sbl, ex_cons, Int.reduceLT, spP, decide_true, decide_false, Bool.not_true, Bool.not_false, Bool.and_false, Bool.false_and, Bool.or_true, Bool.true_or, Bool.or_false, Bool.false_or, reduceCtorEq, false_and, and_false, fDiv_lit, fNeg_i, Int.reduceNeg]), ite2 (fun c1 => ?_) (fun c1 => ?_)⟩
    · refine ⟨_, rfl, d, l, cs, _, rfl, D1, by omega, fun t b H2 ok nt ht D2 k2 => ?_⟩
      exact k t (.ball b) H2 ok (but_free k1 D1 nt) ht (D2.mono (by omega)) (k1.trans k2)
    refine ⟨decide (V.int v = .int 8), (by simp only [tSeq, tNext, tIfS, tRet, tRetN, tDrop, tAsg, gName, gTup, gCons, gNil, gSub, tTest, tOp, tUn, tVar, tC, tB, tInC, tAnd, tOr, tNot, tAndV, tOrV, tNotV, tIf, tCall, tCons, tNil, tTup, tLst, tCut, rI0, rI, rU, rEq, rNe, rIxM, rSetL, scal_ii, scal_ss, scal_bb, scal_nn, scal_is, scal_si, scal_sn, scal_ns, flat_i, flat_s, flat_b, flat_n, List.all_cons, List.all_nil, Bool.and_true, Bool.true_and, true_and, and_true, ex_get, ex_int, ex_str, ex_bl, ex_ref, ex_int2, ex_str2, ex_ri, dec_true, at0, at1, at2, at3, at4, at5, at6, at7, List.getElem?_cons_zero, List.getElem?_cons_succ, List.set_cons_zero, List.set_cons_succ, List.length_cons, List.length_nil, Nat.reduceAdd, le_line, Nat.reduceLeDiff, upd_same, Bool.false_eq_true, if_false, if_true, ite_true, ite_false, List.cons_append, List.nil_append, List.append_nil, rSetM, ix30, ix31, ix32, upd_upd, ex_some, seqAt, tEv, tEvT, evVar, evC, ev2, ev1, evAnd, evOr, evIx, evCons, evNil, evCall, evLen, lenAt, fI_ii, kLt, kLe, kGt, kGe, kAdd, kSub, fEq, fNe, fMod_lit, fIn_s, fIn_i, fAnd_bb, fOr_bb, fNot_b, fIsN_n, fNotN_n, ex_sbl, ex_cons, Int.reduceLT, spP, decide_true, decide_false, Bool.not_true, Bool.not_false, Bool.and_false, Bool.false_and, Bool.or_true, Bool.true_or, Bool.or_false, Bool.false_or, reduceCtorEq, false_and, and_false, fDiv_lit, fNeg_i, Int.reduceNeg]), ite2 (fun c2 => ?_) (fun c2 => ?_)⟩
    · refine ⟨_, rfl, d, l, cs, _, rfl, D1, by omega, fun z1 H2 h1 D2 k2 => ⟨_, rfl, d, l, cs, _, rfl, D2, by omega, fun z2 H3 h2 D3 k3 => ⟨_, rfl, d, l, cs, _, rfl, D3, by omega, fun z3 H4 h3 D4 k4 => ⟨_, rfl, d, l, cs, _, rfl, D4, by omega, fun z4 H5 h4 D5 k5 => ⟨(by show 5 ≤ sizeLine; decide), fun t nt => ?_⟩⟩⟩⟩⟩
      have g := (((k1.trans k2).trans k3).trans k4).trans k5
      refine k t (.names (Str.ofString "start") [z1, z2, z3, z4]) _ (names_ok start_ok.1 ?_ (by simp)) (but_free g D5 nt) upd_same ((D5.nw nt).mono (by omega)) (but_new g nt)
      intro z hz
      simp only [List.mem_cons, List.not_mem_nil, or_false] at hz
      rcases hz with rfl | rfl | rfl | rfl <;> assumption
    refine ⟨decide (V.int v = .int 9), (by simp only [tSeq, tNext, tIfS, tRet, tRetN, tDrop, tAsg, gName, gTup, gCons, gNil, gSub, tTest, tOp, tUn, tVar, tC, tB, tInC, tAnd, tOr, tNot, tAndV, tOrV, tNotV, tIf, tCall, tCons, tNil, tTup, tLst, tCut, rI0, rI, rU, rEq, rNe, rIxM, rSetL, scal_ii, scal_ss, scal_bb, scal_nn, scal_is, scal_si, scal_sn, scal_ns, flat_i, flat_s, flat_b, flat_n, List.all_cons, List.all_nil, Bool.and_true, Bool.true_and, true_and, and_true, ex_get, ex_int, ex_str, ex_bl, ex_ref, ex_int2, ex_str2, ex_ri, dec_true, at0, at1, at2, at3, at4, at5, at6, at7, List.getElem?_cons_zero, List.getElem?_cons_succ, List.set_cons_zero, List.set_cons_succ, List.length_cons, List.length_nil, Nat.reduceAdd, le_line, Nat.reduceLeDiff, upd_same, Bool.false_eq_true, if_false, if_true, ite_true, ite_false, List.cons_append, List.nil_append, List.append_nil, rSetM, ix30, ix31, ix32, upd_upd, ex_some, seqAt, tEv, tEvT, evVar, evC, ev2, ev1, evAnd, evOr, evIx, evCons, evNil, evCall, evLen, lenAt, fI_ii, kLt, kLe, kGt, kGe, kAdd, kSub, fEq, fNe, fMod_lit, fIn_s, fIn_i, fAnd_bb, fOr_bb, fNot_b, fIsN_n, fNotN_n, ex_sbl, ex_cons, Int.reduceLT, spP, decide_true, decide_false, Bool.not_true, Bool.not_false, Bool.and_false, Bool.false_and, Bool.or_true, Bool.true_or, Bool.or_false, Bool.false_or, reduceCtorEq, false_and, and_false, fDiv_lit, fNeg_i, Int.reduceNeg]), ite2 (fun c3 => ?_) (fun c3 => ?_)⟩
    · refine ⟨_, rfl, d, l, cs, _, rfl, D1, by omega, fun z1 H2 h1 D2 k2 => ⟨_, rfl, d, l, cs, _, rfl, D2, by omega, fun z2 H3 h2 D3 k3 => ⟨(by show 3 ≤ sizeLine; decide), fun t nt => ?_⟩⟩⟩
      have g := (k1.trans k2).trans k3
      refine k t (.names (Str.ofString "swap") [z1, z2]) _ (names_ok start_ok.2 ?_ (by simp)) (but_free g D3 nt) upd_same ((D3.nw nt).mono (by omega)) (but_new g nt)
      intro z hz
      simp only [List.mem_cons, List.not_mem_nil, or_false] at hz
      rcases hz with rfl | rfl <;> assumption
    have w8 : ¬ v < 8 := fun z => c1 (decide_eq_true z)
    have n8 : v ≠ 8 := fun z => c2 (decide_eq_true (by rw [z]))
    have n9 : v ≠ 9 := fun z => c3 (decide_eq_true (by rw [z]))
    refine ⟨decide (v < 13), (by simp only [tSeq, tNext, tIfS, tRet, tRetN, tDrop, tAsg, gName, gTup, gCons, gNil, gSub, tTest, tOp, tUn, tVar, tC, tB, tInC, tAnd, tOr, tNot, tAndV, tOrV, tNotV, tIf, tCall, tCons, tNil, tTup, tLst, tCut, rI0, rI, rU, rEq, rNe, rIxM, rSetL, scal_ii, scal_ss, scal_bb, scal_nn, scal_is, scal_si, scal_sn, scal_ns, flat_i, flat_s, flat_b, flat_n, List.all_cons, List.all_nil, Bool.and_true, Bool.true_and, true_and, and_true, ex_get, ex_int, ex_str, ex_bl, ex_ref, ex_int2, ex_str2, ex_ri, dec_true, at0, at1, at2, at3, at4, at5, at6, at7, List.getElem?_cons_zero, List.getElem?_cons_succ, List.set_cons_zero, List.set_cons_succ, List.length_cons, List.length_nil, Nat.reduceAdd, le_line, Nat.reduceLeDiff, upd_same, Bool.false_eq_true, if_false, if_true, ite_true, ite_false, List.cons_append, List.nil_append, List.append_nil, rSetM, ix30, ix31, ix32, upd_upd, ex_some, seqAt, tEv, tEvT, evVar, evC, ev2, ev1, evAnd, evOr, evIx, evCons, evNil, evCall, evLen, lenAt, fI_ii, kLt, kLe, kGt, kGe, kAdd, kSub, fEq, fNe, fMod_lit, fIn_s, fIn_i, fAnd_bb, fOr_bb, fNot_b, fIsN_n, fNotN_n, ex_sbl, ex_cons, Int.reduceLT, spP, decide_true, decide_false, Bool.not_true, Bool.not_false, Bool.and_false, Bool.false_and, Bool.or_true, Bool.true_or, Bool.or_false, Bool.false_or, reduceCtorEq, false_and, and_false, fDiv_lit, fNeg_i, Int.reduceNeg]), ite2 (fun c4 => ?_) (fun c4 => ?_)⟩
    · have w13 := of_decide_eq_true c4
      obtain ⟨x, ex, mx⟩ := at_mem (L := one3) (v := v - 10) (by omega) (by show v - 10 < 3; omega)
      refine ⟨(by show 3 ≤ sizeLine; decide), fun l1 n1 => ⟨.int (v - 10), (by simp only [tSeq, tNext, tIfS, tRet, tRetN, tDrop, tAsg, gName, gTup, gCons, gNil, gSub, tTest, tOp, tUn, tVar, tC, tB, tInC, tAnd, tOr, tNot, tAndV, tOrV, tNotV, tIf, tCall, tCons, tNil, tTup, tLst, tCut, rI0, rI, rU, rEq, rNe, rIxM, rSetL, scal_ii, scal_ss, scal_bb, scal_nn, scal_is, scal_si, scal_sn, scal_ns, flat_i, flat_s, flat_b, flat_n, List.all_cons, List.all_nil, Bool.and_true, Bool.true_and, true_and, and_true, ex_get, ex_int, ex_str, ex_bl, ex_ref, ex_int2, ex_str2, ex_ri, dec_true, at0, at1, at2, at3, at4, at5, at6, at7, List.getElem?_cons_zero, List.getElem?_cons_succ, List.set_cons_zero, List.set_cons_succ, List.length_cons, List.length_nil, Nat.reduceAdd, le_line, Nat.reduceLeDiff, upd_same, Bool.false_eq_true, if_false, if_true, ite_true, ite_false, List.cons_append, List.nil_append, List.append_nil, rSetM, ix30, ix31, ix32, upd_upd, ex_some, seqAt, tEv, tEvT, evVar, evC, ev2, ev1, evAnd, evOr, evIx, evCons, evNil, evCall, evLen, lenAt, fI_ii, kLt, kLe, kGt, kGe, kAdd, kSub, fEq, fNe, fMod_lit, fIn_s, fIn_i, fAnd_bb, fOr_bb, fNot_b, fIsN_n, fNotN_n, ex_sbl, ex_cons, Int.reduceLT, spP, decide_true, decide_false, Bool.not_true, Bool.not_false, Bool.and_false, Bool.false_and, Bool.or_true, Bool.true_or, Bool.or_false, Bool.false_or, reduceCtorEq, false_and, and_false, fDiv_lit, fNeg_i, Int.reduceNeg]), l1, v - 10, rfl, rfl, .str x, (seq_l upd_same).trans ex, _, rfl, d, l, cs, _, rfl, D1.nw n1, by omega, fun z1 H2 h1 D2 k2 => ⟨(by show 2 ≤ sizeLine; decide), fun t nt => ?_⟩⟩⟩
      have g : But d H H2 := fun b o eb nb => k2 b o (upd_new n1 b o (k1 b o eb nb)) nb
      refine k t (.names x [z1]) _ (names_ok (one3_ok x mx) ?_ (by simp)) (but_free g D2 nt) upd_same ((D2.nw nt).mono (by omega)) (but_new g nt)
      intro z hz
      rw [List.mem_singleton.mp hz]
      exact h1
    · have w13 : ¬ v < 13 := fun z => c4 (decide_eq_true z)
      obtain ⟨x, ex, mx⟩ := at_mem (L := none3) (v := v - 13) (by omega) (by show v - 13 < 3; omega)
      refine ⟨(by show 3 ≤ sizeLine; decide), fun l1 n1 => ⟨.int (v - 13), (by simp only [tSeq, tNext, tIfS, tRet, tRetN, tDrop, tAsg, gName, gTup, gCons, gNil, gSub, tTest, tOp, tUn, tVar, tC, tB, tInC, tAnd, tOr, tNot, tAndV, tOrV, tNotV, tIf, tCall, tCons, tNil, tTup, tLst, tCut, rI0, rI, rU, rEq, rNe, rIxM, rSetL, scal_ii, scal_ss, scal_bb, scal_nn, scal_is, scal_si, scal_sn, scal_ns, flat_i, flat_s, flat_b, flat_n, List.all_cons, List.all_nil, Bool.and_true, Bool.true_and, true_and, and_true, ex_get, ex_int, ex_str, ex_bl, ex_ref, ex_int2, ex_str2, ex_ri, dec_true, at0, at1, at2, at3, at4, at5, at6, at7, List.getElem?_cons_zero, List.getElem?_cons_succ, List.set_cons_zero, List.set_cons_succ, List.length_cons, List.length_nil, Nat.reduceAdd, le_line, Nat.reduceLeDiff, upd_same, Bool.false_eq_true, if_false, if_true, ite_true, ite_false, List.cons_append, List.nil_append, List.append_nil, rSetM, ix30, ix31, ix32, upd_upd, ex_some, seqAt, tEv, tEvT, evVar, evC, ev2, ev1, evAnd, evOr, evIx, evCons, evNil, evCall, evLen, lenAt, fI_ii, kLt, kLe, kGt, kGe, kAdd, kSub, fEq, fNe, fMod_lit, fIn_s, fIn_i, fAnd_bb, fOr_bb, fNot_b, fIsN_n, fNotN_n, ex_sbl, ex_cons, Int.reduceLT, spP, decide_true, decide_false, Bool.not_true, Bool.not_false, Bool.and_false, Bool.false_and, Bool.or_true, Bool.true_or, Bool.or_false, Bool.false_or, reduceCtorEq, false_and, and_false, fDiv_lit, fNeg_i, Int.reduceNeg]), l1, v - 13, rfl, rfl, .str x, (seq_l upd_same).trans ex, (by show 1 ≤ sizeLine; decide), fun t nt => ?_⟩⟩
      have g : But d H (upd H1 l1 (.lst (none3.map V.str))) := but_new k1 n1
      exact k t (.names x []) _ (names_ok (none3_ok x mx) (fun z hz => nomatch hz) (by simp)) (but_free g (D1.nw n1) nt) upd_same (((D1.nw n1).nw nt).mono (by omega)) (but_new g nt)
end
end My

set_option Elab.async false
set_option linter.all false
set_option maxRecDepth 100000
set_option maxHeartbeats 4000000
namespace My
open PySem L2
/-! ### _law_words -/
def spLwords : Sp := fun vs H Q _ => ∃ (t : Addr) (en : Ent), vs = [.ref t] ∧ H t = some (.tup en.vals) ∧ en.Ok ∧ ∀ l H', H l = none → H' l = some (.lst (en.ws.map V.str)) → Same H H' → Q (.ref l) H'
def tail2 (o : Str × Str × Str) : List Str := [o.2.1, o.2.2].filter fun y => !decide (V.str y = .str "")
theorem tail2_ok {o : Str × Str × Str} (h : OutOk o) : tail2 o = outB o := by
  rcases h with rfl | ⟨y, hy, rfl⟩ | ⟨n, d, hn, hd, rfl⟩
  · decide +kernel
  · revert y
    decide +kernel
  · have hd' : V.str d ≠ .str "" := by revert d; decide +kernel
    have hn' : V.str n ≠ .str "" := fun z => by
      injection z with z
      have := (nameB_to hn).1
      rw [z] at this
      exact absurd this (by decide +kernel)
    show [n, d].filter _ = _
    rw [List.filter_cons_of_pos (by rw [decide_eq_false hn']; rfl), List.filter_cons_of_pos (by rw [decide_eq_false hd']; rfl)]
    exact (if_pos rfl).symm
theorem rep_rope (r : Bool) : (List.replicate (if r = true then (1 : Int) else 0).toNat [V.str (Str.ofString "rope")]).flatten = (ropeW r).map V.str := by cases r <;> rfl
theorem cut_5 (x : List V) : cutV x (some 5) none = x.drop 5 := cut_from _ 5
section
variable {P : Program} {w : World} {K : PySem.W.Frag} {mg : Str → Option Value} {base : Heap} {e : Ext}
theorem sc_lwords : FnScope ["_law_entry_here", "_law_words_here"] ["_law_entry_here"] (defScope s_lwords) := ⟨rfl, rfl, rfl, by decide +kernel, rfl, by decide +kernel, by decide +kernel⟩
theorem ok_lwords {f : Addr} {fd : FuncData} (F : Fun K "_law_words" "_law_words" s_lwords f fd) (T : Txt K mg e) : FnOk P w K mg base CX0 1 f fd ["_law_entry_here"] spLwords := by
  refine F.ok sc_lwords (fun vs H Q E h => ?_) (fun cdv A outer s H vs Q E hr h => ?_)
  · obtain ⟨t, en, rfl, _⟩ := h
    rfl
  · obtain ⟨t, en, rfl, ht, ok, k⟩ := h
    refine ⟨_, (pss_cons (ps_if (pt_pp (ptp_ne (pp_ix (pp_var 0) (pp_c pe_int) (fun _ _ => rfl)) (pp_c pe_str)))
        (pss_one (ps_ret (pe_callTy call_list_of rfl T.n_list PyProof.Rows.boot_list (pa_cons (pv 0) pa_nil))))
        pss_nil)
      (pss_cons (ps_set (i := 1) sc_lwords.nd rfl (Or.inl rfl) (pe_op op_cat (pe_lst (pa_cons (pe_pp (pp_ix (pp_var 0) (pp_c pe_int) (fun _ _ => rfl))) (pa_cons (pe_callTy call_str_int rfl T.n_str PyProof.Rows.boot_str (pa_cons (pe_pp (pp_ix (pp_var 0) (pp_c pe_int) (fun _ _ => rfl))) pa_nil)) pa_nil))) (pe_op op_rep (pe_lst (pa_consK pe_str pa_nil)) (pe_callTy call_int1 rfl T.n_int PyProof.Rows.boot_int (pa_cons (pe_pp (pp_ix (pp_var 0) (pp_c pe_int) (fun _ _ => rfl))) pa_nil)))))
      (pss_cut (ps_if (pt_pp (ptp_ne (pp_ix (pp_var 0) (pp_c pe_int) (fun _ _ => rfl)) (pp_c pe_str)))
        (pss_one (ps_set (i := 1) sc_lwords.nd rfl (Or.inl rfl) (pe_op op_cat (pv 1) (pe_lst (pa_consK pe_str (pa_cons (pe_pp (pp_ix (pp_var 0) (pp_c pe_int) (fun _ _ => rfl))) pa_nil))))))
        pss_nil)
      (pss_one (ps_ret (pe_op op_cat (pv 1) (pe_comp (F := []) (T := ["_law_word"]) (fr := []) ⟨rfl, by decide +kernel, by decide +kernel, (by show ∀ y ∈ (_ : List (Str × NameKind)), y.2 = NameKind.free → (defScope s_lwords).names.lookup y.1 = some NameKind.cell; decide +kernel), by decide +kernel, rfl⟩ rfl (pi_tup (pe_slice sl_tup (pv 0) (po_some pe_int) po_none)) (fun _ _ _ _ _ => (pg_name (i := 0) (show (["_law_word"] : List Str).Nodup by decide +kernel) rfl (Or.inl rfl))) (fun _ _ _ _ _ => (pif_one (pt_cmpR op_ne (pv 0) pe_str (nomark _)))) (fun _ _ _ _ _ => (pv 0))))))))), ?_⟩
    change (_ : Ends → St → Hp → Prop) _ [some (.ref t), none] H
    cases en with
    | names x r =>
      have ht' : H t = some (.tup (.str x :: r.map V.str)) := ht
      refine ⟨!decide (V.str x = .str "ball"), (by simp only [tSeq, tNext, tIfS, tRet, tRetN, tDrop, tAsg, gName, gTup, gCons, gNil, gSub, tTest, tOp, tUn, tVar, tC, tB, tInC, tAnd, tOr, tNot, tAndV, tOrV, tNotV, tIf, tCall, tCons, tNil, tTup, tLst, tCut, rI0, rI, rU, rEq, rNe, rIxM, rSetL, scal_ii, scal_ss, scal_bb, scal_nn, scal_is, scal_si, scal_sn, scal_ns, flat_i, flat_s, flat_b, flat_n, List.all_cons, List.all_nil, Bool.and_true, Bool.true_and, true_and, and_true, ex_get, ex_int, ex_str, ex_bl, ex_ref, ex_int2, ex_str2, ex_ri, dec_true, at0, at1, at2, at3, at4, at5, at6, at7, List.getElem?_cons_zero, List.getElem?_cons_succ, List.set_cons_zero, List.set_cons_succ, List.length_cons, List.length_nil, Nat.reduceAdd, le_line, Nat.reduceLeDiff, upd_same, Bool.false_eq_true, if_false, if_true, ite_true, ite_false, List.cons_append, List.nil_append, List.append_nil, rSetM, ix30, ix31, ix32, upd_upd, ex_some, seqAt, tEv, tEvT, evVar, evC, ev2, ev1, evAnd, evOr, evIx, evCons, evNil, evCall, evLen, lenAt, fI_ii, kLt, kLe, kGt, kGe, kAdd, kSub, fEq, fNe, fMod_lit, fIn_s, fIn_i, fAnd_bb, fOr_bb, fNot_b, fIsN_n, fNotN_n, ex_sbl, ex_cons, Int.reduceLT, spP, decide_true, decide_false, Bool.not_true, Bool.not_false, Bool.and_false, Bool.false_and, Bool.or_true, Bool.true_or, Bool.or_false, Bool.false_or, reduceCtorEq, false_and, and_false, fDiv_lit, fNeg_i, Int.reduceNeg, ht']), ite_yes (by rw [decide_eq_false (nb_ne x (nb_mem ok.1)).1]; rfl) ?_⟩
      refine ⟨_, rfl, t, _, rfl, .inr (SqT.of ht), fun l nl => ?_⟩
      exact k l _ nl upd_same (upd_new nl)
    | ball b =>
      have ht' : H t = some (.tup [.str "ball", .str b.kind, .int b.runs, .bl b.rope, .str b.out.1, .str b.out.2.1, .str b.out.2.2]) := ht
      refine ⟨false, (by simp only [tSeq, tNext, tIfS, tRet, tRetN, tDrop, tAsg, gName, gTup, gCons, gNil, gSub, tTest, tOp, tUn, tVar, tC, tB, tInC, tAnd, tOr, tNot, tAndV, tOrV, tNotV, tIf, tCall, tCons, tNil, tTup, tLst, tCut, rI0, rI, rU, rEq, rNe, rIxM, rSetL, scal_ii, scal_ss, scal_bb, scal_nn, scal_is, scal_si, scal_sn, scal_ns, flat_i, flat_s, flat_b, flat_n, List.all_cons, List.all_nil, Bool.and_true, Bool.true_and, true_and, and_true, ex_get, ex_int, ex_str, ex_bl, ex_ref, ex_int2, ex_str2, ex_ri, dec_true, at0, at1, at2, at3, at4, at5, at6, at7, List.getElem?_cons_zero, List.getElem?_cons_succ, List.set_cons_zero, List.set_cons_succ, List.length_cons, List.length_nil, Nat.reduceAdd, le_line, Nat.reduceLeDiff, upd_same, Bool.false_eq_true, if_false, if_true, ite_true, ite_false, List.cons_append, List.nil_append, List.append_nil, rSetM, ix30, ix31, ix32, upd_upd, ex_some, seqAt, tEv, tEvT, evVar, evC, ev2, ev1, evAnd, evOr, evIx, evCons, evNil, evCall, evLen, lenAt, fI_ii, kLt, kLe, kGt, kGe, kAdd, kSub, fEq, fNe, fMod_lit, fIn_s, fIn_i, fAnd_bb, fOr_bb, fNot_b, fIsN_n, fNotN_n, ex_sbl, ex_cons, Int.reduceLT, spP, decide_true, decide_false, Bool.not_true, Bool.not_false, Bool.and_false, Bool.false_and, Bool.or_true, Bool.true_or, Bool.or_false, Bool.false_or, reduceCtorEq, false_and, and_false, fDiv_lit, fNeg_i, Int.reduceNeg, ht']), iteF ?_⟩
      obtain ⟨_, ⟨j, hj, ej⟩, ho⟩ := ok
      have hlog : b.runs.natAbs.log2 < 1920 := by
        rw [ej]
        have := Nat.log2_le_self j
        show j.log2 < 1920
        omega
      refine ⟨.str b.kind, (by simp only [tSeq, tNext, tIfS, tRet, tRetN, tDrop, tAsg, gName, gTup, gCons, gNil, gSub, tTest, tOp, tUn, tVar, tC, tB, tInC, tAnd, tOr, tNot, tAndV, tOrV, tNotV, tIf, tCall, tCons, tNil, tTup, tLst, tCut, rI0, rI, rU, rEq, rNe, rIxM, rSetL, scal_ii, scal_ss, scal_bb, scal_nn, scal_is, scal_si, scal_sn, scal_ns, flat_i, flat_s, flat_b, flat_n, List.all_cons, List.all_nil, Bool.and_true, Bool.true_and, true_and, and_true, ex_get, ex_int, ex_str, ex_bl, ex_ref, ex_int2, ex_str2, ex_ri, dec_true, at0, at1, at2, at3, at4, at5, at6, at7, List.getElem?_cons_zero, List.getElem?_cons_succ, List.set_cons_zero, List.set_cons_succ, List.length_cons, List.length_nil, Nat.reduceAdd, le_line, Nat.reduceLeDiff, upd_same, Bool.false_eq_true, if_false, if_true, ite_true, ite_false, List.cons_append, List.nil_append, List.append_nil, rSetM, ix30, ix31, ix32, upd_upd, ex_some, seqAt, tEv, tEvT, evVar, evC, ev2, ev1, evAnd, evOr, evIx, evCons, evNil, evCall, evLen, lenAt, fI_ii, kLt, kLe, kGt, kGe, kAdd, kSub, fEq, fNe, fMod_lit, fIn_s, fIn_i, fAnd_bb, fOr_bb, fNot_b, fIsN_n, fNotN_n, ex_sbl, ex_cons, Int.reduceLT, spP, decide_true, decide_false, Bool.not_true, Bool.not_false, Bool.and_false, Bool.false_and, Bool.or_true, Bool.true_or, Bool.or_false, Bool.false_or, reduceCtorEq, false_and, and_false, fDiv_lit, fNeg_i, Int.reduceNeg, ht']), .int b.runs, (by simp only [tSeq, tNext, tIfS, tRet, tRetN, tDrop, tAsg, gName, gTup, gCons, gNil, gSub, tTest, tOp, tUn, tVar, tC, tB, tInC, tAnd, tOr, tNot, tAndV, tOrV, tNotV, tIf, tCall, tCons, tNil, tTup, tLst, tCut, rI0, rI, rU, rEq, rNe, rIxM, rSetL, scal_ii, scal_ss, scal_bb, scal_nn, scal_is, scal_si, scal_sn, scal_ns, flat_i, flat_s, flat_b, flat_n, List.all_cons, List.all_nil, Bool.and_true, Bool.true_and, true_and, and_true, ex_get, ex_int, ex_str, ex_bl, ex_ref, ex_int2, ex_str2, ex_ri, dec_true, at0, at1, at2, at3, at4, at5, at6, at7, List.getElem?_cons_zero, List.getElem?_cons_succ, List.set_cons_zero, List.set_cons_succ, List.length_cons, List.length_nil, Nat.reduceAdd, le_line, Nat.reduceLeDiff, upd_same, Bool.false_eq_true, if_false, if_true, ite_true, ite_false, List.cons_append, List.nil_append, List.append_nil, rSetM, ix30, ix31, ix32, upd_upd, ex_some, seqAt, tEv, tEvT, evVar, evC, ev2, ev1, evAnd, evOr, evIx, evCons, evNil, evCall, evLen, lenAt, fI_ii, kLt, kLe, kGt, kGe, kAdd, kSub, fEq, fNe, fMod_lit, fIn_s, fIn_i, fAnd_bb, fOr_bb, fNot_b, fIsN_n, fNotN_n, ex_sbl, ex_cons, Int.reduceLT, spP, decide_true, decide_false, Bool.not_true, Bool.not_false, Bool.and_false, Bool.false_and, Bool.or_true, Bool.true_or, Bool.or_false, Bool.false_or, reduceCtorEq, false_and, and_false, fDiv_lit, fNeg_i, Int.reduceNeg, ht']), _, rfl, hlog, (by show 2 ≤ sizeLine; decide), fun l1 n1 => ?_⟩
      have ht1 := upd_old (o := .lst [.str b.kind, .str (numW b.runs)]) n1 ht'
      refine ⟨(by show 1 ≤ sizeLine; decide), fun l2 n2 => ?_⟩
      have ht2 := upd_old (o := .lst [.str (Str.ofString "rope")]) n2 ht1
      refine ⟨.bl b.rope, (by simp only [tSeq, tNext, tIfS, tRet, tRetN, tDrop, tAsg, gName, gTup, gCons, gNil, gSub, tTest, tOp, tUn, tVar, tC, tB, tInC, tAnd, tOr, tNot, tAndV, tOrV, tNotV, tIf, tCall, tCons, tNil, tTup, tLst, tCut, rI0, rI, rU, rEq, rNe, rIxM, rSetL, scal_ii, scal_ss, scal_bb, scal_nn, scal_is, scal_si, scal_sn, scal_ns, flat_i, flat_s, flat_b, flat_n, List.all_cons, List.all_nil, Bool.and_true, Bool.true_and, true_and, and_true, ex_get, ex_int, ex_str, ex_bl, ex_ref, ex_int2, ex_str2, ex_ri, dec_true, at0, at1, at2, at3, at4, at5, at6, at7, List.getElem?_cons_zero, List.getElem?_cons_succ, List.set_cons_zero, List.set_cons_succ, List.length_cons, List.length_nil, Nat.reduceAdd, le_line, Nat.reduceLeDiff, upd_same, Bool.false_eq_true, if_false, if_true, ite_true, ite_false, List.cons_append, List.nil_append, List.append_nil, rSetM, ix30, ix31, ix32, upd_upd, ex_some, seqAt, tEv, tEvT, evVar, evC, ev2, ev1, evAnd, evOr, evIx, evCons, evNil, evCall, evLen, lenAt, fI_ii, kLt, kLe, kGt, kGe, kAdd, kSub, fEq, fNe, fMod_lit, fIn_s, fIn_i, fAnd_bb, fOr_bb, fNot_b, fIsN_n, fNotN_n, ex_sbl, ex_cons, Int.reduceLT, spP, decide_true, decide_false, Bool.not_true, Bool.not_false, Bool.and_false, Bool.false_and, Bool.or_true, Bool.true_or, Bool.or_false, Bool.false_or, reduceCtorEq, false_and, and_false, fDiv_lit, fNeg_i, Int.reduceNeg, ht2]), .inr ⟨b.rope, rfl, l2, _, _, rfl, rfl, upd_same, ?_, ?_, ?_, fun l3 n3 => ?_⟩⟩
      · split <;> decide
      · split <;> decide
      · split <;> decide
      refine ⟨l1, l3, _, _, rfl, rfl, upd_old n3 (upd_old n2 upd_same), upd_same, ?_, fun l4 n4 => ?_⟩
      · rw [rep_rope]
        cases b.rope <;> exact Nat.le_of_lt (small1000 (by simp [ropeW]))
      rw [rep_rope] at n4 ⊢
      generalize hG : upd (upd (upd (upd H l1 _) l2 _) l3 _) l4 _ = H4
      have s4 : Same H H4 := by rw [← hG]; exact (upd_new n1).trans ((upd_new n2).trans ((upd_new n3).trans (upd_new n4)))
      have f4 : H l4 = none := ((upd_new n1).trans ((upd_new n2).trans (upd_new n3))).free n4
      have hl4 : H4 l4 = some (.lst (([b.kind, numW b.runs] ++ ropeW b.rope).map V.str)) := by rw [← hG, upd_same, List.map_append]; rfl
      have ln1 : ([b.kind, numW b.runs] ++ ropeW b.rope).length ≤ 3 := by
        unfold ropeW
        cases b.rope <;> simp
      have ht4 := s4 _ _ ht'
      refine ⟨fun σ' H' => ∃ l5, σ' = [some (.ref t), some (.ref l5)] ∧ H l5 = none ∧ H' l5 = some (.lst (([b.kind, numW b.runs] ++ ropeW b.rope ++ outA b.out).map V.str)) ∧ Same H H', ?_, ?_⟩
      · refine ⟨!decide (V.str b.out.1 = .str ""), (by simp only [tSeq, tNext, tIfS, tRet, tRetN, tDrop, tAsg, gName, gTup, gCons, gNil, gSub, tTest, tOp, tUn, tVar, tC, tB, tInC, tAnd, tOr, tNot, tAndV, tOrV, tNotV, tIf, tCall, tCons, tNil, tTup, tLst, tCut, rI0, rI, rU, rEq, rNe, rIxM, rSetL, scal_ii, scal_ss, scal_bb, scal_nn, scal_is, scal_si, scal_sn, scal_ns, flat_i, flat_s, flat_b, flat_n, List.all_cons, List.all_nil, Bool.and_true, Bool.true_and, true_and, and_true, ex_get, ex_int, ex_str, ex_bl, ex_ref, ex_int2, ex_str2, ex_ri, dec_true, at0, at1, at2, at3, at4, at5, at6, at7, List.getElem?_cons_zero, List.getElem?_cons_succ, List.set_cons_zero, List.set_cons_succ, List.length_cons, List.length_nil, Nat.reduceAdd, le_line, Nat.reduceLeDiff, upd_same, Bool.false_eq_true, if_false, if_true, ite_true, ite_false, List.cons_append, List.nil_append, List.append_nil, rSetM, ix30, ix31, ix32, upd_upd, ex_some, seqAt, tEv, tEvT, evVar, evC, ev2, ev1, evAnd, evOr, evIx, evCons, evNil, evCall, evLen, lenAt, fI_ii, kLt, kLe, kGt, kGe, kAdd, kSub, fEq, fNe, fMod_lit, fIn_s, fIn_i, fAnd_bb, fOr_bb, fNot_b, fIsN_n, fNotN_n, ex_sbl, ex_cons, Int.reduceLT, spP, decide_true, decide_false, Bool.not_true, Bool.not_false, Bool.and_false, Bool.false_and, Bool.or_true, Bool.true_or, Bool.or_false, Bool.false_or, reduceCtorEq, false_and, and_false, fDiv_lit, fNeg_i, Int.reduceNeg, ht4]), ?_⟩
        by_cases hb : V.str b.out.1 = .str ""
        · refine ite_no (by rw [decide_eq_true hb]; rfl) ⟨l4, rfl, f4, ?_, s4⟩
          rw [show outA b.out = [] from if_pos hb, List.append_nil]
          exact hl4
        · refine ite_yes (by rw [decide_eq_false hb]; rfl) ?_
          refine ⟨_, rfl, .str b.out.1, (by simp only [tSeq, tNext, tIfS, tRet, tRetN, tDrop, tAsg, gName, gTup, gCons, gNil, gSub, tTest, tOp, tUn, tVar, tC, tB, tInC, tAnd, tOr, tNot, tAndV, tOrV, tNotV, tIf, tCall, tCons, tNil, tTup, tLst, tCut, rI0, rI, rU, rEq, rNe, rIxM, rSetL, scal_ii, scal_ss, scal_bb, scal_nn, scal_is, scal_si, scal_sn, scal_ns, flat_i, flat_s, flat_b, flat_n, List.all_cons, List.all_nil, Bool.and_true, Bool.true_and, true_and, and_true, ex_get, ex_int, ex_str, ex_bl, ex_ref, ex_int2, ex_str2, ex_ri, dec_true, at0, at1, at2, at3, at4, at5, at6, at7, List.getElem?_cons_zero, List.getElem?_cons_succ, List.set_cons_zero, List.set_cons_succ, List.length_cons, List.length_nil, Nat.reduceAdd, le_line, Nat.reduceLeDiff, upd_same, Bool.false_eq_true, if_false, if_true, ite_true, ite_false, List.cons_append, List.nil_append, List.append_nil, rSetM, ix30, ix31, ix32, upd_upd, ex_some, seqAt, tEv, tEvT, evVar, evC, ev2, ev1, evAnd, evOr, evIx, evCons, evNil, evCall, evLen, lenAt, fI_ii, kLt, kLe, kGt, kGe, kAdd, kSub, fEq, fNe, fMod_lit, fIn_s, fIn_i, fAnd_bb, fOr_bb, fNot_b, fIsN_n, fNotN_n, ex_sbl, ex_cons, Int.reduceLT, spP, decide_true, decide_false, Bool.not_true, Bool.not_false, Bool.and_false, Bool.false_and, Bool.or_true, Bool.true_or, Bool.or_false, Bool.false_or, reduceCtorEq, false_and, and_false, fDiv_lit, fNeg_i, Int.reduceNeg, ht4]), (by show 2 ≤ sizeLine; decide), fun p np => ?_⟩
          refine ⟨l4, p, _, _, rfl, rfl, upd_old np hl4, upd_same, Nat.le_of_lt (small1000 (by rw [List.length_map]; simp at ln1 ⊢; omega)), fun q nq => ?_⟩
          have s6 := s4.trans ((upd_new (o := .lst [.str (Str.ofString "out"), .str b.out.1]) np))
          refine ⟨q, rfl, s6.free nq, ?_, s6.trans (upd_new nq)⟩
          rw [upd_same, show outA b.out = [Str.ofString "out", b.out.1] from if_neg hb]
          simp only [List.map_append]
          rfl
      rintro σ' H5 ⟨l5, rfl, f5, hl5, s5⟩
      have ht5 := s5 _ _ ht'
      refine ⟨_, rfl, _, rfl, _, rfl, t, _, rfl, SqT.of ht5, ?_, fun p np => ?_⟩
      · intro z
        exact absurd (show HT.sIx 7 0 (some 5) = 0 from z.1) (by decide +kernel)
      refine ⟨p, rfl, ⟨_, SqT.of upd_same⟩, fun D nD => ?_⟩
      rw [cut_5] at nD ⊢
      have s6 := s5.trans (upd_new (o := .tup ([V.str b.out.2.1, V.str b.out.2.2])) np)
      have pD : p ≠ D := by
        intro q
        subst q
        rw [upd_same] at nD
        cases nD
      have lD : l5 ≠ D := ne_of_none (upd_old np hl5) nD
      refine comp_tupH (K := K) (a := p) (ys := [V.str b.out.2.1, V.str b.out.2.2]) (fun i σ xs H' => (∃ v, σ = [v]) ∧ xs = (([b.out.2.1, b.out.2.2].take i).filter (fun y => !decide (V.str y = .str ""))).map V.str ∧ H' D = some (.lst xs) ∧ H' p = some (.tup [V.str b.out.2.1, V.str b.out.2.2]) ∧ H' l5 = some (.lst (([b.kind, numW b.runs] ++ ropeW b.rope ++ outA b.out).map V.str)) ∧ Same H H') ?_ (fun i σ xs H' q => q.2.2.1) (fun i σ xs H' q => SqT.of q.2.2.2.1) ?_ ?_
      · exact ⟨⟨none, rfl⟩, rfl, upd_same, upd_new nD _ _ upd_same, upd_old nD (upd_old np hl5), s6.trans (upd_new nD)⟩
      · rintro i y σ xs H1 hy ⟨⟨v, rfl⟩, rfl, hD, hp, hl, s1⟩
        obtain ⟨z, hz, rfl⟩ : ∃ z, [b.out.2.1, b.out.2.2][i]? = some z ∧ V.str z = y := by
          rw [show [V.str b.out.2.1, V.str b.out.2.2] = [b.out.2.1, b.out.2.2].map V.str from rfl, List.getElem?_map] at hy
          cases e : [b.out.2.1, b.out.2.2][i]? with
          | none => rw [e] at hy; cases hy
          | some t => rw [e] at hy; exact ⟨t, rfl, Option.some.inj hy⟩
        have tk : [b.out.2.1, b.out.2.2].take (i + 1) = [b.out.2.1, b.out.2.2].take i ++ [z] := by rw [List.take_add_one, hz]; rfl
        refine ⟨_, rfl, rfl, _, rfl, ?_⟩
        rw [tk, List.filter_append]
        by_cases hb : V.str z = .str ""
        · have e1 : (!decide (V.str z = .str "")) = false := by rw [decide_eq_true hb]; rfl
          refine ite_no e1 ⟨⟨_, rfl⟩, ?_, hD, hp, hl, s1⟩
          rw [List.filter_cons_of_neg (by rw [e1]; decide), List.filter_nil, List.append_nil]
        · have e1 : (!decide (V.str z = .str "")) = true := by rw [decide_eq_false hb]; rfl
          refine ite_yes e1 ⟨_, rfl, hD, ?_, ⟨_, rfl⟩, ?_, upd_same, by rw [upd_ne pD]; exact hp, by rw [upd_ne lD]; exact hl, fun b o eb => ?_⟩
          · rw [List.length_map]
            refine Nat.lt_of_le_of_lt (List.length_filter_le _ _) (small1000 ?_)
            rw [List.length_take]
            simp
            omega
          · rw [List.filter_cons_of_pos (by rw [e1]), List.filter_nil, List.map_append]
            rfl
          · rw [upd_ne (ne_of_none (s6 b o eb) nD)]
            exact s1 b o eb
      · rintro σ xs H1 ⟨_, rfl, hD, hp, hl, s1⟩
        have et : ([b.out.2.1, b.out.2.2].take [V.str b.out.2.1, V.str b.out.2.2].length).filter (fun y => !decide (V.str y = .str "")) = outB b.out := tail2_ok ho
        rw [et] at hD
        have lb : (outB b.out).length ≤ 2 := by unfold outB; split <;> simp
        have la : (outA b.out).length ≤ 2 := by unfold outA; split <;> simp
        refine ⟨l5, D, _, _, rfl, rfl, hl, hD, Nat.le_of_lt (small1000 ?_), fun q nq => ?_⟩
        · rw [List.length_map, List.length_map, List.length_append]
          omega
        · refine k q _ (s1.free nq) ?_ (s1.trans (upd_new nq))
          rw [upd_same, ← List.map_append]
          rfl
end
end My

set_option Elab.async false
set_option linter.all false
set_option maxRecDepth 100000
set_option maxHeartbeats 4000000
namespace My
open PySem L2
/-! ### _law_alike, _law_told -/
theorem kitTT (K : PySem.W.Frag) {t u : String} {b : Bool} (h1 : (Value.type t == Value.type u) = false) (h2 : PySem.W.kitMeta u = true) (h3 : (fastBuiltinMro t).map (·.contains (Value.type u)) = some b) : PySem.W.kitOne K (.type t) (.type u) = some b := by
  unfold PySem.W.kitOne
  rw [h1]
  show (if PySem.W.kitMeta u = true then (fastBuiltinMro t).map (·.contains (Value.type u)) else none) = some b
  rw [if_pos h2, h3]
def sc3 : V → Bool
  | .str _ => true
  | .int _ => true
  | .bl _ => true
  | _ => false
theorem sc3_isi {v : V} (h : sc3 v = true) (K : PySem.W.Frag) : ∃ (ty : Value) (bB bS : Bool), (∀ H, TyOf K H v ty) ∧ PySem.W.kitOne K ty (.type "bool") = some bB ∧ PySem.W.kitOne K ty (.type "str") = some bS := by
  cases v with
  | str z => exact ⟨.type "str", false, true, fun H => TyOf.str _, kitTT K (by decide +kernel) (by decide +kernel) (by decide +kernel), rfl⟩
  | int z => exact ⟨.type "int", false, false, fun H => TyOf.int _, kitTT K (by decide +kernel) (by decide +kernel) (by decide +kernel), kitTT K (by decide +kernel) (by decide +kernel) (by decide +kernel)⟩
  | bl z => exact ⟨.type "bool", true, false, fun H => TyOf.bl _, rfl, kitTT K (by decide +kernel) (by decide +kernel) (by decide +kernel)⟩
  | _ => cases h
theorem sc3_flat {v : V} (h : sc3 v = true) : flatV v = true := by
  cases v with
  | str z => rfl
  | int z => rfl
  | bl z => rfl
  | _ => cases h
theorem vals_sc3 (en : Ent) : ∀ v ∈ en.vals, sc3 v = true := by
  cases en with
  | ball b =>
    intro v hv
    have hv' : v ∈ [V.str "ball", .str b.kind, .int b.runs, .bl b.rope, .str b.out.1, .str b.out.2.1, .str b.out.2.2] := hv
    simp only [List.mem_cons, List.not_mem_nil, or_false] at hv'
    rcases hv' with rfl | rfl | rfl | rfl | rfl | rfl | rfl <;> rfl
  | names x r =>
    intro v hv
    obtain ⟨z, _, rfl⟩ := List.mem_map.mp hv
    rfl
theorem depL_flat : ∀ (xs : List V), DV.depL (xs.map DV.fl) = 0
  | [] => by rw [List.map_nil]; unfold DV.depL; rfl
  | x :: xs => by rw [List.map_cons]; unfold DV.depL; rw [depL_flat xs]; unfold DV.dep; rfl
def spAlike : Sp := fun vs H Q _ => ∃ (t u : Addr) (en : Ent), vs = [.ref t, .ref u] ∧ H t = some (.tup en.vals) ∧ H u = some (.tup en.vals) ∧ ∀ H', Same H H' → Q (.bl true) H'
def spLtold (K : PySem.W.Frag) : Sp := fun vs H Q _ => ∃ (a b : Addr) (as bs : List Addr) (es : List Ent), vs = [.ref a, .ref b] ∧ H a = some (.lst (as.map V.ref)) ∧ H b = some (.lst (bs.map V.ref)) ∧ Tups H as (es.map Ent.vals) ∧ Tups H bs (es.map Ent.vals) ∧ es.length ≤ 100 ∧ ∀ H', Same H H' → Q (.bl true) H'
section
variable {P : Program} {w : World} {K : PySem.W.Frag} {mg : Str → Option Value} {base : Heap} {e : Ext}
theorem sc_alike : FnScope ["_law_found", "_law_due", "_law_one", "_law_other"] ["_law_found", "_law_due"] (defScope s_alike) := ⟨rfl, rfl, rfl, by decide +kernel, rfl, by decide +kernel, by decide +kernel⟩
theorem ok_alike {f : Addr} {fd : FuncData} (F : Fun K "_law_alike" "_law_alike" s_alike f fd) (T : Txt K mg e) : FnOk P w K mg base CX0 1 f fd ["_law_found", "_law_due"] spAlike := by
  refine F.ok sc_alike (fun vs H Q E h => ?_) (fun cdv A outer s H vs Q E hr h => ?_)
  · obtain ⟨t, u, en, rfl, _⟩ := h
    rfl
  · obtain ⟨p, q, en, rfl, hp, hq, k⟩ := h
    have hU := hu100 hr
    have hs := vals_sc3 en
    generalize en.vals = xs at hp hq hs
    have hf : xs.all flatV = true := List.all_eq_true.mpr fun v hv => sc3_flat (hs v hv)
    refine ⟨_, (pss_cons (ps_if (PW.pt (pw_or (pt_not (pt_val (pe_callB call_isi rfl T.n_isinstance PyProof.Rows.boot_isinstance (pa_cons (pv 0) (pa_cons (pe_bltn (v := .ty _) rfl T.n_tuple PyProof.Rows.boot_tuple rfl) pa_nil))))) (pw_or (pt_pp (ptp_ne (pp_len rfl T.n_len PySem.boot_len (ppa_cons (pp_var 0) ppa_nil)) (pp_len rfl T.n_len PySem.boot_len (ppa_cons (pp_var 1) ppa_nil)))) (pw_or1 (pt_cmpR (op_neD hU) (pv 0) (pv 1) (nomark _))))))
        (pss_one (ps_ret pe_bl))
        pss_nil)
      (pss_cons (ps_for PassesOwn.never rfl (pi_zip rfl T.n_zip (pa_cons (pv 0) (pa_cons (pv 1) pa_nil))) (pg_tup rfl (pgs_cons (pg_name (i := 2) sc_alike.nd rfl (Or.inl rfl)) (pgs_cons (pg_name (i := 3) sc_alike.nd rfl (Or.inl rfl)) pgs_nil)))
        (pss_one (ps_if (PW.pt (pw_or (pt_cmpR op_ne (pe_callB call_isi rfl T.n_isinstance PyProof.Rows.boot_isinstance (pa_cons (pv 2) (pa_cons (pe_bltn (v := .ty _) rfl T.n_bool PyProof.Rows.boot_bool rfl) pa_nil))) (pe_callB call_isi rfl T.n_isinstance PyProof.Rows.boot_isinstance (pa_cons (pv 3) (pa_cons (pe_bltn (v := .ty _) rfl T.n_bool PyProof.Rows.boot_bool rfl) pa_nil))) (nomark _)) (pw_or1 (pt_cmpR op_ne (pe_callB call_isi rfl T.n_isinstance PyProof.Rows.boot_isinstance (pa_cons (pv 2) (pa_cons (pe_bltn (v := .ty _) rfl T.n_str PyProof.Rows.boot_str rfl) pa_nil))) (pe_callB call_isi rfl T.n_isinstance PyProof.Rows.boot_isinstance (pa_cons (pv 3) (pa_cons (pe_bltn (v := .ty _) rfl T.n_str PyProof.Rows.boot_str rfl) pa_nil))) (nomark _)))))
          (pss_one (ps_ret pe_bl))
          pss_nil)))
      (pss_one (ps_ret pe_bl)))), ?_⟩
    change (_ : Ends → St → Hp → Prop) _ [some (.ref p), some (.ref q), none, none] H
    refine ⟨_, rfl, _, .ty "tuple", "tuple", .type "tuple", true, rfl, .inl rfl, TyOf.tup hp, rfl, _, rfl, iteF ?_⟩
    refine ⟨false, (by simp only [tSeq, tNext, tIfS, tRet, tRetN, tDrop, tAsg, gName, gTup, gCons, gNil, gSub, tTest, tOp, tUn, tVar, tC, tB, tInC, tAnd, tOr, tNot, tAndV, tOrV, tNotV, tIf, tCall, tCons, tNil, tTup, tLst, tCut, rI0, rI, rU, rEq, rNe, rIxM, rSetL, scal_ii, scal_ss, scal_bb, scal_nn, scal_is, scal_si, scal_sn, scal_ns, flat_i, flat_s, flat_b, flat_n, List.all_cons, List.all_nil, Bool.and_true, Bool.true_and, true_and, and_true, ex_get, ex_int, ex_str, ex_bl, ex_ref, ex_int2, ex_str2, ex_ri, dec_true, at0, at1, at2, at3, at4, at5, at6, at7, List.getElem?_cons_zero, List.getElem?_cons_succ, List.set_cons_zero, List.set_cons_succ, List.length_cons, List.length_nil, Nat.reduceAdd, le_line, Nat.reduceLeDiff, upd_same, Bool.false_eq_true, if_false, if_true, ite_true, ite_false, List.cons_append, List.nil_append, List.append_nil, rSetM, ix30, ix31, ix32, upd_upd, ex_some, seqAt, tEv, tEvT, evVar, evC, ev2, ev1, evAnd, evOr, evIx, evCons, evNil, evCall, evLen, lenAt, fI_ii, kLt, kLe, kGt, kGe, kAdd, kSub, fEq, fNe, fMod_lit, fIn_s, fIn_i, fAnd_bb, fOr_bb, fNot_b, fIsN_n, fNotN_n, ex_sbl, ex_cons, Int.reduceLT, spP, decide_true, decide_false, Bool.not_true, Bool.not_false, Bool.and_false, Bool.false_and, Bool.or_true, Bool.true_or, Bool.or_false, Bool.false_or, reduceCtorEq, false_and, and_false, fDiv_lit, fNeg_i, Int.reduceNeg, hp, hq]), iteF ?_⟩
    refine ⟨_, rfl, _, rfl, .tp (xs.map DV.fl), (by unfold DV.dep; rw [depL_flat]; decide), (fun w z => by cases z), deep_tup hp hf, deep_tup hq hf, _, rfl, iteF ?_⟩
    refine ⟨_, rfl, _, rfl, true, p, q, _, _, rfl, (SqT.of hp : SqT K H p _), (SqT.of hq : SqT K H q _), ?_⟩
    refine for_zip (xs := xs) (ys := xs) rfl (fun i σ H' => (∃ x2 x3, σ = [some (.ref p), some (.ref q), x2, x3]) ∧ Same H H') ⟨⟨_, _, rfl⟩, Same.refl _⟩ (fun i σ H' _ z => ⟨(SqT.of (z.2 _ _ hp) : SqT K H' p _), (SqT.of (z.2 _ _ hq) : SqT K H' q _)⟩) ?_ ?_
    · rintro i x y σ H1 T1 hx hy ⟨⟨x2, x3, rfl⟩, s1⟩ nT
      rw [hx] at hy
      cases hy
      have s2 := s1.trans (upd_new (o := .tup [x, x]) nT)
      obtain ⟨ty, bB, bS, hty, hB, hS⟩ := sc3_isi (hs x (List.mem_of_getElem? hx)) K
      refine ⟨T1, _, rfl, SqT.of upd_same, rfl, _, _, rfl, _, _, rfl, rfl, ?_⟩
      refine ⟨_, rfl, _, .ty "bool", "bool", ty, bB, rfl, .inl rfl, hty _, hB, _, rfl, _, .ty "bool", "bool", ty, bB, rfl, .inl rfl, hty _, hB, rfl, _, rfl, iteNS rfl ?_⟩
      refine ⟨_, rfl, _, .ty "str", "str", ty, bS, rfl, .inl rfl, hty _, hS, _, rfl, _, .ty "str", "str", ty, bS, rfl, .inl rfl, hty _, hS, rfl, _, rfl, iteNS rfl ?_⟩
      exact ⟨⟨_, _, rfl⟩, s2⟩
    · rintro σ H1 ⟨⟨x2, x3, rfl⟩, s1⟩
      exact k H1 s1
theorem sc_ltold : FnScope ["_law_found", "_law_entries"] ["_law_found", "_law_entries"] (defScope s_ltold) := ⟨rfl, rfl, rfl, by decide +kernel, rfl, by decide +kernel, by decide +kernel⟩
theorem ok_ltold {f f_alike : Addr} {fd fd_alike : FuncData} (F : Fun K "_law_told" "_law_told" s_ltold f fd) (T : Txt K mg e) (D_alike : Def K mg "_law_alike" s_alike ["_law_found", "_law_due"] f_alike fd_alike) : FnOk P w K mg base CX0 2 f fd ["_law_found", "_law_entries"] (spLtold K) := by
  have G_alike : FnOk P w K mg base CX0 1 f_alike fd_alike ["_law_found", "_law_due"] spAlike := ok_alike D_alike.F T
  refine F.ok sc_ltold (fun vs H Q E h => ?_) (fun cdv A outer s H vs Q E hr h => ?_)
  · obtain ⟨a, b, as, bs, es, rfl, _⟩ := h
    rfl
  · obtain ⟨a, b, as, bs, es, rfl, ha, hb, ta, tb, hl, k⟩ := h
    have hr_alike := hr.mono (by decide : 1 ≤ 1)
    have la := ta.len
    have lb := tb.len
    refine ⟨_, (pss_cons (ps_if (PW.pt (pw_or (pt_not (pt_val (pe_callB call_isi rfl T.n_isinstance PyProof.Rows.boot_isinstance (pa_cons (pv 0) (pa_cons (pe_bltn (v := .ty _) rfl T.n_list PyProof.Rows.boot_list rfl) pa_nil))))) (pw_or1 (pt_pp (ptp_ne (pp_len rfl T.n_len PySem.boot_len (ppa_cons (pp_var 0) ppa_nil)) (pp_len rfl T.n_len PySem.boot_len (ppa_cons (pp_var 1) ppa_nil)))))))
        (pss_one (ps_ret pe_bl))
        pss_nil)
      (pss_one (ps_ret (pe_callB (call_all rfl) rfl T.n_all PyProof.Rows.boot_all (pa_cons (pe_comp (F := []) (T := ["_law_one", "_law_other"]) (fr := []) ⟨rfl, by decide +kernel, by decide +kernel, (by show ∀ y ∈ (_ : List (Str × NameKind)), y.2 = NameKind.free → (defScope s_ltold).names.lookup y.1 = some NameKind.cell; decide +kernel), by decide +kernel, rfl⟩ rfl (pi_zip rfl T.n_zip (pa_cons (pv 0) (pa_cons (pv 1) pa_nil))) (fun _ _ _ _ _ => (pg_tupC (n := 2) rfl (pgs_cons (pg_name (i := 0) (show (["_law_one", "_law_other"] : List Str).Nodup by decide +kernel) rfl (Or.inl rfl)) (pgs_cons (pg_name (i := 1) (show (["_law_one", "_law_other"] : List Str).Nodup by decide +kernel) rfl (Or.inl rfl)) pgs_nil)))) (fun _ _ _ _ _ => pif_nil) (fun _ _ _ _ _ => (pe_call G_alike hr_alike rfl D_alike.m D_alike.F.kp D_alike.b .nil pass0 (pa_cons (pv 0) (pa_cons (pv 1) pa_nil))))) pa_nil))))), ?_⟩
    change (_ : Ends → St → Hp → Prop) _ [some (.ref a), some (.ref b)] H
    have hab : (as.map V.ref).length = (bs.map V.ref).length := by rw [List.length_map, List.length_map, la, lb]
    refine ⟨_, rfl, _, .ty "list", "list", .type "list", true, rfl, .inl rfl, TyOf.lst ha, rfl, _, rfl, iteF ?_⟩
    refine ⟨false, (by simp only [tSeq, tNext, tIfS, tRet, tRetN, tDrop, tAsg, gName, gTup, gCons, gNil, gSub, tTest, tOp, tUn, tVar, tC, tB, tInC, tAnd, tOr, tNot, tAndV, tOrV, tNotV, tIf, tCall, tCons, tNil, tTup, tLst, tCut, rI0, rI, rU, rEq, rNe, rIxM, rSetL, scal_ii, scal_ss, scal_bb, scal_nn, scal_is, scal_si, scal_sn, scal_ns, flat_i, flat_s, flat_b, flat_n, List.all_cons, List.all_nil, Bool.and_true, Bool.true_and, true_and, and_true, ex_get, ex_int, ex_str, ex_bl, ex_ref, ex_int2, ex_str2, ex_ri, dec_true, at0, at1, at2, at3, at4, at5, at6, at7, List.getElem?_cons_zero, List.getElem?_cons_succ, List.set_cons_zero, List.set_cons_succ, List.length_cons, List.length_nil, Nat.reduceAdd, le_line, Nat.reduceLeDiff, upd_same, Bool.false_eq_true, if_false, if_true, ite_true, ite_false, List.cons_append, List.nil_append, List.append_nil, rSetM, ix30, ix31, ix32, upd_upd, ex_some, seqAt, tEv, tEvT, evVar, evC, ev2, ev1, evAnd, evOr, evIx, evCons, evNil, evCall, evLen, lenAt, fI_ii, kLt, kLe, kGt, kGe, kAdd, kSub, fEq, fNe, fMod_lit, fIn_s, fIn_i, fAnd_bb, fOr_bb, fNot_b, fIsN_n, fNotN_n, ex_sbl, ex_cons, Int.reduceLT, spP, decide_true, decide_false, Bool.not_true, Bool.not_false, Bool.and_false, Bool.false_and, Bool.or_true, Bool.true_or, Bool.or_false, Bool.false_or, reduceCtorEq, false_and, and_false, fDiv_lit, fNeg_i, Int.reduceNeg, ha, hb, hab]), iteF ?_⟩
    refine ⟨_, rfl, _, rfl, false, a, b, _, _, rfl, (SqL.of ha : SqL K H a _), (SqL.of hb : SqL K H b _), fun D nD => ?_⟩
    refine comp_zipH (K := K) (κ1 := false) (κ2 := false) (a := a) (b := b) (us := as.map V.ref) (ys := bs.map V.ref) hab (fun i σ zs H' => (∃ x1 x2, σ = [x1, x2]) ∧ H' D = some (.lst zs) ∧ zs = (List.replicate i true).map V.bl ∧ Same H H') ?_ (fun i σ zs H' q => q.2.1) (fun i σ zs H' q => ⟨(SqL.of (q.2.2.2 _ _ ha) : SqL K H' a _), (SqL.of (q.2.2.2 _ _ hb) : SqL K H' b _)⟩) ?_ ?_
    · exact ⟨⟨none, none, rfl⟩, upd_same, rfl, upd_new nD⟩
    · rintro i x y σ zs H4 T1 hx hy ⟨⟨x1, x2, rfl⟩, hD, hz, s4⟩ nT
      obtain ⟨p, ep, rfl⟩ : ∃ p, as[i]? = some p ∧ V.ref p = x := by
        rw [List.getElem?_map] at hx
        cases q : as[i]? with
        | none => rw [q] at hx; cases hx
        | some t => rw [q] at hx; exact ⟨t, rfl, Option.some.inj hx⟩
      obtain ⟨u, eu, rfl⟩ : ∃ p, bs[i]? = some p ∧ V.ref p = y := by
        rw [List.getElem?_map] at hy
        cases q : bs[i]? with
        | none => rw [q] at hy; cases hy
        | some t => rw [q] at hy; exact ⟨t, rfl, Option.some.inj hy⟩
      have hi : i < as.length := (List.getElem?_eq_some_iff.mp ep).1
      obtain ⟨v1, e1, g1⟩ := ta.get ep
      obtain ⟨v2, e2, g2⟩ := tb.get eu
      rw [e1] at e2
      cases e2
      obtain ⟨en, een, rfl⟩ : ∃ en, es[i]? = some en ∧ en.vals = v1 := by
        rw [List.getElem?_map] at e1
        cases q : es[i]? with
        | none => rw [q] at e1; cases e1
        | some t => rw [q] at e1; exact ⟨t, rfl, Option.some.inj e1⟩
      have s5 := s4.trans (upd_new (o := .tup [.ref p, .ref u]) nT)
      rw [List.length_map] at la
      refine ⟨T1, _, rfl, SqT.of upd_same, rfl, _, _, rfl, _, _, rfl, rfl, ?_⟩
      refine ⟨_, rfl, _, rfl, p, u, en, rfl, s5 _ _ g1, s5 _ _ g2, fun H6 s6 => ⟨s6 _ _ (upd_old nT hD), small1000 (by rw [hz, List.length_map, List.length_replicate]; omega), ⟨_, _, rfl⟩, upd_same, ?_, fun b o eb => ?_⟩⟩
      · rw [hz, List.replicate_succ', List.map_append]
        rfl
      · rw [upd_ne (ne_of_none eb nD)]
        exact s6 b o (s5 b o eb)
    · rintro σ zs H4 ⟨_, hD, hz, s4⟩
      refine ⟨D, List.replicate (as.map V.ref).length true, rfl, by rw [hD, hz], ?_⟩
      have q := k H4 s4
      have er : (List.replicate (as.map V.ref).length true).all id = true := by
        rw [List.all_eq_true]
        intro b hb
        rw [(List.mem_replicate.mp hb).2]
        rfl
      rw [er]
      exact q
end
end My

set_option Elab.async false
set_option linter.all false
set_option maxRecDepth 100000
set_option maxHeartbeats 4000000
namespace My
open PySem L2
theorem sum_le {ys : List Str} {m : Nat} (h : ∀ y ∈ ys, y.length ≤ m) : (ys.map (·.length)).sum ≤ m * ys.length := by
  induction ys with
  | nil => simp
  | cons y r ih =>
    rw [List.map_cons, List.sum_cons, List.length_cons, Nat.mul_succ]
    have := h y List.mem_cons_self
    have := ih fun z hz => h z (List.mem_cons_of_mem _ hz)
    omega
theorem go_join {rows : List Str} (h : ∀ z ∈ rows, 10 ∉ z.cps.toList) : rowsGo 1 (Txt.split (Txt.join (Str.ofString "\n") rows) (Str.ofString "\n")) = rowsGo 1 rows := by
  have e : Txt.join (Str.ofString "\n") rows = Str.join (Str.ofString "\n") rows := StrLaws.glued_eq_join _ _
  rw [e, nl_eq]
  cases rows with
  | nil =>
    have e2 : Txt.split (Str.join ⟨#[10]⟩ []) ⟨#[10]⟩ = [Str.empty] := by decide +kernel
    rw [e2]
    exact go_em 1 1
  | cons r rs => rw [split_join (by simp) h]
theorem join_le {s : Str} {ys : List Str} {m : Nat} (h : ∀ y ∈ ys, y.length ≤ m) : (Txt.join s ys).length ≤ m * ys.length + ys.length * s.length := by
  have e : Txt.join s ys = Str.join s ys := StrLaws.glued_eq_join _ _
  rw [e]
  have q := StrLaws.join_length_le s ys
  have := sum_le h
  omega
theorem nl1 : (Str.ofString "\n").length = 1 := by decide +kernel
theorem LinesAt.keep {H H' : Hp} : ∀ {as : List Addr} {ls : List (List Str)}, LinesAt H as ls → (∀ a ∈ as, ∀ o, H a = some o → H' a = some o) → LinesAt H' as ls
  | [], [], _, _ => trivial
  | a :: as, ws :: r, h, k => ⟨k a List.mem_cons_self _ h.1, LinesAt.keep h.2 fun b hb => k b (List.mem_cons_of_mem _ hb)⟩
  | [], _ :: _, h, _ => h.elim
  | _ :: _, [], h, _ => h.elim
theorem LinesAt.app {H : Hp} : ∀ {as bs : List Addr} {ls ms : List (List Str)}, LinesAt H as ls → LinesAt H bs ms → LinesAt H (as ++ bs) (ls ++ ms)
  | [], _, [], _, _, h => h
  | _ :: _, _, _ :: _, _, h, g => ⟨h.1, LinesAt.app h.2 g⟩
  | [], _, _ :: _, _, h, _ => h.elim
  | _ :: _, _, [], _, h, _ => h.elim
theorem LinesAt.mem {H : Hp} {as : List Addr} {ls : List (List Str)} (h : LinesAt H as ls) {a : Addr} (ha : a ∈ as) : ∃ o, H a = some o := by
  obtain ⟨i, hi⟩ := List.getElem?_of_mem ha
  obtain ⟨ws, _, e⟩ := h.get hi
  exact ⟨_, e⟩
theorem DrawAt.sm {H H' : Hp} {d l : Addr} {cs : List Int} {n : Nat} (D : DrawAt H d l cs n) (s : Same H H') : DrawAt H' d l cs n := by
  obtain ⟨⟨a, b, c, g, q, q0, q1⟩, ls, ne⟩ := D
  exact ⟨⟨a, b, c, g, s _ _ q, q0, q1⟩, s _ _ ls, ne⟩
def spLaw (K : PySem.W.Frag) : Sp := fun vs H Q _ => ∃ (a : Addr) (ns : List Int), vs = [.ref a] ∧ SqL K H a (ns.map V.int) ∧ ns.length ≤ 63 ∧ ∀ H', Q (.bl true) H'
theorem Tups.but {H H' : Hp} {d l : Addr} {cs : List Int} {n : Nat} {as : List Addr} {xs : List (List V)} (h : Tups H as xs) (D : DrawAt H d l cs n) (k : But d H H') : Tups H' as xs := h.keep fun a ha o ea => by
  obtain ⟨i, hi⟩ := List.getElem?_of_mem ha
  obtain ⟨x, _, g⟩ := h.get hi
  obtain ⟨_, _, _, _, hd, _⟩ := D.dc
  exact k a o ea (ne_of g hd (by intro z; cases z))
theorem Tups.lst {H : Hp} {as : List Addr} {xs : List (List V)} (h : Tups H as xs) {D : Addr} {ys zs : List V} (hD : H D = some (.lst ys)) : Tups (upd H D (.lst zs)) as xs := h.keep fun a ha o ea => by
  obtain ⟨i, hi⟩ := List.getElem?_of_mem ha
  obtain ⟨x, _, g⟩ := h.get hi
  rw [upd_ne (ne_of g hD (by intro z; cases z))]
  exact ea
theorem map_ref_snoc (as : List Addr) (t : Addr) : as.map V.ref ++ [V.ref t] = (as ++ [t]).map V.ref := by rw [List.map_append]; rfl
section
variable {P : Program} {w : World} {K : PySem.W.Frag} {mg : Str → Option Value} {base : Heap} {e : Ext}
theorem sc_law : FnScope ["_law_script", "_law_draw", "_law_entries", "_law_lines", "_law_text", "_law_found", "_law_entry_here", "_law_words_here", "_law_row"] ["_law_script"] (defScope s_law) := ⟨rfl, rfl, rfl, by decide +kernel, rfl, by decide +kernel, by decide +kernel⟩
theorem ok_law {f f_made f_isname f_numin f_wordsof f_numbered f_enames f_outw f_ballw f_entryw f_read f_wball f_shown f_drawn f_pick f_kws f_letters f_name f_spaced f_rowsl f_lball f_lentry f_lwords f_alike f_ltold : Addr} {fd fd_made fd_isname fd_numin fd_wordsof fd_numbered fd_enames fd_outw fd_ballw fd_entryw fd_read fd_wball fd_shown fd_drawn fd_pick fd_kws fd_letters fd_name fd_spaced fd_rowsl fd_lball fd_lentry fd_lwords fd_alike fd_ltold : FuncData} (F : Fun K "law" "law" s_law f fd) (T : Txt K mg e) (hN : DictK K w e.aN nbK)
    (D_made : Def K mg "made_of" s_made ["word", "signs", "most"] f_made fd_made) (D_isname : Def K mg "is_name" s_isname ["word"] f_isname fd_isname) (D_numin : Def K mg "number_in" s_numin ["word"] f_numin fd_numin) (D_wordsof : Def K mg "words_of" s_wordsof ["row"] f_wordsof fd_wordsof) (D_numbered : Def K mg "numbered_rows" s_numbered ["text"] f_numbered fd_numbered) (D_enames : Def K mg "entry_of_names" s_enames ["words"] f_enames fd_enames) (D_outw : Def K mg "out_of_words" s_outw ["words"] f_outw fd_outw) (D_ballw : Def K mg "ball_of_words" s_ballw ["words"] f_ballw fd_ballw) (D_entryw : Def K mg "entry_of_words" s_entryw ["words"] f_entryw fd_entryw) (D_read : Def K mg "read_entries" s_read ["text"] f_read fd_read) (D_wball : Def K mg "words_of_ball" s_wball ["entry"] f_wball fd_wball) (D_shown : Def K mg "shown_entry" s_shown ["entry"] f_shown fd_shown) (D_drawn : Def K mg "_law_drawn" s_drawn ["_law_script"] f_drawn fd_drawn) (D_pick : Def K mg "_law_pick" s_pick ["_law_draw", "_law_many"] f_pick fd_pick) (D_kws : Def K mg "_law_keywords" s_kws [] f_kws fd_kws) (D_letters : Def K mg "_law_letters" s_letters ["_law_draw", "_law_many"] f_letters fd_letters) (D_name : Def K mg "_law_name" s_name ["_law_draw"] f_name fd_name) (D_spaced : Def K mg "_law_spaced" s_spaced ["_law_draw", "_law_words_here"] f_spaced fd_spaced) (D_rowsl : Def K mg "_law_rows" s_rowsl ["_law_draw", "_law_lines"] f_rowsl fd_rowsl) (D_lball : Def K mg "_law_ball" s_lball ["_law_draw"] f_lball fd_lball) (D_lentry : Def K mg "_law_entry" s_lentry ["_law_draw"] f_lentry fd_lentry) (D_lwords : Def K mg "_law_words" s_lwords ["_law_entry_here"] f_lwords fd_lwords) (D_alike : Def K mg "_law_alike" s_alike ["_law_found", "_law_due"] f_alike fd_alike) (D_ltold : Def K mg "_law_told" s_ltold ["_law_found", "_law_entries"] f_ltold fd_ltold) : FnOk P w K mg base CX0 7 f fd ["_law_script"] (spLaw K) := by
  have G_drawn : FnOk P w K mg base CX0 1 f_drawn fd_drawn ["_law_script"] (spDrawn K) := ok_drawn D_drawn.F T
  have G_pick : FnOk P w K mg base CX0 1 f_pick fd_pick ["_law_draw", "_law_many"] spPick := ok_pick D_pick.F T
  have G_lentry : FnOk P w K mg base CX0 5 f_lentry fd_lentry ["_law_draw"] spLentry := ok_lentry D_lentry.F T D_pick D_letters D_kws D_name D_lball
  have G_lwords : FnOk P w K mg base CX0 1 f_lwords fd_lwords ["_law_entry_here"] spLwords := ok_lwords D_lwords.F T
  have G_rowsl : FnOk P w K mg base CX0 3 f_rowsl fd_rowsl ["_law_draw", "_law_lines"] spRows := ok_rowsl D_rowsl.F T D_pick D_spaced
  have G_read : FnOk P w K mg base CX0 6 f_read fd_read ["text"] (spRead K) := ok_read D_read.F T hN D_numbered D_wordsof D_isname D_made D_numin D_outw D_ballw D_enames D_entryw
  have G_ltold : FnOk P w K mg base CX0 2 f_ltold fd_ltold ["_law_found", "_law_entries"] (spLtold K) := ok_ltold D_ltold.F T D_alike
  have G_shown : FnOk P w K mg base CX0 2 f_shown fd_shown ["entry"] spShown := ok_shown D_shown.F T D_wball
  refine F.ok sc_law (fun vs H Q E h => ?_) (fun cdv A outer s H vs Q E hr h => ?_)
  · obtain ⟨a, ns, rfl, _⟩ := h
    rfl
  · obtain ⟨a, ns, rfl, hS, hlen, kk⟩ := h
    have hr_drawn := hr.mono (by decide : 1 ≤ 6)
    have hr_pick := hr_drawn
    have hr_lwords := hr_drawn
    have hr_lentry := hr.mono (by decide : 5 ≤ 6)
    have hr_rowsl := hr.mono (by decide : 3 ≤ 6)
    have hr_read := hr.mono (by decide : 6 ≤ 6)
    have hr_ltold := hr.mono (by decide : 2 ≤ 6)
    have hr_shown := hr_ltold
    refine ⟨_, (pss_cons (ps_set (i := 1) sc_law.nd rfl (Or.inr rfl) (pe_call G_drawn hr_drawn rfl D_drawn.m D_drawn.F.kp D_drawn.b .nil pass0 (pa_cons (pv 0) pa_nil)))
      (pss_cons (ps_setC (i0 := 2) (F := ["_law_draw"]) (T := ["_law_k"]) (fr := [1]) ⟨rfl, by decide +kernel, by decide +kernel, (by show ∀ y ∈ (_ : List (Str × NameKind)), y.2 = NameKind.free → (defScope s_law).names.lookup y.1 = some NameKind.cell; decide +kernel), by decide +kernel, rfl⟩ rfl (pi_range1 rfl T.n_range (pa_cons (pe_call G_pick hr_pick rfl D_pick.m D_pick.F.kp D_pick.b .nil pass0 (pa_cons (pv 1) (pa_consK pe_int pa_nil))) pa_nil)) (fun _ _ _ _ _ => (pg_name (i := 1) (show (["_law_draw", "_law_k"] : List Str).Nodup by decide +kernel) rfl (Or.inl rfl))) (fun _ _ _ _ _ => pif_nil) (fun _ _ _ _ _ => (pe_call G_lentry hr_lentry rfl D_lentry.m D_lentry.F.kp D_lentry.b .nil pass0 (pa_cons (pv 0) pa_nil))) sc_law.nd rfl rfl rfl)
      (pss_cons (ps_setC (i0 := 3) (F := []) (T := ["_law_entry_here"]) (fr := []) ⟨rfl, by decide +kernel, by decide +kernel, (by show ∀ y ∈ (_ : List (Str × NameKind)), y.2 = NameKind.free → (defScope s_law).names.lookup y.1 = some NameKind.cell; decide +kernel), by decide +kernel, rfl⟩ rfl (pi_list (pv 2)) (fun _ _ _ _ _ => (pg_name (i := 0) (show (["_law_entry_here"] : List Str).Nodup by decide +kernel) rfl (Or.inl rfl))) (fun _ _ _ _ _ => pif_nil) (fun _ _ _ _ _ => (pe_call G_lwords hr_lwords rfl D_lwords.m D_lwords.F.kp D_lwords.b .nil pass0 (pa_cons (pv 0) pa_nil))) sc_law.nd rfl rfl rfl)
      (pss_cons (ps_set (i := 4) sc_law.nd rfl (Or.inl rfl) (pe_bm PySem.F.plainAttrs_str PySem.F.slot_str_join PySem.F.type_str_join mt_join pe_str (pa_cons (pe_ix ix_m (pe_call G_rowsl hr_rowsl rfl D_rowsl.m D_rowsl.F.kp D_rowsl.b .nil pass0 (pa_cons (pv 1) (pa_cons (pv 3) pa_nil))) pe_int (fun _ _ => rfl)) pa_nil)))
      (pss_cons (ps_set (i := 5) sc_law.nd rfl (Or.inl rfl) (pe_call G_read hr_read rfl D_read.m D_read.F.kp D_read.b .nil pass0 (pa_cons (pv 4) pa_nil)))
      (pss_cons (ps_if (pt_not (pt_val (pe_call G_ltold hr_ltold rfl D_ltold.m D_ltold.F.kp D_ltold.b .nil pass0 (pa_cons (pv 5) (pa_cons (pv 2) pa_nil)))))
        (pss_one (ps_ret pe_bl))
        pss_nil)
      (pss_cons (ps_expr (pe_bm PySem.F.plainAttrs_list PySem.F.slot_list_append PySem.F.type_list_append mt_append (pv 5) (pa_cons (pe_tup (pa_consK pe_str pa_nil)) pa_nil)))
      (pss_cons (ps_if (pt_not (pt_val (pe_call G_ltold hr_ltold rfl D_ltold.m D_ltold.F.kp D_ltold.b .nil pass0 (pa_cons (pe_call G_read hr_read rfl D_read.m D_read.F.kp D_read.b .nil pass0 (pa_cons (pv 4) pa_nil)) (pa_cons (pv 2) pa_nil)))))
        (pss_one (ps_ret pe_bl))
        pss_nil)
      (pss_cons (ps_for PassesOwn.never rfl (pi_zip rfl T.n_zip (pa_cons (pv 2) (pa_cons (pv 3) pa_nil))) (pg_tup rfl (pgs_cons (pg_name (i := 6) sc_law.nd rfl (Or.inl rfl)) (pgs_cons (pg_name (i := 7) sc_law.nd rfl (Or.inl rfl)) pgs_nil)))
        (pss_cons (ps_set (i := 8) sc_law.nd rfl (Or.inl rfl) (pe_call G_shown hr_shown rfl D_shown.m D_shown.F.kp D_shown.b .nil pass0 (pa_cons (pv 6) pa_nil)))
        (pss_one (ps_if (PW.pt (pw_or (pt_not (pt_val (pe_callB call_isi rfl T.n_isinstance PyProof.Rows.boot_isinstance (pa_cons (pv 8) (pa_cons (pe_bltn (v := .ty _) rfl T.n_str PyProof.Rows.boot_str rfl) pa_nil))))) (pw_or1 (pt_cmpR op_ne (pv 8) (pe_bm PySem.F.plainAttrs_str PySem.F.slot_str_join PySem.F.type_str_join mt_join pe_str (pa_cons (pv 7) pa_nil)) (nomark _)))))
          (pss_one (ps_ret pe_bl))
          pss_nil))))
      (pss_one (ps_ret pe_bl))))))))))), ?_⟩
    change (_ : Ends → St → Hp → Prop) _ [some (.ref a), none, none, none, none, none, none, none, none] H
    refine ⟨_, rfl, a, ns, rfl, hS, hlen, fun d l cs H1 nd nl D1 s1 => ?_⟩
    refine ⟨_, rfl, d, l, cs, 0, 31, rfl, by decide, by decide, D1, by decide, fun v H2 v0 v1 D2 k2 => ?_⟩
    obtain ⟨m, rfl⟩ := Int.eq_ofNat_of_zero_le v0
    have p62 : (31 : Int) < 2 ^ 62 := by decide
    refine ⟨(m : Int), rfl, by omega, by omega, fun DE nDE => ?_⟩
    obtain ⟨dDE, lDE⟩ := D2.nd nDE
    refine comp_rangeH (lo := 0) (n := m) (fun i σ zs H' => (∃ x1, σ = [some (.ref d), x1]) ∧ H' DE = some (.lst zs) ∧ ∃ (as : List Addr) (es : List Ent), zs = as.map V.ref ∧ es.length = i ∧ Tups H' as (es.map Ent.vals) ∧ (∀ en ∈ es, en.Ok) ∧ DrawAt H' d l cs (1 + 400 * i)) ?_ (fun i σ zs H' q => q.2.1) ?_ ?_
    · exact ⟨⟨_, rfl⟩, upd_same, [], [], rfl, rfl, trivial, by simp, D2.upd dDE lDE⟩
    · rintro i σ zs H3 hi ⟨⟨x1, rfl⟩, hE, as, es, rfl, hel, ht, hok, D3⟩
      refine ⟨_, rfl, d, l, cs, _, rfl, D3, by omega, fun t en H4 ok nt h4 D4 k4 => ?_⟩
      have hE4 := k4 _ _ hE dDE
      have tE : t ≠ DE := (ne_of_none hE nt).symm
      have aln := ht.len
      rw [List.length_map] at aln
      refine ⟨hE4, small1000 (by rw [List.length_map]; omega), ⟨_, rfl⟩, upd_same, as ++ [t], es ++ [en], map_ref_snoc _ _, by simp [hel], ?_, ?_, (D4.upd dDE lDE).mono (by omega)⟩
      · rw [List.map_append]
        exact Tups.snoc (by rw [upd_ne tE]; exact h4) ((ht.but D3 k4).lst hE4)
      · intro x hx
        rcases List.mem_append.mp hx with hx | hx
        · exact hok x hx
        · rw [List.mem_singleton.mp hx]; exact ok
    rintro σ zs H3 ⟨_, hE3, as, es, rfl, hel, t3, hok, D3⟩
    have hel30 : es.length ≤ 30 := by omega
    have a3 := t3.len
    rw [List.length_map] at a3
    -- the lines
    refine ⟨_, rfl, DE, rfl, ⟨_, SqL.of hE3⟩, fun DL nDL => ?_⟩
    refine comp_listH (K := K) (a := DE) (ys := as.map V.ref) (fun i σ zs H' => (∃ x1, σ = [x1]) ∧ H' DL = some (.lst zs) ∧ ∃ ls : List Addr, zs = ls.map V.ref ∧ LinesAt H' ls ((es.take i).map Ent.ws) ∧ (∀ b ∈ ls, b ≠ DL) ∧ i ≤ es.length ∧ Same H3 H') ?_ (fun i σ zs H' q => q.2.1) (fun i σ zs H' q => ?_) ?_ ?_
    · exact ⟨⟨_, rfl⟩, upd_same, [], rfl, trivial, by simp, Nat.zero_le _, upd_new nDL⟩
    · obtain ⟨_, _, ls, _, _, _, _, s⟩ := q
      exact SqL.of (s _ _ hE3)
    · rintro i y σ zs H4 hy ⟨⟨x1, rfl⟩, hL, ls, rfl, hln, hne, hi, s4⟩
      obtain ⟨p, ep, rfl⟩ : ∃ p, as[i]? = some p ∧ V.ref p = y := by
        rw [List.getElem?_map] at hy
        cases q : as[i]? with
        | none => rw [q] at hy; cases hy
        | some t => rw [q] at hy; exact ⟨t, rfl, Option.some.inj hy⟩
      obtain ⟨v1, e1, g1⟩ := t3.get ep
      obtain ⟨en, een, rfl⟩ : ∃ en, es[i]? = some en ∧ en.vals = v1 := by
        rw [List.getElem?_map] at e1
        cases q : es[i]? with
        | none => rw [q] at e1; cases e1
        | some t => rw [q] at e1; exact ⟨t, rfl, Option.some.inj e1⟩
      have hie : i < es.length := (List.getElem?_eq_some_iff.mp een).1
      refine ⟨_, rfl, p, en, rfl, s4 _ _ g1, hok en (List.mem_of_getElem? een), fun lw H5 nlw hlw s5 => ?_⟩
      have lwL : lw ≠ DL := (ne_of_none hL nlw).symm
      have lln := hln.len
      rw [List.length_map, List.length_take] at lln
      refine ⟨s5 _ _ hL, small1000 (by rw [List.length_map]; omega), ⟨_, rfl⟩, upd_same, ls ++ [lw], map_ref_snoc _ _, ?_, ?_, hie, fun b o eb => ?_⟩
      · rw [List.take_add_one, een, List.map_append]
        refine LinesAt.app (hln.keep fun b hb o eb => ?_) ⟨?_, trivial⟩
        · rw [upd_ne (hne b hb)]
          exact s5 b o eb
        · rw [upd_ne lwL]
          exact hlw
      · intro b hb
        rcases List.mem_append.mp hb with hb | hb
        · exact hne b hb
        · rw [List.mem_singleton.mp hb]; exact lwL
      · rw [upd_ne (ne_of_none eb nDL)]
        exact s5 b o (s4 b o eb)
    rintro σ zs H4 ⟨_, hL4, ls, rfl, hln, _, _, s4⟩
    rw [List.length_map, a3, List.take_length] at hln
    have lln := hln.len
    rw [List.length_map] at lln
    have D4 := D3.sm s4
    have hE4 := s4 _ _ hE3
    have t4 := t3.same s4
    have lok : ∀ ws ∈ es.map Ent.ws, LineOk ws := fun ws hw => by
      obtain ⟨en, hen, rfl⟩ := List.mem_map.mp hw
      have ok := hok en hen
      refine ⟨?_, Nat.le_trans (Ent.ws_len ok) (by decide), ent_words ok⟩
      cases en with
      | ball b => intro z; cases z
      | names x r => intro z; cases z
    -- the text
    refine ⟨rfl, _, rfl, _, rfl, d, l, DL, cs, _, ls, _, rfl, D4, by omega, hL4, hln, by rw [List.length_map]; omega, lok, fun r rl pl rows places H6 nr hr6 hrl6 hpl6 hgo hpls hrok hrows D6 k6 => ⟨r, 0, rfl, rfl, .ref rl, (seq_l hr6).trans at0, Str.ofString "\n", rl, rows, rfl, rfl, hrl6, ?_, ?_⟩⟩
    · have := sum_le (m := 1000) fun z hz => (hrok z hz).2
      rw [List.length_map] at hrows
      rw [nl1]
      omega
    rw [List.length_map] at hrows hpls
    have gj := go_join (rows := rows) fun z hz => (hrok z hz).1
    have zl := join_le (s := Str.ofString "\n") (ys := rows) (m := 1000) fun z hz => (hrok z hz).2
    rw [nl1] at zl
    have zl6 : (Txt.join (Str.ofString "\n") rows).length ≤ 1000000 := by omega
    have rw2 : (rowsGo 1 (Txt.split (Txt.join (Str.ofString "\n") rows) (Str.ofString "\n"))).map (·.2) = es.map Ent.ws := by rw [gj, hgo, List.map_snd_zip (by rw [List.length_map]; omega)]
    generalize Txt.join (Str.ofString "\n") rows = z1 at rw2 zl6 ⊢
    have rd1 : ∀ r ∈ rowsGo 1 (Txt.split z1 (Str.ofString "\n")), r.2.length ≤ 900 ∧ ∀ x ∈ r.2, x.length ≤ 1000 := fun r hr => by
      have hm : r.2 ∈ es.map Ent.ws := by rw [← rw2]; exact List.mem_map.mpr ⟨r, hr, rfl⟩
      obtain ⟨_, q1, q2⟩ := lok _ hm
      exact ⟨by omega, fun x hx => by have := (q2 x hx).2.2.2; omega⟩
    have rd2 : (rowsGo 1 (Txt.split z1 (Str.ofString "\n"))).length ≤ 900 := by
      have := congrArg List.length rw2
      rw [List.length_map, List.length_map] at this
      omega
    have rd3 : (rowsGo 1 (Txt.split z1 (Str.ofString "\n"))).map (fun r => entryOf r.2) = (es.map Ent.vals).map some := by
      rw [show (fun r : Nat × List Str => entryOf r.2) = entryOf ∘ (·.2) from rfl, ← List.map_map, rw2, List.map_map, List.map_map]
      exact List.map_congr_left fun en hen => ent_read (hok en hen)
    have dE : DE ≠ d := dDE
    obtain ⟨_, _, _, _, hd4, _⟩ := D4.dc
    have hE6 := k6 _ _ hE4 dDE
    have hL6 := k6 _ _ hL4 (ne_of hL4 hd4 (by intro z; cases z))
    have t6 := t4.but D4 k6
    have L6 : LinesAt H6 ls (es.map Ent.ws) := hln.keep fun b hb o h => by
      obtain ⟨j, hj⟩ := List.getElem?_of_mem hb
      obtain ⟨ws, _, g⟩ := hln.get hj
      exact k6 b o h (ne_of g hd4 (by intro z; cases z))
    -- read, and looked at
    refine ⟨_, rfl, z1, es.map Ent.vals, rfl, zl6, rd1, rd2, rd3, fun lf asf H7 nlf hfr s7 hlf Tf => ?_⟩
    refine ⟨_, rfl, _, rfl, lf, DE, asf, as, es, rfl, hlf, s7 _ _ hE6, Tf, t6.same s7, by omega, fun H8 s8 => ⟨true, rfl, iteF ?_⟩⟩
    have hlf8 := s8 _ _ hlf
    have lf8 := Tf.len
    rw [List.length_map] at lf8
    refine ⟨_, rfl, .inl ⟨rfl, _, SqL.of hlf8⟩, (by show 1 ≤ sizeLine; decide), fun t nt => ⟨lf, _, .ref t, rfl, rfl, upd_old nt hlf8, small1000 (by rw [List.length_map]; omega), ?_⟩⟩
    generalize hG : upd (upd H8 t _) lf _ = H9
    have s9 : Same H6 H9 := fun b o eb => by
      rw [← hG, upd_ne (ne_of_none eb nlf)]
      exact upd_old nt (s8 b o (s7 b o eb))
    refine ⟨_, rfl, z1, es.map Ent.vals, rfl, zl6, rd1, rd2, rd3, fun lg asg H10 nlg hgr s10 hlg Tg => ?_⟩
    refine ⟨_, rfl, lg, DE, asg, as, es, rfl, hlg, s10 _ _ (s9 _ _ hE6), Tg, (t6.same s9).same s10, by omega, fun H11 s11 => ⟨true, rfl, iteF ?_⟩⟩
    have sA := (s9.trans s10).trans s11
    have hE := sA _ _ hE6
    have hL := sA _ _ hL6
    have tA := t6.same sA
    have LA : LinesAt H11 ls (es.map Ent.ws) := L6.keep fun b _ o h => sA b o h
    have hEL : (as.map V.ref).length = (ls.map V.ref).length := by rw [List.length_map, List.length_map]; omega
    refine ⟨_, rfl, _, rfl, false, DE, DL, _, _, rfl, (SqL.of hE : SqL K H11 DE _), (SqL.of hL : SqL K H11 DL _), ?_⟩
    refine for_zip (xs := as.map V.ref) (ys := ls.map V.ref) hEL (fun i σ H' => (∃ x6 x7 x8, σ = [some (.ref a), some (.ref d), some (.ref DE), some (.ref DL), some (.str z1), some (.ref lf), x6, x7, x8]) ∧ Same H11 H') ⟨⟨_, _, _, rfl⟩, Same.refl _⟩ (fun i σ H' _ z => ⟨(SqL.of (z.2 _ _ hE) : SqL K H' DE _), (SqL.of (z.2 _ _ hL) : SqL K H' DL _)⟩) ?_ ?_
    · rintro i x y σ H12 T1 hx hy ⟨⟨x6, x7, x8, rfl⟩, s12⟩ nT
      obtain ⟨p, ep, rfl⟩ : ∃ p, as[i]? = some p ∧ V.ref p = x := by
        rw [List.getElem?_map] at hx
        cases q : as[i]? with
        | none => rw [q] at hx; cases hx
        | some t => rw [q] at hx; exact ⟨t, rfl, Option.some.inj hx⟩
      obtain ⟨u, eu, rfl⟩ : ∃ p, ls[i]? = some p ∧ V.ref p = y := by
        rw [List.getElem?_map] at hy
        cases q : ls[i]? with
        | none => rw [q] at hy; cases hy
        | some t => rw [q] at hy; exact ⟨t, rfl, Option.some.inj hy⟩
      obtain ⟨v1, e1, g1⟩ := tA.get ep
      obtain ⟨en, een, rfl⟩ : ∃ en, es[i]? = some en ∧ en.vals = v1 := by
        rw [List.getElem?_map] at e1
        cases q : es[i]? with
        | none => rw [q] at e1; cases e1
        | some t => rw [q] at e1; exact ⟨t, rfl, Option.some.inj e1⟩
      obtain ⟨ws, e2, g2⟩ := LA.get eu
      rw [List.getElem?_map, een] at e2
      cases e2
      have ok := hok en (List.mem_of_getElem? een)
      have s13 := s12.trans (upd_new (o := .tup [.ref p, .ref u]) nT)
      have hw20 : ∀ x ∈ en.ws, x.length ≤ 20 := fun x hx => (ent_words ok x hx).2.2.2
      refine ⟨T1, _, rfl, SqT.of upd_same, rfl, _, _, rfl, _, _, rfl, rfl, ?_⟩
      refine ⟨_, rfl, p, en, rfl, s13 _ _ g1, ok, hw20, fun H14 s14 => ?_⟩
      refine ⟨_, rfl, _, .ty "str", "str", .type "str", true, rfl, .inl rfl, TyOf.str _, rfl, _, rfl, iteF ?_⟩
      refine ⟨_, rfl, rfl, _, rfl, Str.ofString " ", u, en.ws, rfl, rfl, s14 _ _ (s13 _ _ g2), ?_, rfl, _, rfl, iteNS rfl ?_⟩
      · have h1 := sum_le20 hw20
        have h2 := Ent.ws_len ok
        have h3 : (Str.ofString " ").length = 1 := by decide +kernel
        rw [h3]
        omega
      · exact ⟨⟨_, _, _, rfl⟩, s13.trans s14⟩
    · rintro σ H12 ⟨⟨x6, x7, x8, rfl⟩, s12⟩
      exact kk H12
end
end My

set_option Elab.async false
set_option linter.all false
set_option maxRecDepth 100000
set_option maxHeartbeats 4000000
namespace My
open PySem L2
theorem vals_abs : ∀ {xs : List V} {us : List Value}, us.map absV = xs.map some → Vals xs us
  | [], [], _ => .nil
  | [], _ :: _, h => by simp at h
  | _ :: _, [], h => by simp at h
  | x :: xs, u :: us, h => by
    have h1 : absV u = some x ∧ us.map absV = xs.map some := by simpa using h
    refine .cons ?_ (vals_abs h1.2)
    have h2 := h1.1
    cases u <;> simp only [absV] at h2 <;> first | (cases h2; done) | (cases h2; first | rfl | exact ⟨_, rfl⟩)
theorem all_mk {l : PySem.W.OpenLaw} {w : World} {K : PySem.W.Frag} {h : Heap} {mg : Str → Option Value} {fa f_made f_isname f_numin f_wordsof f_numbered f_enames f_outw f_ballw f_entryw f_read f_wball f_shown f_drawn f_pick f_kws f_letters f_name f_spaced f_rowsl f_lball f_lentry f_lwords f_alike f_ltold f_law : Addr} (X : K.In h) (G : h.Ns mainGlobals mg) (hfa : mg "law" = some (.ref fa))
    {od_made an_made od_isname an_isname od_numin an_numin od_wordsof an_wordsof od_numbered an_numbered od_enames an_enames od_outw an_outw od_ballw an_ballw od_entryw an_entryw od_read an_read od_wball an_wball od_shown an_shown od_drawn an_drawn od_pick an_pick od_kws an_kws od_letters an_letters od_name an_name od_spaced an_spaced od_rowsl an_rowsl od_lball an_lball od_lentry an_lentry od_lwords an_lwords od_alike an_alike od_ltold an_ltold od_law an_law : Option Addr} {sl_made sl_isname sl_numin sl_wordsof sl_numbered sl_enames sl_outw sl_ballw sl_entryw sl_read sl_wball sl_shown sl_drawn sl_pick sl_kws sl_letters sl_name sl_spaced sl_rowsl sl_lball sl_lentry sl_lwords sl_alike sl_ltold sl_law : Array (Option Value)} {oc_made kV_made dc_made pm_made cd_made ct_made oc_isname kV_isname dc_isname pm_isname cd_isname ct_isname oc_numin kV_numin dc_numin pm_numin cd_numin ct_numin oc_wordsof kV_wordsof dc_wordsof pm_wordsof cd_wordsof ct_wordsof oc_numbered kV_numbered dc_numbered pm_numbered cd_numbered ct_numbered oc_enames kV_enames dc_enames pm_enames cd_enames ct_enames oc_outw kV_outw dc_outw pm_outw cd_outw ct_outw oc_ballw kV_ballw dc_ballw pm_ballw cd_ballw ct_ballw oc_entryw kV_entryw dc_entryw pm_entryw cd_entryw ct_entryw oc_read kV_read dc_read pm_read cd_read ct_read oc_wball kV_wball dc_wball pm_wball cd_wball ct_wball oc_shown kV_shown dc_shown pm_shown cd_shown ct_shown oc_drawn kV_drawn dc_drawn pm_drawn cd_drawn ct_drawn oc_pick kV_pick dc_pick pm_pick cd_pick ct_pick oc_kws kV_kws dc_kws pm_kws cd_kws ct_kws oc_letters kV_letters dc_letters pm_letters cd_letters ct_letters oc_name kV_name dc_name pm_name cd_name ct_name oc_spaced kV_spaced dc_spaced pm_spaced cd_spaced ct_spaced oc_rowsl kV_rowsl dc_rowsl pm_rowsl cd_rowsl ct_rowsl oc_lball kV_lball dc_lball pm_lball cd_lball ct_lball oc_lentry kV_lentry dc_lentry pm_lentry cd_lentry ct_lentry oc_lwords kV_lwords dc_lwords pm_lwords cd_lwords ct_lwords oc_alike kV_alike dc_alike pm_alike cd_alike ct_alike oc_ltold kV_ltold dc_ltold pm_ltold cd_ltold ct_ltold oc_law kV_law dc_law pm_law cd_law ct_law : Value} {tL tM tF tG tR : Tok} {aK aN aI aP aE : Addr} {odK : Option Addr} {itsK : Array Value} {nK : Nat} {slK : Array (Option Value)} {odI : Option Addr} {itsI : Array Value} {nI : Nat} {slI : Array (Option Value)} {odP : Option Addr} {itsP : Array Value} {nP : Nat} {slP : Array (Option Value)} {odE : Option Addr} {itsE : Array Value} {nE : Nat} {slE : Array (Option Value)} {esN : Array DictEntry} {epN : Nat}
    (a_made : PySem.W.nsIn K mainGlobals "made_of" = some (some (.ref f_made))) (l_made : K.lookup f_made = some ⟨oc_made, od_made, .func (PySem.W.fnOf "made_of" "made_of" (defArgs s_made) (defBody s_made) (defScope s_made) .none kV_made dc_made pm_made an_made cd_made ct_made), sl_made⟩) (c_made : PySem.W.codeIn K cd_made "made_of" = true) (k_made : PySem.W.keepIn K (.ref f_made) = true)
    (a_isname : PySem.W.nsIn K mainGlobals "is_name" = some (some (.ref f_isname))) (l_isname : K.lookup f_isname = some ⟨oc_isname, od_isname, .func (PySem.W.fnOf "is_name" "is_name" (defArgs s_isname) (defBody s_isname) (defScope s_isname) .none kV_isname dc_isname pm_isname an_isname cd_isname ct_isname), sl_isname⟩) (c_isname : PySem.W.codeIn K cd_isname "is_name" = true) (k_isname : PySem.W.keepIn K (.ref f_isname) = true)
    (a_numin : PySem.W.nsIn K mainGlobals "number_in" = some (some (.ref f_numin))) (l_numin : K.lookup f_numin = some ⟨oc_numin, od_numin, .func (PySem.W.fnOf "number_in" "number_in" (defArgs s_numin) (defBody s_numin) (defScope s_numin) .none kV_numin dc_numin pm_numin an_numin cd_numin ct_numin), sl_numin⟩) (c_numin : PySem.W.codeIn K cd_numin "number_in" = true) (k_numin : PySem.W.keepIn K (.ref f_numin) = true)
    (a_wordsof : PySem.W.nsIn K mainGlobals "words_of" = some (some (.ref f_wordsof))) (l_wordsof : K.lookup f_wordsof = some ⟨oc_wordsof, od_wordsof, .func (PySem.W.fnOf "words_of" "words_of" (defArgs s_wordsof) (defBody s_wordsof) (defScope s_wordsof) .none kV_wordsof dc_wordsof pm_wordsof an_wordsof cd_wordsof ct_wordsof), sl_wordsof⟩) (c_wordsof : PySem.W.codeIn K cd_wordsof "words_of" = true) (k_wordsof : PySem.W.keepIn K (.ref f_wordsof) = true)
    (a_numbered : PySem.W.nsIn K mainGlobals "numbered_rows" = some (some (.ref f_numbered))) (l_numbered : K.lookup f_numbered = some ⟨oc_numbered, od_numbered, .func (PySem.W.fnOf "numbered_rows" "numbered_rows" (defArgs s_numbered) (defBody s_numbered) (defScope s_numbered) .none kV_numbered dc_numbered pm_numbered an_numbered cd_numbered ct_numbered), sl_numbered⟩) (c_numbered : PySem.W.codeIn K cd_numbered "numbered_rows" = true) (k_numbered : PySem.W.keepIn K (.ref f_numbered) = true)
    (a_enames : PySem.W.nsIn K mainGlobals "entry_of_names" = some (some (.ref f_enames))) (l_enames : K.lookup f_enames = some ⟨oc_enames, od_enames, .func (PySem.W.fnOf "entry_of_names" "entry_of_names" (defArgs s_enames) (defBody s_enames) (defScope s_enames) .none kV_enames dc_enames pm_enames an_enames cd_enames ct_enames), sl_enames⟩) (c_enames : PySem.W.codeIn K cd_enames "entry_of_names" = true) (k_enames : PySem.W.keepIn K (.ref f_enames) = true)
    (a_outw : PySem.W.nsIn K mainGlobals "out_of_words" = some (some (.ref f_outw))) (l_outw : K.lookup f_outw = some ⟨oc_outw, od_outw, .func (PySem.W.fnOf "out_of_words" "out_of_words" (defArgs s_outw) (defBody s_outw) (defScope s_outw) .none kV_outw dc_outw pm_outw an_outw cd_outw ct_outw), sl_outw⟩) (c_outw : PySem.W.codeIn K cd_outw "out_of_words" = true) (k_outw : PySem.W.keepIn K (.ref f_outw) = true)
    (a_ballw : PySem.W.nsIn K mainGlobals "ball_of_words" = some (some (.ref f_ballw))) (l_ballw : K.lookup f_ballw = some ⟨oc_ballw, od_ballw, .func (PySem.W.fnOf "ball_of_words" "ball_of_words" (defArgs s_ballw) (defBody s_ballw) (defScope s_ballw) .none kV_ballw dc_ballw pm_ballw an_ballw cd_ballw ct_ballw), sl_ballw⟩) (c_ballw : PySem.W.codeIn K cd_ballw "ball_of_words" = true) (k_ballw : PySem.W.keepIn K (.ref f_ballw) = true)
    (a_entryw : PySem.W.nsIn K mainGlobals "entry_of_words" = some (some (.ref f_entryw))) (l_entryw : K.lookup f_entryw = some ⟨oc_entryw, od_entryw, .func (PySem.W.fnOf "entry_of_words" "entry_of_words" (defArgs s_entryw) (defBody s_entryw) (defScope s_entryw) .none kV_entryw dc_entryw pm_entryw an_entryw cd_entryw ct_entryw), sl_entryw⟩) (c_entryw : PySem.W.codeIn K cd_entryw "entry_of_words" = true) (k_entryw : PySem.W.keepIn K (.ref f_entryw) = true)
    (a_read : PySem.W.nsIn K mainGlobals "read_entries" = some (some (.ref f_read))) (l_read : K.lookup f_read = some ⟨oc_read, od_read, .func (PySem.W.fnOf "read_entries" "read_entries" (defArgs s_read) (defBody s_read) (defScope s_read) .none kV_read dc_read pm_read an_read cd_read ct_read), sl_read⟩) (c_read : PySem.W.codeIn K cd_read "read_entries" = true) (k_read : PySem.W.keepIn K (.ref f_read) = true)
    (a_wball : PySem.W.nsIn K mainGlobals "words_of_ball" = some (some (.ref f_wball))) (l_wball : K.lookup f_wball = some ⟨oc_wball, od_wball, .func (PySem.W.fnOf "words_of_ball" "words_of_ball" (defArgs s_wball) (defBody s_wball) (defScope s_wball) .none kV_wball dc_wball pm_wball an_wball cd_wball ct_wball), sl_wball⟩) (c_wball : PySem.W.codeIn K cd_wball "words_of_ball" = true) (k_wball : PySem.W.keepIn K (.ref f_wball) = true)
    (a_shown : PySem.W.nsIn K mainGlobals "shown_entry" = some (some (.ref f_shown))) (l_shown : K.lookup f_shown = some ⟨oc_shown, od_shown, .func (PySem.W.fnOf "shown_entry" "shown_entry" (defArgs s_shown) (defBody s_shown) (defScope s_shown) .none kV_shown dc_shown pm_shown an_shown cd_shown ct_shown), sl_shown⟩) (c_shown : PySem.W.codeIn K cd_shown "shown_entry" = true) (k_shown : PySem.W.keepIn K (.ref f_shown) = true)
    (a_drawn : PySem.W.nsIn K mainGlobals "_law_drawn" = some (some (.ref f_drawn))) (l_drawn : K.lookup f_drawn = some ⟨oc_drawn, od_drawn, .func (PySem.W.fnOf "_law_drawn" "_law_drawn" (defArgs s_drawn) (defBody s_drawn) (defScope s_drawn) .none kV_drawn dc_drawn pm_drawn an_drawn cd_drawn ct_drawn), sl_drawn⟩) (c_drawn : PySem.W.codeIn K cd_drawn "_law_drawn" = true) (k_drawn : PySem.W.keepIn K (.ref f_drawn) = true)
    (a_pick : PySem.W.nsIn K mainGlobals "_law_pick" = some (some (.ref f_pick))) (l_pick : K.lookup f_pick = some ⟨oc_pick, od_pick, .func (PySem.W.fnOf "_law_pick" "_law_pick" (defArgs s_pick) (defBody s_pick) (defScope s_pick) .none kV_pick dc_pick pm_pick an_pick cd_pick ct_pick), sl_pick⟩) (c_pick : PySem.W.codeIn K cd_pick "_law_pick" = true) (k_pick : PySem.W.keepIn K (.ref f_pick) = true)
    (a_kws : PySem.W.nsIn K mainGlobals "_law_keywords" = some (some (.ref f_kws))) (l_kws : K.lookup f_kws = some ⟨oc_kws, od_kws, .func (PySem.W.fnOf "_law_keywords" "_law_keywords" (defArgs s_kws) (defBody s_kws) (defScope s_kws) .none kV_kws dc_kws pm_kws an_kws cd_kws ct_kws), sl_kws⟩) (c_kws : PySem.W.codeIn K cd_kws "_law_keywords" = true) (k_kws : PySem.W.keepIn K (.ref f_kws) = true)
    (a_letters : PySem.W.nsIn K mainGlobals "_law_letters" = some (some (.ref f_letters))) (l_letters : K.lookup f_letters = some ⟨oc_letters, od_letters, .func (PySem.W.fnOf "_law_letters" "_law_letters" (defArgs s_letters) (defBody s_letters) (defScope s_letters) .none kV_letters dc_letters pm_letters an_letters cd_letters ct_letters), sl_letters⟩) (c_letters : PySem.W.codeIn K cd_letters "_law_letters" = true) (k_letters : PySem.W.keepIn K (.ref f_letters) = true)
    (a_name : PySem.W.nsIn K mainGlobals "_law_name" = some (some (.ref f_name))) (l_name : K.lookup f_name = some ⟨oc_name, od_name, .func (PySem.W.fnOf "_law_name" "_law_name" (defArgs s_name) (defBody s_name) (defScope s_name) .none kV_name dc_name pm_name an_name cd_name ct_name), sl_name⟩) (c_name : PySem.W.codeIn K cd_name "_law_name" = true) (k_name : PySem.W.keepIn K (.ref f_name) = true)
    (a_spaced : PySem.W.nsIn K mainGlobals "_law_spaced" = some (some (.ref f_spaced))) (l_spaced : K.lookup f_spaced = some ⟨oc_spaced, od_spaced, .func (PySem.W.fnOf "_law_spaced" "_law_spaced" (defArgs s_spaced) (defBody s_spaced) (defScope s_spaced) .none kV_spaced dc_spaced pm_spaced an_spaced cd_spaced ct_spaced), sl_spaced⟩) (c_spaced : PySem.W.codeIn K cd_spaced "_law_spaced" = true) (k_spaced : PySem.W.keepIn K (.ref f_spaced) = true)
    (a_rowsl : PySem.W.nsIn K mainGlobals "_law_rows" = some (some (.ref f_rowsl))) (l_rowsl : K.lookup f_rowsl = some ⟨oc_rowsl, od_rowsl, .func (PySem.W.fnOf "_law_rows" "_law_rows" (defArgs s_rowsl) (defBody s_rowsl) (defScope s_rowsl) .none kV_rowsl dc_rowsl pm_rowsl an_rowsl cd_rowsl ct_rowsl), sl_rowsl⟩) (c_rowsl : PySem.W.codeIn K cd_rowsl "_law_rows" = true) (k_rowsl : PySem.W.keepIn K (.ref f_rowsl) = true)
    (a_lball : PySem.W.nsIn K mainGlobals "_law_ball" = some (some (.ref f_lball))) (l_lball : K.lookup f_lball = some ⟨oc_lball, od_lball, .func (PySem.W.fnOf "_law_ball" "_law_ball" (defArgs s_lball) (defBody s_lball) (defScope s_lball) .none kV_lball dc_lball pm_lball an_lball cd_lball ct_lball), sl_lball⟩) (c_lball : PySem.W.codeIn K cd_lball "_law_ball" = true) (k_lball : PySem.W.keepIn K (.ref f_lball) = true)
    (a_lentry : PySem.W.nsIn K mainGlobals "_law_entry" = some (some (.ref f_lentry))) (l_lentry : K.lookup f_lentry = some ⟨oc_lentry, od_lentry, .func (PySem.W.fnOf "_law_entry" "_law_entry" (defArgs s_lentry) (defBody s_lentry) (defScope s_lentry) .none kV_lentry dc_lentry pm_lentry an_lentry cd_lentry ct_lentry), sl_lentry⟩) (c_lentry : PySem.W.codeIn K cd_lentry "_law_entry" = true) (k_lentry : PySem.W.keepIn K (.ref f_lentry) = true)
    (a_lwords : PySem.W.nsIn K mainGlobals "_law_words" = some (some (.ref f_lwords))) (l_lwords : K.lookup f_lwords = some ⟨oc_lwords, od_lwords, .func (PySem.W.fnOf "_law_words" "_law_words" (defArgs s_lwords) (defBody s_lwords) (defScope s_lwords) .none kV_lwords dc_lwords pm_lwords an_lwords cd_lwords ct_lwords), sl_lwords⟩) (c_lwords : PySem.W.codeIn K cd_lwords "_law_words" = true) (k_lwords : PySem.W.keepIn K (.ref f_lwords) = true)
    (a_alike : PySem.W.nsIn K mainGlobals "_law_alike" = some (some (.ref f_alike))) (l_alike : K.lookup f_alike = some ⟨oc_alike, od_alike, .func (PySem.W.fnOf "_law_alike" "_law_alike" (defArgs s_alike) (defBody s_alike) (defScope s_alike) .none kV_alike dc_alike pm_alike an_alike cd_alike ct_alike), sl_alike⟩) (c_alike : PySem.W.codeIn K cd_alike "_law_alike" = true) (k_alike : PySem.W.keepIn K (.ref f_alike) = true)
    (a_ltold : PySem.W.nsIn K mainGlobals "_law_told" = some (some (.ref f_ltold))) (l_ltold : K.lookup f_ltold = some ⟨oc_ltold, od_ltold, .func (PySem.W.fnOf "_law_told" "_law_told" (defArgs s_ltold) (defBody s_ltold) (defScope s_ltold) .none kV_ltold dc_ltold pm_ltold an_ltold cd_ltold ct_ltold), sl_ltold⟩) (c_ltold : PySem.W.codeIn K cd_ltold "_law_told" = true) (k_ltold : PySem.W.keepIn K (.ref f_ltold) = true)
    (a_law : PySem.W.nsIn K mainGlobals "law" = some (some (.ref f_law))) (l_law : K.lookup f_law = some ⟨oc_law, od_law, .func (PySem.W.fnOf "law" "law" (defArgs s_law) (defBody s_law) (defScope s_law) .none kV_law dc_law pm_law an_law cd_law ct_law), sl_law⟩) (c_law : PySem.W.codeIn K cd_law "law" = true) (k_law : PySem.W.keepIn K (.ref f_law) = true)
    (z_len : PySem.W.nsIn K mainGlobals "len" = some none)
    (z_list : PySem.W.nsIn K mainGlobals "list" = some none)
    (z_int : PySem.W.nsIn K mainGlobals "int" = some none)
    (z_range : PySem.W.nsIn K mainGlobals "range" = some none)
    (z_all : PySem.W.nsIn K mainGlobals "all" = some none)
    (z_isinstance : PySem.W.nsIn K mainGlobals "isinstance" = some none)
    (z_bool : PySem.W.nsIn K mainGlobals "bool" = some none)
    (z_str : PySem.W.nsIn K mainGlobals "str" = some none)
    (z_tuple : PySem.W.nsIn K mainGlobals "tuple" = some none)
    (z_enumerate : PySem.W.nsIn K mainGlobals "enumerate" = some none)
    (z_zip : PySem.W.nsIn K mainGlobals "zip" = some none)
    (gL : PySem.W.nsIn K mainGlobals "LETTERS" = some (some (.str "abcdefghijklmnopqrstuvwxyz" tL)))
    (gM : PySem.W.nsIn K mainGlobals "MOST_LETTERS" = some (some (.int 8 tM)))
    (gF : PySem.W.nsIn K mainGlobals "FIGURES" = some (some (.str "0123456789" tF)))
    (gG : PySem.W.nsIn K mainGlobals "MOST_FIGURES" = some (some (.int 4 tG)))
    (gR : PySem.W.nsIn K mainGlobals "MOST_RUNS" = some (some (.int 9 tR)))
    (gN : PySem.W.nsIn K mainGlobals "NAMES_BEHIND" = some (some (.ref aN)))
    (gK : PySem.W.nsIn K mainGlobals "KEYWORDS" = some (some (.ref aK)))
    (gI : PySem.W.nsIn K mainGlobals "KINDS" = some (some (.ref aI)))
    (gP : PySem.W.nsIn K mainGlobals "PLAIN_WAYS" = some (some (.ref aP)))
    (gE : PySem.W.nsIn K mainGlobals "ENDS" = some (some (.ref aE)))
    (lK : K.lookup aK = some ⟨.type "tuple", odK, .seq itsK nK, slK⟩)
    (vK : itsK.toList.map absV = (kwL.map V.str).map some)
    (lI : K.lookup aI = some ⟨.type "tuple", odI, .seq itsI nI, slI⟩)
    (vI : itsI.toList.map absV = (kindL.map V.str).map some)
    (lP : K.lookup aP = some ⟨.type "tuple", odP, .seq itsP nP, slP⟩)
    (vP : itsP.toList.map absV = (wayL.map V.str).map some)
    (lE : K.lookup aE = some ⟨.type "tuple", odE, .seq itsE nE, slE⟩)
    (vE : itsE.toList.map absV = (endL.map V.str).map some)
    (lN : K.lookup aN = some ⟨.type "dict", none, .dict esN epN, #[]⟩)
    (vN : esN.toList.map (fun d => (d.hash, absV d.key, absV d.val)) = nbK.map (fun p => (keyH w p.1, some (kV p.1), some p.2)))
    (wN : (aN == sysModules) = false)
    : ∃ fd : FuncData, (∀ (s : Shared) (v : Value), BindsTo s fd ⟨[v], []⟩ [("_law_script", v)]) ∧ ∀ base : Heap, K.In base → base.Ns mainGlobals mg → FnOk l.prog w K mg base CX0 7 fa fd ["_law_script"] (spLaw K) := by
  have e := hfa.symm.trans (PySem.W.mg_of X G a_law)
  cases e
  have lenK : itsK.size ≤ sizeLine := by
    have := congrArg List.length vK
    simp only [List.length_map, Array.length_toList] at this
    rw [this]
    decide +kernel
  have lenI : itsI.size ≤ sizeLine := by
    have := congrArg List.length vI
    simp only [List.length_map, Array.length_toList] at this
    rw [this]
    decide +kernel
  have lenP : itsP.size ≤ sizeLine := by
    have := congrArg List.length vP
    simp only [List.length_map, Array.length_toList] at this
    rw [this]
    decide +kernel
  have lenE : itsE.size ≤ sizeLine := by
    have := congrArg List.length vE
    simp only [List.length_map, Array.length_toList] at this
    rw [this]
    decide +kernel
  have hN : DictK K w aN nbK := ⟨esN, epN, lN, wN, vN, by decide +kernel⟩
  have T : Txt K mg ⟨tL, tM, tF, tG, tR, aK, aN, aI, aP, aE⟩ := ⟨PySem.W.mg_none_of X G z_len, PySem.W.mg_none_of X G z_list, PySem.W.mg_none_of X G z_int, PySem.W.mg_none_of X G z_range, PySem.W.mg_none_of X G z_all, PySem.W.mg_none_of X G z_isinstance, PySem.W.mg_none_of X G z_bool, PySem.W.mg_none_of X G z_str, PySem.W.mg_none_of X G z_tuple, PySem.W.mg_none_of X G z_enumerate, PySem.W.mg_none_of X G z_zip, PySem.W.mg_of X G gL, PySem.W.mg_of X G gM, PySem.W.mg_of X G gF, PySem.W.mg_of X G gG, PySem.W.mg_of X G gR, PySem.W.mg_of X G gN, PySem.W.mg_of X G gI, fun H => .inr ⟨_, itsI, nI, lI, rfl, rfl, lenI, vals_abs vI⟩, PySem.W.mg_of X G gP, fun H => .inr ⟨_, itsP, nP, lP, rfl, rfl, lenP, vals_abs vP⟩, PySem.W.mg_of X G gE, fun H => .inr ⟨_, itsE, nE, lE, rfl, rfl, lenE, vals_abs vE⟩, PySem.W.mg_of X G gK, fun H => .inr ⟨_, itsK, nK, lK, rfl, rfl, lenK, vals_abs vK⟩⟩
  have F_made := fun_mk (st := s_made) l_made c_made k_made
  have D_made : Def K mg "made_of" s_made ["word", "signs", "most"] f_made _ := ⟨F_made, PySem.W.mg_of X G a_made, F_made.binds (ps := ["word", "signs", "most"]) fun _ _ _ _ _ _ us hl => match us, hl with | [_, _, _], _ => rfl⟩
  have F_isname := fun_mk (st := s_isname) l_isname c_isname k_isname
  have D_isname : Def K mg "is_name" s_isname ["word"] f_isname _ := ⟨F_isname, PySem.W.mg_of X G a_isname, F_isname.binds (ps := ["word"]) fun _ _ _ _ _ _ us hl => match us, hl with | [_], _ => rfl⟩
  have F_numin := fun_mk (st := s_numin) l_numin c_numin k_numin
  have D_numin : Def K mg "number_in" s_numin ["word"] f_numin _ := ⟨F_numin, PySem.W.mg_of X G a_numin, F_numin.binds (ps := ["word"]) fun _ _ _ _ _ _ us hl => match us, hl with | [_], _ => rfl⟩
  have F_wordsof := fun_mk (st := s_wordsof) l_wordsof c_wordsof k_wordsof
  have D_wordsof : Def K mg "words_of" s_wordsof ["row"] f_wordsof _ := ⟨F_wordsof, PySem.W.mg_of X G a_wordsof, F_wordsof.binds (ps := ["row"]) fun _ _ _ _ _ _ us hl => match us, hl with | [_], _ => rfl⟩
  have F_numbered := fun_mk (st := s_numbered) l_numbered c_numbered k_numbered
  have D_numbered : Def K mg "numbered_rows" s_numbered ["text"] f_numbered _ := ⟨F_numbered, PySem.W.mg_of X G a_numbered, F_numbered.binds (ps := ["text"]) fun _ _ _ _ _ _ us hl => match us, hl with | [_], _ => rfl⟩
  have F_enames := fun_mk (st := s_enames) l_enames c_enames k_enames
  have D_enames : Def K mg "entry_of_names" s_enames ["words"] f_enames _ := ⟨F_enames, PySem.W.mg_of X G a_enames, F_enames.binds (ps := ["words"]) fun _ _ _ _ _ _ us hl => match us, hl with | [_], _ => rfl⟩
  have F_outw := fun_mk (st := s_outw) l_outw c_outw k_outw
  have D_outw : Def K mg "out_of_words" s_outw ["words"] f_outw _ := ⟨F_outw, PySem.W.mg_of X G a_outw, F_outw.binds (ps := ["words"]) fun _ _ _ _ _ _ us hl => match us, hl with | [_], _ => rfl⟩
  have F_ballw := fun_mk (st := s_ballw) l_ballw c_ballw k_ballw
  have D_ballw : Def K mg "ball_of_words" s_ballw ["words"] f_ballw _ := ⟨F_ballw, PySem.W.mg_of X G a_ballw, F_ballw.binds (ps := ["words"]) fun _ _ _ _ _ _ us hl => match us, hl with | [_], _ => rfl⟩
  have F_entryw := fun_mk (st := s_entryw) l_entryw c_entryw k_entryw
  have D_entryw : Def K mg "entry_of_words" s_entryw ["words"] f_entryw _ := ⟨F_entryw, PySem.W.mg_of X G a_entryw, F_entryw.binds (ps := ["words"]) fun _ _ _ _ _ _ us hl => match us, hl with | [_], _ => rfl⟩
  have F_read := fun_mk (st := s_read) l_read c_read k_read
  have D_read : Def K mg "read_entries" s_read ["text"] f_read _ := ⟨F_read, PySem.W.mg_of X G a_read, F_read.binds (ps := ["text"]) fun _ _ _ _ _ _ us hl => match us, hl with | [_], _ => rfl⟩
  have F_wball := fun_mk (st := s_wball) l_wball c_wball k_wball
  have D_wball : Def K mg "words_of_ball" s_wball ["entry"] f_wball _ := ⟨F_wball, PySem.W.mg_of X G a_wball, F_wball.binds (ps := ["entry"]) fun _ _ _ _ _ _ us hl => match us, hl with | [_], _ => rfl⟩
  have F_shown := fun_mk (st := s_shown) l_shown c_shown k_shown
  have D_shown : Def K mg "shown_entry" s_shown ["entry"] f_shown _ := ⟨F_shown, PySem.W.mg_of X G a_shown, F_shown.binds (ps := ["entry"]) fun _ _ _ _ _ _ us hl => match us, hl with | [_], _ => rfl⟩
  have F_drawn := fun_mk (st := s_drawn) l_drawn c_drawn k_drawn
  have D_drawn : Def K mg "_law_drawn" s_drawn ["_law_script"] f_drawn _ := ⟨F_drawn, PySem.W.mg_of X G a_drawn, F_drawn.binds (ps := ["_law_script"]) fun _ _ _ _ _ _ us hl => match us, hl with | [_], _ => rfl⟩
  have F_pick := fun_mk (st := s_pick) l_pick c_pick k_pick
  have D_pick : Def K mg "_law_pick" s_pick ["_law_draw", "_law_many"] f_pick _ := ⟨F_pick, PySem.W.mg_of X G a_pick, F_pick.binds (ps := ["_law_draw", "_law_many"]) fun _ _ _ _ _ _ us hl => match us, hl with | [_, _], _ => rfl⟩
  have F_kws := fun_mk (st := s_kws) l_kws c_kws k_kws
  have D_kws : Def K mg "_law_keywords" s_kws [] f_kws _ := ⟨F_kws, PySem.W.mg_of X G a_kws, F_kws.binds (ps := []) fun _ _ _ _ _ _ us hl => match us, hl with | [], _ => rfl⟩
  have F_letters := fun_mk (st := s_letters) l_letters c_letters k_letters
  have D_letters : Def K mg "_law_letters" s_letters ["_law_draw", "_law_many"] f_letters _ := ⟨F_letters, PySem.W.mg_of X G a_letters, F_letters.binds (ps := ["_law_draw", "_law_many"]) fun _ _ _ _ _ _ us hl => match us, hl with | [_, _], _ => rfl⟩
  have F_name := fun_mk (st := s_name) l_name c_name k_name
  have D_name : Def K mg "_law_name" s_name ["_law_draw"] f_name _ := ⟨F_name, PySem.W.mg_of X G a_name, F_name.binds (ps := ["_law_draw"]) fun _ _ _ _ _ _ us hl => match us, hl with | [_], _ => rfl⟩
  have F_spaced := fun_mk (st := s_spaced) l_spaced c_spaced k_spaced
  have D_spaced : Def K mg "_law_spaced" s_spaced ["_law_draw", "_law_words_here"] f_spaced _ := ⟨F_spaced, PySem.W.mg_of X G a_spaced, F_spaced.binds (ps := ["_law_draw", "_law_words_here"]) fun _ _ _ _ _ _ us hl => match us, hl with | [_, _], _ => rfl⟩
  have F_rowsl := fun_mk (st := s_rowsl) l_rowsl c_rowsl k_rowsl
  have D_rowsl : Def K mg "_law_rows" s_rowsl ["_law_draw", "_law_lines"] f_rowsl _ := ⟨F_rowsl, PySem.W.mg_of X G a_rowsl, F_rowsl.binds (ps := ["_law_draw", "_law_lines"]) fun _ _ _ _ _ _ us hl => match us, hl with | [_, _], _ => rfl⟩
  have F_lball := fun_mk (st := s_lball) l_lball c_lball k_lball
  have D_lball : Def K mg "_law_ball" s_lball ["_law_draw"] f_lball _ := ⟨F_lball, PySem.W.mg_of X G a_lball, F_lball.binds (ps := ["_law_draw"]) fun _ _ _ _ _ _ us hl => match us, hl with | [_], _ => rfl⟩
  have F_lentry := fun_mk (st := s_lentry) l_lentry c_lentry k_lentry
  have D_lentry : Def K mg "_law_entry" s_lentry ["_law_draw"] f_lentry _ := ⟨F_lentry, PySem.W.mg_of X G a_lentry, F_lentry.binds (ps := ["_law_draw"]) fun _ _ _ _ _ _ us hl => match us, hl with | [_], _ => rfl⟩
  have F_lwords := fun_mk (st := s_lwords) l_lwords c_lwords k_lwords
  have D_lwords : Def K mg "_law_words" s_lwords ["_law_entry_here"] f_lwords _ := ⟨F_lwords, PySem.W.mg_of X G a_lwords, F_lwords.binds (ps := ["_law_entry_here"]) fun _ _ _ _ _ _ us hl => match us, hl with | [_], _ => rfl⟩
  have F_alike := fun_mk (st := s_alike) l_alike c_alike k_alike
  have D_alike : Def K mg "_law_alike" s_alike ["_law_found", "_law_due"] f_alike _ := ⟨F_alike, PySem.W.mg_of X G a_alike, F_alike.binds (ps := ["_law_found", "_law_due"]) fun _ _ _ _ _ _ us hl => match us, hl with | [_, _], _ => rfl⟩
  have F_ltold := fun_mk (st := s_ltold) l_ltold c_ltold k_ltold
  have D_ltold : Def K mg "_law_told" s_ltold ["_law_found", "_law_entries"] f_ltold _ := ⟨F_ltold, PySem.W.mg_of X G a_ltold, F_ltold.binds (ps := ["_law_found", "_law_entries"]) fun _ _ _ _ _ _ us hl => match us, hl with | [_, _], _ => rfl⟩
  have F_law := fun_mk (st := s_law) l_law c_law k_law
  exact ⟨PySem.W.fnOf "law" "law" (defArgs s_law) (defBody s_law) (defScope s_law) .none kV_law dc_law pm_law an_law cd_law ct_law, fun s v => .of_eq rfl, fun base _ _ => ok_law F_law T hN D_made D_isname D_numin D_wordsof D_numbered D_enames D_outw D_ballw D_entryw D_read D_wball D_shown D_drawn D_pick D_kws D_letters D_name D_spaced D_rowsl D_lball D_lentry D_lwords D_alike D_ltold⟩
theorem walk {l : PySem.W.OpenLaw} {q : Program} {loose : List Str} {XP : (Str → Option Value) → Heap → Prop} {YP : World → Heap → Prop} {d : DefRec} {K : Params → PySem.W.Frag} (hn : l.most = some 63) (hdf : d.params.defaults = [])
    (hY : ∀ (w : World) (h : Heap), YP w h → (K w.params).In h)
    (F : ∀ (w : World) (mg : Str → Option Value) (fa : Addr) (h : Heap), (K w.params).In h → h.Ns mainGlobals mg → mg d.name = some (.ref fa) →
      ∃ fd : FuncData, (∀ (s : Shared) (u : Value), BindsTo s fd ⟨[u], []⟩ [("_law_script", u)]) ∧ ∀ base : Heap, (K w.params).In base → base.Ns mainGlobals mg → FnOk l.prog w (K w.params) mg base CX0 7 fa fd ["_law_script"] (spLaw (K w.params))) :
    PySem.W.WalkO q loose XP YP l.row.toRowW d [] (fun f vs => PySem.call f vs) :=
  L2.walk_of (n := 63) (k := 7) (x := "_law_script") (CX := fun _ => CX0) (sp := fun w => spLaw (K w.params)) hn (by decide) hdf ⟨rfl, by decide, by decide⟩ hY F (fun _ _ a ns hl _ hS => ⟨a, ns, rfl, hS, hl, fun _ => rfl⟩) fun _ _ _ _ _ z => z
end My
open PySem PySem.W PyProof.Rows
set_option maxRecDepth 100000 in
set_option maxHeartbeats 0 in
theorem PySem.Challenge.cw_inningsbook_k07_entries_read_and_shown_holds : PySem.Challenge.rw_inningsbook_k07_entries_read_and_shown.Holds := by
  w_on; o_law; k_head; (case hw => w_witness2)
  k_fill
  refine My.walk (l := PySem.Challenge.rw_inningsbook_k07_entries_read_and_shown) rfl rfl (fun w h Y => PySem.W.kIn_of Y) ?F
  case F =>
    intro w mg fa h KX G hmg
    refine' My.all_mk KX G hmg ?a_made ?l_made ?c_made ?k_made ?a_isname ?l_isname ?c_isname ?k_isname ?a_numin ?l_numin ?c_numin ?k_numin ?a_wordsof ?l_wordsof ?c_wordsof ?k_wordsof ?a_numbered ?l_numbered ?c_numbered ?k_numbered ?a_enames ?l_enames ?c_enames ?k_enames ?a_outw ?l_outw ?c_outw ?k_outw ?a_ballw ?l_ballw ?c_ballw ?k_ballw ?a_entryw ?l_entryw ?c_entryw ?k_entryw ?a_read ?l_read ?c_read ?k_read ?a_wball ?l_wball ?c_wball ?k_wball ?a_shown ?l_shown ?c_shown ?k_shown ?a_drawn ?l_drawn ?c_drawn ?k_drawn ?a_pick ?l_pick ?c_pick ?k_pick ?a_kws ?l_kws ?c_kws ?k_kws ?a_letters ?l_letters ?c_letters ?k_letters ?a_name ?l_name ?c_name ?k_name ?a_spaced ?l_spaced ?c_spaced ?k_spaced ?a_rowsl ?l_rowsl ?c_rowsl ?k_rowsl ?a_lball ?l_lball ?c_lball ?k_lball ?a_lentry ?l_lentry ?c_lentry ?k_lentry ?a_lwords ?l_lwords ?c_lwords ?k_lwords ?a_alike ?l_alike ?c_alike ?k_alike ?a_ltold ?l_ltold ?c_ltold ?k_ltold ?a_law ?l_law ?c_law ?k_law ?z_len ?z_list ?z_int ?z_range ?z_all ?z_isinstance ?z_bool ?z_str ?z_tuple ?z_enumerate ?z_zip ?gL ?gM ?gF ?gG ?gR ?gN ?gK ?gI ?gP ?gE ?lK ?vK ?lI ?vI ?lP ?vP ?lE ?vE ?lN ?vN ?wN
    (case a_made => k_is)
    (case l_made => k_is)
    (case c_made => k_is)
    (case k_made => k_is)
    (case a_isname => k_is)
    (case l_isname => k_is)
    (case c_isname => k_is)
    (case k_isname => k_is)
    (case a_numin => k_is)
    (case l_numin => k_is)
    (case c_numin => k_is)
    (case k_numin => k_is)
    (case a_wordsof => k_is)
    (case l_wordsof => k_is)
    (case c_wordsof => k_is)
    (case k_wordsof => k_is)
    (case a_numbered => k_is)
    (case l_numbered => k_is)
    (case c_numbered => k_is)
    (case k_numbered => k_is)
    (case a_enames => k_is)
    (case l_enames => k_is)
    (case c_enames => k_is)
    (case k_enames => k_is)
    (case a_outw => k_is)
    (case l_outw => k_is)
    (case c_outw => k_is)
    (case k_outw => k_is)
    (case a_ballw => k_is)
    (case l_ballw => k_is)
    (case c_ballw => k_is)
    (case k_ballw => k_is)
    (case a_entryw => k_is)
    (case l_entryw => k_is)
    (case c_entryw => k_is)
    (case k_entryw => k_is)
    (case a_read => k_is)
    (case l_read => k_is)
    (case c_read => k_is)
    (case k_read => k_is)
    (case a_wball => k_is)
    (case l_wball => k_is)
    (case c_wball => k_is)
    (case k_wball => k_is)
    (case a_shown => k_is)
    (case l_shown => k_is)
    (case c_shown => k_is)
    (case k_shown => k_is)
    (case a_drawn => k_is)
    (case l_drawn => k_is)
    (case c_drawn => k_is)
    (case k_drawn => k_is)
    (case a_pick => k_is)
    (case l_pick => k_is)
    (case c_pick => k_is)
    (case k_pick => k_is)
    (case a_kws => k_is)
    (case l_kws => k_is)
    (case c_kws => k_is)
    (case k_kws => k_is)
    (case a_letters => k_is)
    (case l_letters => k_is)
    (case c_letters => k_is)
    (case k_letters => k_is)
    (case a_name => k_is)
    (case l_name => k_is)
    (case c_name => k_is)
    (case k_name => k_is)
    (case a_spaced => k_is)
    (case l_spaced => k_is)
    (case c_spaced => k_is)
    (case k_spaced => k_is)
    (case a_rowsl => k_is)
    (case l_rowsl => k_is)
    (case c_rowsl => k_is)
    (case k_rowsl => k_is)
    (case a_lball => k_is)
    (case l_lball => k_is)
    (case c_lball => k_is)
    (case k_lball => k_is)
    (case a_lentry => k_is)
    (case l_lentry => k_is)
    (case c_lentry => k_is)
    (case k_lentry => k_is)
    (case a_lwords => k_is)
    (case l_lwords => k_is)
    (case c_lwords => k_is)
    (case k_lwords => k_is)
    (case a_alike => k_is)
    (case l_alike => k_is)
    (case c_alike => k_is)
    (case k_alike => k_is)
    (case a_ltold => k_is)
    (case l_ltold => k_is)
    (case c_ltold => k_is)
    (case k_ltold => k_is)
    (case a_law => k_is)
    (case l_law => k_is)
    (case c_law => k_is)
    (case k_law => k_is)
    (case z_len => k_is)
    (case z_list => k_is)
    (case z_int => k_is)
    (case z_range => k_is)
    (case z_all => k_is)
    (case z_isinstance => k_is)
    (case z_bool => k_is)
    (case z_str => k_is)
    (case z_tuple => k_is)
    (case z_enumerate => k_is)
    (case z_zip => k_is)
    (case gL => k_is)
    (case gM => k_is)
    (case gF => k_is)
    (case gG => k_is)
    (case gR => k_is)
    (case gN => k_is)
    (case gK => k_is)
    (case gI => k_is)
    (case gP => k_is)
    (case gE => k_is)
    (case lK => k_is)
    (case vK => rfl)
    (case lI => k_is)
    (case vI => rfl)
    (case lP => k_is)
    (case vP => rfl)
    (case lE => k_is)
    (case vE => rfl)
    (case lN => k_is)
    (case vN => rfl)
    (case wN => rfl)

