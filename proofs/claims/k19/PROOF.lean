import PyProof.Rows.All
import Wide.All
import OpenK.AllK
import Wide.FinOn
import Lean
import PyProof.EqAt
import PyProof.EqKinds
import PyProof.TupleCall
import KE.KRevIter
import PyProof.CollectWalk
import PyProof.TupleOfSeq
import KE.KDictList
import PyProof.CompUse
import PyProof.ZipIter
import KE.KEqDict
import KE.KLam
import KE.KNest
import KE.KNestM
import PySem.Challenge.RW_facework_k19_put_and_put
set_option Elab.async false
set_option linter.all false
set_option maxRecDepth 100000
/-! THE HAND LAYER, for ints, bools, texts, own classes, LISTS and tuples (index, slices, in, append, pop ..), calls, loops. Paste it whole ahead of your own text; what your proof does not reach may be deleted. -/
namespace L2
open PySem PySem.Spec PyProof.Rows

/-- a key: an int or a str -/
abbrev Key := Sum Int Str
def keyIs : Key → Value → Bool
  | .inl k, v => Value.isInt k v
  | .inr x, v => Value.isStrOf x v
def keyH (w : World) : Key → Int
  | .inl k => hashInt k
  | .inr x => hashStr w x
theorem keyIs_shape : ∀ {k : Key} {v : Value}, keyIs k v = true → (∃ i t, k = Sum.inl i ∧ v = Value.int i t) ∨ (∃ x t, k = Sum.inr x ∧ v = Value.str x t)
  | .inl i, v, h => by
    obtain ⟨t, e⟩ := Value.isInt_shape (k := i) (v := v) h
    exact .inl ⟨i, t, rfl, e⟩
  | .inr x, v, h => by
    obtain ⟨t, e⟩ := Value.isStrOf_shape (x := x) (v := v) h
    exact .inr ⟨x, t, rfl, e⟩
theorem keyIs_int (i : Int) (t : Tok) : keyIs (.inl i) (.int i t) = true := by simp [keyIs, Value.isInt]
theorem keyIs_str (x : Str) (t : Tok) : keyIs (.inr x) (.str x t) = true := by simp [keyIs, Value.isStrOf]
theorem key_ll (a b : Int) : decide ((Sum.inl a : Key) = Sum.inl b) = (a == b) := by
  by_cases e : a = b
  · subst e; simp
  · have h : ¬ (Sum.inl a : Key) = Sum.inl b := fun q => e (Sum.inl.inj q)
    rw [decide_eq_false h]
    exact (beq_eq_false_iff_ne.mpr e).symm
theorem key_rr (a b : Str) : decide ((Sum.inr a : Key) = Sum.inr b) = decide (a = b) := by
  by_cases e : a = b
  · subst e; simp
  · have h : ¬ (Sum.inr a : Key) = Sum.inr b := fun q => e (Sum.inr.inj q)
    rw [decide_eq_false h, decide_eq_false e]
theorem key_lr (a : Int) (b : Str) : decide ((Sum.inl a : Key) = Sum.inr b) = false := decide_eq_false (fun q => nomatch q)
theorem key_rl (a : Str) (b : Int) : decide ((Sum.inr a : Key) = Sum.inl b) = false := decide_eq_false (fun q => nomatch q)

def mixKind (prog : Program) (w : World) : PySem.KeyKind prog w Key where
  is := keyIs
  hash := keyH w
  inj := fun v a b ha hb => by
    rcases keyIs_shape ha with ⟨i, t, rfl, rfl⟩ | ⟨x, t, rfl, rfl⟩
    · rcases keyIs_shape hb with ⟨j, u, rfl, e⟩ | ⟨y, u, rfl, e⟩
      · injection e with e1 _; rw [e1]
      · exact nomatch e
    · rcases keyIs_shape hb with ⟨j, u, rfl, e⟩ | ⟨y, u, rfl, e⟩
      · exact nomatch e
      · injection e with e1 _; rw [e1]
  byValue := fun k v h => by
    rcases keyIs_shape h with ⟨i, t, rfl, rfl⟩ | ⟨x, t, rfl, rfl⟩ <;> rfl
  pyHash := fun hv h => by
    rcases keyIs_shape hv with ⟨i, t, rfl, rfl⟩ | ⟨x, t, rfl, rfl⟩
    · exact wpAny_pyHash_int h
    · exact wpAny_pyHash_str h
  eqBool := fun hu hv h => by
    rcases keyIs_shape hu with ⟨i, t, rfl, rfl⟩ | ⟨x, t, rfl, rfl⟩
    · rcases keyIs_shape hv with ⟨j, u, rfl, rfl⟩ | ⟨y, u, rfl, rfl⟩
      · rw [key_ll] at h; exact wpAny_eqBool_int h
      · rw [key_lr] at h; exact SeqAt.EqAt.int_str i t y u _ _ _ _ h
    · rcases keyIs_shape hv with ⟨j, u, rfl, rfl⟩ | ⟨y, u, rfl, rfl⟩
      · rw [key_rl] at h; exact SeqAt.EqAt.str_int x t j u _ _ _ _ h
      · rw [key_rr] at h; exact wpAny_eqBool_str h
  «strs» := fun k x t v h => by
    rcases keyIs_shape h with ⟨i, u, rfl, e⟩ | ⟨y, u, rfl, e⟩
    · exact nomatch e
    · injection e with e1 _
      subst e1
      cases v <;> rfl

theorem mixKind_int (prog : Program) (w : World) (i : Int) (t : Tok) : (mixKind prog w).is (.inl i) (.int i t) = true := keyIs_int i t
theorem mixKind_str (prog : Program) (w : World) (x : Str) (t : Tok) : (mixKind prog w).is (.inr x) (.str x t) = true := keyIs_str x t
end L2

namespace L2
open PySem PySem.Spec PyProof.Rows

/-- a value, without the heap -/
inductive V where
  | non | bl (b : Bool) | int (i : Int) | str (x : Str) | byt (b : Array UInt8) | flt (b : UInt64) | ref (a : Addr) | ty (n : String)
  deriving DecidableEq

def RelV : V → Value → Prop
  | .non, u => u = Value.none
  | .bl b, u => u = Value.bool b
  | .int i, u => ∃ t, u = Value.int i t
  | .str x, u => ∃ t, u = Value.str x t
  | .byt b, u => ∃ t, u = Value.bytes b t
  | .flt b, u => ∃ t, u = Value.float b t
  | .ref a, u => u = Value.ref a
  | .ty n, u => u = Value.type n

abbrev Vals : List V → List Value → Prop := Paired RelV
theorem Vals.length {xs : List V} {us : List Value} (r : Vals xs us) : xs.length = us.length := Paired.length r
theorem Vals.get : ∀ {xs : List V} {us : List Value} {i : Nat} {x : V}, Vals xs us → xs[i]? = some x → ∃ u, us[i]? = some u ∧ RelV x u
  | _, _, _, _, .nil, e => by simp at e
  | _, _, 0, _, .cons r _, e => by simp at e; subst e; exact ⟨_, rfl, r⟩
  | _, _, i + 1, x, .cons _ t, e => by
    obtain ⟨u, h1, h2⟩ := Vals.get (i := i) (x := x) t (by simpa using e)
    exact ⟨u, by simpa using h1, h2⟩
theorem Vals.set {x : V} {u : Value} (r : RelV x u) : ∀ {xs : List V} {us : List Value} (i : Nat), Vals xs us → Vals (xs.set i x) (us.set i u)
  | _, _, _, .nil => .nil
  | _, _, 0, .cons _ t => .cons r t
  | _, _, i + 1, .cons q t => .cons q (Vals.set r i t)
theorem Vals.append : ∀ {xs ys : List V} {us ws : List Value}, Vals xs us → Vals ys ws → Vals (xs ++ ys) (us ++ ws)
  | _, _, _, _, .nil, s => s
  | _, _, _, _, .cons r t, s => .cons r (Vals.append t s)
theorem Vals.take : ∀ {xs : List V} {us : List Value} (n : Nat), Vals xs us → Vals (xs.take n) (us.take n)
  | _, _, 0, _ => .nil
  | _, _, _ + 1, .nil => .nil
  | _, _, n + 1, .cons r t => .cons r (Vals.take n t)
theorem Vals.drop : ∀ {xs : List V} {us : List Value} (n : Nat), Vals xs us → Vals (xs.drop n) (us.drop n)
  | _, _, 0, r => r
  | _, _, _ + 1, .nil => .nil
  | _, _, n + 1, .cons _ t => Vals.drop n t
def RelO : Option V → Option Value → Prop
  | some v, some u => RelV v u
  | none, none => True
  | _, _ => False
def KV {κ : Type} : List (κ × V) → List (κ × Value) → Prop := Paired fun (p : κ × V) (q : κ × Value) => p.1 = q.1 ∧ RelV p.2 q.2

/-- a key of a dict (00_mix): an int or a text -/
def kV : Key → V
  | .inl i => .int i
  | .inr x => .str x

/-- what stands at a tracked address -/
inductive HO where
  /-- a list -/
  | lst (xs : List V)
  /-- a tuple (never changes) -/
  | tup (xs : List V)
  /-- a dict whose keys are ints and texts; one whose keys are tuples of ints and texts (the empty one is both) -/
  | dK (kvs : List (Key × V)) | dT (kvs : List (List Key × V))
  /-- a set of ints: its members, its size -/
  | set (S : Int → Bool) (n : Nat)
  /-- an instance of the class at C, its dict at dx, its attributes -/
  | ins (C dx : Addr) (fs : List (Str × V))
  /-- the dict of the instance at x -/
  | own (x : Addr)
  /-- the dict of an exception -/
  | xd (fs : List (Str × V))
  /-- a bound method, f of x -/
  | met (f x : Addr)
  /-- a range object lo, lo + 1, .. below hi -/
  | rng (lo hi : Int)
  /-- a thing that is known to the object (the script; a dict while a loop walks it): read, never written while it is so -/
  | frz (o : Obj) (u : HO)
  /-- a code object's table -/
  | tbl (ps : Array Value)
  /-- any other thing, by what is true of its one object (a def of one's own: SetO a S n := HO.ext fun h => ..) -/
  | ext (φ : Heap → Prop)

abbrev Hp := Addr → Option HO
def upd (H : Hp) (a : Addr) (o : HO) : Hp := fun b => if b = a then some o else H b
theorem upd_same {H : Hp} {a : Addr} {o : HO} : upd H a o a = some o := by unfold upd; rw [if_pos rfl]
theorem upd_ne {H : Hp} {a b : Addr} {o : HO} (h : b ≠ a) : upd H a o b = H b := by unfold upd; rw [if_neg h]
/-- two objects of different content stand apart -/
theorem ne_of {H : Hp} {a b : Addr} {o u : HO} (h : H a = some o) (h' : H b = some u) (d : o ≠ u) : a ≠ b := by
  intro e; subst e; rw [h] at h'; exact d (Option.some.inj h')
theorem ne_of_none {H : Hp} {a b : Addr} {o : HO} (h : H a = some o) (h' : H b = none) : a ≠ b := by
  intro e; subst e; rw [h] at h'; cases h'

section
variable (P : Program) (w : World)
def ObjOk (H : Hp) (h : Heap) (a : Addr) : HO → Prop
  | .lst xs => xs.length ≤ sizeLine ∧ ∃ (its : List Value) (n : Nat), Vals xs its ∧ h.get? a = some { cls := .type "list", data := .seq its.toArray n }
  | .tup xs => xs.length ≤ sizeLine ∧ ∃ its : List Value, Vals xs its ∧ IsTup h a its.toArray
  | .dK kvs => kvs.length ≤ sizeLine ∧ (a == sysModules) = false ∧ ∃ vs, KV kvs vs ∧ h.DictOf (mixKind P w) a vs
  | .dT kvs => kvs.length ≤ sizeLine ∧ (a == sysModules) = false ∧ ∃ xs : List (List Key × Addr × Value),
      Paired (fun (p : List Key × V) (q : List Key × Addr × Value) => p.1 = q.1 ∧ H q.2.1 = some (.tup (p.1.map kV)) ∧ RelV p.2 q.2.2) kvs xs ∧
      ∃ o es ep, h.get? a = some o ∧ o.ExactDict ∧ o.data = .dict es ep ∧ es.toList = xs.map (entryOfKey (tupleKind (mixKind P w))) ∧ (xs.map (·.1)).Nodup
  | .set S n => h.SetOf (intKind P w) a S n
  | .ins C dx fs => H dx = some (.own a) ∧ fs.length ≤ 1000 ∧ dx ≠ a ∧ h.get? a = some (PySem.W.instObj C dx) ∧
      ∃ mA, h.Ns1 dx mA ∧ (∀ f, RelO (fs.lookup f) (mA f)) ∧ PySem.Within mA (fs.map (·.1))
  | .own _ => ∃ o, h.get? a = some o
  | .xd fs => ∃ mA, h.Ns1 a mA ∧ ∀ f, RelO (fs.lookup f) (mA f)
  | .rng lo hi => ∃ t u v, h.get? a = some { cls := .type "range", data := .fields #[.int lo t, .int hi u, .int 1 v] }
  | .frz o u => h.get? a = some o ∧ ObjOk H h a u
  | .tbl ps => h.get? a = some { cls := .none, data := .fields ps }
  | .met f x => h.get? a = some (PySem.W.methodObj (.ref f) (.ref x))
  | .ext φ => φ h ∧ (∃ o, h.get? a = some o) ∧ ∀ h1 h2 : Heap, φ h1 → (∀ o, h1.get? a = some o → h2.get? a = some o) → φ h2
/-- the abstract heap is held -/
def HOk (H : Hp) (h : Heap) : Prop := ∀ a o, H a = some o → ObjOk P w H h a o
end

section
variable {P : Program} {w : World} {H H' : Hp} {h h' : Heap} {a : Addr} {o : HO}
theorem ObjOk.lt (x : ObjOk P w H h a o) : a < h.objs.size := by
  cases o with
  | lst xs => obtain ⟨_, _, _, _, e⟩ := x; exact Heap.lt_size e
  | tup xs => obtain ⟨_, _, _, p⟩ := x; exact p.lt
  | dK kvs => obtain ⟨_, _, _, _, o, _, _, e, _⟩ := x; exact Heap.lt_size e
  | dT kvs => obtain ⟨_, _, _, _, o, _, _, e, _⟩ := x; exact Heap.lt_size e
  | set S n => obtain ⟨o, _, _, _, e, _⟩ := x; exact Heap.lt_size e
  | ins C dx fs => obtain ⟨_, _, _, e, _⟩ := x; exact Heap.lt_size e
  | own y => obtain ⟨_, e⟩ := x; exact Heap.lt_size e
  | xd fs => obtain ⟨_, ⟨_, _, _, e, _⟩, _⟩ := x; exact Heap.lt_size e
  | rng lo hi => obtain ⟨_, _, _, e⟩ := x; exact Heap.lt_size e
  | frz ob u => obtain ⟨e, _⟩ := x; exact Heap.lt_size e
  | tbl ps => exact Heap.lt_size (show h.get? a = some _ from x)
  | met f y => exact Heap.lt_size (show h.get? a = some _ from x)
  | ext φ => obtain ⟨_, ⟨_, e⟩, _⟩ := x; exact Heap.lt_size e
theorem Paired.mapP {α β : Type} {F G : α → β → Prop} : ∀ {l₁ : List α} {l₂ : List β}, Paired F l₁ l₂ → (∀ a b, F a b → G a b) → Paired G l₁ l₂
  | _, _, .nil, _ => .nil
  | _, _, .cons r t, f => .cons (f _ _ r) (Paired.mapP t f)
/-- what an object's description leans on: its own object, its own dict, the tuples -/
theorem ObjOk.stay (x : ObjOk P w H h a o) (k : ∀ b u, (b = a ∨ H b = some (.own a)) → h.get? b = some u → h'.get? b = some u)
    (ho : ∀ b, H b = some (.own a) → H' b = some (.own a)) (ht : ∀ b xs, H b = some (.tup xs) → H' b = some (.tup xs)) : ObjOk P w H' h' a o := by
  induction o with
  | lst xs => obtain ⟨z, its, n, r, e⟩ := x; exact ⟨z, its, n, r, k _ _ (.inl rfl) e⟩
  | tup xs => obtain ⟨z, its, r, ob, e, c⟩ := x; exact ⟨z, its, r, ob, k _ _ (.inl rfl) e, c⟩
  | dK kvs => obtain ⟨z, y, vs, r, ob, es, ep, e, c⟩ := x; exact ⟨z, y, vs, r, ob, es, ep, k _ _ (.inl rfl) e, c⟩
  | dT kvs =>
    obtain ⟨z, y, xs, r, ob, es, ep, e, c⟩ := x
    exact ⟨z, y, xs, Paired.mapP r fun p q z => ⟨z.1, ht _ _ z.2.1, z.2.2⟩, ob, es, ep, k _ _ (.inl rfl) e, c⟩
  | set S n => obtain ⟨ob, es, ep, t, e, c⟩ := x; exact ⟨ob, es, ep, t, k _ _ (.inl rfl) e, c⟩
  | ins C dx fs =>
    obtain ⟨d, z, ne, e, mA, ⟨od, es, ep, e2, c⟩, r⟩ := x
    exact ⟨ho _ d, z, ne, k _ _ (.inl rfl) e, mA, ⟨od, es, ep, k _ _ (.inr d) e2, c⟩, r⟩
  | own y => obtain ⟨ob, e⟩ := x; exact ⟨ob, k _ _ (.inl rfl) e⟩
  | xd fs => obtain ⟨mA, ⟨od, es, ep, e, c⟩, r⟩ := x; exact ⟨mA, ⟨od, es, ep, k _ _ (.inl rfl) e, c⟩, r⟩
  | rng lo hi => obtain ⟨t, u, v, e⟩ := x; exact ⟨t, u, v, k _ _ (.inl rfl) e⟩
  | frz ob u ih => obtain ⟨e, q⟩ := x; exact ⟨k _ _ (.inl rfl) e, ih q⟩
  | tbl ps =>
    have e : h.get? a = some { cls := .none, data := .fields ps } := x
    show h'.get? a = some { cls := .none, data := .fields ps }
    exact k a _ (.inl rfl) e
  | met f y =>
    have e : h.get? a = some (PySem.W.methodObj (.ref f) (.ref y)) := x
    show h'.get? a = some (PySem.W.methodObj (.ref f) (.ref y))
    exact k a _ (.inl rfl) e
  | ext φ => obtain ⟨p, ⟨o, e⟩, st⟩ := x; exact ⟨st _ _ p fun o q => k _ _ (.inl rfl) q, ⟨o, k _ _ (.inl rfl) e⟩, st⟩
theorem HOk.lt (x : HOk P w H h) (e : H a = some o) : a < h.objs.size := (x a o e).lt
theorem HOk.fresh (x : HOk P w H h) (e : h.objs.size ≤ a) : H a = none := by
  cases q : H a with
  | none => rfl
  | some u => exact absurd (Nat.lt_of_lt_of_le (x.lt q) e) (Nat.lt_irrefl _)
/-- every object of the heap is kept -/
theorem HOk.kept (x : HOk P w H h) (k : ∀ b u, h.get? b = some u → h'.get? b = some u) : HOk P w H h' := fun a o e =>
  (x a o e).stay (fun b u _ q => k b u q) (fun _ q => q) fun _ _ q => q
/-- a new object is laid and tracked -/
theorem HOk.laid (x : HOk P w H h) (k : ∀ b u, h.get? b = some u → h'.get? b = some u) (hp : h.objs.size ≤ a) (new : ObjOk P w (upd H a o) h' a o) : HOk P w (upd H a o) h' := fun b u e => by
  have hn := x.fresh hp
  by_cases hb : b = a
  · subst hb; rw [upd_same] at e; cases e; exact new
  · rw [upd_ne hb] at e
    exact (x b u e).stay (fun c v _ q => k c v q) (fun c q => by rw [upd_ne (ne_of_none q hn)]; exact q) fun c xs q => by rw [upd_ne (ne_of_none q hn)]; exact q
end

/-- what may be read as u: it is u, or a known u -/
def Rd (H : Hp) (a : Addr) (u : HO) : Prop := H a = some u ∨ ∃ o, H a = some (.frz o u)
theorem Rd.of {H : Hp} {a : Addr} {u : HO} (h : H a = some u) : Rd H a u := .inl h
theorem Rd.ok {P : Program} {w : World} {H : Hp} {h : Heap} {a : Addr} {u : HO} (r : Rd H a u) (x : HOk P w H h) : ObjOk P w H h a u := by
  rcases r with r | ⟨o, r⟩
  · exact x a u r
  · obtain ⟨_, q⟩ := x a _ r
    exact q
/-- what may be written -/
def Mut : Option HO → Prop
  | some (.lst _) => True
  | some (.dK _) => True
  | some (.dT _) => True
  | some (.set _ _) => True
  | some (.ins _ _ _) => True
  | some (.ext _) => True
  | _ => False
section
variable {P : Program} {w : World} {H : Hp} {h h' : Heap} {x e : Addr} {o' : HO}
/-- the object at e is changed: x itself, or the dict of the instance x -/
theorem HOk.write (ok : HOk P w H h) (mu : Mut (H x)) (he : e = x ∨ H e = some (.own x)) (k : ∀ b u, b ≠ e → h.get? b = some u → h'.get? b = some u) (heo : ∃ u, h'.get? e = some u)
    (new : ObjOk P w (upd H x o') h' x o') : HOk P w (upd H x o') h' := fun b u q => by
  have nown : ∀ c y, H c = some (.own y) → c ≠ x := fun c y r z => by subst z; rw [r] at mu; exact mu
  have ntup : ∀ c xs, H c = some (.tup xs) → c ≠ x := fun c xs r z => by subst z; rw [r] at mu; exact mu
  by_cases hb : b = x
  · subst hb; rw [upd_same] at q; cases q; exact new
  · rw [upd_ne hb] at q
    by_cases hbe : b = e
    · have q' : H b = some (.own x) := by
        rcases he with z | z
        · exact absurd (hbe.trans z) hb
        · rw [hbe]; exact z
      rw [q] at q'; cases q'
      obtain ⟨v, hv⟩ := heo
      exact ⟨v, by rw [hbe]; exact hv⟩
    · refine (ok b u q).stay (fun c v hc r => k c v ?_ r) (fun c r => by rw [upd_ne (nown c b r)]; exact r) fun c xs r => by rw [upd_ne (ntup c xs r)]; exact r
      rcases hc with rfl | hc
      · exact hbe
      · rintro rfl
        rcases he with z | z
        · exact nown c b hc z
        · rw [hc] at z; cases z; exact hb rfl
end

/-! ### kept unless tracked; of the frames at fs (the callers') the slots may change (an exception that passes writes there); of the records at ex (iterators) nothing is said -/
structure Un (fs ex : List Addr) (H H' : Hp) (h h' : Heap) : Prop where
  keep : ∀ b o, h.get? b = some o → H b = none → b ∉ fs → b ∉ ex → h'.get? b = some o
  slot : ∀ b o, h.get? b = some o → H b = none → b ∈ fs → b ∉ ex → ∃ sl, h'.get? b = some { o with slots := sl }
  free : ∀ b o, h.get? b = some o → H b = none → b ∉ ex → H' b = none
  there : ∀ b o, h.get? b = some o → b ∉ ex → ∃ o', h'.get? b = some o'
  tups : ∀ b xs, H b = some (.tup xs) → H' b = some (.tup xs)
  frzs : ∀ b o u, H b = some (.frz o u) → H' b = some (.frz o u)
  tbls : ∀ b ps, H b = some (.tbl ps) → ∃ more, H' b = some (.tbl (ps ++ more))
section
variable {fs fs' ex ex' : List Addr} {H H1 H2 : Hp} {h h1 h2 h' : Heap} {a x e : Addr} {o : HO}
theorem Un.any (u : Un fs ex H H1 h h1) {b : Addr} {ob : Obj} (q : h.get? b = some ob) (n : H b = none) (hx : b ∉ ex) : ∃ sl, h1.get? b = some { ob with slots := sl } := by
  by_cases hb : b ∈ fs
  · exact u.slot b ob q n hb hx
  · exact ⟨ob.slots, u.keep b ob q n hb hx⟩
theorem Un.trans (a : Un fs ex H H1 h h1) (b : Un fs ex H1 H2 h1 h2) : Un fs ex H H2 h h2 where
  keep := fun c ob q n hc hx => b.keep c ob (a.keep c ob q n hc hx) (a.free c ob q n hx) hc hx
  slot := fun c ob q n hc hx => by
    obtain ⟨sl, e1⟩ := a.slot c ob q n hc hx
    obtain ⟨sl', e2⟩ := b.slot c _ e1 (a.free c ob q n hx) hc hx
    exact ⟨sl', e2⟩
  free := fun c ob q n hx => by
    obtain ⟨o', e1⟩ := a.there c ob q hx
    exact b.free c o' e1 (a.free c ob q n hx) hx
  there := fun c ob q hx => by
    obtain ⟨o', e1⟩ := a.there c ob q hx
    exact b.there c o' e1 hx
  tups := fun c xs q => b.tups c xs (a.tups c xs q)
  frzs := fun c ob xs q => b.frzs c ob xs (a.frzs c ob xs q)
  tbls := fun c ps q => by
    obtain ⟨m1, e1⟩ := a.tbls c ps q
    obtain ⟨m2, e2⟩ := b.tbls c _ e1
    exact ⟨m1 ++ m2, by rw [e2, Array.append_assoc]⟩
theorem Un.kept (k : ∀ b u, h.get? b = some u → h'.get? b = some u) : Un fs ex H H h h' :=
  ⟨fun b ob q _ _ _ => k b ob q, fun b ob q _ _ _ => ⟨ob.slots, k b ob q⟩, fun _ _ _ n _ => n, fun b ob q _ => ⟨ob, k b ob q⟩, fun _ _ q => q, fun _ _ _ q => q, fun _ ps q => ⟨#[], by rw [q]; simp⟩⟩
theorem Un.refl : Un fs ex H H h h := Un.kept fun _ _ q => q
theorem Un.laid (k : ∀ b u, h.get? b = some u → h'.get? b = some u) (hp : h.objs.size ≤ a) (hn : H a = none) : Un fs ex H (upd H a o) h h' where
  keep := fun b u q _ _ _ => k b u q
  slot := fun b u q _ _ _ => ⟨u.slots, k b u q⟩
  free := fun b u q n _ => by rw [upd_ne (Nat.ne_of_lt (Nat.lt_of_lt_of_le (Heap.lt_size q) hp))]; exact n
  there := fun b u q _ => ⟨u, k b u q⟩
  tups := fun b xs q => by rw [upd_ne (ne_of_none q hn)]; exact q
  frzs := fun b u xs q => by rw [upd_ne (ne_of_none q hn)]; exact q
  tbls := fun b ps q => ⟨#[], by rw [upd_ne (ne_of_none q hn), q]; simp⟩
theorem Un.write (mu : Mut (H x)) (he : e = x ∨ H e = some (.own x)) (k : ∀ b u, b ≠ e → h.get? b = some u → h'.get? b = some u) (heo : ∃ u, h'.get? e = some u) : Un fs ex H (upd H x o) h h' := by
  have hx : ∀ b, H b = none → b ≠ x := fun b n z => by subst z; rw [n] at mu; exact mu
  have hb : ∀ b, H b = none → b ≠ e := fun b n z => by
    subst z
    rcases he with r | r
    · exact hx b n r
    · rw [n] at r; cases r
  have hm : ∀ b u, H b = some u → ¬ Mut (some u) → b ≠ x := fun b u q nm z => by subst z; rw [q] at mu; exact nm mu
  refine ⟨fun b u q n _ _ => k b u (hb b n) q, fun b u q n _ _ => ⟨u.slots, k b u (hb b n) q⟩, fun b u q n _ => by rw [upd_ne (hx b n)]; exact n, fun b u q _ => ?_,
    fun b xs q => by rw [upd_ne (hm b _ q fun z => z)]; exact q, fun b u xs q => by rw [upd_ne (hm b _ q fun z => z)]; exact q, fun b ps q => ⟨#[], by rw [upd_ne (hm b _ q fun z => z), q]; simp⟩⟩
  by_cases hbe : b = e
  · subst hbe; exact heo
  · exact ⟨u, k b u hbe q⟩
theorem Un.mono (u : Un fs ex H H1 h h1) (hs : ∀ b ∈ fs, b ∈ fs') (hx : ∀ b ∈ ex, b ∈ ex') : Un fs' ex' H H1 h h1 :=
  ⟨fun b ob q n hb he => u.keep b ob q n (fun z => hb (hs b z)) fun z => he (hx b z), fun _ _ q n _ he => u.any q n fun z => he (hx _ z), fun b ob q n he => u.free b ob q n fun z => he (hx b z), fun b ob q he => u.there b ob q fun z => he (hx b z), u.tups, u.frzs, u.tbls⟩
end

/-! ### the heap without what is tracked -/
def trk (h : Heap) (H : Hp) : List Addr := (List.range h.objs.size).filter fun a => (H a).isSome
def hidT (h : Heap) (H : Hp) : Heap := PySem.W.hideAll h (trk h H)
theorem hidT_size (h : Heap) (H : Hp) : (hidT h H).objs.size = h.objs.size := PySem.W.hideAll_size _ _
theorem hidT_get {h : Heap} {H : Hp} {b : Addr} {o : Obj} (e : h.get? b = some o) (n : H b = none) : (hidT h H).get? b = some o :=
  PySem.W.hideAll_get _ e fun hm => by
    have q : (H b).isSome = true := (List.mem_filter.mp hm).2
    rw [n] at q; simp at q
theorem of_hidT {h : Heap} {H : Hp} {b : Addr} {o : Obj} (e : (hidT h H).get? b = some o) : h.get? b = some o ∧ H b = none := by
  have e' : h.get? b = some o := PySem.W.of_hideAll (trk h H) e
  refine ⟨e', ?_⟩
  cases q : H b with
  | none => rfl
  | some x =>
    have hm : b ∈ trk h H := List.mem_filter.mpr ⟨List.mem_range.mpr (Heap.lt_size e'), by simp [q]⟩
    have z : (hidT h H).get? b = none := PySem.W.hideAll_none (trk h H) hm
    rw [z] at e; cases e

/-! ### OpenK's ledger, filled with every new object but one -/
def allNews (g h : Heap) (L : Addr) : List (Addr × Obj) := (List.range h.objs.size).filterMap fun a => if a = L ∨ (g.get? a).isSome = true then none else (h.get? a).map fun o => (a, o)
def rest (g h : Heap) (L d : Addr) : List (Addr × Obj) := (allNews g h L).filter fun p => decide (p.1 ≠ d)
end L2

namespace L2
open PySem PySem.Spec PyProof.Rows

/-- the module's facts, over the base: the heap at the law's entry without what is tracked there -/
structure Mod (K : PySem.W.Frag) (mg : Str → Option Value) (base : Heap) : Prop where
  kin : K.In base
  glob : base.Ns mainGlobals mg
  blt : ∃ mb, base.Ns builtinsNs mb ∧ ∀ x : Str, x ≠ "__name__" → mb x = bootBuiltins x
  nolimit : base.NoLimit

/-- the context: a def's body (or a comprehension's block) running. base: fixed through the whole law; s₀, H₀: the entry; outer: the frames whose slots others may change (a def's callers); stack: all frames that run;
   ex: iterators that were made ahead of the entry and are walked here (a comprehension's); fn: the names whose cells were made at the entry (a def: all; a comprehension's block: its own); calm: not within an except suite; pn: pins that every state bears; xe: what is wanted of an exception that leaves the code -/
structure Cx where
  prog : Program
  w : World
  K : PySem.W.Frag
  mg : Str → Option Value
  base : Heap
  A : Around
  N : List Str
  s₀ : Shared
  H₀ : Hp
  env : Env
  outer : List Env
  stack : List Env
  ex : List Addr
  fn : Str → Bool
  calm : Bool
  pn : List (Addr × Obj)
  xe : Value → Shared → Prop
/-- the callers' frames -/
def frs (l : List Env) : List Addr := l.filterMap (·.frame)
abbrev Cx.fs (X : Cx) : List Addr := frs X.outer

def Vis (sc : Scope) (x : Str) : Prop := sc.names.lookup x = some .local ∨ sc.names.lookup x = some .cell ∨ sc.names.lookup x = some .free
def Loc (sc : Scope) (x : Str) : Prop := sc.names.lookup x = some .local ∨ sc.names.lookup x = some .cell
def Look (env : Env) (h : Heap) (m : Str → Option Value) (x : Str) (u : Value) : Prop :=
  (env.kindOf x = some .local ∧ m x = some u) ∨ ((env.kindOf x = some .cell ∨ env.kindOf x = some .free) ∧ ∃ c, env.cells.lookup x = some c ∧ h.IsCell c (some u))

structure Cx.Ok (X : Cx) : Prop where
  mod : Mod X.K X.mg X.base
  kind : X.env.scope.kind = .function
  glob : X.env.globals = mainGlobals
  blt : X.env.builtins = builtinsNs
  above : X.s₀.heap.objs.size ≤ X.env.locals
  inj : ∀ x y c, X.env.cells.lookup x = some c → X.env.cells.lookup y = some c → x = y
  has : ∀ x, (X.env.kindOf x = some .cell ∨ X.env.kindOf x = some .free) → ∃ c, X.env.cells.lookup x = some c
  cab : ∀ x c, X.fn x = true → X.env.cells.lookup x = some c → X.s₀.heap.objs.size ≤ c
  hd : X.calm = true → X.A.handled = none
  frames : X.A.frames = some X.stack
  stk : X.stack = X.outer ∨ (X.stack = X.env :: X.outer ∧ X.env.frame = some X.env.locals)
  exf : ∀ b ∈ X.ex, b ≠ X.env.locals ∧ ∀ x c, X.env.cells.lookup x = some c → c ≠ b
  bs : ∀ b o, X.base.get? b = some o → X.s₀.heap.get? b = some o ∧ X.H₀ b = none
  bsz : X.base.objs.size ≤ X.s₀.heap.objs.size
  noex : ∀ b o, X.base.get? b = some o → b ∉ X.ex
  exfs : ∀ b ∈ X.ex, b ∉ X.fs
  funs : X.s₀.heap.FunFrames X.base X.outer
  frf : ∀ b ∈ X.fs, X.H₀ b = none

structure Inv (X : Cx) (pins : List (Addr × Obj)) (σ : List (Option V)) (H : Hp) (s : Shared) : Prop where
  ok : X.Ok
  os : s.os = X.s₀.os
  bare : AllBare s.gens
  base : Un X.fs X.ex X.H₀ H X.s₀.heap s.heap
  loc : ∃ m, s.heap.Ns X.env.locals m ∧ ∀ (i : Nat) (x : Str) (v : V), X.N[i]? = some x → σ[i]? = some (some v) → Vis X.env.scope x → ∃ u, RelV v u ∧ Look X.env s.heap m x u
  cell : ∀ x c, X.env.cells.lookup x = some c → ∃ v, s.heap.IsCell c v
  free : H X.env.locals = none
  freeC : ∀ x c, X.env.cells.lookup x = some c → H c = none
  pin : ∀ p ∈ X.pn ++ pins, s.heap.get? p.1 = some p.2 ∧ H p.1 = none ∧ p.1 ≠ X.env.locals ∧ p.1 ∉ X.fs ∧ ∀ v, p.2.data ≠ .cell v
  hok : HOk X.prog X.w H s.heap
  len : σ.length = X.N.length

section
variable {X : Cx} {pins : List (Addr × Obj)} {σ : List (Option V)} {H H' : Hp} {s : Shared} {h' : Heap}

theorem Cx.Ok.nofr (ok : X.Ok) {b : Addr} {o : Obj} (e : X.base.get? b = some o) : b ∉ X.fs := fun hb => by
  have := (ok.funs.mem hb).1
  rw [e] at this; cases this
theorem Inv.bs (I : Inv X pins σ H s) : ∀ b o, X.base.get? b = some o → s.heap.get? b = some o ∧ H b = none := fun b o e =>
  ⟨I.base.keep b o (I.ok.bs b o e).1 (I.ok.bs b o e).2 (I.ok.nofr e) (I.ok.noex b o e), I.base.free b o (I.ok.bs b o e).1 (I.ok.bs b o e).2 (I.ok.noex b o e)⟩
theorem Inv.bk (I : Inv X pins σ H s) : ∀ b o, X.base.get? b = some o → s.heap.get? b = some o := fun b o e => (I.bs b o e).1
theorem Inv.mod (I : Inv X pins σ H s) : Mod X.K X.mg X.base := I.ok.mod
theorem Inv.kIn (I : Inv X pins σ H s) : X.K.In s.heap := I.ok.mod.kin.keeps I.bk
theorem Inv.nolimit (I : Inv X pins σ H s) : s.heap.NoLimit := I.ok.mod.nolimit.keeps I.bk
/-- the frame over the base: for OpenK's rules (K.In X.base is I.mod.kin) -/
theorem Inv.fr (I : Inv X pins σ H s) : ∃ m, Fr X.base X.env.locals s.heap m :=
  let ⟨m, hn, _⟩ := I.loc
  ⟨m, hn, I.bk, Nat.le_trans I.ok.bsz I.ok.above⟩
theorem Inv.lt (I : Inv X pins σ H s) : X.env.locals < s.heap.objs.size := let ⟨_, hn, _⟩ := I.loc; hn.lt
theorem Inv.sz (I : Inv X pins σ H s) : X.s₀.heap.objs.size ≤ s.heap.objs.size := Nat.le_trans I.ok.above (Nat.le_of_lt I.lt)
theorem Inv.nofs (I : Inv X pins σ H s) {a : Addr} (h : s.heap.objs.size ≤ a) : a ∉ X.fs := fun hb => by
  obtain ⟨_, o, ho, _⟩ := I.ok.funs.mem hb
  exact absurd (Nat.lt_of_lt_of_le (Heap.lt_size ho) (Nat.le_trans I.sz h)) (Nat.lt_irrefl _)
theorem Inv.cne (I : Inv X pins σ H s) : ∀ x c, X.env.cells.lookup x = some c → c ≠ X.env.locals := fun x c e z => by
  obtain ⟨v, o, ho, hd⟩ := I.cell x c e
  obtain ⟨m, ⟨o', es, ep, ho', hd', _⟩, _⟩ := I.loc
  rw [z, ho'] at ho; cases ho; rw [hd'] at hd; cases hd
theorem Inv.funs (I : Inv X pins σ H s) : s.heap.FunFrames X.base X.outer := by
  have all : ∀ (l : List Env), (∀ b ∈ frs l, b ∈ X.fs) → X.s₀.heap.FunFrames X.base l → s.heap.FunFrames X.base l := by
    intro l
    induction l with
    | nil => intro _ _; trivial
    | cons env r ih =>
      intro hs hl
      obtain ⟨hk, ⟨L, o, hf, hn, ho, hd⟩, hr⟩ := hl
      have hL : L ∈ X.fs := hs L (by unfold frs; rw [List.filterMap_cons, hf]; exact List.mem_cons_self)
      obtain ⟨sl, e⟩ := I.base.slot L o ho (I.ok.frf L hL) hL fun z => I.ok.exfs L z hL
      exact ⟨hk, ⟨L, _, hf, hn, e, hd⟩, ih (fun b hb => hs b (by unfold frs; rw [List.filterMap_cons, hf]; exact List.mem_cons_of_mem _ hb)) hr⟩
  exact all X.outer (fun _ hb => hb) I.ok.funs

/-- the frames that run, for a call -/
theorem Inv.stack (I : Inv X pins σ H s) : s.heap.FunFrames X.base X.stack := by
  rcases I.ok.stk with e | ⟨e, hf⟩
  · rw [e]; exact I.funs
  · rw [e]
    obtain ⟨m, hn, _⟩ := I.loc
    refine .cons (by rw [I.ok.kind]; decide) hf hn ?_ I.funs
    exact Heap.get?_none_of_le (Nat.le_trans I.ok.bsz I.ok.above)
theorem Inv.stkSub (I : Inv X pins σ H s) : ∀ b ∈ frs X.stack, b ∈ X.env.locals :: X.fs := fun b hb => by
  rcases I.ok.stk with e | ⟨e, hf⟩
  · rw [e] at hb; exact List.mem_cons_of_mem _ hb
  · rw [e] at hb
    unfold frs at hb
    rw [List.filterMap_cons, hf] at hb
    exact hb
theorem Inv.stkFree (I : Inv X pins σ H s) : ∀ b ∈ frs X.stack, H b = none := fun b hb => by
  rcases List.mem_cons.mp (I.stkSub b hb) with e | hb
  · rw [e]; exact I.free
  · obtain ⟨_, o, ho, _⟩ := I.ok.funs.mem hb
    exact I.base.free b o ho (I.ok.frf b hb) fun z => I.ok.exfs b z hb

/-- THE STEP: the untracked objects but the frame and the records at ch are kept (the callers' frames up to slots), the frame's map is kept, the new abstract heap is held -/
theorem Inv.step {g' : Array GenState} {t' : Nat} {d' : Drawn} {ch : List Addr} (I : Inv X pins σ H s)
    (hch : ∀ b ∈ ch, (b ∈ X.ex ∨ X.s₀.heap.objs.size ≤ b) ∧ b ≠ X.env.locals ∧ (∀ x c, X.env.cells.lookup x = some c → c ≠ b) ∧ ∀ p ∈ X.pn ++ pins, p.1 ≠ b)
    (keep : ∀ b o, b ≠ X.env.locals → b ∉ X.fs → b ∉ ch → s.heap.get? b = some o → H b = none → h'.get? b = some o)
    (slot : ∀ b o, b ≠ X.env.locals → b ∈ X.fs → b ∉ ch → s.heap.get? b = some o → H b = none → ∃ sl, h'.get? b = some { o with slots := sl }) (free : ∀ b o, b ∉ ch → s.heap.get? b = some o → H b = none → H' b = none)
    (there : ∀ b o, b ∉ ch → s.heap.get? b = some o → ∃ o', h'.get? b = some o')
    (tups : ∀ b xs, H b = some (.tup xs) → H' b = some (.tup xs)) (frzs : ∀ b o u, H b = some (.frz o u) → H' b = some (.frz o u)) (tbls : ∀ b ps, H b = some (.tbl ps) → ∃ more, H' b = some (.tbl (ps ++ more)))
    (ns : ∀ m, s.heap.Ns X.env.locals m → h'.Ns X.env.locals m) (hok : HOk X.prog X.w H' h') (hg : AllBare g') :
    Inv X pins σ H' { s with heap := h', gens := g', drawn := d', toks := t' } := by
  have neL : ∀ b o, X.s₀.heap.get? b = some o → b ≠ X.env.locals := fun b o e => Nat.ne_of_lt (Nat.lt_of_lt_of_le (Heap.lt_size e) I.ok.above)
  have neC : ∀ b o, X.s₀.heap.get? b = some o → b ∉ X.ex → b ∉ ch := fun b o e hx hb => by
    rcases (hch b hb).1 with z | z
    · exact hx z
    · exact absurd (Nat.lt_of_lt_of_le (Heap.lt_size e) z) (Nat.lt_irrefl _)
  have cellK : ∀ x c, X.env.cells.lookup x = some c → ∀ v, s.heap.IsCell c v → h'.IsCell c v := fun x c e v ⟨o, ho, hd⟩ => by
    have nch : c ∉ ch := fun z => (hch c z).2.2.1 x c e rfl
    by_cases hc : c ∈ X.fs
    · obtain ⟨sl, q⟩ := slot c o (I.cne x c e) hc nch ho (I.freeC x c e)
      exact ⟨_, q, hd⟩
    · exact ⟨o, keep c o (I.cne x c e) hc nch ho (I.freeC x c e), hd⟩
  refine ⟨I.ok, I.os, hg, ⟨fun b o e n hb hx => ?_, fun b o e n hb hx => ?_, fun b o e n hx => ?_, fun b o e hx => ?_, fun b xs e => tups b xs (I.base.tups b xs e), fun b o xs e => frzs b o xs (I.base.frzs b o xs e), fun b ps e => ?_⟩, ?_, fun x c e => ?_, ?_, fun x c e => ?_, fun p hp => ?_, hok, I.len⟩
  · exact keep b o (neL b o e) hb (neC b o e hx) (I.base.keep b o e n hb hx) (I.base.free b o e n hx)
  · obtain ⟨sl, e1⟩ := I.base.slot b o e n hb hx
    obtain ⟨sl', e2⟩ := slot b _ (neL b o e) hb (neC b o e hx) e1 (I.base.free b o e n hx)
    exact ⟨sl', e2⟩
  · obtain ⟨o', e1⟩ := I.base.there b o e hx
    exact free b o' (neC b o e hx) e1 (I.base.free b o e n hx)
  · obtain ⟨o', e1⟩ := I.base.there b o e hx
    exact there b o' (neC b o e hx) e1
  · obtain ⟨m1, e1⟩ := I.base.tbls b ps e
    obtain ⟨m2, e2⟩ := tbls b _ e1
    exact ⟨m1 ++ m2, by rw [e2, Array.append_assoc]⟩
  · obtain ⟨m, hn, hl⟩ := I.loc
    refine ⟨m, ns m hn, fun i x v e1 e2 e3 => ?_⟩
    obtain ⟨u, r, l⟩ := hl i x v e1 e2 e3
    refine ⟨u, r, ?_⟩
    rcases l with l | ⟨k, c, e, z⟩
    · exact .inl l
    · exact .inr ⟨k, c, e, cellK x c e _ z⟩
  · obtain ⟨v, z⟩ := I.cell x c e
    exact ⟨v, cellK x c e v z⟩
  · obtain ⟨m, ⟨o, _, _, ho, _⟩, _⟩ := I.loc
    exact free _ o (fun z => (hch _ z).2.1 rfl) ho I.free
  · obtain ⟨v, o, ho, hd⟩ := I.cell x c e
    exact free c o (fun z => (hch c z).2.2.1 x c e rfl) ho (I.freeC x c e)
  · obtain ⟨e, n, ne, nf, d⟩ := I.pin p hp
    have nch : p.1 ∉ ch := fun z => (hch p.1 z).2.2.2 p hp rfl
    exact ⟨keep p.1 p.2 ne nf nch e n, free p.1 p.2 nch e n, ne, nf, d⟩
/-- .. where the frame's own object is kept too -/
theorem Inv.un {t' : Nat} (I : Inv X pins σ H s) (u : Un X.fs [] H H' s.heap h') (hok : HOk X.prog X.w H' h') : Inv X pins σ H' { s with heap := h', toks := t' } := by
  obtain ⟨m, ⟨o, es, ep, ho, r⟩, _⟩ := id I.loc
  obtain ⟨sl, hL⟩ := u.any ho I.free (by simp)
  exact I.step (g' := s.gens) (d' := s.drawn) (ch := []) (fun _ z => nomatch z) (fun b o _ hb _ e n => u.keep b o e n hb (by simp)) (fun b o _ hb _ e n => u.slot b o e n hb (by simp)) (fun b o _ e n => u.free b o e n (by simp)) (fun b o _ e => u.there b o e (by simp)) u.tups u.frzs u.tbls (fun m' hm => by
    obtain ⟨o', es', ep', ho', r'⟩ := hm
    rw [ho] at ho'; cases ho'
    exact ⟨_, es', ep', hL, r'⟩) hok I.bare
/-- behind a call (or a comprehension's block): the slots of this frame may have changed too, the records at ch may have turned -/
theorem Inv.call {g' : Array GenState} {t' : Nat} {d' : Drawn} {ch : List Addr} (I : Inv X pins σ H s) (u : Un (frs X.stack) ch H H' s.heap h') (hok : HOk X.prog X.w H' h') (hg : AllBare g')
    (hch : ∀ b ∈ ch, (b ∈ X.ex ∨ X.s₀.heap.objs.size ≤ b) ∧ b ≠ X.env.locals ∧ (∀ x c, X.env.cells.lookup x = some c → c ≠ b) ∧ ∀ p ∈ X.pn ++ pins, p.1 ≠ b) :
    Inv X pins σ H' { s with heap := h', gens := g', drawn := d', toks := t' } := by
  obtain ⟨m, ⟨o, es, ep, ho, r⟩, _⟩ := id I.loc
  obtain ⟨sl, hL⟩ := u.any ho I.free fun z => (hch _ z).2.1 rfl
  exact I.step (ch := ch) hch (fun b o hL hb hc e n => u.keep b o e n (fun z => (List.mem_cons.mp (I.stkSub b z)).elim hL hb) hc) (fun b o _ _ hc e n => u.any e n hc) (fun b o hc e n => u.free b o e n hc) (fun b o hc e => u.there b o e hc) u.tups u.frzs u.tbls (fun m' hm => by
    obtain ⟨o', es', ep', ho', r'⟩ := hm
    rw [ho] at ho'; cases ho'
    exact ⟨_, es', ep', hL, r'⟩) hok hg
/-- an untracked record of ours (an iterator) has turned -/
theorem Inv.turned {t' : Nat} {it : Addr} (I : Inv X pins σ H s) (k : ∀ b o, b ≠ it → s.heap.get? b = some o → h'.get? b = some o) (hn : H it = none) (hL : it ≠ X.env.locals)
    (h1 : it ∈ X.ex ∨ X.s₀.heap.objs.size ≤ it) (h2 : ∀ x c, X.env.cells.lookup x = some c → c ≠ it) (h3 : ∀ p ∈ X.pn ++ pins, p.1 ≠ it) : Inv X pins σ H { s with heap := h', toks := t' } := by
  have nit : ∀ b u, H b = some u → b ≠ it := fun b u e z => by rw [z, hn] at e; cases e
  refine I.step (g' := s.gens) (d' := s.drawn) (ch := [it]) (fun b hb => ?_) (fun b o _ _ hc e _ => k b o (fun z => hc (by simp [z])) e) (fun b o _ _ hc e _ => ⟨o.slots, k b o (fun z => hc (by simp [z])) e⟩) (fun _ _ _ _ n => n)
    (fun b o hc e => ⟨o, k b o (fun z => hc (by simp [z])) e⟩) (fun _ _ e => e) (fun _ _ _ e => e) (fun b ps e => ⟨#[], by rw [e]; simp⟩) (fun m hm => ?_) (fun b u e => ?_) I.bare
  · have e : b = it := by simpa using hb
    subst e
    exact ⟨h1, hL, h2, h3⟩
  · obtain ⟨o, es, ep, ho, r⟩ := hm
    exact ⟨o, es, ep, k _ o (Ne.symm hL) ho, r⟩
  · refine (I.hok b u e).stay (fun c v hc q => k c v ?_ q) (fun _ q => q) fun _ _ q => q
    rcases hc with z | z
    · rw [z]; exact nit b u e
    · exact nit c _ z
theorem Inv.tok (I : Inv X pins σ H s) (t : Nat) : Inv X pins σ H { s with toks := t } := I.un (h' := s.heap) (t' := t) Un.refl I.hok
/-- all objects kept -/
theorem Inv.kept {t' : Nat} (I : Inv X pins σ H s) (k : ∀ b u, s.heap.get? b = some u → h'.get? b = some u) : Inv X pins σ H { s with heap := h', toks := t' } := I.un (Un.kept k) (I.hok.kept k)
/-- a new object laid and tracked -/
theorem Inv.laid {a : Addr} {o : HO} {t' : Nat} (I : Inv X pins σ H s) (k : ∀ b u, s.heap.get? b = some u → h'.get? b = some u) (hp : s.heap.objs.size ≤ a) (new : ObjOk X.prog X.w (upd H a o) h' a o) :
    Inv X pins σ (upd H a o) { s with heap := h', toks := t' } := I.un (Un.laid k hp (I.hok.fresh hp)) (I.hok.laid k hp new)
/-- an object written -/
theorem Inv.write {x e : Addr} {o : HO} {t' : Nat} (I : Inv X pins σ H s) (mu : Mut (H x)) (he : e = x ∨ H e = some (.own x)) (k : ∀ b u, b ≠ e → s.heap.get? b = some u → h'.get? b = some u) (heo : ∃ u, h'.get? e = some u)
    (new : ObjOk X.prog X.w (upd H x o) h' x o) : Inv X pins σ (upd H x o) { s with heap := h', toks := t' } := I.un (Un.write mu he k heo) (I.hok.write mu he k heo new)
theorem Inv.pins_of {pins' : List (Addr × Obj)} (I : Inv X pins σ H s) (h : ∀ p ∈ pins', s.heap.get? p.1 = some p.2 ∧ H p.1 = none ∧ p.1 ≠ X.env.locals ∧ p.1 ∉ X.fs ∧ ∀ v, p.2.data ≠ .cell v) : Inv X pins' σ H s :=
  ⟨I.ok, I.os, I.bare, I.base, I.loc, I.cell, I.free, I.freeC, fun p hp => (List.mem_append.mp hp).elim (fun z => I.pin p (List.mem_append_left _ z)) (h p), I.hok, I.len⟩

theorem nodup_ix {N : List Str} (hN : N.Nodup) {i j : Nat} {x : Str} (a : N[i]? = some x) (b : N[j]? = some x) : i = j := by
  obtain ⟨h1, e1⟩ := List.getElem?_eq_some_iff.mp a
  obtain ⟨h2, e2⟩ := List.getElem?_eq_some_iff.mp b
  exact (List.getElem_inj hN).mp (e1.trans e2.symm)

/-- a name is stored; what changed -/
theorem store_ok2 {M : Model} {A : Around} {E : Value → Shared → Prop} {i : Nat} {x : Str} {v : V} {u : Value} {Q : Unit → Shared → Prop} (I : Inv X pins σ H s) (hN : X.N.Nodup) (hi : X.N[i]? = some x) (hx : Loc X.env.scope x) (r : RelV v u)
    (h : ∀ s', Inv X pins (σ.set i (some v)) H s' → (∃ a, Heap.SameBut a s.heap s'.heap ∧ (a = X.env.locals ∨ X.env.cells.lookup x = some a)) → Q () s') (hf : X.fn x = true ∨ X.env.scope.names.lookup x = some .local := by first | exact .inl rfl | exact .inr rfl | assumption) : wpAny M A (storeName X.env x u) Q E s := by
  obtain ⟨m, hn, hl⟩ := id I.loc
  have hcls : (X.env.scope.kind == .class || (X.env.scope.kind == .module && X.env.locals != X.env.globals)) = false := by rw [I.ok.kind]; rfl
  have hiσ : i < σ.length := by rw [I.len]; exact (List.getElem?_eq_some_iff.mp hi).1
  have cne := I.cne
  have tracked : ∀ {a : Addr} {h' : Heap}, (∃ o, s.heap.get? a = some o ∧ H a = none) → Heap.SameBut a s.heap h' → HOk X.prog X.w H h' := fun {a h'} ha hs b ob e => by
    obtain ⟨_, _, hfree⟩ := ha
    refine (I.hok b ob e).stay (fun c w' hc q => (hs.2 c ?_).trans q) (fun _ q => q) fun _ _ q => q
    rintro rfl
    rcases hc with rfl | hc
    · rw [hfree] at e; cases e
    · rw [hfree] at hc; cases hc
  rcases hx with hk | hk
  · refine wpAny_storeName_local hk hn (fun h' hn' hs => ?_) hcls
    obtain ⟨oL, _, _, hoL, _⟩ := id hn
    refine h _ ⟨I.ok, I.os, I.bare, ⟨fun b o e n hb hx => ?_, fun b o e n hb hx => ?_, I.base.free, fun b o e hx => ?_, I.base.tups, I.base.frzs, I.base.tbls⟩, ⟨_, hn', fun j y v' e1 e2 e3 => ?_⟩, fun y c e => ?_, I.free, I.freeC, fun p hp => ?_, tracked ⟨oL, hoL, I.free⟩ hs, by simpa using I.len⟩ ⟨_, hs, .inl rfl⟩
    · exact (hs.2 b (Nat.ne_of_lt (Nat.lt_of_lt_of_le (Heap.lt_size e) I.ok.above))).trans (I.base.keep b o e n hb hx)
    · obtain ⟨sl, e1⟩ := I.base.slot b o e n hb hx
      exact ⟨sl, (hs.2 b (Nat.ne_of_lt (Nat.lt_of_lt_of_le (Heap.lt_size e) I.ok.above))).trans e1⟩
    · obtain ⟨o', e1⟩ := I.base.there b o e hx
      exact ⟨o', (hs.2 b (Nat.ne_of_lt (Nat.lt_of_lt_of_le (Heap.lt_size e) I.ok.above))).trans e1⟩
    · by_cases hj : j = i
      · subst hj
        rw [hi] at e1; cases e1
        rw [List.getElem?_set_self hiσ] at e2
        cases e2
        exact ⟨u, r, .inl ⟨hk, by simp⟩⟩
      · rw [List.getElem?_set_ne (Ne.symm hj)] at e2
        obtain ⟨u', r', q⟩ := hl j y v' e1 e2 e3
        refine ⟨u', r', ?_⟩
        rcases q with ⟨k, e⟩ | ⟨k, c, e, z⟩
        · refine .inl ⟨k, ?_⟩
          have : y ≠ x := fun e => hj (nodup_ix hN e1 (e ▸ hi))
          simp [this, e]
        · exact .inr ⟨k, c, e, z.sameBut hs (cne y c e)⟩
    · obtain ⟨w', z⟩ := I.cell y c e
      exact ⟨w', z.sameBut hs (cne y c e)⟩
    · obtain ⟨e, n, ne, nf, d⟩ := I.pin p hp
      exact ⟨(hs.2 p.1 ne).trans e, n, ne, nf, d⟩
  · have hfn : X.fn x = true := by
      rcases hf with z | z
      · exact z
      · rw [z] at hk; cases hk
    obtain ⟨c, hc⟩ := I.ok.has x (.inl hk)
    obtain ⟨w', z⟩ := I.cell x c hc
    refine wpAny_storeName_cell I.ok.kind hk hc z (fun h' hc' hs => ?_)
    obtain ⟨oc, hoc, hocd⟩ := id z
    refine h { s with heap := h' } ⟨I.ok, I.os, I.bare, ⟨fun b o e n hb hx => ?_, fun b o e n hb hx => ?_, I.base.free, fun b o e hx => ?_, I.base.tups, I.base.frzs, I.base.tbls⟩, ⟨m, hn.sameBut hs (Ne.symm (cne x c hc)), fun j y v' e1 e2 e3 => ?_⟩, fun y c' e => ?_, I.free, I.freeC, fun p hp => ?_, tracked ⟨oc, hoc, I.freeC x c hc⟩ hs, by simpa using I.len⟩ ⟨c, hs, .inr hc⟩
    · exact (hs.2 b (Nat.ne_of_lt (Nat.lt_of_lt_of_le (Heap.lt_size e) (I.ok.cab x c hfn hc)))).trans (I.base.keep b o e n hb hx)
    · obtain ⟨sl, e1⟩ := I.base.slot b o e n hb hx
      exact ⟨sl, (hs.2 b (Nat.ne_of_lt (Nat.lt_of_lt_of_le (Heap.lt_size e) (I.ok.cab x c hfn hc)))).trans e1⟩
    · obtain ⟨o', e1⟩ := I.base.there b o e hx
      exact ⟨o', (hs.2 b (Nat.ne_of_lt (Nat.lt_of_lt_of_le (Heap.lt_size e) (I.ok.cab x c hfn hc)))).trans e1⟩
    · by_cases hj : j = i
      · subst hj
        rw [hi] at e1; cases e1
        rw [List.getElem?_set_self hiσ] at e2
        cases e2
        exact ⟨u, r, .inr ⟨.inl hk, c, hc, hc'⟩⟩
      · rw [List.getElem?_set_ne (Ne.symm hj)] at e2
        obtain ⟨u', r', q⟩ := hl j y v' e1 e2 e3
        refine ⟨u', r', ?_⟩
        rcases q with q | ⟨k, c', e, z'⟩
        · exact .inl q
        · refine .inr ⟨k, c', e, z'.sameBut hs ?_⟩
          rintro rfl
          exact hj (nodup_ix hN e1 (I.ok.inj _ _ _ e hc ▸ hi))
    · by_cases hcc : c' = c
      · subst hcc; exact ⟨_, hc'⟩
      · obtain ⟨w2, z2⟩ := I.cell y c' e
        exact ⟨w2, z2.sameBut hs hcc⟩
    · obtain ⟨e, n, ne, nf, d⟩ := I.pin p hp
      refine ⟨(hs.2 p.1 ?_).trans e, n, ne, nf, d⟩
      intro q
      rw [q, hoc] at e
      have q' : oc = p.2 := Option.some.inj e
      exact d w' (by rw [← q']; exact hocd)
theorem store_ok {M : Model} {A : Around} {E : Value → Shared → Prop} {i : Nat} {x : Str} {v : V} {u : Value} {Q : Unit → Shared → Prop} (I : Inv X pins σ H s) (hN : X.N.Nodup) (hi : X.N[i]? = some x) (hx : Loc X.env.scope x) (r : RelV v u)
    (h : ∀ s', Inv X pins (σ.set i (some v)) H s' → Q () s') (hf : X.fn x = true ∨ X.env.scope.names.lookup x = some .local := by first | exact .inl rfl | exact .inr rfl | assumption) : wpAny M A (storeName X.env x u) Q E s :=
  store_ok2 I hN hi hx r (fun s' I' _ => h s' I') hf
/-- behind a call or a block, the state as it is -/
theorem Inv.call' {s' : Shared} {ch : List Addr} (I : Inv X pins σ H s) (ho : s'.os = s.os) (u : Un (frs X.stack) ch H H' s.heap s'.heap) (hok : HOk X.prog X.w H' s'.heap) (hg : AllBare s'.gens)
    (hch : ∀ b ∈ ch, (b ∈ X.ex ∨ X.s₀.heap.objs.size ≤ b) ∧ b ≠ X.env.locals ∧ (∀ x c, X.env.cells.lookup x = some c → c ≠ b) ∧ ∀ p ∈ X.pn ++ pins, p.1 ≠ b) : Inv X pins σ H' s' := by
  obtain ⟨h', g', d', t', o'⟩ := s'
  have e : o' = s.os := ho
  subst e
  exact I.call (g' := g') (t' := t') (d' := d') u hok hg hch
end

/-! ### the judgements -/
/-- an exception: its class, its own dict's address (where it has one), the abstract heap behind it -/
abbrev XK := Value → Option Addr → Hp → Prop
abbrev St := List (Option V)
abbrev VK := V → Hp → Prop
/-- an expression's reading; a test's; an argument list's -/
abbrev TE := St → Hp → VK → Prop
abbrev TT := St → Hp → (Bool → Hp → Prop) → Prop
abbrev TA := St → Hp → (List V → Hp → Prop) → Prop
/-- what is wanted behind a statement -/
structure Ends where
  nx : St → Hp → Prop
  rt : VK
  bk : St → Hp → Prop := fun _ _ => False
  ct : St → Hp → Prop := fun _ _ => False
abbrev TS := Ends → St → Hp → Prop

def EP (X : Cx) (pins : List (Addr × Obj)) (σ : St) (Q : VK) (u : Value) (s' : Shared) : Prop := ∃ v H', Inv X pins σ H' s' ∧ RelV v u ∧ Q v H'
def TP (X : Cx) (pins : List (Addr × Obj)) (σ : St) (Q : Bool → Hp → Prop) (b : Bool) (s' : Shared) : Prop := ∃ H', Inv X pins σ H' s' ∧ Q b H'
def AP (X : Cx) (pins : List (Addr × Obj)) (σ : St) (Q : List V → Hp → Prop) (us : List Value) (s' : Shared) : Prop := ∃ vs H', Inv X pins σ H' s' ∧ Vals vs us ∧ Q vs H'
def SP (X : Cx) (pins : List (Addr × Obj)) (D : Ends) (f : Flow) (s' : Shared) : Prop :=
  match f with
  | .next => ∃ σ' H', Inv X pins σ' H' s' ∧ D.nx σ' H'
  | .brk => ∃ σ' H', Inv X pins σ' H' s' ∧ D.bk σ' H'
  | .cont => ∃ σ' H', Inv X pins σ' H' s' ∧ D.ct σ' H'
  | .ret u => ∃ v σ' H', Inv X pins σ' H' s' ∧ RelV v u ∧ D.rt v H'

def PE (X : Cx) (e : Expr) (t : TE) : Prop :=
  ∀ (pins : List (Addr × Obj)) (s : Shared) (σ : St) (H : Hp) (Q : VK), Inv X pins σ H s → t σ H Q → wpAny (model X.prog X.w) X.A (eval e X.env) (EP X pins σ Q) X.xe s
def PT (X : Cx) (e : Expr) (t : TT) : Prop :=
  ∀ (pins : List (Addr × Obj)) (s : Shared) (σ : St) (H : Hp) (Q : Bool → Hp → Prop), Inv X pins σ H s → t σ H Q → wpAny (model X.prog X.w) X.A (isTrue e X.env (eval e X.env)) (TP X pins σ Q) X.xe s
/-- a test whatever its 'whole' is (and, or) -/
def PW (X : Cx) (e : Expr) (t : TT) : Prop :=
  ∀ (whole : Sem Value) (pins : List (Addr × Obj)) (s : Shared) (σ : St) (H : Hp) (Q : Bool → Hp → Prop), Inv X pins σ H s → t σ H Q → wpAny (model X.prog X.w) X.A (isTrue e X.env whole) (TP X pins σ Q) X.xe s
theorem PW.pt {X : Cx} {e : Expr} {t : TT} (h : PW X e t) : PT X e t := h _
/-- an argument list (no star), from the left -/
def PA (X : Cx) (es : List Expr) (t : TA) : Prop :=
  ∀ (pos : Pos) (pins : List (Addr × Obj)) (s : Shared) (σ : St) (H : Hp) (Q : List V → Hp → Prop), Inv X pins σ H s → t σ H Q → wpAny (model X.prog X.w) X.A (spliced (backTo pos (starEach es X.env))) (AP X pins σ Q) X.xe s
def PS (X : Cx) (st : Stmt) (t : TS) : Prop :=
  ∀ (pins : List (Addr × Obj)) (s : Shared) (σ : St) (H : Hp) (D : Ends), Inv X pins σ H s → t D σ H → wpAny (model X.prog X.w) X.A (exec st X.env) (SP X pins D) X.xe s
def PSs (X : Cx) (st : List Stmt) (t : TS) : Prop :=
  ∀ (pins : List (Addr × Obj)) (s : Shared) (σ : St) (H : Hp) (D : Ends), Inv X pins σ H s → t D σ H → wpAny (model X.prog X.w) X.A (execs st X.env) (SP X pins D) X.xe s
/-- weaken the end -/
theorem thn {α : Type} {t : Sem α} {Q Q' : α → Shared → Prop} {M : Model} {A : Around} {E : Value → Shared → Prop} {s : Shared} (h : wpAny M A t Q E s) (hQ : ∀ a s, Q a s → Q' a s) : wpAny M A t Q' E s := wpAny_mono h hQ fun _ _ x => x
end L2

namespace L2
open PySem PySem.Spec PyProof.Rows
section
variable {X : Cx}

/-! ### names and constants -/
def tVar (i : Nat) : TE := fun σ H Q => ∃ v, σ[i]? = some (some v) ∧ Q v H
def tC (v : V) : TE := fun _ H Q => Q v H
theorem pe_var {i : Nat} {x : Str} {pos : Pos} (hN : X.N[i]? = some x) (hv : Vis X.env.scope x) (hd : (x == ("__debug__" : Str)) = false := by decide) (hcd : (x == ("__classdict__" : Str)) = false := by decide) : PE X (.Name x pos) (tVar i) := by
  intro pins s σ H Q I h
  obtain ⟨v, e, h⟩ := h
  obtain ⟨m, hn, hl⟩ := I.loc
  obtain ⟨u, r, l⟩ := hl i x v hN e hv
  have fin : EP X pins σ Q u s := ⟨v, H, I, r, h⟩
  rcases l with ⟨hk, hm⟩ | ⟨hk, c, hc, hcell⟩
  · exact wpAny_Name (wpAny_loadName_local I.ok.kind hk hn hm fin) hd
  · rcases hk with hk | hk
    · exact wpAny_Name (wpAny_loadName_cell I.ok.kind hk hc hcell fin) hd
    · exact wpAny_Name (wpAny_loadName_free I.ok.kind hk hc hcell fin hcd) hd
theorem pe_int {i j pos} : PE X (.Constant (.int i) j pos) (tC (.int i)) := fun _ _ _ H _ I h => wpAny_Constant_int ⟨.int i, H, I.tok _, ⟨_, rfl⟩, h⟩
theorem pe_bl {b j pos} : PE X (.Constant (.bool b) j pos) (tC (.bl b)) := fun _ _ _ H _ I h => Constant_bool ⟨.bl b, H, I, rfl, h⟩
theorem pe_str {x j pos} : PE X (.Constant (.str x) j pos) (tC (.str x)) := fun _ _ _ H _ I h => Calls.Constant_str ⟨.str x, H, I.tok _, ⟨_, rfl⟩, h⟩

/-- a global name of the def -/
def Gl (X : Cx) (x : Str) : Prop := X.env.kindOf x = some .globalImplicit
theorem ld_glob {E : Value → Shared → Prop} {pins : List (Addr × Obj)} {s : Shared} {σ : St} {H : Hp} {x : Str} {u : Value} {pos : Pos} {Q : Value → Shared → Prop} (I : Inv X pins σ H s) (hg : Gl X x) (hm : X.mg x = some u) (h : Q u s)
    (hd : (x == ("__debug__" : Str)) = false := by decide) : wpAny (model X.prog X.w) X.A (eval (.Name x pos) X.env) Q E s :=
  Calls.Name_function_global I.ok.kind hg (Calls.loadGlobal_global (by rw [I.ok.glob]; exact I.mod.glob.keeps I.bk) hm h) hd
theorem ld_blt {E : Value → Shared → Prop} {pins : List (Addr × Obj)} {s : Shared} {σ : St} {H : Hp} {x : Str} {u : Value} {pos : Pos} {Q : Value → Shared → Prop} (I : Inv X pins σ H s) (hg : Gl X x) (hm : X.mg x = none) (hv : bootBuiltins x = some u) (h : Q u s)
    (hn : x ≠ "__name__" := by decide) (hd : (x == ("__debug__" : Str)) = false := by decide) : wpAny (model X.prog X.w) X.A (eval (.Name x pos) X.env) Q E s := by
  obtain ⟨mb, h1, h2⟩ := I.mod.blt
  exact Calls.Name_function_global I.ok.kind hg (Calls.loadGlobal_builtin (by rw [I.ok.glob]; exact I.mod.glob.keeps I.bk) hm (by rw [I.ok.blt]; exact h1.keeps I.bk) ((h2 x hn).trans hv) h) hd
theorem pe_bltn {x : Str} {v : V} {u : Value} {pos : Pos} (hg : Gl X x) (hm : X.mg x = none) (hv : bootBuiltins x = some u) (r : RelV v u) (hn : x ≠ "__name__" := by decide) (hd : (x == ("__debug__" : Str)) = false := by decide) : PE X (.Name x pos) (tC v) :=
  fun _ _ _ H _ I h => ld_blt I hg hm hv ⟨v, H, I, r, h⟩ hn hd

/-! ### arithmetic -/
/-- two ints -/
def t2I (ta tb : TE) (k : Int → Int → Hp → Prop) : St → Hp → Prop := fun σ H => ta σ H fun x H1 => tb σ H1 fun y H2 => ∃ i j, x = .int i ∧ y = .int j ∧ k i j H2
def tAdd (ta tb : TE) : TE := fun σ H Q => t2I ta tb (fun i j H2 => Q (.int (i + j)) H2) σ H
def tSub (ta tb : TE) : TE := fun σ H Q => t2I ta tb (fun i j H2 => Q (.int (i - j)) H2) σ H
/-- the left factor below 2^64 -/
def tMul (ta tb : TE) : TE := fun σ H Q => t2I ta tb (fun i j H2 => (-(2 ^ 64) < i ∧ i < 2 ^ 64) ∧ Q (.int (i * j)) H2) σ H
variable {a b : Expr} {ta tb : TE} {pos : Pos}
/-! ### comparisons -/
def PC (X : Cx) (op : CmpOp) (a b : Expr) (t : TE) : Prop :=
  ∀ (pins : List (Addr × Obj)) (s : Shared) (σ : St) (H : Hp) (Q : VK), Inv X pins σ H s → t σ H Q →
    wpAny (model X.prog X.w) X.A (eval a X.env) (fun v s₁ => wpAny (model X.prog X.w) X.A (eval b X.env) (fun u s₂ => wpAny (model X.prog X.w) X.A (compareOp op v u) (EP X pins σ Q) X.xe s₂) X.xe s₁) X.xe s
def tCmp (p : Int → Int → Bool) (ta tb : TE) : TE := fun σ H Q => t2I ta tb (fun i j H2 => Q (.bl (p i j)) H2) σ H
abbrev tLt : TE → TE → TE := tCmp fun i j => decide (i < j)
abbrev tLe : TE → TE → TE := tCmp fun i j => decide (i ≤ j)
abbrev tGt : TE → TE → TE := tCmp fun i j => decide (j < i)
abbrev tGe : TE → TE → TE := tCmp fun i j => decide (j ≤ i)
abbrev tEqI : TE → TE → TE := tCmp fun i j => decide (i = j)
abbrev tNeI : TE → TE → TE := tCmp fun i j => !decide (i = j)
/-- is None -/
def tIsN (ta : TE) : TE := fun σ H Q => ta σ H fun x H1 => Q (.bl (decide (x = .non))) H1
def tNotN (ta : TE) : TE := fun σ H Q => ta σ H fun x H1 => Q (.bl (!decide (x = .non))) H1
/-- a comparison as a value, as a test -/
def tB (t : TE) : TT := fun σ H Q => t σ H fun x H1 => ∃ c, x = .bl c ∧ Q c H1
/-- an expression whose value is a bool, as a test -/
theorem pt_val {e : Expr} {t : TE} (h : PE X e t) (he : ∀ whole, isTrue e X.env whole = (do let v ← whole; standAt e.pos; holding [v] (truthy v)) := by intro _; rfl) : PT X e (tB t) := by
  intro pins s σ H Q I hw
  refine isTrue_plain (thn (h pins s σ H _ I hw) fun v s1 ⟨x, H1, I1, r1, q1⟩ => ?_) (he _)
  obtain ⟨d, rfl, q⟩ := q1
  cases r1
  exact wpAny_truthy_bool ⟨H1, I1, q⟩

/-! ### and, or, not -/
variable {tA tB' : TT} {rest : List Expr}
def tAnd (t u : TT) : TT := fun σ H Q => t σ H fun c H1 => if c = true then u σ H1 Q else Q false H1
def tOr (t u : TT) : TT := fun σ H Q => t σ H fun c H1 => if c = true then Q true H1 else u σ H1 Q
def tNot (t : TT) : TT := fun σ H Q => t σ H fun c H1 => Q (!c) H1
theorem pw_and1 (ha : PT X a tA) : PW X (.BoolOp .And [a] pos) tA := by
  intro wh pins s σ H Q I h
  refine isTrue_and (thn (ha pins s σ H Q I h) fun c s1 e => ?_)
  cases c with
  | true => exact isTrue_and_nil e
  | false => exact e
theorem pw_or1 (ha : PT X a tA) : PW X (.BoolOp .Or [a] pos) tA := by
  intro wh pins s σ H Q I h
  refine isTrue_or (thn (ha pins s σ H Q I h) fun c s1 e => ?_)
  cases c with
  | false => exact isTrue_or_nil e
  | true => exact e
theorem pw_and (ha : PT X a tA) (hb : PW X (.BoolOp .And (b :: rest) pos) tB') : PW X (.BoolOp .And (a :: b :: rest) pos) (tAnd tA tB') := by
  intro wh pins s σ H Q I h
  refine isTrue_and (thn (ha pins s σ H _ I h) fun c s1 ⟨H1, I1, q1⟩ => ?_)
  cases c with
  | true => exact hb wh pins s1 σ H1 Q I1 q1
  | false => exact ⟨H1, I1, q1⟩
theorem pw_or (ha : PT X a tA) (hb : PW X (.BoolOp .Or (b :: rest) pos) tB') : PW X (.BoolOp .Or (a :: b :: rest) pos) (tOr tA tB') := by
  intro wh pins s σ H Q I h
  refine isTrue_or (thn (ha pins s σ H _ I h) fun c s1 ⟨H1, I1, q1⟩ => ?_)
  cases c with
  | true => exact ⟨H1, I1, q1⟩
  | false => exact hb wh pins s1 σ H1 Q I1 q1
theorem pt_not (ha : PT X a tA) : PT X (.UnaryOp .Not a pos) (tNot tA) := by
  intro pins s σ H Q I h
  exact isTrue_not (ha pins s σ H (fun c H1 => Q (!c) H1) I h)
/-- .. as values (bools) -/
def tAndV (ta tb : TE) : TE := fun σ H Q => ta σ H fun x H1 => ∃ c, x = .bl c ∧ if c = true then tb σ H1 Q else Q (.bl false) H1
def tOrV (ta tb : TE) : TE := fun σ H Q => ta σ H fun x H1 => ∃ c, x = .bl c ∧ if c = true then Q (.bl true) H1 else tb σ H1 Q
def tNotV (ta : TE) : TE := fun σ H Q => ta σ H fun x H1 => ∃ c, x = .bl c ∧ Q (.bl (!c)) H1
theorem pe_one {op} {t : TE} (h : PE X a t) : PE X (.BoolOp op [a] pos) t := fun pins s σ H Q I hw => BoolOp_one (h pins s σ H Q I hw)
theorem pe_and (ha : PE X a ta) (hb : PE X (.BoolOp .And (b :: rest) pos) tb) : PE X (.BoolOp .And (a :: b :: rest) pos) (tAndV ta tb) := by
  intro pins s σ H Q I h
  refine BoolOp_and (thn (ha pins s σ H _ I h) fun v s1 ⟨x, H1, I1, r1, q1⟩ => ?_)
  obtain ⟨c, rfl, q1⟩ := q1
  cases r1
  refine wpAny_truthy_bool ?_
  cases c with
  | true => exact hb pins s1 σ H1 Q I1 q1
  | false => exact ⟨.bl false, H1, I1, rfl, q1⟩
/-- a if t else b -/
def tIf (t : TT) (ta tb : TE) : TE := fun σ H Q => t σ H fun c H1 => if c = true then ta σ H1 Q else tb σ H1 Q
theorem pe_ifExp {c : Expr} (hc : PT X c tA) (ha : PE X a ta) (hb : PE X b tb) : PE X (.IfExp c a b pos) (tIf tA ta tb) := by
  intro pins s σ H Q I h
  refine wpAny_IfExp (thn (hc pins s σ H _ I h) fun d s1 ⟨H1, I1, q1⟩ => ?_)
  cases d with
  | true => exact ha pins s1 σ H1 Q I1 q1
  | false => exact hb pins s1 σ H1 Q I1 q1
end
end L2

namespace L2
open PySem PySem.Spec PyProof.Rows

/-! ### a list, a tuple that is read: tracked, frozen, or an object of the module -/
def SqL (K : PySem.W.Frag) (H : Hp) (a : Addr) (xs : List V) : Prop :=
  Rd H a (.lst xs) ∨
    ∃ (o : Obj) (its : Array Value) (n : Nat), K.lookup a = some o ∧ o.cls = .type "list" ∧ o.dict = none ∧ o.data = .seq its n ∧ its.size ≤ sizeLine ∧ Vals xs its.toList
def SqT (K : PySem.W.Frag) (H : Hp) (a : Addr) (xs : List V) : Prop :=
  Rd H a (.tup xs) ∨
    ∃ (o : Obj) (its : Array Value) (n : Nat), K.lookup a = some o ∧ o.cls = .type "tuple" ∧ o.data = .seq its n ∧ its.size ≤ sizeLine ∧ Vals xs its.toList
def absV : Value → Option V
  | .none => some .non
  | .bool b => some (.bl b)
  | .int i _ => some (.int i)
  | .str x _ => some (.str x)
  | .bytes b _ => some (.byt b)
  | .float b _ => some (.flt b)
  | .ref a => some (.ref a)
  | .type n => some (.ty n)
  | _ => none
theorem RelV.abs {x : V} {u : Value} (r : RelV x u) : absV u = some x := by
  cases x with
  | non => cases r; rfl
  | bl _ => cases r; rfl
  | int _ => obtain ⟨t, rfl⟩ := r; rfl
  | str _ => obtain ⟨t, rfl⟩ := r; rfl
  | byt _ => obtain ⟨t, rfl⟩ := r; rfl
  | flt _ => obtain ⟨t, rfl⟩ := r; rfl
  | ref _ => cases r; rfl
  | ty _ => cases r; rfl
theorem RelV.inj {x y : V} {u : Value} (r : RelV x u) (q : RelV y u) : x = y := Option.some.inj (r.abs.symm.trans q.abs)
theorem Vals.inj : ∀ {xs ys : List V} {us : List Value}, Vals xs us → Vals ys us → xs = ys
  | _, _, _, .nil, .nil => rfl
  | _, _, _, .cons r t, .cons r' t' => by rw [r.inj r', Vals.inj t t']
section
variable {X : Cx} {pins : List (Addr × Obj)} {σ : St} {H : Hp} {s : Shared} {a : Addr} {xs ys : List V}
theorem SqL.of {K : PySem.W.Frag} (h : H a = some (.lst xs)) : SqL K H a xs := .inl (.inl h)
theorem SqT.of {K : PySem.W.Frag} (h : H a = some (.tup xs)) : SqT K H a xs := .inl (.inl h)
theorem Inv.list (I : Inv X pins σ H s) (h : SqL X.K H a xs) : ∃ its : List Value, Vals xs its ∧ PlainL s.heap a its.toArray ∧ xs.length ≤ sizeLine := by
  rcases h with h | ⟨o, its, n, hk, hc, hd, hs, hz, r⟩
  · obtain ⟨z, its, n, r, e⟩ := h.ok I.hok
    exact ⟨its, r, ⟨_, n, e, rfl, rfl, rfl⟩, z⟩
  · refine ⟨its.toList, r, ⟨o, n, I.kIn a o hk, hc, hd, by simpa using hs⟩, ?_⟩
    have e := r.length
    simp only [Array.length_toList] at e
    omega
theorem Inv.tuple (I : Inv X pins σ H s) (h : SqT X.K H a xs) : ∃ its : List Value, Vals xs its ∧ IsTup s.heap a its.toArray ∧ xs.length ≤ sizeLine := by
  rcases h with h | ⟨o, its, n, hk, hc, hs, hz, r⟩
  · obtain ⟨z, its, r, p⟩ := h.ok I.hok
    exact ⟨its, r, p, z⟩
  · refine ⟨its.toList, r, ⟨o, I.kIn a o hk, hc, n, by simpa using hs⟩, ?_⟩
    have e := r.length
    simp only [Array.length_toList] at e
    omega
theorem Inv.list_inj (I : Inv X pins σ H s) (h : SqL X.K H a xs) (h' : SqL X.K H a ys) : xs = ys := by
  obtain ⟨its, r, ⟨o, n, e, _, _, d⟩, _⟩ := I.list h
  obtain ⟨its', r', ⟨o', n', e', _, _, d'⟩, _⟩ := I.list h'
  rw [e] at e'; cases e'
  rw [d] at d'
  injection d' with d1 _
  have : its = its' := by simpa using congrArg Array.toList d1
  subst this
  exact r.inj r'
theorem Inv.tuple_inj (I : Inv X pins σ H s) (h : SqT X.K H a xs) (h' : SqT X.K H a ys) : xs = ys := by
  obtain ⟨its, r, ⟨o, e, _, n, d⟩, _⟩ := I.tuple h
  obtain ⟨its', r', ⟨o', e', _, n', d'⟩, _⟩ := I.tuple h'
  rw [e] at e'; cases e'
  rw [d] at d'
  injection d' with d1 _
  have : its = its' := by simpa using congrArg Array.toList d1
  subst this
  exact r.inj r'
end

/-! ### another wish about exceptions -/
abbrev Cx.wish (X : Cx) (E : Value → Shared → Prop) : Cx := { X with xe := E }
/-- no exception leaves -/
abbrev Cx.nox (X : Cx) : Cx := X.wish fun _ _ => False
theorem Cx.Ok.wish {X : Cx} (ok : X.Ok) (E : Value → Shared → Prop) : (X.wish E).Ok :=
  ⟨ok.mod, ok.kind, ok.glob, ok.blt, ok.above, ok.inj, ok.has, ok.cab, ok.hd, ok.frames, ok.stk, ok.exf, ok.bs, ok.bsz, ok.noex, ok.exfs, ok.funs, ok.frf⟩
theorem Cx.Ok.unwish {X : Cx} {E : Value → Shared → Prop} (ok : (X.wish E).Ok) : X.Ok :=
  ⟨ok.mod, ok.kind, ok.glob, ok.blt, ok.above, ok.inj, ok.has, ok.cab, ok.hd, ok.frames, ok.stk, ok.exf, ok.bs, ok.bsz, ok.noex, ok.exfs, ok.funs, ok.frf⟩
section
variable {X : Cx} {pins : List (Addr × Obj)} {σ : St} {H : Hp} {s : Shared} {E : Value → Shared → Prop}
theorem Inv.wish (I : Inv X pins σ H s) (E : Value → Shared → Prop) : Inv (X.wish E) pins σ H s := ⟨I.ok.wish E, I.os, I.bare, I.base, I.loc, I.cell, I.free, I.freeC, I.pin, I.hok, I.len⟩
theorem Inv.unwish (I : Inv (X.wish E) pins σ H s) : Inv X pins σ H s := ⟨I.ok.unwish, I.os, I.bare, I.base, I.loc, I.cell, I.free, I.freeC, I.pin, I.hok, I.len⟩
theorem SP.unwish {D : Ends} {f : Flow} {s' : Shared} (h : SP (X.wish E) pins D f s') : SP X pins D f s' := by
  cases f with
  | next => obtain ⟨σ', H', I, q⟩ := h; exact ⟨σ', H', I.unwish, q⟩
  | brk => obtain ⟨σ', H', I, q⟩ := h; exact ⟨σ', H', I.unwish, q⟩
  | cont => obtain ⟨σ', H', I, q⟩ := h; exact ⟨σ', H', I.unwish, q⟩
  | ret u => obtain ⟨v, σ', H', I, r, q⟩ := h; exact ⟨v, σ', H', I.unwish, r, q⟩
theorem PE.nox {e : Expr} {t : TE} (h : PE X.nox e t) : PE X e t := fun pins s σ H Q I hw =>
  wpAny_mono (h pins s σ H Q (I.wish _) hw) (fun _ _ ⟨v, H', I', r, q⟩ => ⟨v, H', I'.unwish, r, q⟩) fun _ _ z => False.elim z
theorem PT.nox {e : Expr} {t : TT} (h : PT X.nox e t) : PT X e t := fun pins s σ H Q I hw =>
  wpAny_mono (h pins s σ H Q (I.wish _) hw) (fun _ _ ⟨H', I', q⟩ => ⟨H', I'.unwish, q⟩) fun _ _ z => False.elim z
theorem PSs.nox {st : List Stmt} {t : TS} (h : PSs X.nox st t) : PSs X st t := fun pins s σ H D I hw =>
  wpAny_mono (h pins s σ H D (I.wish _) hw) (fun _ _ q => q.unwish) fun _ _ z => False.elim z
end

/-! ### blocks and small statements -/
section
variable {X : Cx} {st : Stmt} {rest : List Stmt} {t u : TS} {e : Expr} {te : TE} {pos : Pos}
def tNext : TS := fun D σ H => D.nx σ H
def tSeq (t u : TS) : TS := fun D σ H => t { D with nx := u D } σ H
theorem pss_nil : PSs X [] tNext := fun _ _ σ H _ I h => wpAny_execs_nil ⟨σ, H, I, h⟩
theorem pss_cons (h1 : PS X st t) (h2 : PSs X rest u) : PSs X (st :: rest) (tSeq t u) := by
  intro pins s σ H D I h
  refine wpAny_execs_cons (thn (h1 pins s σ H { D with nx := u D } I h) fun f s1 q => ?_)
  cases f with
  | next =>
    obtain ⟨σ', H', I', q⟩ := q
    exact h2 pins s1 σ' H' D I' q
  | ret v => exact q
  | brk => exact q
  | cont => exact q
theorem pss_one (h1 : PS X st t) : PSs X [st] t := by
  intro pins s σ H D I h
  refine wpAny_execs_cons (thn (h1 pins s σ H D I h) fun f s1 q => ?_)
  cases f with
  | next => exact wpAny_execs_nil q
  | ret v => exact q
  | brk => exact q
  | cont => exact q
def tBreak : TS := fun D σ H => D.bk σ H
def tCont : TS := fun D σ H => D.ct σ H
/-- in a def's body nothing is shown -/
theorem Inv.quiet {pins : List (Addr × Obj)} {σ : St} {H : Hp} {s : Shared} (I : Inv X pins σ H s) : interactive X.env = false := by simp [interactive, I.ok.kind]
/-- an expression whose value is dropped -/
def tDrop (te : TE) : TS := fun D σ H => te σ H fun _ H1 => D.nx σ H1
theorem ps_expr (he : PE X e te) (hs : swapsWith e none pos.line X.env = pure false := by rfl) : PS X (.Expr e pos) (tDrop te) := by
  intro pins s σ H D I h
  exact wpAny_Expr_any (thn (he pins s σ H _ I h) fun v s1 ⟨x, H1, I1, r1, q1⟩ => ⟨σ, H1, I1, q1⟩) I.quiet hs
def tRet (te : TE) : TS := fun D σ H => te σ H D.rt
theorem ps_ret (he : PE X e te) : PS X (.Return (some e) pos) (tRet te) := by
  intro pins s σ H D I h
  exact wpAny_Return_some (thn (he pins s σ H _ I h) fun v s1 ⟨x, H1, I1, r1, q1⟩ => ⟨x, σ, H1, I1, r1, q1⟩)
def tRetN : TS := fun D _ H => D.rt .non H
def tIfS (c : TT) (t u : TS) : TS := fun D σ H => c σ H fun b H1 => if b = true then t D σ H1 else u D σ H1
theorem ps_if {c : Expr} {a b : List Stmt} {tc : TT} (hc : PT X c tc) (ha : PSs X a t) (hb : PSs X b u) : PS X (.If c a b pos) (tIfS tc t u) := by
  intro pins s σ H D I h
  refine wpAny_If (thn (hc pins s σ H _ I h) fun d s1 ⟨H1, I1, q1⟩ => ?_)
  cases d with
  | true => exact ha pins s1 σ H1 D I1 q1
  | false => exact hb pins s1 σ H1 D I1 q1
/-- code that the proof never comes to -/
def tNever : TS := fun _ _ _ => False
end

/-! ### targets -/
abbrev TG := V → St → Hp → (St → Hp → Prop) → Prop
abbrev TGs := List V → St → Hp → (St → Hp → Prop) → Prop
def PG (X : Cx) (target : Expr) (t : TG) : Prop :=
  ∀ (pins : List (Addr × Obj)) (s : Shared) (σ : St) (H : Hp) (v : V) (u : Value) (Q : St → Hp → Prop), Inv X pins σ H s → RelV v u → t v σ H Q →
    wpAny (model X.prog X.w) X.A (assign target X.env u) (fun _ s' => ∃ σ' H', Inv X pins σ' H' s' ∧ Q σ' H') X.xe s
/-- several targets, one after another -/
def PGs (X : Cx) (ts : List Expr) (t : TGs) : Prop :=
  ∀ (pins : List (Addr × Obj)) (s : Shared) (σ : St) (H : Hp) (vs : List V) (us : List Value) (Q : St → Hp → Prop), Inv X pins σ H s → Vals vs us → t vs σ H Q →
    wpAny (model X.prog X.w) X.A (assignInOrder ((assignEach ts X.env).map (·.2)) us) (fun _ s' => ∃ σ' H', Inv X pins σ' H' s' ∧ Q σ' H') X.xe s
/-- o[i] = v, by values -/
abbrev TSet := V → V → V → Hp → (Hp → Prop) → Prop
def PSet (X : Cx) (t : TSet) : Prop :=
  ∀ (pins : List (Addr × Obj)) (s : Shared) (σ : St) (H : Hp) (o i v : V) (ov iv u : Value) (Q : Hp → Prop), Inv X pins σ H s → RelV o ov → RelV i iv → RelV v u → t o i v H Q →
    wpAny (model X.prog X.w) X.A (setItem ov iv u) (fun _ s' => ∃ H', Inv X pins σ H' s' ∧ Q H') X.xe s
/-- a op= b, by values -/
abbrev TIp := V → V → Hp → VK → Prop
def PIp (X : Cx) (op : Operator) (t : TIp) : Prop :=
  ∀ (pins : List (Addr × Obj)) (s : Shared) (σ : St) (H : Hp) (x y : V) (v u : Value) (Q : VK), Inv X pins σ H s → RelV x v → RelV y u → t x y H Q →
    wpAny (model X.prog X.w) X.A (inplaceOp op v u) (EP X pins σ Q) X.xe s
section
variable {X : Cx} {pos : Pos}
def gName (i : Nat) : TG := fun v σ H Q => Q (σ.set i (some v)) H
theorem pg_name {i : Nat} {x : Str} (hN : X.N.Nodup) (hi : X.N[i]? = some x) (hx : Loc X.env.scope x) (hf : X.fn x = true ∨ X.env.scope.names.lookup x = some .local := by first | exact .inl rfl | exact .inr rfl | assumption) : PG X (.Name x pos) (gName i) := by
  intro pins s σ H v u Q I r h
  exact wpAny_assign_Name (store_ok I hN hi hx r (fun s' I' => ⟨_, H, I', h⟩) hf)
def gNil : TGs := fun vs σ H Q => vs = [] ∧ Q σ H
def gCons (t : TG) (u : TGs) : TGs := fun vs σ H Q => ∃ v r, vs = v :: r ∧ t v σ H fun σ' H' => u r σ' H' Q
theorem pgs_nil : PGs X [] gNil := by
  intro pins s σ H vs us Q I r h
  obtain ⟨e, h⟩ := h
  subst e
  cases r
  exact assignInOrder_nil ⟨σ, H, I, h⟩
theorem pgs_cons {e : Expr} {es : List Expr} {t : TG} {u : TGs} (h1 : PG X e t) (h2 : PGs X es u)
    (hs : (assignEach (e :: es) X.env).map (·.2) = assign e X.env :: (assignEach es X.env).map (·.2) := by rfl) : PGs X (e :: es) (gCons t u) := by
  intro pins s σ H vs us Q I r h
  obtain ⟨v, vr, e1, h⟩ := h
  subst e1
  cases r with
  | cons r rr =>
    rw [hs]
    refine assignInOrder_cons (thn (h1 pins s σ H _ _ _ I r h) fun _ s1 ⟨σ1, H1, I1, q1⟩ => ?_)
    exact h2 pins s1 σ1 H1 _ _ Q I1 rr q1
/-- (a, b, ..) = a tuple of that length -/
def gTup (K : PySem.W.Frag) (n : Nat) (t : TGs) : TG := fun v σ H Q => ∃ a xs, v = .ref a ∧ SqT K H a xs ∧ xs.length = n ∧ t xs σ H Q
theorem pg_tup {es : List Expr} {k : Nat} {t : TGs} {n : Nat} (hc : X.calm = true) (h : PGs X es t)
    (hn : (assignEach es X.env).length = n := by rfl) (hst : (assignEach es X.env).findIdx? (·.1) = none := by rfl) : PG X (.Tuple es k pos) (gTup X.K n t) := by
  intro pins s σ H v u Q I r hw
  obtain ⟨a, xs, e1, hq, hl, hw⟩ := hw
  subst e1
  cases r
  obtain ⟨its, rv, ht, hz⟩ := I.tuple hq
  refine assign_Tuple_tuple (I.ok.hd hc) ht (by simp [hn, ← hl, rv.length]) hst fun h' hx => ?_
  have I1 : Inv X pins σ H { s with heap := h' } := I.kept (t' := s.toks) fun b o e => hx b o (Nat.ne_of_lt (Heap.lt_size e)) e
  exact h pins _ σ H xs _ Q I1 (by simpa using rv) hw
/-- o[i] = .. -/
def gSub (to ti : TE) (t : TSet) : TG := fun v σ H Q => to σ H fun o H1 => ti σ H1 fun i H2 => t o i v H2 fun H3 => Q σ H3
/-- target = value -/
def tAsg (te : TE) (g : TG) : TS := fun D σ H => te σ H fun x H1 => g x σ H1 D.nx
theorem ps_asg {tg e : Expr} {te : TE} {g : TG} (he : PE X e te) (hg : PG X tg g) (hs : swapsWithSole [tg] e pos.line X.env = pure false := by rfl) (hw : swappedStores [tg] e X.env = pure none := by rfl)
    (h1 : (assignEach [tg] X.env).map (·.2) = [assign tg X.env] := by rfl) : PS X (.Assign [tg] e pos) (tAsg te g) := by
  intro pins s σ H D I h
  refine wpAny_Assign_stores (thn (he pins s σ H _ I h) fun v s1 ⟨x, H1, I1, r1, q1⟩ => ?_) hs hw
  rw [h1]
  exact thn (hg pins s1 σ H1 x v _ I1 r1 q1) fun _ s2 q => q
/-- name = value -/
theorem ps_set {i : Nat} {x : Str} {e : Expr} {te : TE} {pos' : Pos} (hN : X.N.Nodup) (hi : X.N[i]? = some x) (hx : Loc X.env.scope x) (he : PE X e te) (hs : swapsWith e (some (.Name x pos')) pos.line X.env = pure false := by rfl) (hf : X.fn x = true ∨ X.env.scope.names.lookup x = some .local := by first | exact .inl rfl | exact .inr rfl | assumption) :
    PS X (.Assign [.Name x pos'] e pos) (tAsg te (gName i)) := by
  intro pins s σ H D I h
  refine wpAny_Assign_Name (thn (he pins s σ H _ I h) fun v s1 ⟨y, H1, I1, r1, q1⟩ => ?_) hs
  exact store_ok I1 hN hi hx r1 (fun s2 I2 => ⟨_, H1, I2, q1⟩) hf
/-- a, b = x, y with plain local names: stored from the right; the pair itself is not tracked (the opening rows as in PyProof/Rows/TupAssign.lean:23) -/
def tPar (i j : Nat) (ta : TA) : TS := fun D σ H => ta σ H fun vs H1 => ∃ v w, vs = [v, w] ∧ D.nx ((σ.set i (some v)).set j (some w)) H1
/-- name op= e -/
def tAug (i : Nat) (te : TE) (ti : TIp) : TS := fun D σ H => ∃ x, σ[i]? = some (some x) ∧ te σ H fun y H1 => ti x y H1 fun z H2 => D.nx (σ.set i (some z)) H2
/-- o[i] op= e -/
def tAugS (to ti te : TE) (tget : V → V → Hp → VK → Prop) (tip : TIp) (tset : TSet) : TS := fun D σ H => to σ H fun o H1 => ti σ H1 fun i H2 => tget o i H2 fun x H3 => te σ H3 fun y H4 => tip x y H4 fun z H5 => tset o i z H5 fun H6 => D.nx σ H6
/-- o[i], by values -/
def PGet (X : Cx) (t : V → V → Hp → VK → Prop) : Prop :=
  ∀ (pins : List (Addr × Obj)) (s : Shared) (σ : St) (H : Hp) (o i : V) (ov iv : Value) (Q : VK), Inv X pins σ H s → RelV o ov → RelV i iv → t o i H Q →
    wpAny (model X.prog X.w) X.A (getItem ov iv) (EP X pins σ Q) X.xe s
/-- ints -/
def ipI (f : Int → Int → Int) : TIp := fun x y H Q => ∃ i j, x = .int i ∧ y = .int j ∧ Q (.int (f i j)) H
end

/-! ### while -/
section
variable {X : Cx} {pos : Pos}
/-- the invariant W with its measure -/
def tWhile (c : TT) (tb : TS) : TS := fun D σ H => ∃ W : Nat → St → Hp → Prop, (∃ m, W m σ H) ∧ ∀ m σ H, W m σ H →
  c σ H fun b H1 => if b = true then ∃ N : St → Hp → Prop, (∀ σ' H', N σ' H' → ∃ m', m' < m ∧ W m' σ' H') ∧ tb { D with nx := N, ct := N, bk := D.nx } σ H1 else D.nx σ H1
theorem ps_while {c : Expr} {body : List Stmt} {tc : TT} {tb : TS} (hp : PassesOwn (model X.prog X.w) X.A X.env X.xe) (hc : PT X c tc) (hb : PSs X body tb) : PS X (.While c body [] pos) (tWhile tc tb) := by
  intro pins s σ H D I h
  obtain ⟨W, ⟨m0, w0⟩, turn⟩ := h
  refine wpAny_While (codeAny_whileLoop (fun n s' => ∃ σ' H', Inv X pins σ' H' s' ∧ W n σ' H') ?_ m0 ⟨σ, H, I, w0⟩)
  rintro n s1 ⟨σ1, H1, I1, w1⟩
  refine wpAny_passesOwn hp (thn (hc pins s1 σ1 H1 _ I1 (turn n σ1 H1 w1)) fun b s2 ⟨H2, I2, q2⟩ => ?_)
  cases b with
  | true =>
    obtain ⟨N, hN, q2⟩ := q2
    rw [if_pos rfl]
    refine wpAny_passesOwn hp (thn (hb pins s2 σ1 H2 _ I2 q2) fun f s3 q3 => ?_)
    cases f with
    | next =>
      obtain ⟨σ3, H3, I3, n3⟩ := q3
      obtain ⟨m', hm, w3⟩ := hN σ3 H3 n3
      exact ⟨m', hm, σ3, H3, I3, w3⟩
    | cont =>
      obtain ⟨σ3, H3, I3, n3⟩ := q3
      obtain ⟨m', hm, w3⟩ := hN σ3 H3 n3
      exact ⟨m', hm, σ3, H3, I3, w3⟩
    | brk => exact q3
    | ret v => exact q3
  | false =>
    rw [if_neg Bool.false_ne_true]
    exact wpAny_execs_nil ⟨σ1, H2, I2, q2⟩
end

/-! ### what a loop or a comprehension walks -/
/-- at turn i: it yields x (the heap may grow), or it stops -/
structure It where
  go : Nat → Hp → Prop
  yld : Nat → Hp → V → Hp → Prop
  stop : Nat → Hp → Prop
/-- the iterator's own objects may turn: they are not the frame's, not pinned, younger than the entry (or a comprehension's own) -/
def FpOk (X : Cx) (pins : List (Addr × Obj)) (H : Hp) (b : Addr) : Prop :=
  H b = none ∧ b ≠ X.env.locals ∧ b ∉ X.fs ∧ (b ∈ X.ex ∨ X.s₀.heap.objs.size ≤ b) ∧ (∀ x c, X.env.cells.lookup x = some c → c ≠ b) ∧ ∀ p ∈ X.pn ++ pins, p.1 ≠ b
theorem Inv.fpOk {X : Cx} {pins : List (Addr × Obj)} {σ : St} {H H' : Hp} {s : Shared} {b : Addr} (I : Inv X pins σ H s) (hb : s.heap.objs.size ≤ b) (hn : H' b = none) : FpOk X pins H' b := by
  refine ⟨hn, Nat.ne_of_gt (Nat.lt_of_lt_of_le I.lt hb), I.nofs hb, .inr (Nat.le_trans I.sz hb), fun x c e z => ?_, fun p hp z => ?_⟩
  · obtain ⟨v, q⟩ := I.cell x c e
    exact absurd (Nat.lt_of_lt_of_le q.lt (by rw [z]; exact hb)) (Nat.lt_irrefl _)
  · exact absurd (Nat.lt_of_lt_of_le (Heap.lt_size (I.pin p hp).1) (by rw [z]; exact hb)) (Nat.lt_irrefl _)
structure Turn (P : Program) (w : World) (K : PySem.W.Frag) (tg : Expr) (J : It) (fp : List Addr) (it : Addr) (tn : Nat → Heap → Prop) : Prop where
  mem : it ∈ fp
  obj : ∀ i h, tn i h → ∀ b ∈ fp, ∃ o, h.get? b = some o ∧ ∀ v, o.data ≠ .cell v
  keep : ∀ i h h', tn i h → (∀ b ∈ fp, ∀ o, h.get? b = some o → h'.get? b = some o) → tn i h'
  item : ∀ (X : Cx), X.prog = P → X.w = w → X.K = K → X.calm = true → ∀ (i : Nat) (pins : List (Addr × Obj)) (s : Shared) (σ : St) (H : Hp) (E : Value → Shared → Prop), Inv X pins σ H s → (∀ b ∈ fp, FpOk X pins H b) → tn i s.heap → J.go i H →
    wpAny (model P w) X.A (pyNext (.ref it)) (fun r s1 => ∃ u, r = some u ∧
      wpAny (model P w) X.A (letOwnedTupleGo tg (.ref it) u) (fun _ s2 => ∃ x H', Inv X pins σ H' s2 ∧ RelV x u ∧ J.yld i H x H' ∧ tn (i + 1) s2.heap ∧ ∀ b ∈ fp, H' b = none) E s1) E s
  done : ∀ (X : Cx), X.prog = P → X.w = w → X.K = K → X.calm = true → ∀ (i : Nat) (pins : List (Addr × Obj)) (s : Shared) (σ : St) (H : Hp) (E : Value → Shared → Prop), Inv X pins σ H s → (∀ b ∈ fp, FpOk X pins H b) → tn i s.heap → J.stop i H →
    wpAny (model P w) X.A (pyNext (.ref it)) (fun r s1 => r = none ∧ Inv X pins σ H s1) E s
  self : ∀ (A : Around) (i : Nat) (s : Shared) (Q : Value → Shared → Prop) (E : Value → Shared → Prop), tn i s.heap → Q (.ref it) s → wpAny (model P w) A (pyIter (.ref it)) Q E s
abbrev TI := St → Hp → (It → Hp → Prop) → Prop
/-- an iterator has come -/
def PIE (X : Cx) (pins : List (Addr × Obj)) (σ : St) (tg : Expr) (R : It → Hp → Prop) (itv : Value) (s2 : Shared) : Prop :=
  ∃ (it : Addr) (fp : List Addr) (tn : Nat → Heap → Prop) (J : It) (H' : Hp), itv = .ref it ∧ Inv X pins σ H' s2 ∧ Turn X.prog X.w X.K tg J fp it tn ∧ tn 0 s2.heap ∧ (∀ b ∈ fp, FpOk X pins H' b) ∧ R J H'
def PI (X : Cx) (tg iter : Expr) (wi : TI) : Prop :=
  ∀ (pins : List (Addr × Obj)) (s : Shared) (σ : St) (H : Hp) (R : It → Hp → Prop), Inv X pins σ H s → wi σ H R →
    wpAny (model X.prog X.w) X.A (eval iter X.env) (fun v s1 => wpAny (model X.prog X.w) X.A (pyIter v) (PIE X pins σ tg R) X.xe s1) X.xe s

/-- the step ahead of the store is nothing for an iterator that keeps no tuple -/
theorem go_of {M : Model} {A : Around} {E : Value → Shared → Prop} {s : Shared} {tg : Expr} {it : Addr} {u : Value} {o : Obj} {n : String} {vs : Array Value} {Q : Unit → Shared → Prop} (ho : s.heap.get? it = some o) (hc : o.cls = .type n) (hd : o.data = .fields vs)
    (hn : ["enumerate", "zip", "dict_itemiterator", "dict_reverseitemiterator", "odict_iterator", "itertools.zip_longest", "itertools.pairwise"].contains n = false) (hQ : Q () s) : wpAny M A (letOwnedTupleGo tg (.ref it) u) Q E s := by
  unfold letOwnedTupleGo
  cases tg <;> first
    | exact wpAny_pure hQ
    | (cases u <;> first
        | exact wpAny_pure hQ
        | (refine wpAny_bind (wpAny_load ho ?_)
           rw [hc, hd]
           show wpAny M A (if (["enumerate", "zip", "dict_itemiterator", "dict_reverseitemiterator", "odict_iterator", "itertools.zip_longest", "itertools.pairwise"].contains n && vs[0]? == some (rawInt _)) = true then _ else _) Q E s
           rw [if_neg (by intro h; rw [hn, Bool.false_and] at h; cases h)]
           exact wpAny_pure hQ))

/-- the list at a, as it stands at each turn (a loop may append to it) -/
def Itl (K : PySem.W.Frag) (a : Addr) : It :=
  ⟨fun i H => ∃ xs x, SqL K H a xs ∧ xs[i]? = some x, fun i H x H' => H' = H ∧ ∀ xs, SqL K H a xs → xs[i]? = some x, fun i H => ∃ xs, SqL K H a xs ∧ xs.length ≤ i⟩
def Itt (K : PySem.W.Frag) (a : Addr) : It :=
  ⟨fun i H => ∃ xs x, SqT K H a xs ∧ xs[i]? = some x, fun i H x H' => H' = H ∧ ∀ xs, SqT K H a xs → xs[i]? = some x, fun i H => ∃ xs, SqT K H a xs ∧ xs.length ≤ i⟩
/-- lo, lo + 1, .. (n of them) -/
def Itr (lo : Int) (n : Nat) : It := ⟨fun i _ => i < n, fun i H x H' => H' = H ∧ x = .int (lo + i), fun i _ => n ≤ i⟩
theorem turn_list {P : Program} {w : World} {K : PySem.W.Frag} {tg : Expr} (a it : Addr) : Turn P w K tg (Itl K a) [it] it (fun i h => h.IsListIter it a i) where
  mem := by simp
  obj := fun i h st b hb => by
    have e : b = it := by simpa using hb
    subst e
    obtain ⟨o, e, c, d⟩ := st
    exact ⟨o, e, fun v z => by rw [d] at z; cases z⟩
  keep := fun i h h' st k => st.at fun o e => k it (by simp) o e
  item := by
    intro X hP hw hK hc i pins s σ H E I hf st hg
    subst hP hw hK
    obtain ⟨xs, x, hq, hx⟩ := hg
    obtain ⟨its, rv, p, hz⟩ := I.list hq
    obtain ⟨u, hu, ru⟩ := rv.get hx
    obtain ⟨f0, f1, f2, f3, f4, f5⟩ := hf it (by simp)
    refine wpAny_pyNext_list_item st p.isList (x := u) (by simpa using hu) fun h' st' sb => ?_
    have I1 : Inv X pins σ H { s with heap := h' } := I.turned (t' := s.toks) (fun b o hb e => (sb.2 b hb).trans e) f0 f1 f3 f4 f5
    obtain ⟨o, e, c, d⟩ := id st'
    exact ⟨u, rfl, go_of (s := { s with heap := h' }) e c d (by decide) ⟨x, H, I1, ru, ⟨rfl, fun ys hy => by rw [I.list_inj hy hq]; exact hx⟩, st', fun b hb => (hf b hb).1⟩⟩
  done := by
    intro X hP hw hK hc i pins s σ H E I hf st hg
    subst hP hw hK
    obtain ⟨xs, hq, hx⟩ := hg
    obtain ⟨its, rv, p, hz⟩ := I.list hq
    obtain ⟨f0, f1, f2, f3, f4, f5⟩ := hf it (by simp)
    have hl := rv.length
    exact wpAny_pyNext_list_end (I.ok.hd hc) st p.isList (by simp; omega) fun h' eb => ⟨rfl, I.turned (t' := s.toks) (fun b o hb e => eb b o hb e) f0 f1 f3 f4 f5⟩
  self := fun _ _ _ _ _ st h => wpAny_pyIter_listiter st h
theorem turn_tuple {P : Program} {w : World} {K : PySem.W.Frag} {tg : Expr} (a it : Addr) : Turn P w K tg (Itt K a) [it] it (fun i h => h.IsTupleIter it a i) where
  mem := by simp
  obj := fun i h st b hb => by
    have e : b = it := by simpa using hb
    subst e
    obtain ⟨o, e, c, d⟩ := st
    exact ⟨o, e, fun v z => by rw [d] at z; cases z⟩
  keep := fun i h h' st k => st.at fun o e => k it (by simp) o e
  item := by
    intro X hP hw hK hc i pins s σ H E I hf st hg
    subst hP hw hK
    obtain ⟨xs, x, hq, hx⟩ := hg
    obtain ⟨its, rv, p, hz⟩ := I.tuple hq
    obtain ⟨u, hu, ru⟩ := rv.get hx
    obtain ⟨f0, f1, f2, f3, f4, f5⟩ := hf it (by simp)
    refine wpAny_pyNext_tuple_item st (show s.heap.IsTuple a its.toArray from p) (x := u) (by simpa using hu) fun h' st' sb => ?_
    have I1 : Inv X pins σ H { s with heap := h' } := I.turned (t' := s.toks) (fun b o hb e => (sb.2 b hb).trans e) f0 f1 f3 f4 f5
    obtain ⟨o, e, c, d⟩ := id st'
    exact ⟨u, rfl, go_of (s := { s with heap := h' }) e c d (by decide) ⟨x, H, I1, ru, ⟨rfl, fun ys hy => by rw [I.tuple_inj hy hq]; exact hx⟩, st', fun b hb => (hf b hb).1⟩⟩
  done := by
    intro X hP hw hK hc i pins s σ H E I hf st hg
    subst hP hw hK
    obtain ⟨xs, hq, hx⟩ := hg
    obtain ⟨its, rv, p, hz⟩ := I.tuple hq
    obtain ⟨f0, f1, f2, f3, f4, f5⟩ := hf it (by simp)
    have hl := rv.length
    exact wpAny_pyNext_tuple_end (I.ok.hd hc) st (show s.heap.IsTuple a its.toArray from p) (by simp; omega) fun h' eb => ⟨rfl, I.turned (t' := s.toks) (fun b o hb e => eb b o hb e) f0 f1 f3 f4 f5⟩
  self := fun _ _ _ _ _ st h => wpAny_pyIter_tupleiter st h
theorem turn_range {P : Program} {w : World} {K : PySem.W.Frag} {tg : Expr} (it : Addr) (lo : Int) (n : Nat) : Turn P w K tg (Itr lo n) [it] it (fun i h => IsRangeIter h it (lo + (i : Nat) * 1) ((n : Int) - (i : Nat)) 1) where
  mem := by simp
  obj := fun i h st b hb => by
    have e : b = it := by simpa using hb
    subst e
    exact ⟨_, st, fun v z => by
      have z' : Data.fields _ = Data.cell v := z
      cases z'⟩
  keep := fun i h h' st k => k it (by simp) _ st
  item := by
    intro X hP hw hK hc i pins s σ H E I hf st hg
    subst hP hw hK
    obtain ⟨f0, f1, f2, f3, f4, f5⟩ := hf it (by simp)
    have W := Walks.range (prog := X.prog) (w := X.w) (I.ok.hd hc) it lo 1 n
    refine W.item i s _ _ hg st fun v h' tk hv st' kk => ?_
    obtain ⟨t, rfl⟩ := hv
    have I1 : Inv X pins σ H { s with heap := h', toks := tk } := I.turned (fun b o hb e => kk b o (by simpa using hb) e) f0 f1 f3 f4 f5
    refine ⟨_, rfl, go_of (s := { s with heap := h', toks := tk }) (n := "range_iterator") st' rfl rfl (by decide) ⟨.int (lo + i), H, I1, ⟨t, ?_⟩, ⟨rfl, rfl⟩, st', fun b hb => (hf b hb).1⟩⟩
    rw [Int.mul_one]
  done := by
    intro X hP hw hK hc i pins s σ H E I hf st hg
    subst hP hw hK
    obtain ⟨f0, f1, f2, f3, f4, f5⟩ := hf it (by simp)
    exact wpAny_pyNext_range_end (I.ok.hd hc) st (by have : n ≤ i := hg; omega) fun h' eb => ⟨rfl, I.turned (t' := s.toks) (fun b o hb e => eb b o hb e) f0 f1 f3 f4 f5⟩
  self := fun _ _ _ _ _ st h => wpAny_pyIter_rangeiter st h
end L2

namespace L2
open PySem PySem.Spec PyProof.Rows
section
variable {X : Cx} {tg : Expr}
def iList (K : PySem.W.Frag) (tl : TE) : TI := fun σ H R => tl σ H fun x H1 => ∃ a, x = .ref a ∧ (∃ xs, SqL K H1 a xs) ∧ R (Itl K a) H1
def iTup (K : PySem.W.Frag) (tl : TE) : TI := fun σ H R => tl σ H fun x H1 => ∃ a, x = .ref a ∧ (∃ xs, SqT K H1 a xs) ∧ R (Itt K a) H1
theorem pi_list {l : Expr} {tl : TE} (hl : PE X l tl) : PI X tg l (iList X.K tl) := by
  intro pins s σ H R I h
  refine thn (hl pins s σ H _ I h) fun v s1 ⟨x, H1, I1, r1, q1⟩ => ?_
  obtain ⟨a, e, ⟨xs, hq⟩, q⟩ := q1
  subst e
  cases r1
  obtain ⟨its, rv, p, hz⟩ := I1.list hq
  refine wpAny_pyIter_list p.isList ?_
  refine ⟨s1.heap.objs.size, [s1.heap.objs.size], _, _, H1, rfl, I1.kept (t' := s1.toks) fun b o e => Heap.get?_push_of_some _ e, turn_list a _, ⟨_, Heap.get?_push_size _ rfl, rfl, rfl⟩, fun b hb => ?_, q⟩
  have e : b = s1.heap.objs.size := by simpa using hb
  subst e
  exact I1.fpOk (Nat.le_refl _) (I1.hok.fresh (Nat.le_refl _))
theorem pi_tup {l : Expr} {tl : TE} (hl : PE X l tl) : PI X tg l (iTup X.K tl) := by
  intro pins s σ H R I h
  refine thn (hl pins s σ H _ I h) fun v s1 ⟨x, H1, I1, r1, q1⟩ => ?_
  obtain ⟨a, e, ⟨xs, hq⟩, q⟩ := q1
  subst e
  cases r1
  obtain ⟨its, rv, p, hz⟩ := I1.tuple hq
  refine wpAny_pyIter_tuple (show s1.heap.IsTuple a its.toArray from p) ?_
  refine ⟨s1.heap.objs.size, [s1.heap.objs.size], _, _, H1, rfl, I1.kept (t' := s1.toks) fun b o e => Heap.get?_push_of_some _ e, turn_tuple a _, ⟨_, Heap.get?_push_size _ rfl, rfl, rfl⟩, fun b hb => ?_, q⟩
  have e : b = s1.heap.objs.size := by simpa using hb
  subst e
  exact I1.fpOk (Nat.le_refl _) (I1.hok.fresh (Nat.le_refl _))
/-- a range object just made, walked -/
theorem range_it {pins : List (Addr × Obj)} {σ : St} {H : Hp} {s : Shared} {R : It → Hp → Prop} {E : Value → Shared → Prop} {lo hi : Int} {t u v : Tok} {tk : Nat} (I : Inv X pins σ H s) (h1 : -(2 ^ 62) ≤ lo) (h2 : lo < 2 ^ 62) (h3 : -(2 ^ 62) ≤ hi) (h4 : hi < 2 ^ 62)
    (q : R (Itr lo (hi - lo).toNat) H) : wpAny (model X.prog X.w) X.A (pyIter (.ref s.heap.objs.size)) (PIE X pins σ tg R) E { s with heap := s.heap.push { cls := .type "range", data := .fields #[.int lo t, .int hi u, .int 1 v] }, toks := tk } := by
  refine wpAny_pyIter_range (IsRange.new ..) (small_one h1 h2 h3 h4) ?_
  have I1 : Inv X pins σ H { s with heap := s.heap.push { cls := .type "range", data := .fields #[.int lo t, .int hi u, .int 1 v] }, toks := tk } := I.kept fun b o e => Heap.get?_push_of_some _ e
  refine ⟨(s.heap.push { cls := .type "range", data := .fields #[.int lo t, .int hi u, .int 1 v] }).objs.size, [(s.heap.push { cls := .type "range", data := .fields #[.int lo t, .int hi u, .int 1 v] }).objs.size], _, _, H, rfl,
    I1.kept (t' := tk) fun b o e => Heap.get?_push_of_some _ e, turn_range _ lo (hi - lo).toNat, ?_, fun b hb => ?_, q⟩
  · have e1 : lo + ((0 : Nat) : Int) * 1 = lo := by simp
    have e2 : (((hi - lo).toNat : Nat) : Int) - ((0 : Nat) : Int) = Builtin.Range.rangeSize lo hi 1 := by rw [rangeSize_one]; split <;> omega
    show IsRangeIter _ _ (lo + ((0 : Nat) : Int) * 1) ((((hi - lo).toNat : Nat) : Int) - ((0 : Nat) : Int)) 1
    rw [e1, e2]
    exact Heap.get?_push_size _ rfl
  · have e : b = (s.heap.push { cls := .type "range", data := .fields #[.int lo t, .int hi u, .int 1 v] }).objs.size := by simpa using hb
    subst e
    exact I1.fpOk (Nat.le_refl _) (I1.hok.fresh (Nat.le_refl _))
def iRng1 (ta : TA) : TI := fun σ H R => ta σ H fun vs H1 => ∃ j : Int, vs = [.int j] ∧ -(2 ^ 62) ≤ j ∧ j < 2 ^ 62 ∧ R (Itr 0 j.toNat) H1
def iRng2 (ta : TA) : TI := fun σ H R => ta σ H fun vs H1 => ∃ i j : Int, vs = [.int i, .int j] ∧ (-(2 ^ 62) ≤ i ∧ i < 2 ^ 62 ∧ -(2 ^ 62) ≤ j ∧ j < 2 ^ 62) ∧ R (Itr i (j - i).toNat) H1
theorem pi_range1 {a : Expr} {ta : TA} {p pos : Pos} (hg : Gl X "range") (hm : X.mg "range" = none) (ha : PA X [a] ta) (hs : starEach [a] X.env = [(false, eval a X.env)] := by rfl) : PI X tg (.Call (.Name "range" p) [a] [] pos) (iRng1 ta) := by
  intro pins s σ H R I h
  refine Call_ (ld_blt I hg hm boot_range (PyProof.Rows.callWith_type1 (thn (ha pos pins s σ H _ I h) fun us s1 ⟨vs, H1, I1, r1, q1⟩ => ?_) hs rfl))
  obtain ⟨j, e, q1, q2, q⟩ := q1
  subst e
  cases r1 with
  | cons r rr =>
    cases rr
    obtain ⟨t, rfl⟩ := r
    exact call_range_1 (range_it I1 (by omega) (by omega) q1 q2 (by simpa using q))
theorem pi_range2 {a b : Expr} {ta : TA} {p pos : Pos} (hg : Gl X "range") (hm : X.mg "range" = none) (ha : PA X [a, b] ta) (hs : starEach [a, b] X.env = [(false, eval a X.env), (false, eval b X.env)] := by rfl) (hs2 : starEach [b] X.env = [(false, eval b X.env)] := by rfl) :
    PI X tg (.Call (.Name "range" p) [a, b] [] pos) (iRng2 ta) := by
  intro pins s σ H R I h
  refine Call_ (ld_blt I hg hm boot_range (PyProof.Rows.callWith_type1 (thn (ha pos pins s σ H _ I h) fun us s1 ⟨vs, H1, I1, r1, q1⟩ => ?_) (by rw [hs, hs2]) (by rw [hs2]; rfl)))
  obtain ⟨i, j, e, ⟨q1, q2, q3, q4⟩, q⟩ := q1
  subst e
  cases r1 with
  | cons r rr =>
    cases rr with
    | cons r' rr =>
      cases rr
      obtain ⟨t, rfl⟩ := r
      obtain ⟨t', rfl⟩ := r'
      exact call_range_2 (range_it I1 q1 q2 q3 q4 q)

/-! ### for -/
/-- W: the invariant by the turn and a measure; N: what the body is to reach -/
def tFor (wi : TI) (g : TG) (tb : TS) : TS := fun D σ H => wi σ H fun J H1 => ∃ W : Nat → Nat → St → Hp → Prop, (∃ m, W 0 m σ H1) ∧ ∀ i m σ H, W i m σ H →
  (J.stop i H ∧ D.nx σ H) ∨ (J.go i H ∧ ∃ N : St → Hp → Prop, (∀ σ' H', N σ' H' → ∃ m', m' < m ∧ W (i + 1) m' σ' H') ∧ ∀ x H', J.yld i H x H' → g x σ H' fun σ2 H2 => tb { D with nx := N, ct := N, bk := D.nx } σ2 H2)
/-- the records at fp as they stand -/
def pinsAt (fp : List Addr) (h : Heap) : List (Addr × Obj) := fp.filterMap fun b => (h.get? b).map fun o => (b, o)
theorem mem_pinsAt {fp : List Addr} {h : Heap} {b : Addr} {o : Obj} (hb : b ∈ fp) (e : h.get? b = some o) : (b, o) ∈ pinsAt fp h := List.mem_filterMap.mpr ⟨b, hb, by rw [e]; rfl⟩
theorem of_pinsAt {fp : List Addr} {h : Heap} {p : Addr × Obj} (hp : p ∈ pinsAt fp h) : p.1 ∈ fp ∧ h.get? p.1 = some p.2 := by
  obtain ⟨b, hb, e⟩ := List.mem_filterMap.mp hp
  cases q : h.get? b with
  | none => rw [q] at e; cases e
  | some o =>
    rw [q] at e
    have e' : (b, o) = p := Option.some.inj e
    subst e'
    exact ⟨hb, q⟩
theorem Inv.pinned {pins : List (Addr × Obj)} {σ : St} {H : Hp} {s : Shared} {fp : List Addr} (I : Inv X pins σ H s) (hf : ∀ b ∈ fp, FpOk X pins H b) (ho : ∀ b ∈ fp, ∃ o, s.heap.get? b = some o ∧ ∀ v, o.data ≠ .cell v) : Inv X (pins ++ pinsAt fp s.heap) σ H s :=
  I.pins_of fun p hp => (List.mem_append.mp hp).elim (fun z => I.pin p (List.mem_append_right _ z)) fun z => by
    obtain ⟨hb, e⟩ := of_pinsAt z
    obtain ⟨f0, f1, f2, _⟩ := hf p.1 hb
    obtain ⟨o, e', d⟩ := ho p.1 hb
    rw [e] at e'; cases e'
    exact ⟨e, f0, f1, f2, d⟩
theorem Inv.unpinned {pins pl : List (Addr × Obj)} {σ : St} {H : Hp} {s : Shared} (I : Inv X (pins ++ pl) σ H s) : Inv X pins σ H s := I.pins_of fun p hp => I.pin p (List.mem_append_right _ (List.mem_append_left _ hp))
theorem ps_for {iter : Expr} {body : List Stmt} {wi : TI} {g : TG} {tb : TS} {pos : Pos} (hp : PassesOwn (model X.prog X.w) X.A X.env X.xe) (hc : X.calm = true) (hi : PI X tg iter wi) (hg : PG X tg g) (hb : PSs X body tb)
    (hs : ∀ x, foldedSetIterable iter X.env x = pure x := by intro _; rfl) : PS X (.For tg iter body [] pos) (tFor wi g tb) := by
  intro pins s σ H D I h
  refine wpAny_For (thn (hi pins s σ H _ I h) fun v s1 h1 => thn h1 fun itv s2 h2 => ?_) hs
  obtain ⟨it, fp, tn, J, H2, e, I2, T, st2, f2, W, ⟨m0, w0⟩, turn⟩ := h2
  subst e
  -- what stays true of the iterator's objects through the loop
  have stat : ∀ {H' : Hp}, (∀ b ∈ fp, H' b = none) → ∀ b ∈ fp, FpOk X pins H' b := fun hn b hb => ⟨hn b hb, (f2 b hb).2⟩
  refine codeAny_forLoop_any (fun n s' => ∃ i σ' H', Inv X pins σ' H' s' ∧ tn i s'.heap ∧ (∀ b ∈ fp, H' b = none) ∧ W i n σ' H') ?_ m0 ⟨0, σ, H2, I2, st2, fun b hb => (f2 b hb).1, w0⟩
  rintro n s3 ⟨i, σ3, H3, I3, st3, fr3, w3⟩
  rcases turn i n σ3 H3 w3 with ⟨stop, qn⟩ | ⟨go, N, hN, step⟩
  · refine wpAny_passesOwn hp (thn (T.done X rfl rfl rfl hc i pins s3 σ3 H3 X.xe I3 (stat fr3) st3 stop) fun r s4 ⟨hr, I4⟩ => ?_)
    subst hr
    exact wpAny_execs_nil ⟨σ3, H3, I4, qn⟩
  · refine wpAny_passesOwn hp (thn (T.item X rfl rfl rfl hc i pins s3 σ3 H3 X.xe I3 (stat fr3) st3 go) fun r s4 ⟨u, hr, h4⟩ => ?_)
    subst hr
    refine wpAny_passesOwn hp (thn h4 fun _ s5 ⟨x, H5, I5, r5, y5, st5, fr5⟩ => ?_)
    have I5' := I5.pinned (stat fr5) (T.obj _ _ st5)
    refine wpAny_passesOwn hp (thn (hg _ s5 σ3 H5 x u _ I5' r5 (step x H5 y5)) fun _ s6 ⟨σ6, H6, I6, q6⟩ => ?_)
    refine wpAny_passesOwn hp (thn (hb _ s6 σ6 H6 _ I6 q6) fun f s7 q7 => ?_)
    have again : ∀ {σ7 : St} {H7 : Hp}, Inv X (pins ++ pinsAt fp s5.heap) σ7 H7 s7 → N σ7 H7 → ∃ m, m < n ∧ ∃ i σ' H', Inv X pins σ' H' s7 ∧ tn i s7.heap ∧ (∀ b ∈ fp, H' b = none) ∧ W i m σ' H' := fun {σ7 H7} I7 n7 => by
      obtain ⟨m', hm, w7⟩ := hN σ7 H7 n7
      refine ⟨m', hm, i + 1, σ7, H7, I7.unpinned, T.keep _ _ _ st5 fun b hb o e => (I7.pin (b, o) (List.mem_append_right _ (List.mem_append_right _ (mem_pinsAt hb e)))).1, fun b hb => ?_, w7⟩
      obtain ⟨o, e, d⟩ := T.obj _ _ st5 b hb
      exact (I7.pin (b, o) (List.mem_append_right _ (List.mem_append_right _ (mem_pinsAt hb e)))).2.1
    cases f with
    | next => obtain ⟨σ7, H7, I7, n7⟩ := q7; exact again I7 n7
    | cont => obtain ⟨σ7, H7, I7, n7⟩ := q7; exact again I7 n7
    | brk => obtain ⟨σ7, H7, I7, q7⟩ := q7; exact ⟨σ7, H7, I7.unpinned, q7⟩
    | ret v => obtain ⟨x7, σ7, H7, I7, r7, q7⟩ := q7; exact ⟨x7, σ7, H7, I7.unpinned, r7, q7⟩
end

/-! ### the forms one uses -/
/-- over a list that the body leaves as it is -/
theorem for_list {K : PySem.W.Frag} {a : Addr} {xs : List V} {g : TG} {tb : TS} {D : Ends} {σ : St} {H : Hp} (Pv : Nat → St → Hp → Prop) (h0 : Pv 0 σ H) (hl : ∀ i σ H, i ≤ xs.length → Pv i σ H → SqL K H a xs)
    (hs : ∀ i x σ H, xs[i]? = some x → Pv i σ H → g x σ H fun σ2 H2 => tb { D with nx := Pv (i + 1), ct := Pv (i + 1), bk := D.nx } σ2 H2) (hd : ∀ σ H, Pv xs.length σ H → D.nx σ H) :
    ∃ W : Nat → Nat → St → Hp → Prop, (∃ m, W 0 m σ H) ∧ ∀ i m σ H, W i m σ H →
      ((Itl K a).stop i H ∧ D.nx σ H) ∨ ((Itl K a).go i H ∧ ∃ N : St → Hp → Prop, (∀ σ' H', N σ' H' → ∃ m', m' < m ∧ W (i + 1) m' σ' H') ∧ ∀ x H', (Itl K a).yld i H x H' → g x σ H' fun σ2 H2 => tb { D with nx := N, ct := N, bk := D.nx } σ2 H2) := by
  refine ⟨fun i m σ H => m = xs.length - i ∧ i ≤ xs.length ∧ Pv i σ H, ⟨xs.length, by simp, Nat.zero_le _, h0⟩, ?_⟩
  rintro i m σ H ⟨rfl, hi, p⟩
  have q := hl i σ H hi p
  by_cases hlt : i < xs.length
  · refine .inr ⟨⟨xs, xs[i], q, by simp [hlt]⟩, Pv (i + 1), fun σ' H' p' => ⟨xs.length - (i + 1), by omega, rfl, hlt, p'⟩, fun x H' y => ?_⟩
    obtain ⟨e, y⟩ := y
    subst e
    exact hs i x σ _ (y xs q) p
  · have e : i = xs.length := by omega
    subst e
    exact .inl ⟨⟨xs, q, Nat.le_refl _⟩, hd σ H p⟩
theorem for_range {lo : Int} {n : Nat} {g : TG} {tb : TS} {D : Ends} {σ : St} {H : Hp} (Pv : Nat → St → Hp → Prop) (h0 : Pv 0 σ H)
    (hs : ∀ i σ H, i < n → Pv i σ H → g (.int (lo + i)) σ H fun σ2 H2 => tb { D with nx := Pv (i + 1), ct := Pv (i + 1), bk := D.nx } σ2 H2) (hd : ∀ σ H, Pv n σ H → D.nx σ H) :
    ∃ W : Nat → Nat → St → Hp → Prop, (∃ m, W 0 m σ H) ∧ ∀ i m σ H, W i m σ H →
      ((Itr lo n).stop i H ∧ D.nx σ H) ∨ ((Itr lo n).go i H ∧ ∃ N : St → Hp → Prop, (∀ σ' H', N σ' H' → ∃ m', m' < m ∧ W (i + 1) m' σ' H') ∧ ∀ x H', (Itr lo n).yld i H x H' → g x σ H' fun σ2 H2 => tb { D with nx := N, ct := N, bk := D.nx } σ2 H2) := by
  refine ⟨fun i m σ H => m = n - i ∧ i ≤ n ∧ Pv i σ H, ⟨n, by simp, Nat.zero_le _, h0⟩, ?_⟩
  rintro i m σ H ⟨rfl, hi, p⟩
  by_cases hlt : i < n
  · refine .inr ⟨hlt, Pv (i + 1), fun σ' H' p' => ⟨n - (i + 1), by omega, rfl, hlt, p'⟩, fun x H' y => ?_⟩
    obtain ⟨e, y⟩ := y
    subst e y
    exact hs i σ _ hlt p
  · have e : i = n := by omega
    subst e
    exact .inl ⟨Nat.le_refl _, hd σ H p⟩
end L2

namespace L2
open PySem PySem.Spec PyProof.Rows

abbrev R2 := V → V → Hp → VK → Prop
/-- a two-place operation on values: f is binaryOp op, inplaceOp op or compareOp op -/
def OpR (X : Cx) (f : Value → Value → Sem Value) (r : R2) : Prop :=
  ∀ (pins : List (Addr × Obj)) (s : Shared) (σ : St) (H : Hp) (x y : V) (v u : Value) (Q : VK), Inv X pins σ H s → RelV x v → RelV y u → r x y H Q →
    wpAny (model X.prog X.w) X.A (f v u) (EP X pins σ Q) X.xe s
/-- a one-place operation -/
def UnR (X : Cx) (f : Value → Sem Value) (r : V → Hp → VK → Prop) : Prop :=
  ∀ (pins : List (Addr × Obj)) (s : Shared) (σ : St) (H : Hp) (x : V) (v : Value) (Q : VK), Inv X pins σ H s → RelV x v → r x H Q →
    wpAny (model X.prog X.w) X.A (f v) (EP X pins σ Q) X.xe s
/-- a call of a value that is known (a builtin, a type) with values -/
def CallR (X : Cx) (f : Value) (r : List V → Hp → VK → Prop) : Prop :=
  ∀ (pins : List (Addr × Obj)) (s : Shared) (σ : St) (H : Hp) (xs : List V) (us : List Value) (Q : VK), Inv X pins σ H s → Vals xs us → r xs H Q →
    wpAny (model X.prog X.w) X.A (call f us) (EP X pins σ Q) X.xe s
/-- a value's truth -/
def TruR (X : Cx) (r : V → Hp → (Bool → Hp → Prop) → Prop) : Prop :=
  ∀ (pins : List (Addr × Obj)) (s : Shared) (σ : St) (H : Hp) (x : V) (v : Value) (Q : Bool → Hp → Prop), Inv X pins σ H s → RelV x v → r x H Q →
    wpAny (model X.prog X.w) X.A (truthy v) (TP X pins σ Q) X.xe s

def tOp (r : R2) (ta tb : TE) : TE := fun σ H Q => ta σ H fun x H1 => tb σ H1 fun y H2 => r x y H2 Q
def tUn (r : V → Hp → VK → Prop) (ta : TE) : TE := fun σ H Q => ta σ H fun x H1 => r x H1 Q
/-- ints in, under C, and a value out -/
def rI (C : Int → Int → Prop) (g : Int → Int → V) : R2 := fun x y H Q => ∃ i j, x = .int i ∧ y = .int j ∧ C i j ∧ Q (g i j) H
def rI0 (g : Int → Int → V) : R2 := fun x y H Q => ∃ i j, x = .int i ∧ y = .int j ∧ Q (g i j) H
def rU (g : Int → V) : V → Hp → VK → Prop := fun x H Q => ∃ i, x = .int i ∧ Q (g i) H

section
variable {X : Cx} {a b c : Expr} {ta tb tc : TE} {pos : Pos}

theorem binT (ha : PE X a ta) (hb : PE X b tb) {pins : List (Addr × Obj)} {s : Shared} {σ : St} {H : Hp} {R : V → V → Hp → Prop} (I : Inv X pins σ H s)
    (h : ta σ H fun x H1 => tb σ H1 fun y H2 => R x y H2) {Q : Value → Shared → Prop} {f : Value → Value → Sem Value}
    (hf : ∀ v u s2 x y H2, Inv X pins σ H2 s2 → RelV x v → RelV y u → R x y H2 → wpAny (model X.prog X.w) X.A (f v u) Q X.xe s2) :
    wpAny (model X.prog X.w) X.A (eval a X.env) (fun v s₁ => wpAny (model X.prog X.w) X.A (eval b X.env) (fun u s₂ => wpAny (model X.prog X.w) X.A (f v u) Q X.xe s₂) X.xe s₁) X.xe s := by
  refine thn (ha pins s σ H _ I h) fun v s1 ⟨x, H1, I1, r1, q1⟩ => ?_
  refine thn (hb pins s1 σ H1 _ I1 q1) fun u s2 ⟨y, H2, I2, r2, q2⟩ => ?_
  exact hf v u s2 x y H2 I2 r1 r2 q2

theorem pe_op {op : Operator} {r : R2} (ho : OpR X (binaryOp op) r) (ha : PE X a ta) (hb : PE X b tb) : PE X (.BinOp a op b pos) (tOp r ta tb) := by
  intro pins s σ H Q I h
  exact wpAny_BinOp (binT ha hb I h fun v u s2 x y H2 I2 rx ry q => ho pins s2 σ H2 x y v u Q I2 rx ry q)
/-! ### ints -/
theorem opI {f : Value → Value → Sem Value} {C : Int → Int → Prop} {g : Int → Int → Int}
    (rule : ∀ (i j : Int) (t u : Tok) (s : Shared) (Q : Value → Shared → Prop) (E : Value → Shared → Prop), C i j → Q (.int (g i j) s.toks) { s with toks := s.toks + 1 } → wpAny (model X.prog X.w) X.A (f (.int i t) (.int j u)) Q E s) :
    OpR X f (rI C fun i j => .int (g i j)) := by
  intro pins s σ H x y v u Q I rx ry h
  obtain ⟨i, j, rfl, rfl, hc, q⟩ := h
  obtain ⟨t, rfl⟩ := rx
  obtain ⟨t', rfl⟩ := ry
  exact rule i j t t' s _ _ hc ⟨.int (g i j), H, I.tok _, ⟨_, rfl⟩, q⟩
theorem opI0 {f : Value → Value → Sem Value} {g : Int → Int → Int}
    (rule : ∀ (i j : Int) (t u : Tok) (s : Shared) (Q : Value → Shared → Prop) (E : Value → Shared → Prop), Q (.int (g i j) s.toks) { s with toks := s.toks + 1 } → wpAny (model X.prog X.w) X.A (f (.int i t) (.int j u)) Q E s) :
    OpR X f (rI0 fun i j => .int (g i j)) := by
  intro pins s σ H x y v u Q I rx ry h
  obtain ⟨i, j, rfl, rfl, q⟩ := h
  obtain ⟨t, rfl⟩ := rx
  obtain ⟨t', rfl⟩ := ry
  exact rule i j t t' s _ _ ⟨.int (g i j), H, I.tok _, ⟨_, rfl⟩, q⟩
theorem opB0 {f : Value → Value → Sem Value} {g : Int → Int → Bool}
    (rule : ∀ (i j : Int) (t u : Tok) (s : Shared) (Q : Value → Shared → Prop) (E : Value → Shared → Prop), Q (.bool (g i j)) s → wpAny (model X.prog X.w) X.A (f (.int i t) (.int j u)) Q E s) :
    OpR X f (rI0 fun i j => .bl (g i j)) := by
  intro pins s σ H x y v u Q I rx ry h
  obtain ⟨i, j, rfl, rfl, q⟩ := h
  obtain ⟨t, rfl⟩ := rx
  obtain ⟨t', rfl⟩ := ry
  exact rule i j t t' s _ _ ⟨.bl (g i j), H, I, rfl, q⟩

def CDiv (i j : Int) : Prop := 0 < j ∧ j < 1073741824
def CDivN (i j : Int) : Prop := j ≠ 0 ∧ j.natAbs < 1073741824
def CPow (i j : Int) : Prop := 0 ≤ j ∧ j ≤ 1000000 ∧ i.natAbs < 2 ^ 64
def CMul (i j : Int) : Prop := (-(2 ^ 64) < i ∧ i < 2 ^ 64) ∨ (-(2 ^ 64) < j ∧ j < 2 ^ 64)
theorem CMul.ok {i j : Int} (h : CMul i j) : IntMulOk i j := by
  rcases h with ⟨h1, h2⟩ | ⟨h1, h2⟩
  · exact .of_left (intBits_le_64 h1 h2)
  · exact .of_right (intBits_le_64 h1 h2)
theorem op_add : OpR X (binaryOp .Add) (rI0 fun i j => .int (i + j)) := opI0 fun _ _ _ _ _ _ _ q => add_int q
theorem op_sub : OpR X (binaryOp .Sub) (rI0 fun i j => .int (i - j)) := opI0 fun _ _ _ _ _ _ _ q => sub_int q
theorem op_mul : OpR X (binaryOp .Mult) (rI CMul fun i j => .int (i * j)) := opI fun _ _ _ _ _ _ _ hc q => mul_int q hc.ok
/-- // by a positive divisor -/
theorem op_fdiv : OpR X (binaryOp .FloorDiv) (rI CDiv fun i j => .int (i / j)) := opI fun i j _ _ _ _ _ hc q => by
  have h1 : (0 : Int) < j := hc.1
  have h2 : j < 1073741824 := hc.2
  exact floordiv_int (by omega) (by rw [Int.fdiv_eq_ediv_of_nonneg i (by omega)]; exact q) (.inl (PyProof.noPylong_small (by omega)))
/-- % by a positive divisor of any size -/
theorem op_mod : OpR X (binaryOp .Mod) (rI (fun _ j => 0 < j) fun i j => .int (i % j)) := opI fun i j _ _ _ _ _ hc q => by
  have h1 : (0 : Int) < j := hc
  exact mod_int' (by omega) (by rw [Int.fmod_eq_emod_of_nonneg i (by omega)]; exact q)
theorem op_pow : OpR X (binaryOp .Pow) (rI CPow fun i j => .int (i ^ j.toNat)) := opI fun _ _ _ _ _ _ _ hc q => pow_int_small hc.1 hc.2.1 hc.2.2 q
/-! ### bools among ints: n += (a < b) -/
end

/-! ### comparisons -/
/-- the scalars that == tells apart as data does -/
def scal : V → V → Bool
  | .non, .non => true | .non, .int _ => true | .int _, .non => true | .non, .bl _ => true | .bl _, .non => true | .non, .str _ => true | .str _, .non => true
  | .int _, .int _ => true | .bl _, .bl _ => true | .str _, .str _ => true | .byt _, .byt _ => true
  | .int _, .str _ => true | .str _, .int _ => true | .bl _, .str _ => true | .str _, .bl _ => true
  | _, _ => false
def rEq : R2 := fun x y H Q => scal x y = true ∧ Q (.bl (decide (x = y))) H
def rNe : R2 := fun x y H Q => scal x y = true ∧ Q (.bl (!decide (x = y))) H

theorem dec_int {i j : Int} : decide (V.int i = V.int j) = (i == j) := by
  rw [Bool.eq_iff_iff]
  simp
theorem dec_bl {i j : Bool} : decide (V.bl i = V.bl j) = (i == j) := by
  rw [Bool.eq_iff_iff]
  simp
theorem dec_str {i j : Str} : decide (V.str i = V.str j) = (i == j) := by
  rw [Bool.eq_iff_iff]
  simp
theorem dec_byt {i j : Array UInt8} : decide (V.byt i = V.byt j) = (i.toList == j.toList) := by
  rw [Bool.eq_iff_iff]
  cases i
  cases j
  simp

section
variable {X : Cx} {a b c : Expr} {ta tb tc : TE} {pos : Pos}
theorem fin_bl {pins : List (Addr × Obj)} {σ : St} {H : Hp} {s : Shared} {Q : VK} {k k' : Bool} (I : Inv X pins σ H s) (q : Q (.bl k) H) (e : k = k') : EP X pins σ Q (.bool k') s := by
  subst e
  exact ⟨.bl k, H, I, rfl, q⟩
theorem op_eq : OpR X (compareOp .Eq) rEq := by
  intro pins s σ H x y v u Q I rx ry h
  obtain ⟨hs, q⟩ := h
  cases x with
  | non =>
    cases rx
    cases y with
    | non => cases ry; exact PySem.EqNone.eq_none_none (fin_bl I q (by simp))
    | bl j => cases ry; exact PySem.EqNone.eq_none_bool (fin_bl I q (by simp))
    | int j => obtain ⟨t', rfl⟩ := ry; exact PySem.EqNone.eq_none_int (fin_bl I q (by simp))
    | str j => obtain ⟨t', rfl⟩ := ry; exact PySem.EqNone.eq_none_str (fin_bl I q (by simp))
    | _ => exact absurd (show false = true from hs) Bool.false_ne_true
  | bl i =>
    cases rx
    cases y with
    | non => cases ry; exact PySem.EqNone.eq_bool_none (fin_bl I q (by simp))
    | bl j => cases ry; exact eq_bool (fin_bl I q dec_bl)
    | str j => obtain ⟨t', rfl⟩ := ry; exact PySem.EqMixed.eq_bool_str (fin_bl I q (by simp))
    | _ => exact absurd (show false = true from hs) Bool.false_ne_true
  | int i =>
    obtain ⟨t, rfl⟩ := rx
    cases y with
    | non => cases ry; exact PySem.EqNone.eq_int_none (fin_bl I q (by simp))
    | int j => obtain ⟨t', rfl⟩ := ry; exact eq_int (fin_bl I q dec_int)
    | str j => obtain ⟨t', rfl⟩ := ry; exact PySem.EqMixed.eq_int_str (fin_bl I q (by simp))
    | _ => exact absurd (show false = true from hs) Bool.false_ne_true
  | str i =>
    obtain ⟨t, rfl⟩ := rx
    cases y with
    | non => cases ry; exact PySem.EqNone.eq_str_none (fin_bl I q (by simp))
    | bl j => cases ry; exact PySem.EqMixed.eq_str_bool (fin_bl I q (by simp))
    | int j => obtain ⟨t', rfl⟩ := ry; exact PySem.EqMixed.eq_str_int (fin_bl I q (by simp))
    | str j => obtain ⟨t', rfl⟩ := ry; exact eq_str (fin_bl I q dec_str)
    | _ => exact absurd (show false = true from hs) Bool.false_ne_true
  | byt i =>
    obtain ⟨t, rfl⟩ := rx
    cases y with
    | byt j => obtain ⟨t', rfl⟩ := ry; exact PySem.W.eq_bytes (fin_bl I q dec_byt)
    | _ => exact absurd (show false = true from hs) Bool.false_ne_true
  | _ => cases y <;> exact absurd (show false = true from hs) Bool.false_ne_true
theorem op_ne : OpR X (compareOp .NotEq) rNe := by
  intro pins s σ H x y v u Q I rx ry h
  obtain ⟨hs, q⟩ := h
  cases x with
  | non =>
    cases rx
    cases y with
    | non => cases ry; exact PySem.EqNone.ne_none_none (fin_bl I q (by simp))
    | bl j => cases ry; exact PySem.EqNone.ne_none_bool (fin_bl I q (by simp))
    | int j => obtain ⟨t', rfl⟩ := ry; exact PySem.EqNone.ne_none_int (fin_bl I q (by simp))
    | str j => obtain ⟨t', rfl⟩ := ry; exact PySem.EqNone.ne_none_str (fin_bl I q (by simp))
    | _ => exact absurd (show false = true from hs) Bool.false_ne_true
  | bl i =>
    cases rx
    cases y with
    | non => cases ry; exact PySem.EqNone.ne_bool_none (fin_bl I q (by simp))
    | bl j => cases ry; exact ne_bool (fin_bl I q (congrArg not dec_bl))
    | str j => obtain ⟨t', rfl⟩ := ry; exact PySem.EqMixed.ne_bool_str (fin_bl I q (by simp))
    | _ => exact absurd (show false = true from hs) Bool.false_ne_true
  | int i =>
    obtain ⟨t, rfl⟩ := rx
    cases y with
    | non => cases ry; exact PySem.EqNone.ne_int_none (fin_bl I q (by simp))
    | int j => obtain ⟨t', rfl⟩ := ry; exact ne_int (fin_bl I q (congrArg not dec_int))
    | str j => obtain ⟨t', rfl⟩ := ry; exact PySem.EqMixed.ne_int_str (fin_bl I q (by simp))
    | _ => exact absurd (show false = true from hs) Bool.false_ne_true
  | str i =>
    obtain ⟨t, rfl⟩ := rx
    cases y with
    | non => cases ry; exact PySem.EqNone.ne_str_none (fin_bl I q (by simp))
    | bl j => cases ry; exact PySem.EqMixed.ne_str_bool (fin_bl I q (by simp))
    | int j => obtain ⟨t', rfl⟩ := ry; exact PySem.EqMixed.ne_str_int (fin_bl I q (by simp))
    | str j => obtain ⟨t', rfl⟩ := ry; exact ne_str (fin_bl I q (congrArg not dec_str))
    | _ => exact absurd (show false = true from hs) Bool.false_ne_true
  | byt i =>
    obtain ⟨t, rfl⟩ := rx
    cases y with
    | byt j => obtain ⟨t', rfl⟩ := ry; exact PySem.W.ne_bytes (fin_bl I q (congrArg not dec_byt))
    | _ => exact absurd (show false = true from hs) Bool.false_ne_true
  | _ => cases y <;> exact absurd (show false = true from hs) Bool.false_ne_true

theorem op_lt : OpR X (compareOp .Lt) (rI0 fun i j => .bl (decide (i < j))) := opB0 fun _ _ _ _ _ _ _ q => lt_int q
theorem op_gt : OpR X (compareOp .Gt) (rI0 fun i j => .bl (decide (j < i))) := opB0 fun _ _ _ _ _ _ _ q => gt_int q
/-- is, is not of two objects that are tracked lists or instances -/
def isObj : HO → Bool
  | .lst _ => true
  | .ins _ _ _ => true
  | _ => false
/-- two rules for one operation: by cases -/
theorem OpR.or {f : Value → Value → Sem Value} {r r' : R2} (h : OpR X f r) (h' : OpR X f r') : OpR X f (fun x y H Q => r x y H Q ∨ r' x y H Q) := by
  intro pins s σ H x y v u Q I rx ry q
  rcases q with q | q
  · exact h pins s σ H x y v u Q I rx ry q
  · exact h' pins s σ H x y v u Q I rx ry q

theorem nomark (b : Expr) {op : CmpOp} (h : op ≠ .In := by decide) (h2 : op ≠ .NotIn := by decide) : behindInMarks op b = false := by
  have e1 : (op == CmpOp.In) = false := by cases op <;> first | rfl | exact absurd rfl h
  have e2 : (op == CmpOp.NotIn) = false := by cases op <;> first | rfl | exact absurd rfl h2
  cases b <;> simp [behindInMarks, e1, e2]
/-- a comparison as a value; hm: nomark b, or (for in, not in) by with_unfolding_all rfl -/
theorem pe_cmpR {op : CmpOp} {r : R2} (ho : OpR X (compareOp op) r) (ha : PE X a ta) (hb : PE X b tb) (hm : behindInMarks op b = false) : PE X (.Compare a [op] [b] pos) (tOp r ta tb) := by
  intro pins s σ H Q I h
  exact wpAny_Compare1 (binT ha hb I h fun v u s2 x y H2 I2 rx ry q => ho pins s2 σ H2 x y v u Q I2 rx ry q) hm
/-- a reading of a value as a test -/
def tTest (t : TE) : TT := fun σ H Q => t σ H fun x H' => ∃ k, x = .bl k ∧ Q k H'
theorem pt_cmpR {op : CmpOp} {r : R2} (ho : OpR X (compareOp op) r) (ha : PE X a ta) (hb : PE X b tb) (hm : behindInMarks op b = false) : PT X (.Compare a [op] [b] pos) (tTest (tOp r ta tb)) := by
  intro pins s σ H Q I h
  refine wpAny_isTrue_Compare1 (thn (ha pins s σ H _ I h) fun v s1 ⟨x, H1, I1, r1, q1⟩ => thn (hb pins s1 σ H1 _ I1 q1) fun u s2 ⟨y, H2, I2, r2, q2⟩ =>
    thn (ho pins s2 σ H2 x y v u _ I2 r1 r2 q2) fun c s3 ⟨z, H3, I3, r3, k, e, q3⟩ => ?_) hm
  subst e
  cases r3
  exact wpAny_truthy_bool ⟨H3, I3, q3⟩
/-- a op1 b op2 c -/
def tChain (r r' : R2) (ta tb tc : TE) : TE := fun σ H Q => ta σ H fun x H1 => tb σ H1 fun y H2 => r x y H2 fun z H3 => ∃ k, z = .bl k ∧
  (if k = true then tc σ H3 fun w' H4 => r' y w' H4 Q else Q (.bl false) H3)
/-! ### truth -/
/-- a value's truth by the abstract heap -/
def TruV (K : PySem.W.Frag) (x : V) (H : Hp) (k : Bool) : Prop :=
  match x with
  | .non => k = false
  | .bl b => k = b
  | .int i => k = (i != 0)
  | .str y => y.length ≤ sizeLine ∧ k = ((y.length : Int) != 0)
  | .byt y => y.size ≤ sizeLine ∧ k = ((y.size : Int) != 0)
  | .ref p => (∃ xs, SqL K H p xs ∧ k = !xs.isEmpty) ∨ (∃ xs, SqT K H p xs ∧ k = !xs.isEmpty) ∨ ∃ kvs, H p = some (.dK kvs) ∧ k = !kvs.isEmpty
  | _ => False
theorem line63 : (sizeLine : Nat) < 2 ^ 63 := by rw [sizeLine_eq]; decide
/-! ### strs and bytes -/
theorem op_add_str : OpR X (binaryOp .Add) (fun x y H Q => ∃ i j, x = .str i ∧ y = .str j ∧ i.length + j.length ≤ sizeLine ∧ Q (.str (i ++ j)) H) := by
  intro pins s σ H x y v u Q I rx ry h
  obtain ⟨i, j, rfl, rfl, hz, q⟩ := h
  obtain ⟨t, rfl⟩ := rx
  obtain ⟨t', rfl⟩ := ry
  exact add_str (fun t' tk => ⟨.str (i ++ j), H, I.tok _, ⟨_, rfl⟩, q⟩) hz
def PlainIxT (b : Expr) : Prop := ∀ o i, subscripted b false o i = operate [o, i] (getItem o i)
/-! ### scalar builtins, by CallR -/
theorem vals1 {x : V} {us : List Value} (r : Vals [x] us) : ∃ u, us = [u] ∧ RelV x u := by
  cases r with
  | cons r1 r2 => cases r2; exact ⟨_, rfl, r1⟩
theorem vals2 {x y : V} {us : List Value} (r : Vals [x, y] us) : ∃ u w', us = [u, w'] ∧ RelV x u ∧ RelV y w' := by
  cases r with
  | cons r1 r2 =>
    cases r2 with
    | cons r3 r4 => cases r4; exact ⟨_, _, rfl, r1, r3⟩
theorem call_int1 : CallR X (.type "int") (fun xs H Q => (∃ i, xs = [.int i] ∧ Q (.int i) H) ∨ ∃ k, xs = [.bl k] ∧ Q (.int (if k then 1 else 0)) H) := by
  intro pins s σ H xs us Q I r h
  rcases h with ⟨i, rfl, q⟩ | ⟨k, rfl, q⟩
  · obtain ⟨u, rfl, t, rfl⟩ := vals1 r
    exact call_int_int ⟨.int i, H, I, ⟨_, rfl⟩, q⟩
  · obtain ⟨u, rfl, r1⟩ := vals1 r
    cases r1
    exact call_int_bool ⟨.int (if k then 1 else 0), H, I.tok _, ⟨_, rfl⟩, q⟩
theorem call_str_int : CallR X (.type "str") (fun xs H Q => ∃ i, xs = [.int i] ∧ i.natAbs.log2 < 1920 ∧ Q (.str (toString i)) H) := by
  intro pins s σ H xs us Q I r h
  obtain ⟨i, rfl, hz, q⟩ := h
  obtain ⟨u, rfl, t, rfl⟩ := vals1 r
  exact PySem.P.str_of_int hz ⟨.str _, H, I.tok _, ⟨_, rfl⟩, q⟩
/-- len of a str, a bytes, a list, a tuple -/
def LenV (K : PySem.W.Frag) (x : V) (H : Hp) (n : Nat) : Prop :=
  match x with
  | .str y => y.length ≤ sizeLine ∧ n = y.length
  | .byt y => y.size ≤ sizeLine ∧ n = y.size
  | .ref p => (∃ xs, SqL K H p xs ∧ n = xs.length) ∨ ∃ xs, SqT K H p xs ∧ n = xs.length
  | _ => False
end
end L2

namespace L2
open PySem PySem.Spec PyProof.Rows

/-! ### an instance, its attributes a map -/
structure ObjM (h : Heap) (x dx C : Addr) (mA : Str → Option Value) : Prop where
  obj : h.get? x = some (PySem.W.instObj C dx)
  ns : h.Ns1 dx mA
  ne : dx ≠ x

theorem lookIn_ns {h : Heap} {dx : Addr} {mA : Str → Option Value} (n : h.Ns1 dx mA) : ∃ od, h.get? dx = some od ∧ ∀ name, PySem.W.lookIn name od = some (mA name) := by
  obtain ⟨o, es, ep, ho, hd, hk, _, hm⟩ := n
  refine ⟨o, ho, fun name => ?_⟩
  have e := hm name
  unfold nsFind findBy at e
  rw [← Array.find?_toList] at e
  unfold PySem.W.lookIn
  rw [hd]
  dsimp only
  split
  · rename_i y q
    rw [q] at e
    exact congrArg some e
  · rename_i q
    rw [q] at e
    have a : es.toList.any (·.refKey) = false := by
      rw [List.any_eq_false]
      intro y hy
      obtain ⟨z, t, hkey⟩ := hk y (Array.mem_toList_iff.mp hy)
      simp [DictEntry.refKey, hkey]
    have a' : ¬ es.toList.any (·.refKey) = true := by rw [a]; exact Bool.false_ne_true
    rw [if_neg a']
    exact congrArg some e

theorem ObjM.look {h : Heap} {x dx C : Addr} {mA : Str → Option Value} (I : ObjM h x dx C mA) : ∃ od, PySem.W.InstAt h x (PySem.W.instObj C dx) C (some od) ∧ ∀ name, PySem.W.lookIn name od = some (mA name) :=
  let ⟨od, ho, hl⟩ := lookIn_ns I.ns
  ⟨od, ⟨I.obj, rfl, rfl, ho⟩, hl⟩

section
variable {prog : Program} {w : World} {A : Around} {E : Value → Shared → Prop} {s : Shared} {K : PySem.W.Frag} {x dx C f : Addr} {mA : Str → Option Value} {name : Str} {v : Value}

end

/-! ### the attributes as a list of pairs -/
def putF (f : Str) (v : V) : List (Str × V) → List (Str × V)
  | [] => [(f, v)]
  | (g, x) :: r => if g = f then (g, v) :: r else (g, x) :: putF f v r
theorem RelO.some_of {v : V} {o : Option Value} (r : RelO (some v) o) : ∃ u, o = some u ∧ RelV v u := by
  cases o with
  | none => exact (show False from r).elim
  | some u => exact ⟨u, rfl, r⟩
section
variable {P : Program} {w : World} {H H' : Hp} {h h' : Heap} {a C dx : Addr} {fs fs' : List (Str × V)}
theorem ins_get (hok : HOk P w H h) (e : H a = some (.ins C dx fs)) : ∃ mA, ObjM h a dx C mA ∧ (∀ f, RelO (fs.lookup f) (mA f)) ∧ PySem.Within mA (fs.map (·.1)) ∧ fs.length ≤ 1000 ∧ H dx = some (.own a) := by
  obtain ⟨d, z, ne, ob, mA, n, r, q⟩ := (show ObjOk P w H h a (.ins C dx fs) from hok a _ e)
  exact ⟨mA, ⟨ob, n, ne⟩, r, q, z, d⟩
end

/-! ### what of the text a class must have -/
structure Cls (K : PySem.W.Frag) (C : Addr) : Prop where
  pg : PySem.W.plainGet K C Str.empty = true
  hd : PySem.W.hasDictIn K C = true
  po : PySem.W.plainOver K C = true
  sa : PySem.W.findIn K (.ref C) "__setattr__" = some (some (.builtin "object.__setattr__"))
theorem Cls.get {K : PySem.W.Frag} {C : Addr} (c : Cls K C) (f : Str) : PySem.W.plainGet K C f = true := c.pg
/-- no class of it has the name -/
def NoAttr (K : PySem.W.Frag) (C : Addr) (f : Str) : Prop := PySem.W.findIn K (.ref C) f = some none
/-- a constant of the class -/
structure Con (K : PySem.W.Frag) (C : Addr) (f : Str) (v : V) (u : Value) : Prop where
  at_ : PySem.W.findIn K (.ref C) f = some (some u)
  rel : RelV v u
  get : PySem.W.specialIn K u "__get__" = some none
  cp : PySem.W.copiedNames.contains f = false
/-- a method: a plain def of the class or of one above it -/
structure Meth (K : PySem.W.Frag) (C : Addr) (m : Str) (f : Addr) : Prop where
  at_ : PySem.W.findIn K (.ref C) m = some (some (.ref f))
  fn : PySem.W.isFn K (.ref f) = true
  kp : PySem.W.keepIn K (.ref f) = true

section
variable {X : Cx} {pins : List (Addr × Obj)} {σ : St} {H : Hp} {s : Shared} {a C dx : Addr} {fs : List (Str × V)} {f : Str} {v : V} {A : Around} {E : Value → Shared → Prop}

/-- a new instance, tracked, without attributes -/
theorem Inv.made (I : Inv X pins σ H s) : Inv X pins σ (upd (upd H s.heap.objs.size (.own (s.heap.objs.size + 1))) (s.heap.objs.size + 1) (.ins C s.heap.objs.size []))
    { s with heap := (s.heap.push PySem.W.emptyDict).push (PySem.W.instObj C s.heap.objs.size) } := by
  have e1 : (s.heap.push PySem.W.emptyDict).get? s.heap.objs.size = some PySem.W.emptyDict := Heap.get?_push_size s.heap rfl
  have e2 : ((s.heap.push PySem.W.emptyDict).push (PySem.W.instObj C s.heap.objs.size)).get? (s.heap.objs.size + 1) = some (PySem.W.instObj C s.heap.objs.size) := by
    have := Heap.get?_push_size (s.heap.push PySem.W.emptyDict) (o := PySem.W.instObj C s.heap.objs.size) rfl
    rwa [Heap.size_push] at this
  have e3 : (s.heap.push PySem.W.emptyDict).Ns s.heap.objs.size (fun _ => none) := ⟨PySem.W.emptyDict, #[], _, e1, rfl, (fun e he => absurd he (by simp)), fun _ => rfl⟩
  have I1 := I.laid (a := s.heap.objs.size) (o := .own (s.heap.objs.size + 1)) (h' := s.heap.push PySem.W.emptyDict) (t' := s.toks) (fun b u q => Heap.get?_push_of_some _ q) (Nat.le_refl _) ⟨_, e1⟩
  refine I1.laid (a := s.heap.objs.size + 1) (o := .ins C s.heap.objs.size []) (t' := s.toks) (fun b u q => Heap.get?_push_of_some _ q) (Nat.le_of_eq (Heap.size_push _ _)) ?_
  have ne : s.heap.objs.size ≠ s.heap.objs.size + 1 := Nat.ne_of_lt (Nat.lt_succ_self _)
  refine ⟨by rw [upd_ne ne, upd_same], Nat.zero_le _, ne, e2, fun _ => none, (Heap.Ns1.of_empty e3).at fun o q => Heap.get?_push_of_some _ q, fun _ => True.intro, fun y hy => absurd rfl hy⟩

end

/-! ### readings and rules -/
/-- e.f, an attribute of the instance -/
def tFld (K : PySem.W.Frag) (ta : TE) (f : Str) : TE := fun σ H Q => ta σ H fun x H1 => ∃ a C dx fs v, x = .ref a ∧ H1 a = some (.ins C dx fs) ∧ Cls K C ∧ NoAttr K C f ∧ fs.lookup f = some v ∧ Q v H1
/-- e.f, a constant of the class -/
def tCon (K : PySem.W.Frag) (ta : TE) (f : Str) : TE := fun σ H Q => ta σ H fun x H1 => ∃ a C dx fs v u, x = .ref a ∧ H1 a = some (.ins C dx fs) ∧ Cls K C ∧ Con K C f v u ∧ fs.lookup f = none ∧ Q v H1
/-- e.f = value -/
def sFld (K : PySem.W.Frag) (ta tv : TE) (f : Str) : TS := fun D σ H => tv σ H fun y H1 => ta σ H1 fun x H2 => ∃ a C dx fs, x = .ref a ∧ H2 a = some (.ins C dx fs) ∧ Cls K C ∧ NoAttr K C f ∧ fs.length < 1000 ∧
  D.nx σ (upd H2 a (.ins C dx (putF f y fs)))
/-- an augmented operator on two values -/
def InOp (X : Cx) (op : Operator) (rd : V → V → Hp → VK → Prop) : Prop :=
  ∀ (pins : List (Addr × Obj)) (s : Shared) (σ : St) (H : Hp) (x y : V) (u v : Value) (Q : VK), Inv X pins σ H s → RelV x u → RelV y v → rd x y H Q → wpAny (model X.prog X.w) X.A (inplaceOp op u v) (EP X pins σ Q) X.xe s
/-- e.f op= value -/
def sFldAug (K : PySem.W.Frag) (ta tv : TE) (rd : V → V → Hp → VK → Prop) (f : Str) : TS := fun D σ H => ta σ H fun x H1 => ∃ a C dx fs v, x = .ref a ∧ H1 a = some (.ins C dx fs) ∧ Cls K C ∧ NoAttr K C f ∧ fs.lookup f = some v ∧
  tv σ H1 fun y H2 => rd v y H2 fun z H3 => ∃ dx' fs', H3 a = some (.ins C dx' fs') ∧ fs'.length < 1000 ∧ D.nx σ (upd H3 a (.ins C dx' (putF f z fs')))

section
variable {X : Cx} {o e value : Expr} {f : Str} {pos pos' tpos : Pos} {ta tv : TE}
def rAdd : V → V → Hp → VK → Prop := fun x y H Q => ∃ i j, x = .int i ∧ y = .int j ∧ Q (.int (i + j)) H
def rSub : V → V → Hp → VK → Prop := fun x y H Q => ∃ i j, x = .int i ∧ y = .int j ∧ Q (.int (i - j)) H
end

/-! ### isinstance -/
section
variable {X : Cx} {pins : List (Addr × Obj)} {σ : St} {H : Hp} {s : Shared} {A : Around} {E : Value → Shared → Prop} {Q : Value → Shared → Prop} {c : Value} {b : Bool}
/-- the type of a value, as the fragment's deciders take it; for an instance its class -/
inductive TyOf (K : PySem.W.Frag) (H : Hp) : V → Value → Prop where
  | non : TyOf K H .non (.type "NoneType")
  | bl (x : Bool) : TyOf K H (.bl x) (.type "bool")
  | int (i : Int) : TyOf K H (.int i) (.type "int")
  | str (x : Str) : TyOf K H (.str x) (.type "str")
  | flt (x : UInt64) : TyOf K H (.flt x) (.type "float")
  | lst {a : Addr} {xs : List V} (e : H a = some (.lst xs)) : TyOf K H (.ref a) (.type "list")
  | frz {a : Addr} {o : Obj} {xs : List V} (e : H a = some (.frz o (.lst xs))) : TyOf K H (.ref a) (.type "list")
  | tup {a : Addr} {xs : List V} (e : H a = some (.tup xs)) : TyOf K H (.ref a) (.type "tuple")
  | dK {a : Addr} {kvs : List (Key × V)} (e : H a = some (.dK kvs)) : TyOf K H (.ref a) (.type "dict")
  | dT {a : Addr} {kvs : List (List Key × V)} (e : H a = some (.dT kvs)) : TyOf K H (.ref a) (.type "dict")
  | ins {a C dx : Addr} {fs : List (Str × V)} (e : H a = some (.ins C dx fs)) (cl : Cls K C) (ha : PySem.W.findIn K (.ref C) "__class__" = some (some (.builtin "object.__class__")))
      (hn : PySem.W.specialIn K (.builtin "object.__class__") "__get__" = some (some (.builtin "getset_descriptor.__get__"))) (htk : PySem.W.takesIn K (.builtin "object.__class__") = some true)
      (hm : PySem.W.mroIn K C (.type "object") = some true) : TyOf K H (.ref a) (.ref C)
/-- isinstance(x, c) for one class c, a built-in or an own one: kitOne's answer -/
theorem isinst_ok {x : V} {u t : Value} (I : Inv X pins σ H s) (rx : RelV x u) (ty : TyOf X.K H x t) (e : PySem.W.kitOne X.K t c = some b) (h : ∀ tk, Q (.bool b) { s with toks := tk }) :
    wpAny (model X.prog X.w) A (call (.builtin "isinstance") [u, c]) Q E s := by
  cases ty with
  | non => cases (show u = Value.none from rx); exact PySem.W.kia_one PySem.W.kitx_none I.kIn True.intro e (fun z => nomatch z) h
  | bl y => cases (show u = Value.bool y from rx); exact PySem.W.kia_one PySem.W.kitx_bool I.kIn True.intro e (fun z => nomatch z) h
  | int i => obtain ⟨t, q⟩ := (show ∃ t, u = Value.int i t from rx); cases q; exact PySem.W.kia_one PySem.W.kitx_int I.kIn True.intro e (fun z => nomatch z) h
  | str y => obtain ⟨t, q⟩ := (show ∃ t, u = Value.str y t from rx); cases q; exact PySem.W.kia_one PySem.W.kitx_str I.kIn True.intro e (fun z => nomatch z) h
  | flt y => obtain ⟨t, q⟩ := (show ∃ t, u = Value.float y t from rx); cases q; exact PySem.W.kia_one PySem.W.kitx_float I.kIn True.intro e (fun z => nomatch z) h
  | @lst a xs ea =>
    cases (show u = Value.ref a from rx)
    obtain ⟨_, _, n, _, h1⟩ := (show ObjOk X.prog X.w H s.heap a (.lst xs) from I.hok a _ ea)
    exact PySem.W.kia_one PySem.W.kitx_list I.kIn ⟨_, h1, rfl⟩ e (fun z => nomatch z) h
  | @frz a ob xs ea =>
    cases (show u = Value.ref a from rx)
    obtain ⟨_, _, _, n, _, h1⟩ := (show ObjOk X.prog X.w H s.heap a (.frz ob (.lst xs)) from I.hok a _ ea)
    exact PySem.W.kia_one PySem.W.kitx_list I.kIn ⟨_, h1, rfl⟩ e (fun z => nomatch z) h
  | @tup a xs ea =>
    cases (show u = Value.ref a from rx)
    obtain ⟨_, _, _, p⟩ := (show ObjOk X.prog X.w H s.heap a (.tup xs) from I.hok a _ ea)
    obtain ⟨o, h1, h2, _⟩ := p
    exact PySem.W.kia_one PySem.W.kitx_tuple I.kIn ⟨o, h1, h2⟩ e (fun z => nomatch z) h
  | @dK a kvs ea =>
    cases (show u = Value.ref a from rx)
    obtain ⟨_, _, vs, _, p⟩ := (show ObjOk X.prog X.w H s.heap a (.dK kvs) from I.hok a _ ea)
    obtain ⟨o, es, ep, h1, h2, _⟩ := p
    exact PySem.W.kia_one PySem.W.kitx_dict I.kIn ⟨o, h1, h2.1⟩ e (fun z => nomatch z) h
  | @dT a kvs ea =>
    cases (show u = Value.ref a from rx)
    obtain ⟨_, _, xs, _, o, es, ep, h1, h2, _⟩ := (show ObjOk X.prog X.w H s.heap a (.dT kvs) from I.hok a _ ea)
    exact PySem.W.kia_one PySem.W.kitx_dict I.kIn ⟨o, h1, h2.1⟩ e (fun z => nomatch z) h
  | @ins a C dx fs ea cl ha hn htk hm =>
    cases (show u = Value.ref a from rx)
    obtain ⟨mA, O, _⟩ := ins_get I.hok ea
    obtain ⟨od, J, _⟩ := O.look
    exact PySem.W.kia_one (PySem.W.kitx_own (cl.get _) cl.hd ha hn htk hm) I.kIn J e (fun z => nomatch z) h
end
end L2

namespace L2
open PySem PySem.Spec PyProof.Rows

/-! ### room -/
structure Room (k : Nat) (A : Around) : Prop where
  hd : A.handled = none
  dp : A.depth + 3 * k + 5 < recursionLimit
  un : A.units + 16 * k + 200 < cLine
theorem Room.mono {j k : Nat} {A : Around} (r : Room k A) (h : j ≤ k) : Room j A := ⟨r.hd, by have := r.dp; omega, by have := r.un; omega⟩
theorem Room.deeper {k : Nat} {A : Around} (r : Room (k + 1) A) (env : Env) : Room k (A.deeper env) :=
  ⟨r.hd, by have := r.dp; show A.depth + 1 + 3 * k + 5 < _; omega, by have := r.un; show A.units + 3 + 16 * k + 200 < _; omega⟩
theorem Room.in1 {k : Nat} {A : Around} (r : Room (k + 1) A) : Room k A.in1 :=
  ⟨r.hd, by have := r.dp; show A.depth + 3 * k + 5 < _; omega, by have := r.un; show A.units + 1 + 16 * k + 200 < _; omega⟩
theorem make_depth {A : Around} {C : Addr} {us : List Value} {kw : List (Str × Value)} : (A.under (.builtin "type.__call__" ⟨.ref C :: us, kw⟩)).depth = A.depth + 1 := by
  first | rfl | simp [Around.under, Code.weight, Code.isCreation, Code.isGuard, Code.isCaller, Code.frames, Code.isFrame, guardIds]
theorem make_units {A : Around} {C : Addr} {us : List Value} {kw : List (Str × Value)} : (A.under (.builtin "type.__call__" ⟨.ref C :: us, kw⟩)).units = A.units + 1 := by
  first | rfl | simp [Around.under, Code.cUnits, Code.frames, Code.isFrame]
theorem Room.make {k : Nat} {A : Around} (r : Room (k + 1) A) (C : Addr) (us : List Value) (kw : List (Str × Value)) : Room k (A.under (.builtin "type.__call__" ⟨.ref C :: us, kw⟩)) :=
  ⟨r.hd, by have := r.dp; rw [make_depth]; omega, by have := r.un; rw [make_units]; omega⟩
theorem Room.depth {k : Nat} {A : Around} (r : Room k A) : A.depth < recursionLimit := by have := r.dp; omega
theorem Room.units {k : Nat} {A : Around} (r : Room k A) : A.units + 64 < cLine := by have := r.un; omega
/-! ### argument lists and displays -/
def tNil : TA := fun _ H Q => Q [] H
def tCons (ta : TE) (tr : TA) : TA := fun σ H Q => ta σ H fun x H1 => tr σ H1 fun xs H2 => Q (x :: xs) H2
section
variable {X : Cx} {e : Expr} {es : List Expr} {te : TE} {t : TA} {pos : Pos}
theorem pa_nil : PA X [] tNil := fun _ _ _ _ H Q I h => Calls.spliced_nil ⟨[], H, I, .nil, h⟩
theorem pa_cons (ha : PE X e te) (hr : PA X es t) (hs : starEach (e :: es) X.env = (false, eval e X.env) :: starEach es X.env := by rfl) : PA X (e :: es) (tCons te t) := by
  intro pos pins s σ H Q I h
  rw [hs]
  show wpAny _ _ (spliced ((false, eval e X.env) :: backTo pos (starEach es X.env))) _ _ s
  refine Calls.spliced_cons (thn (ha pins s σ H _ I h) fun u s1 ⟨x, H1, I1, r1, q1⟩ => ?_)
  exact thn (hr pos pins s1 σ H1 _ I1 q1) fun us s2 ⟨xs, H2, I2, r2, q2⟩ => ⟨x :: xs, H2, I2, .cons r1 r2, q2⟩

/-- a tuple, a list of written items -/
def tTup (t : TA) : TE := fun σ H Q => t σ H fun xs H1 => xs.length ≤ sizeLine ∧ ∀ p, H1 p = none → Q (.ref p) (upd H1 p (.tup xs))
def tLst (t : TA) : TE := fun σ H Q => t σ H fun xs H1 => xs.length ≤ sizeLine ∧ ∀ p, H1 p = none → Q (.ref p) (upd H1 p (.lst xs))
theorem pe_tup {x1} (h : PA X es t) : PE X (.Tuple es x1 pos) (tTup t) := by
  intro pins s σ H Q I hq
  refine wpAny_Tuple_spliced (thn (h pos pins s σ H _ I hq) fun us s1 ⟨xs, H1, I1, r, z, q⟩ => ⟨by rw [← r.length]; exact z, ?_⟩)
  have hf : H1 s1.heap.objs.size = none := I1.hok.fresh (Nat.le_refl _)
  refine ⟨.ref s1.heap.objs.size, upd H1 s1.heap.objs.size (.tup xs), I1.laid (t' := s1.toks) (fun b u e => Heap.get?_push_of_some _ e) (Nat.le_refl _) ?_, rfl, q _ hf⟩
  exact ⟨z, us, r, ⟨_, Heap.get?_push_size _ rfl, rfl, _, rfl⟩⟩
theorem pe_lst (h : PA X es t) : PE X (.List es pos) (tLst t) := by
  intro pins s σ H Q I hq
  refine wpAny_List_spliced (thn (h pos pins s σ H _ I hq) fun us s1 ⟨xs, H1, I1, r, z, q⟩ => ⟨by rw [← r.length]; exact z, ?_⟩)
  have hf : H1 s1.heap.objs.size = none := I1.hok.fresh (Nat.le_refl _)
  refine ⟨.ref s1.heap.objs.size, upd H1 s1.heap.objs.size (.lst xs), I1.laid (t' := s1.toks) (fun b u e => Heap.get?_push_of_some _ e) (Nat.le_refl _) ?_, rfl, q _ hf⟩
  exact ⟨z, us, 0, r, Heap.get?_push_size _ rfl⟩
end

/-! ### what a def promises -/
/-- a def's promise: the bound arguments in the parameters' order, the heap, the wanted end, the wanted exception -/
abbrev Sp := List V → Hp → VK → XK → Prop
/-- how an exception lies behind a call (file 08 gives it): the callers' frames, abstract heap and state ahead of the call, the wish, the exception, the state -/
abbrev CXT := List Env → Hp → Shared → XK → Value → Shared → Prop

/-- the state at a call -/
structure Env0 (P : Program) (w : World) (K : PySem.W.Frag) (mg : Str → Option Value) (base : Heap) (A : Around) (outer : List Env) (s : Shared) (H : Hp) : Prop where
  frames : A.frames = some outer
  mod : Mod K mg base
  bs : ∀ b o, base.get? b = some o → s.heap.get? b = some o ∧ H b = none
  bsz : base.objs.size ≤ s.heap.objs.size
  funs : s.heap.FunFrames base outer
  frf : ∀ b ∈ frs outer, H b = none
  hok : HOk P w H s.heap
  bare : AllBare s.gens
/-- a call's end -/
def CE (outer : List Env) (P : Program) (w : World) (H : Hp) (s : Shared) (Q : VK) (u : Value) (s' : Shared) : Prop :=
  ∃ v H', s'.os = s.os ∧ AllBare s'.gens ∧ Un (frs outer) [] H H' s.heap s'.heap ∧ HOk P w H' s'.heap ∧ RelV v u ∧ Q v H'
def CR (CX : CXT) (outer : List Env) (P : Program) (w : World) (H : Hp) (s : Shared) (Q : VK) (E : XK) (r : Result) (s' : Shared) : Prop :=
  match r with
  | .ok (.ret u) => CE outer P w H s Q u s'
  | .ok _ => False
  | .error e => CX outer H s E e s'
structure FnOk (P : Program) (w : World) (K : PySem.W.Frag) (mg : Str → Option Value) (base : Heap) (CX : CXT) (k : Nat) (f : Addr) (fd : FuncData) (ps : List Str) (sp : Sp) : Prop where
  len : ∀ vs H Q E, sp vs H Q E → vs.length = ps.length
  run : ∀ (A : Around) (outer : List Env) (s : Shared) (H : Hp) (args : Args) (us : List Value) (vs : List V) (Q : VK) (E : XK), Room k A → Env0 P w K mg base A outer s H → BindsTo s fd args (ps.zip us) → Vals vs us → sp vs H Q E →
    codeAny (model P w) A (.call (.ref f) args) (CR CX outer P w H s Q E) s
theorem FnOk.mono {P : Program} {w : World} {K : PySem.W.Frag} {mg : Str → Option Value} {base : Heap} {CX : CXT} {j k : Nat} {f : Addr} {fd : FuncData} {ps : List Str} {sp : Sp} (F : FnOk P w K mg base CX j f fd ps sp) (h : j ≤ k) :
    FnOk P w K mg base CX k f fd ps sp := ⟨F.len, fun A outer s H args us vs Q E hr => F.run A outer s H args us vs Q E (hr.mono h)⟩
/-- a weaker promise -/
theorem FnOk.imp {P : Program} {w : World} {K : PySem.W.Frag} {mg : Str → Option Value} {base : Heap} {CX : CXT} {k : Nat} {f : Addr} {fd : FuncData} {ps : List Str} {sp sp' : Sp} (F : FnOk P w K mg base CX k f fd ps sp)
    (h : ∀ vs H Q E, sp' vs H Q E → sp vs H Q E) : FnOk P w K mg base CX k f fd ps sp' :=
  ⟨fun vs H Q E q => F.len vs H Q E (h _ _ _ _ q), fun A outer s H args us vs Q E hr he hb hv hs => F.run A outer s H args us vs Q E hr he hb hv (h _ _ _ _ hs)⟩

theorem Env0.make {P : Program} {w : World} {K : PySem.W.Frag} {mg : Str → Option Value} {base : Heap} {A : Around} {outer : List Env} {s : Shared} {H : Hp} (e : Env0 P w K mg base A outer s H) (C : Addr) (us : List Value) (kw : List (Str × Value)) :
    Env0 P w K mg base (A.under (.builtin "type.__call__" ⟨.ref C :: us, kw⟩)) outer s H := ⟨by first | exact e.frames | (simpa [Around.under, Code.envs, Code.isFrame, pushEnvs] using e.frames), e.mod, e.bs, e.bsz, e.funs, e.frf, e.hok, e.bare⟩
theorem Env0.in1 {P : Program} {w : World} {K : PySem.W.Frag} {mg : Str → Option Value} {base : Heap} {A : Around} {outer : List Env} {s : Shared} {H : Hp} (e : Env0 P w K mg base A outer s H) :
    Env0 P w K mg base A.in1 outer s H := ⟨e.frames, e.mod, e.bs, e.bsz, e.funs, e.frf, e.hok, e.bare⟩

section
variable {X : Cx} {pins : List (Addr × Obj)} {σ : St} {H : Hp} {s s' : Shared}
/-- from a body: what a callee wants -/
theorem Inv.env0 (I : Inv X pins σ H s) : Env0 X.prog X.w X.K X.mg X.base X.A X.stack s H :=
  ⟨I.ok.frames, I.ok.mod, I.bs, Nat.le_trans I.ok.bsz I.sz, I.stack, I.stkFree, I.hok, I.bare⟩
/-- behind a call -/
theorem Inv.after {Q : VK} {u : Value} (I : Inv X pins σ H s) (h : CE X.stack X.prog X.w H s Q u s') : EP X pins σ Q u s' := by
  obtain ⟨v, H', os, bare, un, hok, r, q⟩ := h
  obtain ⟨hh, g, d, t, os'⟩ := s'
  obtain rfl : os' = s.os := os
  exact ⟨v, H', I.call (h' := hh) (g' := g) (d' := d) (t' := t) (ch := []) un hok bare (fun b z => absurd z (by simp)), r, q⟩
end

/-! ### calls -/
/-- f(..): the written arguments, then the defaults dvs; E: what is wanted of an exception -/
def tCall (sp : Sp) (dvs : List V) (E : XK) (t : TA) : TE := fun σ H Q => t σ H fun vs H1 => sp (vs ++ dvs) H1 Q E
/-- o.m(..) of an instance of the class at C -/
def tMeth (C : Addr) (m : Str) (sp : Sp) (dvs : List V) (E : XK) (ta : TE) (t : TA) : TE := fun σ H Q => ta σ H fun x H1 => ∃ a dx fs, x = .ref a ∧ H1 a = some (.ins C dx fs) ∧ fs.lookup m = none ∧
  t σ H1 fun vs H2 => sp (x :: (vs ++ dvs)) H2 Q E
/-- C(..): a new instance and its dict, then __init__ -/
def tMake (C : Addr) (sp : Sp) (dvs : List V) (E : XK) (t : TA) : TE := fun σ H Q => t σ H fun vs H1 => ∀ x dx, H1 x = none → H1 dx = none → dx ≠ x →
  sp (.ref x :: (vs ++ dvs)) (upd (upd H1 dx (.own x)) x (.ins C dx [])) (fun v H2 => v = .non ∧ Q (.ref x) H2) E

/-- how the parameters are bound: us the positional arguments, kw the keywords' values by name, ds the defaults that fill up -/
def Binds (K : PySem.W.Frag) (fd : FuncData) (ps : List Str) (ds : List Value) : Prop :=
  ∀ (s : Shared) (us : List Value), K.In s.heap → (us ++ ds).length = ps.length → BindsTo s fd ⟨us, []⟩ (ps.zip (us ++ ds))
/-- every parameter is given -/
theorem Binds.all {K : PySem.W.Frag} {fd : FuncData} {ps : List Str} (h : ∀ us : List Value, us.length = ps.length → bindArgs fd ⟨us, []⟩ = pure (ps.zip us)) : Binds K fd ps [] := fun s us _ hl => by
  rw [List.append_nil] at hl ⊢
  exact .of_eq (h us hl)

/-- an exception of a callee reaches what this body wants of exceptions -/
def Passes (CX : CXT) (X : Cx) (E : XK) : Prop := ∀ (pins : List (Addr × Obj)) (σ : St) (H : Hp) (s : Shared) (e : Value) (s' : Shared), Inv X pins σ H s → CX X.stack H s E e s' → X.xe e s'

section
variable {X : Cx} {CX : CXT} {k : Nat} {f C : Addr} {fd : FuncData} {ps : List Str} {sp : Sp} {dvs : List V} {ds : List Value} {E : XK} {x m : Str} {p pos apos : Pos} {e o : Expr} {es : List Expr} {ta : TE} {t : TA}

/-- the callee runs -/
theorem run_fn {pins : List (Addr × Obj)} {σ : St} {H : Hp} {s : Shared} {Q : VK} {us : List Value} {vs : List V} (F : FnOk X.prog X.w X.K X.mg X.base CX k f fd ps sp) (hr : Room k X.A) (hb : Binds X.K fd ps ds) (hd : Vals dvs ds) (hx : Passes CX X E)
    (I : Inv X pins σ H s) (r : Vals vs us) (h : sp (vs ++ dvs) H Q E) : wpAny (model X.prog X.w) X.A (call (.ref f) us) (EP X pins σ Q) X.xe s := by
  have r2 : Vals (vs ++ dvs) (us ++ ds) := r.append hd
  have hl : (us ++ ds).length = ps.length := by rw [← r2.length]; exact F.len _ _ _ _ h
  refine wpAny_call (codeAny_mono (F.run X.A X.stack s H ⟨us, []⟩ (us ++ ds) (vs ++ dvs) Q E hr I.env0 (hb s us I.kIn hl) r2 h) fun r s' hq => ?_)
  cases r with
  | error e => exact hx pins σ H s e s' I hq
  | ok fl =>
    cases fl with
    | ret u => exact I.after hq
    | next => exact False.elim hq
    | brk => exact False.elim hq
    | cont => exact False.elim hq

theorem pe_call (F : FnOk X.prog X.w X.K X.mg X.base CX k f fd ps sp) (hr : Room k X.A) (hg : Gl X x) (hm : X.mg x = some (.ref f)) (hk : PySem.W.keepIn X.K (.ref f) = true) (hb : Binds X.K fd ps ds) (hd : Vals dvs ds) (hx : Passes CX X E)
    (ha : PA X (e :: es) t) (hdb : (x == ("__debug__" : Str)) = false := by decide) (he : starEach (e :: es) X.env = (false, eval e X.env) :: starEach es X.env := by rfl) (hpl : (backTo pos (starEach es X.env)).any (·.1) = false := by rfl) :
    PE X (.Call (.Name x p) (e :: es) [] pos) (tCall sp dvs E t) := by
  intro pins s σ H Q I h
  refine wpAny_Call_Name_kw (ld_glob I hg hm ?_ hdb)
  refine PySem.W.callWith_K (h₀ := X.base) I.ok.mod.kin hk (thn (ha pos pins s σ H _ I h) fun us s1 ⟨vs, H1, I1, r, q⟩ => ⟨I1.kIn, ?_⟩) he hpl
  exact run_fn F hr hb hd hx I1 r q
/-- what a class must have to be made -/
structure Mk (K : PySem.W.Frag) (C f : Addr) : Prop where
  makes : PySem.W.makesIn K C = true
  init : PySem.W.findIn K (.ref C) "__init__" = some (some (.ref f))
  fn : PySem.W.isFn K (.ref f) = true
  kp : PySem.W.keepIn K (.ref C) = true

end

/-! ### keywords -/
/-- the values of the keywords, from the left -/
def PK (X : Cx) (kws : List Keyword) (t : TA) : Prop :=
  ∀ (pos : Pos) (pins : List (Addr × Obj)) (s : Shared) (σ : St) (H : Hp) (Q : List V → Hp → Prop), Inv X pins σ H s → t σ H Q → wpAny (model X.prog X.w) X.A (evalAll ((backToKw pos (keywordEach kws X.env)).map (·.2))) (AP X pins σ Q) X.xe s
section
variable {X : Cx} {CX : CXT} {k : Nat} {f C : Addr} {fd : FuncData} {ps ks : List Str} {sp : Sp} {E : XK} {x m : Str} {p pos apos kpos : Pos} {e o : Expr} {es : List Expr} {kws : List Keyword} {te ta : TE} {t tk : TA} {nm : Option Str}
/-- how a call with keywords binds: g puts the positional values us and the keywords' values ws (names ks) in the parameters' order, defaults among them -/
structure KBinds (K : PySem.W.Frag) (fd : FuncData) (ps ks : List Str) (g : List Value → List Value → List Value) (gV : List V → List V → List V) : Prop where
  to : ∀ (s : Shared) (us ws : List Value), K.In s.heap → (g us ws).length = ps.length → BindsTo s fd ⟨us, ks.zip ws⟩ (ps.zip (g us ws))
  rel : ∀ {vs : List V} {us : List Value} {zs : List V} {ws : List Value}, Vals vs us → Vals zs ws → Vals (gV vs zs) (g us ws)
def tCallK (sp : Sp) (gV : List V → List V → List V) (E : XK) (t tk : TA) : TE := fun σ H Q => t σ H fun vs H1 => tk σ H1 fun zs H2 => sp (gV vs zs) H2 Q E
variable {g : List Value → List Value → List Value} {gV : List V → List V → List V}
end

/-! ### a def's body keeps its promise -/
/-- names: the parameters first -/
structure FnScope (N P : List Str) (sc : Scope) : Prop where
  kind : sc.kind = .function
  co : sc.isCoroutine = false
  gen : sc.isGenerator = false
  nd : N.Nodup
  pre : N.take P.length = P
  par : ∀ x ∈ P, sc.names.lookup x = some .local ∨ sc.names.lookup x = some .cell
  nofree : ∀ y ∈ sc.names, y.2 ≠ .free

theorem bindL_out {kindOf : Str → Option NameKind} {x : Str} : ∀ {binds : List (Str × Value)} {m : Str → Option Value}, (∀ v, (x, v) ∉ binds) → bindL kindOf binds m x = m x
  | [], _, _ => rfl
  | (n, v) :: r, m, h => by
    unfold bindL
    rw [bindL_out fun w hw => h w (List.mem_cons_of_mem _ hw)]
    split
    · have : x ≠ n := by rintro rfl; exact h v List.mem_cons_self
      simp [this]
    · rfl
theorem bindC_out {kindOf : Str → Option NameKind} {x : Str} : ∀ {binds : List (Str × Value)} {m : Str → Option Value}, (∀ v, (x, v) ∉ binds) → bindC kindOf binds m x = m x
  | [], _, _ => rfl
  | (n, v) :: r, m, h => by
    unfold bindC
    rw [bindC_out fun w hw => h w (List.mem_cons_of_mem _ hw)]
    split
    · rfl
    · have : x ≠ n := by rintro rfl; exact h v List.mem_cons_self
      simp [this]
theorem bindL_get {kindOf : Str → Option NameKind} {x : Str} {v : Value} : ∀ {P : List Str} {vs : List Value} {i : Nat} {m : Str → Option Value}, P.Nodup → P[i]? = some x → vs[i]? = some v → kindOf x = some .local →
    bindL kindOf (P.zip vs) m x = some v
  | [], _, _, _, _, h, _, _ => by simp at h
  | _ :: _, [], _, _, _, _, h, _ => by simp at h
  | p :: P, w :: vs, 0, m, nd, h1, h2, hk => by
    simp at h1 h2; subst h1; subst h2
    show bindL kindOf ((p, w) :: P.zip vs) m p = _
    unfold bindL
    rw [bindL_out fun v hv => (List.nodup_cons.mp nd).1 (List.of_mem_zip hv).1, if_pos hk]
    simp
  | p :: P, w :: vs, i + 1, m, nd, h1, h2, hk => by
    show bindL kindOf ((p, w) :: P.zip vs) m x = _
    unfold bindL
    exact bindL_get (i := i) (List.nodup_cons.mp nd).2 (by simpa using h1) (by simpa using h2) hk
theorem bindC_get {kindOf : Str → Option NameKind} {x : Str} {v : Value} : ∀ {P : List Str} {vs : List Value} {i : Nat} {m : Str → Option Value}, P.Nodup → P[i]? = some x → vs[i]? = some v → kindOf x ≠ some .local →
    bindC kindOf (P.zip vs) m x = some v
  | [], _, _, _, _, h, _, _ => by simp at h
  | _ :: _, [], _, _, _, _, h, _ => by simp at h
  | p :: P, w :: vs, 0, m, nd, h1, h2, hk => by
    simp at h1 h2; subst h1; subst h2
    show bindC kindOf ((p, w) :: P.zip vs) m p = _
    unfold bindC
    rw [bindC_out fun v hv => (List.nodup_cons.mp nd).1 (List.of_mem_zip hv).1, if_neg hk]
    simp
  | p :: P, w :: vs, i + 1, m, nd, h1, h2, hk => by
    show bindC kindOf ((p, w) :: P.zip vs) m x = _
    unfold bindC
    exact bindC_get (i := i) (List.nodup_cons.mp nd).2 (by simpa using h1) (by simpa using h2) hk

/-- the names' values at the entry -/
def start (N : List Str) (vs : List V) : St := vs.map some ++ List.replicate (N.length - vs.length) none

/-- the context of a def's body, at its entry; an exception leaves the frame, then lies as CX says -/
def cxOf (CX : CXT) (P : Program) (w : World) (K : PySem.W.Frag) (mg : Str → Option Value) (base : Heap) (N : List Str) (qual : Str) (scope : Scope) (f : Addr) (cd : Value) (A : Around) (outer : List Env) (s : Shared) (H : Hp) (E : XK) : Cx where
  prog := P
  w := w
  K := K
  mg := mg
  base := base
  A := A.deeper (envOfC qual scope s.heap.objs.size f cd)
  N := N
  s₀ := s
  H₀ := H
  env := envOfC qual scope s.heap.objs.size f cd
  outer := outer
  stack := envOfC qual scope s.heap.objs.size f cd :: outer
  ex := []
  calm := true
  fn := fun _ => true
  pn := []
  xe := fun e s' => wpAny (model P w) (A.deeper (envOfC qual scope s.heap.objs.size f cd)) (leaving (envOfC qual scope s.heap.objs.size f cd) e) (fun _ s'' => CX outer H s E e s'') (fun e' s'' => CX outer H s E e' s'') s'

theorem cell_has {sc : Scope} {n : Nat} {x : Str} (h : sc.names.lookup x = some .cell) : ∃ c, (cellsFrom n sc.names []).lookup x = some c := by
  have q := PySem.W.cellsFrom_some sc.names n [] (.inl h)
  exact Option.isSome_iff_exists.mp q

theorem inv_start {CX : CXT} {P : Program} {w : World} {K : PySem.W.Frag} {mg : Str → Option Value} {base : Heap} {N ps : List Str} {qual : Str} {scope : Scope} {f : Addr} {cd : Value} {A : Around} {outer : List Env} {s s1 : Shared} {H : Hp} {E : XK} {us : List Value} {vs : List V}
    (S : FnScope N ps scope) (hd : A.handled = none) (e0 : Env0 P w K mg base A outer s H) (hl : vs.length = ps.length) (r : Vals vs us)
    (x : InCallC s s.heap.objs.size (bindL (envOfC qual scope s.heap.objs.size f cd).kindOf (ps.zip us) fun _ => none) (cellsFrom (s.heap.objs.size + 1) scope.names []) (bindC (envOfC qual scope s.heap.objs.size f cd).kindOf (ps.zip us) fun _ => none) s1) :
    Inv (cxOf CX P w K mg base N qual scope f cd A outer s H E) [] (start N vs) H s1 := by
  have hpl : ps.length ≤ N.length := by have := congrArg List.length S.pre; rw [List.length_take] at this; omega
  obtain ⟨h1, tk, rfl, hk⟩ := x.done
  have noA : ∀ b : Addr, b ∉ (cxOf CX P w K mg base N qual scope f cd A outer s H E).ex := fun b z => absurd (show b ∈ ([] : List Addr) from z) (by simp)
  refine ⟨⟨e0.mod, S.kind, rfl, rfl, Nat.le_refl _, fun y z c h1 h2 => ?_, fun y hy => ?_, fun y c _ h => ?_, fun _ => hd, Around.frames_deeper e0.frames, .inr ⟨rfl, rfl⟩, fun b z => absurd z (noA b), e0.bs, e0.bsz, fun b _ _ => noA b, fun b z => absurd z (noA b), e0.funs, e0.frf⟩,
    rfl, e0.bare, Un.kept hk, ⟨_, x.toInCall.ns, fun i y v h1 h2 h3 => ?_⟩, fun y c h => ⟨_, x.cell y c h⟩, e0.hok.fresh (Nat.le_refl _), fun y c h => ?_, fun p hp => absurd (show p ∈ ([] : List (Addr × Obj)) from hp) (by simp), e0.hok.kept hk, ?_⟩
  · exact name_of_addr x.apart (PySem.mem_of_lookup h1) (PySem.mem_of_lookup h2)
  · have hy : scope.names.lookup y = some .cell ∨ scope.names.lookup y = some .free := hy
    rcases hy with hy | hy
    · exact cell_has hy
    · exact absurd rfl (S.nofree _ (PySem.mem_of_lookup hy))
  · exact Nat.le_of_lt (x.above y c (PySem.mem_of_lookup h))
  · have hi : i < vs.length := by
      unfold start at h2
      by_cases hi : i < vs.length
      · exact hi
      · rw [List.getElem?_append_right (by simpa using hi)] at h2
        rw [List.getElem?_replicate] at h2
        split at h2 <;> cases h2
    have ha : vs[i]? = some v := by
      unfold start at h2
      rw [List.getElem?_append_left (by simpa using hi), List.getElem?_map] at h2
      cases e : vs[i]? with
      | none => rw [e] at h2; cases h2
      | some a => rw [e] at h2; cases h2; rfl
    obtain ⟨u, hu, rv⟩ := r.get ha
    have hp : ps[i]? = some y := by
      rw [← S.pre, List.getElem?_take_of_lt (by omega)]; exact h1
    have ndP : ps.Nodup := by rw [← S.pre]; exact S.nd.sublist (List.take_sublist _ _)
    refine ⟨u, rv, ?_⟩
    rcases S.par y (List.mem_of_getElem? hp) with k | k
    · exact .inl ⟨k, bindL_get ndP hp hu k⟩
    · obtain ⟨c, e⟩ := cell_has (n := s.heap.objs.size + 1) k
      refine .inr ⟨.inl k, c, e, ?_⟩
      have q := x.cell y c e
      rw [bindC_get ndP hp hu (by show scope.names.lookup y ≠ _; rw [k]; decide)] at q
      exact q
  · exact e0.hok.fresh (Nat.le_of_lt (x.above y c (PySem.mem_of_lookup h)))
  · unfold start
    show _ = N.length
    rw [List.length_append, List.length_map, List.length_replicate]
    omega

/-- THE RULE: a def (or a method) of the text, by its body. The body's reading t is chosen for each entry; it is run at the parameters' values -/
theorem fn_of {CX : CXT} {P : Program} {w : World} {K : PySem.W.Frag} {mg : Str → Option Value} {base : Heap} {k : Nat} {f : Addr} {name qual : Str} {params : Arguments} {body : List Stmt} {scope : Scope} {dV kV doc pm cdv ct oc : Value} {an od : Option Addr}
    {osl : Array (Option Value)} {N ps : List Str} {sp : Sp} (lk : K.lookup f = some ⟨oc, od, .func (PySem.W.fnOf name qual params body scope dV kV doc pm an cdv ct), osl⟩) (hcd : PySem.W.codeIn K cdv qual = true) (S : FnScope N ps scope)
    (len : ∀ vs H Q E, sp vs H Q E → vs.length = ps.length)
    (hbody : ∀ (A : Around) (outer : List Env) (s : Shared) (H : Hp) (vs : List V) (Q : VK) (E : XK), Room k (A.deeper (envOfC qual scope s.heap.objs.size f cdv)) → sp vs H Q E →
      ∃ t, PSs (cxOf CX P w K mg base N qual scope f cdv A outer s H E) body t ∧ t { nx := fun _ H' => Q .non H', rt := Q } (start N vs) H) :
    FnOk P w K mg base CX (k + 1) f (PySem.W.fnOf name qual params body scope dV kV doc pm an cdv ct) ps sp := by
  refine ⟨len, fun A outer s H args us vs Q E hr e0 hb r hsp => ?_⟩
  have hl := len _ _ _ _ hsp
  have KX : K.In s.heap := e0.mod.kin.keeps fun b o e => (e0.bs b o e).1
  have lim : s.heap.NoLimit := e0.mod.nolimit.keeps fun b o e => (e0.bs b o e).1
  have hkind : ∀ y ∈ ps.zip us, scope.names.lookup y.1 = some .local ∨ (scope.names.lookup y.1 = some .cell ∧ ((cellsFrom (s.heap.objs.size + 1) scope.names []).lookup y.1).isSome = true) := fun ⟨n, v⟩ hy => by
    rcases S.par n (List.of_mem_zip hy).1 with q | q
    · exact .inl q
    · exact .inr ⟨q, PySem.W.cellsFrom_some _ _ _ (.inl q)⟩
  refine codeAny_call_function hr.depth (KX _ _ lk) rfl S.co S.gen rfl (PySem.W.codeRec_of KX hcd) (hb _ _ _ _ ?_)
  refine wpAny_newFunctionEnv_cells S.kind hkind fun env he s1 x => ?_
  subst he
  refine ⟨lim.keeps x.toInCall.keep, codeAny_func ?_⟩
  obtain ⟨t, ht, hq⟩ := hbody A outer s H vs Q E (hr.deeper _) hsp
  have I : Inv (cxOf CX P w K mg base N qual scope f cdv A outer s H E) [] (start N vs) H s1 := inv_start S hr.hd e0 hl r x
  refine wpAny_mono (ht [] s1 (start N vs) H _ I hq) (fun fl s' hs => ?_) fun e s' hs => hs
  have fin : ∀ {σ' : St} {H' : Hp} {v : V} {u : Value}, Inv (cxOf CX P w K mg base N qual scope f cdv A outer s H E) [] σ' H' s' → RelV v u → Q v H' → CE outer P w H s Q u s' :=
    fun {σ' H' v u} J rv q => ⟨v, H', J.os, J.bare, J.base, J.hok, rv, q⟩
  cases fl with
  | ret u =>
    obtain ⟨v, σ', H', J, rv, q⟩ := hs
    exact fin J rv q
  | next =>
    obtain ⟨σ', H', J, q⟩ := hs
    exact fin (v := V.non) (u := Value.none) J rfl q
  | brk =>
    obtain ⟨_, _, _, q⟩ := hs
    exact False.elim q
  | cont =>
    obtain ⟨_, _, _, q⟩ := hs
    exact False.elim q
end L2

namespace L2
open PySem PySem.Spec PyProof.Rows
section
variable {X : Cx} {x : Str} {p pos : Pos} {e : Expr} {es : List Expr} {t : TA} {id T : String} {r : List V → Hp → VK → Prop}

def tCB (r : List V → Hp → VK → Prop) (t : TA) : TE := fun σ H Q => t σ H fun vs H1 => r vs H1 Q
/-- f(e, ..), f a built-in function -/
theorem pe_callB (hc : CallR X (.builtin id) r) (hg : Gl X x) (hm : X.mg x = none) (hv : bootBuiltins x = some (.builtin id)) (ha : PA X (e :: es) t) (hn : x ≠ "__name__" := by decide) (hdb : (x == ("__debug__" : Str)) = false := by decide)
    (he : starEach (e :: es) X.env = (false, eval e X.env) :: starEach es X.env := by rfl) (hpl : (backTo pos (starEach es X.env)).any (·.1) = false := by rfl) : PE X (.Call (.Name x p) (e :: es) [] pos) (tCB r t) := by
  intro pins s σ H Q I h
  refine wpAny_Call_Name_kw (ld_blt I hg hm hv ?_ hn hdb)
  exact PyProof.Rows.callWith_builtin1 (thn (ha pos pins s σ H _ I h) fun us s1 ⟨vs, H1, I1, r1, q1⟩ => hc pins s1 σ H1 vs us Q I1 r1 q1) he hpl
/-- T(e, ..), T a built-in type -/
theorem pe_callTy (hc : CallR X (.type T) r) (hg : Gl X x) (hm : X.mg x = none) (hv : bootBuiltins x = some (.type T)) (ha : PA X (e :: es) t) (hn : x ≠ "__name__" := by decide) (hdb : (x == ("__debug__" : Str)) = false := by decide)
    (he : starEach (e :: es) X.env = (false, eval e X.env) :: starEach es X.env := by rfl) (hpl : (backTo pos (starEach es X.env)).any (·.1) = false := by rfl) : PE X (.Call (.Name x p) (e :: es) [] pos) (tCB r t) := by
  intro pins s σ H Q I h
  refine wpAny_Call_Name_kw (ld_blt I hg hm hv ?_ hn hdb)
  exact PyProof.Rows.callWith_type1 (thn (ha pos pins s σ H _ I h) fun us s1 ⟨vs, H1, I1, r1, q1⟩ => hc pins s1 σ H1 vs us Q I1 r1 q1) he hpl
end
end L2

namespace HT
open PySem PyProof.Rows

/-- t < u of tuples of ints -/
def lexLt : List Int → List Int → Bool
  | [], [] => false
  | [], _ :: _ => true
  | _ :: _, [] => false
  | x :: xs, y :: ys => if x = y then lexLt xs ys else decide (x < y)
section
open PySem.SeqAt
open PySem.AutoSeq1 (wpAny_loadPart')
open PySem.MeetsSeq PySem.MeetsSeq2 PySem.MeetsSeq3

end

section
variable {prog : Program} {w : World} {A : Around} {E : Value → Shared → Prop} {s : Shared}

/-- t + u, t not empty -/
theorem cat_tup {t b : Addr} {vs ws : List Value} {Q : Value → Shared → Prop} (ht : IsTup s.heap t vs.toArray) (hb : IsTup s.heap b ws.toArray) (hv : vs ≠ [])
    (h1 : ws = [] → Q (.ref t) s) (h2 : ws ≠ [] → Q (.ref s.heap.objs.size) { s with heap := s.heap.push { cls := .type "tuple", data := .seq (vs ++ ws).toArray } })
    (hsz : vs.length + ws.length ≤ sizeLine) : wpAny (model prog w) A (binaryOp .Add (.ref t) (.ref b)) Q E s := by
  obtain ⟨⟨cls, dd, data, sl⟩, ho, hc, n, hd⟩ := id ht
  obtain ⟨⟨cls2, dd2, data2, sl2⟩, ho2, hc2, n2, hd2⟩ := id hb
  simp only at hc hd hc2 hd2
  subst hc hd hc2 hd2
  have e : vs.toArray ++ ws.toArray = (vs ++ ws).toArray := by simp
  by_cases hw : ws = []
  · exact concat_meets ⟨_, ho, rfl⟩ ⟨_, ho2, rfl⟩ noFill_tuple_add seq_tuple_add PySem.F.slot_tuple_add PySem.F.entry_tuple_add (PySem.F.args_tuple_add_2 _ _)
      (tuple_addW1 t b vs.toArray ws.toArray n n2 dd dd2 sl sl2 (by simpa using hv) (by simp [hw])) ⟨ho, ho2, h1 hw⟩
  · refine concat_meets ⟨_, ho, rfl⟩ ⟨_, ho2, rfl⟩ noFill_tuple_add seq_tuple_add PySem.F.slot_tuple_add PySem.F.entry_tuple_add (PySem.F.args_tuple_add_2 _ _)
      (tuple_addW2 t b vs.toArray ws.toArray n n2 dd dd2 sl sl2 (by simpa using hv) (by simpa using hw) (by rw [List.size_toArray, List.size_toArray]; exact hsz)) ⟨ho, ho2, ?_⟩
    rw [e]
    exact h2 hw

/-! ### t[a:b], not the whole -/
/-- a slice's bound as a place among n (d where it is left out) -/
def sIx (n d : Nat) : Option Int → Nat
  | none => d
  | some v => if v < 0 then (v + (n : Int)).toNat else min v.toNat n
theorem sIx_none (n d : Nat) : sIx n d none = d := rfl
theorem sIx_nat (n d k : Nat) : sIx n d (some (k : Int)) = min k n := by
  show (if (k : Int) < 0 then ((k : Int) + (n : Int)).toNat else min (k : Int).toNat n) = min k n
  rw [if_neg (by omega), Int.toNat_natCast]
theorem sIx_le (n d : Nat) (hd : d ≤ n) (o : Option Int) : sIx n d o ≤ n := by
  cases o with
  | none => exact hd
  | some v =>
    show (if v < 0 then (v + (n : Int)).toNat else min v.toNat n) ≤ n
    by_cases hv : v < 0
    · rw [if_pos hv]; omega
    · rw [if_neg hv]; exact Nat.min_le_right _ _
theorem clip_eq (v : Int) (n d : Nat) : (if v < 0 then max (v + (n : Int)) 0 else min v (n : Int)) = ((sIx n d (some v) : Nat) : Int) := by
  show (if v < 0 then max (v + (n : Int)) 0 else min v (n : Int)) = (((if v < 0 then (v + (n : Int)).toNat else min v.toNat n) : Nat) : Int)
  by_cases hv : v < 0
  · simp only [if_pos hv]; omega
  · simp only [if_neg hv]; omega
theorem adjust_gen (lo hi : Option Int) (n : Nat) : Builtin.Slice.sliceAdjust lo hi 1 (n : Int) = (((sIx n 0 lo : Nat) : Int), ((sIx n n hi : Nat) : Int)) := by
  have h1 : ¬ ((1 : Int) < 0) := by omega
  unfold Builtin.Slice.sliceAdjust
  simp only [h1, if_false]
  refine Prod.ext ?_ ?_
  · cases lo with
    | none => rfl
    | some v => exact clip_eq v n 0
  · cases hi with
    | none => rfl
    | some v => exact clip_eq v n n
theorem places_gen (i j : Nat) : Builtin.Slice.slicePlaces (i : Int) (j : Int) 1 = j - i := by
  unfold Builtin.Slice.slicePlaces
  have h1 : (1 : Int) > 0 := by omega
  simp only [h1, if_true, Int.ediv_one]
  split <;> omega
theorem slicePart_ {v : Value} {o : Option Int} {Q : Option Int → Shared → Prop} (p : IsPart v o) (h : Q o s) : wpAny (model prog w) A (Builtin.Slice.slicePartIndex v) Q E s := by
  cases p with
  | none => exact slicePart_none h
  | int i t => exact slicePart_int h
theorem sliceApplied_gen {sl : Addr} {vl vu : Value} {lo hi : Option Int} {n : Nat} {Q : Int × Int × Nat → Shared → Prop} (hs : s.heap.IsSliceOf sl vl vu .none) (pl : IsPart vl lo) (pu : IsPart vu hi)
    (h : Q (((sIx n 0 lo : Nat) : Int), 1, sIx n n hi - sIx n 0 lo) s) : wpAny (model prog w) A (Builtin.Slice.sliceApplied (.ref sl) (pure (n : Int))) Q E s := by
  obtain ⟨os, hos, hcs, hds⟩ := id hs
  unfold Builtin.Slice.sliceApplied Builtin.Slice.sliceFields
  refine wpAny_bind (wpAny_bind (wpAny_field hos hds (x := vl) rfl (wpAny_bind (wpAny_field hos hds (x := vu) rfl (wpAny_bind (wpAny_field hos hds (x := .none) rfl (wpAny_pure ?_)))))))
  refine wpAny_bind (slicePart_none ?_)
  show wpAny _ _ (if ((1 : Int) == 0) = true then _ else _) _ _ s
  rw [if_neg (by decide)]
  refine wpAny_bind (slicePart_ pl (wpAny_bind (slicePart_ pu (wpAny_bind (wpAny_pure ?_)))))
  show wpAny _ _ (match Builtin.Slice.sliceAdjust lo hi 1 (n : Int) with | (lo, hi) => pure (lo, (1 : Int), Builtin.Slice.slicePlaces lo hi 1)) _ _ s
  rw [adjust_gen lo hi n]
  show wpAny _ _ (pure (((sIx n 0 lo : Nat) : Int), (1 : Int), Builtin.Slice.slicePlaces ((sIx n 0 lo : Nat) : Int) ((sIx n n hi : Nat) : Int) 1)) _ _ s
  rw [places_gen]
  exact wpAny_pure h
theorem pick_gen (xs : Array Value) (i k : Nat) : ((List.range k).filterMap fun (m : Nat) => xs[((i : Int) + (m : Int) * 1).toNat]?).toArray = ((xs.toList.drop i).take k).toArray := by
  have e : (fun (m : Nat) => xs[((i : Int) + (m : Int) * 1).toNat]?) = fun m => xs[i + m]? := by
    funext m
    have : ((i : Int) + (m : Int) * 1).toNat = i + m := by omega
    rw [this]
  rw [e]
  have := pick_run xs i k
  rw [List.filterMap_map] at this
  have e2 : ((fun x => xs[x]?) ∘ fun x => i + x) = fun m => xs[i + m]? := rfl
  rw [e2] at this
  rw [this]

theorem getItem_tuple_cut {t sl : Addr} {items : Array Value} {vl vu : Value} {lo hi : Option Int} {Q : Value → Shared → Prop} (ht : IsTup s.heap t items) (hs : s.heap.IsSliceOf sl vl vu .none) (pl : IsPart vl lo) (pu : IsPart vu hi)
    (hw : ¬ (sIx items.size 0 lo = 0 ∧ sIx items.size items.size hi = items.size))
    (h : Q (.ref s.heap.objs.size) { s with heap := s.heap.push { cls := .type "tuple", data := .seq ((items.toList.drop (sIx items.size 0 lo)).take (sIx items.size items.size hi - sIx items.size 0 lo)).toArray } })
    (hsz : items.size ≤ sizeLine) : wpAny (model prog w) A (getItem (.ref t) (.ref sl)) Q E s := by
  have htake : sizeOk (.seq ((items.toList.drop (sIx items.size 0 lo)).take (sIx items.size items.size hi - sIx items.size 0 lo)).toArray) := by
    show ((items.toList.drop (sIx items.size 0 lo)).take (sIx items.size items.size hi - sIx items.size 0 lo)).toArray.size ≤ sizeLine
    rw [List.size_toArray, List.length_take, List.length_drop, Array.length_toList]
    omega
  have hj : sIx items.size items.size hi ≤ items.size := sIx_le _ _ (Nat.le_refl _) hi
  obtain ⟨os, hos, hcs, hds⟩ := id hs
  have hTs : s.TypeIs (.ref sl) "slice" := ⟨os, hos, hcs⟩
  unfold getItem
  try with_reducible refine wpAny_holding ?_
  first | refine wpAny_bind (wpAny_pure ?_) | skip
  refine wpAny_bind (wpAny_sequenceKey ht.typeIs (by decide) ?_)
  refine wpAny_bind (wpAny_callSpecial?_slot (name := Str.ofString "__getitem__") ht.typeIs PyProof.Rows.slot_tuple_getitem
    (wpAny_call_entry PyProof.Rows.slot_tuple_getitem ht.typeIs entry_tuple_getitem ?_ (args_tuple_getitem _ _)))
  show wpAny _ _ (Builtin.Tuple.tupleItemsOf (.ref t) >>= _) _ _ s
  refine wpAny_bind (tupleItemsOf_ ht ?_)
  refine wpAny_bind (wpAny_typeOf hTs ?_)
  rw [if_pos (by decide)]
  refine wpAny_bind (sliceApplied_gen hs pl pu ?_)
  have hno : ¬ ((((sIx items.size 0 lo : Nat) : Int) == 0 && (1 : Int) == 1 && (sIx items.size items.size hi - sIx items.size 0 lo) == items.size) = true) := by
    intro q
    rw [Bool.and_eq_true, Bool.and_eq_true] at q
    have q1 : ((sIx items.size 0 lo : Nat) : Int) = 0 := eq_of_beq q.1.1
    have q2 : sIx items.size items.size hi - sIx items.size 0 lo = items.size := eq_of_beq q.2
    exact hw ⟨by omega, by omega⟩
  show wpAny _ _ (if (((sIx items.size 0 lo : Nat) : Int) == 0 && (1 : Int) == 1 && (sIx items.size items.size hi - sIx items.size 0 lo) == items.size) = true then _ else _) _ _ s
  rw [if_neg hno, pick_gen]
  first
    | exact wpAny_bind (m := Builtin.Tuple.tupleExact _) (wpAny_newObj_type (wpAny_pure ⟨_, rfl, wpAny_pure h⟩) htake)
    | exact wpAny_bind (m := Builtin.Tuple.tupleExact _) (wpAny_newObj_type (wpAny_bind (wpAny_pure (wpAny_pure ⟨_, rfl, wpAny_pure h⟩))) htake)
    | exact wpAny_bind (wpAny_bind (m := Builtin.Tuple.tupleExact _) (wpAny_newObj_type (wpAny_pure (wpAny_pure ⟨_, rfl, wpAny_pure h⟩)) htake))
    | exact wpAny_bind (wpAny_bind (m := Builtin.Tuple.tupleExact _) (wpAny_newObj_type (wpAny_pure ⟨_, rfl, wpAny_pure h⟩) htake))
end
end HT

namespace L2
open PySem PySem.Spec PyProof.Rows

/-! ### the parts of a slice -/
abbrev TO := St → Hp → (Option Int → Hp → Prop) → Prop
/-- a slice's part (left out, or an int) -/
def PO (X : Cx) (e : Option Expr) (t : TO) : Prop :=
  ∀ (pins : List (Addr × Obj)) (s : Shared) (σ : St) (H : Hp) (Q : Option Int → Hp → Prop), Inv X pins σ H s → t σ H Q →
    wpAny (model X.prog X.w) X.A (evalPart e X.env) (fun u s' => ∃ o H', Inv X pins σ H' s' ∧ IsPart u o ∧ Q o H') X.xe s
def tNoPart : TO := fun _ H Q => Q none H
def tPart (t : TE) : TO := fun σ H Q => t σ H fun x H1 => ∃ i, x = .int i ∧ Q (some i) H1

section
variable {X : Cx} {e : Expr} {te : TE} {lo hi : Option Expr} {tl th : TO} {pos p2 : Pos}

theorem po_none : PO X none tNoPart := by
  intro pins s σ H Q I h
  rw [evalPart_none]
  exact wpAny_pure ⟨none, H, I, .none, h⟩
theorem po_some (h : PE X e te) : PO X (some e) (tPart te) := by
  intro pins s σ H Q I hw
  rw [evalPart_some]
  refine thn (h pins s σ H _ I hw) fun u s1 ⟨x, H1, I1, r1, q1⟩ => ?_
  obtain ⟨i, rfl, q⟩ := q1
  obtain ⟨t, rfl⟩ := r1
  exact ⟨some i, H1, I1, .int i t, q⟩

/-- what a slice of a value is, by values: the slice object stands at sl -/
def SlR (X : Cx) (r : V → Option Int → Option Int → Hp → VK → Prop) : Prop :=
  ∀ (pins : List (Addr × Obj)) (s : Shared) (σ : St) (H : Hp) (x : V) (v vl vu : Value) (lo hi : Option Int) (sl : Addr) (Q : VK), Inv X pins σ H s → RelV x v → s.heap.IsSliceOf sl vl vu .none → IsPart vl lo → IsPart vu hi → r x lo hi H Q →
    ∃ T id, typeLookup (.type T) "__getitem__" = pure (some (.builtin id)) ∧ s.TypeIs v T ∧ wpAny (model X.prog X.w) X.A (getItem v (.ref sl)) (EP X pins σ Q) X.xe s
theorem SlR.or {r r' : V → Option Int → Option Int → Hp → VK → Prop} (h : SlR X r) (h' : SlR X r') : SlR X (fun x lo hi H Q => r x lo hi H Q ∨ r' x lo hi H Q) := by
  intro pins s σ H x v vl vu lo hi sl Q I rx hs pl pu q
  rcases q with q | q
  · exact h pins s σ H x v vl vu lo hi sl Q I rx hs pl pu q
  · exact h' pins s σ H x v vl vu lo hi sl Q I rx hs pl pu q
def tSl (r : V → Option Int → Option Int → Hp → VK → Prop) (te : TE) (tl th : TO) : TE := fun σ H Q => te σ H fun x H1 => tl σ H1 fun l H2 => th σ H2 fun u H3 => r x l u H3 Q
/-- a[lo:hi], any a -/
theorem pe_slice {r : V → Option Int → Option Int → Hp → VK → Prop} (hr : SlR X r) (he : PE X e te) (hl : PO X lo tl) (hu : PO X hi th) : PE X (.Subscript e (.Slice lo hi none p2) pos) (tSl r te tl th) := by
  intro pins s σ H Q I h
  refine Subscript_ (thn (he pins s σ H _ I h) fun v s1 ⟨x, H1, I1, r1, q1⟩ => ?_)
  refine wpAny_Slice (thn (hl pins s1 σ H1 _ I1 q1) fun vl s2 ⟨l, H2, I2, pl, q2⟩ => thn (hu pins s2 σ H2 _ I2 q2) fun vu s3 ⟨u, H3, I3, pu, q3⟩ => ?_)
  rw [evalPart_none]
  refine wpAny_pure ?_
  have I4 : Inv X pins σ H3 { s3 with heap := s3.heap.push { cls := .type "slice", data := .fields #[vl, vu, .none] } } := I3.kept (t' := s3.toks) fun b ob q => Heap.get?_push_of_some _ q
  obtain ⟨T, id, hT, ht, hg⟩ := hr pins { s3 with heap := s3.heap.push { cls := .type "slice", data := .fields #[vl, vu, .none] } } σ H3 x v vl vu l u s3.heap.objs.size Q I4 r1 (Heap.IsSliceOf.new ..) pl pu q3
  show wpAny (model X.prog X.w) X.A (subscriptTail e (.Slice lo hi none p2) v (.ref s3.heap.objs.size)) (EP X pins σ Q) X.xe { s3 with heap := s3.heap.push { cls := .type "slice", data := .fields #[vl, vu, .none] } }
  exact tail_any (ops := [.ref s3.heap.objs.size, v]) ht hT hg (by with_unfolding_all rfl)

/-- the items of xs[lo:hi] -/
def cutV (xs : List V) (lo hi : Option Int) : List V := (xs.drop (HT.sIx xs.length 0 lo)).take (HT.sIx xs.length xs.length hi - HT.sIx xs.length 0 lo)
theorem cutV_length (xs : List V) (lo hi : Option Int) : (cutV xs lo hi).length ≤ xs.length := by
  unfold cutV
  rw [List.length_take, List.length_drop]
  omega
/-- t[lo:hi], not the whole of it (the whole would be t itself) -/
def rSlT (K : PySem.W.Frag) : V → Option Int → Option Int → Hp → VK → Prop := fun x lo hi H Q => ∃ a xs, x = .ref a ∧ SqT K H a xs ∧
  ¬ (HT.sIx xs.length 0 lo = 0 ∧ HT.sIx xs.length xs.length hi = xs.length) ∧ ∀ p, H p = none → Q (.ref p) (upd H p (.tup (cutV xs lo hi)))
theorem sl_tup : SlR X (rSlT X.K) := by
  intro pins s σ H x v vl vu lo hi sl Q I rx hs pl pu h
  obtain ⟨a, xs, rfl, hx, hw, q⟩ := h
  cases rx
  obtain ⟨its, r, ht, hz⟩ := I.tuple hx
  have hlen : its.toArray.size = xs.length := by rw [List.size_toArray]; exact r.length.symm
  refine ⟨"tuple", _, PyProof.Rows.slot_tuple_getitem.lookup, ht.typeIs, ?_⟩
  refine HT.getItem_tuple_cut ht hs pl pu (by rw [hlen]; exact hw) ?_ (by rw [hlen]; exact hz)
  rw [hlen]
  refine ⟨.ref s.heap.objs.size, _, I.laid (t' := s.toks) (o := .tup (cutV xs lo hi)) (fun b ob q => Heap.get?_push_of_some _ q) (Nat.le_refl _) ?_, rfl, q _ (I.hok.fresh (Nat.le_refl _))⟩
  exact ⟨Nat.le_trans (cutV_length xs lo hi) hz, _, (r.drop (HT.sIx xs.length 0 lo)).take (HT.sIx xs.length xs.length hi - HT.sIx xs.length 0 lo), IsTup.new _ _⟩

/-! ### t < u, t + u -/
def rLtT (K : PySem.W.Frag) : R2 := fun x y H Q => ∃ a b ns ms, x = .ref a ∧ y = .ref b ∧ SqT K H a (ns.map V.int) ∧ SqT K H b (ms.map V.int) ∧ Q (.bl (HT.lexLt ns ms)) H
/-- t + u, t not empty: u empty gives t itself -/
def rCatT (K : PySem.W.Frag) : R2 := fun x y H Q => ∃ a b xs ys, x = .ref a ∧ y = .ref b ∧ SqT K H a xs ∧ SqT K H b ys ∧ xs ≠ [] ∧ xs.length + ys.length ≤ sizeLine ∧
  (ys = [] → Q (.ref a) H) ∧ (ys ≠ [] → ∀ p, H p = none → Q (.ref p) (upd H p (.tup (xs ++ ys))))
theorem Vals.nil_iff {xs : List V} {us : List Value} (r : Vals xs us) : us = [] ↔ xs = [] := by
  cases r with
  | nil => simp
  | cons _ _ => simp
theorem op_catT : OpR X (binaryOp .Add) (rCatT X.K) := by
  intro pins s σ H x y v u Q I rx ry h
  obtain ⟨a, b, xs, ys, rfl, rfl, ha, hb, hx, hz, q1, q2⟩ := h
  cases rx
  cases ry
  obtain ⟨its, r1, p1, _⟩ := I.tuple ha
  obtain ⟨its2, r2, p2, _⟩ := I.tuple hb
  refine HT.cat_tup p1 p2 (fun z => hx (r1.nil_iff.mp z)) (fun z => ⟨.ref a, H, I, rfl, q1 (r2.nil_iff.mp z)⟩) (fun z => ?_) (by rw [← r1.length, ← r2.length]; exact hz)
  refine ⟨.ref s.heap.objs.size, _, I.laid (t' := s.toks) (o := .tup (xs ++ ys)) (fun b ob q => Heap.get?_push_of_some _ q) (Nat.le_refl _) ?_, rfl, q2 (fun w => z (r2.nil_iff.mpr w)) _ (I.hok.fresh (Nat.le_refl _))⟩
  exact ⟨by rw [List.length_append]; exact hz, _, r1.append r2, IsTup.new _ _⟩
end
end L2

namespace L2
open PySem PySem.Spec PyProof.Rows

/-! ### places -/
/-- the place that an index of any sign means -/
def ixN (n : Nat) (i : Int) : Option Nat := if 0 ≤ i then (if i < n then some i.toNat else none) else if -(n : Int) ≤ i then some (i + n).toNat else none
def atI {α : Type} (xs : List α) (i : Int) : Option α := (ixN xs.length i).bind fun j => xs[j]?
theorem ixN_seq {n : Nat} {i : Int} {j : Nat} (h : ixN n i = some j) : seqIndex? i n = some j ∧ j < n ∧ -(n : Int) ≤ i ∧ i < n := by
  unfold ixN at h
  by_cases h0 : 0 ≤ i
  · rw [if_pos h0] at h
    by_cases h1 : i < n
    · rw [if_pos h1] at h
      have e : i.toNat = j := Option.some.inj h
      exact ⟨by rw [seqIndex_of h0 h1, e], by omega, by omega, h1⟩
    · rw [if_neg h1] at h; cases h
  · rw [if_neg h0] at h
    by_cases h1 : -(n : Int) ≤ i
    · rw [if_pos h1] at h
      have e : (i + n).toNat = j := Option.some.inj h
      exact ⟨by rw [seqIndex_neg (by omega) h1, e], by omega, h1, by omega⟩
    · rw [if_neg h1] at h; cases h
theorem atI_get {α : Type} {xs : List α} {i : Int} {v : α} (h : atI xs i = some v) : ∃ j, seqIndex? i xs.length = some j ∧ xs[j]? = some v ∧ j < xs.length ∧ -(xs.length : Int) ≤ i ∧ i < xs.length := by
  unfold atI at h
  cases e : ixN xs.length i with
  | none => rw [e] at h; cases h
  | some j =>
    rw [e] at h
    obtain ⟨h1, h2, h3, h4⟩ := ixN_seq e
    exact ⟨j, h1, h, h2, h3, h4⟩
theorem atI_nat {α : Type} {xs : List α} {j : Nat} {v : α} (h : xs[j]? = some v) : atI xs (j : Int) = some v := by
  have hj : j < xs.length := (List.getElem?_eq_some_iff.mp h).1
  have e : ixN xs.length (j : Int) = some j := by
    unfold ixN
    rw [if_pos (by omega), if_pos (by omega)]; simp
  unfold atI; rw [e]; exact h
/-! ### what may be subscripted -/
/-- what stands as an index of a plain subscript -/
def PlainIx (b : Expr) : Prop := ∀ o i, subscripted b false o i = operate [o, i] (getItem o i)
/-- a subscript by values -/
def IxR (X : Cx) (r : R2) : Prop :=
  ∀ (value slice : Expr) (pins : List (Addr × Obj)) (s : Shared) (σ : St) (H : Hp) (x y : V) (v u : Value) (Q : VK), Inv X pins σ H s → RelV x v → RelV y u → r x y H Q →
    subscripted slice false v u = operate [v, u] (getItem v u) → wpAny (model X.prog X.w) X.A (subscriptTail value slice v u) (EP X pins σ Q) X.xe s
/-- a call of a builtin's method by values: the receiver, the arguments -/
def MtR (X : Cx) (id : String) (r : V → List V → Hp → VK → Prop) : Prop :=
  ∀ (pins : List (Addr × Obj)) (s : Shared) (σ : St) (H : Hp) (x : V) (xs : List V) (v : Value) (us : List Value) (Q : VK), Inv X pins σ H s → RelV x v → Vals xs us → r x xs H Q →
    wpAny (model X.prog X.w) X.A (call (.builtin id) (v :: us)) (EP X pins σ Q) X.xe s
section
variable {X : Cx} {a b : Expr} {ta tb : TE} {pos : Pos}
theorem IxR.or {r r' : R2} (h : IxR X r) (h' : IxR X r') : IxR X (fun x y H Q => r x y H Q ∨ r' x y H Q) := by
  intro value slice pins s σ H x y v u Q I rx ry q hs
  rcases q with q | q
  · exact h value slice pins s σ H x y v u Q I rx ry q hs
  · exact h' value slice pins s σ H x y v u Q I rx ry q hs
theorem MtR.or {id : String} {r r' : V → List V → Hp → VK → Prop} (h : MtR X id r) (h' : MtR X id r') : MtR X id (fun x xs H Q => r x xs H Q ∨ r' x xs H Q) := by
  intro pins s σ H x xs v us Q I rx rs q
  rcases q with q | q
  · exact h pins s σ H x xs v us Q I rx rs q
  · exact h' pins s σ H x xs v us Q I rx rs q
/-- a[b] -/
theorem pe_ix {r : R2} (hr : IxR X r) (ha : PE X a ta) (hb : PE X b tb) (hs : PlainIx b) : PE X (.Subscript a b pos) (tOp r ta tb) := by
  intro pins s σ H Q I h
  exact Subscript_ (binT ha hb I h fun v u s2 x y H2 I2 rx ry q => hr a b pins s2 σ H2 x y v u Q I2 rx ry q (hs _ _))

def rIxL (K : PySem.W.Frag) : R2 := fun x y H Q => ∃ p xs i v, x = .ref p ∧ y = .int i ∧ SqL K H p xs ∧ atI xs i = some v ∧ Q v H
def rIxT (K : PySem.W.Frag) : R2 := fun x y H Q => ∃ p xs i v, x = .ref p ∧ y = .int i ∧ SqT K H p xs ∧ atI xs i = some v ∧ Q v H
def rIxS : R2 := fun x y H Q => ∃ z i c, x = .str z ∧ y = .int i ∧ z.length ≤ sizeLine ∧ atI z.cps.toList i = some c ∧ Q (.str ⟨#[c]⟩) H
theorem ix_list : IxR X (rIxL X.K) := by
  intro value slice pins s σ H x y v u Q I rx ry h hs
  obtain ⟨p, xs, i, z, rfl, rfl, hq, he, q⟩ := h
  cases rx
  obtain ⟨t, rfl⟩ := ry
  obtain ⟨its, r, pl, hz⟩ := I.list hq
  obtain ⟨j, h1, h2, h3, h4, h5⟩ := atI_get he
  obtain ⟨w, ew, rw'⟩ := r.get h2
  have hl := r.length
  have hn := line63
  have fin : EP X pins σ Q w s := ⟨z, H, I, rw', q⟩
  by_cases h0 : 0 ≤ i
  · have hj : i.toNat = j := by
      rw [seqIndex_of h0 h5] at h1
      exact Option.some.inj h1
    exact item_listR pl.isList h0 (by omega) (by rw [hj]; simpa using ew) fin hs
  · have hj : (i + (its.toArray.size : Int)).toNat = j := by
      rw [seqIndex_neg (by omega) h4] at h1
      rw [List.size_toArray, ← hl]
      exact Option.some.inj h1
    exact subscriptTail_builtinR (x := w) pl.isList.typeIs slot_list_getitem.lookup
      (wpAny_getItem_list_neg (Q := fun r s' => r = w ∧ EP X pins σ Q r s') pl.isList (by omega) (by rw [List.size_toArray] <;> omega) (by omega) (by rw [hj]; simpa using ew) ⟨rfl, fin⟩) hs
theorem ix_tup : IxR X (rIxT X.K) := by
  intro value slice pins s σ H x y v u Q I rx ry h hs
  obtain ⟨p, xs, i, z, rfl, rfl, hq, he, q⟩ := h
  cases rx
  obtain ⟨t, rfl⟩ := ry
  obtain ⟨its, r, pl, hz⟩ := I.tuple hq
  obtain ⟨j, h1, h2, h3, h4, h5⟩ := atI_get he
  obtain ⟨w, ew, rw'⟩ := r.get h2
  have hl := r.length
  have hn := line63
  have fin : EP X pins σ Q w s := ⟨z, H, I, rw', q⟩
  exact subscriptTail_builtinR (x := w) pl.typeIs slot_tuple_getitem.lookup
    (getItem_tuple (j := j) (Q := fun r s' => r = w ∧ EP X pins σ Q r s') pl (by omega) (by omega) (by rw [List.size_toArray, ← hl]; exact h1) (by simpa using ew) ⟨rfl, fin⟩) hs
theorem ix_str : IxR X rIxS := by
  intro value slice pins s σ H x y v u Q I rx ry h hs
  obtain ⟨z, i, c, rfl, rfl, hz, he, q⟩ := h
  obtain ⟨t, rfl⟩ := rx
  obtain ⟨t', rfl⟩ := ry
  obtain ⟨j, h1, h2, h3, h4, h5⟩ := atI_get he
  have hl : z.cps.toList.length = z.length := by simp [Str.length]
  rw [hl] at h1 h4 h5
  have hn := line63
  exact tail_any (typeIs_str s z t) slot_str_getitem.lookup (getItem_str (c := c) (by
    have e1 : decide (i < -(2 ^ 63 : Int)) = false := decide_eq_false (by omega)
    have e2 : decide (i ≥ 2 ^ 63) = false := decide_eq_false (by omega)
    rw [e1, e2, Bool.or_false]) (by rw [h1]; simpa using h2) ⟨.str ⟨#[c]⟩, H, I.tok _, ⟨_, rfl⟩, q⟩) hs
/-- list, tuple or str -/
def rIx (K : PySem.W.Frag) : R2 := fun x y H Q => rIxL K x y H Q ∨ rIxT K x y H Q ∨ rIxS x y H Q
/-! ### xs[i] = v, any sign -/
theorem Inv.lst {pins : List (Addr × Obj)} {σ : St} {H : Hp} {s : Shared} {p : Addr} {xs : List V} (I : Inv X pins σ H s) (h : H p = some (.lst xs)) :
    ∃ (its : List Value) (n : Nat), Vals xs its ∧ s.heap.get? p = some { cls := .type "list", data := .seq its.toArray n } ∧ xs.length ≤ sizeLine := by
  obtain ⟨z, its, n, r, e⟩ := I.hok p _ h
  exact ⟨its, n, r, e, z⟩
def rSetL : V → V → V → Hp → (Hp → Prop) → Prop := fun o i v H Q => ∃ p xs k j, o = .ref p ∧ i = .int k ∧ H p = some (.lst xs) ∧ ixN xs.length k = some j ∧ Q (upd H p (.lst (xs.set j v)))
/-! ### slices -/
theorem slice_bounds (lo hi : Option Int) (n : Nat) : (sliceBounds lo hi none n).1 = ((HT.sIx n 0 lo : Nat) : Int) ∧ (sliceBounds lo hi none n).2.1 = ((HT.sIx n n hi : Nat) : Int) ∧ (sliceBounds lo hi none n).2.2 = 1 := by
  refine ⟨?_, ?_, rfl⟩
  · cases lo with
    | none => simp [sliceBounds, HT.sIx]
    | some i =>
      simp only [sliceBounds, HT.sIx, Option.getD_none, show (1 : Int) > 0 by decide, if_true]
      by_cases h : i < 0
      · simp only [h, if_true] <;> omega
      · simp only [h, if_false] <;> omega
  · cases hi with
    | none => simp [sliceBounds, HT.sIx]
    | some i =>
      simp only [sliceBounds, HT.sIx, Option.getD_none, show (1 : Int) > 0 by decide, if_true]
      by_cases h : i < 0
      · simp only [h, if_true] <;> omega
      · simp only [h, if_false] <;> omega
theorem slicePick_cut (its : List Value) (lo hi : Option Int) : slicePick its.toArray lo hi none = ((its.drop (HT.sIx its.length 0 lo)).take (HT.sIx its.length its.length hi - HT.sIx its.length 0 lo)).toArray := by
  obtain ⟨h1, h2, h3⟩ := slice_bounds lo hi its.toArray.size
  unfold slicePick
  rw [h1, h2, h3]
  simp only [sliceRange_one, pick_run, List.size_toArray] <;> rfl
/-- xs[lo:hi] of a list: a new list -/
def rSlL (K : PySem.W.Frag) : V → Option Int → Option Int → Hp → VK → Prop := fun x lo hi H Q => ∃ a xs, x = .ref a ∧ SqL K H a xs ∧ ∀ p, H p = none → Q (.ref p) (upd H p (.lst (cutV xs lo hi)))
theorem sl_list : SlR X (rSlL X.K) := by
  intro pins s σ H x v vl vu lo hi sl Q I rx hs pl pu h
  obtain ⟨a, xs, rfl, hx, q⟩ := h
  cases rx
  obtain ⟨its, r, ht, hz⟩ := I.list hx
  have hlen := r.length
  refine ⟨"list", _, slot_list_getitem.lookup, ht.isList.typeIs, ?_⟩
  refine wpAny_getItem_list_slice ht.isList hs pl pu .none (by simp) ?_ (by rw [List.size_toArray] <;> omega)
  rw [slicePick_cut, ← hlen]
  refine ⟨.ref s.heap.objs.size, _, I.laid (t' := s.toks) (o := .lst (cutV xs lo hi)) (fun b ob q => Heap.get?_push_of_some _ q) (Nat.le_refl _) ?_, rfl, q _ (I.hok.fresh (Nat.le_refl _))⟩
  exact ⟨Nat.le_trans (cutV_length xs lo hi) hz, _, 0, (r.drop (HT.sIx xs.length 0 lo)).take (HT.sIx xs.length xs.length hi - HT.sIx xs.length 0 lo), Heap.get?_push_size _ rfl⟩

/-! ### in, not in: flat items -/
def flatV : V → Bool
  | .non => true
  | .bl _ => true
  | .int _ => true
  | .str _ => true
  | _ => false
/-- == of flat values -/
def eqV : V → V → Bool
  | .non, .non => true
  | .bl a, .bl b => a == b
  | .bl a, .int b => (if a then 1 else 0) == b
  | .int a, .bl b => a == (if b then 1 else 0)
  | .int a, .int b => a == b
  | .str a, .str b => a == b
  | _, _ => false
theorem eqAt_V {A : Around} {s : Shared} {y x : V} {u v : Value} (ry : RelV y u) (rx : RelV x v) (fy : flatV y = true) (fx : flatV x = true) : SeqAt.EqAt A s u v (eqV y x) := by
  cases y with
  | non =>
    cases ry
    cases x with
    | non => cases rx; exact SeqAt.EqAt.same _
    | bl b => cases rx; exact SeqAt.EqAt.none_bool b
    | int b => obtain ⟨t, rfl⟩ := rx; exact SeqAt.EqAt.none_int b t
    | str b => obtain ⟨t, rfl⟩ := rx; exact SeqAt.EqAt.none_str b t
    | _ => exact absurd (show false = true from fx) Bool.false_ne_true
  | bl a =>
    cases ry
    cases x with
    | non => cases rx; exact SeqAt.EqAt.bool_none a
    | bl b => cases rx; exact SeqAt.EqAt.bool_bool a b
    | int b => obtain ⟨t, rfl⟩ := rx; exact SeqAt.EqAt.bool_int a b t
    | str b => obtain ⟨t, rfl⟩ := rx; exact SeqAt.EqAt.bool_str a b t
    | _ => exact absurd (show false = true from fx) Bool.false_ne_true
  | int a =>
    obtain ⟨t', rfl⟩ := ry
    cases x with
    | non => cases rx; exact SeqAt.EqAt.int_none a t'
    | bl b => cases rx; exact SeqAt.EqAt.int_bool a t' b
    | int b => obtain ⟨t, rfl⟩ := rx; exact SeqAt.EqAt.int_int a t' b t
    | str b => obtain ⟨t, rfl⟩ := rx; exact SeqAt.EqAt.int_str a t' b t
    | _ => exact absurd (show false = true from fx) Bool.false_ne_true
  | str a =>
    obtain ⟨t', rfl⟩ := ry
    cases x with
    | non => cases rx; exact SeqAt.EqAt.str_none a t'
    | bl b => cases rx; exact SeqAt.EqAt.str_bool a t' b
    | int b => obtain ⟨t, rfl⟩ := rx; exact SeqAt.EqAt.str_int a t' b t
    | str b => obtain ⟨t, rfl⟩ := rx; exact SeqAt.EqAt.str_str a t' b t
    | _ => exact absurd (show false = true from fx) Bool.false_ne_true
  | _ => exact absurd (show false = true from fy) Bool.false_ne_true
/-- the items' answers, read off the values (a value's own answer does not lean on its token) -/
def eqU (x : V) (u : Value) : Bool := match u with
  | .none => eqV .non x
  | .bool b => eqV (.bl b) x
  | .int i _ => eqV (.int i) x
  | .str z _ => eqV (.str z) x
  | _ => false
theorem eqU_of {x y : V} {u : Value} (r : RelV y u) (f : flatV y = true) : eqU x u = eqV y x := by
  cases y with
  | non => cases r; rfl
  | bl b => cases r; rfl
  | int i => obtain ⟨t, rfl⟩ := r; rfl
  | str z => obtain ⟨t, rfl⟩ := r; rfl
  | _ => exact absurd (show false = true from f) Bool.false_ne_true
theorem any_eqU {x : V} : ∀ {xs : List V} {us : List Value}, Vals xs us → xs.all flatV = true → us.any (eqU x) = xs.any fun y => eqV y x
  | _, _, .nil, _ => rfl
  | y :: xs, u :: us, .cons r t, f => by
    rw [List.all_cons, Bool.and_eq_true] at f
    rw [List.any_cons, List.any_cons, eqU_of r f.1, any_eqU t f.2]
theorem mem_eqAt {A : Around} {s : Shared} {x : V} {v : Value} (rx : RelV x v) (fx : flatV x = true) : ∀ {xs : List V} {us : List Value}, Vals xs us → xs.all flatV = true → ∀ u ∈ us, SeqAt.EqAt A s u v (eqU x u)
  | _, _, .nil, _ => fun u hu => by cases hu
  | y :: xs, u :: us, .cons r t, f => fun u' hu => by
    rw [List.all_cons, Bool.and_eq_true] at f
    rcases List.mem_cons.mp hu with rfl | hu
    · rw [eqU_of r f.1]; exact eqAt_V r rx f.1 fx
    · exact mem_eqAt rx fx t f.2 u' hu
def inV (x : V) (xs : List V) : Bool := xs.any fun y => eqV y x
/-- x in a list or tuple of flat items -/
def rIn (K : PySem.W.Frag) (neg : Bool) : R2 := fun x y H Q => ∃ p xs, y = .ref p ∧ (SqL K H p xs ∨ SqT K H p xs) ∧ flatV x = true ∧ xs.all flatV = true ∧ Q (.bl (if neg then !inV x xs else inV x xs)) H
theorem op_in_seq : OpR X (compareOp .In) (rIn X.K false) := by
  intro pins s σ H x y v u Q I rx ry h
  obtain ⟨p, xs, rfl, hq, fx, fs, q⟩ := h
  cases ry
  rcases hq with hq | hq
  · obtain ⟨its, r, pl, hz⟩ := I.list hq
    refine SeqAt.in_listAt (eqU x) pl.isList (fun w hw => mem_eqAt rx fx r fs w (by simpa using hw)) ⟨.bl _, H, I, rfl, ?_⟩
    rw [show its.toArray.any (eqU x) = its.any (eqU x) by simp, any_eqU r fs]
    exact q
  · obtain ⟨its, r, pl, hz⟩ := I.tuple hq
    refine SeqAt.in_tupleAt (eqU x) pl (fun w hw => mem_eqAt rx fx r fs w (by simpa using hw)) ⟨.bl _, H, I, rfl, ?_⟩
    rw [show its.toArray.any (eqU x) = its.any (eqU x) by simp, any_eqU r fs]
    exact q
/-! ### len, list(x), tuple(x) of any list or tuple that is read -/
theorem call_len_seq : CallR X (.builtin "len") (fun xs H Q => ∃ p ys, xs = [.ref p] ∧ (SqL X.K H p ys ∨ SqT X.K H p ys) ∧ Q (.int ys.length) H) := by
  intro pins s σ H xs us Q I r h
  obtain ⟨p, ys, rfl, hq, q⟩ := h
  obtain ⟨u, rfl, rx⟩ := vals1 r
  cases rx
  have hn := line63
  rcases hq with hq | hq
  · obtain ⟨its, r', pl, hz⟩ := I.list hq
    have hlen := r'.length
    exact Calls.call_len_list pl.isList (by simp only [List.size_toArray] <;> omega) ⟨.int ys.length, H, I.tok _, ⟨s.toks + 1, by rw [List.size_toArray, hlen]⟩, q⟩
  · obtain ⟨its, r', pl, hz⟩ := I.tuple hq
    have hlen := r'.length
    exact len_tuple pl (by simp only [List.size_toArray] <;> omega) ⟨.int ys.length, H, I.tok _, ⟨s.toks + 1, by rw [List.size_toArray, hlen]⟩, q⟩
theorem CallR.or {f : Value} {r r' : List V → Hp → VK → Prop} (h : CallR X f r) (h' : CallR X f r') : CallR X f (fun xs H Q => r xs H Q ∨ r' xs H Q) := by
  intro pins s σ H xs us Q I rs q
  rcases q with q | q
  · exact h pins s σ H xs us Q I rs q
  · exact h' pins s σ H xs us Q I rs q
theorem call_list_of : CallR X (.type "list") (fun xs H Q => ∃ p ys, xs = [.ref p] ∧ (SqL X.K H p ys ∨ SqT X.K H p ys) ∧ ∀ l, H l = none → Q (.ref l) (upd H l (.lst ys))) := by
  intro pins s σ H xs us Q I r h
  obtain ⟨p, ys, rfl, hq, q⟩ := h
  obtain ⟨u, rfl, rx⟩ := vals1 r
  cases rx
  have fin : ∀ (its : List Value), Vals ys its → ys.length ≤ sizeLine → ∀ (h' : Heap) (c' : Nat), (∀ b o', s.heap.get? b = some o' → h'.get? b = some o') →
      h'.get? s.heap.objs.size = some { cls := .type "list", dict := none, data := .seq its.toArray c', slots := #[] } → EP X pins σ Q (.ref s.heap.objs.size) { s with heap := h' } := fun its r' hz h' c' kp e =>
    ⟨.ref s.heap.objs.size, _, I.laid (t' := s.toks) kp (Nat.le_refl _) (show ObjOk X.prog X.w _ h' _ (.lst ys) from ⟨hz, its, c', r', e⟩), rfl, q _ (I.hok.fresh (Nat.le_refl _))⟩
  rcases hq with hq | hq
  · obtain ⟨its, r', pl, hz⟩ := I.list hq
    have hlen := r'.length
    obtain ⟨o, ho, hc, n, hd⟩ := pl.isList
    exact call_list_seq p (.inl rfl) ho hc hd (fun h' c' kp e => fin its r' hz h' c' kp e) (by simp only [List.size_toArray] <;> omega)
  · obtain ⟨its, r', pl, hz⟩ := I.tuple hq
    have hlen := r'.length
    obtain ⟨o, ho, hc, n, hd⟩ := pl
    exact call_list_seq p (.inr rfl) ho hc hd (fun h' c' kp e => fin its r' hz h' c' kp e) (by simp only [List.size_toArray] <;> omega)
theorem call_tuple_of : CallR X (.type "tuple") (fun xs H Q => ∃ p ys, xs = [.ref p] ∧ ((SqL X.K H p ys ∧ ∀ l, H l = none → Q (.ref l) (upd H l (.tup ys))) ∨ (SqT X.K H p ys ∧ Q (.ref p) H))) := by
  intro pins s σ H xs us Q I r h
  obtain ⟨p, ys, rfl, h⟩ := h
  obtain ⟨u, rfl, rx⟩ := vals1 r
  cases rx
  rcases h with ⟨hq, q⟩ | ⟨hq, q⟩
  · obtain ⟨its, r', pl, hz⟩ := I.list hq
    have hlen := r'.length
    refine call_tuple_list pl.isList (fun h' kp => ?_) (by simp only [List.size_toArray] <;> omega)
    have I1 : Inv X pins σ H { s with heap := h' } := I.kept (t' := s.toks) kp
    have I2 : Inv X pins σ (upd H h'.objs.size (.tup ys)) { s with heap := h'.push { cls := .type "tuple", data := .seq its.toArray } } :=
      I1.laid (t' := s.toks) (fun b o e => Heap.get?_push_of_some _ e) (Nat.le_refl _) (show ObjOk X.prog X.w _ _ _ (.tup ys) from ⟨hz, its, r', IsTup.new _ _⟩)
    exact ⟨.ref h'.objs.size, _, I2, rfl, q _ (I1.hok.fresh (Nat.le_refl _))⟩
  · obtain ⟨its, r', pl, hz⟩ := I.tuple hq
    exact call_tuple_same pl ⟨.ref p, H, I, rfl, q⟩

/-! ### the call of a builtin's method: o.m(..) -/
/-- the value is of that builtin type -/
def tyV (K : PySem.W.Frag) (T : String) (x : V) (H : Hp) : Prop := match x with
  | .str _ => T = "str"
  | .int _ => T = "int"
  | .ref p => (T = "list" ∧ ∃ xs, SqL K H p xs) ∨ (T = "tuple" ∧ ∃ o, K.lookup p = some o ∧ o.cls = .type "tuple" ∧ o.dict = none) ∨
      (T = "dict" ∧ ((∃ kvs, H p = some (.dK kvs)) ∨ ∃ kvs, H p = some (.dT kvs))) ∨ (T = "set" ∧ ∃ S n, H p = some (.set S n))
  | _ => False
theorem tyV_is {pins : List (Addr × Obj)} {σ : St} {H : Hp} {s : Shared} {T : String} {x : V} {v : Value} (I : Inv X pins σ H s) (r : RelV x v) (ty : tyV X.K T x H) :
    s.TypeIs v T ∧ ∀ a, v = .ref a → ∃ ob, s.heap.get? a = some ob ∧ ob.dict = none := by
  cases x with
  | str z =>
    obtain ⟨t, rfl⟩ := r
    cases (show T = "str" from ty)
    exact ⟨typeIs_str s z t, fun _ e => nomatch e⟩
  | int i =>
    obtain ⟨t, rfl⟩ := r
    cases (show T = "int" from ty)
    exact ⟨typeIs_int s i t, fun _ e => nomatch e⟩
  | ref p =>
    cases r
    rcases ty with ⟨rfl, xs, hq⟩ | ⟨rfl, o, hk, hc, hd⟩ | ⟨rfl, hk⟩ | ⟨rfl, S, n, hk⟩
    · obtain ⟨its, _, pl, _⟩ := I.list hq
      refine ⟨pl.isList.typeIs, fun a e => ?_⟩
      cases e
      obtain ⟨o, n, e, c, hd, _⟩ := pl
      exact ⟨o, e, hd⟩
    · refine ⟨⟨o, I.kIn p o hk, hc⟩, fun a e => ?_⟩
      cases e
      exact ⟨o, I.kIn _ o hk, hd⟩
    · have z : ∃ o, s.heap.get? p = some o ∧ o.ExactDict := by
        rcases hk with ⟨kvs, hk⟩ | ⟨kvs, hk⟩
        · obtain ⟨_, _, _, _, o, _, _, e, ex, _⟩ := I.hok p _ hk
          exact ⟨o, e, ex⟩
        · obtain ⟨_, _, _, _, o, _, _, e, ex, _⟩ := I.hok p _ hk
          exact ⟨o, e, ex⟩
      obtain ⟨o, e, ex⟩ := z
      refine ⟨⟨o, e, ex.1⟩, fun a e2 => ?_⟩
      cases e2
      exact ⟨o, e, ex.2.1⟩
    · obtain ⟨o, _, _, _, e, ex, _⟩ := I.hok p _ hk
      refine ⟨⟨o, e, ex.1⟩, fun a e2 => ?_⟩
      cases e2
      exact ⟨o, e, ex.2.1⟩
  | _ => exact False.elim ty
def tBM0 (K : PySem.W.Frag) (T : String) (r : V → List V → Hp → VK → Prop) (to : TE) : TE := fun σ H Q => to σ H fun x H1 => tyV K T x H1 ∧ r x [] H1 Q
def tBM (K : PySem.W.Frag) (T : String) (r : V → List V → Hp → VK → Prop) (to : TE) (t : TA) : TE := fun σ H Q => to σ H fun x H1 => tyV K T x H1 ∧ t σ H1 fun xs H2 => r x xs H2 Q
variable {o e : Expr} {es : List Expr} {to : TE} {t : TA} {name : Str} {apos cpos : Pos} {T id : String} {r : V → List V → Hp → VK → Prop}
theorem pe_bm0 (pa : PlainAttrs T) (slot : Slot T name id) (hty : typeOf (.builtin id) = pure (.type "method_descriptor")) (hm : MtR X id r) (ho : PE X o to)
    (hbase : attributeBase o name X.env (eval o X.env) = eval o X.env := by rfl) (hline : (apos.endLine == cpos.line) = true := by rfl) : PE X (.Call (.Attribute o name apos) [] [] cpos) (tBM0 X.K T r to) := by
  intro pins s σ H Q I h
  refine wpAny_Call_method0_late hbase hline (thn (ho pins s σ H _ I h) fun v s1 ⟨x, H1, I1, r1, ty, q1⟩ => ?_)
  obtain ⟨h1, h2⟩ := tyV_is I1 r1 ty
  exact ⟨T, id, pa, slot, hty, h1, h2, Calls.callWith_builtin rfl (PySem.evalArgs_none (hm pins s1 σ H1 x [] v [] Q I1 r1 .nil q1))⟩
theorem pe_bm (pa : PlainAttrs T) (slot : Slot T name id) (hty : typeOf (.builtin id) = pure (.type "method_descriptor")) (hm : MtR X id r) (ho : PE X o to) (ha : PA X (e :: es) t)
    (hbase : attributeBase o name X.env (eval o X.env) = eval o X.env := by rfl)
    (hfew : ((backTo cpos (starEach (e :: es) X.env)).all (fun x => !x.1) && (backToKw cpos (keywordEach [] X.env)).all (fun x => x.1.isSome)
      && decide ((e :: es).length + ([] : List Keyword).length + (if ([] : List Keyword).isEmpty then 0 else 1) < 30)) = true := by rfl)
    (hline : (apos.endLine == cpos.line) = true := by rfl) (hs : starEach (e :: es) X.env = (false, eval e X.env) :: starEach es X.env := by rfl) (hplain : (backTo cpos (starEach es X.env)).any (·.1) = false := by rfl) :
    PE X (.Call (.Attribute o name apos) (e :: es) [] cpos) (tBM X.K T r to t) := by
  intro pins s σ H Q I h
  refine wpAny_Call_method_late hbase hfew hline rfl (thn (ho pins s σ H _ I h) fun v s1 ⟨x, H1, I1, r1, ty, q1⟩ => ?_)
  obtain ⟨h1, h2⟩ := tyV_is I1 r1 ty
  refine ⟨T, id, pa, slot, hty, h1, h2, ?_⟩
  have hA := ha cpos pins s1 σ H1 _ I1 q1
  rw [hs] at hA ⊢
  refine Calls.callWith_builtin (by show (false || (backTo cpos (starEach es X.env)).any (·.1)) = false; rw [hplain] <;> rfl) (Calls.evalArgs_plain ?_)
  exact thn hA fun us s2 ⟨vs, H2, I2, r2, q2⟩ => hm pins s2 σ H2 x vs v us Q I2 r1 r2 q2
/- xs.append(e), list.index on a module's tuple .. are MtR facts of 06m -/
end
end L2

namespace L2
open PySem PySem.Spec PyProof.Rows

def MtM (X : Cx) (id : String) (r : V → List V → Hp → VK → Prop) : Prop :=
  ∀ (pins : List (Addr × Obj)) (s : Shared) (σ : St) (H : Hp) (x : V) (xs : List V) (v : Value) (us : List Value) (Q : VK), Inv X pins σ H s → RelV x v → Vals xs us → r x xs H Q →
    wpAny (model X.prog X.w) X.A (call (.builtin id) (v :: us)) (EP X pins σ Q) X.xe s

/-! ### lists of values -/
theorem Vals.one : ∀ {x : V} {us : List Value}, Vals [x] us → ∃ u, us = [u] ∧ RelV x u
  | _, _, .cons r .nil => ⟨_, rfl, r⟩
theorem Vals.two : ∀ {x y : V} {us : List Value}, Vals [x, y] us → ∃ u v, us = [u, v] ∧ RelV x u ∧ RelV y v
  | _, _, _, .cons r (.cons q .nil) => ⟨_, _, rfl, r, q⟩
theorem Vals.zero : ∀ {us : List Value}, Vals [] us → us = []
  | _, .nil => rfl
theorem Vals.dropLast {xs : List V} {us : List Value} (h : Vals xs us) : Vals xs.dropLast us.dropLast := by
  induction h with
  | nil => exact .nil
  | cons r t ih =>
    cases t with
    | nil => exact .nil
    | cons q t' => exact .cons r ih
theorem Vals.eraseIdx : ∀ {xs : List V} {us : List Value} (i : Nat), Vals xs us → Vals (xs.eraseIdx i) (us.eraseIdx i)
  | _, _, _, .nil => .nil
  | _, _, 0, .cons _ t => t
  | _, _, i + 1, .cons r t => .cons r (Vals.eraseIdx i t)
theorem Vals.reverse {xs : List V} {us : List Value} (h : Vals xs us) : Vals xs.reverse us.reverse := by
  induction h with
  | nil => exact .nil
  | cons r t ih => rw [List.reverse_cons, List.reverse_cons]; exact Vals.append ih (.cons r .nil)
theorem Vals.rep {xs : List V} {us : List Value} (h : Vals xs us) : ∀ k : Nat, Vals (List.replicate k xs).flatten (List.replicate k us).flatten
  | 0 => .nil
  | k + 1 => by
    rw [List.replicate_succ, List.replicate_succ, List.flatten_cons, List.flatten_cons]
    exact Vals.append h (Vals.rep h k)
theorem erase_last {α : Type} (l : List α) : l.eraseIdx (l.length - 1) = l.dropLast := by
  induction l with
  | nil => rfl
  | cons a r ih =>
    cases r with
    | nil => rfl
    | cons b r =>
      have e : (a :: b :: r).length - 1 = ((b :: r).length - 1) + 1 := by
        have h1 : (a :: b :: r).length = r.length + 2 := rfl
        have h2 : (b :: r).length = r.length + 1 := rfl
        omega
      rw [e, List.eraseIdx_cons_succ, ih]
      all_goals rfl
section
variable {X : Cx} {pins : List (Addr × Obj)} {σ : St} {H : Hp} {s : Shared} {l b : Addr} {xs ys zs : List V}

/-! ### the two steps: a tracked list is rewritten, a new list is laid -/
theorem Inv.lset {its its' : List Value} {n : Nat} {f : Array Value → Array Value} {t' : Nat} (I : Inv X pins σ H s) (hH : H l = some (.lst xs))
    (e : s.heap.get? l = some { cls := .type "list", data := .seq its.toArray n }) (hf : f its.toArray = its'.toArray) (hv : Vals ys its') (hz : ys.length ≤ sizeLine) :
    Inv X pins σ (upd H l (.lst ys)) { s with heap := s.heap.update l (Obj.mapSeq f), toks := t' } := by
  have q := PySem.IsL.update e f
  rw [hf] at q
  refine I.write (x := l) (e := l) (by rw [hH]; exact trivial) (.inl rfl) (fun b' u hb hu => (Heap.get?_update_other s.heap (Obj.mapSeq f) (Ne.symm hb)).trans hu) ⟨_, q⟩ ?_
  exact ⟨hz, its', _, hv, q⟩
theorem Inv.lnew {its : List Value} {t' : Nat} (I : Inv X pins σ H s) (hv : Vals ys its) (hz : ys.length ≤ sizeLine) :
    Inv X pins σ (upd H s.heap.objs.size (.lst ys)) { s with heap := s.heap.push { cls := .type "list", data := .seq its.toArray }, toks := t' } :=
  I.laid (fun _ _ q => Heap.get?_push_of_some _ q) (Nat.le_refl _) ⟨hz, its, 0, hv, Heap.get?_push_size _ rfl⟩
theorem Inv.fresh (I : Inv X pins σ H s) : H s.heap.objs.size = none := I.hok.fresh (Nat.le_refl _)
theorem Inv.lstM (I : Inv X pins σ H s) (hH : H l = some (.lst xs)) : xs.length ≤ sizeLine ∧ ∃ (its : List Value) (n : Nat), Vals xs its ∧ xs.length = its.length ∧ s.heap.get? l = some { cls := .type "list", data := .seq its.toArray n } := by
  obtain ⟨z, its, n, r, e⟩ := I.hok l _ hH
  exact ⟨z, its, n, r, r.length, e⟩

theorem notLongL {n : Nat} (h : n ≤ sizeLine) : Builtin.List.listTooLong n = false := by
  unfold Builtin.List.listTooLong
  exact decide_eq_false (by omega)
end

section
variable {X : Cx}

/-! ### methods -/
def rAppend : V → List V → Hp → VK → Prop := fun x vs H Q => ∃ l xs y, x = .ref l ∧ vs = [y] ∧ H l = some (.lst xs) ∧ xs.length < sizeLine ∧ Q .non (upd H l (.lst (xs ++ [y])))
theorem mt_append : MtM X "list.append" rAppend := by
  intro pins s σ H x vs v us Q I rx rv h
  obtain ⟨l, xs, y, rfl, rfl, hH, hz, q⟩ := h
  cases rx
  obtain ⟨u, rfl, ru⟩ := rv.one
  obtain ⟨z, its, n, r, hl, e⟩ := I.lstM hH
  refine call_meets F.slot_list_append ⟨_, e, rfl⟩ F.entry_list_append (F.args_list_append_2 _ _) (PySem.list_append l its.toArray n u (by rw [List.size_toArray]; omega)) ⟨e, ?_⟩
  refine ⟨.non, _, I.lset (its' := its ++ [u]) hH e (by simp) (r.append (.cons ru .nil)) ?_, rfl, q⟩
  rw [List.length_append, List.length_singleton]
  omega

def rExtend : V → List V → Hp → VK → Prop := fun x vs H Q => ∃ l b xs zs, x = .ref l ∧ vs = [.ref b] ∧ H l = some (.lst xs) ∧ H b = some (.lst zs) ∧ xs.length + zs.length ≤ sizeLine ∧ Q .non (upd H l (.lst (xs ++ zs)))
theorem mt_extend : MtM X "list.extend" rExtend := by
  intro pins s σ H x vs v us Q I rx rv h
  obtain ⟨l, b, xs, zs, rfl, rfl, hH, hB, hz, q⟩ := h
  cases rx
  obtain ⟨u, rfl, ru⟩ := rv.one
  cases ru
  obtain ⟨z, its, n, r, hl, e⟩ := I.lstM hH
  obtain ⟨z2, its2, n2, r2, hl2, e2⟩ := I.lstM hB
  have hsz : its.toArray.size + its2.toArray.size ≤ sizeLine := by rw [List.size_toArray, List.size_toArray]; omega
  have hlong : ¬ (!its.toArray.isEmpty && Builtin.List.listTooLong (its.toArray.size + its2.toArray.size)) = true := by
    rw [notLongL hsz, Bool.and_false]
    exact Bool.false_ne_true
  refine call_meets F.slot_list_extend ⟨_, e, rfl⟩ F.entry_list_extend (F.args_list_extend_2 _ _)
    (AutoSeq1.list_extend_list_list_0 l its.toArray n b its2.toArray n2 hlong (by rw [List.size_toArray]; omega) (by omega)) ⟨e, e2, ?_⟩
  refine ⟨.non, _, I.lset (its' := its ++ its2) hH e (by simp) (r.append r2) ?_, rfl, q⟩
  rw [List.length_append]
  omega

def rPop : V → List V → Hp → VK → Prop := fun x vs H Q => ∃ l xs y, x = .ref l ∧ vs = [] ∧ H l = some (.lst xs) ∧ xs[xs.length - 1]? = some y ∧ Q y (upd H l (.lst xs.dropLast))
theorem mt_pop : MtM X "list.pop" rPop := by
  intro pins s σ H x vs v us Q I rx rv h
  obtain ⟨l, xs, y, rfl, rfl, hH, hy, q⟩ := h
  cases rx
  have hus := rv.zero
  subst hus
  obtain ⟨z, its, n, r, hl, e⟩ := I.lstM hH
  obtain ⟨u, hu, ru⟩ := r.get hy
  have hy' : its.toArray[its.toArray.size - 1]? = some u := by
    show its.toArray[its.length - 1]? = some u
    rw [← Array.getElem?_toList, ← hl]
    exact hu
  refine call_meets F.slot_list_pop ⟨_, e, rfl⟩ F.entry_list_pop (F.args_list_pop_1 _) (MeetsSeq.list_pop_last l its.toArray n u hy' (by rw [List.size_toArray]; omega)) ⟨e, ?_⟩
  refine ⟨y, _, I.lset (its' := its.dropLast) hH e ?_ r.dropLast ?_, ru, q⟩
  · show its.toArray.eraseIdxIfInBounds (its.toArray.size - 1) = its.dropLast.toArray
    rw [List.size_toArray, List.eraseIdxIfInBounds_toArray, erase_last]
  · rw [List.length_dropLast]
    omega

def rPopAt : V → List V → Hp → VK → Prop := fun x vs H Q => ∃ l xs i k y, x = .ref l ∧ vs = [.int i] ∧ H l = some (.lst xs) ∧ -(2 ^ 63) ≤ i ∧ i < 2 ^ 63 ∧ seqIndex? i xs.length = some k ∧ xs[k]? = some y ∧ Q y (upd H l (.lst (xs.eraseIdx k)))
def rReverse : V → List V → Hp → VK → Prop := fun x vs H Q => ∃ l xs, x = .ref l ∧ vs = [] ∧ H l = some (.lst xs) ∧ Q .non (upd H l (.lst xs.reverse))
def rClear : V → List V → Hp → VK → Prop := fun x vs H Q => ∃ l xs, x = .ref l ∧ vs = [] ∧ H l = some (.lst xs) ∧ Q .non (upd H l (.lst []))
/-! ### list + list, list += list, list * int -/
def rCat : R2 := fun x y H Q => ∃ l b xs zs, x = .ref l ∧ y = .ref b ∧ H l = some (.lst xs) ∧ H b = some (.lst zs) ∧ xs.length + zs.length ≤ sizeLine ∧ ∀ p, H p = none → Q (.ref p) (upd H p (.lst (xs ++ zs)))
theorem op_cat : OpR X (binaryOp .Add) rCat := by
  intro pins s σ H x y v u Q I rx ry h
  obtain ⟨l, b, xs, zs, rfl, rfl, hH, hB, hz, q⟩ := h
  cases rx
  cases ry
  obtain ⟨z, its, n, r, hl, e⟩ := I.lstM hH
  obtain ⟨z2, its2, n2, r2, hl2, e2⟩ := I.lstM hB
  refine PySem.P.add_list e e2 ?_ (by rw [List.size_toArray, List.size_toArray]; omega)
  have ea : its.toArray ++ its2.toArray = (its ++ its2).toArray := by simp
  rw [ea]
  exact ⟨.ref _, _, I.lnew (t' := s.toks) (r.append r2) (by rw [List.length_append]; omega), rfl, q _ I.fresh⟩
/-- a list times an int (a negative one is nothing) -/
def rRep : R2 := fun x y H Q => ∃ l k xs, x = .ref l ∧ y = .int k ∧ H l = some (.lst xs) ∧ -(2 ^ 63) ≤ k ∧ k < 2 ^ 63 ∧ xs.length * k.toNat ≤ sizeLine ∧
  ∀ p, H p = none → Q (.ref p) (upd H p (.lst (List.replicate k.toNat xs).flatten))
theorem len_rep {α : Type} (xs : List α) (k : Nat) : (List.replicate k xs).flatten.length = k * xs.length := by
  induction k with
  | zero => simp
  | succ k ih => rw [List.replicate_succ, List.flatten_cons, List.length_append, ih, Nat.succ_mul, Nat.add_comm]
/-! ### del xs[i] -/
end

/-! ### xs[a:b] = ys -/
section
variable {prog : Program} {w : World} {A : Around} {E : Value → Shared → Prop} {s : Shared}
end

section
variable {X : Cx}
end
end L2

namespace Att
open PySem PySem.W PySem.Calls PyProof.Rows

/-! ### the script -/
theorem ints_of_wellAll {P : Params} {h : Heap} : ∀ (ns : List Int) (vs : List Value), WellAll P h vs (ns.map WData.int) → IntsAre vs ns := by
  intro ns
  induction ns with
  | nil =>
    intro vs w
    rw [List.map_nil] at w
    cases w
    exact .nil
  | cons n ns ih =>
    intro vs w
    rw [List.map_cons] at w
    cases w with
    | cons a b =>
      cases a
      exact .cons _ _ (ih _ b)

theorem script_of {l : OpenLaw} {n : Nat} (hn : l.most = some n) {P : Params} {h : Heap} {args : List WData} {vals : List Value}
    (hpre : l.row.toRowW.claim.pre args = true) (hwl : WellAll P h vals args) :
    ∃ a vs ns, vals = [Value.ref a] ∧ args = [WData.list (ns.map WData.int)] ∧ h.get? a = some { cls := .type "list", data := .seq vs.toArray } ∧ IntsAre vs ns ∧ ns.length ≤ n := by
  have hsh : WShape.hasAll [] args [.list .int] = true := (pre_splitW hpre).1
  have hc : l.pre.holds [] { args := args } = true := (pre_splitW hpre).2
  obtain ⟨d, r, rfl, h1, h2⟩ := hasAllW_cons hsh
  obtain rfl := hasAllW_nil h2
  obtain ⟨xs, rfl, h3⟩ := hasW_list h1
  obtain ⟨ns, rfl⟩ := items_int h3
  have hlen : ns.length ≤ n := by
    unfold OpenLaw.pre at hc
    have h4 : (WTm.not (.lt (.lit (.int (n : Int))) (.len (.arg 0)))).holds [] { args := [.list (ns.map .int)] } = true := by
      have h4 := (holds_andW hc).1
      rw [hn] at h4
      exact h4
    have h5 := condW_of h4 (w_not (w_lt w_lit (w_len_list (w_arg rfl))))
    rw [List.length_map] at h5
    refine Nat.le_of_not_lt fun q => ?_
    have q' : (n : Int) < ((ns.length : Nat) : Int) := by omega
    first
      | (rw [decide_eq_true q'] at h5; exact absurd h5 (by decide))
      | (simp at h5; omega)
  cases hwl with
  | cons w1 w2 =>
    cases w2
    cases w1 with
    | list ho hall => exact ⟨_, _, ns, rfl, rfl, ho, ints_of_wellAll ns _ hall, hlen⟩

theorem post_true (l : OpenLaw) (args : List WData) : l.row.toRowW.claim.post args (.bool true) args = true :=
  postW_of (r := l.row.toRowW) (X := (true == true))
    (show WShape.has [] (.bool true) .bool = true by first | rfl | decide | simp [WShape.has, WShape.arms, WShape.armsAll])
    (show (WTm.eq .res (.lit (.bool true))).value [] { args := args, res := some (.bool true), after := args } = some (.bool (true == true)) from w_eq_bool (w_res rfl) w_lit) rfl

/-! ### the attachment: holds_open's last premise (the goal 'hc' behind k_head) from a wpAny of the law's body -/
/-- the same from a codeAny of the CALL (for a layer whose function contracts speak of calls) -/
theorem attach_call {l : OpenLaw} {n : Nat} {q : Program} {loose : List Str} {XP : (Str → Option Value) → Heap → Prop} {YP : World → Heap → Prop} {d : DefRec}
    (hn : l.most = some n) (hdf : d.params.defaults = [])
    (call : ∀ (w : World) (s₀ s₁ : Shared) (mg mb : Str → Option Value) (fa : Addr) (o : Obj) (pm cd doc : Value) (a : Addr) (vs : List Value) (ns : List Int),
      Ground q loose [] XP w s₀ mg mb s₁.heap → YP w s₁.heap →
      s₁.heap.get? fa = some o → o.data = .func (docDef d.name d.params d.body d.scope pm cd doc) → s₁.heap.CodeRec cd d.name → mg d.name = some (.ref fa) →
      s₁.heap.get? a = some { cls := .type "list", data := .seq vs.toArray } → IntsAre vs ns → ns.length ≤ n → s₁.gens = #[] →
      codeAny (model l.prog w) callerA (.call (.ref fa) ⟨[.ref a], []⟩) (fun r s' => r = .ok (.ret (.bool true)) ∧ OldK s₁.heap s'.heap ∧ s'.os = s₁.os ∧ AllBare s'.gens) s₁) :
    WalkO q loose XP YP l.row.toRowW d [] (fun f vs => PySem.call f vs) := by
  intro w s₀ s₁ mg mb G Y fa o pm cd doc dV kV ho hd hcd hD hmg hg args vals as hpre hlay hrd hwl hlo
  obtain rfl : dV = .none := Dflts.none hD hdf
  obtain rfl : kV = .none := Dflts.noKw hD
  obtain ⟨a, vs, ns, rfl, rfl, hobj, hints, hlen⟩ := script_of hn hpre hwl
  refine enter_call (codeAny_mono (call w s₀ s₁ mg mb fa o pm cd doc a vs ns G Y ho (fd_plain hd) hcd hmg hobj hints hlen hg) fun r s' hq => ?_)
  obtain ⟨rfl, h2, h3, h4⟩ := hq
  exact ⟨.inl ⟨.bool true, .bool true, [], rfl, fun _ => rfl, .bool true, post_true l _, fun _ => ⟨List.Pairwise.nil, fun _ hm => (nomatch hm)⟩⟩, h2, h3, h4⟩

/-! ### rules over ANY heap (no ledger) from facts about the written part K: the library's own take a ledger (News) for what they write -/
section
variable {prog : Program} {w : World} {A : Around} {E : Value → Shared → Prop} {s : Shared} {K : Frag}

/-! the whole heap as the ledger: makes every rule that writes through a ledger a rule over any heap -/
def noObjs (h : Heap) : Heap := { h with objs := #[] }
def ledger (h : Heap) (L d : Addr) : List (Addr × Obj) := (List.range h.objs.size).filterMap fun a => if a = L ∨ a = d then none else (h.get? a).map fun o => (a, o)
end
end Att

namespace L2
open PySem PySem.Spec PyProof.Rows

theorem vals_ints : ∀ {vs : List Value} {ns : List Int}, IntsAre vs ns → Vals (ns.map V.int) vs
  | _, _, .nil => .nil
  | _, _, .cons n t h => .cons ⟨t, rfl⟩ (vals_ints h)

/-- nothing is tracked but the script, known to the object (or it is an object of the module) -/
def Only (H : Hp) : Prop := ∀ b, H b = none ∨ ∃ o xs, H b = some (.frz o (.lst xs))

/-- THE HEAD: the law's promise, at the heap behind the top. F, the promise of the law's def, may use that base is part of the heap (so K.In base, base.Ns mainGlobals mg stand in Mod) -/
theorem law_call {P : Program} {w : World} {K : PySem.W.Frag} {mg mb : Str → Option Value} {CX : CXT} {k : Nat} {fa a : Addr} {fd : FuncData} {x : Str} {sp : Sp} {s₁ : Shared} {vs : List Value} {ns : List Int}
    (KX : K.In s₁.heap) (hns : s₁.heap.Ns mainGlobals mg) (hb : s₁.heap.Ns builtinsNs mb) (hbb : ∀ x : Str, x ≠ "__name__" → mb x = bootBuiltins x) (hlim : s₁.heap.NoLimit) (hg : s₁.gens = #[])
    (ha : s₁.heap.get? a = some { cls := .type "list", data := .seq vs.toArray }) (hi : IntsAre vs ns) (hl : ns.length ≤ sizeLine) (hr : Room k callerA)
    (F : ∀ base : Heap, K.In base → base.Ns mainGlobals mg → FnOk P w K mg base CX k fa fd [x] sp) (hbind : ∀ (s : Shared) (u : Value), BindsTo s fd ⟨[u], []⟩ [(x, u)])
    (hsp : ∀ H : Hp, Only H → SqL K H a (ns.map V.int) → sp [.ref a] H (fun v _ => v = .bl true) fun _ _ _ => False)
    (hCX : ∀ H e s', CX [] H s₁ (fun _ _ _ => False) e s' → False) :
    codeAny (model P w) callerA (.call (.ref fa) ⟨[.ref a], []⟩) (fun r s' => r = .ok (.ret (.bool true)) ∧ OldK s₁.heap s'.heap ∧ s'.os = s₁.os ∧ AllBare s'.gens) s₁ := by
  have rv := vals_ints hi
  have lenV := hi.length
  -- from an abstract heap in which nothing but the script may be tracked
  have core : ∀ H : Hp, Only H → SqL K H a (ns.map V.int) → HOk P w H s₁.heap → (∀ b, H b ≠ none → b = a) → (H a ≠ none → K.lookup a = none) →
      codeAny (model P w) callerA (.call (.ref fa) ⟨[.ref a], []⟩) (fun r s' => r = .ok (.ret (.bool true)) ∧ OldK s₁.heap s'.heap ∧ s'.os = s₁.os ∧ AllBare s'.gens) s₁ := by
    intro H hO hS hok hA hK
    have base_of : ∀ {b : Addr} {o : Obj}, s₁.heap.get? b = some o → H b = none → (hidT s₁.heap H).get? b = some o := fun e n => hidT_get e n
    have noA : ∀ {b : Addr} {o : Obj} {es : Array DictEntry} {ep : Nat}, s₁.heap.get? b = some o → o.data = .dict es ep → H b = none := fun {b o es ep} e d => by
      cases q : H b with
      | none => rfl
      | some u =>
        have e' : b = a := hA b (by rw [q]; simp)
        subst e'
        rw [ha] at e; cases e
        have d' : Data.seq vs.toArray _ = Data.dict es ep := d
        cases d'
    have nsK : ∀ {b : Addr} {m : Str → Option Value}, s₁.heap.Ns b m → (hidT s₁.heap H).Ns b m := fun {b m} ⟨o, es, ep, e, d, r⟩ => ⟨o, es, ep, base_of e (noA e d), d, r⟩
    have hKb : K.In (hidT s₁.heap H) := fun b o e => base_of (KX b o e) (by
      cases q : H b with
      | none => rfl
      | some u =>
        have e' : b = a := hA b (by rw [q]; simp)
        subst e'
        rw [hK (by rw [q]; simp)] at e; cases e)
    have hM : Mod K mg (hidT s₁.heap H) := ⟨hKb, nsK hns, ⟨mb, nsK hb, hbb⟩, let ⟨mc, h1, h2⟩ := hlim; ⟨mc, nsK h1, h2⟩⟩
    have e0 : Env0 P w K mg (hidT s₁.heap H) callerA [] s₁ H := ⟨rfl, hM, fun b o e => of_hidT e, Nat.le_of_eq (hidT_size _ _), trivial, fun b hb => absurd (show b ∈ ([] : List Addr) from hb) (by simp), hok, .of_eq hg⟩
    refine codeAny_mono ((F _ hKb (nsK hns)).run callerA [] s₁ H ⟨[.ref a], []⟩ [.ref a] [.ref a] _ _ hr e0 (hbind s₁ (.ref a)) (.cons rfl .nil) (hsp H hO hS)) fun r s' h => ?_
    cases r with
    | error e => exact (hCX H e s' h).elim
    | ok fl =>
      cases fl with
      | next => exact False.elim h
      | brk => exact False.elim h
      | cont => exact False.elim h
      | ret u =>
        obtain ⟨v, H', os, bare, un, hok', r', q⟩ := h
        have q' : v = .bl true := q
        subst q'
        obtain rfl : u = Value.bool true := r'
        refine ⟨rfl, OldK.of_keep fun b o e => ?_, os, bare⟩
        cases q : H b with
        | none => exact un.keep b o e q (by intro z; exact absurd (show b ∈ ([] : List Addr) from z) (by simp)) (by simp)
        | some u =>
          rcases hO b with z | ⟨ob, xs, z⟩
          · rw [q] at z; cases z
          · have z2 := un.frzs b ob _ z
            obtain ⟨e1, _⟩ := hok b _ z
            obtain ⟨e2, _⟩ := hok' b _ z2
            rw [e] at e1; cases e1
            exact e2
  cases hk : K.lookup a with
  | some o =>
    -- the script is one of the module's own objects
    have e := KX a o hk
    rw [ha] at e
    cases e
    refine core (fun _ => none) (fun _ => .inl rfl) (.inr ⟨_, vs.toArray, _, hk, rfl, rfl, rfl, by rw [List.size_toArray, lenV]; exact hl, by simpa using rv⟩) (fun b u z => by have z' : (none : Option HO) = some u := z; cases z') (fun b z => absurd rfl z) fun z => absurd rfl z
  | none =>
    refine core (fun b => if b = a then some (.frz { cls := .type "list", data := .seq vs.toArray } (.lst (ns.map V.int))) else none) (fun b => ?_) (.inl (.inr ⟨{ cls := .type "list", data := .seq vs.toArray }, if_pos rfl⟩)) (fun b u z => ?_) (fun b z => ?_) fun _ => hk
    · by_cases hb : b = a
      · exact .inr ⟨_, _, if_pos hb⟩
      · exact .inl (if_neg hb)
    · by_cases hb : b = a
      · have z' := (if_pos hb).symm.trans z
        cases z'
        subst hb
        exact ⟨ha, by rw [List.length_map]; exact hl, vs, _, rv, ha⟩
      · have z' := (if_neg hb).symm.trans z
        cases z'
    · by_cases hb : b = a
      · exact hb
      · exact absurd (if_neg hb) z
end L2

namespace L2
open PySem PySem.Spec PyProof.Rows

abbrev KOf {K : PySem.W.Frag} {h : Heap} (_ : K.In h) : PySem.W.Frag := K

/-- the goal that k_head leaves (case hc), from the law's promise. F gives the function object fd (K's own) once, then the promise over every base -/
theorem walk_of {l : PySem.W.OpenLaw} {n k : Nat} {q : Program} {loose : List Str} {XP : (Str → Option Value) → Heap → Prop} {YP : World → Heap → Prop} {d : DefRec} {K : Params → PySem.W.Frag} {CX : World → CXT} {sp : World → Sp} {x : Str}
    (hn : l.most = some n) (hn2 : n ≤ sizeLine) (hdf : d.params.defaults = []) (hr : Room k callerA)
    (hY : ∀ (w : World) (h : Heap), YP w h → (K w.params).In h)
    (F : ∀ (w : World) (mg : Str → Option Value) (fa : Addr) (h : Heap), (K w.params).In h → h.Ns mainGlobals mg → mg d.name = some (.ref fa) →
      ∃ fd : FuncData, (∀ (s : Shared) (u : Value), BindsTo s fd ⟨[u], []⟩ [(x, u)]) ∧
        ∀ base : Heap, (K w.params).In base → base.Ns mainGlobals mg → FnOk l.prog w (K w.params) mg base (CX w) k fa fd [x] (sp w))
    (hsp : ∀ (w : World) (H : Hp) (a : Addr) (ns : List Int), ns.length ≤ n → Only H → SqL (K w.params) H a (ns.map V.int) → sp w [.ref a] H (fun v _ => v = .bl true) fun _ _ _ => False)
    (hCX : ∀ (w : World) (H : Hp) (s : Shared) (e : Value) (s' : Shared), CX w [] H s (fun _ _ _ => False) e s' → False) :
    PySem.W.WalkO q loose XP YP l.row.toRowW d [] (fun f vs => PySem.call f vs) := by
  refine Att.attach_call hn hdf fun w s₀ s₁ mg mb fa o pm cd doc a vs ns G Y ho hd hcd hmg hobj hints hlen hg => ?_
  have KX := hY w _ Y
  obtain ⟨fd, hb, hF⟩ := F w mg fa _ KX G.T.g hmg
  exact law_call KX G.T.g G.T.b G.T.builtins G.T.nolimit hg hobj hints (Nat.le_trans hlen hn2) hr hF hb (fun H hO hS => hsp w H a ns hlen hO hS) fun H e s' => hCX w H s₁ e s'
end L2

/- THE LAST THEOREM (shape; LID, My.* are yours):
   My.Adr: a structure of the addresses that your layer names (classes, functions); My.Txt K t: a structure (Prop) of the equations over K;
   My.txt_mk : {K} {implicit addresses ..} (e1 : nsIn K mainGlobals "law" = some (some (.ref f))) (e2 : K.lookup f = some ⟨oc, od, .func (fnOf "law" "law" params body scope dV kV doc pm an cdv ct), sl⟩) (e3 : codeIn K cdv "law" = true) .. : ∃ t, My.Txt K t

set_option maxRecDepth 100000 in
set_option maxHeartbeats 0 in
theorem PySem.Challenge.cw_LID_holds : PySem.Challenge.rw_LID.Holds := by
  w_on; o_law; k_head; (case hw => w_witness2)
  k_fill
  refine L2.walk_of (l := PySem.Challenge.rw_LID) (n := 63) (k := 40) (x := "script") (CX := fun w => ..) (sp := fun _ => My.sp_law) rfl (by decide) rfl ⟨rfl, by decide, by decide⟩ (fun w h Y => PySem.W.kIn_of Y) ?F ?S ?C
  case F =>
    intro w mg fa h KX G hmg
    have T : ∃ t, My.Txt (L2.KOf KX) t := by
      dsimp only [L2.KOf]                          -- K must stand as «<heap const> w.params» for k_is
      refine' My.txt_mk ?e1 ?e2 ?e3 ..
      (case e1 => PySem.W.k_is)                    -- in the order: a name -> its address -> its object -> its parts
      (case e2 => PySem.W.k_is)
      ..
    obtain ⟨t, T⟩ := T
    have e0 := hmg.symm.trans (PySem.W.mg_of KX G T.law)
    cases e0                                       -- fa is the law's own address
    exact ⟨_, fun s u => .of_eq rfl, fun base kb nb => My.law_fn T kb nb⟩     -- if «.of_eq rfl» comes too early: refine' ⟨_, ?b, fun base kb nb => My.law_fn T kb nb⟩; exact fun s u => .of_eq rfl
  case S => exact fun w H a ns hl hO hS => ..
  case C => exact ..
(the tactic k_is has no namespace: write k_is) -/

/-! SHORT WORDS over the layer: a def of the text, its body, what a loop and a test want. -/
namespace L2
open PySem PySem.Spec PyProof.Rows

/-! ### the text by places -/
/-- the j-th statement of a class's body -/
def inClass (s : Stmt) (j : Nat) : Stmt := match s with
  | .ClassDef _ _ _ body _ _ _ _ _ _ _ => body.getD j (.Pass ⟨0, 0, 0, 0⟩)
  | _ => .Pass ⟨0, 0, 0, 0⟩
def defArgs (s : Stmt) : Arguments := match s with
  | .FunctionDef _ a _ _ _ _ _ _ _ _ => a
  | _ => { posonlyargs := [], args := [], vararg := none, kwonlyargs := [], kw_defaults := [], kwarg := none, defaults := [] }
def defBody (s : Stmt) : List Stmt := match s with
  | .FunctionDef _ _ b _ _ _ _ _ _ _ => b
  | _ => []
def defScope (s : Stmt) : Scope := match s with
  | .FunctionDef _ _ _ _ _ _ sc _ _ _ => sc
  | _ => { kind := .function, names := [], isGenerator := false, isCoroutine := false }

/-! ### no exception leaves a def -/
abbrev CX0 : CXT := fun _ _ _ _ _ _ => False
abbrev E0 : XK := fun _ _ _ => False
theorem pass0 {X : Cx} : Passes CX0 X E0 := fun _ _ _ _ _ _ _ h => h.elim

/-! ### a def (or method) of the text as it stands behind the top -/
structure Fun (K : PySem.W.Frag) (x qual : Str) (st : Stmt) (f : Addr) (fd : FuncData) : Prop where
  ex : ∃ (oc : Value) (od : Option Addr) (kV doc pm : Value) (an : Option Addr) (cdv ct : Value) (osl : Array (Option Value)),
    fd = PySem.W.fnOf x qual (defArgs st) (defBody st) (defScope st) .none kV doc pm an cdv ct ∧ K.lookup f = some ⟨oc, od, .func fd, osl⟩ ∧ PySem.W.codeIn K cdv qual = true
  kp : PySem.W.keepIn K (.ref f) = true
section
variable {P : Program} {w : World} {K : PySem.W.Frag} {mg : Str → Option Value} {base : Heap}
/-- THE RULE for a def: its body as a term of rules, and the reading of that term -/
theorem Fun.ok {x qual : Str} {st : Stmt} {f : Addr} {fd : FuncData} {N ps : List Str} {k : Nat} {sp : Sp} (F : Fun K x qual st f fd) (S : FnScope N ps (defScope st)) (len : ∀ vs H Q E, sp vs H Q E → vs.length = ps.length)
    (hbody : ∀ (cdv : Value) (A : Around) (outer : List Env) (s : Shared) (H : Hp) (vs : List V) (Q : VK) (E : XK), Room k (A.deeper (envOfC qual (defScope st) s.heap.objs.size f cdv)) → sp vs H Q E →
      ∃ t, PSs (cxOf CX0 P w K mg base N qual (defScope st) f cdv A outer s H E).nox (defBody st) t ∧ t { nx := fun _ H' => Q .non H', rt := Q } (start N vs) H) : FnOk P w K mg base CX0 (k + 1) f fd ps sp := by
  obtain ⟨oc, od, kV, doc, pm, an, cdv, ct, osl, rfl, lk, hcd⟩ := F.ex
  refine fn_of lk hcd S len fun A outer s H vs Q E hr hsp => ?_
  obtain ⟨t, h, q⟩ := hbody cdv A outer s H vs Q E hr hsp
  exact ⟨t, h.nox, q⟩
/-- how its arguments bind (no defaults): h is «fun _ _ _ _ _ _ us hl => match us, hl with | [_, _], _ => rfl», one _ a parameter -/
theorem Fun.binds {x qual : Str} {st : Stmt} {f : Addr} {fd : FuncData} {ps : List Str} (F : Fun K x qual st f fd)
    (h : ∀ (kV doc pm : Value) (an : Option Addr) (cdv ct : Value) (us : List Value), us.length = ps.length → bindArgs (PySem.W.fnOf x qual (defArgs st) (defBody st) (defScope st) .none kV doc pm an cdv ct) ⟨us, []⟩ = pure (ps.zip us)) : Binds K fd ps [] := by
  obtain ⟨oc, od, kV, doc, pm, an, cdv, ct, osl, rfl, lk, hcd⟩ := F.ex
  exact .all (h kV doc pm an cdv ct)
theorem fun_mk {x qual : Str} {st : Stmt} {f : Addr} {oc : Value} {od an : Option Addr} {osl : Array (Option Value)} {kV doc pm cdv ct : Value} (l : K.lookup f = some ⟨oc, od, .func (PySem.W.fnOf x qual (defArgs st) (defBody st) (defScope st) .none kV doc pm an cdv ct), osl⟩)
    (c : PySem.W.codeIn K cdv qual = true) (k : PySem.W.keepIn K (.ref f) = true) : Fun K x qual st f (PySem.W.fnOf x qual (defArgs st) (defBody st) (defScope st) .none kV doc pm an cdv ct) := ⟨⟨oc, od, kV, doc, pm, an, cdv, ct, osl, rfl, l, c⟩, k⟩
end
theorem hu_of {A : Around} {k : Nat} (hr : Room k A) : A.units + 1 < cLine := Nat.lt_of_le_of_lt (Nat.add_le_add_left (by decide : 1 ≤ 64) _) hr.units
/-! ### expressions in short: the name that stands in the i-th slot -/
section
variable {X : Cx}
theorem pv (i : Nat) {x : Str} {pos : Pos} (hN : X.N[i]? = some x := by rfl) (hv : Vis X.env.scope x := by first | exact Or.inl rfl | exact Or.inr (Or.inl rfl) | exact Or.inr (Or.inr rfl)) (hd : (x == ("__debug__" : Str)) = false := by decide)
    (hcd : (x == ("__classdict__" : Str)) = false := by decide) : PE X (.Name x pos) (tVar i) := pe_var hN hv hd hcd
end

/-! ### tests -/
theorem iteF {A B : Prop} (h : B) : if false = true then A else B := by
  rw [if_neg Bool.false_ne_true]
  exact h
theorem iteT {A B : Prop} (h : A) : if true = true then A else B := by
  rw [if_pos rfl]
  exact h
theorem ite2 {c A B : Prop} [Decidable c] (h1 : c → A) (h2 : ¬ c → B) : if c then A else B := by
  by_cases h : c
  · rw [if_pos h]
    exact h1 h
  · rw [if_neg h]
    exact h2 h
/-! ### heaps -/
/-- all that was tracked is as it was -/
def Same (H H' : Hp) : Prop := ∀ b o, H b = some o → H' b = some o
theorem Same.refl (H : Hp) : Same H H := fun _ _ h => h
theorem Same.trans {H H1 H2 : Hp} (a : Same H H1) (b : Same H1 H2) : Same H H2 := fun c o h => b c o (a c o h)
theorem Same.free {H H' : Hp} (e : Same H H') {l : Addr} (h : H' l = Option.none) : H l = Option.none := by
  cases q : H l with
  | none => rfl
  | some o =>
    rw [e l o q] at h
    cases h
theorem Same.seq {K : PySem.W.Frag} {H H' : Hp} {a : Addr} {xs : List V} (e : Same H H') (h : SqL K H a xs) : SqL K H' a xs := by
  rcases h with (h | ⟨o, h⟩) | h
  · exact .inl (.inl (e _ _ h))
  · exact .inl (.inr ⟨o, e _ _ h⟩)
  · exact .inr h

end L2

set_option Elab.async false
set_option linter.all false
set_option maxRecDepth 100000
namespace L2
open PySem PySem.Spec PyProof.Rows

/-! ### lists of pairs as tables -/
section
variable {κ : Type} [DecidableEq κ]
def valV (kvs : List (κ × V)) (k : κ) : Option V := (kvs.find? fun kv => decide (kv.1 = k)).map (·.2)
/-- in its place, or at the end -/
def putK (kvs : List (κ × V)) (k : κ) (v : V) : List (κ × V) :=
  if (kvs.any fun kv => decide (kv.1 = k)) = true then kvs.map (fun kv => if kv.1 = k then (kv.1, v) else kv) else kvs ++ [(k, v)]
def dropK (kvs : List (κ × V)) (k : κ) : List (κ × V) := kvs.filter fun kv => decide (kv.1 ≠ k)

theorem valV_pos {p : κ × V} {r : List (κ × V)} {k : κ} (e : p.1 = k) : valV (p :: r) k = some p.2 := by simp [valV, List.find?_cons, e]
theorem valV_neg {p : κ × V} {r : List (κ × V)} {k : κ} (e : ¬ p.1 = k) : valV (p :: r) k = valV r k := by simp [valV, List.find?_cons, e]
theorem valV_any (k : κ) : ∀ kvs : List (κ × V), (kvs.any fun kv => decide (kv.1 = k)) = (valV kvs k).isSome
  | [] => rfl
  | p :: r => by
    rw [List.any_cons]
    by_cases e : p.1 = k
    · simp only [valV_pos e, decide_eq_true e, Bool.true_or, Option.isSome_some]
    · rw [valV_neg e, decide_eq_false e, Bool.false_or]; exact valV_any k r
theorem length_putK (kvs : List (κ × V)) (k : κ) (v : V) : (putK kvs k v).length ≤ kvs.length + 1 := by
  unfold putK
  split
  · rw [List.length_map]; omega
  · rw [List.length_append, List.length_cons, List.length_nil]; omega
theorem putK_new {kvs : List (κ × V)} {k : κ} (v : V) (h : valV kvs k = none) : putK kvs k v = kvs ++ [(k, v)] := by
  unfold putK
  rw [valV_any, h]
  exact if_neg (by decide)

theorem RelO.isSome_eq {o : Option V} {u : Option Value} (r : RelO o u) : o.isSome = u.isSome := by
  cases o with
  | none => cases u with
    | none => rfl
    | some _ => exact (show False from r).elim
  | some _ => cases u with
    | none => exact (show False from r).elim
    | some _ => rfl
theorem RelO.getD {o : Option V} {u : Option Value} {d : V} {d' : Value} (r : RelO o u) (rd : RelV d d') : RelV (o.getD d) (u.getD d') := by
  cases o with
  | none => cases u with
    | none => exact rd
    | some _ => exact (show False from r).elim
  | some _ => cases u with
    | none => exact (show False from r).elim
    | some _ => exact r

/-- raw tables of the same keys -/
theorem KV.val {kvs : List (κ × V)} {vs : List (κ × Value)} (r : KV kvs vs) (k : κ) : RelO (valV kvs k) (valueAt vs k) := by
  unfold KV at r
  induction r with
  | nil => exact True.intro
  | @cons p q ps qs h t ih =>
    obtain ⟨h1, h2⟩ := h
    by_cases e : p.1 = k
    · have e' : q.1 = k := h1.symm.trans e
      have b : valueAt (q :: qs) k = some q.2 := by simp [valueAt, List.find?_cons, e']
      rw [valV_pos e, b]; exact h2
    · have e' : ¬ q.1 = k := fun z => e (h1.trans z)
      have b : valueAt (q :: qs) k = valueAt qs k := by simp [valueAt, List.find?_cons, e']
      rw [valV_neg e, b]; exact ih
theorem KV.any {kvs : List (κ × V)} {vs : List (κ × Value)} (r : KV kvs vs) (k : κ) : (kvs.any fun kv => decide (kv.1 = k)) = vs.any fun kv => decide (kv.1 = k) := by
  unfold KV at r
  induction r with
  | nil => rfl
  | cons h t ih => rw [List.any_cons, List.any_cons, ih, h.1]
theorem KV.repl {kvs : List (κ × V)} {vs : List (κ × Value)} (r : KV kvs vs) (k : κ) {y : V} {u : Value} (ry : RelV y u) :
    KV (kvs.map fun kv => if kv.1 = k then (kv.1, y) else kv) (vs.map fun kv => if kv.1 = k then (kv.1, u) else kv) := by
  unfold KV at r ⊢
  induction r with
  | nil => exact .nil
  | @cons p q ps qs h t ih =>
    rw [List.map_cons, List.map_cons]
    refine .cons ?_ ih
    obtain ⟨h1, h2⟩ := h
    by_cases e : p.1 = k
    · rw [if_pos e, if_pos (h1.symm.trans e)]; exact ⟨h1, ry⟩
    · rw [if_neg e, if_neg (fun z => e (h1.trans z))]; exact ⟨h1, h2⟩
theorem KV.put {kvs : List (κ × V)} {vs : List (κ × Value)} (r : KV kvs vs) (k : κ) {y : V} {u : Value} (ry : RelV y u) : KV (putK kvs k y) (stored vs k u) := by
  unfold putK stored
  rw [r.any k]
  by_cases e : (vs.any fun kv => decide (kv.1 = k)) = true
  · rw [if_pos e, if_pos e]; exact r.repl k ry
  · rw [if_neg e, if_neg e]; exact Paired.snoc r ⟨rfl, ry⟩
theorem KV.drop {kvs : List (κ × V)} {vs : List (κ × Value)} (r : KV kvs vs) (k : κ) : KV (dropK kvs k) (without vs k) := by
  unfold KV at r ⊢
  unfold dropK without
  induction r with
  | nil => exact .nil
  | @cons p q ps qs h t ih =>
    obtain ⟨h1, h2⟩ := h
    rw [List.filter_cons, List.filter_cons]
    by_cases e : p.1 = k
    · have a : ¬ decide (p.1 ≠ k) = true := by simp [e]
      have b : ¬ decide (q.1 ≠ k) = true := by simp [h1.symm.trans e]
      rw [if_neg a, if_neg b]; exact ih
    · have e' : ¬ q.1 = k := fun z => e (h1.trans z)
      have a : decide (p.1 ≠ k) = true := by simp [e]
      have b : decide (q.1 ≠ k) = true := by simp [e']
      rw [if_pos a, if_pos b]; exact .cons ⟨h1, h2⟩ ih
theorem KV.keys {kvs : List (κ × V)} {vs : List (κ × Value)} (r : KV kvs vs) : kvs.map (·.1) = vs.map (·.1) := by
  unfold KV at r
  induction r with
  | nil => rfl
  | cons h t ih => rw [List.map_cons, List.map_cons, ih, h.1]
theorem KV.length {kvs : List (κ × V)} {vs : List (κ × Value)} (r : KV kvs vs) : kvs.length = vs.length := Paired.length r
end


/-! ### a tracked dict, its keys ints and texts or tuples of these -/
theorem kV_is {P : Program} {w : World} {k : Key} {u : Value} (r : RelV (kV k) u) : (mixKind P w).is k u = true := by
  cases k with
  | inl i => obtain ⟨t, e⟩ := (show ∃ t, u = Value.int i t from r); subst e; exact mixKind_int P w i t
  | inr x => obtain ⟨t, e⟩ := (show ∃ t, u = Value.str x t from r); subst e; exact mixKind_str P w x t
theorem items_are {P : Program} {w : World} : ∀ {ks : List Key} {us : List Value}, Vals (ks.map kV) us → ItemsAre (mixKind P w) ks us
  | [], _, r => by rw [List.map_nil] at r; cases r; exact .nil
  | k :: ks, _, r => by
    rw [List.map_cons] at r
    cases r with
    | cons h t => exact .cons (kV_is h) (items_are t)

/-- raw entries of a dict with tuple keys -/
abbrev KT (H : Hp) : List (List Key × V) → List (List Key × Addr × Value) → Prop := Paired fun p q => p.1 = q.1 ∧ H q.2.1 = some (.tup (p.1.map kV)) ∧ RelV p.2 q.2.2
theorem KT.val {H : Hp} {kvs : List (List Key × V)} {xs : List (List Key × Addr × Value)} (r : KT H kvs xs) (k : List Key) : RelO (valV kvs k) ((atKey xs k).map (·.2)) := by
  induction r with
  | nil => exact True.intro
  | @cons p q ps qs h t ih =>
    obtain ⟨h1, _, h2⟩ := h
    by_cases e : p.1 = k
    · have e' : q.1 = k := h1.symm.trans e
      have b : atKey (q :: qs) k = some q.2 := by simp [atKey, List.find?_cons, e']
      rw [valV_pos e, b]; exact h2
    · have e' : ¬ q.1 = k := fun z => e (h1.trans z)
      have b : atKey (q :: qs) k = atKey qs k := by simp [atKey, List.find?_cons, e']
      rw [valV_neg e, b]; exact ih
theorem KT.repl {H : Hp} {kvs : List (List Key × V)} {xs : List (List Key × Addr × Value)} (r : KT H kvs xs) (k : List Key) {y : V} {u : Value} (ry : RelV y u) :
    KT H (kvs.map fun kv => if kv.1 = k then (kv.1, y) else kv) (xs.map (putAt k u)) := by
  induction r with
  | nil => exact .nil
  | @cons p q ps qs h t ih =>
    rw [List.map_cons, List.map_cons]
    refine .cons ?_ ih
    obtain ⟨h1, h2, h3⟩ := h
    unfold putAt
    by_cases e : p.1 = k
    · rw [if_pos e, if_pos (h1.symm.trans e)]; exact ⟨h1, h2, ry⟩
    · rw [if_neg e, if_neg (fun z => e (h1.trans z))]; exact ⟨h1, h2, h3⟩
theorem KT.put {H : Hp} {kvs : List (List Key × V)} {xs : List (List Key × Addr × Value)} (r : KT H kvs xs) (k : List Key) {b : Addr} {y : V} {u : Value} (hb : H b = some (.tup (k.map kV))) (ry : RelV y u) :
    KT H (putK kvs k y) (storedH xs k b u) := by
  have e : (kvs.any fun kv => decide (kv.1 = k)) = (atKey xs k).isSome := by
    rw [valV_any, (r.val k).isSome_eq, Option.isSome_map]
  unfold putK storedH
  rw [e]
  by_cases q : (atKey xs k).isSome = true
  · rw [if_pos q, if_pos q]; exact r.repl k ry
  · rw [if_neg q, if_neg q]; exact Paired.snoc r ⟨rfl, hb, ry⟩
theorem KT.keeps {H H' : Hp} {kvs : List (List Key × V)} {xs : List (List Key × Addr × Value)} (r : KT H kvs xs) (ht : ∀ b ys, H b = some (.tup ys) → H' b = some (.tup ys)) : KT H' kvs xs :=
  Paired.mapP r fun _ _ z => ⟨z.1, ht _ _ z.2.1, z.2.2⟩

section
variable {P : Program} {w : World} {H : Hp} {h : Heap} {a : Addr}
theorem rd_of {u : HO} (ok : HOk P w H h) (e : Rd H a u) : ObjOk P w H h a u := e.ok ok
theorem dk_rd {kvs : List (Key × V)} (ok : HOk P w H h) (e : Rd H a (.dK kvs)) : kvs.length ≤ sizeLine ∧ (a == sysModules) = false ∧ ∃ vs, KV kvs vs ∧ h.DictOf (mixKind P w) a vs :=
  show ObjOk P w H h a (.dK kvs) from rd_of ok e
theorem dk_of {kvs : List (Key × V)} (ok : HOk P w H h) (e : H a = some (.dK kvs)) : kvs.length ≤ sizeLine ∧ (a == sysModules) = false ∧ ∃ vs, KV kvs vs ∧ h.DictOf (mixKind P w) a vs := dk_rd ok (.inl e)
/-- a tracked tuple of ints and texts is a key -/
theorem key_of {ks : List Key} (ok : HOk P w H h) (e : H a = some (.tup (ks.map kV))) : (tupleKind (mixKind P w)).is h ks a := by
  obtain ⟨_, its, r, o, h1, h2, n, h3⟩ := (show ObjOk P w H h a (.tup (ks.map kV)) from ok a _ e)
  exact ⟨o, its.toArray, n, h1, h2, h3, by simpa using items_are r⟩
theorem dt_rd {kvs : List (List Key × V)} (ok : HOk P w H h) (e : Rd H a (.dT kvs)) : kvs.length ≤ sizeLine ∧ (a == sysModules) = false ∧
    ∃ xs, KT H kvs xs ∧ h.DictOfH (tupleKind (mixKind P w)) a xs := by
  obtain ⟨z, y, xs, r, o, es, ep, h1, h2, h3, h4, h5⟩ := (show ObjOk P w H h a (.dT kvs) from rd_of ok e)
  refine ⟨z, y, xs, r, o, es, ep, h1, h2, h3, h4, fun x hx => ?_, h5⟩
  have all : ∀ {l : List (List Key × V)} {m : List (List Key × Addr × Value)}, KT H l m → ∀ x ∈ m, (tupleKind (mixKind P w)).is h x.1 x.2.1 := by
    intro l m q
    induction q with
    | nil => intro x hx; exact nomatch hx
    | @cons p q ps qs hq t ih =>
      intro x hx
      rcases List.mem_cons.mp hx with e | hx
      · subst e
        exact key_of ok (by rw [← hq.1]; exact hq.2.1)
      · exact ih x hx
  exact all r x hx
theorem dt_of {kvs : List (List Key × V)} (ok : HOk P w H h) (e : H a = some (.dT kvs)) : kvs.length ≤ sizeLine ∧ (a == sysModules) = false ∧
    ∃ xs, KT H kvs xs ∧ h.DictOfH (tupleKind (mixKind P w)) a xs := dt_rd ok (.inl e)
end

/-- what the dict at a holds at the key y -/
def DGet (H : Hp) (a : Addr) (y : V) (r : Option V) : Prop :=
  (∃ kvs k, Rd H a (.dK kvs) ∧ y = kV k ∧ r = valV kvs k) ∨ ∃ kvs k b, Rd H a (.dT kvs) ∧ y = .ref b ∧ H b = some (.tup (k.map kV)) ∧ r = valV kvs k
/-- the heap behind a[y] = v -/
def DPut (H : Hp) (a : Addr) (y v : V) (H' : Hp) : Prop :=
  (∃ kvs k, H a = some (.dK kvs) ∧ y = kV k ∧ kvs.length < sizeLine ∧ H' = upd H a (.dK (putK kvs k v))) ∨
  ∃ kvs k b, H a = some (.dT kvs) ∧ y = .ref b ∧ H b = some (.tup (k.map kV)) ∧ kvs.length < sizeLine ∧ H' = upd H a (.dT (putK kvs k v))
theorem DGet.k {H : Hp} {a : Addr} {kvs : List (Key × V)} {k : Key} (e : H a = some (.dK kvs)) : DGet H a (kV k) (valV kvs k) := .inl ⟨kvs, k, .inl e, rfl, rfl⟩
theorem DGet.t {H : Hp} {a b : Addr} {kvs : List (List Key × V)} {k : List Key} (e : H a = some (.dT kvs)) (eb : H b = some (.tup (k.map kV))) : DGet H a (.ref b) (valV kvs k) := .inr ⟨kvs, k, b, .inl e, rfl, eb, rfl⟩
theorem DPut.k {H : Hp} {a : Addr} {kvs : List (Key × V)} {k : Key} {v : V} (e : H a = some (.dK kvs)) (hl : kvs.length < sizeLine) : DPut H a (kV k) v (upd H a (.dK (putK kvs k v))) := .inl ⟨kvs, k, e, rfl, hl, rfl⟩
theorem DPut.t {H : Hp} {a b : Addr} {kvs : List (List Key × V)} {k : List Key} {v : V} (e : H a = some (.dT kvs)) (eb : H b = some (.tup (k.map kV))) (hl : kvs.length < sizeLine) :
    DPut H a (.ref b) v (upd H a (.dT (putK kvs k v))) := .inr ⟨kvs, k, b, e, rfl, eb, hl, rfl⟩


section
variable {X : Cx} {pins : List (Addr × Obj)} {σ : St} {H : Hp} {s : Shared} {a : Addr} {y v : V} {u r : Value} {o : Option V} {A : Around} {E : Value → Shared → Prop}

theorem Inv.big (I : Inv X pins σ H s) : sysModules < s.heap.objs.size := by
  have h : mainGlobals < s.heap.objs.size := (I.mod.glob.keeps I.bk).lt
  exact Nat.lt_trans (by decide) h

/-- d[y], there -/
theorem d_getItem {Q : Value → Shared → Prop} (hu : A.units + 1 < cLine) (I : Inv X pins σ H s) (g : DGet H a y (some v)) (ry : RelV y u) (h : ∀ w' s', Inv X pins σ H s' → RelV v w' → Q w' s') :
    wpAny (model X.prog X.w) A (getItem (.ref a) u) Q E s := by
  rcases g with ⟨kvs, k, e, ey, l⟩ | ⟨kvs, k, b, e, ey, eb, l⟩
  · subst ey
    obtain ⟨z, hd, vs, rel, dd⟩ := dk_rd I.hok e
    obtain ⟨w', hw, rw'⟩ := RelO.some_of (v := v) (o := valueAt vs k) (by rw [l]; exact rel.val k)
    exact wpAny_getItem_of (kV_is ry) dd.mapOf hw (h w' _ (I.tok _) rw')
  · subst ey
    cases (show u = Value.ref b from ry)
    obtain ⟨z, hd, xs, rel, dd⟩ := dt_rd I.hok e
    obtain ⟨w', hw, rw'⟩ := RelO.some_of (v := v) (o := (atKey xs k).map (·.2)) (by rw [l]; exact rel.val k)
    obtain ⟨p, hp, hp2⟩ := Option.map_eq_some_iff.mp hw
    refine wpAny_getItem_heap (tupleKind_room_in1 hu) (key_of I.hok eb) dd hp ?_
    rw [hp2]
    exact h w' _ (I.tok _) rw'
/-- a dict's object is replaced -/
theorem d_write {h' : Heap} {t' : Nat} {ob : HO} (I : Inv X pins σ H s) (mu : Mut (H a)) (hs : Heap.SameBut a s.heap h') (he : ∃ q, h'.get? a = some q) (new : ObjOk X.prog X.w (upd H a ob) h' a ob) :
    Inv X pins σ (upd H a ob) { s with heap := h', toks := t' } :=
  I.write (x := a) (e := a) mu (.inl rfl) (fun b q hb z => (hs.2 b hb).trans z) he new
theorem dk_new {P : Program} {w : World} {H' : Hp} {h' : Heap} {kvs : List (Key × V)} {vs : List (Key × Value)} (z : kvs.length ≤ sizeLine) (hd : (a == sysModules) = false) (rel : KV kvs vs) (dd : h'.DictOf (mixKind P w) a vs) :
    ObjOk P w H' h' a (.dK kvs) := ⟨z, hd, vs, rel, dd⟩
/-- d[y] = v -/
theorem d_setItem {H' : Hp} {Q : Unit → Shared → Prop} (hu : A.units + 1 < cLine) (I : Inv X pins σ H s) (g : DPut H a y v H') (ry : RelV y u) (rv : RelV v r) (h : ∀ s', Inv X pins σ H' s' → Q () s') :
    wpAny (model X.prog X.w) A (setItem (.ref a) u r) Q E s := by
  rcases g with ⟨kvs, k, e, ey, l, eH⟩ | ⟨kvs, k, b, e, ey, eb, l, eH⟩
  · subst ey eH
    obtain ⟨z, hd, vs, rel, dd⟩ := dk_of I.hok e
    have hz : vs.length ≤ sizeLine := by rw [← rel.length]; exact z
    have hl : (putK kvs k v).length ≤ sizeLine := by have := length_putK kvs k v; omega
    refine wpAny_setItem_pairs (hsz := hz) (kV_is ry) dd fun h' dd' hs => h _ ?_
    have he : ∃ q, h'.get? a = some q := let ⟨q, _, _, hq, _⟩ := dd'; ⟨q, hq⟩
    exact d_write I (by rw [e]; exact True.intro) hs he (dk_new hl hd (rel.put k rv) dd')
  · subst ey eH
    cases (show u = Value.ref b from ry)
    obtain ⟨z, hd, xs, rel, dd⟩ := dt_of I.hok e
    have hz : xs.length ≤ sizeLine := by rw [← Paired.length rel]; exact z
    have hl : (putK kvs k v).length ≤ sizeLine := by have := length_putK kvs k v; omega
    refine wpAny_setItem_heap (hsz := hz) (tupleKind_room_in1 hu) (key_of I.hok eb) dd fun h' dd' hs => h _ ?_
    obtain ⟨q, es, ep, hq, h2, h3, h4, _, h5⟩ := dd'
    refine d_write I (by rw [e]; exact True.intro) hs ⟨q, hq⟩ ⟨hl, hd, _, (rel.put k eb rv).keeps fun c ys ec => ?_, q, es, ep, hq, h2, h3, h4, h5⟩
    rw [upd_ne (ne_of ec e (fun z => nomatch z))]
    exact ec
end

section
variable {X : Cx} {pins : List (Addr × Obj)} {σ : St} {H : Hp} {s : Shared} {a : Addr} {kvs : List (Key × V)} {k : Key} {u : Value} {A : Around} {E : Value → Shared → Prop}
/-- len(d) -/
theorem d_len {Q : Value → Shared → Prop} (I : Inv X pins σ H s) (e : Rd H a (.dK kvs)) (h : ∀ t s', Inv X pins σ H s' → Q (.int kvs.length t) s') : wpAny (model X.prog X.w) A (call (.builtin "len") [.ref a]) Q E s := by
  obtain ⟨z, hd, vs, rel, dd⟩ := dk_rd I.hok e
  refine call_len_dict hd dd (by rw [← rel.length]; rw [sizeLine_eq] at z; omega) ?_
  rw [← rel.length]
  exact h _ _ (I.tok _)
end


/-! ### readings and rules -/
/-- the element of a subscription, not a slice -/
def NoSl (i : Expr) : Prop := ∀ ov iv, subscripted i false ov iv = operate [ov, iv] (getItem ov iv)
theorem subD_of {prog : Program} {w : World} {A : Around} {E : Value → Shared → Prop} {s : Shared} {env : Env} {value slice : Expr} {pos : Pos} {T id : String} {Q : Value → Shared → Prop}
    (hl : typeLookup (.type T) "__getitem__" = pure (some (.builtin id))) (hs : NoSl slice)
    (h : wpAny (model prog w) A (eval value env) (fun o s₁ => wpAny (model prog w) A (eval slice env) (fun i s₂ => s₂.TypeIs o T ∧ wpAny (model prog w) A (getItem o i) Q E s₂) E s₁) E s) :
    wpAny (model prog w) A (eval (.Subscript value slice pos) env) Q E s := by
  refine Subscript_ (wpAny_mono h (fun o s₁ h₁ => wpAny_mono h₁ (fun i s₂ h₂ => ?_) fun _ _ x => x) fun _ _ x => x)
  obtain ⟨hT, h₂⟩ := h₂
  unfold subscriptTail
  refine wpAny_bind ?_
  rw [getitemInPython_of_ne hT.not_modules]
  refine wpAny_bind (wpAny_specialOf hT hl ?_)
  have fin : wpAny (model prog w) A (subscripted slice false o i) (fun r s₃ => wpAny (model prog w) A (letTemporaryGo value o r >>= fun _ => pure r) Q E s₃) E s₂ := by
    rw [hs o i]
    exact wpAny_operating (wpAny_mono h₂ (fun r s₃ h₃ => wpAny_bind (wpAny_letTemporaryGo (wpAny_pure h₃))) fun _ _ x => x)
  first
    | exact wpAny_pure (wpAny_bind fin)
    | exact wpAny_bind (wpAny_pure (wpAny_bind fin))
    | exact wpAny_bind fin

theorem dict_typeIs {X : Cx} {pins : List (Addr × Obj)} {σ : St} {H : Hp} {s : Shared} {a : Addr} {y : V} {o : Option V} (I : Inv X pins σ H s) (g : DGet H a y o) : s.TypeIs (.ref a) "dict" := by
  rcases g with ⟨kvs, k, e, _, _⟩ | ⟨kvs, k, b, e, _, _, _⟩
  · obtain ⟨_, _, vs, _, dd⟩ := dk_rd I.hok e
    exact dd.typeIs
  · obtain ⟨_, _, xs, _, dd⟩ := dt_rd I.hok e
    exact dd.typeIs
/-- d[y] -/
def tDGet (td ty : TE) : TE := fun σ H Q => td σ H fun x H1 => ty σ H1 fun y H2 => ∃ a v, x = .ref a ∧ DGet H2 a y (some v) ∧ Q v H2
/-- y in d, y not in d -/
def tDIn (ty td : TE) : TE := fun σ H Q => ty σ H fun y H1 => td σ H1 fun x H2 => ∃ a o, x = .ref a ∧ DGet H2 a y o ∧ Q (.bl o.isSome) H2
def tDNotIn (ty td : TE) : TE := fun σ H Q => ty σ H fun y H1 => td σ H1 fun x H2 => ∃ a o, x = .ref a ∧ DGet H2 a y o ∧ Q (.bl (!o.isSome)) H2
/-- d[y] = v -/
def sDPut (td ty tv : TE) : TS := fun D σ H => tv σ H fun v H1 => td σ H1 fun x H2 => ty σ H2 fun y H3 => ∃ a H4, x = .ref a ∧ DPut H3 a y v H4 ∧ D.nx σ H4
/-- d[y] op= v -/
def sDAug (td ty tv : TE) (rd : V → V → Hp → VK → Prop) : TS := fun D σ H => td σ H fun x H1 => ty σ H1 fun y H2 => ∃ a v, x = .ref a ∧ DGet H2 a y (some v) ∧
  tv σ H2 fun y2 H3 => rd v y2 H3 fun z H4 => ∃ H5, DPut H4 a y z H5 ∧ D.nx σ H5
/-- del d[y] -/
def sDDel (td ty : TE) : TS := fun D σ H => td σ H fun x H1 => ty σ H1 fun y H2 => ∃ a kvs k, x = .ref a ∧ H2 a = some (.dK kvs) ∧ y = kV k ∧ (valV kvs k).isSome = true ∧ D.nx σ (upd H2 a (.dK (dropK kvs k)))

section
variable {X : Cx} {o i e value : Expr} {pos pos' tpos : Pos} {td ty tv : TE}
theorem pe_dget (hu : X.A.units + 1 < cLine) (ho : PE X o td) (hi : PE X i ty) (hs : NoSl i) : PE X (.Subscript o i pos) (tDGet td ty) := by
  intro pins s σ H Q I h
  refine subD_of PySem.F.slot_dict_getitem.lookup hs (thn (ho pins s σ H _ I h) fun u s1 ⟨x, H1, I1, rx, q1⟩ => thn (hi pins s1 σ H1 _ I1 q1) fun iv s2 ⟨y, H2, I2, ry, a, v, ex, g, q2⟩ => ?_)
  subst ex
  obtain rfl : u = Value.ref a := rx
  exact ⟨dict_typeIs I2 g, d_getItem hu I2 g ry fun w' s3 I3 rw' => ⟨v, H2, I3, rw', q2⟩⟩
theorem ps_dput (hu : X.A.units + 1 < cLine) (ho : PE X o td) (hi : PE X i ty) (hv : PE X value tv) (hs : swapsWith value (some (.Subscript o i pos')) pos.line X.env = pure false) :
    PS X (.Assign [.Subscript o i pos'] value pos) (sDPut td ty tv) := by
  intro pins s σ H D I h
  refine wpAny_Assign_Subscript (thn (hv pins s σ H _ I h) fun r s1 ⟨v, H1, I1, rv, q1⟩ => thn (ho pins s1 σ H1 _ I1 q1) fun u s2 ⟨x, H2, I2, rx, q2⟩ => thn (hi pins s2 σ H2 _ I2 q2) fun iv s3 ⟨y, H3, I3, ry, a, H4, ex, g, q3⟩ => ?_) hs
  subst ex
  obtain rfl : u = Value.ref a := rx
  exact d_setItem hu I3 g ry rv fun s4 I4 => ⟨σ, H4, I4, q3⟩
end


/-! ### displays -/
theorem dk_empty {P : Program} {w : World} {H : Hp} (h : Heap) (hb : sysModules < h.objs.size) : ObjOk P w H (h.push { cls := .type "dict", data := .dict #[] }) h.objs.size (.dK []) :=
  ⟨Nat.zero_le _, beq_eq_false_iff_ne.mpr (Ne.symm (Nat.ne_of_lt hb)), [], .nil, Heap.DictOf.new h⟩
/-- {}, to be a dict of the kind that is wanted -/
def tDNewK : TE := fun _ H Q => ∀ p, H p = none → Q (.ref p) (upd H p (.dK []))
def tDNewT : TE := fun _ H Q => ∀ p, H p = none → Q (.ref p) (upd H p (.dT []))
section
variable {X : Cx} {pos : Pos}
theorem pe_dnewK : PE X (.Dict [] [] pos) tDNewK := fun pins s σ H Q I h =>
  wpAny_Dict_empty ⟨.ref s.heap.objs.size, _, I.laid (a := s.heap.objs.size) (o := .dK []) (t' := s.toks) (fun _ _ q => Heap.get?_push_of_some _ q) (Nat.le_refl _) (dk_empty s.heap I.big), rfl, h _ (I.hok.fresh (Nat.le_refl _))⟩
end

/-- the pairs of a display, from the left -/
def tPairs : List (TE × TE) → St → Hp → (List (V × V) → Hp → Prop) → Prop
  | [], _, H, Q => Q [] H
  | (tk, tv) :: r, σ, H, Q => tk σ H fun x H1 => tv σ H1 fun y H2 => tPairs r σ H2 fun ps H3 => Q ((x, y) :: ps) H3
abbrev VV : List (V × V) → List (Value × Value) → Prop := Paired fun p q => RelV p.1 q.1 ∧ RelV p.2 q.2
def PPs (X : Cx) (pos : Pos) (keys : List (Option Expr)) (values : List Expr) (trs : List (TE × TE)) : Prop :=
  ∀ (pins : List (Addr × Obj)) (s : Shared) (σ : St) (H : Hp) (Q : List (V × V) → Hp → Prop), Inv X pins σ H s → tPairs trs σ H Q →
    wpAny (model X.prog X.w) X.A (evalPairs (pairTrees keys values X.env pos)) (fun vs s' => ∃ ps H', Inv X pins σ H' s' ∧ VV ps vs ∧ Q ps H') X.xe s
theorem pps_nil {X : Cx} {pos : Pos} : PPs X pos [] [] [] := fun pins s σ H Q I h => pairTrees_nil_walk ⟨[], H, I, .nil, h⟩
theorem pps_cons {X : Cx} {pos : Pos} {k v : Expr} {ks : List (Option Expr)} {vs : List Expr} {tk tv : TE} {trs : List (TE × TE)} (hk : PE X k tk) (hv : PE X v tv) (hr : PPs X pos ks vs trs) :
    PPs X pos (some k :: ks) (v :: vs) ((tk, tv) :: trs) := fun pins s σ H Q I h =>
  pairTrees_cons_walk (thn (hk pins s σ H _ I h) fun u s1 ⟨x, H1, I1, rx, q1⟩ => thn (hv pins s1 σ H1 _ I1 q1) fun w2 s2 ⟨y, H2, I2, ry, q2⟩ =>
    thn (hr pins s2 σ H2 _ I2 q2) fun ws s3 ⟨ps, H3, I3, rel, q3⟩ => ⟨(x, y) :: ps, H3, I3, .cons ⟨rx, ry⟩ rel, q3⟩)

def mergeK (kvs more : List (Key × V)) : List (Key × V) := more.foldl (fun acc kv => putK acc kv.1 kv.2) kvs
theorem KV.merge : ∀ {more : List (Key × V)} {rs : List (Key × Value)} {kvs : List (Key × V)} {vs : List (Key × Value)}, KV more rs → KV kvs vs → KV (mergeK kvs more) (merged vs rs) := by
  intro more rs kvs vs r
  unfold KV at r
  induction r generalizing kvs vs with
  | nil => intro q; exact q
  | @cons p q ps qs h t ih =>
    intro r0
    have e : KV (putK kvs p.1 p.2) (stored vs q.1 q.2) := by
      have := r0.put p.1 h.2
      rw [← h.1]; exact this
    exact ih e
theorem length_mergeK : ∀ (more kvs : List (Key × V)), (mergeK kvs more).length ≤ kvs.length + more.length
  | [], kvs => by show kvs.length ≤ kvs.length + 0; omega
  | p :: r, kvs => by
    have h1 := length_mergeK r (putK kvs p.1 p.2)
    have h2 := length_putK kvs p.1 p.2
    show (mergeK (putK kvs p.1 p.2) r).length ≤ _
    rw [List.length_cons]; omega
theorem carries_of {P : Program} {w : World} : ∀ {kvs : List (Key × V)} {ws : List (Value × Value)}, VV (kvs.map fun kv => (kV kv.1, kv.2)) ws → ∃ rs, Carries (mixKind P w) ws rs ∧ KV kvs rs
  | [], _, r => by rw [List.map_nil] at r; cases r; exact ⟨[], True.intro, .nil⟩
  | p :: kvs, _, r => by
    rw [List.map_cons] at r
    cases r with
    | @cons a b as bs h t =>
      obtain ⟨rs, c, q⟩ := carries_of (P := P) (w := w) t
      obtain ⟨b1, b2⟩ := b
      exact ⟨(p.1, b2) :: rs, ⟨kV_is h.1, rfl, c⟩, .cons ⟨rfl, h.2⟩ q⟩
/-- {k: v, ..} with keys ints and texts; the new dict stands empty while the pairs are made -/
def tDisp (trs : List (TE × TE)) : TE := fun σ H Q => ∀ p, H p = none → tPairs trs σ (upd H p (.dK [])) fun ps H2 => H2 p = some (.dK []) ∧ ∃ kvs : List (Key × V), ps = kvs.map (fun kv => (kV kv.1, kv.2)) ∧ kvs.length ≤ 15 ∧ Q (.ref p) (upd H2 p (.dK (mergeK [] kvs)))
theorem pe_disp {X : Cx} {pos : Pos} {keys : List (Option Expr)} {values : List Expr} {trs : List (TE × TE)} (h : PPs X pos keys values trs) (hall : keys.all (·.isSome) = true) (hl : keys.length = values.length) (h0 : keys ≠ [])
    (h15 : keys.length ≤ 15) : PE X (.Dict keys values pos) (tDisp trs) := by
  intro pins s σ H Q I q
  have hn := I.hok.fresh (Nat.le_refl s.heap.objs.size)
  have I1 := I.laid (a := s.heap.objs.size) (o := .dK []) (h' := s.heap.push { cls := .type "dict", data := .dict #[] }) (t' := s.toks) (fun _ _ q => Heap.get?_push_of_some _ q) (Nat.le_refl _) (dk_empty s.heap I.big)
  refine wpAny_Dict_walk (knd := mixKind X.prog X.w) hall hl h0 h15 (thn (h pins _ σ _ _ I1 (q _ hn)) fun ws s2 ⟨ps, H2, I2, rel, e, kvs, ep, lk, q2⟩ => ?_)
  subst ep
  obtain ⟨rs, c, rk⟩ := carries_of (P := X.prog) (w := X.w) rel
  obtain ⟨z, hd, vs0, r0, dd⟩ := dk_of I2.hok e
  cases r0
  refine ⟨rs, c, dd, fun h' dd' hs => ⟨.ref s.heap.objs.size, _, ?_, rfl, q2⟩⟩
  have hz : (mergeK [] kvs).length ≤ sizeLine := by
    have h1 := length_mergeK kvs []
    rw [List.length_nil] at h1
    rw [sizeLine_eq]; omega
  have he : ∃ q, h'.get? s.heap.objs.size = some q := let ⟨q, _, _, hq, _⟩ := dd'; ⟨q, hq⟩
  exact d_write I2 (by rw [e]; exact True.intro) hs he (dk_new hz hd (rk.merge .nil) dd')


/-! ### methods -/
/-- a method call o.m(e) of a built-in, with one argument: what must be seen of the text -/
structure M1 (X : Cx) (o : Expr) (m : Str) (apos : Pos) (e : Expr) (cpos : Pos) : Prop where
  base : attributeBase o m X.env (eval o X.env) = eval o X.env
  few : ((backTo cpos (starEach [e] X.env)).all (fun x => !x.1) && (backToKw cpos (keywordEach [] X.env)).all (fun x => x.1.isSome)
    && decide (([e] : List Expr).length + ([] : List Keyword).length + (if ([] : List Keyword).isEmpty then 0 else 1) < 30)) = true
  line : (apos.endLine == cpos.line) = true
  trees : backTo cpos (starEach [e] X.env) = [(false, eval e X.env)]
structure M2 (X : Cx) (o : Expr) (m : Str) (apos : Pos) (e f : Expr) (cpos : Pos) : Prop where
  base : attributeBase o m X.env (eval o X.env) = eval o X.env
  few : ((backTo cpos (starEach [e, f] X.env)).all (fun x => !x.1) && (backToKw cpos (keywordEach [] X.env)).all (fun x => x.1.isSome)
    && decide (([e, f] : List Expr).length + ([] : List Keyword).length + (if ([] : List Keyword).isEmpty then 0 else 1) < 30)) = true
  line : (apos.endLine == cpos.line) = true
  trees : backTo cpos (starEach [e, f] X.env) = [(false, eval e X.env), (false, eval f X.env)]

/-- a is a dict, whatever its keys -/
def IsD (H : Hp) (a : Addr) : Prop := (∃ kvs, Rd H a (.dK kvs)) ∨ ∃ kvs, Rd H a (.dT kvs)
theorem isD_at {X : Cx} {pins : List (Addr × Obj)} {σ : St} {H : Hp} {s : Shared} {a : Addr} (I : Inv X pins σ H s) (d : IsD H a) :
    s.TypeIs (.ref a) "dict" ∧ (∀ b, Value.ref a = .ref b → ∃ ob, s.heap.get? b = some ob ∧ ob.dict = none) ∧ (a == sysModules) = false := by
  rcases d with ⟨kvs, e⟩ | ⟨kvs, e⟩
  · obtain ⟨_, hd, vs, _, dd⟩ := dk_rd I.hok e
    refine ⟨dd.typeIs, fun b q => ?_, hd⟩
    cases q
    obtain ⟨ob, _, _, h1, h2, _⟩ := dd
    exact ⟨ob, h1, h2.2.1⟩
  · obtain ⟨_, hd, xs, _, dd⟩ := dt_rd I.hok e
    refine ⟨dd.typeIs, fun b q => ?_, hd⟩
    cases q
    obtain ⟨ob, _, _, h1, h2, _⟩ := dd
    exact ⟨ob, h1, h2.2.1⟩

section
variable {X : Cx} {pins : List (Addr × Obj)} {σ : St} {H : Hp} {s : Shared} {a : Addr} {y d : V} {u r : Value} {o : Option V} {A : Around} {E : Value → Shared → Prop}
/-- d.get(y, x) -/
theorem d_get2 {Q : Value → Shared → Prop} (hu : A.units + 1 < cLine) (I : Inv X pins σ H s) (g : DGet H a y o) (ry : RelV y u) (rd : RelV d r) (h : ∀ w' s', Inv X pins σ H s' → RelV (o.getD d) w' → Q w' s') :
    wpAny (model X.prog X.w) A (call (.builtin "dict.get") [.ref a, u, r]) Q E s := by
  rcases g with ⟨kvs, k, e, ey, l⟩ | ⟨kvs, k, b, e, ey, eb, l⟩
  · subst ey
    obtain ⟨z, hd, vs, rel, dd⟩ := dk_rd I.hok e
    refine call_meetsIn PySem.F.slot_dict_get dd.typeIs PySem.F.entry_dict_get (PySem.F.args_dict_get_3 _ _ _) (meets_dict_get_default (mixKind X.prog X.w) a (kV_is ry) hd r) ⟨_, dd.mapOf, h _ _ (I.tok _) ?_⟩
    rw [l]
    exact (rel.val k).getD rd
  · subst ey
    cases (show u = Value.ref b from ry)
    obtain ⟨z, hd, xs, rel, dd⟩ := dt_rd I.hok e
    refine call_meetsIn PySem.F.slot_dict_get dd.typeIs PySem.F.entry_dict_get (PySem.F.args_dict_get_3 _ _ _) (meetsH_dict_get_default (tupleKind (mixKind X.prog X.w)) a b hd r) ⟨tupleKind_room_in1 hu, k, xs, key_of I.hok eb, dd, h _ _ (I.tok _) ?_⟩
    rw [l]
    exact (rel.val k).getD rd
end

def tDGet1 (td ty : TE) : TE := fun σ H Q => td σ H fun x H1 => ∃ a, x = .ref a ∧ IsD H1 a ∧ ty σ H1 fun y H2 => ∃ o, DGet H2 a y o ∧ Q (o.getD .non) H2
def tDGet2 (td ty tx : TE) : TE := fun σ H Q => td σ H fun x H1 => ∃ a, x = .ref a ∧ IsD H1 a ∧ ty σ H1 fun y H2 => tx σ H2 fun z H3 => ∃ o, DGet H3 a y o ∧ Q (o.getD z) H3
/-- d.pop(k): there; d.pop(k, x): there or not -/
def tDPop1 (td ty : TE) : TE := fun σ H Q => td σ H fun x H1 => ∃ a, x = .ref a ∧ IsD H1 a ∧ ty σ H1 fun y H2 => ∃ kvs k v, H2 a = some (.dK kvs) ∧ y = kV k ∧ valV kvs k = some v ∧ Q v (upd H2 a (.dK (dropK kvs k)))
def tDPop2 (td ty tx : TE) : TE := fun σ H Q => td σ H fun x H1 => ∃ a, x = .ref a ∧ IsD H1 a ∧ ty σ H1 fun y H2 => tx σ H2 fun z H3 => ∃ kvs k, H3 a = some (.dK kvs) ∧ y = kV k ∧
  (∀ v, valV kvs k = some v → Q v (upd H3 a (.dK (dropK kvs k)))) ∧ (valV kvs k = none → Q z H3)
section
variable {X : Cx} {o e f : Expr} {apos cpos : Pos} {td ty tx : TE}
theorem pe_dget2 (hu : X.A.units + 1 < cLine) (ho : PE X o td) (he : PE X e ty) (hf : PE X f tx) (m : M2 X o "get" apos e f cpos) : PE X (.Call (.Attribute o "get" apos) [e, f] [] cpos) (tDGet2 td ty tx) := by
  intro pins s σ H Q I h
  refine wpAny_Call_method m.base m.few m.line PySem.F.plainAttrs_dict PySem.F.slot_dict_get PySem.F.type_dict_get (thn (ho pins s σ H _ I h) fun u s1 ⟨x, H1, I1, rx, a, ex, d, q1⟩ => ?_)
  subst ex
  obtain rfl : u = Value.ref a := rx
  obtain ⟨t1, t2, _⟩ := isD_at I1 d
  refine ⟨t1, t2, ?_⟩
  rw [m.trees]
  refine Calls.callWith_builtin rfl (Calls.evalArgs_plain (Calls.spliced_cons (thn (he pins s1 σ H1 _ I1 q1) fun iv s2 ⟨y, H2, I2, ry, q2⟩ =>
    Calls.spliced_cons (thn (hf pins s2 σ H2 _ I2 q2) fun fv s3 ⟨z, H3, I3, rz, ov, g, q3⟩ => Calls.spliced_nil ?_))))
  exact d_get2 hu I3 g ry rz fun w' s4 I4 rw' => ⟨_, H3, I4, rw', q3⟩
end

/-! ### dict(d): a copy -/
section
variable {X : Cx} {pins : List (Addr × Obj)} {σ : St} {H : Hp} {s : Shared} {a : Addr} {kvs : List (Key × V)} {A : Around} {E : Value → Shared → Prop}
theorem d_copyOf {Q : Value → Shared → Prop} (I : Inv X pins σ H s) (e : Rd H a (.dK kvs)) (h : ∀ p s', H p = none → Inv X pins σ (upd H p (.dK kvs)) s' → Q (.ref p) s') : wpAny (model X.prog X.w) A (call (.type "dict") [.ref a]) Q E s := by
  obtain ⟨z, hd, vs, rel, dd⟩ := dk_rd I.hok e
  refine kt_call_dict hd dd (by rw [← rel.length]; exact z) fun h' dd' hs => ?_
  refine h _ _ (I.hok.fresh (Nat.le_refl _)) (I.laid (a := s.heap.objs.size) (o := .dK kvs) (t' := s.toks) (fun b q hq => ?_) (Nat.le_refl _) (dk_new z (beq_eq_false_iff_ne.mpr (Ne.symm (Nat.ne_of_lt I.big))) rel dd'))
  exact (hs.2 b (Nat.ne_of_lt (Heap.lt_size hq))).trans (Heap.get?_push_of_some _ hq)
end


section
variable {X : Cx} {pins : List (Addr × Obj)} {σ : St} {H : Hp} {s : Shared} {a : Addr} {y : V} {u : Value} {A : Around} {E : Value → Shared → Prop}
end
end L2
namespace L2
open PySem PySem.Spec PyProof.Rows
section
variable {X : Cx}
/-- len of a dict -/
theorem call_lenD : CallR X (.builtin "len") (fun xs H Q => ∃ a kvs, xs = [V.ref a] ∧ H a = some (.dK kvs) ∧ Q (.int kvs.length) H) := by
  intro pins s σ H xs us Q I r h
  obtain ⟨a, kvs, rfl, ha, q⟩ := h
  obtain ⟨u, rfl, ru⟩ := vals1 r
  cases ru
  exact d_len I (.inl ha) fun t s' I' => ⟨.int kvs.length, H, I', ⟨t, rfl⟩, q⟩
end
/-! ### a dict's pairs: keys that differ -/
section
variable {κ : Type} [DecidableEq κ]
end
end L2


set_option Elab.async false
set_option linter.all false
set_option maxRecDepth 100000
namespace L2
open PySem PySem.Spec PyProof.Rows
/-! ### comprehensions: a list comprehension's block in a context of its own -/
def closL (cells : List (Str × Addr)) : List (Str × NameKind) → List (Str × Addr) → List (Str × Addr)
  | [], acc => acc
  | (n, k) :: r, acc => if k == .free then (match cells.lookup n with | some c => closL cells r ((n, c) :: acc) | none => closL cells r acc) else closL cells r acc
theorem closL_forIn {env : Env} : ∀ (names : List (Str × NameKind)) (acc : List (Str × Addr)), (∀ p ∈ names, p.2 = .free → ∃ c, env.cells.lookup p.1 = some c) →
    (forIn names acc fun (x : Str × NameKind) (r : List (Str × Addr)) => (if (x.2 == NameKind.free) = true then (do let a ← cellOf env x.1; pure (ForInStep.yield ((x.1, a) :: r))) else pure (ForInStep.yield r) : Sem (ForInStep (List (Str × Addr))))) = pure (closL env.cells names acc) := by
  intro names
  induction names with
  | nil => intro acc _; rfl
  | cons p r ih =>
    intro acc h
    obtain ⟨n, k⟩ := p
    rw [List.forIn_cons]
    cases hk : k == NameKind.free with
    | false =>
      simp only [hk, Bool.false_eq_true, if_false, pure_bind, closL]
      exact ih acc fun q hq => h q (List.mem_cons_of_mem _ hq)
    | true =>
      have e : k = .free := by simpa using hk
      obtain ⟨c, hc⟩ := h (n, k) List.mem_cons_self e
      simp only [hk, if_true, closL, cellOf, hc, pure_bind]
      exact ih _ fun q hq => h q (List.mem_cons_of_mem _ hq)
theorem closL_eq {scope : Scope} {env : Env} (h : ∀ p ∈ scope.names, p.2 = .free → ∃ c, env.cells.lookup p.1 = some c) : closureFor scope env = pure (closL env.cells scope.names []) := by
  have q := closL_forIn (env := env) scope.names [] h
  simp only [closureFor]
  first
    | exact q
    | (rw [← q]; simp)
    | simpa using q
theorem closL_look {cells : List (Str × Addr)} : ∀ (names : List (Str × NameKind)) (acc : List (Str × Addr)) (y : Str) (c : Addr), (closL cells names acc).lookup y = some c → cells.lookup y = some c ∨ acc.lookup y = some c := by
  intro names
  induction names with
  | nil => intro acc y c h; exact .inr h
  | cons p r ih =>
    intro acc y c h
    obtain ⟨n, k⟩ := p
    unfold closL at h
    split at h
    · split at h
      · rename_i c' hc
        rcases ih _ y c h with q | q
        · exact .inl q
        · rw [List.lookup_cons] at q
          cases e : y == n with
          | true =>
            rw [e] at q
            have e' : y = n := by simpa using e
            subst e'
            have q' : some c' = some c := q
            rw [← q']; exact .inl hc
          | false => rw [e] at q; exact .inr q
      · exact ih _ y c h
    · exact ih _ y c h
theorem closL_acc {cells : List (Str × Addr)} : ∀ (names : List (Str × NameKind)) (acc : List (Str × Addr)) (y : Str), (∃ c, acc.lookup y = some c) → ∃ c, (closL cells names acc).lookup y = some c := by
  intro names
  induction names with
  | nil => intro acc y h; exact h
  | cons p r ih =>
    intro acc y h
    obtain ⟨n, k⟩ := p
    unfold closL
    split
    · split
      · refine ih _ y ?_
        rw [List.lookup_cons]
        cases e : y == n with
        | true => exact ⟨_, rfl⟩
        | false => exact h
      · exact ih _ y h
    · exact ih _ y h
theorem closL_has {cells : List (Str × Addr)} : ∀ (names : List (Str × NameKind)) (acc : List (Str × Addr)) (y : Str), (y, NameKind.free) ∈ names → (∃ c, cells.lookup y = some c) → ∃ c, (closL cells names acc).lookup y = some c := by
  intro names
  induction names with
  | nil => intro acc y h _; cases h
  | cons p r ih =>
    intro acc y h hc
    obtain ⟨n, k⟩ := p
    unfold closL
    rcases List.mem_cons.mp h with e | h
    · cases e
      obtain ⟨c, hc⟩ := hc
      simp only [beq_self_eq_true, if_true, hc]
      exact closL_acc _ _ _ ⟨c, by rw [List.lookup_cons, beq_self_eq_true]⟩
    · split
      · split
        · exact ih _ y h hc
        · exact ih _ y h hc
      · exact ih _ y h hc

/-- the context of a comprehension's block -/
def cxComp (X : Cx) (N' : List Str) (scope : Scope) (C : Addr) (s₀ : Shared) (H₀ : Hp) (ex : List Addr) : Cx :=
  { X with N := N', s₀ := s₀, H₀ := H₀, env := compEnvC scope (closL X.env.cells scope.names []) C X.env, outer := X.stack, stack := X.stack, ex := ex, fn := fun _ => false, xe := fun _ _ => False }

/-- the tests of a comprehension -/
def PTs (X : Cx) (ifs : List Expr) (t : TT) : Prop :=
  ∀ (pins : List (Addr × Obj)) (s : Shared) (σ : St) (H : Hp) (Q : Bool → Hp → Prop), Inv X pins σ H s → t σ H Q →
    wpAny (model X.prog X.w) X.A (forIn ifs true fun c r => if r = true then do let ok ← isTrue c X.env (eval c X.env); pure (ForInStep.yield ok) else pure (ForInStep.yield r)) (TP X pins σ Q) X.xe s
def tTrue : TT := fun _ H Q => Q true H
theorem pts_nil {X : Cx} : PTs X [] tTrue := fun _ _ _ H _ I h => wpAny_tests_nil ⟨H, I, h⟩
theorem pts_one {X : Cx} {c : Expr} {t : TT} (h : PT X c t) : PTs X [c] t := fun pins s σ H Q I q => wpAny_tests_one (h pins s σ H Q I q)

section
variable {prog : Program} {w : World} {A : Around} {R : Result → Shared → Prop} {s : Shared}
theorem compLoop_go {elt target iter : Expr} {ifs : List Expr} {scope : Scope} {pos : Pos} {it acc : Value} {env : Env} (I : Nat → Shared → Prop)
    (turn : ∀ n s, I n s → wpAny (model prog w) A (pyNext it) (fun r s₁ => match r with
      | none => R (.ok .next) s₁
      | some v => wpAny (model prog w) A (letOwnedTupleGo target it v) (fun _ s₀ => wpAny (model prog w) A (assign target env v) (fun _ s₂ =>
          wpAny (model prog w) A (forIn ifs true fun c r => if r = true then do let ok ← isTrue c env (eval c env); pure (ForInStep.yield ok) else pure (ForInStep.yield r)) (fun ok s₃ =>
            if ok = true then wpAny (model prog w) A (eval elt env) (fun x s₄ =>
              wpAny (model prog w) A (call (.builtin "list.append") [acc, x]) (fun _ s₅ => ∃ m, m < n ∧ I m s₅) (fun _ _ => False) s₄) (fun _ _ => False) s₃
            else ∃ m, m < n ∧ I m s₃) (fun _ _ => False) s₂) (fun _ _ => False) s₀) (fun _ _ => False) s₁) (fun _ _ => False) s)
    (n : Nat) (h : I n s) :
    codeAny (model prog w) A (.compLoop (.ListComp elt [⟨target, iter, ifs, 0⟩] scope pos) 0 it acc env) R s := by
  refine codeAny_loop rfl I (fun n s hI => ?_) n h
  show wpAny _ A ((compTurn (.ListComp elt [⟨target, iter, ifs, 0⟩] scope pos) 0 it acc env).onRaise (fun x => do noteFrame x env; theTreesLotGoes x)) _ _ s
  refine wpAny_noted ?_
  rw [compTurn_list]
  refine wpAny_bind (wpAny_standAt (wpAny_bind (wpAny_mono (turn n s hI) (fun r s₁ h₁ => ?_) fun _ _ h' => h'.elim)))
  cases r with
  | none => exact wpAny_pure h₁
  | some v =>
    refine wpAny_bind (wpAny_mono h₁ (fun _ s₀ h₀ => ?_) fun _ _ h' => h'.elim)
    refine wpAny_bind (wpAny_mono h₀ (fun _ s₂ h₂ => wpAny_bind (wpAny_mono h₂ (fun ok s₃ h₃ => ?_) fun _ _ h' => h'.elim)) fun _ _ h' => h'.elim)
    cases ok with
    | false => exact wpAny_pure ⟨rfl, h₃⟩
    | true =>
      exact wpAny_bind (wpAny_bind (wpAny_mono h₃ (fun x s₄ h₄ => wpAny_bind (wpAny_mono h₄ (fun _ s₅ h₅ => wpAny_pure (wpAny_pure ⟨rfl, h₅⟩)) fun _ _ h' => h'.elim)) fun _ _ h' => h'.elim))
end

/-- what a comprehension's scope is: the target's name is its first, the others are names of the def (cells there) -/
structure CompScope (X : Cx) (x : Str) (frees : List Str) (idx : List Nat) (scope : Scope) : Prop where
  kind : scope.kind = .function
  nocell : ∀ y ∈ scope.names, y.2 ≠ .cell
  loc : ∀ y ∈ scope.names, y.2 = .local → scope.names.lookup y.1 = some .local
  tgt : scope.names.lookup x = some .local
  nd : (x :: frees).Nodup
  fr : ∀ y ∈ scope.names, y.2 = .free → X.env.kindOf y.1 = some .cell ∨ X.env.kindOf y.1 = some .free
  ix : ∀ (j : Nat) (y : Str), frees[j]? = some y → ∃ k, idx[j]? = some k ∧ X.N[k]? = some y
  len : idx.length = frees.length
  cl : ∀ y ∈ frees, (y, NameKind.free) ∈ scope.names
def outs (σ : St) (idx : List Nat) : St := idx.map fun k => (σ[k]?).join
/-- the word of a comprehension: W by the turn, a measure, the items so far -/
def CompW (J : It) (tt : TT) (te : TE) (σ' : St) (Q : VK) (H1 : Hp) : Prop := ∃ W : Nat → Nat → List V → Hp → Prop, (∃ m, W 0 m [] H1) ∧ ∀ i m vs H2, W i m vs H2 →
  vs.length < sizeLine ∧ ((J.stop i H2 ∧ ∀ l, H2 l = none → Q (.ref l) (upd H2 l (.lst vs))) ∨
    (J.go i H2 ∧ ∀ x H3, J.yld i H2 x H3 → tt (some x :: σ') H3 fun b H4 => if b = true then te (some x :: σ') H4 fun v H5 => ∃ m', m' < m ∧ W (i + 1) m' (vs ++ [v]) H5 else ∃ m', m' < m ∧ W (i + 1) m' vs H4))
def tComp (idx : List Nat) (wi : TI) (tt : TT) (te : TE) : TE := fun σ H Q => wi σ H fun J H1 => CompW J tt te (outs σ idx) Q H1

theorem Vals.snoc {xs : List V} {us : List Value} {x : V} {u : Value} (h : Vals xs us) (r : RelV x u) : Vals (xs ++ [x]) (us ++ [u]) := Vals.append h (.cons r .nil)

theorem mem_of_lookup' {α β : Type} [BEq α] [LawfulBEq α] : ∀ {l : List (α × β)} {x : α} {b : β}, l.lookup x = some b → (x, b) ∈ l
  | [], _, _, h => by simp at h
  | (n, k) :: r, x, b, h => by
    rw [List.lookup_cons] at h
    cases e : x == n with
    | true =>
      rw [e] at h
      have e' : x = n := by simpa using e
      have h' : k = b := Option.some.inj h
      subst e' h'
      exact List.mem_cons_self
    | false => rw [e] at h; exact List.mem_cons_of_mem _ (mem_of_lookup' h)

theorem relabel_free {scope : Scope} {env : Env} {y : Str} (h : (relabel scope env).names.lookup y = some .cell ∨ (relabel scope env).names.lookup y = some .free) (hc : ∀ y ∈ scope.names, y.2 ≠ .cell) : (y, NameKind.free) ∈ scope.names := by
  have q : ∃ k, (y, k) ∈ (relabel scope env).names ∧ (k = .cell ∨ k = .free) := by
    rcases h with h | h
    · exact ⟨_, mem_of_lookup' h, .inl rfl⟩
    · exact ⟨_, mem_of_lookup' h, .inr rfl⟩
  obtain ⟨k, hm, hk⟩ := q
  obtain ⟨⟨n, k'⟩, hm', e⟩ := List.mem_map.mp hm
  dsimp only at e
  split at e
  · rename_i hf
    cases e
    have : k' = .free := by
      simp only [Bool.and_eq_true, beq_iff_eq] at hf
      exact hf.1.1
    subst this
    exact hm'
  · cases e
    rcases hk with rfl | rfl
    · exact absurd rfl (hc _ hm')
    · exact hm'
end L2

set_option Elab.async false
set_option linter.all false
set_option maxRecDepth 100000
namespace L2
open PySem PySem.Spec PyProof.Rows
theorem lookup_relabel_free {env : Env} : ∀ {names : List (Str × NameKind)} {x : Str}, names.lookup x = some .free →
    ((names.map fun (n, k) => if (k == NameKind.free && env.scope.kind == .function && env.kindOf n == some .cell) then (n, NameKind.cell) else (n, k)).lookup x = some .cell ∨
     (names.map fun (n, k) => if (k == NameKind.free && env.scope.kind == .function && env.kindOf n == some .cell) then (n, NameKind.cell) else (n, k)).lookup x = some .free)
  | [], _, h => by simp at h
  | (n, k) :: r, x, h => by
    have ih := @lookup_relabel_free env r x
    rw [List.map_cons]
    cases hx : x == n with
    | true =>
      simp only [List.lookup_cons, hx] at h
      have hk : k = .free := Option.some.inj h
      subst hk
      by_cases hc : (NameKind.free == NameKind.free && env.scope.kind == .function && env.kindOf n == some .cell) = true
      · left
        simp only [hc, if_true, List.lookup_cons, hx]
      · right
        simp only [hc, if_false, List.lookup_cons, hx, Bool.false_eq_true]
    | false =>
      simp only [List.lookup_cons, hx] at h
      by_cases hc : (k == NameKind.free && env.scope.kind == .function && env.kindOf n == some .cell) = true
      · simp only [hc, if_true, List.lookup_cons, hx]; exact ih h
      · simp only [hc, if_false, List.lookup_cons, hx, Bool.false_eq_true]; exact ih h

theorem Inv.track {X : Cx} {pins : List (Addr × Obj)} {σ : St} {H : Hp} {s : Shared} {D : Addr} {vs : List V} {its : List Value} {k : Nat} (I : Inv X pins σ H s) (hD : H D = none) (hz : vs.length ≤ sizeLine) (hv : Vals vs its)
    (e : s.heap.get? D = some { cls := .type "list", data := .seq its.toArray k }) (h1 : D ∈ X.ex ∨ X.s₀.heap.objs.size ≤ D) (h2 : D ≠ X.env.locals) (h3 : ∀ x c, X.env.cells.lookup x = some c → c ≠ D) (h4 : ∀ p ∈ X.pn ++ pins, p.1 ≠ D) :
    Inv X pins σ (upd H D (.lst vs)) s := by
  obtain ⟨hh, g, d, t, o⟩ := s
  have nD : ∀ b u, H b = some u → b ≠ D := fun b u q z => by rw [z, hD] at q; cases q
  refine I.step (g' := g) (d' := d) (t' := t) (h' := hh) (ch := [D]) (fun b hb => ?_) (fun b o _ _ _ q _ => q) (fun b o _ _ _ q _ => ⟨o.slots, q⟩) (fun b o hb q n => ?_) (fun b o _ q => ⟨o, q⟩)
    (fun b xs q => by rw [upd_ne (nD b _ q)]; exact q) (fun b o u q => by rw [upd_ne (nD b _ q)]; exact q) (fun b ps q => ⟨#[], by rw [upd_ne (nD b _ q), q]; simp⟩) (fun m q => q) (fun b u q => ?_) I.bare
  · have z : b = D := by simpa using hb
    subst z
    exact ⟨h1, h2, h3, h4⟩
  · rw [upd_ne (by simpa using hb)]; exact n
  · by_cases z : b = D
    · subst z
      rw [upd_same] at q; cases q
      exact ⟨hz, its, k, hv, e⟩
    · rw [upd_ne z] at q
      exact (I.hok b u q).stay (fun _ _ _ q => q) (fun c q => by rw [upd_ne (nD c _ q)]; exact q) fun c xs q => by rw [upd_ne (nD c _ q)]; exact q

theorem pe_lcomp {X : Cx} {elt iter : Expr} {x : Str} {px pos : Pos} {ifs : List Expr} {scope : Scope} {frees : List Str} {idx : List Nat} {wi : TI} {tt : TT} {te : TE}
    (hc : X.calm = true) (S : CompScope X x frees idx scope) (hfl : ∀ y ∈ frees, scope.names.lookup y = some .free) (hi : PI X (.Name x px) iter wi)
    (ht : ∀ C s₀ H₀ ex, PTs (cxComp X (x :: frees) scope C s₀ H₀ ex) ifs tt) (he : ∀ C s₀ H₀ ex, PE (cxComp X (x :: frees) scope C s₀ H₀ ex) elt te)
    (hs : ∀ v, foldedSetIterable iter X.env v = pure v := by intro _; rfl) : PE X (.ListComp elt [⟨.Name x px, iter, ifs, 0⟩] scope pos) (tComp idx wi tt te) := by
  intro pins s σ H Q I h
  rw [eval_ListComp]
  have hclos := closL_eq (scope := scope) (env := X.env) fun p hp hf => I.ok.has p.1 (S.fr p hp hf)
  refine wpAny_comprehension_free (use := none) rfl hs hclos S.kind S.loc (thn (hi pins s σ H _ I h) fun v s1 h1 => thn h1 fun itv s2 h2 => ?_)
  obtain ⟨it, fp, tn, J, H2, rfl, I2, T, st2, f2, W, ⟨m0, w0⟩, turn⟩ := h2
  refine wpAny_newObj_type (wpAny_newFunctionEnv S.nocell (by intro y hy; simp at hy) (fun h₁ hns₁ hsb₁ => ?_) S.kind)
  dsimp only at hns₁ hsb₁ ⊢
  generalize hH2 : s2.heap.push { cls := .type "list", dict := none, data := .seq ([] : List Value).toArray } = G2 at hns₁ hsb₁ ⊢
  have hCe : G2.objs.size = s2.heap.objs.size + 1 := by rw [← hH2, Heap.size_push]
  generalize hC : G2.objs.size = C at hns₁ hsb₁ hCe ⊢
  have hCle : s2.heap.objs.size ≤ C := by omega
  have hDC : s2.heap.objs.size ≠ C := by omega
  have below : ∀ b, b < s2.heap.objs.size → b ≠ C := fun b hb => by omega
  have old : ∀ b o, s2.heap.get? b = some o → h₁.get? b = some o := fun b o e => hsb₁.extBut b o (below b (Heap.lt_size e)) (Heap.get?_push_of_some _ (hH2 ▸ Heap.get?_push_of_some _ e))
  have hacc : ∃ k, h₁.get? s2.heap.objs.size = some { cls := .type "list", data := .seq ([] : List Value).toArray k } := ⟨_, hsb₁.extBut _ _ hDC (Heap.get?_push_of_some _ (hH2 ▸ Heap.get?_push_size _ rfl))⟩
  have look : ∀ y c, (closL X.env.cells scope.names []).lookup y = some c → X.env.cells.lookup y = some c := fun y c e => by
    rcases closL_look _ _ y c e with q | q
    · exact q
    · cases q
  have fpD : ∀ b ∈ fp, b < s2.heap.objs.size := fun b hb => by
    obtain ⟨o, e, _⟩ := T.obj _ _ st2 b hb
    exact Heap.lt_size e
  have ok' : (cxComp X (x :: frees) scope C s2 H2 fp).Ok := {
    mod := I2.ok.mod
    kind := S.kind
    glob := I2.ok.glob
    blt := I2.ok.blt
    above := hCle
    inj := fun y z c e1 e2 => I2.ok.inj y z c (look y c e1) (look z c e2)
    has := fun y hy => by
      have q := relabel_free (scope := scope) (env := X.env) hy S.nocell
      exact closL_has _ _ y q (I2.ok.has y (S.fr _ q rfl))
    cab := fun y c hf => by cases hf
    hd := I2.ok.hd
    frames := I2.ok.frames
    stk := .inl rfl
    exf := fun b hb => ⟨below b (fpD b hb), fun y c e => (f2 b hb).2.2.2.2.1 y c (look y c e)⟩
    bs := I2.bs
    bsz := Nat.le_trans I2.ok.bsz I2.sz
    noex := fun b o e hb => by
      rcases (f2 b hb).2.2.2.1 with z | z
      · exact I2.ok.noex b o e z
      · exact absurd (Nat.lt_of_lt_of_le (Heap.lt_size e) (Nat.le_trans I2.ok.bsz z)) (Nat.lt_irrefl _)
    exfs := fun b hb hf => by
      rcases List.mem_cons.mp (I2.stkSub b hf) with z | z
      · exact (f2 b hb).2.1 z
      · exact (f2 b hb).2.2.1 z
    funs := I2.stack
    frf := I2.stkFree }
  have Dfs : s2.heap.objs.size ∉ frs X.stack := fun hb => by
    rcases List.mem_cons.mp (I2.stkSub _ hb) with z | z
    · have q := I2.lt
      rw [← z] at q
      exact Nat.lt_irrefl _ q
    · exact I2.nofs (Nat.le_refl _) z
  have Dcell : ∀ y c, X.env.cells.lookup y = some c → c ≠ s2.heap.objs.size := fun y c e z => by
    obtain ⟨v, q⟩ := I2.cell y c e
    have q' := q.lt
    rw [z] at q'
    exact Nat.lt_irrefl _ q'
  have Dpin : ∀ p ∈ X.pn ++ pins, p.1 ≠ s2.heap.objs.size := fun p hp z => by
    have q' := Heap.lt_size (I2.pin p hp).1
    rw [z] at q'
    exact Nat.lt_irrefl _ q'
  have I3 : Inv (cxComp X (x :: frees) scope C s2 H2 fp) pins (none :: outs σ idx) H2 { s2 with heap := h₁, toks := s2.toks + ([] : List (Str × Value)).length } := {
    ok := ok'
    os := rfl
    bare := I2.bare
    base := Un.kept old
    loc := by
      refine ⟨_, hns₁, fun i y v e1 e2 e3 => ?_⟩
      cases i with
      | zero => cases e2
      | succ j =>
        have e1' : frees[j]? = some y := e1
        have e2' : (outs σ idx)[j]? = some (some v) := e2
        obtain ⟨k, hk, hN⟩ := S.ix j y e1'
        have hy : y ∈ frees := List.mem_of_getElem? e1'
        have e4 : σ[k]? = some (some v) := by
          unfold outs at e2'
          rw [List.getElem?_map, hk] at e2'
          have e5 : (σ[k]?).join = some v := Option.some.inj e2'
          cases q : σ[k]? with
          | none => rw [q] at e5; cases e5
          | some o => rw [q] at e5; exact congrArg some e5
        obtain ⟨m, hn, hl⟩ := I2.loc
        have kin := S.fr _ (S.cl y hy) rfl
        have vis : Vis X.env.scope y := by
          rcases kin with z | z
          · exact .inr (.inl z)
          · exact .inr (.inr z)
        obtain ⟨u, r, l⟩ := hl k y v hN e4 vis
        refine ⟨u, r, .inr ⟨lookup_relabel_free (env := X.env) (hfl y hy), ?_⟩⟩
        rcases l with ⟨z, _⟩ | ⟨_, c, ec, ic⟩
        · rcases kin with z' | z'
          · have z'' : X.env.kindOf y = some .cell := z'
            rw [z] at z''; cases z''
          · have z'' : X.env.kindOf y = some .free := z'
            rw [z] at z''; cases z''
        · obtain ⟨c', ec'⟩ := closL_has (cells := X.env.cells) scope.names [] y (S.cl y hy) ⟨c, ec⟩
          have : c' = c := Option.some.inj ((look y c' ec').symm.trans ec)
          subst this
          obtain ⟨o, ho, hd⟩ := ic
          exact ⟨c', ec', o, old _ _ ho, hd⟩
    cell := fun y c e => by
      obtain ⟨v, o, ho, hd⟩ := I2.cell y c (look y c e)
      exact ⟨v, o, old _ _ ho, hd⟩
    free := I2.hok.fresh hCle
    freeC := fun y c e => I2.freeC y c (look y c e)
    pin := fun p hp => by
      obtain ⟨e, n, ne, nf, d⟩ := I2.pin p hp
      refine ⟨old _ _ e, n, below _ (Heap.lt_size e), fun hb => ?_, d⟩
      rcases List.mem_cons.mp (I2.stkSub _ hb) with z | z
      · exact ne z
      · exact nf z
    hok := I2.hok.kept old
    len := by simp [cxComp, outs, S.len] }
  have fok : ∀ {pp : List (Addr × Obj)} {H' : Hp}, (∀ b ∈ fp, H' b = none) → (∀ p ∈ pp, p.1 = s2.heap.objs.size) → ∀ b ∈ fp, FpOk (cxComp X (x :: frees) scope C s2 H2 fp) (pins ++ pp) H' b := fun {pp H'} hn hp b hb => by
    obtain ⟨_, f1, f2', f3, f4, f5⟩ := f2 b hb
    refine ⟨hn b hb, below b (fpD b hb), fun hf => ?_, .inl hb, fun y c e => f4 y c (look y c e), fun p hpp z => ?_⟩
    · rcases List.mem_cons.mp (I2.stkSub b hf) with z | z
      · exact f1 z
      · exact f2' z
    · have hpp' : p ∈ X.pn ++ (pins ++ pp) := hpp
      rw [← List.append_assoc] at hpp'
      rcases List.mem_append.mp hpp' with q | q
      · exact f5 p q z
      · have q' := fpD b hb
        rw [← z, hp p q] at q'
        exact Nat.lt_irrefl _ q'
  have loop : ∀ s3 : Shared, s3 = { s2 with heap := h₁, toks := s2.toks + ([] : List (Str × Value)).length } →
      codeAny (model X.prog X.w) X.A (.compLoop (.ListComp elt [⟨.Name x px, iter, ifs, 0⟩] scope pos) 0 (.ref it) (.ref s2.heap.objs.size) (compEnvC scope (closL X.env.cells scope.names []) C X.env))
        (compPost (model X.prog X.w) X.A X.xe none (EP X pins σ Q) (.ref s2.heap.objs.size) C) s3 := by
    rintro s3 rfl
    obtain ⟨k0, hacc⟩ := hacc
    refine compLoop_go (fun n s' => ∃ i o vs H' its k, Inv (cxComp X (x :: frees) scope C s2 H2 fp) pins (o :: outs σ idx) H' s' ∧ tn i s'.heap ∧ (∀ b ∈ fp, H' b = none) ∧ H' s2.heap.objs.size = none ∧
      s'.heap.get? s2.heap.objs.size = some { cls := .type "list", data := .seq its.toArray k } ∧ Vals vs its ∧ W i n vs H') ?_ m0
      ⟨0, none, [], H2, [], k0, I3, T.keep _ _ _ st2 fun b _ o e => old b o e, fun b hb => (f2 b hb).1, I2.hok.fresh (Nat.le_refl _), hacc, .nil, w0⟩
    rintro n s' ⟨i, o, vs, H', its, k, I', st', fr', hD', hg', hv', w'⟩
    obtain ⟨hlen, alt⟩ := turn i n vs H' w'
    have IP : Inv (cxComp X (x :: frees) scope C s2 H2 fp) (pins ++ [(s2.heap.objs.size, { cls := .type "list", data := .seq its.toArray k })]) (o :: outs σ idx) H' s' :=
      I'.pins_of fun p hp => (List.mem_append.mp hp).elim (fun z => I'.pin p (List.mem_append_right _ z)) fun z => by
        have z' : p = (s2.heap.objs.size, { cls := .type "list", data := .seq its.toArray k }) := by simpa using z
        subst z'
        exact ⟨hg', hD', hDC, Dfs, fun v q => by cases q⟩
    have FP := fok (pp := [(s2.heap.objs.size, { cls := .type "list", data := .seq its.toArray k })]) fr' (fun p hp => by
      have z' : p = (s2.heap.objs.size, { cls := .type "list", data := .seq its.toArray k }) := by simpa using hp
      rw [z'])
    rcases alt with ⟨stop, qn⟩ | ⟨go, step⟩
    · refine thn (T.done (cxComp X (x :: frees) scope C s2 H2 fp) rfl rfl rfl hc i _ s' _ H' (fun _ _ => False) IP FP st' stop) fun r s4 ⟨hr, I4⟩ => ?_
      subst hr
      obtain ⟨m4, hn4, _⟩ := id I4.loc
      refine ⟨m4, hn4, fun h' hsb => ?_⟩
      have gD : s4.heap.get? s2.heap.objs.size = some { cls := .type "list", data := .seq its.toArray k } := (I4.pin (s2.heap.objs.size, _) (List.mem_append_right _ (List.mem_append_right _ (List.mem_singleton.mpr rfl)))).1
      have hx : ∀ b o, b ≠ C → s4.heap.get? b = some o → h'.get? b = some o := fun b o hb e => (hsb.2 b hb).trans e
      have J1 : Inv X pins σ H' { s4 with heap := h' } := by
        refine I2.call' (ch := fp) I4.os ⟨fun b o e n hb hx' => ?_, fun b o e n hb hx' => ?_, I4.base.free, fun b o e hx' => ?_, I4.base.tups, I4.base.frzs, I4.base.tbls⟩ (fun b u e => ?_) I4.bare fun b hb => ?_
        · exact hx b o (below b (Heap.lt_size e)) (I4.base.keep b o e n hb hx')
        · obtain ⟨sl, q⟩ := I4.base.slot b o e n hb hx'
          exact ⟨sl, hx b _ (below b (Heap.lt_size e)) q⟩
        · obtain ⟨o', q⟩ := I4.base.there b o e hx'
          exact ⟨o', hx b _ (below b (Heap.lt_size e)) q⟩
        · refine (I4.hok b u e).stay (fun c v hcc q => hx c v ?_ q) (fun _ q => q) fun _ _ q => q
          rintro rfl
          rcases hcc with z | z
          · rw [← z] at e
            have := I4.free
            rw [show H' c = none from this] at e; cases e
          · have := I4.free
            rw [show H' c = none from this] at z; cases z
        · obtain ⟨_, f1, f2', f3, f4, f5⟩ := f2 b hb
          exact ⟨f3, f1, f4, f5⟩
      refine ⟨.ref s2.heap.objs.size, upd H' s2.heap.objs.size (.lst vs), J1.track hD' (Nat.le_of_lt hlen) hv' (hx _ _ hDC gD) (.inr I2.sz) (fun z => by have q := I2.lt; rw [← z] at q; exact Nat.lt_irrefl _ q) Dcell Dpin, rfl, qn _ hD'⟩
    · refine thn (T.item (cxComp X (x :: frees) scope C s2 H2 fp) rfl rfl rfl hc i _ s' _ H' (fun _ _ => False) IP FP st' go) fun r s4 ⟨u, hr, h4⟩ => ?_
      subst hr
      refine thn h4 fun _ s5 ⟨xv, H5, I5, r5, y5, st5, fr5⟩ => ?_
      have I5' := I5.pinned (fok (pp := [(s2.heap.objs.size, { cls := .type "list", data := .seq its.toArray k })]) fr5 (fun p hp => by
        have z' : p = (s2.heap.objs.size, { cls := .type "list", data := .seq its.toArray k }) := by simpa using hp
        rw [z'])) (T.obj _ _ st5)
      refine wpAny_assign_Name (store_ok (i := 0) (X := cxComp X (x :: frees) scope C s2 H2 fp) I5' S.nd rfl (.inl (lookup_relabel_local S.tgt)) r5 (fun s6 I6 => ?_) (.inr (lookup_relabel_local S.tgt)))
      have q6 := step xv H5 y5
      refine thn (ht C s2 H2 fp _ s6 _ H5 _ I6 q6) fun b s7 ⟨H7, I7, q7⟩ => ?_
      have keepT : ∀ {s8 : Shared} {σ8 : St} {H8 : Hp}, Inv (cxComp X (x :: frees) scope C s2 H2 fp) ((pins ++ [(s2.heap.objs.size, { cls := .type "list", data := .seq its.toArray k })]) ++ pinsAt fp s5.heap) σ8 H8 s8 →
          tn (i + 1) s8.heap ∧ (∀ b ∈ fp, H8 b = none) ∧ H8 s2.heap.objs.size = none ∧ s8.heap.get? s2.heap.objs.size = some { cls := .type "list", data := .seq its.toArray k } := fun {s8 σ8 H8} I8 => by
        refine ⟨T.keep _ _ _ st5 fun b hb o e => (I8.pin (b, o) (List.mem_append_right _ (List.mem_append_right _ (mem_pinsAt hb e)))).1, fun b hb => ?_, ?_, ?_⟩
        · obtain ⟨o, e, d⟩ := T.obj _ _ st5 b hb
          exact (I8.pin (b, o) (List.mem_append_right _ (List.mem_append_right _ (mem_pinsAt hb e)))).2.1
        · exact (I8.pin (s2.heap.objs.size, _) (List.mem_append_right _ (List.mem_append_left _ (List.mem_append_right _ (List.mem_singleton.mpr rfl))))).2.1
        · exact (I8.pin (s2.heap.objs.size, _) (List.mem_append_right _ (List.mem_append_left _ (List.mem_append_right _ (List.mem_singleton.mpr rfl))))).1
      cases b with
      | false =>
        rw [if_neg Bool.false_ne_true] at q7 ⊢
        obtain ⟨m', hm, w7⟩ := q7
        obtain ⟨a1, a2, a3, a4⟩ := keepT I7
        exact ⟨m', hm, i + 1, some xv, vs, H7, its, k, I7.unpinned.unpinned, a1, a2, a3, a4, hv', w7⟩
      | true =>
        rw [if_pos rfl] at q7 ⊢
        refine thn (he C s2 H2 fp _ s7 _ H7 _ I7 q7) fun u8 s8 ⟨v8, H8, I8, r8, m', hm, w8⟩ => ?_
        obtain ⟨a1, a2, a3, a4⟩ := keepT I8
        refine wpAny_list_append_plain (items := its.toArray) ⟨k, a4⟩ (fun h9 pl sb => ?_) (by rw [List.size_toArray, ← hv'.length]; exact Nat.le_of_lt hlen)
        obtain ⟨k9, e9⟩ := pl
        have ne : ∀ b ∈ fp, b ≠ s2.heap.objs.size := fun b hb => Nat.ne_of_lt (fpD b hb)
        have I9 : Inv (cxComp X (x :: frees) scope C s2 H2 fp) pins (some xv :: outs σ idx) H8 { s8 with heap := h9 } :=
          I8.unpinned.unpinned.turned (t' := s8.toks) (fun b o hb e => (sb.2 b hb).trans e) a3 hDC (.inr (Nat.le_refl _)) (fun y c e => Dcell y c (look y c e)) Dpin
        refine ⟨m', hm, i + 1, some xv, vs ++ [v8], H8, its ++ [u8], k9, I9, T.keep _ _ _ a1 fun b hb o e => (sb.2 b (ne b hb)).trans e, a2, a3, ?_, hv'.snoc r8, w8⟩
        rw [List.push_toArray] at e9
        exact e9
  exact codeAny_compStart_list (loop _ rfl) (T.self _ 0 _ _ _ (T.keep _ _ _ st2 fun b _ o e => old b o e) (loop _ rfl))
end L2

set_option Elab.async false
set_option linter.all false
set_option maxRecDepth 100000
namespace L2
open PySem PySem.Spec PyProof.Rows
/-! ### a text walked sign by sign -/
def Its (x : Str) : It := ⟨fun i _ => i < x.cps.size, fun i H v H' => H' = H ∧ ∃ c, x.cps[i]? = some c ∧ v = .str ⟨#[c]⟩, fun i _ => i = x.cps.size⟩
def iStr (tl : TE) : TI := fun σ H R => tl σ H fun v H1 => ∃ x, v = .str x ∧ R (Its x) H1
section
variable {X : Cx}
/-! ### all([..]) of a list of bools -/
theorem boolsAre_of : ∀ {bs : List Bool} {us : List Value}, Vals (bs.map V.bl) us → LSm.BoolsAre us bs := by
  intro bs
  induction bs with
  | nil => intro us h; cases h; exact .nil
  | cons b r ih =>
    intro us h
    cases h with
    | cons h1 h2 =>
      cases (show _ = Value.bool b from h1)
      exact .cons b (ih h2)
theorem call_all (hc : X.calm = true) : CallR X (.builtin "all") (fun xs H Q => ∃ (p : Addr) (bs : List Bool), xs = [.ref p] ∧ SqL X.K H p (bs.map V.bl) ∧ Q (.bl (bs.all id)) H) := by
  intro pins s σ H xs us Q I r h
  obtain ⟨p, bs, rfl, hq, q⟩ := h
  obtain ⟨u, rfl, rx⟩ := vals1 r
  cases rx
  obtain ⟨its, r', pl, hz⟩ := I.list hq
  have hl := pl.isList
  have hb := boolsAre_of r'
  have hlt : p < s.heap.objs.size := by obtain ⟨_, e, _⟩ := hl; exact Heap.lt_size e
  refine call_all_walk (wpAny_pyIter_list hl ?_)
  refine ⟨s.heap.objs.size, [s.heap.objs.size, p], [s.heap.objs.size], its.toArray.size, _, _, fun i => (bs[i]?).getD true, rfl, Walks.list (A := X.A.in1) (I.ok.hd hc) _ p (Nat.ne_of_lt hlt) its.toArray,
    ⟨⟨_, Heap.get?_push_size _ rfl, rfl, rfl⟩, hl.push _⟩, fun i v s' Q' E' hP hQ => ?_, fun h' tk hk => ?_⟩
  · obtain ⟨b, e, rfl⟩ := hb.get i v (by simpa using hP)
    simp only [e, Option.getD_some] at hQ
    exact wpAny_truthy_bool hQ
  · have e : ((List.range its.toArray.size).all fun i => (bs[i]?).getD true) = bs.all id := by
      rw [List.size_toArray, hb.length]; exact LSm.range_all bs
    rw [e]
    exact ⟨.bl (bs.all id), H, I.kept (LSm.kept_iter hk), rfl, q⟩
/-! ### isinstance -/
theorem call_isi : CallR X (.builtin "isinstance") (fun xs H Q => ∃ x t T b, xs = [x, .ty T] ∧ TyOf X.K H x t ∧ PySem.W.kitOne X.K t (.type T) = some b ∧ Q (.bl b) H) := by
  intro pins s σ H xs us Q I r h
  obtain ⟨x, t, T, b, rfl, ty, e, q⟩ := h
  obtain ⟨u, w', rfl, rx, ry⟩ := vals2 r
  cases (show w' = Value.type T from ry)
  exact isinst_ok I rx ty e fun tk => ⟨.bl b, H, I.tok tk, rfl, q⟩
/-! ### slices of texts -/
theorem sl_str : SlR X (fun x lo hi H Q => ∃ z, x = .str z ∧ z.length ≤ sizeLine ∧ Q (.str (Txt.slice z lo hi)) H) := by
  intro pins s σ H x v vl vu lo hi sl Q I rx hs pl pu h
  obtain ⟨z, rfl, hz, q⟩ := h
  obtain ⟨t, rfl⟩ := rx
  refine ⟨"str", _, F.slot_str_getitem.lookup, typeIs_str _ _ _, ?_⟩
  have fin : ∀ l u : Option (Int × Tok), vl = partValue l → vu = partValue u → l.map (·.1) = lo → u.map (·.1) = hi → wpAny (model X.prog X.w) X.A (getItem (.str z t) (.ref sl)) (EP X pins σ Q) X.xe s := fun l u e1 e2 e3 e4 => by
    subst e1 e2 e3 e4
    refine wpAny_getItem_str_slice (l := l) (u := u) (st := none) hs rfl (post_val_or_str ⟨Nat.le_trans (Txt.slice_le z _ _) hz, fun t' k => ⟨.str _, H, I.tok k, ⟨t', rfl⟩, q⟩⟩)
  cases pl <;> cases pu <;> first
    | exact fin none none rfl rfl rfl rfl
    | exact fin none (some (_, _)) rfl rfl rfl rfl
    | exact fin (some (_, _)) none rfl rfl rfl rfl
    | exact fin (some (_, _)) (some (_, _)) rfl rfl rfl rfl
/-! ### str methods -/
theorem mt_startswith : MtR X "str.startswith" (fun x xs H Q => ∃ z y, x = .str z ∧ xs = [.str y] ∧ Q (.bl (Txt.startswith z y)) H) := by
  intro pins s σ H x xs v us Q I rx rs h
  obtain ⟨z, y, rfl, rfl, q⟩ := h
  obtain ⟨t, rfl⟩ := rx
  obtain ⟨u, rfl, t', rfl⟩ := vals1 rs
  exact SC.startswith ⟨.bl _, H, I, rfl, q⟩
/-! ### is, is not of bools -/
/-! ### a tuple is no text -/
/-! ### the call of a function that stands in a slot -/
end
end L2

set_option Elab.async false
set_option linter.all false
set_option maxRecDepth 100000
namespace L2
open PySem PySem.Spec PyProof.Rows
def compOk (osc : Scope) (N : List Str) (x : Str) (frees : List Str) (idx : List Nat) (scope : Scope) : Bool :=
  scope.kind == .function && (scope.names.all (fun y => y.2 != .cell) && (scope.names.all (fun y => y.2 != .local || scope.names.lookup y.1 == some .local) && (scope.names.all (fun y => y.2 != .free || (osc.names.lookup y.1 == some .cell || osc.names.lookup y.1 == some .free)) &&
  (scope.names.lookup x == some .local && (decide (x :: frees).Nodup && (idx.length == frees.length && ((idx.zip frees).all (fun p => N[p.1]? == some p.2) && frees.all (fun y => scope.names.lookup y == some .free))))))))
theorem zip_get {α β : Type} : ∀ {l : List α} {r : List β} {j : Nat} {y : β}, l.length = r.length → r[j]? = some y → ∃ k, l[j]? = some k ∧ (k, y) ∈ l.zip r
  | [], [], j, y, _, h => by simp at h
  | a :: l, b :: r, 0, y, _, h => by
    simp at h; subst h
    exact ⟨a, rfl, by simp⟩
  | a :: l, b :: r, j + 1, y, e, h => by
    obtain ⟨k, h1, h2⟩ := zip_get (l := l) (r := r) (j := j) (y := y) (by simpa using e) (by simpa using h)
    exact ⟨k, by simpa using h1, by rw [List.zip_cons_cons]; exact List.mem_cons_of_mem _ h2⟩
theorem compOk_scope {X : Cx} {osc : Scope} {N : List Str} {x : Str} {frees : List Str} {idx : List Nat} {scope : Scope} (h : compOk osc N x frees idx scope = true) (ho : X.env.scope = osc) (hN : X.N = N) :
    CompScope X x frees idx scope ∧ ∀ y ∈ frees, scope.names.lookup y = some .free := by
  unfold compOk at h
  simp only [Bool.and_eq_true, List.all_eq_true, Bool.or_eq_true, bne_iff_ne, beq_iff_eq, decide_eq_true_eq] at h
  obtain ⟨h1, h2, h3, h4, h5, h6, h7, h8, h9⟩ := h
  have fl : ∀ y ∈ frees, scope.names.lookup y = some .free := fun y hy => h9 y hy
  refine ⟨⟨h1, h2, fun y hy e => ?_, h5, h6, fun y hy e => ?_, fun j y hj => ?_, h7, fun y hy => mem_of_lookup' (fl y hy)⟩, fl⟩
  · rcases h3 y hy with q | q
    · exact absurd e q
    · exact q
  · have q : osc.names.lookup y.1 = some .cell ∨ osc.names.lookup y.1 = some .free := by
      rcases h4 y hy with q | q
      · exact absurd e q
      · exact q
    rw [← ho] at q
    exact q
  · obtain ⟨k, e1, e2⟩ := zip_get h7 hj
    exact ⟨k, e1, by rw [hN]; exact h8 (k, y) e2⟩
theorem pe_lc {X : Cx} {elt iter : Expr} {x : Str} {px pos : Pos} {ifs : List Expr} {scope : Scope} {wi : TI} {tt : TT} {te : TE} (osc : Scope) (N : List Str) (frees : List Str) (idx : List Nat)
    (hk : compOk osc N x frees idx scope = true) (hi : PI X (.Name x px) iter wi)
    (ht : ∀ C s₀ H₀ ex, PTs (cxComp X (x :: frees) scope C s₀ H₀ ex) ifs tt) (he : ∀ C s₀ H₀ ex, PE (cxComp X (x :: frees) scope C s₀ H₀ ex) elt te)
    (ho : X.env.scope = osc := by rfl) (hN : X.N = N := by rfl) (hc : X.calm = true := by rfl) (hs : ∀ v, foldedSetIterable iter X.env v = pure v := by intro _; rfl) : PE X (.ListComp elt [⟨.Name x px, iter, ifs, 0⟩] scope pos) (tComp idx wi tt te) := by
  obtain ⟨S, fl⟩ := compOk_scope (X := X) hk ho hN
  exact pe_lcomp hc S fl hi ht he hs
/-- what a turn of n, the i-th, hands on -/
def Nx (n i : Nat) (p : Prop) : Prop := ∃ m', m' < n - i ∧ m' = n - (i + 1) ∧ i + 1 ≤ n ∧ p
theorem nx {n i : Nat} {p : Prop} (h : i < n) (q : p) : Nx n i p := ⟨n - (i + 1), by omega, rfl, h, q⟩
/-- over a range -/
theorem comp_range {lo : Int} {n : Nat} {tt : TT} {te : TE} {σ' : St} {Q : VK} {H : Hp} (Pv : Nat → List V → Hp → Prop) (h0 : Pv 0 [] H) (hlen : ∀ i vs H2, i ≤ n → Pv i vs H2 → vs.length < sizeLine)
    (hs : ∀ i vs H2, i < n → Pv i vs H2 → tt (some (.int (lo + i)) :: σ') H2 fun b H4 => if b = true then te (some (.int (lo + i)) :: σ') H4 fun v H5 => Nx n i (Pv (i + 1) (vs ++ [v]) H5) else Nx n i (Pv (i + 1) vs H4))
    (hd : ∀ vs H2, Pv n vs H2 → ∀ l, H2 l = none → Q (.ref l) (upd H2 l (.lst vs))) : CompW (Itr lo n) tt te σ' Q H := by
  refine ⟨fun i m vs H => m = n - i ∧ i ≤ n ∧ Pv i vs H, ⟨n, by simp, Nat.zero_le _, h0⟩, ?_⟩
  rintro i m vs H2 ⟨rfl, hi, p⟩
  refine ⟨hlen i vs H2 hi p, ?_⟩
  by_cases hlt : i < n
  · refine .inr ⟨hlt, ?_⟩
    rintro v H3 ⟨rfl, rfl⟩
    exact hs i vs H3 hlt p
  · have e : i = n := by omega
    subst e
    exact .inl ⟨Nat.le_refl _, hd vs H2 p⟩
end L2

set_option Elab.async false
set_option linter.all false
set_option maxRecDepth 100000
namespace L2
open PySem PySem.Spec PyProof.Rows
/-! ### a dict of the module, its keys texts -/
def EntryIs (w : World) (p : Str × V) (e : DictEntry) : Prop := e.hash = hashStr w p.1 ∧ (∃ t, e.key = .str p.1 t) ∧ RelV p.2 e.val
def StrDict (K : PySem.W.Frag) (w : World) (a : Addr) (fs : List (Str × V)) : Prop :=
  (a == sysModules) = false ∧ ∃ o es ep, K.lookup a = some o ∧ o.ExactDict ∧ o.data = .dict es ep ∧ Paired (EntryIs w) fs es.toList
section
variable {X : Cx} {pins : List (Addr × Obj)} {σ : St} {H : Hp} {s : Shared}
end
end L2

set_option Elab.async false
set_option linter.all false
set_option maxRecDepth 100000
namespace L2
open PySem PySem.Spec PyProof.Rows
section
variable {X : Cx}
end
end L2

set_option Elab.async false
set_option linter.all false
set_option maxRecDepth 100000
namespace L2
open PySem PySem.Spec PyProof.Rows
/-! ### texts many times; lists that are alike -/
def repS (k : Nat) (z : Str) : Str := ⟨(List.replicate k z.cps).foldl (· ++ ·) #[]⟩
theorem foldl_cps (a : Array Nat) : ∀ (k : Nat) (b : Array Nat), ((List.replicate k a).foldl (· ++ ·) b).toList = b.toList ++ (List.replicate k a.toList).flatten
  | 0, b => by simp
  | k + 1, b => by
    rw [List.replicate_succ, List.foldl_cons, foldl_cps a k, List.replicate_succ, List.flatten_cons, Array.toList_append, List.append_assoc]
theorem repS_list (k : Nat) (z : Str) : (repS k z).cps.toList = (List.replicate k z.cps.toList).flatten := by
  show ((List.replicate k z.cps).foldl (· ++ ·) #[]).toList = _
  rw [foldl_cps]
  simp
theorem repS_len (k : Nat) (z : Str) : (repS k z).length = k * z.length := by
  have h := congrArg List.length (repS_list k z)
  rw [len_rep] at h
  simpa [Str.length] using h
section
variable {X : Cx}
theorem op_mulS : OpR X (binaryOp .Mult) (fun x y H Q => ∃ (z : Str) (k : Nat), x = .str z ∧ y = .int k ∧ z.length * k ≤ 100000 ∧ k ≤ 100000 ∧ Q (.str (repS k z)) H) := by
  intro pins s σ H x y v u Q I rx ry h
  obtain ⟨z, k, rfl, rfl, hz, hk, q⟩ := h
  obtain ⟨t, rfl⟩ := rx
  obtain ⟨t', rfl⟩ := ry
  have hline : (100000 : Nat) ≤ sizeLine := by decide
  refine P.mul_str (by rw [decide_eq_false (by omega), decide_eq_false (by omega)]; rfl) (fun h1 _ => ?_) (fun h1 _ => ?_) ?_
  · have h2 : (1 : Int) ≤ k := by omega
    have h3 : (z.length : Int) * (k : Int) ≤ 100000 := by
      have q : ((z.length * k : Nat) : Int) ≤ ((100000 : Nat) : Int) := Int.ofNat_le.mpr hz
      rw [Int.natCast_mul] at q
      exact q
    have h4 : (z.length : Int) ≤ (2 ^ 63 - 1) / k := Int.le_ediv_of_mul_le (by omega) (by omega)
    omega
  · unfold Builtin.Str.tooLong
    refine decide_eq_false ?_
    have e : ((k : Int)).toNat = k := by omega
    rw [e]
    omega
  · by_cases h1 : (k : Int) < 1
    · rw [if_pos h1]
      have e : k = 0 := by omega
      subst e
      exact ⟨by decide, .str Str.empty, H, I.tok _, ⟨_, rfl⟩, q⟩
    · rw [if_neg h1]
      by_cases h2 : ((k : Int) == 1 || z.length == 0) = true
      · rw [if_pos h2]
        have e : repS k z = z := by
          have : (repS k z).cps.toList = z.cps.toList := by
            rw [repS_list]
            rw [Bool.or_eq_true] at h2
            rcases h2 with h2 | h2
            · have e1 : k = 1 := by
                have h4 : (k : Int) = 1 := by simpa using h2
                omega
              subst e1
              simp
            · have e0 : z.cps.toList = [] := by
                have : z.cps.toList.length = 0 := by simpa [Str.length] using h2
                exact List.length_eq_zero_iff.mp this
              rw [e0]
              simp
          cases z with
          | mk a =>
            have h3 : (repS k ⟨a⟩).cps = a := Array.toList_inj.mp this
            cases hr : repS k ⟨a⟩ with
            | mk b =>
              rw [hr] at h3
              rw [← h3]
        rw [e] at q
        exact ⟨.str z, H, I, ⟨_, rfl⟩, q⟩
      · rw [if_neg h2]
        have e : ((k : Int)).toNat = k := by omega
        rw [e]
        have hl := repS_len k z
        have : (repS k z).length ≤ sizeLine := by
          rw [hl, Nat.mul_comm]
          omega
        exact ⟨this, .str (repS k z), H, I.tok _, ⟨_, rfl⟩, q⟩
/-- xs == ys of flat values -/
def eqVs (xs ys : List V) : Bool := decide (xs.length = ys.length) && (List.range xs.length).all fun j => match xs[j]?, ys[j]? with
  | some a, some b => eqV a b
  | _, _ => false
end
end L2

set_option Elab.async false
set_option linter.all false
set_option maxRecDepth 100000
namespace L2
open PySem PySem.Spec PyProof.Rows
/-! ### a comprehension whose target is a pattern -/
structure CompScopeM (X : Cx) (frees : List Str) (idx : List Nat) (scope : Scope) : Prop where
  kind : scope.kind = .function
  nocell : ∀ y ∈ scope.names, y.2 ≠ .cell
  loc : ∀ y ∈ scope.names, y.2 = .local → scope.names.lookup y.1 = some .local
  fr : ∀ y ∈ scope.names, y.2 = .free → X.env.kindOf y.1 = some .cell ∨ X.env.kindOf y.1 = some .free
  ix : ∀ (j : Nat) (y : Str), frees[j]? = some y → ∃ k, idx[j]? = some k ∧ X.N[k]? = some y
  len : idx.length = frees.length
  cl : ∀ y ∈ frees, (y, NameKind.free) ∈ scope.names
def CompWM (n : Nat) (J : It) (g : TG) (tt : TT) (te : TE) (σ' : St) (Q : VK) (H1 : Hp) : Prop := ∃ W : Nat → Nat → List V → Hp → Prop, (∃ m, W 0 m [] H1) ∧ ∀ i m vs H2, W i m vs H2 →
  vs.length < sizeLine ∧ ((J.stop i H2 ∧ ∀ l, H2 l = none → Q (.ref l) (upd H2 l (.lst vs))) ∨
    (J.go i H2 ∧ ∀ (τ : St) x H3, τ.length = n → J.yld i H2 x H3 → g x (τ ++ σ') H3 fun σ1 H4 => (∃ τ' : St, σ1 = τ' ++ σ' ∧ τ'.length = n) ∧
      tt σ1 H4 fun b H5 => if b = true then te σ1 H5 fun v H6 => ∃ m', m' < m ∧ W (i + 1) m' (vs ++ [v]) H6 else ∃ m', m' < m ∧ W (i + 1) m' vs H5))
def tCompM (n : Nat) (idx : List Nat) (wi : TI) (g : TG) (tt : TT) (te : TE) : TE := fun σ H Q => wi σ H fun J H1 => CompWM n J g tt te (outs σ idx) Q H1
theorem pe_lcompM {X : Cx} {elt iter tg : Expr} {M : List Str} {g : TG} {pos : Pos} {ifs : List Expr} {scope : Scope} {frees : List Str} {idx : List Nat} {wi : TI} {tt : TT} {te : TE}
    (hc : X.calm = true) (S : CompScopeM X frees idx scope) (hfl : ∀ y ∈ frees, scope.names.lookup y = some .free) (hi : PI X tg iter wi) (hg : ∀ C s₀ H₀ ex, PG (cxComp X (M ++ frees) scope C s₀ H₀ ex) tg g)
    (ht : ∀ C s₀ H₀ ex, PTs (cxComp X (M ++ frees) scope C s₀ H₀ ex) ifs tt) (he : ∀ C s₀ H₀ ex, PE (cxComp X (M ++ frees) scope C s₀ H₀ ex) elt te)
    (hs : ∀ v, foldedSetIterable iter X.env v = pure v := by intro _; rfl) : PE X (.ListComp elt [⟨tg, iter, ifs, 0⟩] scope pos) (tCompM M.length idx wi g tt te) := by
  intro pins s σ H Q I h
  rw [eval_ListComp]
  have hclos := closL_eq (scope := scope) (env := X.env) fun p hp hf => I.ok.has p.1 (S.fr p hp hf)
  refine wpAny_comprehension_free (use := none) rfl hs hclos S.kind S.loc (thn (hi pins s σ H _ I h) fun v s1 h1 => thn h1 fun itv s2 h2 => ?_)
  obtain ⟨it, fp, tn, J, H2, rfl, I2, T, st2, f2, W, ⟨m0, w0⟩, turn⟩ := h2
  refine wpAny_newObj_type (wpAny_newFunctionEnv S.nocell (by intro y hy; simp at hy) (fun h₁ hns₁ hsb₁ => ?_) S.kind)
  dsimp only at hns₁ hsb₁ ⊢
  generalize hH2 : s2.heap.push { cls := .type "list", dict := none, data := .seq ([] : List Value).toArray } = G2 at hns₁ hsb₁ ⊢
  have hCe : G2.objs.size = s2.heap.objs.size + 1 := by rw [← hH2, Heap.size_push]
  generalize hC : G2.objs.size = C at hns₁ hsb₁ hCe ⊢
  have hCle : s2.heap.objs.size ≤ C := by omega
  have hDC : s2.heap.objs.size ≠ C := by omega
  have below : ∀ b, b < s2.heap.objs.size → b ≠ C := fun b hb => by omega
  have old : ∀ b o, s2.heap.get? b = some o → h₁.get? b = some o := fun b o e => hsb₁.extBut b o (below b (Heap.lt_size e)) (Heap.get?_push_of_some _ (hH2 ▸ Heap.get?_push_of_some _ e))
  have hacc : ∃ k, h₁.get? s2.heap.objs.size = some { cls := .type "list", data := .seq ([] : List Value).toArray k } := ⟨_, hsb₁.extBut _ _ hDC (Heap.get?_push_of_some _ (hH2 ▸ Heap.get?_push_size _ rfl))⟩
  have look : ∀ y c, (closL X.env.cells scope.names []).lookup y = some c → X.env.cells.lookup y = some c := fun y c e => by
    rcases closL_look _ _ y c e with q | q
    · exact q
    · cases q
  have fpD : ∀ b ∈ fp, b < s2.heap.objs.size := fun b hb => by
    obtain ⟨o, e, _⟩ := T.obj _ _ st2 b hb
    exact Heap.lt_size e
  have ok' : (cxComp X (M ++ frees) scope C s2 H2 fp).Ok := {
    mod := I2.ok.mod
    kind := S.kind
    glob := I2.ok.glob
    blt := I2.ok.blt
    above := hCle
    inj := fun y z c e1 e2 => I2.ok.inj y z c (look y c e1) (look z c e2)
    has := fun y hy => by
      have q := relabel_free (scope := scope) (env := X.env) hy S.nocell
      exact closL_has _ _ y q (I2.ok.has y (S.fr _ q rfl))
    cab := fun y c hf => by cases hf
    hd := I2.ok.hd
    frames := I2.ok.frames
    stk := .inl rfl
    exf := fun b hb => ⟨below b (fpD b hb), fun y c e => (f2 b hb).2.2.2.2.1 y c (look y c e)⟩
    bs := I2.bs
    bsz := Nat.le_trans I2.ok.bsz I2.sz
    noex := fun b o e hb => by
      rcases (f2 b hb).2.2.2.1 with z | z
      · exact I2.ok.noex b o e z
      · exact absurd (Nat.lt_of_lt_of_le (Heap.lt_size e) (Nat.le_trans I2.ok.bsz z)) (Nat.lt_irrefl _)
    exfs := fun b hb hf => by
      rcases List.mem_cons.mp (I2.stkSub b hf) with z | z
      · exact (f2 b hb).2.1 z
      · exact (f2 b hb).2.2.1 z
    funs := I2.stack
    frf := I2.stkFree }
  have Dfs : s2.heap.objs.size ∉ frs X.stack := fun hb => by
    rcases List.mem_cons.mp (I2.stkSub _ hb) with z | z
    · have q := I2.lt
      rw [← z] at q
      exact Nat.lt_irrefl _ q
    · exact I2.nofs (Nat.le_refl _) z
  have Dcell : ∀ y c, X.env.cells.lookup y = some c → c ≠ s2.heap.objs.size := fun y c e z => by
    obtain ⟨v, q⟩ := I2.cell y c e
    have q' := q.lt
    rw [z] at q'
    exact Nat.lt_irrefl _ q'
  have Dpin : ∀ p ∈ X.pn ++ pins, p.1 ≠ s2.heap.objs.size := fun p hp z => by
    have q' := Heap.lt_size (I2.pin p hp).1
    rw [z] at q'
    exact Nat.lt_irrefl _ q'
  have I3 : Inv (cxComp X (M ++ frees) scope C s2 H2 fp) pins (List.replicate M.length none ++ outs σ idx) H2 { s2 with heap := h₁, toks := s2.toks + ([] : List (Str × Value)).length } := {
    ok := ok'
    os := rfl
    bare := I2.bare
    base := Un.kept old
    loc := by
      refine ⟨_, hns₁, fun i y v e1 e2 e3 => ?_⟩
      by_cases hi' : i < M.length
      · rw [List.getElem?_append_left (by rw [List.length_replicate]; exact hi'), List.getElem?_replicate, if_pos hi'] at e2
        cases e2
      · obtain ⟨j, rfl⟩ : ∃ j, i = M.length + j := ⟨i - M.length, by omega⟩
        have e1' : frees[j]? = some y := by
          have e1'' : (M ++ frees)[M.length + j]? = some y := e1
          rw [List.getElem?_append_right (Nat.le_add_right _ _), Nat.add_sub_cancel_left] at e1''
          exact e1''
        have e2' : (outs σ idx)[j]? = some (some v) := by
          rw [List.getElem?_append_right (by rw [List.length_replicate]; exact Nat.le_add_right _ _), List.length_replicate, Nat.add_sub_cancel_left] at e2
          exact e2
        obtain ⟨k, hk, hN⟩ := S.ix j y e1'
        have hy : y ∈ frees := List.mem_of_getElem? e1'
        have e4 : σ[k]? = some (some v) := by
          unfold outs at e2'
          rw [List.getElem?_map, hk] at e2'
          have e5 : (σ[k]?).join = some v := Option.some.inj e2'
          cases q : σ[k]? with
          | none => rw [q] at e5; cases e5
          | some o => rw [q] at e5; exact congrArg some e5
        obtain ⟨m, hn, hl⟩ := I2.loc
        have kin := S.fr _ (S.cl y hy) rfl
        have vis : Vis X.env.scope y := by
          rcases kin with z | z
          · exact .inr (.inl z)
          · exact .inr (.inr z)
        obtain ⟨u, r, l⟩ := hl k y v hN e4 vis
        refine ⟨u, r, .inr ⟨lookup_relabel_free (env := X.env) (hfl y hy), ?_⟩⟩
        rcases l with ⟨z, _⟩ | ⟨_, c, ec, ic⟩
        · rcases kin with z' | z'
          · have z'' : X.env.kindOf y = some .cell := z'
            rw [z] at z''; cases z''
          · have z'' : X.env.kindOf y = some .free := z'
            rw [z] at z''; cases z''
        · obtain ⟨c', ec'⟩ := closL_has (cells := X.env.cells) scope.names [] y (S.cl y hy) ⟨c, ec⟩
          have : c' = c := Option.some.inj ((look y c' ec').symm.trans ec)
          subst this
          obtain ⟨o, ho, hd⟩ := ic
          exact ⟨c', ec', o, old _ _ ho, hd⟩
    cell := fun y c e => by
      obtain ⟨v, o, ho, hd⟩ := I2.cell y c (look y c e)
      exact ⟨v, o, old _ _ ho, hd⟩
    free := I2.hok.fresh hCle
    freeC := fun y c e => I2.freeC y c (look y c e)
    pin := fun p hp => by
      obtain ⟨e, n, ne, nf, d⟩ := I2.pin p hp
      refine ⟨old _ _ e, n, below _ (Heap.lt_size e), fun hb => ?_, d⟩
      rcases List.mem_cons.mp (I2.stkSub _ hb) with z | z
      · exact ne z
      · exact nf z
    hok := I2.hok.kept old
    len := by simp [cxComp, outs, S.len] }
  have fok : ∀ {pp : List (Addr × Obj)} {H' : Hp}, (∀ b ∈ fp, H' b = none) → (∀ p ∈ pp, p.1 = s2.heap.objs.size) → ∀ b ∈ fp, FpOk (cxComp X (M ++ frees) scope C s2 H2 fp) (pins ++ pp) H' b := fun {pp H'} hn hp b hb => by
    obtain ⟨_, f1, f2', f3, f4, f5⟩ := f2 b hb
    refine ⟨hn b hb, below b (fpD b hb), fun hf => ?_, .inl hb, fun y c e => f4 y c (look y c e), fun p hpp z => ?_⟩
    · rcases List.mem_cons.mp (I2.stkSub b hf) with z | z
      · exact f1 z
      · exact f2' z
    · have hpp' : p ∈ X.pn ++ (pins ++ pp) := hpp
      rw [← List.append_assoc] at hpp'
      rcases List.mem_append.mp hpp' with q | q
      · exact f5 p q z
      · have q' := fpD b hb
        rw [← z, hp p q] at q'
        exact Nat.lt_irrefl _ q'
  have loop : ∀ s3 : Shared, s3 = { s2 with heap := h₁, toks := s2.toks + ([] : List (Str × Value)).length } →
      codeAny (model X.prog X.w) X.A (.compLoop (.ListComp elt [⟨tg, iter, ifs, 0⟩] scope pos) 0 (.ref it) (.ref s2.heap.objs.size) (compEnvC scope (closL X.env.cells scope.names []) C X.env))
        (compPost (model X.prog X.w) X.A X.xe none (EP X pins σ Q) (.ref s2.heap.objs.size) C) s3 := by
    rintro s3 rfl
    obtain ⟨k0, hacc⟩ := hacc
    refine compLoop_go (fun n s' => ∃ i τ vs H' its k, (τ : St).length = M.length ∧ Inv (cxComp X (M ++ frees) scope C s2 H2 fp) pins (τ ++ outs σ idx) H' s' ∧ tn i s'.heap ∧ (∀ b ∈ fp, H' b = none) ∧ H' s2.heap.objs.size = none ∧
      s'.heap.get? s2.heap.objs.size = some { cls := .type "list", data := .seq its.toArray k } ∧ Vals vs its ∧ W i n vs H') ?_ m0
      ⟨0, List.replicate M.length none, [], H2, [], k0, by simp, I3, T.keep _ _ _ st2 fun b _ o e => old b o e, fun b hb => (f2 b hb).1, I2.hok.fresh (Nat.le_refl _), hacc, .nil, w0⟩
    rintro n s' ⟨i, τ, vs, H', its, k, lτ, I', st', fr', hD', hg', hv', w'⟩
    obtain ⟨hlen, alt⟩ := turn i n vs H' w'
    have IP : Inv (cxComp X (M ++ frees) scope C s2 H2 fp) (pins ++ [(s2.heap.objs.size, { cls := .type "list", data := .seq its.toArray k })]) (τ ++ outs σ idx) H' s' :=
      I'.pins_of fun p hp => (List.mem_append.mp hp).elim (fun z => I'.pin p (List.mem_append_right _ z)) fun z => by
        have z' : p = (s2.heap.objs.size, { cls := .type "list", data := .seq its.toArray k }) := by simpa using z
        subst z'
        exact ⟨hg', hD', hDC, Dfs, fun v q => by cases q⟩
    have FP := fok (pp := [(s2.heap.objs.size, { cls := .type "list", data := .seq its.toArray k })]) fr' (fun p hp => by
      have z' : p = (s2.heap.objs.size, { cls := .type "list", data := .seq its.toArray k }) := by simpa using hp
      rw [z'])
    rcases alt with ⟨stop, qn⟩ | ⟨go, step⟩
    · refine thn (T.done (cxComp X (M ++ frees) scope C s2 H2 fp) rfl rfl rfl hc i _ s' _ H' (fun _ _ => False) IP FP st' stop) fun r s4 ⟨hr, I4⟩ => ?_
      subst hr
      obtain ⟨m4, hn4, _⟩ := id I4.loc
      refine ⟨m4, hn4, fun h' hsb => ?_⟩
      have gD : s4.heap.get? s2.heap.objs.size = some { cls := .type "list", data := .seq its.toArray k } := (I4.pin (s2.heap.objs.size, _) (List.mem_append_right _ (List.mem_append_right _ (List.mem_singleton.mpr rfl)))).1
      have hx : ∀ b o, b ≠ C → s4.heap.get? b = some o → h'.get? b = some o := fun b o hb e => (hsb.2 b hb).trans e
      have J1 : Inv X pins σ H' { s4 with heap := h' } := by
        refine I2.call' (ch := fp) I4.os ⟨fun b o e n hb hx' => ?_, fun b o e n hb hx' => ?_, I4.base.free, fun b o e hx' => ?_, I4.base.tups, I4.base.frzs, I4.base.tbls⟩ (fun b u e => ?_) I4.bare fun b hb => ?_
        · exact hx b o (below b (Heap.lt_size e)) (I4.base.keep b o e n hb hx')
        · obtain ⟨sl, q⟩ := I4.base.slot b o e n hb hx'
          exact ⟨sl, hx b _ (below b (Heap.lt_size e)) q⟩
        · obtain ⟨o', q⟩ := I4.base.there b o e hx'
          exact ⟨o', hx b _ (below b (Heap.lt_size e)) q⟩
        · refine (I4.hok b u e).stay (fun c v hcc q => hx c v ?_ q) (fun _ q => q) fun _ _ q => q
          rintro rfl
          rcases hcc with z | z
          · rw [← z] at e
            have := I4.free
            rw [show H' c = none from this] at e; cases e
          · have := I4.free
            rw [show H' c = none from this] at z; cases z
        · obtain ⟨_, f1, f2', f3, f4, f5⟩ := f2 b hb
          exact ⟨f3, f1, f4, f5⟩
      refine ⟨.ref s2.heap.objs.size, upd H' s2.heap.objs.size (.lst vs), J1.track hD' (Nat.le_of_lt hlen) hv' (hx _ _ hDC gD) (.inr I2.sz) (fun z => by have q := I2.lt; rw [← z] at q; exact Nat.lt_irrefl _ q) Dcell Dpin, rfl, qn _ hD'⟩
    · refine thn (T.item (cxComp X (M ++ frees) scope C s2 H2 fp) rfl rfl rfl hc i _ s' _ H' (fun _ _ => False) IP FP st' go) fun r s4 ⟨u, hr, h4⟩ => ?_
      subst hr
      refine thn h4 fun _ s5 ⟨xv, H5, I5, r5, y5, st5, fr5⟩ => ?_
      have I5' := I5.pinned (fok (pp := [(s2.heap.objs.size, { cls := .type "list", data := .seq its.toArray k })]) fr5 (fun p hp => by
        have z' : p = (s2.heap.objs.size, { cls := .type "list", data := .seq its.toArray k }) := by simpa using hp
        rw [z'])) (T.obj _ _ st5)
      have q6 := step τ xv H5 lτ y5
      refine thn (hg C s2 H2 fp _ s5 _ H5 xv _ _ I5' r5 q6) fun _ s6 ⟨σ6, H6, I6, ⟨τ6, e6, l6⟩, q6'⟩ => ?_
      subst e6
      refine thn (ht C s2 H2 fp _ s6 _ H6 _ I6 q6') fun b s7 ⟨H7, I7, q7⟩ => ?_
      have keepT : ∀ {s8 : Shared} {σ8 : St} {H8 : Hp}, Inv (cxComp X (M ++ frees) scope C s2 H2 fp) ((pins ++ [(s2.heap.objs.size, { cls := .type "list", data := .seq its.toArray k })]) ++ pinsAt fp s5.heap) σ8 H8 s8 →
          tn (i + 1) s8.heap ∧ (∀ b ∈ fp, H8 b = none) ∧ H8 s2.heap.objs.size = none ∧ s8.heap.get? s2.heap.objs.size = some { cls := .type "list", data := .seq its.toArray k } := fun {s8 σ8 H8} I8 => by
        refine ⟨T.keep _ _ _ st5 fun b hb o e => (I8.pin (b, o) (List.mem_append_right _ (List.mem_append_right _ (mem_pinsAt hb e)))).1, fun b hb => ?_, ?_, ?_⟩
        · obtain ⟨o, e, d⟩ := T.obj _ _ st5 b hb
          exact (I8.pin (b, o) (List.mem_append_right _ (List.mem_append_right _ (mem_pinsAt hb e)))).2.1
        · exact (I8.pin (s2.heap.objs.size, _) (List.mem_append_right _ (List.mem_append_left _ (List.mem_append_right _ (List.mem_singleton.mpr rfl))))).2.1
        · exact (I8.pin (s2.heap.objs.size, _) (List.mem_append_right _ (List.mem_append_left _ (List.mem_append_right _ (List.mem_singleton.mpr rfl))))).1
      cases b with
      | false =>
        rw [if_neg Bool.false_ne_true] at q7 ⊢
        obtain ⟨m', hm, w7⟩ := q7
        obtain ⟨a1, a2, a3, a4⟩ := keepT I7
        exact ⟨m', hm, i + 1, τ6, vs, H7, its, k, l6, I7.unpinned.unpinned, a1, a2, a3, a4, hv', w7⟩
      | true =>
        rw [if_pos rfl] at q7 ⊢
        refine thn (he C s2 H2 fp _ s7 _ H7 _ I7 q7) fun u8 s8 ⟨v8, H8, I8, r8, m', hm, w8⟩ => ?_
        obtain ⟨a1, a2, a3, a4⟩ := keepT I8
        refine wpAny_list_append_plain (items := its.toArray) ⟨k, a4⟩ (fun h9 pl sb => ?_) (by rw [List.size_toArray, ← hv'.length]; exact Nat.le_of_lt hlen)
        obtain ⟨k9, e9⟩ := pl
        have ne : ∀ b ∈ fp, b ≠ s2.heap.objs.size := fun b hb => Nat.ne_of_lt (fpD b hb)
        have I9 : Inv (cxComp X (M ++ frees) scope C s2 H2 fp) pins (τ6 ++ outs σ idx) H8 { s8 with heap := h9 } :=
          I8.unpinned.unpinned.turned (t' := s8.toks) (fun b o hb e => (sb.2 b hb).trans e) a3 hDC (.inr (Nat.le_refl _)) (fun y c e => Dcell y c (look y c e)) Dpin
        refine ⟨m', hm, i + 1, τ6, vs ++ [v8], H8, its ++ [u8], k9, l6, I9, T.keep _ _ _ a1 fun b hb o e => (sb.2 b (ne b hb)).trans e, a2, a3, ?_, hv'.snoc r8, w8⟩
        rw [List.push_toArray] at e9
        exact e9
  exact codeAny_compStart_list (loop _ rfl) (T.self _ 0 _ _ _ (T.keep _ _ _ st2 fun b _ o e => old b o e) (loop _ rfl))
def compOkM (osc : Scope) (N : List Str) (frees : List Str) (idx : List Nat) (scope : Scope) : Bool :=
  scope.kind == .function && (scope.names.all (fun y => y.2 != .cell) && (scope.names.all (fun y => y.2 != .local || scope.names.lookup y.1 == some .local) && (scope.names.all (fun y => y.2 != .free || (osc.names.lookup y.1 == some .cell || osc.names.lookup y.1 == some .free)) &&
  (idx.length == frees.length && ((idx.zip frees).all (fun p => N[p.1]? == some p.2) && frees.all (fun y => scope.names.lookup y == some .free))))))
theorem compOkM_scope {X : Cx} {osc : Scope} {N : List Str} {frees : List Str} {idx : List Nat} {scope : Scope} (h : compOkM osc N frees idx scope = true) (ho : X.env.scope = osc) (hN : X.N = N) :
    CompScopeM X frees idx scope ∧ ∀ y ∈ frees, scope.names.lookup y = some .free := by
  unfold compOkM at h
  simp only [Bool.and_eq_true, List.all_eq_true, Bool.or_eq_true, bne_iff_ne, beq_iff_eq, decide_eq_true_eq] at h
  obtain ⟨h1, h2, h3, h4, h7, h8, h9⟩ := h
  have fl : ∀ y ∈ frees, scope.names.lookup y = some .free := fun y hy => h9 y hy
  refine ⟨⟨h1, h2, fun y hy e => ?_, fun y hy e => ?_, fun j y hj => ?_, h7, fun y hy => mem_of_lookup' (fl y hy)⟩, fl⟩
  · rcases h3 y hy with q | q
    · exact absurd e q
    · exact q
  · have q : osc.names.lookup y.1 = some .cell ∨ osc.names.lookup y.1 = some .free := by
      rcases h4 y hy with q | q
      · exact absurd e q
      · exact q
    rw [← ho] at q
    exact q
  · obtain ⟨k, e1, e2⟩ := zip_get h7 hj
    exact ⟨k, e1, by rw [hN]; exact h8 (k, y) e2⟩
/-- [e for TARGET in it if ..] -/
theorem pe_lcM {X : Cx} {elt iter tg : Expr} {pos : Pos} {ifs : List Expr} {scope : Scope} {wi : TI} {g : TG} {tt : TT} {te : TE} (osc : Scope) (N : List Str) (M frees : List Str) (idx : List Nat)
    (hk : compOkM osc N frees idx scope = true) (hi : PI X tg iter wi) (hg : ∀ C s₀ H₀ ex, PG (cxComp X (M ++ frees) scope C s₀ H₀ ex) tg g)
    (ht : ∀ C s₀ H₀ ex, PTs (cxComp X (M ++ frees) scope C s₀ H₀ ex) ifs tt) (he : ∀ C s₀ H₀ ex, PE (cxComp X (M ++ frees) scope C s₀ H₀ ex) elt te)
    (ho : X.env.scope = osc := by rfl) (hN : X.N = N := by rfl) (hc : X.calm = true := by rfl) (hs : ∀ v, foldedSetIterable iter X.env v = pure v := by intro _; rfl) : PE X (.ListComp elt [⟨tg, iter, ifs, 0⟩] scope pos) (tCompM M.length idx wi g tt te) := by
  obtain ⟨S, fl⟩ := compOkM_scope (X := X) hk ho hN
  exact pe_lcompM hc S fl hi hg ht he hs
end L2

set_option Elab.async false
set_option linter.all false
set_option maxRecDepth 100000
namespace PySem
open PyProof.Rows
namespace F
theorem owner_rvt : Manifest.owners.lookup (String.ofList ['d', 'e', 's', 'r', 'e', 'v', 'e', 'r'].reverse) = some Manifest.sig_reversed := by kernel_rfl
theorem slot_rvt_next : Slot "reversed" "__next__" "reversed.__next__" :=
  .of (owner := "reversed") (n := "__next__") (by rw [typeLookup_type, builtinLookup_eq_fast]; kernel_rfl) (by decide +kernel) (by decide +kernel) (by decide +kernel)
    (by first | exact .inl (by decide +kernel) | exact .inr (by decide +kernel)) (by rw [isSubtype_type]; kernel_rfl)
theorem entry_rvt_next : entryFor table "reversed.__next__" = some Builtin.«reversed.__next__» := entryFor_of_tree (by kernel_rfl)
theorem args_rvt_next (a : Value) : argsOk "reversed.__next__" ⟨[a], []⟩ := by
  unfold argsOk; rw [signature?_of (id := "reversed.__next__") (n := ['_', '_', 't', 'x', 'e', 'n', '_', '_']) (o := ['d', 'e', 's', 'r', 'e', 'v', 'e', 'r']) (by kernel_rfl) owner_rvt]; kernel_rfl
theorem slot_rvt_iter : Slot "reversed" "__iter__" "reversed.__iter__" :=
  .of (owner := "reversed") (n := "__iter__") (by rw [typeLookup_type, builtinLookup_eq_fast]; kernel_rfl) (by decide +kernel) (by decide +kernel) (by decide +kernel)
    (by first | exact .inl (by decide +kernel) | exact .inr (by decide +kernel)) (by rw [isSubtype_type]; kernel_rfl)
theorem args_rvt_iter (a : Value) : argsOk "reversed.__iter__" ⟨[a], []⟩ := by
  unfold argsOk; rw [signature?_of (id := "reversed.__iter__") (n := ['_', '_', 'r', 'e', 't', 'i', '_', '_']) (o := ['d', 'e', 's', 'r', 'e', 'v', 'e', 'r']) (by kernel_rfl) owner_rvt]; kernel_rfl
theorem entry_rvt_iter : entryFor table "reversed.__iter__" = some Builtin.«dict_keyiterator.__iter__» :=
  entryFor_alias (id' := "dict_keyiterator.__iter__") (by kernel_rfl) (by first | rfl | decide +kernel | (unfold String.splitOn; simp +decide [String.splitOnAux])) (by decide +kernel) (by kernel_rfl)
theorem slot_rvt_hint : Slot "reversed" "__length_hint__" "reversed.__length_hint__" :=
  .of (owner := "reversed") (n := "__length_hint__") (by rw [typeLookup_type, builtinLookup_eq_fast]; kernel_rfl) (by decide +kernel) (by decide +kernel) (by decide +kernel)
    (by first | exact .inl (by decide +kernel) | exact .inr (by decide +kernel)) (by rw [isSubtype_type]; kernel_rfl)
theorem entry_rvt_hint : entryFor table "reversed.__length_hint__" = some Builtin.«reversed.__length_hint__» := entryFor_of_tree (by kernel_rfl)
theorem args_rvt_hint (a : Value) : argsOk "reversed.__length_hint__" ⟨[a], []⟩ := by
  unfold argsOk; rw [signature?_of (id := "reversed.__length_hint__") (n := ['_', '_', 't', 'n', 'i', 'h', '_', 'h', 't', 'g', 'n', 'e', 'l', '_', '_']) (o := ['d', 'e', 's', 'r', 'e', 'v', 'e', 'r']) (by kernel_rfl) owner_rvt]; kernel_rfl
theorem nolen_rvt : typeLookup (.type "reversed") "__len__" = pure none := by rw [typeLookup_type, builtinLookup_eq_fast]; kernel_rfl
theorem tup_norev : typeLookup (.type "tuple") "__reversed__" = pure none := by rw [typeLookup_type, builtinLookup_eq_fast]; kernel_rfl
theorem slot_rvt_init : Slot "reversed" "__init__" "object.__init__" :=
  .of (owner := "object") (n := "__init__") (by rw [typeLookup_type, builtinLookup_eq_fast]; kernel_rfl) (by decide +kernel) (by decide +kernel) (by decide +kernel)
    (by first | exact .inl (by decide +kernel) | exact .inr (by decide +kernel)) (by rw [isSubtype_type]; kernel_rfl)
theorem called_reversed : TypeCalled "reversed" "reversed.__new__" "object.__init__" :=
  ⟨by decide +kernel, by decide +kernel, ⟨_, _, mro_reversed⟩, made_reversed, by decide +kernel, by rw [isSubtype_type]; kernel_rfl, slot_rvt_init⟩
end F
def rvtObj (l : Addr) (i : Int) : Obj := { cls := .type "reversed", data := .fields #[.ref l, rawInt i] }
def Heap.IsRvt (h : Heap) (a l : Addr) (i : Int) : Prop := h.get? a = some (rvtObj l i)
theorem Heap.IsRvt.typeIs {s : Shared} {a l : Addr} {i : Int} (x : s.heap.IsRvt a l i) : s.TypeIs (.ref a) "reversed" := ⟨_, x, rfl⟩
section
variable {prog : Program} {w : World} {A : Around} {E : Value → Shared → Prop} {s : Shared}
theorem meets_rvt_new (l : Addr) (xs : Array Value) (hz : (xs.size : Int) < 2 ^ 63) :
    Meets (Builtin.«reversed.__new__» ⟨[.type "reversed", .ref l], []⟩) (fun _ R s => IsTup s.heap l xs ∧
      R (.ok (.ret (.ref s.heap.objs.size))) { s with heap := s.heap.push (rvtObj l ((xs.size : Int) - 1)), toks := s.toks + 1 + 1 }) :=
  .of_wp fun prog w A R s h => by
    obtain ⟨hl, h⟩ := h
    unfold Builtin.«reversed.__new__»
    refine wpAny_bind (wpAny_of_eq (newClass_reversed _) ?_)
    try dsimp only
    refine wpAny_bind (wpAny_of_eq (a := ()) (by first | rfl | kernel_rfl) ?_)
    refine wpAny_bind (wpAny_of_eq (a := ()) (by first | rfl | kernel_rfl) ?_)
    try dsimp only
    refine wpAny_bind (wpAny_specialOf hl.typeIs F.tup_norev ?_)
    try dsimp only
    refine wpAny_bind ?_
    show wpAny _ _ (isInstance (.ref l) (.type "dict") >>= _) _ _ _
    refine wpAny_bind (wpAny_isInstance (b := false) hl.typeIs F.sub_tuple_dict ?_)
    rw [if_neg Bool.false_ne_true]
    show wpAny _ _ (specialOf (Value.ref l) (Str.ofString "__getitem__") >>= _) _ _ _
    refine wpAny_bind (wpAny_specialOf hl.typeIs F.slot_tuple_getitem.lookup ?_)
    dsimp only
    rw [if_pos (by decide)]
    refine wpAny_pure ?_
    rw [if_neg (by decide)]
    refine wpAny_bind (len_tuple hl hz ?_)
    refine wpAny_bind (m := asInt? (.int _ _)) (wpAny_pure ?_)
    dsimp only
    refine wpAny_bind ?_
    show wpAny _ _ (newObj (.type "reversed") (.fields #[Value.ref l, rawInt ((xs.size : Int) - 1)])) _ _ _
    refine wpAny_newObj_type ?_
    exact wpAny_pure ⟨_, rfl, h⟩
theorem call_reversed_tuple {l : Addr} {xs : Array Value} {Q : Value → Shared → Prop} (hl : IsTup s.heap l xs) (hz : (xs.size : Int) < 2 ^ 63)
    (h : Q (.ref s.heap.objs.size) { s with heap := s.heap.push (rvtObj l ((xs.size : Int) - 1)), toks := s.toks + 1 + 1 }) : wpAny (model prog w) A (call (.type "reversed") [.ref l]) Q E s :=
  callType_new F.called_reversed (by decide) (F.typeCall_reversed_1 _) (F.newCall_reversed_1 _) (fun obj => F.args_object_init_2 obj _) F.entry_reversed_new (meets_rvt_new l xs hz)
    ⟨hl, ⟨_, Heap.get?_push_size _ rfl, rfl⟩, h⟩
theorem wpAny_pyNext_rvt_item {it l : Addr} {i : Nat} {xs : Array Value} {x : Value} {Q : Option Value → Shared → Prop} (hit : s.heap.IsRvt it l (i : Int)) (hl : IsTup s.heap l xs) (hz : (xs.size : Int) < 2 ^ 63) (hx : xs[i]? = some x)
    (hQ : ∀ h' tk, s.toks ≤ tk → h'.IsRvt it l ((i : Int) - 1) → Heap.SameBut it s.heap h' → Q (some x) { s with heap := h', toks := tk }) : wpAny (model prog w) A (pyNext (.ref it)) Q E s := by
  have hlt : i < xs.size := (Array.getElem?_eq_some_iff.mp hx).1
  unfold pyNext
  refine wpAny_bind (wpAny_attempt (wpAny_callSpecial?_slot (name := Str.ofString "__next__") hit.typeIs F.slot_rvt_next
    (wpAny_call_entry F.slot_rvt_next hit.typeIs F.entry_rvt_next ?_ (F.args_rvt_next _))))
  unfold Builtin.«reversed.__next__»
  refine wpAny_bind (wpAny_of_eq (a := (Value.ref it, [])) rfl ?_)
  try dsimp only
  refine wpAny_bind (wpAny_field hit rfl (x := .ref l) rfl ?_)
  show wpAny _ _ (field (.ref it) 1 >>= _) _ _ s
  refine wpAny_bind (wpAny_field hit rfl (x := rawInt (i : Int)) rfl ?_)
  show wpAny _ _ (if (i : Int) < 0 then _ else _) _ _ s
  rw [if_neg (by omega)]
  refine wpAny_bind (wpAny_specialOf hl.typeIs F.slot_tuple_getitem.lookup ?_)
  rw [if_neg (by simp)]
  refine wpAny_bind (wpAny_mkInt ?_)
  refine wpAny_bind (wpAny_attempt ?_)
  refine getItem_tuple (j := i) (x := x) hl (by omega) (by omega) (by unfold seqIndex?; simp; omega) hx ?_
  dsimp only
  refine wpAny_bind (wpAny_field (s := { s with toks := _ }) hit rfl (x := rawInt (i : Int)) rfl ?_)
  show wpAny _ _ (setField (Value.ref it) 1 (rawInt ((i : Int) - 1)) >>= fun _ => ret x) _ _ _
  refine wpAny_bind (wpAny_setField_rec (s := { s with toks := s.toks + 1 }) hit (by simp) fun h' e1 e2 => ?_)
  exact wpAny_pure ⟨x, rfl, wpAny_pure (hQ h' (s.toks + 1) (Nat.le_succ _) e1 e2)⟩
theorem wpAny_pyNext_rvt_end {it l : Addr} {Q : Option Value → Shared → Prop} (hh : A.handled = none) (hit : s.heap.IsRvt it l (-1))
    (hQ : ∀ h', Heap.ExtBut it s.heap h' → Q none { s with heap := h' }) : wpAny (model prog w) A (pyNext (.ref it)) Q E s := by
  unfold pyNext
  refine wpAny_bind (wpAny_attempt (wpAny_callSpecial?_slot (name := Str.ofString "__next__") hit.typeIs F.slot_rvt_next
    (wpAny_call_entry F.slot_rvt_next hit.typeIs F.entry_rvt_next ?_ (F.args_rvt_next _))))
  unfold Builtin.«reversed.__next__»
  refine wpAny_bind (wpAny_of_eq (a := (Value.ref it, [])) rfl ?_)
  try dsimp only
  refine wpAny_bind (wpAny_field hit rfl (x := .ref l) rfl ?_)
  show wpAny _ _ (field (.ref it) 1 >>= _) _ _ s
  refine wpAny_bind (wpAny_field hit rfl (x := rawInt (-1)) rfl ?_)
  show wpAny _ _ (if (-1 : Int) < 0 then _ else _) _ _ s
  rw [if_pos (by decide)]
  refine wpAny_bind (wpAny_rule ?_)
  refine wpAny_bind ?_
  show wpAny _ _ (setField (.ref it) 1 (rawInt (-1)) >>= fun _ => setField (.ref it) 0 .none) _ _ _
  refine wpAny_bind (wpAny_setField_rec hit (by simp) fun h1 e1 f1 => ?_)
  refine wpAny_setField_rec (s := { s with heap := h1 }) e1 (by simp) fun h2 e2 f2 => ?_
  first
  | show wpAny _ _ (newExc (.type "StopIteration") [] >>= _) _ _ _
  | (refine wpAny_bind ?_; show wpAny _ _ (newExc (.type "StopIteration") [] >>= _) _ _ _)
  refine wpAny_bind ?_
  simp only [newExc, newTuple]
  refine wpAny_bind (wpAny_newObj_type ?_ (by size_fits))
  refine wpAny_bind (m := firstArgMember _ _) (wpAny_of_eq (a := Value.none) (by first | rfl | (simp only [firstArgMember]; rfl)) ?_)
  refine wpAny_newObj_type ?_ (by size_fits)
  simp only [raiseNew]
  refine wpAny_bind (wpAny_handled ?_)
  first | rw [show A.in1.handled = none from hh] | rw [hh]
  refine wpAny_bind (wpAny_pure (wpAny_throw ?_))
  refine wpAny_bind (wpAny_isInstance (T := "StopIteration") (b := true) ⟨_, Heap.get?_push_size _ rfl, rfl⟩ isSubtype_stop ?_)
  exact wpAny_pure (hQ _ (fun b o hb e => Heap.get?_push_of_some _ (Heap.get?_push_of_some _ (f2.extBut b o hb (f1.extBut b o hb e)))))
theorem wpAny_pyIter_rvt {it l : Addr} {i : Int} {Q : Value → Shared → Prop} (hit : s.heap.IsRvt it l i) (h : Q (.ref it) s) : wpAny (model prog w) A (pyIter (.ref it)) Q E s := by
  refine wpAny_pyIter_slot hit.typeIs F.slot_rvt_iter (wpAny_call_entry F.slot_rvt_iter hit.typeIs F.entry_rvt_iter ?_ (F.args_rvt_iter _))
  show wpAny _ _ (ret (.ref it)) _ _ s
  exact wpAny_pure ⟨_, rfl, "reversed", _, hit.typeIs, F.slot_rvt_next.lookup, h⟩
theorem WalksS.rvt (hh : A.handled = none) (I l : Addr) (hne : l ≠ I) (xs : Array Value) (hz : (xs.size : Int) < 2 ^ 63) :
    WalksS prog w A I [I, l] [I] (fun a b => a = b) xs.size (fun i v => xs[xs.size - 1 - i]? = some v) (fun i s => s.heap.IsRvt I l ((xs.size : Int) - 1 - (i : Int)) ∧ IsTup s.heap l xs) where
  sub := fun b hb => by simp at hb; simp [hb]
  grefl := fun _ => rfl
  gtrans := fun _ _ _ a b => a.trans b
  frame := fun i s h' tk x _ hk => ⟨hk I (by simp) _ x.1, by obtain ⟨o, ho, r⟩ := x.2; exact ⟨o, hk l (by simp) _ ho, r⟩⟩
  item := fun i s Q E hi x hQ => by
    have e : (xs.size : Int) - 1 - (i : Int) = ((xs.size - 1 - i : Nat) : Int) := by omega
    have hit := x.1
    rw [e] at hit
    have hx : xs[xs.size - 1 - i]? = some (xs[xs.size - 1 - i]'(by omega)) := Array.getElem?_eq_getElem (by omega)
    refine wpAny_pyNext_rvt_item hit x.2 hz hx fun h' tk ht hit' hs' => ?_
    have e2 : ((xs.size - 1 - i : Nat) : Int) - 1 = (xs.size : Int) - 1 - ((i + 1 : Nat) : Int) := by omega
    rw [e2] at hit'
    refine hQ _ { s with heap := h', toks := tk } hx ⟨hit', x.2.extBut hs'.extBut hne⟩ ⟨fun b o hb eo => hs'.extBut b o (fun h => hb (by simp [h])) eo, rfl, rfl, rfl, ht⟩
  done := fun s Q E x hQ => by
    have e : (xs.size : Int) - 1 - (xs.size : Int) = -1 := by omega
    have hit := x.1
    rw [e] at hit
    exact wpAny_pyNext_rvt_end hh hit fun h' he' => hQ { s with heap := h' } ⟨fun b o hb eo => he' b o (fun h => hb (by simp [h])) eo, rfl, rfl, rfl, Nat.le_refl _⟩
  self := fun _ _ _ _ x hQ => wpAny_pyIter_rvt x.1 hQ
end
end PySem

set_option Elab.async false
set_option linter.all false
set_option maxRecDepth 100000
namespace PySem
open PyProof.Rows
section
variable {prog : Program} {w : World} {A : Around} {E : Value → Shared → Prop} {s : Shared}
theorem call_rvt_hint {it l : Addr} {i : Int} {xs : Array Value} {Q : Value → Shared → Prop} (hit : s.heap.IsRvt it l i) (hl : IsTup s.heap l xs) (hz : (xs.size : Int) < 2 ^ 63) (hi : i + 1 ≤ xs.size)
    (hQ : ∀ u tk, s.toks ≤ tk → Q (.int (i + 1) u) { s with toks := tk }) : wpAny (model prog w) A (call (.builtin "reversed.__length_hint__") [.ref it]) Q E s := by
  refine wpAny_call_entry F.slot_rvt_hint hit.typeIs F.entry_rvt_hint ?_ (F.args_rvt_hint _)
  unfold Builtin.«reversed.__length_hint__»
  refine wpAny_bind (wpAny_of_eq (a := Value.ref it) rfl ?_)
  refine wpAny_bind (wpAny_field hit rfl (x := .ref l) rfl ?_)
  rw [if_neg (show ¬ ((Value.ref l == Value.none) = true) from Bool.false_ne_true)]
  refine wpAny_bind (len_tuple hl hz ?_)
  refine wpAny_bind (m := asInt? (.int _ _)) (wpAny_pure ?_)
  dsimp only
  refine wpAny_bind (wpAny_field (s := { s with toks := _ }) hit rfl (x := rawInt i) rfl ?_)
  show wpAny _ _ (if ((xs.size : Nat) : Int) < i + 1 then _ else retInt (i + 1)) _ _ _
  rw [if_neg (by omega)]
  refine wpAny_bind (wpAny_mkInt (wpAny_pure ⟨_, rfl, ?_⟩))
  exact hQ _ _ (by show s.toks ≤ s.toks + 1 + 1 + 1; omega)
end
section
variable {prog : Program} {w : World} {A : Around} {s : Shared} {R : Result → Shared → Prop}
theorem wpAny_extend_rvt (hh : A.handled = none) (S I l : Addr) (res : Value) (c₀ : Nat) {xs : Array Value} (hn : xs.size ≤ sizeLine) (hlI : l ≠ I) (hSI : S ≠ I) (hSl : S ≠ l) (hit : s.heap.IsRvt I l ((xs.size : Int) - 1)) (hl : IsTup s.heap l xs)
    (hS : s.heap.get? S = some { cls := .type "list", data := .seq #[] c₀ })
    (hR : ∀ s' acc' c', Moved [S, I] (fun a b => a = b) s s' → s'.heap.get? S = some { cls := .type "list", dict := none, data := .seq acc' c', slots := #[] } → ItemsOf (fun i v => xs[xs.size - 1 - i]? = some v) acc' xs.size → R (.ok (.ret res)) s') :
    wpAny (model prog w) A.in1 (Builtin.List.listExtendWith (.ref S) (.ref I) res)
      (fun fin s' => match fin with | .done f => R (.ok f) s' | .again c' => c'.quiet = true ∧ codeAny (model prog w) A c' R s') (fun e s' => R (.error e) s') s := by
  have l63 := L2.line63
  have hz : (xs.size : Int) < 2 ^ 63 := by omega
  have W := WalksS.rvt (prog := prog) (w := w) (A := A.in1) hh I l hlI xs hz
  have hSf : S ∉ [I, l] := by simp [hSI, hSl]
  unfold Builtin.List.listExtendWith
  refine wpAny_bind (wpAny_typeOf hit.typeIs ?_)
  have h1 : Builtin.List.listSameRef (.ref S) (.ref I) = false := by simp [Builtin.List.listSameRef, hSI]
  have h2 : (Value.type "reversed" == Value.type "list") = false := by decide
  have h3 : (Value.type "reversed" == Value.type "tuple") = false := by decide
  simp only [h1, h2, h3, Bool.or_false, Bool.false_eq_true, if_false]
  refine wpAny_bind (wpAny_pyIter_rvt hit ?_)
  refine wpAny_bind (wpAny_holding ?_)
  unfold Builtin.List.listLengthHint
  refine wpAny_bind (wpAny_specialOf hit.typeIs F.nolen_rvt ?_)
  show wpAny _ A.in1 (specialOf (Value.ref I) (Str.ofString "__length_hint__") >>= _) _ _ _
  refine wpAny_bind (wpAny_specialOf hit.typeIs F.slot_rvt_hint.lookup ?_)
  (generalize hid : ("reversed.__length_hint__" : String) = id0; (fail_if_success (clear hid id0)); wp_delta; rw [show splitId id0 = some ("reversed", "__length_hint__") from by subst hid; decide +kernel]; subst hid)
  refine wpAny_bind (wpAny_isInstance (b := true) hit.typeIs (by rw [isSubtype_type]; kernel_rfl) ?_)
  rw [if_neg (by decide)]
  dsimp only
  rw [if_neg (by decide +kernel)]
  refine wpAny_bind (wpAny_rule ?_)
  refine wpAny_bind (wpAny_of_eq (F.slot_rvt_hint.bind _) ?_)
  dsimp only
  refine wpAny_bind (wpAny_attempt (call_rvt_hint hit hl hz (by omega) fun u tk htk => ?_))
  dsimp only
  refine wpAny_bind (m := asInt? (.int _ _)) (wpAny_pure ?_)
  dsimp only
  have ei : ((xs.size : Int) - 1 + 1) = xs.size := by omega
  rw [ei]
  have f1 : Builtin.List.listFitsIndex (xs.size : Int) = true := by unfold Builtin.List.listFitsIndex; simp; omega
  have f2 : Builtin.List.listTooLong (xs.size : Int).toNat = false := by unfold Builtin.List.listTooLong; simp; omega
  rw [if_neg (by rw [f1]; decide), if_neg (by omega), if_neg (by rw [f2]; decide)]
  refine wpAny_pure ?_
  have hit' : Heap.IsRvt ({ s with toks := tk } : Shared).heap I l ((xs.size : Int) - 1) := hit
  have key : ∀ (h' : Heap) (c₁ : Nat), h'.get? S = some { cls := .type "list", data := .seq #[] c₁ } → (∀ b o, b ≠ S → s.heap.get? b = some o → h'.get? b = some o) →
      codeAny (model prog w) A (.builtin "list.extend.loop" ⟨[.ref S, .ref I, res], []⟩) R { s with heap := h', toks := tk } := fun h' c₁ hS' kp => by
    have st : (fun (i : Nat) (s : Shared) => s.heap.IsRvt I l ((xs.size : Int) - 1 - (i : Int)) ∧ IsTup s.heap l xs) 0 { s with heap := h', toks := tk } := by
      refine ⟨?_, ?_⟩
      · have e : (xs.size : Int) - 1 - ((0 : Nat) : Int) = (xs.size : Int) - 1 := by omega
        show Heap.IsRvt h' I l ((xs.size : Int) - 1 - ((0 : Nat) : Int))
        rw [e]
        exact kp I _ (Ne.symm hSI) hit
      · obtain ⟨o, ho, r⟩ := hl
        exact ⟨o, kp l _ (Ne.symm hSl) ho, r⟩
    refine codeAny_extend_loopS W hn S hSf res xs.size 0 _ #[] c₁ rfl (Nat.zero_le _) st hS' (ItemsOf.nil _) fun s' acc' c' hm hS'' hacc => ?_
    exact hR s' acc' c' ⟨fun b o hb e => hm.heap b o hb (kp b o (fun z => hb (by simp [z])) e), hm.gens, hm.drawn, hm.os, Nat.le_trans htk hm.toks⟩ hS'' hacc
  split
  · refine wpAny_bind (wpAny_rule ?_)
    refine wpAny_bind ?_
    show wpAny _ A.in1 (updateSeq S (·.push .none) >>= fun _ => updateSeq S (·.pop)) _ _ _
    clear l63 hz f1 f2 ei hn
    refine wpAny_bind (wpAny_updateSeq (s := { s with toks := tk }) hS rfl ?_)
    have hS₂ := Heap.get?_update_self (Obj.mapSeq (·.push Value.none)) hS rfl
    refine wpAny_updateSeq (hz := by seq_fits) hS₂ rfl ?_
    have hS₃ := Heap.get?_update_self (Obj.mapSeq (·.pop)) hS₂ rfl
    exact wpAny_pure ⟨plainId_quiet F.plain_extend_loop _, key _ _ hS₃ fun b o hb e => (Heap.get?_update_other _ _ (Ne.symm hb)).trans ((Heap.get?_update_other _ _ (Ne.symm hb)).trans e)⟩
  · exact wpAny_pure ⟨plainId_quiet F.plain_extend_loop _, key _ _ hS fun b o _ e => e⟩
theorem wpAny_list_init_rvt (hh : A.handled = none) (S I l : Addr) {xs : Array Value} (hn : xs.size ≤ sizeLine) (hlI : l ≠ I) (hSI : S ≠ I) (hSl : S ≠ l) (hit : s.heap.IsRvt I l ((xs.size : Int) - 1)) (hl : IsTup s.heap l xs)
    (hS : s.heap.get? S = some { cls := .type "list", data := .seq #[] })
    (hR : ∀ s' acc' c', Moved [S, I] (fun a b => a = b) s s' → s'.heap.get? S = some { cls := .type "list", dict := none, data := .seq acc' c', slots := #[] } → ItemsOf (fun i v => xs[xs.size - 1 - i]? = some v) acc' xs.size → R (.ok (.ret .none)) s') :
    wpAny (model prog w) A.in1 (Builtin.«list.__init__» ⟨[.ref S, .ref I], []⟩)
      (fun fin s' => match fin with | .done f => R (.ok f) s' | .again c' => c'.quiet = true ∧ codeAny (model prog w) A c' R s') (fun e s' => R (.error e) s') s := by
  show wpAny _ A.in1 (do let old ← Builtin.List.listItems (.ref S); Builtin.List.listUpdate (.ref S) (fun _ => #[]); letGo old.toList.reverse; Builtin.List.listExtendWith (.ref S) (.ref I) .none) _ _ s
  refine wpAny_bind ?_
  unfold Builtin.List.listItems
  refine wpAny_bind (wpAny_seqItems hS rfl (wpAny_pure ?_))
  show wpAny _ A.in1 (updateSeq S (fun _ => #[]) >>= fun _ => letGo (#[] : Array Value).toList.reverse >>= fun _ => Builtin.List.listExtendWith (.ref S) (.ref I) .none) _ _ s
  refine wpAny_bind (wpAny_updateSeq hS rfl ?_)
  have hS₂ := Heap.get?_update_self (Obj.mapSeq (fun _ => (#[] : Array Value))) hS rfl
  have oth : ∀ b o, b ≠ S → s.heap.get? b = some o → (s.heap.update S (Obj.mapSeq (fun _ => (#[] : Array Value)))).get? b = some o :=
    fun b o hb e => (Heap.get?_update_other _ _ (Ne.symm hb)).trans e
  refine wpAny_bind (wpAny_letGo ?_)
  refine wpAny_extend_rvt hh S I l .none _ hn hlI hSI hSl (oth _ _ (Ne.symm hSI) hit) (by obtain ⟨o, ho, r⟩ := hl; exact ⟨o, oth _ _ (Ne.symm hSl) ho, r⟩) hS₂ fun s' acc' c' hm hS' hacc => ?_
  exact hR s' acc' c' ⟨fun b o hb e => hm.heap b o hb (oth b o (fun z => hb (by simp [z])) e), hm.gens, hm.drawn, hm.os, hm.toks⟩ hS' hacc
end
section
variable {prog : Program} {w : World} {A : Around} {E : Value → Shared → Prop} {s : Shared}
theorem call_list_rvt {Q : Value → Shared → Prop} (hh : A.handled = none) (I l : Addr) {xs : Array Value} (hn : xs.size ≤ sizeLine) (hlI : l ≠ I) (hit : s.heap.IsRvt I l ((xs.size : Int) - 1)) (hl : IsTup s.heap l xs)
    (hQ : ∀ s' acc' c', Moved [s.heap.objs.size, I] (fun a b => a = b) s s' → s'.heap.get? s.heap.objs.size = some { cls := .type "list", dict := none, data := .seq acc' c', slots := #[] } → ItemsOf (fun i v => xs[xs.size - 1 - i]? = some v) acc' xs.size → Q (.ref s.heap.objs.size) s') :
    wpAny (model prog w) A (call (.type "list") [.ref I]) Q E s := by
  refine callType_codes (Q₁ := fun obj s₁ => obj = .ref s.heap.objs.size ∧ s₁ = { s with heap := s.heap.push { cls := .type "list", data := .seq #[] } }) F.called_list (F.typeCall_list_1 _) F.entry_list_init
    (code_list_new _ ⟨rfl, rfl⟩) fun obj s₁ h₁ => ?_
  obtain ⟨rfl, rfl⟩ := h₁
  have hS : (s.heap.push { cls := .type "list", data := .seq #[] }).get? s.heap.objs.size = some { cls := .type "list", data := .seq #[] } := Heap.get?_push_size _ rfl
  have hSI : s.heap.objs.size ≠ I := fun e => Nat.lt_irrefl _ (by have := Heap.lt_size hit; rw [← e] at this; exact this)
  have hSl : s.heap.objs.size ≠ l := fun e => by
    obtain ⟨o, ho, _⟩ := hl
    have := Heap.lt_size ho
    rw [← e] at this
    exact Nat.lt_irrefl _ this
  refine ⟨⟨_, hS, rfl⟩, F.args_list_init_2 _ _, wpAny_list_init_rvt (A := A.in1) (s := { s with heap := s.heap.push { cls := .type "list", data := .seq #[] } }) hh _ I l hn hlI hSI hSl (Heap.get?_push_of_some _ hit) (hl.push _) hS fun s' acc' c' hm hS' hacc => ?_⟩
  exact ⟨rfl, hQ s' acc' c' ⟨fun b o hb e => hm.heap b o hb (Heap.get?_push_of_some _ e), hm.gens, hm.drawn, hm.os, hm.toks⟩ hS' hacc⟩
end
end PySem

set_option Elab.async false
set_option linter.all false
set_option maxRecDepth 100000
namespace L2
open PySem PySem.Spec PyProof.Rows
section
variable {X : Cx}
theorem boot_rev : bootBuiltins "reversed" = some (.type "reversed") := PyProof.Rows.boot_reversed
def tListRev (K : PySem.W.Frag) (te : TE) : TE := fun σ H Q => te σ H fun x H1 => ∃ a xs, x = .ref a ∧ SqT K H1 a xs ∧ ∀ l, H1 l = none → Q (.ref l) (upd H1 l (.lst xs.reverse))
theorem Vals.of_get : ∀ {xs : List V} {us : List Value}, xs.length = us.length → (∀ (i : Nat) (x : V) (u : Value), xs[i]? = some x → us[i]? = some u → RelV x u) → Vals xs us
  | [], [], _, _ => .nil
  | [], _ :: _, h, _ => by simp at h
  | _ :: _, [], h, _ => by simp at h
  | x :: xs, u :: us, h, g => .cons (g 0 x u rfl rfl) (Vals.of_get (by simpa using h) fun i a b e f => g (i + 1) a b (by simpa using e) (by simpa using f))
/-- list(reversed(t)), t a tuple -/
theorem pe_listRev {e : Expr} {te : TE} {p pos p2 pos2 : Pos} (hc : X.calm = true) (hgl : Gl X "list") (hml : X.mg "list" = none) (hgr : Gl X "reversed") (hmr : X.mg "reversed" = none) (he : PE X e te)
    (hs1 : starEach [Expr.Call (.Name "reversed" p2) [e] [] pos2] X.env = [(false, eval (Expr.Call (.Name "reversed" p2) [e] [] pos2) X.env)] := by rfl) (hs2 : starEach [e] X.env = [(false, eval e X.env)] := by rfl) :
    PE X (.Call (.Name "list" p) [.Call (.Name "reversed" p2) [e] [] pos2] [] pos) (tListRev X.K te) := by
  intro pins s σ H Q I h
  refine wpAny_Call_Name_kw (ld_blt I hgl hml boot_list ?_ (by decide) (by decide))
  refine PyProof.Rows.callWith_type1 ?_ hs1 rfl
  rw [hs1]
  refine Calls.spliced_cons ?_
  refine wpAny_Call_Name_kw (ld_blt I hgr hmr boot_rev ?_ (by decide) (by decide))
  refine PyProof.Rows.callWith_type1 ?_ hs2 rfl
  rw [hs2]
  refine Calls.spliced_cons (thn (he pins s σ H _ I h) fun u s1 ⟨x, H1, I1, r1, q1⟩ => ?_)
  refine Calls.spliced_nil ?_
  obtain ⟨a, xs, rfl, hq, q⟩ := q1
  cases r1
  obtain ⟨its, rv, pt, hz⟩ := I1.tuple hq
  have hlen := rv.length
  have h63 := line63
  refine call_reversed_tuple pt (by simp; omega) ?_
  refine Calls.spliced_nil ?_
  have ha : a < s1.heap.objs.size := by obtain ⟨o, ho, _⟩ := pt; exact Heap.lt_size ho
  refine call_list_rvt (I1.ok.hd hc) s1.heap.objs.size a (xs := its.toArray) (by simp; omega) (Nat.ne_of_lt ha) (Heap.get?_push_size _ rfl) (pt.push _) fun s' acc c hm hS hacc => ?_
  obtain ⟨h', g', d', t', o'⟩ := s'
  have eg : s1.gens = g' := hm.gens
  have ed : d' = s1.drawn := hm.drawn
  have eo : o' = s1.os := hm.os
  subst eg ed eo
  have sz : (s1.heap.push (rvtObj a (((its.toArray).size : Int) - 1))).objs.size = s1.heap.objs.size + 1 := Heap.size_push ..
  have kp : ∀ b o, s1.heap.get? b = some o → h'.get? b = some o := fun b o e => by
    have hb := Heap.lt_size e
    refine hm.heap b o ?_ (Heap.get?_push_of_some _ e)
    simp only [List.mem_cons, List.not_mem_nil, or_false, not_or]
    exact ⟨Nat.ne_of_lt (Nat.lt_of_lt_of_le hb (Nat.le_of_lt (by rw [sz]; exact Nat.lt_succ_self _))), Nat.ne_of_lt hb⟩
  have va : Vals xs.reverse acc.toList := by
    refine Vals.of_get (by rw [List.length_reverse, hlen]; have := hacc.1; simp at this; simp [this]) fun i x u e f => ?_
    have hi : i < xs.length := by have := (List.getElem?_eq_some_iff.mp e).1; simpa using this
    rw [List.getElem?_reverse hi] at e
    have f' : acc[i]? = some u := by simpa using f
    have g := hacc.2 i u f'
    have g' : its[xs.length - 1 - i]? = some u := by
      have : its.toArray[its.toArray.size - 1 - i]? = some u := g
      simp only [List.size_toArray, List.getElem?_toArray] at this
      rw [hlen]; exact this
    obtain ⟨u', hu', ru⟩ := rv.get e
    rw [g'] at hu'
    cases hu'
    exact ru
  have ea : acc.toList.toArray = acc := by simp
  refine ⟨.ref _, _, I1.laid (t' := t') kp (a := (s1.heap.push (rvtObj a (((its.toArray).size : Int) - 1))).objs.size) (by rw [sz]; omega) (show ObjOk X.prog X.w _ h' _ (.lst xs.reverse) from ⟨by simpa using hz, acc.toList, c, va, by rw [ea]; exact hS⟩), rfl, q _ (I1.hok.fresh (by rw [sz]; omega))⟩
/-- the list at a, from its end: n items at the start, none less later -/
def Itv (K : PySem.W.Frag) (a : Addr) (n : Nat) : It :=
  ⟨fun i H => ∃ xs, SqL K H a xs ∧ xs.length = n ∧ i < n, fun i H x H' => H' = H ∧ ∀ xs, SqL K H a xs → xs[n - 1 - i]? = some x, fun i H => i = n⟩
theorem turn_rev {P : Program} {w : World} {K : PySem.W.Frag} {tg : Expr} (a it : Addr) (n : Nat) : Turn P w K tg (Itv K a n) [it] it (fun i h => h.IsRevIter it a ((n : Int) - 1 - (i : Int))) where
  mem := by simp
  obj := fun i h st b hb => by
    have e : b = it := by simpa using hb
    subst e
    obtain ⟨o, e, c, d⟩ := st
    exact ⟨o, e, fun v z => by rw [d] at z; cases z⟩
  keep := fun i h h' st k => st.at fun o e => k it (by simp) o e
  item := by
    intro X hP hw hK hc i pins s σ H E I hf st hg
    subst hP hw hK
    obtain ⟨xs, hq, hn, hi⟩ := hg
    obtain ⟨its, rv, p, hz⟩ := I.list hq
    have hx : xs[n - 1 - i]? = some (xs[n - 1 - i]'(by omega)) := List.getElem?_eq_getElem (by omega)
    obtain ⟨u, hu, ru⟩ := rv.get hx
    obtain ⟨f0, f1, f2, f3, f4, f5⟩ := hf it (by simp)
    have e : (n : Int) - 1 - (i : Int) = ((n - 1 - i : Nat) : Int) := by omega
    have st2 : s.heap.IsRevIter it a ((n - 1 - i : Nat) : Int) := by rw [← e]; exact st
    refine wpAny_pyNext_rev_item st2 p.isList (x := u) (by simpa using hu) fun h' st' sb => ?_
    have I1 : Inv X pins σ H { s with heap := h' } := I.turned (t' := s.toks) (fun b o hb e => (sb.2 b hb).trans e) f0 f1 f3 f4 f5
    have st3 : h'.IsRevIter it a ((n : Int) - 1 - ((i + 1 : Nat) : Int)) := by
      have e2 : ((n - 1 - i : Nat) : Int) - 1 = (n : Int) - 1 - ((i + 1 : Nat) : Int) := by omega
      rw [← e2]; exact st'
    obtain ⟨o, e, c, d⟩ := id st'
    exact ⟨u, rfl, go_of (s := { s with heap := h' }) e c d (by decide) ⟨_, H, I1, ru, ⟨rfl, fun ys hy => by rw [I.list_inj hy hq]; exact hx⟩, st3, fun b hb => (hf b hb).1⟩⟩
  done := by
    intro X hP hw hK hc i pins s σ H E I hf st hg
    subst hP hw hK
    have hg : i = n := hg
    subst hg
    obtain ⟨f0, f1, f2, f3, f4, f5⟩ := hf it (by simp)
    have e : (i : Int) - 1 - (i : Int) = -1 := by omega
    have st2 : s.heap.IsRevIter it a (-1) := by rw [← e]; exact st
    exact wpAny_pyNext_rev_end (I.ok.hd hc) st2 fun h' eb => ⟨rfl, I.turned (t' := s.toks) (fun b o hb e => eb b o hb e) f0 f1 f3 f4 f5⟩
  self := fun _ _ _ _ _ st h => wpAny_pyIter_revIter st h
def iRev (K : PySem.W.Frag) (tl : TE) : TI := fun σ H R => tl σ H fun x H1 => ∃ a xs, x = .ref a ∧ SqL K H1 a xs ∧ R (Itv K a xs.length) H1
theorem pi_rev {l tg : Expr} {tl : TE} {p pos : Pos} (hg : Gl X "reversed") (hm : X.mg "reversed" = none) (hl : PE X l tl) (hs : starEach [l] X.env = [(false, eval l X.env)] := by rfl) : PI X tg (.Call (.Name "reversed" p) [l] [] pos) (iRev X.K tl) := by
  intro pins s σ H R I h
  refine wpAny_Call_Name_kw (ld_blt I hg hm boot_rev ?_ (by decide) (by decide))
  refine PyProof.Rows.callWith_type1 ?_ hs rfl
  rw [hs]
  refine Calls.spliced_cons (thn (hl pins s σ H _ I h) fun v s1 ⟨x, H1, I1, r1, q1⟩ => ?_)
  refine Calls.spliced_nil ?_
  obtain ⟨a, xs, rfl, hq, q⟩ := q1
  cases r1
  obtain ⟨its, rv, p, hz⟩ := I1.list hq
  have hlen := rv.length
  refine call_reversed_list p.isList ?_
  have st : Heap.IsRevIter (s1.heap.push (revObj a ((its.toArray.size : Int) - 1))) s1.heap.objs.size a ((xs.length : Int) - 1 - ((0 : Nat) : Int)) := by
    refine ⟨_, Heap.get?_push_size _ rfl, rfl, ?_⟩
    show Data.fields _ = _
    simp [hlen]
  refine wpAny_pyIter_revIter (s := { s1 with heap := _ }) st ?_
  refine ⟨s1.heap.objs.size, [s1.heap.objs.size], _, _, H1, rfl, I1.kept (t' := s1.toks) fun b o e => Heap.get?_push_of_some _ e, turn_rev a _ xs.length, st, fun b hb => ?_, q⟩
  have e : b = s1.heap.objs.size := by simpa using hb
  subst e
  exact I1.fpOk (Nat.le_refl _) (I1.hok.fresh (Nat.le_refl _))
theorem for_rev {K : PySem.W.Frag} {a : Addr} {xs : List V} {g : TG} {tb : TS} {D : Ends} {σ : St} {H : Hp} (Pv : Nat → St → Hp → Prop) (h0 : Pv 0 σ H) (hl : ∀ i σ H, i ≤ xs.length → Pv i σ H → SqL K H a xs)
    (hs : ∀ i x σ H, i < xs.length → xs[xs.length - 1 - i]? = some x → Pv i σ H → g x σ H fun σ2 H2 => tb { D with nx := Pv (i + 1), ct := Pv (i + 1), bk := D.nx } σ2 H2) (hd : ∀ σ H, Pv xs.length σ H → D.nx σ H) :
    ∃ W : Nat → Nat → St → Hp → Prop, (∃ m, W 0 m σ H) ∧ ∀ i m σ H, W i m σ H →
      ((Itv K a xs.length).stop i H ∧ D.nx σ H) ∨ ((Itv K a xs.length).go i H ∧ ∃ N : St → Hp → Prop, (∀ σ' H', N σ' H' → ∃ m', m' < m ∧ W (i + 1) m' σ' H') ∧ ∀ x H', (Itv K a xs.length).yld i H x H' → g x σ H' fun σ2 H2 => tb { D with nx := N, ct := N, bk := D.nx } σ2 H2) := by
  refine ⟨fun i m σ H => m = xs.length - i ∧ i ≤ xs.length ∧ Pv i σ H, ⟨xs.length, by simp, Nat.zero_le _, h0⟩, ?_⟩
  rintro i m σ H ⟨rfl, hi, p⟩
  have q := hl i σ H hi p
  by_cases hlt : i < xs.length
  · refine .inr ⟨⟨xs, q, rfl, hlt⟩, Pv (i + 1), fun σ' H' p' => ⟨xs.length - (i + 1), by omega, rfl, hlt, p'⟩, fun x H' y => ?_⟩
    obtain ⟨e, y⟩ := y
    subst e
    exact hs i x σ _ hlt (y xs q) p
  · have e : i = xs.length := by omega
    subst e
    exact .inl ⟨rfl, hd σ H p⟩
end
end L2

set_option Elab.async false
set_option linter.all false
set_option maxRecDepth 100000
namespace L2
open PySem PySem.Spec PyProof.Rows PySem.W
end L2

set_option Elab.async false
set_option linter.all false
set_option maxRecDepth 100000
namespace L2
open PySem PySem.Spec PyProof.Rows
theorem ps_lcomp {X : Cx} {elt iter : Expr} {x y : Str} {px py pos pos0 : Pos} {ifs : List Expr} {scope : Scope} {frees : List Str} {idx : List Nat} {wi : TI} {tt : TT} {te : TE} {g : TG}
    (hc : X.calm = true) (S : CompScope X x frees idx scope) (hfl : ∀ y ∈ frees, scope.names.lookup y = some .free) (hi : PI X (.Name x px) iter wi) (hgy : PG X (.Name y py) g)
    (ht : ∀ C s₀ H₀ ex, PTs (cxComp X (x :: frees) scope C s₀ H₀ ex) ifs tt) (he : ∀ C s₀ H₀ ex, PE (cxComp X (x :: frees) scope C s₀ H₀ ex) elt te)
    (hsw : swapsWith (.ListComp elt [⟨.Name x px, iter, ifs, 0⟩] scope pos) (some (.Name y py)) pos0.line X.env = pure true)
    (hs : ∀ v, foldedSetIterable iter X.env v = pure v := by intro _; rfl) : PS X (.Assign [.Name y py] (.ListComp elt [⟨.Name x px, iter, ifs, 0⟩] scope pos) pos0) (tAsg (tComp idx wi tt te) g) := by
  intro pins s σ H D I h
  rw [exec_Assign_Name_used _ _ _ _ hsw]
  refine wpAny_bind (wpAny_standAt ?_)
  refine wpAny_bind ?_
  show wpAny _ _ (comprehension (.ListComp elt [⟨.Name x px, iter, ifs, 0⟩] scope pos) scope X.env _ (newList []) _ _ (some (assign (.Name y py) X.env)) >>= fun _ => pure ()) _ _ s
  refine wpAny_bind (wpAny_mono (Q := fun _ s' => ∃ σ' H', Inv X pins σ' H' s' ∧ D.nx σ' H') ?_ (fun _ s' h' => wpAny_pure (wpAny_pure h')) fun _ _ h' => h')
  have hclos := closL_eq (scope := scope) (env := X.env) fun p hp hf => I.ok.has p.1 (S.fr p hp hf)
  refine wpAny_comprehension_free (use := some (assign (.Name y py) X.env)) rfl hs hclos S.kind S.loc (thn (hi pins s σ H _ I h) fun v s1 h1 => thn h1 fun itv s2 h2 => ?_)
  obtain ⟨it, fp, tn, J, H2, rfl, I2, T, st2, f2, W, ⟨m0, w0⟩, turn⟩ := h2
  refine wpAny_newObj_type (wpAny_newFunctionEnv S.nocell (by intro y hy; simp at hy) (fun h₁ hns₁ hsb₁ => ?_) S.kind)
  dsimp only at hns₁ hsb₁ ⊢
  generalize hH2 : s2.heap.push { cls := .type "list", dict := none, data := .seq ([] : List Value).toArray } = G2 at hns₁ hsb₁ ⊢
  have hCe : G2.objs.size = s2.heap.objs.size + 1 := by rw [← hH2, Heap.size_push]
  generalize hC : G2.objs.size = C at hns₁ hsb₁ hCe ⊢
  have hCle : s2.heap.objs.size ≤ C := by omega
  have hDC : s2.heap.objs.size ≠ C := by omega
  have below : ∀ b, b < s2.heap.objs.size → b ≠ C := fun b hb => by omega
  have old : ∀ b o, s2.heap.get? b = some o → h₁.get? b = some o := fun b o e => hsb₁.extBut b o (below b (Heap.lt_size e)) (Heap.get?_push_of_some _ (hH2 ▸ Heap.get?_push_of_some _ e))
  have hacc : ∃ k, h₁.get? s2.heap.objs.size = some { cls := .type "list", data := .seq ([] : List Value).toArray k } := ⟨_, hsb₁.extBut _ _ hDC (Heap.get?_push_of_some _ (hH2 ▸ Heap.get?_push_size _ rfl))⟩
  have look : ∀ y c, (closL X.env.cells scope.names []).lookup y = some c → X.env.cells.lookup y = some c := fun y c e => by
    rcases closL_look _ _ y c e with q | q
    · exact q
    · cases q
  have fpD : ∀ b ∈ fp, b < s2.heap.objs.size := fun b hb => by
    obtain ⟨o, e, _⟩ := T.obj _ _ st2 b hb
    exact Heap.lt_size e
  have ok' : (cxComp X (x :: frees) scope C s2 H2 fp).Ok := {
    mod := I2.ok.mod
    kind := S.kind
    glob := I2.ok.glob
    blt := I2.ok.blt
    above := hCle
    inj := fun y z c e1 e2 => I2.ok.inj y z c (look y c e1) (look z c e2)
    has := fun y hy => by
      have q := relabel_free (scope := scope) (env := X.env) hy S.nocell
      exact closL_has _ _ y q (I2.ok.has y (S.fr _ q rfl))
    cab := fun y c hf => by cases hf
    hd := I2.ok.hd
    frames := I2.ok.frames
    stk := .inl rfl
    exf := fun b hb => ⟨below b (fpD b hb), fun y c e => (f2 b hb).2.2.2.2.1 y c (look y c e)⟩
    bs := I2.bs
    bsz := Nat.le_trans I2.ok.bsz I2.sz
    noex := fun b o e hb => by
      rcases (f2 b hb).2.2.2.1 with z | z
      · exact I2.ok.noex b o e z
      · exact absurd (Nat.lt_of_lt_of_le (Heap.lt_size e) (Nat.le_trans I2.ok.bsz z)) (Nat.lt_irrefl _)
    exfs := fun b hb hf => by
      rcases List.mem_cons.mp (I2.stkSub b hf) with z | z
      · exact (f2 b hb).2.1 z
      · exact (f2 b hb).2.2.1 z
    funs := I2.stack
    frf := I2.stkFree }
  have Dfs : s2.heap.objs.size ∉ frs X.stack := fun hb => by
    rcases List.mem_cons.mp (I2.stkSub _ hb) with z | z
    · have q := I2.lt
      rw [← z] at q
      exact Nat.lt_irrefl _ q
    · exact I2.nofs (Nat.le_refl _) z
  have Dcell : ∀ y c, X.env.cells.lookup y = some c → c ≠ s2.heap.objs.size := fun y c e z => by
    obtain ⟨v, q⟩ := I2.cell y c e
    have q' := q.lt
    rw [z] at q'
    exact Nat.lt_irrefl _ q'
  have Dpin : ∀ p ∈ X.pn ++ pins, p.1 ≠ s2.heap.objs.size := fun p hp z => by
    have q' := Heap.lt_size (I2.pin p hp).1
    rw [z] at q'
    exact Nat.lt_irrefl _ q'
  have I3 : Inv (cxComp X (x :: frees) scope C s2 H2 fp) pins (none :: outs σ idx) H2 { s2 with heap := h₁, toks := s2.toks + ([] : List (Str × Value)).length } := {
    ok := ok'
    os := rfl
    bare := I2.bare
    base := Un.kept old
    loc := by
      refine ⟨_, hns₁, fun i y v e1 e2 e3 => ?_⟩
      cases i with
      | zero => cases e2
      | succ j =>
        have e1' : frees[j]? = some y := e1
        have e2' : (outs σ idx)[j]? = some (some v) := e2
        obtain ⟨k, hk, hN⟩ := S.ix j y e1'
        have hy : y ∈ frees := List.mem_of_getElem? e1'
        have e4 : σ[k]? = some (some v) := by
          unfold outs at e2'
          rw [List.getElem?_map, hk] at e2'
          have e5 : (σ[k]?).join = some v := Option.some.inj e2'
          cases q : σ[k]? with
          | none => rw [q] at e5; cases e5
          | some o => rw [q] at e5; exact congrArg some e5
        obtain ⟨m, hn, hl⟩ := I2.loc
        have kin := S.fr _ (S.cl y hy) rfl
        have vis : Vis X.env.scope y := by
          rcases kin with z | z
          · exact .inr (.inl z)
          · exact .inr (.inr z)
        obtain ⟨u, r, l⟩ := hl k y v hN e4 vis
        refine ⟨u, r, .inr ⟨lookup_relabel_free (env := X.env) (hfl y hy), ?_⟩⟩
        rcases l with ⟨z, _⟩ | ⟨_, c, ec, ic⟩
        · rcases kin with z' | z'
          · have z'' : X.env.kindOf y = some .cell := z'
            rw [z] at z''; cases z''
          · have z'' : X.env.kindOf y = some .free := z'
            rw [z] at z''; cases z''
        · obtain ⟨c', ec'⟩ := closL_has (cells := X.env.cells) scope.names [] y (S.cl y hy) ⟨c, ec⟩
          have : c' = c := Option.some.inj ((look y c' ec').symm.trans ec)
          subst this
          obtain ⟨o, ho, hd⟩ := ic
          exact ⟨c', ec', o, old _ _ ho, hd⟩
    cell := fun y c e => by
      obtain ⟨v, o, ho, hd⟩ := I2.cell y c (look y c e)
      exact ⟨v, o, old _ _ ho, hd⟩
    free := I2.hok.fresh hCle
    freeC := fun y c e => I2.freeC y c (look y c e)
    pin := fun p hp => by
      obtain ⟨e, n, ne, nf, d⟩ := I2.pin p hp
      refine ⟨old _ _ e, n, below _ (Heap.lt_size e), fun hb => ?_, d⟩
      rcases List.mem_cons.mp (I2.stkSub _ hb) with z | z
      · exact ne z
      · exact nf z
    hok := I2.hok.kept old
    len := by simp [cxComp, outs, S.len] }
  have fok : ∀ {pp : List (Addr × Obj)} {H' : Hp}, (∀ b ∈ fp, H' b = none) → (∀ p ∈ pp, p.1 = s2.heap.objs.size) → ∀ b ∈ fp, FpOk (cxComp X (x :: frees) scope C s2 H2 fp) (pins ++ pp) H' b := fun {pp H'} hn hp b hb => by
    obtain ⟨_, f1, f2', f3, f4, f5⟩ := f2 b hb
    refine ⟨hn b hb, below b (fpD b hb), fun hf => ?_, .inl hb, fun y c e => f4 y c (look y c e), fun p hpp z => ?_⟩
    · rcases List.mem_cons.mp (I2.stkSub b hf) with z | z
      · exact f1 z
      · exact f2' z
    · have hpp' : p ∈ X.pn ++ (pins ++ pp) := hpp
      rw [← List.append_assoc] at hpp'
      rcases List.mem_append.mp hpp' with q | q
      · exact f5 p q z
      · have q' := fpD b hb
        rw [← z, hp p q] at q'
        exact Nat.lt_irrefl _ q'
  have loop : ∀ s3 : Shared, s3 = { s2 with heap := h₁, toks := s2.toks + ([] : List (Str × Value)).length } →
      codeAny (model X.prog X.w) X.A (.compLoop (.ListComp elt [⟨.Name x px, iter, ifs, 0⟩] scope pos) 0 (.ref it) (.ref s2.heap.objs.size) (compEnvC scope (closL X.env.cells scope.names []) C X.env))
        (compPost (model X.prog X.w) X.A X.xe (some (assign (.Name y py) X.env)) (fun _ s' => ∃ σ' H', Inv X pins σ' H' s' ∧ D.nx σ' H') (.ref s2.heap.objs.size) C) s3 := by
    rintro s3 rfl
    obtain ⟨k0, hacc⟩ := hacc
    refine compLoop_go (fun n s' => ∃ i o vs H' its k, Inv (cxComp X (x :: frees) scope C s2 H2 fp) pins (o :: outs σ idx) H' s' ∧ tn i s'.heap ∧ (∀ b ∈ fp, H' b = none) ∧ H' s2.heap.objs.size = none ∧
      s'.heap.get? s2.heap.objs.size = some { cls := .type "list", data := .seq its.toArray k } ∧ Vals vs its ∧ W i n vs H') ?_ m0
      ⟨0, none, [], H2, [], k0, I3, T.keep _ _ _ st2 fun b _ o e => old b o e, fun b hb => (f2 b hb).1, I2.hok.fresh (Nat.le_refl _), hacc, .nil, w0⟩
    rintro n s' ⟨i, o, vs, H', its, k, I', st', fr', hD', hg', hv', w'⟩
    obtain ⟨hlen, alt⟩ := turn i n vs H' w'
    have IP : Inv (cxComp X (x :: frees) scope C s2 H2 fp) (pins ++ [(s2.heap.objs.size, { cls := .type "list", data := .seq its.toArray k })]) (o :: outs σ idx) H' s' :=
      I'.pins_of fun p hp => (List.mem_append.mp hp).elim (fun z => I'.pin p (List.mem_append_right _ z)) fun z => by
        have z' : p = (s2.heap.objs.size, { cls := .type "list", data := .seq its.toArray k }) := by simpa using z
        subst z'
        exact ⟨hg', hD', hDC, Dfs, fun v q => by cases q⟩
    have FP := fok (pp := [(s2.heap.objs.size, { cls := .type "list", data := .seq its.toArray k })]) fr' (fun p hp => by
      have z' : p = (s2.heap.objs.size, { cls := .type "list", data := .seq its.toArray k }) := by simpa using hp
      rw [z'])
    rcases alt with ⟨stop, qn⟩ | ⟨go, step⟩
    · refine thn (T.done (cxComp X (x :: frees) scope C s2 H2 fp) rfl rfl rfl hc i _ s' _ H' (fun _ _ => False) IP FP st' stop) fun r s4 ⟨hr, I4⟩ => ?_
      subst hr
      obtain ⟨m4, hn4, _⟩ := id I4.loc
      show wpAny _ _ (assign (.Name y py) X.env (.ref s2.heap.objs.size)) _ _ s4
      obtain ⟨h', hh'⟩ : ∃ h', h' = s4.heap := ⟨_, rfl⟩
      have hsb : Heap.SameBut C s4.heap h' := by rw [hh']; exact ⟨rfl, fun _ _ => rfl⟩
      have gD : s4.heap.get? s2.heap.objs.size = some { cls := .type "list", data := .seq its.toArray k } := (I4.pin (s2.heap.objs.size, _) (List.mem_append_right _ (List.mem_append_right _ (List.mem_singleton.mpr rfl)))).1
      have hx : ∀ b o, b ≠ C → s4.heap.get? b = some o → h'.get? b = some o := fun b o hb e => (hsb.2 b hb).trans e
      have J1 : Inv X pins σ H' { s4 with heap := h' } := by
        refine I2.call' (ch := fp) I4.os ⟨fun b o e n hb hx' => ?_, fun b o e n hb hx' => ?_, I4.base.free, fun b o e hx' => ?_, I4.base.tups, I4.base.frzs, I4.base.tbls⟩ (fun b u e => ?_) I4.bare fun b hb => ?_
        · exact hx b o (below b (Heap.lt_size e)) (I4.base.keep b o e n hb hx')
        · obtain ⟨sl, q⟩ := I4.base.slot b o e n hb hx'
          exact ⟨sl, hx b _ (below b (Heap.lt_size e)) q⟩
        · obtain ⟨o', q⟩ := I4.base.there b o e hx'
          exact ⟨o', hx b _ (below b (Heap.lt_size e)) q⟩
        · refine (I4.hok b u e).stay (fun c v hcc q => hx c v ?_ q) (fun _ q => q) fun _ _ q => q
          rintro rfl
          rcases hcc with z | z
          · rw [← z] at e
            have := I4.free
            rw [show H' c = none from this] at e; cases e
          · have := I4.free
            rw [show H' c = none from this] at z; cases z
        · obtain ⟨_, f1, f2', f3, f4, f5⟩ := f2 b hb
          exact ⟨f3, f1, f4, f5⟩
      have I5 := J1.track hD' (Nat.le_of_lt hlen) hv' (hx _ _ hDC gD) (.inr I2.sz) (fun z => by have q := I2.lt; rw [← z] at q; exact Nat.lt_irrefl _ q) Dcell Dpin
      have e4 : ({ s4 with heap := h' } : Shared) = s4 := by rw [hh']
      rw [e4] at I5
      have HC : H' C = none := I4.free
      obtain ⟨oC, es, ep, gC, rC⟩ := id hn4
      have nC : C ≠ X.env.locals := fun z => by have q := I2.lt; rw [← z] at q; exact Nat.lt_irrefl _ (Nat.lt_of_lt_of_le q hCle)
      have uC : (upd H' s2.heap.objs.size (.lst vs)) C = none := by rw [upd_ne (Ne.symm hDC)]; exact HC
      have IPn : Inv X (pins ++ [(C, oC)]) σ (upd H' s2.heap.objs.size (.lst vs)) s4 := I5.pins_of fun p hp => (List.mem_append.mp hp).elim (fun z => I5.pin p (List.mem_append_right _ z)) fun z => by
        have z' : p = (C, oC) := by simpa using z
        subst z'
        exact ⟨gC, uC, nC, I2.nofs hCle, fun v q => by have q2 : oC.data = .cell v := q; have q3 := rC.1; rw [q2] at q3; cases q3⟩
      refine thn (hgy _ s4 σ _ (.ref s2.heap.objs.size) _ _ IPn rfl (qn _ hD')) fun _ s6 ⟨σ6, H6, I6, q6⟩ => ?_
      have pC := I6.pin (C, oC) (List.mem_append_right _ (List.mem_append_right _ (List.mem_singleton.mpr rfl)))
      refine ⟨m4, hn4.at' (fun o e => by rw [gC] at e; cases e; exact pC.1), fun h'' sb => ⟨σ6, H6, ?_, q6⟩⟩
      exact I6.unpinned.turned (t' := s6.toks) (fun b o hb e => (sb.2 b hb).trans e) pC.2.1 nC (.inr (Nat.le_trans I2.sz hCle)) (fun z c e zz => by
        obtain ⟨v, q⟩ := I2.cell z c e
        have q' := q.lt
        rw [zz] at q'
        exact Nat.lt_irrefl _ (Nat.lt_of_lt_of_le q' hCle)) (fun p hp zz => by
        have q' := Heap.lt_size (I2.pin p hp).1
        rw [zz] at q'
        exact Nat.lt_irrefl _ (Nat.lt_of_lt_of_le q' hCle))
    · refine thn (T.item (cxComp X (x :: frees) scope C s2 H2 fp) rfl rfl rfl hc i _ s' _ H' (fun _ _ => False) IP FP st' go) fun r s4 ⟨u, hr, h4⟩ => ?_
      subst hr
      refine thn h4 fun _ s5 ⟨xv, H5, I5, r5, y5, st5, fr5⟩ => ?_
      have I5' := I5.pinned (fok (pp := [(s2.heap.objs.size, { cls := .type "list", data := .seq its.toArray k })]) fr5 (fun p hp => by
        have z' : p = (s2.heap.objs.size, { cls := .type "list", data := .seq its.toArray k }) := by simpa using hp
        rw [z'])) (T.obj _ _ st5)
      refine wpAny_assign_Name (store_ok (i := 0) (X := cxComp X (x :: frees) scope C s2 H2 fp) I5' S.nd rfl (.inl (lookup_relabel_local S.tgt)) r5 (fun s6 I6 => ?_) (.inr (lookup_relabel_local S.tgt)))
      have q6 := step xv H5 y5
      refine thn (ht C s2 H2 fp _ s6 _ H5 _ I6 q6) fun b s7 ⟨H7, I7, q7⟩ => ?_
      have keepT : ∀ {s8 : Shared} {σ8 : St} {H8 : Hp}, Inv (cxComp X (x :: frees) scope C s2 H2 fp) ((pins ++ [(s2.heap.objs.size, { cls := .type "list", data := .seq its.toArray k })]) ++ pinsAt fp s5.heap) σ8 H8 s8 →
          tn (i + 1) s8.heap ∧ (∀ b ∈ fp, H8 b = none) ∧ H8 s2.heap.objs.size = none ∧ s8.heap.get? s2.heap.objs.size = some { cls := .type "list", data := .seq its.toArray k } := fun {s8 σ8 H8} I8 => by
        refine ⟨T.keep _ _ _ st5 fun b hb o e => (I8.pin (b, o) (List.mem_append_right _ (List.mem_append_right _ (mem_pinsAt hb e)))).1, fun b hb => ?_, ?_, ?_⟩
        · obtain ⟨o, e, d⟩ := T.obj _ _ st5 b hb
          exact (I8.pin (b, o) (List.mem_append_right _ (List.mem_append_right _ (mem_pinsAt hb e)))).2.1
        · exact (I8.pin (s2.heap.objs.size, _) (List.mem_append_right _ (List.mem_append_left _ (List.mem_append_right _ (List.mem_singleton.mpr rfl))))).2.1
        · exact (I8.pin (s2.heap.objs.size, _) (List.mem_append_right _ (List.mem_append_left _ (List.mem_append_right _ (List.mem_singleton.mpr rfl))))).1
      cases b with
      | false =>
        rw [if_neg Bool.false_ne_true] at q7 ⊢
        obtain ⟨m', hm, w7⟩ := q7
        obtain ⟨a1, a2, a3, a4⟩ := keepT I7
        exact ⟨m', hm, i + 1, some xv, vs, H7, its, k, I7.unpinned.unpinned, a1, a2, a3, a4, hv', w7⟩
      | true =>
        rw [if_pos rfl] at q7 ⊢
        refine thn (he C s2 H2 fp _ s7 _ H7 _ I7 q7) fun u8 s8 ⟨v8, H8, I8, r8, m', hm, w8⟩ => ?_
        obtain ⟨a1, a2, a3, a4⟩ := keepT I8
        refine wpAny_list_append_plain (items := its.toArray) ⟨k, a4⟩ (fun h9 pl sb => ?_) (by rw [List.size_toArray, ← hv'.length]; exact Nat.le_of_lt hlen)
        obtain ⟨k9, e9⟩ := pl
        have ne : ∀ b ∈ fp, b ≠ s2.heap.objs.size := fun b hb => Nat.ne_of_lt (fpD b hb)
        have I9 : Inv (cxComp X (x :: frees) scope C s2 H2 fp) pins (some xv :: outs σ idx) H8 { s8 with heap := h9 } :=
          I8.unpinned.unpinned.turned (t' := s8.toks) (fun b o hb e => (sb.2 b hb).trans e) a3 hDC (.inr (Nat.le_refl _)) (fun y c e => Dcell y c (look y c e)) Dpin
        refine ⟨m', hm, i + 1, some xv, vs ++ [v8], H8, its ++ [u8], k9, I9, T.keep _ _ _ a1 fun b hb o e => (sb.2 b (ne b hb)).trans e, a2, a3, ?_, hv'.snoc r8, w8⟩
        rw [List.push_toArray] at e9
        exact e9
  exact codeAny_compStart_list (loop _ rfl) (T.self _ 0 _ _ _ (T.keep _ _ _ st2 fun b _ o e => old b o e) (loop _ rfl))
/-- y = [e for x in it if ..], y a name of the def on the same row -/
theorem ps_lc {X : Cx} {elt iter : Expr} {x y : Str} {px py pos pos0 : Pos} {ifs : List Expr} {scope : Scope} {wi : TI} {tt : TT} {te : TE} {g : TG} (osc : Scope) (N : List Str) (frees : List Str) (idx : List Nat)
    (hk : compOk osc N x frees idx scope = true) (hi : PI X (.Name x px) iter wi) (hgy : PG X (.Name y py) g)
    (ht : ∀ C s₀ H₀ ex, PTs (cxComp X (x :: frees) scope C s₀ H₀ ex) ifs tt) (he : ∀ C s₀ H₀ ex, PE (cxComp X (x :: frees) scope C s₀ H₀ ex) elt te)
    (hsw : swapsWith (.ListComp elt [⟨.Name x px, iter, ifs, 0⟩] scope pos) (some (.Name y py)) pos0.line X.env = pure true)
    (ho : X.env.scope = osc := by rfl) (hN : X.N = N := by rfl) (hc : X.calm = true := by rfl) (hs : ∀ v, foldedSetIterable iter X.env v = pure v := by intro _; rfl) :
    PS X (.Assign [.Name y py] (.ListComp elt [⟨.Name x px, iter, ifs, 0⟩] scope pos) pos0) (tAsg (tComp idx wi tt te) g) := by
  obtain ⟨S, fl⟩ := compOk_scope (X := X) hk ho hN
  exact ps_lcomp hc S fl hi hgy ht he hsw hs
end L2

set_option Elab.async false
set_option linter.all false
set_option maxRecDepth 100000
namespace PySem
open PyProof.Rows
section
variable {prog : Program} {w : World} {A : Around} {E : Value → Shared → Prop} {s : Shared}
theorem nextOfT_item {it t : Addr} {i : Nat} {xs : Array Value} {x : Value} {Q : Value → Shared → Prop} (hit : s.heap.IsTupleIter it t i) (ht : s.heap.IsTuple t xs) (hx : xs[i]? = some x)
    (hQ : ∀ h', h'.IsTupleIter it t (i + 1) → Heap.SameBut it s.heap h' → Q x { s with heap := h' }) : wpAny (model prog w) A (Builtin.SmallTypes.nextOf (.ref it)) Q E s := by
  obtain ⟨o, ho, hc, hd⟩ := id hit
  obtain ⟨u, hu, _, n, hn⟩ := ht
  unfold Builtin.SmallTypes.nextOf
  refine wpAny_bind (wpAny_callSpecial?_slot (name := Str.ofString "__next__") hit.typeIs F.slot_tuple_iterator_next (wpAny_call_entry F.slot_tuple_iterator_next hit.typeIs F.entry_tuple_iterator_next ?_ (F.args_tuple_iterator_next_1 _)))
  show wpAny _ _ (field (.ref it) 0 >>= _) _ _ s
  refine wpAny_bind (wpAny_field ho hd (x := .ref t) rfl ?_)
  rw [if_neg (show ¬ ((Value.ref t == Value.none) = true) from Bool.false_ne_true)]
  show wpAny _ _ (field (.ref it) 1 >>= _) _ _ s
  refine wpAny_bind (wpAny_field ho hd (x := .int i 0) rfl ?_)
  show wpAny _ _ (seqItems? (.ref t) >>= _) _ _ s
  refine wpAny_bind (wpAny_seqItems hu hn ?_)
  simp only [Int.toNat_natCast, hx]
  refine wpAny_bind (wpAny_setField ho hd (by simp) (wpAny_pure ⟨x, rfl, wpAny_pure (hQ _ ⟨_, Heap.get?_update_self _ ho (Obj.isFreed_of_fields (Obj.data_mapFields hd _)), (Obj.cls_mapFields ..).trans hc, by rw [Obj.data_mapFields hd]; simp [rawInt]⟩ (Heap.SameBut.update ..))⟩))
theorem nextOfT_end {it t : Addr} {i : Nat} {xs : Array Value} {Q : Value → Shared → Prop} (hh : A.handled = none) (hit : s.heap.IsTupleIter it t i) (ht : s.heap.IsTuple t xs) (hx : xs[i]? = none)
    (hE : ∀ h' e, Heap.ExtBut it s.heap h' → (∃ o, h'.get? e = some o ∧ o.cls = .type "StopIteration") → E (.ref e) { s with heap := h' }) : wpAny (model prog w) A (Builtin.SmallTypes.nextOf (.ref it)) Q E s := by
  obtain ⟨o, ho, hc, hd⟩ := id hit
  obtain ⟨u, hu, _, n, hn⟩ := ht
  unfold Builtin.SmallTypes.nextOf
  refine wpAny_bind (wpAny_callSpecial?_slot (name := Str.ofString "__next__") hit.typeIs F.slot_tuple_iterator_next (wpAny_call_entry F.slot_tuple_iterator_next hit.typeIs F.entry_tuple_iterator_next ?_ (F.args_tuple_iterator_next_1 _)))
  show wpAny _ _ (field (.ref it) 0 >>= _) _ _ s
  refine wpAny_bind (wpAny_field ho hd (x := .ref t) rfl ?_)
  rw [if_neg (show ¬ ((Value.ref t == Value.none) = true) from Bool.false_ne_true)]
  show wpAny _ _ (field (.ref it) 1 >>= _) _ _ s
  refine wpAny_bind (wpAny_field ho hd (x := .int i 0) rfl ?_)
  show wpAny _ _ (seqItems? (.ref t) >>= _) _ _ s
  refine wpAny_bind (wpAny_seqItems hu hn ?_)
  simp only [Int.toNat_natCast, hx]
  refine wpAny_bind (wpAny_rule (wpAny_bind (wpAny_setField ho hd (by simp) ?_)))
  show wpAny _ _ (newExc (.type "StopIteration") [] >>= _) _ _ _
  refine wpAny_bind ?_
  simp only [newExc, newTuple]
  refine wpAny_bind (wpAny_newObj_type ?_ (by size_fits))
  refine wpAny_bind (m := firstArgMember _ _) (wpAny_of_eq (a := Value.none) (by first | rfl | (simp only [firstArgMember]; rfl)) ?_)
  refine wpAny_newObj_type ?_ (by size_fits)
  simp only [raiseNew]
  refine wpAny_bind (wpAny_handled ?_)
  first | rw [show A.in1.handled = none from hh] | rw [hh]
  exact wpAny_bind (wpAny_pure (wpAny_throw (hE _ _ (((Heap.SameBut.update ..).extBut.push _).push _) ⟨_, Heap.get?_push_size _ rfl, rfl⟩)))
/-- a zip of two tuples at its k-th turn -/
structure ZipT (h : Heap) (z TI TO i1 i2 t1 t2 : Addr) (k : Nat) : Prop where
  nd : [z, TI, TO, i1, i2].Nodup
  zz : IsZip h z TI TO .none
  ti : IsPair h TI (.ref i1) (.ref i2)
  tO : ∃ a b, IsPair h TO a b
  j1 : h.IsTupleIter i1 t1 k
  j2 : h.IsTupleIter i2 t2 k
theorem zipT_item {z TI TO i1 i2 t1 t2 : Addr} {k : Nat} {xs ys : Array Value} {x y : Value} {Q : Option Value → Shared → Prop} (Z : ZipT s.heap z TI TO i1 i2 t1 t2 k) (n1 : t1 ∉ [z, TO, i1, i2]) (n2 : t2 ∉ [z, TO, i1, i2])
    (h1 : s.heap.IsTuple t1 xs) (h2 : s.heap.IsTuple t2 ys) (hx : xs[k]? = some x) (hy : ys[k]? = some y)
    (hQ : ∀ h', IsZip h' z TI TO (rawInt s.heap.objs.size) → IsPair h' TI (.ref i1) (.ref i2) → IsPair h' TO x y → h'.IsTupleIter i1 t1 (k + 1) → h'.IsTupleIter i2 t2 (k + 1) → IsPair h' s.heap.objs.size x y → h'.objs.size = s.heap.objs.size + 1 →
      (∀ c o, c ∉ [z, TO, i1, i2] → s.heap.get? c = some o → h'.get? c = some o) → Q (some (.ref s.heap.objs.size)) { s with heap := h' }) : wpAny (model prog w) A (pyNext (.ref z)) Q E s := by
  obtain ⟨nd, zz, ti, ⟨a, b, tO⟩, j1, j2⟩ := Z
  simp only [List.nodup_cons, List.mem_cons, List.not_mem_nil, or_false, not_or, List.nodup_nil, and_true, not_false_eq_true] at nd n1 n2
  obtain ⟨⟨zTI, zTO, z1, z2⟩, ⟨TITO, TI1, TI2⟩, ⟨TO1, TO2⟩, i12⟩ := nd
  obtain ⟨a1, a2, a3, a4⟩ := n1
  obtain ⟨b1, b2, b3, b4⟩ := n2
  have hT : s.TypeIs (.ref z) "zip" := ⟨_, zz, rfl⟩
  unfold pyNext
  refine wpAny_bind (wpAny_attempt (wpAny_callSpecial?_slot (name := Str.ofString "__next__") hT F.slot_zip_next (wpAny_call_entry F.slot_zip_next hT F.entry_zip_next ?_ (F.args_zip_next_1 _))))
  show wpAny _ _ (field (.ref z) 2 >>= _) _ _ _
  refine wpAny_bind (wpAny_field zz rfl (x := .bool false) rfl ?_)
  show wpAny _ _ (field (.ref z) 3 >>= _) _ _ _
  refine wpAny_bind (wpAny_field zz rfl (x := .ref TI) rfl (wpAny_bind (wpAny_seqItems ti rfl ?_)))
  show wpAny _ _ (Builtin.SmallTypes.ownedTupleIsFree (.ref z) >>= _) _ _ _
  refine wpAny_bind ?_
  unfold Builtin.SmallTypes.ownedTupleIsFree
  refine wpAny_bind (wpAny_field zz rfl (x := .none) rfl (wpAny_pure ?_))
  simp only [if_true]
  refine wpAny_bind (wpAny_rule (wpAny_bind (wpAny_field zz rfl (x := .ref TO) rfl (wpAny_bind (wpAny_setField_rec zz (by simp) fun g1 q1 r1 => ?_)))))
  replace q1 : IsZip g1 z TI TO .ellipsis := q1
  refine wpAny_bind ?_
  simp only [List.zipIdx_cons, List.zipIdx_nil, List.forIn_cons, List.forIn_nil]
  refine wpAny_bind (wpAny_bind (wpAny_onRaise ?_))
  show wpAny _ _ (Builtin.SmallTypes.nextOf (.ref i1) >>= _) _ _ _
  refine wpAny_bind (nextOfT_item (j1.extBut r1.extBut (Ne.symm z1)) (h1.extBut r1.extBut a1) hx fun g2 q2 r2 => wpAny_pure ?_)
  have tO2 : IsPair g2 TO a b := r2.extBut _ _ TO1 (r1.extBut _ _ (Ne.symm zTO) tO)
  refine wpAny_bind (wpAny_seqItems tO2 rfl (wpAny_bind (wpAny_updateSeq_pair tO2 fun g3 q3 r3 => ?_)))
  replace q3 : IsPair g3 TO x b := q3
  refine wpAny_bind (wpAny_letGo (wpAny_pure ?_))
  refine wpAny_bind (wpAny_bind (wpAny_onRaise ?_))
  show wpAny _ _ (Builtin.SmallTypes.nextOf (.ref i2) >>= _) _ _ _
  refine wpAny_bind (nextOfT_item (((j2.extBut r1.extBut (Ne.symm z2)).extBut r2.extBut (Ne.symm i12)).extBut r3.extBut (Ne.symm TO2)) (((h2.extBut r1.extBut b1).extBut r2.extBut b3).extBut r3.extBut b2) hy fun g4 q4 r4 => wpAny_pure ?_)
  have tO4 : IsPair g4 TO x b := r4.extBut _ _ TO2 q3
  refine wpAny_bind (wpAny_seqItems tO4 rfl (wpAny_bind (wpAny_updateSeq_pair tO4 fun g5 q5 r5 => ?_)))
  replace q5 : IsPair g5 TO x y := q5
  refine wpAny_bind (wpAny_letGo (wpAny_pure (wpAny_pure ?_)))
  refine wpAny_bind (wpAny_seqItems q5 rfl (wpAny_bind (wpAny_newTuple ?_)))
  have sz : g5.objs.size = s.heap.objs.size := by rw [r5.1, r4.1, r3.1, r2.1, r1.1]
  have kp5 : ∀ c o, c ≠ z → c ≠ TO → c ≠ i1 → c ≠ i2 → s.heap.get? c = some o → g5.get? c = some o := fun c o c1 c2 c3 c4 e => r5.extBut _ _ c2 (r4.extBut _ _ c4 (r3.extBut _ _ c2 (r2.extBut _ _ c3 (r1.extBut _ _ c1 e))))
  have zz5 : IsZip g5 z TI TO .ellipsis := r5.extBut _ _ zTO (r4.extBut _ _ z2 (r3.extBut _ _ zTO (r2.extBut _ _ z1 q1)))
  have k15 : g5.IsTupleIter i1 t1 (k + 1) := ((q2.extBut r3.extBut (Ne.symm TO1)).extBut r4.extBut i12).extBut r5.extBut (Ne.symm TO1)
  have k25 : g5.IsTupleIter i2 t2 (k + 1) := q4.extBut r5.extBut (Ne.symm TO2)
  have ti5 : IsPair g5 TI (.ref i1) (.ref i2) := kp5 _ _ (Ne.symm zTI) TITO TI1 TI2 ti
  show wpAny _ _ (Builtin.SmallTypes.ownedTupleHandOut (.ref z) (.ref g5.objs.size) >>= _) _ _ _
  refine wpAny_bind ?_
  unfold Builtin.SmallTypes.ownedTupleHandOut
  refine wpAny_bind (wpAny_setField_rec (Heap.get?_push_of_some _ zz5) (by simp) fun g7 q7 r7 => ?_)
  replace q7 : IsZip g7 z TI TO (rawInt g5.objs.size) := q7
  refine wpAny_setField_rec q7 (by simp) fun g8 q8 r8 => ?_
  replace q8 : IsZip g8 z TI TO (rawInt g5.objs.size) := q8
  have up : ∀ c o, c ≠ z → g5.get? c = some o → g8.get? c = some o := fun c o c1 e => r8.extBut _ _ c1 (r7.extBut _ _ c1 (Heap.get?_push_of_some _ e))
  have new : IsPair g8 g5.objs.size x y := r8.extBut _ _ (Nat.ne_of_gt (Heap.lt_size zz5)) (r7.extBut _ _ (Nat.ne_of_gt (Heap.lt_size zz5)) (Heap.get?_push_size _ rfl))
  have sz8 : g8.objs.size = s.heap.objs.size + 1 := by rw [r8.1, r7.1, Heap.size_push, sz]
  rw [sz] at q8 new
  refine wpAny_pure ⟨_, rfl, ?_⟩
  refine wpAny_pure ?_
  show Q (some (.ref g5.objs.size)) _
  rw [sz]
  exact hQ g8 q8 (up _ _ (Ne.symm zTI) ti5) (up _ _ (Ne.symm zTO) q5) (let ⟨o, e, r⟩ := k15; ⟨o, up _ o (Ne.symm z1) e, r⟩) (let ⟨o, e, r⟩ := k25; ⟨o, up _ o (Ne.symm z2) e, r⟩) new sz8 fun c o hc e => by
    simp only [List.mem_cons, List.not_mem_nil, or_false, not_or] at hc
    exact up c o hc.1 (kp5 c o hc.1 hc.2.1 hc.2.2.1 hc.2.2.2 e)
theorem zipT_end {z TI TO i1 i2 t1 t2 : Addr} {k : Nat} {xs : Array Value} {Q : Option Value → Shared → Prop} (hh : A.handled = none) (Z : ZipT s.heap z TI TO i1 i2 t1 t2 k) (n1 : t1 ∉ [z, TO, i1, i2])
    (h1 : s.heap.IsTuple t1 xs) (hx : xs[k]? = none) (hQ : ∀ h', (∀ c o, c ∉ [z, TO, i1, i2] → s.heap.get? c = some o → h'.get? c = some o) → Q none { s with heap := h' }) : wpAny (model prog w) A (pyNext (.ref z)) Q E s := by
  obtain ⟨nd, zz, ti, ⟨a, b, tO⟩, j1, j2⟩ := Z
  simp only [List.nodup_cons, List.mem_cons, List.not_mem_nil, or_false, not_or, List.nodup_nil, and_true, not_false_eq_true] at nd n1
  obtain ⟨⟨zTI, zTO, z1, z2⟩, ⟨TITO, TI1, TI2⟩, ⟨TO1, TO2⟩, i12⟩ := nd
  obtain ⟨a1, a2, a3, a4⟩ := n1
  have hT : s.TypeIs (.ref z) "zip" := ⟨_, zz, rfl⟩
  unfold pyNext
  refine wpAny_bind (wpAny_attempt (wpAny_callSpecial?_slot (name := Str.ofString "__next__") hT F.slot_zip_next (wpAny_call_entry F.slot_zip_next hT F.entry_zip_next ?_ (F.args_zip_next_1 _))))
  show wpAny _ _ (field (.ref z) 2 >>= _) _ _ _
  refine wpAny_bind (wpAny_field zz rfl (x := .bool false) rfl ?_)
  show wpAny _ _ (field (.ref z) 3 >>= _) _ _ _
  refine wpAny_bind (wpAny_field zz rfl (x := .ref TI) rfl (wpAny_bind (wpAny_seqItems ti rfl ?_)))
  show wpAny _ _ (Builtin.SmallTypes.ownedTupleIsFree (.ref z) >>= _) _ _ _
  refine wpAny_bind ?_
  unfold Builtin.SmallTypes.ownedTupleIsFree
  refine wpAny_bind (wpAny_field zz rfl (x := .none) rfl (wpAny_pure ?_))
  simp only [if_true]
  refine wpAny_bind (wpAny_rule (wpAny_bind (wpAny_field zz rfl (x := .ref TO) rfl (wpAny_bind (wpAny_setField_rec zz (by simp) fun g1 q1 r1 => ?_)))))
  replace q1 : IsZip g1 z TI TO .ellipsis := q1
  refine wpAny_bind ?_
  simp only [List.zipIdx_cons, List.zipIdx_nil, List.forIn_cons, List.forIn_nil]
  refine wpAny_bind (wpAny_bind (wpAny_onRaise ?_))
  show wpAny _ _ (Builtin.SmallTypes.nextOf (.ref i1) >>= _) _ _ _
  refine wpAny_bind (nextOfT_end hh (j1.extBut r1.extBut (Ne.symm z1)) (h1.extBut r1.extBut a1) hx fun g2 e r2 he => ?_)
  obtain ⟨oe, ho, hc⟩ := he
  have zz2 : IsZip g2 z TI TO .ellipsis := r2 _ _ z1 q1
  have ez : e ≠ z := fun q => by subst q; rw [zz2] at ho; cases ho; simp at hc
  refine wpAny_setField_rec (s := { s with heap := g2 }) zz2 (by simp) fun g3 q3 r3 => ?_
  refine wpAny_bind (wpAny_isInstance (T := "StopIteration") (b := true) ⟨oe, r3.extBut _ _ ez ho, hc⟩ isSubtype_stop ?_)
  exact wpAny_pure (hQ _ fun c o hcc e => by
    simp only [List.mem_cons, List.not_mem_nil, or_false, not_or] at hcc
    exact r3.extBut _ _ hcc.1 (r2 _ _ hcc.2.2.1 (r1.extBut _ _ hcc.1 e)))
abbrev zt1 (h : Heap) (t1 : Addr) : Heap := h.push { cls := .type "tuple_iterator", data := .fields #[.ref t1, .int 0 0] }
abbrev zt2 (h : Heap) (t1 t2 : Addr) : Heap := (zt1 h t1).push { cls := .type "tuple_iterator", data := .fields #[.ref t2, .int 0 0] }
abbrev zt3 (h : Heap) (t1 t2 : Addr) : Heap := (zt2 h t1 t2).push { cls := .type "tuple", data := .seq #[.ref h.objs.size, .ref (zt1 h t1).objs.size] }
abbrev zt4 (h : Heap) (t1 t2 : Addr) : Heap := (zt3 h t1 t2).push { cls := .type "tuple", data := .seq #[.none, .none] }
abbrev zt5 (h : Heap) (t1 t2 : Addr) : Heap := (zt4 h t1 t2).push { cls := .type "zip", data := .fields #[.none, .bool false, .bool false, .ref (zt2 h t1 t2).objs.size, .ref (zt3 h t1 t2).objs.size] }
theorem meets_zipT (t1 t2 : Addr) (xs ys : Array Value) :
    Meets (Builtin.«zip.__new__» ⟨[.type "zip", .ref t1, .ref t2], []⟩) (fun _ R s => s.heap.IsTuple t1 xs ∧ s.heap.IsTuple t2 ys ∧ R (.ok (.ret (.ref (zt4 s.heap t1 t2).objs.size))) { s with heap := zt5 s.heap t1 t2 }) :=
  .of_wp fun prog w A R s h => by
    obtain ⟨hp, g, d, tk, os⟩ := s
    obtain ⟨h1, h2, h⟩ := h
    have hsub := sub_zip
    have q1 : Heap.IsTuple (Shared.heap ⟨hp, g, d, tk, os⟩) t1 xs := h1
    have q2 : Heap.IsTuple (Shared.heap ⟨hp.push { cls := .type "tuple_iterator", data := .fields #[.ref t1, .int 0 0] }, g, d, tk, os⟩) t2 ys := Heap.IsTuple.push h2 _
    wp_walk using wpAny_pyIter_tuple q1, wpAny_pyIter_tuple q2
    exact ⟨_, rfl, h⟩
theorem call_zipT {t1 t2 : Addr} {xs ys : Array Value} {Q : Value → Shared → Prop} (h1 : s.heap.IsTuple t1 xs) (h2 : s.heap.IsTuple t2 ys)
    (h : ∀ h' z TI TO i1 i2, s.heap.objs.size ≤ z → s.heap.objs.size ≤ TI → s.heap.objs.size ≤ TO → s.heap.objs.size ≤ i1 → s.heap.objs.size ≤ i2 → ZipT h' z TI TO i1 i2 t1 t2 0 → (∀ c o, s.heap.get? c = some o → h'.get? c = some o) → Q (.ref z) { s with heap := h' }) :
    wpAny (model prog w) A (call (.type "zip") [.ref t1, .ref t2]) Q E s := by
  refine callType_new F.called_zip (by decide) (F.typeCall_zip_2 _ _) (F.newCall_zip_2 _ _) (fun obj => F.args_object_init_3 obj _ _) F.entry_zip_new (meets_zipT t1 t2 xs ys) ⟨h1, h2, ?_⟩
  have z1 : (zt1 s.heap t1).objs.size = s.heap.objs.size + 1 := Heap.size_push ..
  have z2 : (zt2 s.heap t1 t2).objs.size = s.heap.objs.size + 2 := by rw [Heap.size_push, z1]
  have z3 : (zt3 s.heap t1 t2).objs.size = s.heap.objs.size + 3 := by rw [Heap.size_push, z2]
  have z4 : (zt4 s.heap t1 t2).objs.size = s.heap.objs.size + 4 := by rw [Heap.size_push, z3]
  have p5 : (zt5 s.heap t1 t2).get? (zt4 s.heap t1 t2).objs.size = some _ := Heap.get?_push_size _ rfl
  have p4 : (zt5 s.heap t1 t2).get? (zt3 s.heap t1 t2).objs.size = some _ := Heap.get?_push_of_some _ (Heap.get?_push_size _ rfl)
  have p3 : (zt5 s.heap t1 t2).get? (zt2 s.heap t1 t2).objs.size = some _ := Heap.get?_push_of_some _ (Heap.get?_push_of_some _ (Heap.get?_push_size _ rfl))
  have p2 : (zt5 s.heap t1 t2).get? (zt1 s.heap t1).objs.size = some _ := Heap.get?_push_of_some _ (Heap.get?_push_of_some _ (Heap.get?_push_of_some _ (Heap.get?_push_size _ rfl)))
  have p1 : (zt5 s.heap t1 t2).get? s.heap.objs.size = some _ := Heap.get?_push_of_some _ (Heap.get?_push_of_some _ (Heap.get?_push_of_some _ (Heap.get?_push_of_some _ (Heap.get?_push_size _ rfl))))
  refine ⟨⟨_, p5, rfl⟩, h _ _ _ _ _ _ ?_ ?_ ?_ (Nat.le_refl _) ?_ ⟨?_, p5, p3, ⟨_, _, p4⟩, ⟨_, p1, rfl, rfl⟩, ⟨_, p2, rfl, rfl⟩⟩ fun c o e => Heap.get?_push_of_some _ (Heap.get?_push_of_some _ (Heap.get?_push_of_some _ (Heap.get?_push_of_some _ (Heap.get?_push_of_some _ e))))⟩
  · rw [z4]; exact Nat.le_add_right _ _
  · rw [z2]; exact Nat.le_add_right _ _
  · rw [z3]; exact Nat.le_add_right _ _
  · rw [z1]; exact Nat.le_add_right _ _
  · rw [z1, z2, z3, z4]
    generalize s.heap.objs.size = n
    simp only [List.nodup_cons, List.mem_cons, List.not_mem_nil, or_false, not_or, List.nodup_nil, and_true, not_false_eq_true]
    refine ⟨⟨?_, ?_, ?_, ?_⟩, ⟨?_, ?_, ?_⟩, ⟨?_, ?_⟩, ?_⟩ <;> (intro q; simp at q)
end
end PySem

set_option Elab.async false
set_option linter.all false
set_option maxRecDepth 100000
namespace L2
open PySem PySem.Spec PyProof.Rows
section
variable {X : Cx} {pins : List (Addr × Obj)} {σ : St} {H : Hp} {s : Shared} {h' : Heap}
/-- untracked records of ours have turned -/
theorem Inv.turnedL {t' : Nat} {ch : List Addr} (I : Inv X pins σ H s) (k : ∀ b o, b ∉ ch → s.heap.get? b = some o → h'.get? b = some o) (hf : ∀ b ∈ ch, FpOk X pins H b) : Inv X pins σ H { s with heap := h', toks := t' } := by
  have nit : ∀ b u, H b = some u → b ∉ ch := fun b u e z => by rw [(hf b z).1] at e; cases e
  refine I.step (g' := s.gens) (d' := s.drawn) (ch := ch) (fun b hb => ?_) (fun b o _ _ hc e _ => k b o hc e) (fun b o _ _ hc e _ => ⟨o.slots, k b o hc e⟩) (fun _ _ _ _ n => n)
    (fun b o hc e => ⟨o, k b o hc e⟩) (fun _ _ e => e) (fun _ _ _ e => e) (fun b ps e => ⟨#[], by rw [e]; simp⟩) (fun m hm => ?_) (fun b u e => ?_) I.bare
  · obtain ⟨f0, f1, f2, f3, f4, f5⟩ := hf b hb
    exact ⟨f3, f1, f4, f5⟩
  · obtain ⟨o, es, ep, ho, r⟩ := hm
    exact ⟨o, es, ep, k _ o (fun z => (hf _ z).2.1 rfl) ho, r⟩
  · refine (I.hok b u e).stay (fun c v hc q => k c v ?_ q) (fun _ q => q) fun _ _ q => q
    rcases hc with z | z
    · rw [z]; exact nit b u e
    · exact nit c _ z
theorem Inv.trackT {D : Addr} {vs : List V} {its : List Value} (I : Inv X pins σ H s) (hf : FpOk X pins H D) (hz : vs.length ≤ sizeLine) (hv : Vals vs its) (e : IsTup s.heap D its.toArray) : Inv X pins σ (upd H D (.tup vs)) s := by
  obtain ⟨hD, h2, _, h1, h3, h4⟩ := hf
  obtain ⟨hh, g, d, t, o⟩ := s
  have nD : ∀ b u, H b = some u → b ≠ D := fun b u q z => by rw [z, hD] at q; cases q
  refine I.step (g' := g) (d' := d) (t' := t) (h' := hh) (ch := [D]) (fun b hb => ?_) (fun b o _ _ _ q _ => q) (fun b o _ _ _ q _ => ⟨o.slots, q⟩) (fun b o hb q n => ?_) (fun b o _ q => ⟨o, q⟩)
    (fun b xs q => by rw [upd_ne (nD b _ q)]; exact q) (fun b o u q => by rw [upd_ne (nD b _ q)]; exact q) (fun b ps q => ⟨#[], by rw [upd_ne (nD b _ q), q]; simp⟩) (fun m q => q) (fun b u q => ?_) I.bare
  · have z : b = D := by simpa using hb
    subst z
    exact ⟨h1, h2, h3, h4⟩
  · rw [upd_ne (by simpa using hb)]; exact n
  · by_cases z : b = D
    · subst z
      rw [upd_same] at q; cases q
      exact ⟨hz, its, hv, e⟩
    · rw [upd_ne z] at q
      exact (I.hok b u q).stay (fun _ _ _ q => q) (fun c q => by rw [upd_ne (nD c _ q)]; exact q) fun c xs q => by rw [upd_ne (nD c _ q)]; exact q
end
/-- zip of two tuples -/
def Itz (a b : Addr) : It :=
  ⟨fun i H => ∃ xs ys x y, H a = some (.tup xs) ∧ H b = some (.tup ys) ∧ xs[i]? = some x ∧ ys[i]? = some y,
   fun i H v H' => ∃ (T : Addr) (xs ys : List V) (x y : V), H a = some (.tup xs) ∧ H b = some (.tup ys) ∧ xs[i]? = some x ∧ ys[i]? = some y ∧ H T = none ∧ v = .ref T ∧ H' = upd H T (.tup [x, y]),
   fun i H => ∃ xs, H a = some (.tup xs) ∧ xs.length ≤ i⟩
theorem turn_zip {P : Program} {w : World} {K : PySem.W.Frag} {elts : List Expr} {x1} {pos : Pos} (a b z TI TO i1 i2 : Addr) : Turn P w K (.Tuple elts x1 pos) (Itz a b) [z, TI, TO, i1, i2] z (fun i h => ZipT h z TI TO i1 i2 a b i) where
  mem := by simp
  obj := fun i h st c hc => by
    simp only [List.mem_cons, List.not_mem_nil, or_false] at hc
    obtain ⟨nd, zz, ti, ⟨u, v, tO⟩, ⟨o1, j1, c1, d1⟩, ⟨o2, j2, c2, d2⟩⟩ := st
    rcases hc with rfl | rfl | rfl | rfl | rfl
    · exact ⟨_, zz, fun v q => by cases q⟩
    · exact ⟨_, ti, fun v q => by cases q⟩
    · exact ⟨_, tO, fun v q => by cases q⟩
    · exact ⟨o1, j1, fun v q => by rw [d1] at q; cases q⟩
    · exact ⟨o2, j2, fun v q => by rw [d2] at q; cases q⟩
  keep := fun i h h' st k => by
    obtain ⟨nd, zz, ti, ⟨u, v, tO⟩, ⟨o1, j1, r1⟩, ⟨o2, j2, r2⟩⟩ := st
    exact ⟨nd, k _ (by simp) _ zz, k _ (by simp) _ ti, ⟨u, v, k _ (by simp) _ tO⟩, ⟨o1, k _ (by simp) _ j1, r1⟩, ⟨o2, k _ (by simp) _ j2, r2⟩⟩
  item := by
    intro X hP hw hK hc i pins s σ H E I hf st hg
    subst hP hw hK
    obtain ⟨xs, ys, x, y, ha, hb, hx, hy⟩ := hg
    obtain ⟨its1, rv1, p1, z1⟩ := I.tuple (SqT.of ha)
    obtain ⟨its2, rv2, p2, z2⟩ := I.tuple (SqT.of hb)
    obtain ⟨u1, hu1, ru1⟩ := rv1.get hx
    obtain ⟨u2, hu2, ru2⟩ := rv2.get hy
    have sub : ∀ c ∈ [z, TO, i1, i2], c ∈ [z, TI, TO, i1, i2] := fun c hc => by
      simp only [List.mem_cons, List.not_mem_nil, or_false] at hc ⊢
      rcases hc with h | h | h | h
      · exact .inl h
      · exact .inr (.inr (.inl h))
      · exact .inr (.inr (.inr (.inl h)))
      · exact .inr (.inr (.inr (.inr h)))
    have no : ∀ c u, H c = some u → c ∉ [z, TO, i1, i2] := fun c u e q => by rw [(hf c (sub c q)).1] at e; cases e
    have lt : ∀ c ∈ [z, TI, TO, i1, i2], c < s.heap.objs.size := fun c hc => by
      simp only [List.mem_cons, List.not_mem_nil, or_false] at hc
      obtain ⟨nd, zz, ti, ⟨u, v, tO⟩, ⟨o1, j1, c1, d1⟩, ⟨o2, j2, c2, d2⟩⟩ := st
      rcases hc with rfl | rfl | rfl | rfl | rfl
      · exact Heap.lt_size zz
      · exact Heap.lt_size ti
      · exact Heap.lt_size tO
      · exact Heap.lt_size j1
      · exact Heap.lt_size j2
    refine zipT_item st (no a _ ha) (no b _ hb) (show s.heap.IsTuple a its1.toArray from p1) (show s.heap.IsTuple b its2.toArray from p2) (x := u1) (y := u2) (by simpa using hu1) (by simpa using hu2) fun h' q1 q2 q3 q4 q5 q6 _ kp => ⟨_, rfl, ?_⟩
    refine wpAny_letOwnedTupleGo_zip (s := { s with heap := h' }) q1 fun h2 q7 r7 => ?_
    have nd := st.nd
    have I1 : Inv X pins σ H { s with heap := h2 } := I.turnedL (t' := s.toks) (ch := [z, TO, i1, i2]) (fun c o hc e => r7.extBut c o (fun q => hc (by simp [q])) (kp c o hc e)) fun c hc => hf c (sub c hc)
    have fr : H s.heap.objs.size = none := I.hok.fresh (Nat.le_refl _)
    have ne : ∀ c ∈ [z, TI, TO, i1, i2], c ≠ s.heap.objs.size := fun c hc q => by have := lt c hc; rw [q] at this; exact Nat.lt_irrefl _ this
    have I2 := I1.trackT (D := s.heap.objs.size) (vs := [x, y]) (its := [u1, u2]) (I.fpOk (Nat.le_refl _) fr) (by show 2 ≤ sizeLine; rw [sizeLine_eq]; decide) (.cons ru1 (.cons ru2 .nil)) ⟨_, r7.extBut _ _ (Ne.symm (ne z (by simp))) q6, rfl, _, rfl⟩
    simp only [List.nodup_cons, List.mem_cons, List.not_mem_nil, or_false, not_or, List.nodup_nil, and_true, not_false_eq_true] at nd
    obtain ⟨⟨zTI, zTO, z1', z2'⟩, _⟩ := nd
    refine ⟨.ref s.heap.objs.size, _, I2, rfl, ⟨_, xs, ys, x, y, ha, hb, hx, hy, fr, rfl, rfl⟩, ⟨st.nd, q7, r7.extBut _ _ (Ne.symm zTI) q2, ⟨_, _, r7.extBut _ _ (Ne.symm zTO) q3⟩, q4.extBut r7.extBut (Ne.symm z1'), q5.extBut r7.extBut (Ne.symm z2')⟩, fun c hc => ?_⟩
    rw [upd_ne (ne c hc)]
    exact (hf c hc).1
  done := by
    intro X hP hw hK hc i pins s σ H E I hf st hg
    subst hP hw hK
    obtain ⟨xs, ha, hx⟩ := hg
    obtain ⟨its1, rv1, p1, z1⟩ := I.tuple (SqT.of ha)
    have hl := rv1.length
    have sub : ∀ c ∈ [z, TO, i1, i2], c ∈ [z, TI, TO, i1, i2] := fun c hc => by
      simp only [List.mem_cons, List.not_mem_nil, or_false] at hc ⊢
      rcases hc with h | h | h | h
      · exact .inl h
      · exact .inr (.inr (.inl h))
      · exact .inr (.inr (.inr (.inl h)))
      · exact .inr (.inr (.inr (.inr h)))
    have no : ∀ c u, H c = some u → c ∉ [z, TO, i1, i2] := fun c u e q => by rw [(hf c (sub c q)).1] at e; cases e
    exact zipT_end (I.ok.hd hc) st (no a _ ha) (show s.heap.IsTuple a its1.toArray from p1) (by simp; omega) fun h' kp => ⟨rfl, I.turnedL (t' := s.toks) (ch := [z, TO, i1, i2]) kp fun c hc => hf c (sub c hc)⟩
  self := fun _ _ _ _ _ st h => wpAny_pyIter_zip st.zz h
theorem boot_zip' : bootBuiltins "zip" = some (.type "zip") := by decide +kernel
def iZip (ta : TA) : TI := fun σ H R => ta σ H fun vs H1 => ∃ a b xs ys, vs = [.ref a, .ref b] ∧ H1 a = some (.tup xs) ∧ H1 b = some (.tup ys) ∧ R (Itz a b) H1
theorem pi_zip {X : Cx} {e1 e2 : Expr} {ta : TA} {p pos pt : Pos} {elts : List Expr} {x1} (hg : Gl X "zip") (hm : X.mg "zip" = none) (ha : PA X [e1, e2] ta)
    (hs : starEach [e1, e2] X.env = [(false, eval e1 X.env), (false, eval e2 X.env)] := by rfl) (hs2 : starEach [e2] X.env = [(false, eval e2 X.env)] := by rfl) : PI X (.Tuple elts x1 pt) (.Call (.Name "zip" p) [e1, e2] [] pos) (iZip ta) := by
  intro pins s σ H R I h
  refine Call_ (ld_blt I hg hm boot_zip' (PyProof.Rows.callWith_type1 (thn (ha pos pins s σ H _ I h) fun us s1 ⟨vs, H1, I1, r1, q1⟩ => ?_) (by rw [hs, hs2]) (by rw [hs2]; rfl)))
  obtain ⟨a, b, xs, ys, rfl, h1, h2, q⟩ := q1
  cases r1 with
  | cons r rr =>
    cases rr with
    | cons r' rr =>
      cases rr
      cases r
      cases r'
      obtain ⟨its1, rv1, p1, z1⟩ := I1.tuple (SqT.of h1)
      obtain ⟨its2, rv2, p2, z2⟩ := I1.tuple (SqT.of h2)
      refine call_zipT (show s1.heap.IsTuple a its1.toArray from p1) (show s1.heap.IsTuple b its2.toArray from p2) fun h' z TI TO i1 i2 l1 l2 l3 l4 l5 Z kp => ?_
      refine wpAny_pyIter_zip (s := { s1 with heap := h' }) Z.zz ?_
      refine ⟨z, [z, TI, TO, i1, i2], _, _, H1, rfl, I1.kept (t' := s1.toks) kp, turn_zip a b z TI TO i1 i2, Z, fun c hc => ?_, q⟩
      simp only [List.mem_cons, List.not_mem_nil, or_false] at hc
      rcases hc with rfl | rfl | rfl | rfl | rfl
      · exact I1.fpOk l1 (I1.hok.fresh l1)
      · exact I1.fpOk l2 (I1.hok.fresh l2)
      · exact I1.fpOk l3 (I1.hok.fresh l3)
      · exact I1.fpOk l4 (I1.hok.fresh l4)
      · exact I1.fpOk l5 (I1.hok.fresh l5)
end L2

set_option Elab.async false
set_option linter.all false
set_option maxRecDepth 100000
namespace L2
open PySem PySem.Spec PyProof.Rows PySem.W
end L2

set_option Elab.async false
set_option linter.all false
set_option maxRecDepth 100000
namespace L2
open PySem PySem.Spec PyProof.Rows
/-! ### functions made by the way: lambda -/
/-- a thing that is known to the object and that nobody writes -/
def objO (a : Addr) (o : Obj) : HO := .ext fun h => h.get? a = some o
def del (H : Hp) (c : Addr) : Hp := fun b => if b = c then none else H b
section
variable {P : Program} {w : World} {H H' : Hp} {h h' : Heap} {a b c : Addr} {o : Obj}
theorem del_same : del H c c = none := if_pos rfl
theorem del_ne (n : b ≠ c) : del H c b = H b := if_neg n
theorem del_none (e : H b = none) : del H c b = none := by
  by_cases hb : b = c
  · rw [hb]; exact del_same
  · rw [del_ne hb]; exact e
theorem objO_ok (e : h.get? a = some o) : ObjOk P w H h a (objO a o) := ⟨e, ⟨o, e⟩, fun h1 h2 q k => k o q⟩
theorem objO_at (ok : HOk P w H h) (q : H a = some (objO a o)) : h.get? a = some o := (ok a _ q).1
theorem objO_own {y : Addr} (e : H c = some (objO c o)) (q : H b = some (.own y)) : b ≠ c := fun z => by
  rw [z, e] at q
  have q' : some (HO.ext _) = some (HO.own y) := q
  cases q'
theorem objO_tup {xs : List V} (e : H c = some (objO c o)) (q : H b = some (.tup xs)) : b ≠ c := fun z => by
  rw [z, e] at q
  have q' : some (HO.ext _) = some (HO.tup xs) := q
  cases q'
theorem objO_frz {ob : Obj} {x : HO} (e : H c = some (objO c o)) (q : H b = some (.frz ob x)) : b ≠ c := fun z => by
  rw [z, e] at q
  have q' : some (HO.ext _) = some (HO.frz ob x) := q
  cases q'
theorem objO_tbl {ps : Array Value} (e : H c = some (objO c o)) (q : H b = some (.tbl ps)) : b ≠ c := fun z => by
  rw [z, e] at q
  have q' : some (HO.ext _) = some (HO.tbl ps) := q
  cases q'
theorem HOk.del (ok : HOk P w H h) (e : H c = some (objO c o)) : HOk P w (L2.del H c) h := fun b u q => by
  by_cases hb : b = c
  · rw [hb, del_same] at q; cases q
  · rw [del_ne hb] at q
    exact (ok b u q).stay (fun _ _ _ e => e) (fun d r => by rw [del_ne (objO_own e r)]; exact r) fun d xs r => by rw [del_ne (objO_tup e r)]; exact r
theorem HOk.obj (ok : HOk P w H h) (n : H c = none) (e : h.get? c = some o) : HOk P w (upd H c (objO c o)) h := fun b u q => by
  by_cases hb : b = c
  · subst hb; rw [upd_same] at q; cases q; exact objO_ok e
  · rw [upd_ne hb] at q
    exact (ok b u q).stay (fun _ _ _ e => e) (fun d r => by rw [upd_ne (ne_of_none r n)]; exact r) fun d xs r => by rw [upd_ne (ne_of_none r n)]; exact r
/-- a cell lent to a callee -/
theorem Un.lent {fs : List Addr} {H1 : Hp} (un : Un fs [] (upd H c (objO c o)) H1 h h') (n : H c = none) (e : h.get? c = some o) (e' : H1 c = some (objO c o)) (k : h'.get? c = some o) : Un fs [] H (L2.del H1 c) h h' where
  keep := fun b ob q m hb hx => by
    by_cases z : b = c
    · subst z; rw [e] at q; cases q; exact k
    · exact un.keep b ob q (by rw [upd_ne z]; exact m) hb hx
  slot := fun b ob q m hb hx => by
    by_cases z : b = c
    · subst z; rw [e] at q; cases q; exact ⟨o.slots, k⟩
    · exact un.slot b ob q (by rw [upd_ne z]; exact m) hb hx
  free := fun b ob q m hx => by
    by_cases z : b = c
    · rw [z]; exact del_same
    · rw [del_ne z]; exact un.free b ob q (by rw [upd_ne z]; exact m) hx
  there := fun b ob q hx => un.there b ob q hx
  tups := fun b xs q => by
    have z := ne_of_none q n
    rw [del_ne z]; exact un.tups b xs (by rw [upd_ne z]; exact q)
  frzs := fun b ob u q => by
    have z := ne_of_none q n
    rw [del_ne z]; exact un.frzs b ob u (by rw [upd_ne z]; exact q)
  tbls := fun b ps q => by
    have z := ne_of_none q n
    rw [del_ne z]; exact un.tbls b ps (by rw [upd_ne z]; exact q)
/-- and taken back -/
theorem Un.back {fs : List Addr} {H1 : Hp} (un : Un fs [] (L2.del H c) H1 h h') (e : H c = some (objO c o)) : Un fs [] H (upd H1 c (objO c o)) h h' where
  keep := fun b ob q m hb hx => un.keep b ob q (del_none m) hb hx
  slot := fun b ob q m hb hx => un.slot b ob q (del_none m) hb hx
  free := fun b ob q m hx => by
    have z : b ≠ c := fun z => by rw [z, e] at m; cases m
    rw [upd_ne z]; exact un.free b ob q (del_none m) hx
  there := fun b ob q hx => un.there b ob q hx
  tups := fun b xs q => by
    have z := objO_tup e q
    rw [upd_ne z]; exact un.tups b xs (by rw [del_ne z]; exact q)
  frzs := fun b ob u q => by
    have z := objO_frz e q
    rw [upd_ne z]; exact un.frzs b ob u (by rw [del_ne z]; exact q)
  tbls := fun b ps q => by
    have z := objO_tbl e q
    rw [upd_ne z]; exact un.tbls b ps (by rw [del_ne z]; exact q)
end

/-! ### a call of a function that stands in a name of the def -/
def tCallV (X : Cx) (i : Nat) (t : TA) : TE := fun σ H Q => ∃ (f : Addr) (o : Obj) (fd fd' : FuncData) (ps : List Str) (sp : Sp) (k : Nat), σ[i]? = some (some (.ref f)) ∧ H f = some (objO f o) ∧ o.data = .func fd' ∧ Room k X.A ∧
  FnOk X.prog X.w X.K X.mg X.base CX0 k f fd ps sp ∧ Binds X.K fd ps [] ∧ t σ H fun vs H1 => H1 f = some (objO f o) ∧ sp vs H1 Q E0
theorem pe_callF {X : Cx} {i : Nat} {x : Str} {p pos : Pos} {e : Expr} {es : List Expr} {t : TA} (hv : PE X (.Name x p) (tVar i)) (ha : PA X (e :: es) t)
    (he : starEach (e :: es) X.env = (false, eval e X.env) :: starEach es X.env := by rfl) (hpl : (backTo pos (starEach es X.env)).any (·.1) = false := by rfl) : PE X (.Call (.Name x p) (e :: es) [] pos) (tCallV X i t) := by
  intro pins s σ H Q I h
  obtain ⟨f, o, fd, fd', ps, sp, k, e1, e2, e3, hr, F, hb, h⟩ := h
  refine wpAny_Call_Name_kw (thn (hv pins s σ H (fun v H1 => v = .ref f ∧ H1 = H) I ⟨_, e1, rfl, rfl⟩) fun u s1 ⟨v, H1, I1, r1, q1, q2⟩ => ?_)
  subst q1 q2
  obtain rfl : u = Value.ref f := r1
  have at_ : ∀ {H : Hp} {s : Shared}, Inv X pins σ H s → H f = some (objO f o) → PySem.W.FnAt f s.heap := fun I q => by
    have e := objO_at I.hok q
    obtain ⟨oc, od, dt, sl⟩ := o
    have e3' : dt = .func fd' := e3
    subst e3'
    exact ⟨oc, od, fd', sl, e⟩
  refine PySem.W.callWith_F (at_ I1 e2) (thn (ha pos pins s1 σ H1 _ I1 h) fun us s2 ⟨vs, H2, I2, r, q, q2⟩ => ⟨at_ I2 q, ?_⟩) he hpl
  exact run_fn (dvs := []) F hr hb .nil pass0 I2 r (by rw [List.append_nil]; exact q2)

/-! ### the body of a lambda, which knows one name of the def around it -/
structure LamScope (N ps : List Str) (y : Str) (sc : Scope) : Prop where
  kind : sc.kind = .function
  co : sc.isCoroutine = false
  gen : sc.isGenerator = false
  nd : ps.Nodup
  eq : N = ps ++ [y]
  par : ∀ x ∈ ps, sc.names.lookup x = some .local
  fr : sc.names.lookup y = some .free
  nocell : ∀ z ∈ sc.names, z.2 ≠ .cell
  only : ∀ z ∈ sc.names, z.2 = .free → z.1 = y
def cxLam (P : Program) (w : World) (K : PySem.W.Frag) (mg : Str → Option Value) (base : Heap) (N : List Str) (qual : Str) (scope : Scope) (f : Addr) (cd : Value) (cl : List (Str × Addr)) (A : Around) (outer : List Env) (s : Shared) (H : Hp) : Cx where
  prog := P
  w := w
  K := K
  mg := mg
  base := base
  A := A.deeper (PySem.W.envX qual scope s.heap.objs.size f cd cl)
  N := N
  s₀ := s
  H₀ := H
  env := PySem.W.envX qual scope s.heap.objs.size f cd cl
  outer := outer
  stack := PySem.W.envX qual scope s.heap.objs.size f cd cl :: outer
  ex := []
  calm := true
  fn := fun _ => false
  pn := []
  xe := fun _ _ => False
theorem lookup_ndV : ∀ {l : List (Str × Value)} {x : Str} {u : Value}, (l.map (·.1)).Nodup → (x, u) ∈ l → l.lookup x = some u
  | [], _, _, _, h => by cases h
  | (n, v) :: r, x, u, nd, h => by
    rw [List.map_cons, List.nodup_cons] at nd
    rw [List.lookup_cons]
    rcases List.mem_cons.mp h with e | e
    · cases e; simp
    · have ne : ¬ x = n := fun z => nd.1 (z ▸ List.mem_map_of_mem (f := (·.1)) e)
      have : (x == n) = false := by simpa using ne
      rw [this]
      exact lookup_ndV nd.2 e
theorem lam_fn {P : Program} {w : World} {K : PySem.W.Frag} {mg : Str → Option Value} {base : Heap} {k : Nat} {f c' c : Addr} {name qual y : Str} {params : Arguments} {body : Expr} {scope : Scope} {pm ctv u t0 : Value} {oc oy : Obj} {N ps : List Str} {v : V} {sp : Sp} {vs0 : Array Value} {tq : Tok}
    (S : LamScope N ps y scope) (hoc : oc.data = .fields vs0) (hvs : vs0[1]? = some (.str qual tq)) (hoy : oy.data = .cell (some u)) (rv : RelV v u) (len : ∀ vs H Q E, sp vs H Q E → vs.length = ps.length)
    (hbody : ∀ (A : Around) (outer : List Env) (s : Shared) (H : Hp) (vs : List V) (Q : VK) (E : XK), Room k (A.deeper (PySem.W.envX qual scope s.heap.objs.size f (.ref c') [(y, c)])) → sp vs H Q E →
      H f = some (objO f (PySem.W.kla_obj name qual params body scope [(y, c)] pm c' ctv)) ∧ H c' = some (objO c' oc) ∧ H c = some (objO c oy) ∧
      ∃ t, PE (cxLam P w K mg base N qual scope f (.ref c') [(y, c)] A outer s (del H c)) body t ∧ t (vs.map some ++ [some v]) (del H c) fun r H' => H' c = none → Q r (upd H' c (objO c oy))) :
    FnOk P w K mg base CX0 (k + 1) f (PySem.W.kla_fn name qual params body scope [(y, c)] pm (.ref c') ctv) ps sp := by
  refine ⟨len, fun A outer s H args us vs Q E hr e0 hb r hsp => ?_⟩
  have hl := len _ _ _ _ hsp
  obtain ⟨e1, e2, e3, t, ht, hq⟩ := hbody A outer s H vs Q E (hr.deeper _) hsp
  have KX : K.In s.heap := e0.mod.kin.keeps fun b o e => (e0.bs b o e).1
  have lim : s.heap.NoLimit := e0.mod.nolimit.keeps fun b o e => (e0.bs b o e).1
  have a1 := objO_at e0.hok e1
  have a2 := objO_at e0.hok e2
  have a3 := objO_at e0.hok e3
  have hlu : us.length = ps.length := by rw [← r.length]; exact hl
  have hz : (ps.zip us).map (·.1) = ps := List.map_fst_zip (by omega)
  refine PySem.W.kla_callFunE hr.depth a1 rfl S.co S.gen rfl ⟨c', oc, vs0, tq, rfl, a2, hoc, hvs⟩ (hb _ _ _ _ ?_)
  refine wpAny_newFunctionEnv S.nocell (fun x hx => S.par _ (List.of_mem_zip (show (x.1, x.2) ∈ ps.zip us from hx)).1) (fun h₁ hns hsb => ?_) S.kind
  have hk₁ : ∀ b o, s.heap.get? b = some o → h₁.get? b = some o := fun b o e => hsb.extBut b o (Nat.ne_of_lt (Heap.lt_size e)) (Heap.get?_push_of_some _ e)
  refine ⟨lim.keeps hk₁, ?_⟩
  have I : Inv (cxLam P w K mg base N qual scope f (.ref c') [(y, c)] A outer s (del H c)) [] (vs.map some ++ [some v]) (del H c) { s with heap := h₁, toks := s.toks + (ps.zip us).length } := by
    have lk : ∀ {z d}, ([(y, c)] : List (Str × Addr)).lookup z = some d → z = y ∧ d = c := fun {z d} e => by
      rw [List.lookup_cons] at e
      cases hzy : z == y with
      | true => rw [hzy] at e; cases e; exact ⟨by simpa using hzy, rfl⟩
      | false => rw [hzy] at e; cases e
    have ly : ([(y, c)] : List (Str × Addr)).lookup y = some c := by simp
    have hcell : h₁.IsCell c (some u) := ⟨oy, hk₁ _ _ a3, hoy⟩
    have noA : ∀ b : Addr, b ∉ ([] : List Addr) := fun b z => by cases z
    refine ⟨⟨e0.mod, S.kind, rfl, rfl, Nat.le_refl _, fun z1 z2 d q1 q2 => ?_, fun z hz' => ?_, (fun z d q => (by cases q)), fun _ => hr.hd, Around.frames_deeper e0.frames, .inr ⟨rfl, rfl⟩, fun b z => absurd z (noA b), fun b o e => ⟨(e0.bs b o e).1, del_none (e0.bs b o e).2⟩, e0.bsz, fun b _ _ => noA b, fun b z => absurd z (noA b), e0.funs, fun b hb' => del_none (e0.frf b hb')⟩,
      rfl, e0.bare, Un.kept hk₁, ⟨_, hns, fun i x v' q1 q2 q3 => ?_⟩, fun z d q => ?_, ?_, fun z d q => ?_, fun p hp => absurd (show p ∈ ([] : List (Addr × Obj)) from hp) (by simp), (e0.hok.del e3).kept hk₁, ?_⟩
    · rw [(lk q1).1, (lk q2).1]
    · have hz'' : scope.names.lookup z = some .cell ∨ scope.names.lookup z = some .free := hz'
      rcases hz'' with q | q
      · exact absurd rfl (S.nocell _ (PySem.mem_of_lookup q))
      · have := S.only _ (PySem.mem_of_lookup q) rfl
        have e : z = y := this
        subst e
        exact ⟨c, ly⟩
    · have q1' : (ps ++ [y])[i]? = some x := by rw [← S.eq]; exact q1
      by_cases hi : i < ps.length
      · rw [List.getElem?_append_left hi] at q1'
        rw [List.getElem?_append_left (by rw [List.length_map]; omega), List.getElem?_map] at q2
        cases ev : vs[i]? with
        | none => rw [ev] at q2; cases q2
        | some v0 =>
          rw [ev] at q2
          cases q2
          obtain ⟨u', hu', rv'⟩ := r.get ev
          refine ⟨u', rv', .inl ⟨S.par _ (List.mem_of_getElem? q1'), ?_⟩⟩
          have hm : (x, u') ∈ ps.zip us := List.mem_of_getElem? (i := i) (by rw [List.getElem?_zip_eq_some]; exact ⟨q1', hu'⟩)
          exact lookup_ndV (by rw [List.map_reverse, hz]; exact List.pairwise_reverse.mpr (S.nd.imp fun h => Ne.symm h)) (List.mem_reverse.mpr hm)
      · rw [List.getElem?_append_right (by omega)] at q1'
        rw [List.getElem?_append_right (by rw [List.length_map]; omega), List.length_map, hl] at q2
        have hi0 : i - ps.length = 0 := by
          cases hj : i - ps.length with
          | zero => rfl
          | succ j => rw [hj] at q1'; simp at q1'
        rw [hi0] at q1' q2
        have e1' : y = x := by simpa using q1'
        have e2' : v = v' := by simpa using q2
        subst e1' e2'
        exact ⟨u, rv, .inr ⟨.inr S.fr, c, ly, hcell⟩⟩
    · obtain ⟨_, rfl⟩ := lk q
      exact ⟨_, hcell⟩
    · exact del_none (e0.hok.fresh (Nat.le_refl _))
    · obtain ⟨_, rfl⟩ := lk q
      exact del_same
    · show _ = N.length
      rw [S.eq, List.length_append, List.length_append, List.length_map, hl]
      rfl
  show codeAny _ _ (.expr body (PySem.W.envX qual scope s.heap.objs.size f (.ref c') [(y, c)])) _ _
  refine PySem.W.kla_codeExpr (wpAny_mono (ht [] _ _ _ _ I hq) (fun vr s' hs => ?_) fun _ _ z => False.elim z)
  obtain ⟨x, H', J, rx, q⟩ := hs
  have un : Un (frs outer) [] (del H c) H' s.heap s'.heap := J.base
  have cf : c ∉ frs outer := fun hb' => by rw [e0.frf c hb'] at e3; cases e3
  have kc : s'.heap.get? c = some oy := un.keep c oy a3 del_same cf (by simp)
  have nc : H' c = none := un.free c oy a3 del_same (by simp)
  exact ⟨x, _, J.os, J.bare, un.back e3, J.hok.obj nc kc, rx, q nc⟩
end L2

set_option Elab.async false
set_option linter.all false
set_option maxRecDepth 100000
namespace L2
open PySem PySem.Spec PyProof.Rows
/-- the module's builtins, as its functions want them -/
def BMain (mg : Str → Option Value) (h : Heap) : Prop := ∃ bm ob, mg "__builtins__" = some (.ref bm) ∧ bm ≠ builtinsNs ∧ h.get? bm = some ob ∧ ob.cls = .type "module" ∧ ob.dict = some builtinsNs ∧ ob.data = .plain
/-- a code object of a function made by the way -/
def CodeO (o : Obj) (qual : Str) : Prop := ∃ vs t, o.data = .fields vs ∧ vs[1]? = some (.str qual t)
def lamO (X : Cx) (params : Arguments) (body : Expr) (scope : Scope) (clos : List (Str × Addr)) (c' : Addr) (ctv : Value) : Obj := PySem.W.kla_obj "<lambda>" (X.env.qual ++ "<lambda>") params body scope clos ((X.mg "__name__").getD .none) c' ctv
/-- lambda: the first time its code object is made and laid into the table at P -/
def tLam (X : Cx) (P : Addr) (params : Arguments) (body : Expr) (scope : Scope) (clos : List (Str × Addr)) (pos : Pos) : TE := fun σ H Q => ∃ ps, H P = some (.tbl ps) ∧ TriplesOk ps.toList ∧
  ((codeAmong pos ps.toList = none ∧ ∀ (f c' : Addr) (oc : Obj) (ctv : Value), H c' = none → H f = none → c' ≠ f → CodeO oc (X.env.qual ++ "<lambda>") →
      Q (.ref f) (upd (upd (upd H P (.tbl (ps ++ #[rawInt pos.line, rawInt pos.col, .ref c']))) c' (objO c' oc)) f (objO f (lamO X params body scope clos c' ctv)))) ∨
   ∃ c', codeAmong pos ps.toList = some (.ref c') ∧ ∀ (f : Addr) (ctv : Value), H f = none → Q (.ref f) (upd H f (objO f (lamO X params body scope clos c' ctv))))
section
variable {X : Cx} {P cp : Addr} {params : Arguments} {body : Expr} {scope : Scope} {clos : List (Str × Addr)} {pos : Pos}
theorem pe_lam (hcl : closureFor scope X.env = pure clos) (hcode : X.env.code = .ref cp) (C : PySem.W.CodeHd X.base cp P) (B : BMain X.mg X.base) (hdef : defaultsOf params X.env = ([], []) := by rfl) : PE X (.Lambda params body scope pos) (tLam X P params body scope clos pos) := by
  intro pins s σ H Q I h
  obtain ⟨ps, hH, ht, h⟩ := h
  have hP : s.heap.get? P = some (PySem.W.tabObj ps) := I.hok P _ hH
  have hgs : s.heap.Ns mainGlobals X.mg := I.mod.glob.keeps I.bk
  have hgP : mainGlobals ≠ P := fun q => by
    obtain ⟨o, es, ep, e, hd, _⟩ := hgs
    rw [q, hP] at e; cases e; cases hd
  obtain ⟨bm, ob, b1, b2, b3, b4, b5, b6⟩ := B
  have hbo := I.bk _ _ b3
  have hbP : bm ≠ P := fun q => by rw [q, hP] at hbo; cases hbo; cases b4
  have hbG : bm ≠ mainGlobals := fun q => by
    obtain ⟨o, es, ep, e, hd, _⟩ := hgs
    rw [q, e] at hbo; cases hbo; rw [hd] at b6; cases b6
  have hLP : X.env.locals ≠ P := fun q => by have := I.free; rw [q, hH] at this; cases this
  refine PySem.W.kla_eval hdef ?_
  rcases h with ⟨hnf, h⟩ | ⟨c', hf, h⟩
  · refine PySem.W.kla_makeFunction (mg := X.mg) hcl I.ok.glob hgs hcode (C.keeps I.bk) hP ht hnf hgP ⟨bm, ob, b1, b2, hbG, hbP, hbo, b4, b5, b6⟩ fun c' ctv h' tk hx hge hlt hrec htb => ?_
    obtain ⟨c₂, oc, vs, t, e2, hoc, hd, hv⟩ := hrec
    cases e2
    have kp : ∀ b o, b ≠ P → s.heap.get? b = some o → (h'.push (lamO X params body scope clos c' ctv)).get? b = some o := fun b o n e => Heap.get?_push_of_some _ (hx b o n e)
    have nc : H c' = none := I.hok.fresh hge
    have hsz : s.heap.objs.size ≤ h'.objs.size := Nat.le_of_lt (Nat.lt_of_le_of_lt hge hlt)
    have nf : H h'.objs.size = none := I.hok.fresh hsz
    have cf : c' ≠ h'.objs.size := Nat.ne_of_lt hlt
    have cP : c' ≠ P := fun q => by rw [q, hH] at nc; cases nc
    have fP : h'.objs.size ≠ P := fun q => by rw [q, hH] at nf; cases nf
    have old : ∀ b o, s.heap.get? b = some o → b ≠ c' ∧ b ≠ h'.objs.size := fun b o e => ⟨Nat.ne_of_lt (Nat.lt_of_lt_of_le (Heap.lt_size e) hge), Nat.ne_of_lt (Nat.lt_of_lt_of_le (Heap.lt_size e) hsz)⟩
    have trk : ∀ {b u}, H b = some u → b ≠ c' ∧ b ≠ h'.objs.size := fun e => ⟨ne_of_none e nc, ne_of_none e nf⟩
    have up : ∀ {b u}, H b = some u → b ≠ P → (upd (upd (upd H P (.tbl (ps ++ #[rawInt pos.line, rawInt pos.col, .ref c']))) c' (objO c' oc)) h'.objs.size (objO h'.objs.size (lamO X params body scope clos c' ctv))) b = some u := fun e n => by
      rw [upd_ne (trk e).2, upd_ne (trk e).1, upd_ne n]; exact e
    have atP : (upd (upd (upd H P (.tbl (ps ++ #[rawInt pos.line, rawInt pos.col, .ref c']))) c' (objO c' oc)) h'.objs.size (objO h'.objs.size (lamO X params body scope clos c' ctv))) P = some (.tbl (ps ++ #[rawInt pos.line, rawInt pos.col, .ref c'])) := by
      rw [upd_ne (Ne.symm fP), upd_ne (Ne.symm cP), upd_same]
    have un : Un X.fs [] H (upd (upd (upd H P (.tbl (ps ++ #[rawInt pos.line, rawInt pos.col, .ref c']))) c' (objO c' oc)) h'.objs.size (objO h'.objs.size (lamO X params body scope clos c' ctv))) s.heap (h'.push (lamO X params body scope clos c' ctv)) := {
      keep := fun b o e n _ _ => kp b o (fun q => by rw [q, hH] at n; cases n) e
      slot := fun b o e n _ _ => ⟨o.slots, kp b o (fun q => by rw [q, hH] at n; cases n) e⟩
      free := fun b o e n _ => by
        rw [upd_ne (old b o e).2, upd_ne (old b o e).1, upd_ne (fun q => by rw [q, hH] at n; cases n)]; exact n
      there := fun b o e _ => by
        by_cases z : b = P
        · rw [z]; exact ⟨_, Heap.get?_push_of_some _ htb⟩
        · exact ⟨o, kp b o z e⟩
      tups := fun b xs e => up e (fun q => by rw [q, hH] at e; cases e)
      frzs := fun b o u e => up e (fun q => by rw [q, hH] at e; cases e)
      tbls := fun b qs e => by
        by_cases z : b = P
        · rw [z, hH] at e; cases e; rw [z]; exact ⟨_, atP⟩
        · exact ⟨#[], by rw [up e z]; simp⟩ }
    refine ⟨.ref h'.objs.size, _, I.un (t' := tk) un (fun b u e => ?_), rfl, h _ c' oc ctv nc nf cf ⟨vs, t, hd, hv⟩⟩
    by_cases z1 : b = h'.objs.size
    · subst z1
      rw [upd_same] at e; cases e
      exact objO_ok (Heap.get?_push_size _ rfl)
    · rw [upd_ne z1] at e
      by_cases z2 : b = c'
      · subst z2
        rw [upd_same] at e; cases e
        exact objO_ok (Heap.get?_push_of_some _ hoc)
      · rw [upd_ne z2] at e
        by_cases z3 : b = P
        · subst z3
          rw [upd_same] at e; cases e
          exact Heap.get?_push_of_some _ htb
        · rw [upd_ne z3] at e
          refine (I.hok b u e).stay (fun d o hd' q => kp d o ?_ q) (fun d r => up r (fun q => by rw [q, hH] at r; cases r)) fun d xs r => up r (fun q => by rw [q, hH] at r; cases r)
          rcases hd' with z | z
          · rw [z]; exact z3
          · intro q; rw [q, hH] at z; cases z
  · refine PySem.W.kla_makeFunctionHit (mg := X.mg) hcl I.ok.glob hgs hcode (C.keeps I.bk) hP ht hf ⟨bm, ob, b1, b2, hbG, hbP, hbo, b4, b5, b6⟩ fun ctv h' tk hk hsz => ?_
    exact ⟨.ref h'.objs.size, _, I.laid (a := h'.objs.size) (t' := tk) (fun b u e => Heap.get?_push_of_some _ (hk b u e)) hsz (objO_ok (Heap.get?_push_size _ rfl)), rfl, h _ ctv (I.hok.fresh hsz)⟩
end
/-- a call to which a cell of the def is lent -/
def tCallL (i : Nat) (c : Addr) (sp : Sp) (t : TA) : TE := fun σ H Q => t σ H fun vs H1 => ∃ v, σ[i]? = some (some v) ∧ ∀ (oy : Obj) (u : Value), oy.data = .cell (some u) → RelV v u → H1 c = none →
  sp vs (upd H1 c (objO c oy)) (fun r H' => H' c = some (objO c oy) ∧ Q r (del H' c)) E0
theorem pe_callL {X : Cx} {k i : Nat} {x y : Str} {ps : List Str} {sp : Sp} {p pos : Pos} {e : Expr} {es : List Expr} {t : TA} {f c : Addr} {fd : FuncData} (F : FnOk X.prog X.w X.K X.mg X.base CX0 k f fd ps sp) (hb : Binds X.K fd ps []) (hk : PySem.W.keepIn X.K (.ref f) = true) (hm : X.mg x = some (.ref f)) (hr : Room k X.A) (hg : Gl X x)
    (hN : X.N[i]? = some y) (hy : X.env.scope.names.lookup y = some .cell) (hc : X.env.cells.lookup y = some c) (hfn : X.fn y = true) (ha : PA X (e :: es) t)
    (hdb : (x == ("__debug__" : Str)) = false := by decide) (he : starEach (e :: es) X.env = (false, eval e X.env) :: starEach es X.env := by rfl) (hpl : (backTo pos (starEach es X.env)).any (·.1) = false := by rfl) :
    PE X (.Call (.Name x p) (e :: es) [] pos) (tCallL i c sp t) := by
  intro pins s σ H Q I h
  refine wpAny_Call_Name_kw (ld_glob I hg hm ?_ hdb)
  refine PySem.W.callWith_K (h₀ := X.base) I.ok.mod.kin hk (thn (ha pos pins s σ H _ I h) fun us s1 ⟨vs, H1, I1, r, v, ev, q⟩ => ⟨I1.kIn, ?_⟩) he hpl
  obtain ⟨m, hn, hl⟩ := I1.loc
  obtain ⟨u, rv, l⟩ := hl i y v hN ev (.inr (.inl hy))
  have hc1 : s1.heap.IsCell c (some u) := by
    rcases l with ⟨l1, _⟩ | ⟨_, c2, l2, l3⟩
    · have l1' : X.env.scope.names.lookup y = some .local := l1
      rw [hy] at l1'; cases l1'
    · rw [hc] at l2; cases l2; exact l3
  obtain ⟨oy, ho, hd⟩ := hc1
  have n1 := I1.freeC y c hc
  have cab := I1.ok.cab y c hfn hc
  have e0 : Env0 X.prog X.w X.K X.mg X.base X.A X.stack s1 (upd H1 c (objO c oy)) := ⟨I1.ok.frames, I1.ok.mod, fun b o e => ⟨(I1.bs b o e).1, by
      rw [upd_ne (Nat.ne_of_lt (Nat.lt_of_lt_of_le (Heap.lt_size e) (Nat.le_trans I1.ok.bsz cab)))]; exact (I1.bs b o e).2⟩, Nat.le_trans I1.ok.bsz I1.sz, I1.stack, fun b hb' => by
      have z : b ≠ c := by
        rcases List.mem_cons.mp (I1.stkSub b hb') with z | z
        · rw [z]; exact Ne.symm (I1.cne y c hc)
        · obtain ⟨_, o, ho', _⟩ := I1.ok.funs.mem z
          exact Nat.ne_of_lt (Nat.lt_of_lt_of_le (Heap.lt_size ho') cab)
      rw [upd_ne z]; exact I1.stkFree b hb', I1.hok.obj n1 ho, I1.bare⟩
  have q' := q oy u hd rv n1
  have hl' : us.length = ps.length := by rw [← r.length]; exact F.len _ _ _ _ q'
  have bt : BindsTo s1 fd ⟨us, []⟩ (ps.zip us) := by
    have := hb s1 us I1.kIn (by rw [List.append_nil]; exact hl')
    rw [List.append_nil] at this
    exact this
  refine wpAny_call (codeAny_mono (F.run X.A X.stack s1 _ ⟨us, []⟩ us vs _ _ hr e0 bt r q') fun r' s' hq => ?_)
  cases r' with
  | error e => exact False.elim hq
  | ok fl =>
    cases fl with
    | ret u' =>
      obtain ⟨v', H', os, bare, un, hok, r2, q1, q2⟩ := hq
      exact I1.after ⟨v', _, os, bare, un.lent n1 ho q1 (objO_at hok q1), hok.del q1, r2, q2⟩
    | next => exact False.elim hq
    | brk => exact False.elim hq
    | cont => exact False.elim hq
end L2

set_option Elab.async false
set_option linter.all false
set_option maxRecDepth 100000
namespace L2
open PySem PySem.Spec PyProof.Rows
/-- the law's call where one code object's table is tracked -/
theorem law_callT {P : Program} {w : World} {K : PySem.W.Frag} {mg mb : Str → Option Value} {k : Nat} {fa a cp Pt : Addr} {fd : FuncData} {x : Str} {sp : Sp} {s₁ : Shared} {vs : List Value} {ns : List Int}
    (KX : K.In s₁.heap) (hns : s₁.heap.Ns mainGlobals mg) (hb : s₁.heap.Ns builtinsNs mb) (hbb : ∀ x : Str, x ≠ "__name__" → mb x = bootBuiltins x) (hlim : s₁.heap.NoLimit) (hg : s₁.gens = #[])
    (ha : s₁.heap.get? a = some { cls := .type "list", data := .seq vs.toArray }) (hi : IntsAre vs ns) (hl : ns.length ≤ sizeLine) (hr : Room k callerA) (nT : PySem.W.noTabs K = true) (hC : PySem.W.CodeHd s₁.heap cp Pt) (hP : s₁.heap.get? Pt = some (PySem.W.tabObj #[])) (hB : BMain mg s₁.heap)
    (F : ∀ base : Heap, K.In base → base.Ns mainGlobals mg → BMain mg base → FnOk P w K mg base CX0 k fa fd [x] sp) (hbind : ∀ (s : Shared) (u : Value), BindsTo s fd ⟨[u], []⟩ [(x, u)])
    (hsp : ∀ H : Hp, SqL K H a (ns.map V.int) → H Pt = some (.tbl #[]) → sp [.ref a] H (fun v _ => v = .bl true) fun _ _ _ => False) :
    codeAny (model P w) callerA (.call (.ref fa) ⟨[.ref a], []⟩) (fun r s' => r = .ok (.ret (.bool true)) ∧ OldK s₁.heap s'.heap ∧ s'.os = s₁.os ∧ AllBare s'.gens) s₁ := by
  have rv := vals_ints hi
  have lenV := hi.length
  have naP : a ≠ Pt := fun q => by rw [q, hP] at ha; cases ha
  have KP : K.lookup Pt = none := by
    cases q : K.lookup Pt with
    | none => rfl
    | some o =>
      have e := KX _ _ q
      rw [hP] at e
      cases e
      have h2 := List.all_eq_true.mp nT (Pt, PySem.W.tabObj #[]) (PySem.W.mem_of_lookupK q)
      exact absurd (show false = true from h2) Bool.false_ne_true
  have core : ∀ H : Hp, SqL K H a (ns.map V.int) → H Pt = some (.tbl #[]) → HOk P w H s₁.heap → (∀ b, b ≠ Pt → H b ≠ none → b = a) → (∀ u, H a = some u → ∃ ob xs, u = .frz ob (.lst xs)) → (H a ≠ none → K.lookup a = none) →
      codeAny (model P w) callerA (.call (.ref fa) ⟨[.ref a], []⟩) (fun r s' => r = .ok (.ret (.bool true)) ∧ OldK s₁.heap s'.heap ∧ s'.os = s₁.os ∧ AllBare s'.gens) s₁ := by
    intro H hS hT hok hA hF hK
    have base_of : ∀ {b : Addr} {o : Obj}, s₁.heap.get? b = some o → H b = none → (hidT s₁.heap H).get? b = some o := fun e n => hidT_get e n
    have untr : ∀ {b : Addr}, b ≠ a → b ≠ Pt → H b = none := fun {b} n1 n2 => by
      cases q : H b with
      | none => rfl
      | some u => exact absurd (hA b n2 (by rw [q]; simp)) n1
    have noA : ∀ {b : Addr} {o : Obj} {es : Array DictEntry} {ep : Nat}, s₁.heap.get? b = some o → o.data = .dict es ep → H b = none := fun {b o es ep} e d => by
      refine untr (fun q => ?_) (fun q => ?_)
      · rw [q, ha] at e; cases e; cases d
      · rw [q, hP] at e; cases e; cases d
    have nsK : ∀ {b : Addr} {m : Str → Option Value}, s₁.heap.Ns b m → (hidT s₁.heap H).Ns b m := fun {b m} ⟨o, es, ep, e, d, r⟩ => ⟨o, es, ep, base_of e (noA e d), d, r⟩
    have hKb : K.In (hidT s₁.heap H) := fun b o e => base_of (KX b o e) (by
      by_cases n2 : b = Pt
      · rw [n2, KP] at e; cases e
      · by_cases n1 : b = a
        · subst n1
          cases q : H b with
          | none => rfl
          | some u => rw [hK (by rw [q]; simp)] at e; cases e
        · exact untr n1 n2)
    have hBb : BMain mg (hidT s₁.heap H) := by
      obtain ⟨bm, ob, b1, b2, b3, b4, b5, b6⟩ := hB
      refine ⟨bm, ob, b1, b2, base_of b3 (untr (fun q => ?_) fun q => ?_), b4, b5, b6⟩
      · rw [q, ha] at b3; cases b3; cases b6
      · rw [q, hP] at b3; cases b3; cases b4
    have hM : Mod K mg (hidT s₁.heap H) := ⟨hKb, nsK hns, ⟨mb, nsK hb, hbb⟩, let ⟨mc, h1, h2⟩ := hlim; ⟨mc, nsK h1, h2⟩⟩
    have e0 : Env0 P w K mg (hidT s₁.heap H) callerA [] s₁ H := ⟨rfl, hM, fun b o e => of_hidT e, Nat.le_of_eq (hidT_size _ _), trivial, fun b hb => absurd (show b ∈ ([] : List Addr) from hb) (by simp), hok, .of_eq hg⟩
    refine codeAny_mono ((F _ hKb (nsK hns) hBb).run callerA [] s₁ H ⟨[.ref a], []⟩ [.ref a] [.ref a] _ _ hr e0 (hbind s₁ (.ref a)) (.cons rfl .nil) (hsp H hS hT)) fun r s' h => ?_
    cases r with
    | error e => exact False.elim h
    | ok fl =>
      cases fl with
      | next => exact False.elim h
      | brk => exact False.elim h
      | cont => exact False.elim h
      | ret u =>
        obtain ⟨v, H', os, bare, un, hok', r', q⟩ := h
        have q' : v = .bl true := q
        subst q'
        obtain rfl : u = Value.bool true := r'
        have keepN : ∀ {b o}, s₁.heap.get? b = some o → H b = none → s'.heap.get? b = some o := fun {b o} e q => un.keep b o e q (by intro z; exact absurd (show b ∈ ([] : List Addr) from z) (by simp)) (by simp)
        obtain ⟨more, hT'⟩ := un.tbls Pt _ hT
        have eT : s'.heap.get? Pt = some { cls := .none, data := .fields (#[] ++ more) } := hok' Pt _ hT'
        refine ⟨rfl, ⟨fun b o e => ?_, fun b o e => ?_⟩, os, bare⟩
        · by_cases n2 : b = Pt
          · subst n2
            rw [hP] at e; cases e
            exact .inr (.inl ⟨(hC.tab hP).isCodeTable, rfl, #[], more, rfl, eT⟩)
          · refine .inl ?_
            cases q : H b with
            | none => exact keepN e q
            | some u =>
              have e1 := hA b n2 (by rw [q]; simp)
              subst e1
              obtain ⟨ob, xs, rfl⟩ := hF u q
              have z2 := un.frzs b ob _ q
              obtain ⟨e1, _⟩ := hok b _ q
              obtain ⟨e2, _⟩ := hok' b _ z2
              rw [e] at e1; cases e1
              exact e2
        · exact un.there b o e (by simp)
  cases hk : K.lookup a with
  | some o =>
    have e := KX a o hk
    rw [ha] at e
    cases e
    refine core (fun b => if b = Pt then some (.tbl #[]) else none) (.inr ⟨_, vs.toArray, _, hk, rfl, rfl, rfl, by rw [List.size_toArray, lenV]; exact hl, by simpa using rv⟩) (if_pos rfl) (fun b u z => ?_) (fun b n z => absurd (if_neg n) z) (fun u z => ?_) fun z => absurd (if_neg naP) z
    · by_cases n : b = Pt
      · have z' := (if_pos n).symm.trans z
        cases z'
        subst n
        exact hP
      · have z' := (if_neg n).symm.trans z
        cases z'
    · have z' := (if_neg naP).symm.trans z
      cases z'
  | none =>
    have hH : ∀ b, b ≠ Pt → (fun b => if b = Pt then some (HO.tbl #[]) else if b = a then some (.frz { cls := .type "list", data := .seq vs.toArray } (.lst (ns.map V.int))) else none : Hp) b = (if b = a then some (.frz { cls := .type "list", data := .seq vs.toArray } (.lst (ns.map V.int))) else none) := fun b n => if_neg n
    have hHa : (fun b => if b = Pt then some (HO.tbl #[]) else if b = a then some (.frz { cls := .type "list", data := .seq vs.toArray } (.lst (ns.map V.int))) else none : Hp) a = some (.frz { cls := .type "list", data := .seq vs.toArray } (.lst (ns.map V.int))) := (hH a naP).trans (if_pos rfl)
    refine core (fun b => if b = Pt then some (HO.tbl #[]) else if b = a then some (.frz { cls := .type "list", data := .seq vs.toArray } (.lst (ns.map V.int))) else none) (.inl (.inr ⟨{ cls := .type "list", data := .seq vs.toArray }, hHa⟩)) (if_pos rfl) (fun b u z => ?_) (fun b n z => ?_) (fun u z => ?_) fun _ => hk
    · by_cases n : b = Pt
      · have z' := (if_pos n).symm.trans z
        cases z'
        subst n
        exact hP
      · have z1 := (hH b n).symm.trans z
        by_cases hb : b = a
        · have z' := (if_pos hb).symm.trans z1
          cases z'
          subst hb
          exact ⟨ha, by rw [List.length_map]; exact hl, vs, _, rv, ha⟩
        · have z' := (if_neg hb).symm.trans z1
          cases z'
    · by_cases hb : b = a
      · exact hb
      · exact absurd ((hH b n).trans (if_neg hb)) z
    · have z' := hHa.symm.trans z
      cases z'
      exact ⟨_, _, rfl⟩
theorem walk_ofT {l : PySem.W.OpenLaw} {n k : Nat} {q : Program} {loose : List Str} {XP : (Str → Option Value) → Heap → Prop} {YP : World → Heap → Prop} {d : DefRec} {K : Params → PySem.W.Frag} {sp : PySem.W.Frag → Sp} {x : Str} {cp Pt : Addr}
    (hn : l.most = some n) (hn2 : n ≤ sizeLine) (hdf : d.params.defaults = []) (hr : Room k callerA)
    (hY : ∀ (w : World) (h : Heap), YP w h → (K w.params).In h) (nT : ∀ w : World, PySem.W.noTabs (K w.params) = true) (hcd : ∀ w : World, PySem.W.codeHdIn (K w.params) cp Pt = true) (hT : ∀ (w : World) (h : Heap), YP w h → h.get? Pt = some (PySem.W.tabObj #[]))
    (F : ∀ (w : World) (mg : Str → Option Value) (fa : Addr) (h : Heap), (K w.params).In h → h.Ns mainGlobals mg → mg d.name = some (.ref fa) →
      ∃ fd : FuncData, (∀ (s : Shared) (u : Value), BindsTo s fd ⟨[u], []⟩ [(x, u)]) ∧
        ∀ base : Heap, (K w.params).In base → base.Ns mainGlobals mg → BMain mg base → PySem.W.CodeHd base cp Pt → FnOk l.prog w (K w.params) mg base CX0 k fa fd [x] (sp (K w.params)))
    (hsp : ∀ (K : PySem.W.Frag) (H : Hp) (a : Addr) (ns : List Int), ns.length ≤ n → SqL K H a (ns.map V.int) → H Pt = some (.tbl #[]) → sp K [.ref a] H (fun v _ => v = .bl true) fun _ _ _ => False) :
    PySem.W.WalkO q loose XP YP l.row.toRowW d [] (fun f vs => PySem.call f vs) := by
  refine Att.attach_call hn hdf fun w s₀ s₁ mg mb fa o pm cd doc a vs ns G Y ho hd hcd' hmg hobj hints hlen hg => ?_
  have KX := hY w _ Y
  obtain ⟨fd, hb, hF⟩ := F w mg fa _ KX G.T.g hmg
  exact law_callT KX G.T.g G.T.b G.T.builtins G.T.nolimit hg hobj hints (Nat.le_trans hlen hn2) hr (nT w) (PySem.W.codeHd_of_K KX (hcd w)) (hT w _ Y) G.T.bmain (fun base h1 h2 h3 => hF base h1 h2 h3 (PySem.W.codeHd_of_K h1 (hcd w))) hb (fun H hS hP => hsp _ H a ns hlen hS hP)
end L2

set_option Elab.async false
set_option linter.all false
set_option maxRecDepth 100000
namespace Fw
open PySem PySem.Spec PyProof.Rows L2
/-! ### lists of signs cut at a sign -/
def splL (c : Nat) : List Nat → List (List Nat)
  | [] => [[]]
  | a :: r => if a = c then [] :: splL c r else match splL c r with
    | p :: ps => (a :: p) :: ps
    | [] => [[a]]
/-! ### the sorts of words -/
def smallS : Str := "abcdefghijklmnopqrstuvwxyz"
def greatS : Str := "ABCDEFGHIJKLMNOPQRSTUVWXYZ"
def keptL : List Str := ["num", "fun", "call", "let", "ring", "case", "make", "pick", "plus", "minus", "times", "less", "if", "kind", "record", "face", "hide", "val", "part", "maker", "apply", "main"]
def inS (y : Str) (c : Nat) : Bool := decide (c ∈ y.cps.toList)
def allS (z y : Str) : Bool := z.cps.toList.all (inS y)
def okLen (z : Str) : Bool := decide (1 ≤ z.length) && decide (z.length ≤ 8)
def smallB (z : Str) : Bool := okLen z && allS z smallS
def nameB (z : Str) : Bool := smallB z && !decide (z ∈ keptL)
def restS (z : Str) : Str := ⟨(z.cps.toList.drop 1).toArray⟩
def greatB (z : Str) : Bool := okLen z && (inS greatS (z.cps.toList.getD 0 0) && allS (restS z) smallS)
def pathB (z : Str) : Bool := match splL 46 z.cps.toList with
  | [a, b] => greatB ⟨a.toArray⟩ && nameB ⟨b.toArray⟩
  | _ => false
def varB (z : Str) : Bool := decide (z.cps.toList.head? = some 63) && smallB (restS z)
def leafB (z : Str) : Bool := decide (z = "num") || varB z || nameB z || pathB z
def headB (z : Str) : Bool := nameB z || pathB z

theorem len_toList (z : Str) : z.cps.toList.length = z.length := by simp [Str.length]
theorem small_range {c : Nat} (h : inS smallS c = true) : 97 ≤ c ∧ c ≤ 122 := by
  have h' : c ∈ smallS.cps.toList := of_decide_eq_true h
  have : ∀ d ∈ smallS.cps.toList, 97 ≤ d ∧ d ≤ 122 := by decide +kernel
  exact this c h'
theorem great_range {c : Nat} (h : inS greatS c = true) : 65 ≤ c ∧ c ≤ 90 := by
  have h' : c ∈ greatS.cps.toList := of_decide_eq_true h
  have : ∀ d ∈ greatS.cps.toList, 65 ≤ d ∧ d ≤ 90 := by decide +kernel
  exact this c h'
theorem smallS_len : smallS.length = 26 := by decide +kernel
theorem greatS_len : greatS.length = 26 := by decide +kernel
/-- a word of small letters, in other words -/
structure IsLet (z : Str) (n : Nat) : Prop where
  len : z.length = n
  all : allS z smallS = true
theorem IsLet.mem {z : Str} {n : Nat} (h : IsLet z n) {c : Nat} (hc : c ∈ z.cps.toList) : 97 ≤ c ∧ c ≤ 122 :=
  small_range (List.all_eq_true.mp h.all c hc)
theorem cps_app (a b : Str) : (a ++ b).cps.toList = a.cps.toList ++ b.cps.toList := by
  show (a.cps ++ b.cps).toList = _
  simp
theorem len_app (a b : Str) : (a ++ b).length = a.length + b.length := by
  rw [← len_toList, cps_app, List.length_append, len_toList, len_toList]
/-! small names -/
/-! great names -/
/-! what a word with no dot, with a first sign that is none is not -/
end Fw

set_option Elab.async false
set_option linter.all false
set_option maxRecDepth 100000
namespace Fw
open PySem PySem.Spec PyProof.Rows L2
/-! ### things -/
inductive T where
  | int (i : Int)
  | str (x : Str)
  | tup (l : List T)
mutual
def T.sz : T → Nat
  | .int _ => 1
  | .str _ => 1
  | .tup l => 1 + szs l
def szs : List T → Nat
  | [] => 0
  | t :: r => t.sz + szs r
end
theorem sz_pos : ∀ t : T, 1 ≤ t.sz
  | .int _ => by simp [T.sz]
  | .str _ => by simp [T.sz]
  | .tup l => by simp [T.sz]
theorem szs_app : ∀ (a b : List T), szs (a ++ b) = szs a + szs b
  | [], b => by simp [szs]
  | t :: r, b => by simp [szs, szs_app r b, Nat.add_assoc]
theorem len_szs : ∀ l : List T, l.length ≤ szs l
  | [] => by simp [szs]
  | t :: r => by
    have := len_szs r
    have := sz_pos t
    simp [szs]
    omega
mutual
inductive Rep (H : Hp) : V → T → Prop where
  | int (i : Int) : Rep H (.int i) (.int i)
  | str (x : Str) (h : x.length ≤ 100000) : Rep H (.str x) (.str x)
  | tup {a : Addr} {vs : List V} {ts : List T} (h : H a = some (.tup vs)) (r : Reps H vs ts) : Rep H (.ref a) (.tup ts)
inductive Reps (H : Hp) : List V → List T → Prop where
  | nil : Reps H [] []
  | cons {v : V} {t : T} {vs : List V} {ts : List T} (r : Rep H v t) (q : Reps H vs ts) : Reps H (v :: vs) (t :: ts)
end
mutual
theorem Rep.mono {H H' : Hp} (e : ∀ b xs, H b = some (.tup xs) → H' b = some (.tup xs)) : ∀ {v : V} {t : T}, Rep H v t → Rep H' v t
  | _, _, .int i => .int i
  | _, _, .str x h => .str x h
  | _, _, .tup h r => .tup (e _ _ h) (Reps.mono e r)
theorem Reps.mono {H H' : Hp} (e : ∀ b xs, H b = some (.tup xs) → H' b = some (.tup xs)) : ∀ {vs : List V} {ts : List T}, Reps H vs ts → Reps H' vs ts
  | _, _, .nil => .nil
  | _, _, .cons r q => .cons (Rep.mono e r) (Reps.mono e q)
end
theorem Rep.same {H H' : Hp} (e : Same H H') {v : V} {t : T} (r : Rep H v t) : Rep H' v t := r.mono fun b xs h => e b _ h
theorem Reps.same {H H' : Hp} (e : Same H H') {vs : List V} {ts : List T} (r : Reps H vs ts) : Reps H' vs ts := r.mono fun b xs h => e b _ h
theorem Reps.length {H : Hp} : ∀ {vs : List V} {ts : List T}, Reps H vs ts → vs.length = ts.length
  | _, _, .nil => rfl
  | _, _, .cons _ q => congrArg (· + 1) q.length
theorem Reps.append {H : Hp} : ∀ {vs ws : List V} {ts us : List T}, Reps H vs ts → Reps H ws us → Reps H (vs ++ ws) (ts ++ us)
  | _, _, _, _, .nil, q => q
  | _, _, _, _, .cons r p, q => .cons r (Reps.append p q)
theorem Reps.snoc_inv {H : Hp} {vs : List V} {ts : List T} (r : Reps H vs ts) (h : vs ≠ []) : ∃ ws us v t, vs = ws ++ [v] ∧ ts = us ++ [t] ∧ Reps H ws us ∧ Rep H v t := by
  induction vs generalizing ts with
  | nil => exact absurd rfl h
  | cons v vs ih =>
    cases r with
    | @cons _ t _ ts' r q =>
      by_cases e : vs = []
      · subst e
        cases q
        exact ⟨[], [], v, t, rfl, rfl, .nil, r⟩
      · obtain ⟨ws, us, v', t', rfl, rfl, q1, q2⟩ := ih q e
        exact ⟨v :: ws, t :: us, v', t', rfl, rfl, .cons r q1, q2⟩
theorem Same.tups {H H' : Hp} (e : Same H H') : ∀ b xs, H b = some (.tup xs) → H' b = some (.tup xs) := fun b xs h => e b _ h
theorem same_new {H : Hp} {p : Addr} (h : H p = none) (o : HO) : Same H (upd H p o) := fun b u q => by rw [upd_ne (ne_of_none q h)]; exact q
/-! ### things that fit, by what stands within them -/
section
variable (kids : T → Option (List T))
inductive Good : T → Prop where
  | mk {t : T} {l : List T} (h : kids t = some l) (q : ∀ k ∈ l, Good k) : Good t
inductive Bad : T → Prop where
  | none {t : T} (h : kids t = none) : Bad t
  | kid {t : T} {l : List T} {k : T} (h : kids t = some l) (m : k ∈ l) (q : Bad k) : Bad t
end
/-! ### the sorts of words, of things -/
def onStr (f : Str → Bool) : T → Bool
  | .str z => f z
  | _ => false
def kidsK : T → Option (List T)
  | .int _ => none
  | .str z => if leafB z = true then some [] else none
  | .tup [] => none
  | .tup (h :: r) => if r.length = 2 ∧ onStr (fun z => decide (z = "->")) h = true then some r else if (1 ≤ r.length ∧ r.length ≤ 3) ∧ onStr headB h = true then some r else none
/-! ### a def of the text that is there, with its promise -/
def Has (P : Program) (w : World) (K : PySem.W.Frag) (mg : Str → Option Value) (base : Heap) (k : Nat) (x : Str) (ps : List Str) (sp : Sp) : Prop :=
  ∃ f fd, FnOk P w K mg base CX0 k f fd ps sp ∧ Binds K fd ps [] ∧ PySem.W.keepIn K (.ref f) = true ∧ mg x = some (.ref f)
theorem Has.mono {P : Program} {w : World} {K : PySem.W.Frag} {mg : Str → Option Value} {base : Heap} {j k : Nat} {x : Str} {ps : List Str} {sp : Sp} (h : Has P w K mg base j x ps sp) (q : j ≤ k) : Has P w K mg base k x ps sp := by
  obtain ⟨f, fd, h1, h2⟩ := h
  exact ⟨f, fd, h1.mono q, h2⟩
theorem pcall {X : Cx} {k j : Nat} {x : Str} {ps : List Str} {sp : Sp} {p pos : Pos} {e : Expr} {es : List Expr} {t : TA} (h : Has X.prog X.w X.K X.mg X.base k x ps sp) (hr : Room j X.A) (hkj : k ≤ j) (hg : Gl X x) (ha : PA X (e :: es) t)
    (hdb : (x == ("__debug__" : Str)) = false := by decide) (he : starEach (e :: es) X.env = (false, eval e X.env) :: starEach es X.env := by rfl) (hpl : (backTo pos (starEach es X.env)).any (·.1) = false := by rfl) :
    PE X (.Call (.Name x p) (e :: es) [] pos) (tCall sp [] E0 t) := by
  obtain ⟨f, fd, h1, h2, h3, h4⟩ := h
  exact pe_call h1 (hr.mono hkj) hg h4 h3 h2 .nil pass0 ha hdb he hpl
def spT (f : T → Bool) : Sp := fun vs H Q _ => ∃ v t, vs = [v] ∧ Rep H v t ∧ ∀ H', Same H H' → Q (.bl (f t)) H'
def spWithin (kids : T → Option (List T)) : Sp := fun vs H Q _ => ∃ v t, vs = [v] ∧ Rep H v t ∧ (kids t = none → ∀ H', Same H H' → Q .non H') ∧
  ∀ l, kids t = some l → ∀ H' p ws, Same H H' → H p = none → H' p = some (.lst ws) → Reps H' ws l → Q (.ref p) H'
def spFits (kids : T → Option (List T)) : Sp := fun vs H Q _ => ∃ v t b, vs = [v] ∧ Rep H v t ∧ t.sz ≤ 100000 ∧ ((b = true ∧ Good kids t) ∨ (b = false ∧ Bad kids t)) ∧ ∀ H', Same H H' → Q (.bl b) H'
def spAllFit (kids : T → Option (List T)) (g : Addr) : Sp := fun vs H Q _ => ∃ v t b, vs = [v, .ref g] ∧ Rep H v t ∧ t.sz ≤ 100000 ∧ ((b = true ∧ Good kids t) ∨ (b = false ∧ Bad kids t)) ∧ ∀ H', Same H H' → Q (.bl b) H'
def spAllOf : Sp := fun vs H Q _ => ∃ x y, vs = [.str x, .str y] ∧ x.length ≤ 100000 ∧ ∀ H', Same H H' → Q (.bl (allS x y)) H'
end Fw
namespace Fw
open PySem PySem.Spec PyProof.Rows L2
def tyT : T → Value
  | .int _ => .type "int"
  | .str _ => .type "str"
  | .tup _ => .type "tuple"
def isStrT : T → Bool
  | .str _ => true
  | _ => false
def isTupT : T → Bool
  | .tup _ => true
  | _ => false
theorem rep_ty {K : PySem.W.Frag} {H : Hp} {v : V} {t : T} (r : Rep H v t) : TyOf K H v (tyT t) := by
  cases r with
  | int i => exact .int i
  | str x h => exact .str x
  | tup h q => exact .tup h
theorem kit_str (K : PySem.W.Frag) (t : T) : PySem.W.kitOne K (tyT t) (.type "str") = some (isStrT t) := by
  cases t with
  | int i => first | rfl | (with_unfolding_all rfl) | kernel_rfl
  | str x => first | rfl | (with_unfolding_all rfl) | kernel_rfl
  | tup l => first | rfl | (with_unfolding_all rfl) | kernel_rfl
theorem kit_tup (K : PySem.W.Frag) (t : T) : PySem.W.kitOne K (tyT t) (.type "tuple") = some (isTupT t) := by
  cases t with
  | int i => first | rfl | (with_unfolding_all rfl) | kernel_rfl
  | str x => first | rfl | (with_unfolding_all rfl) | kernel_rfl
  | tup l => first | rfl | (with_unfolding_all rfl) | kernel_rfl
/-- what of the text's names the defs ask -/
structure Gb (K : PySem.W.Frag) (mg : Str → Option Value) : Prop where
  len : mg "len" = none
  all : mg "all" = none
  isi : mg "isinstance" = none
  str : mg "str" = none
  tuple : mg "tuple" = none
  list : mg "list" = none
  range : mg "range" = none
  small : ∃ t, mg "SMALL_LETTERS" = some (.str smallS t)
  great : ∃ t, mg "GREAT_LETTERS" = some (.str greatS t)
  most : ∃ t, mg "MOST_LETTERS" = some (.int 8 t)
  kept : ∃ a, mg "KEPT" = some (.ref a) ∧ ∀ H, SqT K H a (keptL.map V.str)
theorem tt1 {σ : L2.St} {H : Hp} {Q : Bool → Hp → Prop} (h : Q true H) : tTrue σ H Q := h
theorem small {n : Nat} (h : n ≤ 1000000) : n ≤ sizeLine := Nat.le_trans h (by decide)
theorem small' {n : Nat} (h : n ≤ 1000000) : n < sizeLine := Nat.lt_of_le_of_lt h (by decide)
theorem eqV_str (a b : Str) : eqV (.str a) (.str b) = decide (a = b) := by
  show (a == b) = _
  rw [Bool.eq_iff_iff]
  simp
theorem inV_str (z : Str) : ∀ l : List Str, inV (.str z) (l.map V.str) = decide (z ∈ l)
  | [] => by simp [inV]
  | a :: r => by
    have ih := inV_str z r
    unfold inV at ih ⊢
    rw [List.map_cons, List.any_cons, ih, eqV_str, Bool.eq_iff_iff]
    simp only [Bool.or_eq_true, decide_eq_true_eq, List.mem_cons]
    constructor
    · rintro (h | h)
      · exact .inl h.symm
      · exact .inr h
    · rintro (h | h)
      · exact .inl h.symm
      · exact .inr h
theorem flat_strs : ∀ l : List Str, (l.map V.str).all flatV = true
  | [] => rfl
  | a :: r => by rw [List.map_cons, List.all_cons, flat_strs r]; rfl
end Fw

set_option Elab.async false
set_option linter.all false
set_option maxRecDepth 100000
namespace Fw
open PySem PySem.Spec PyProof.Rows L2
theorem qm_eq : (Str.ofString "?" : Str) = ⟨#[63]⟩ := by decide +kernel
theorem starts_qm (z : Str) : Txt.startswith z "?" = decide (z.cps.toList.head? = some 63) := by
  rw [qm_eq]
  unfold Txt.startswith
  obtain ⟨a⟩ := z
  obtain ⟨l⟩ := a
  cases l with
  | nil => rfl
  | cons c r =>
    simp [Builtin.Str.subAt, Str.length, Nat.all]
    rw [Bool.eq_iff_iff]
    simp
end Fw

set_option Elab.async false
set_option linter.all false
set_option maxRecDepth 100000
namespace Fw
open PySem PySem.Spec PyProof.Rows L2
/-! ### readings that come to one value, the heap but growing -/
def Ev (t : TE) (σ : L2.St) (H : Hp) (v : V) : Prop := ∀ Q : VK, (∀ H', Same H H' → Q v H') → t σ H Q
def Tst (t : TT) (σ : L2.St) (H : Hp) (c : Bool) : Prop := ∀ Q : Bool → Hp → Prop, (∀ H', Same H H' → Q c H') → t σ H Q
section
variable {ta tb tc : TE} {t u : TT} {σ : L2.St} {H : Hp} {v x y z : V} {c c1 c2 : Bool} {K : PySem.W.Frag}
theorem ev_var {i : Nat} (h : σ[i]? = some (some v)) : Ev (tVar i) σ H v := fun Q q => ⟨v, h, q H (Same.refl H)⟩
theorem ev_c : Ev (tC v) σ H v := fun Q q => q H (Same.refl H)
theorem ts_b (h : Ev ta σ H (.bl c)) : Tst (tB ta) σ H c := fun Q q => h _ fun H' e => ⟨c, rfl, q H' e⟩
theorem ts_t (h : Ev ta σ H (.bl c)) : Tst (tTest ta) σ H c := fun Q q => h _ fun H' e => ⟨c, rfl, q H' e⟩
theorem ts_and (h1 : Tst t σ H c1) (h2 : c1 = true → ∀ H', Same H H' → Tst u σ H' c2) : Tst (tAnd t u) σ H (c1 && c2) := fun Q q => h1 _ fun H' e => by
  cases c1 with
  | true => exact iteT (h2 rfl H' e Q fun H2 e2 => q H2 (e.trans e2))
  | false => exact iteF (q H' e)
theorem ts_or (h1 : Tst t σ H c1) (h2 : c1 = false → ∀ H', Same H H' → Tst u σ H' c2) : Tst (tOr t u) σ H (c1 || c2) := fun Q q => h1 _ fun H' e => by
  cases c1 with
  | false => exact iteF (h2 rfl H' e Q fun H2 e2 => q H2 (e.trans e2))
  | true => exact iteT (q H' e)
theorem ev_op {r : R2} (h1 : Ev ta σ H x) (h2 : ∀ H', Same H H' → Ev tb σ H' y) (h3 : ∀ H' Q, Same H H' → Q z H' → r x y H' Q) : Ev (tOp r ta tb) σ H z := fun Q q => h1 _ fun H1 e1 => h2 H1 e1 _ fun H2 e2 => h3 H2 Q (e1.trans e2) (q H2 (e1.trans e2))
/-- a test by a value, then the two ways -/
theorem st_if {tst : TT} {a b : TS} {D : Ends} (h : Tst tst σ H c) (h1 : c = true → ∀ H', Same H H' → a D σ H') (h2 : c = false → ∀ H', Same H H' → b D σ H') : tIfS tst a b D σ H := h _ fun H' e => by
  cases c with
  | true => exact iteT (h1 rfl H' e)
  | false => exact iteF (h2 rfl H' e)
/-- ints compared -/
theorem ev_eqI {i j : Int} (h1 : Ev ta σ H (.int i)) (h2 : ∀ H', Same H H' → Ev tb σ H' (.int j)) : Ev (tOp rEq ta tb) σ H (.bl (decide (i = j))) :=
  ev_op h1 h2 fun H' Q e q => ⟨rfl, by rw [dec_int, Bool.beq_eq_decide_eq]; exact q⟩
theorem ev_lenL {a : Addr} {vs : List V} (h : Ev ta σ H (.ref a)) (s : SqL K H a vs) : Ev (tCB (fun xs H Q => ∃ p ys, xs = [.ref p] ∧ (SqL K H p ys ∨ SqT K H p ys) ∧ Q (.int ys.length) H) (tCons ta tNil)) σ H (.int vs.length) :=
  fun Q q => h _ fun H' e => ⟨a, vs, rfl, .inl (e.seq s), q H' e⟩
theorem ev_isi {T' : String} {t : T} {f : T → Bool} (h : Ev ta σ H v) (r : Rep H v t) (hk : ∀ t, PySem.W.kitOne K (tyT t) (.type T') = some (f t)) :
    Ev (tCB (fun xs H Q => ∃ x t T b, xs = [x, .ty T] ∧ TyOf K H x t ∧ PySem.W.kitOne K t (.type T) = some b ∧ Q (.bl b) H) (tCons ta (tCons (tC (.ty T')) tNil))) σ H (.bl (f t)) :=
  fun Q q => h _ fun H' e => ⟨v, _, T', _, rfl, rep_ty (r.same e), hk t, q H' e⟩
theorem Same.both {H H1 H2 : Hp} (a : Same H H1) (b : Same H1 H2) : Same H H2 := a.trans b
end
end Fw

set_option Elab.async false
set_option linter.all false
set_option maxRecDepth 100000
namespace Fw
open PySem PySem.Spec PyProof.Rows L2
def top (i : Nat) : Stmt := PySem.Challenge.pw_facework_k19_put_and_put.main.body.getD i (.Pass ⟨0, 0, 0, 0⟩)
theorem at_any {α : Type} {xs : List α} {d : Int} (h0 : 0 ≤ d) (h1 : d < xs.length) : ∃ v, atI xs d = some v ∧ v ∈ xs := by
  have hd : d.toNat < xs.length := by omega
  refine ⟨xs[d.toNat], ?_, List.getElem_mem hd⟩
  have e : ((d.toNat : Nat) : Int) = d := by omega
  have q := atI_nat (xs := xs) (j := d.toNat) (v := xs[d.toNat]) (List.getElem?_eq_getElem hd)
  rw [e] at q
  exact q
/-! ### draws of a pot -/
abbrev kc : Key := Sum.inr "cells"
abbrev ka : Key := Sum.inr "at"
abbrev kd : Key := Sum.inr "digits"
abbrev kt : Key := Sum.inr "turn"
theorem keys_ne : kc ≠ ka ∧ kc ≠ kd ∧ kc ≠ kt ∧ ka ≠ kc ∧ ka ≠ kd ∧ ka ≠ kt ∧ kd ≠ kc ∧ kd ≠ ka ∧ kd ≠ kt ∧ kt ≠ kc ∧ kt ≠ ka ∧ kt ≠ kd := by decide +kernel
def potL (cl : Addr) (a d t : Int) : List (Key × V) := [(kc, .ref cl), (ka, .int a), (kd, .int d), (kt, .int t)]
section
variable {cl : Addr} {a d t : Int} {v : V}
theorem pot_c : valV (potL cl a d t) kc = some (.ref cl) := by simp [valV, potL]
theorem pot_a : valV (potL cl a d t) ka = some (.int a) := by
  obtain ⟨h1, h2, h3, h4, h5, h6, h7, h8, h9, h10, h11, h12⟩ := keys_ne
  simp only [valV, potL, List.find?_cons, decide_eq_false h1, decide_true]; rfl
theorem pot_d : valV (potL cl a d t) kd = some (.int d) := by
  obtain ⟨h1, h2, h3, h4, h5, h6, h7, h8, h9, h10, h11, h12⟩ := keys_ne
  simp only [valV, potL, List.find?_cons, decide_eq_false h2, decide_eq_false h5, decide_true]; rfl
theorem pot_t : valV (potL cl a d t) kt = some (.int t) := by
  obtain ⟨h1, h2, h3, h4, h5, h6, h7, h8, h9, h10, h11, h12⟩ := keys_ne
  simp only [valV, potL, List.find?_cons, decide_eq_false h3, decide_eq_false h6, decide_eq_false h9, decide_true]; rfl
theorem put_a {x : Int} : putK (potL cl a d t) ka (.int x) = potL cl x d t := by
  obtain ⟨h1, h2, h3, h4, h5, h6, h7, h8, h9, h10, h11, h12⟩ := keys_ne
  simp only [putK, potL, List.any_cons, List.map_cons, List.map_nil, decide_eq_false h1, decide_true, Bool.false_or, Bool.true_or, if_true, if_neg h1, if_neg h8, if_neg h11]
theorem put_d {x : Int} : putK (potL cl a d t) kd (.int x) = potL cl a x t := by
  obtain ⟨h1, h2, h3, h4, h5, h6, h7, h8, h9, h10, h11, h12⟩ := keys_ne
  simp only [putK, potL, List.any_cons, List.map_cons, List.map_nil, decide_eq_false h2, decide_eq_false h5, decide_true, Bool.false_or, Bool.true_or, if_true, if_neg h2, if_neg h5, if_neg h12]
theorem put_t {x : Int} : putK (potL cl a d t) kt (.int x) = potL cl a d x := by
  obtain ⟨h1, h2, h3, h4, h5, h6, h7, h8, h9, h10, h11, h12⟩ := keys_ne
  simp only [putK, potL, List.any_cons, List.map_cons, List.map_nil, decide_eq_false h3, decide_eq_false h6, decide_eq_false h9, decide_true, Bool.false_or, Bool.true_or, if_true, if_neg h3, if_neg h6, if_neg h9]
end
/-- a pot whose turn is at most n -/
def PotOk (H : Hp) (p cl : Addr) (n : Nat) : Prop := ∃ (cs : List Int) (a d t : Int), H p = some (.dK (potL cl a d t)) ∧ H cl = some (.lst (cs.map V.int)) ∧ cs.length ≤ 63 ∧ 0 ≤ a ∧ 0 ≤ d ∧ 0 ≤ t ∧ t ≤ n
structure GrowP (p cl : Addr) (n : Nat) (H H' : Hp) : Prop where
  keep : ∀ b o, b ≠ p → H b = some o → H' b = some o
  ok : PotOk H' p cl n
theorem PotOk.mono {H : Hp} {p cl : Addr} {m n : Nat} (h : PotOk H p cl m) (q : m ≤ n) : PotOk H p cl n := by
  obtain ⟨cs, a, d, t, h1, h2, h3, h4, h5, h6, h7⟩ := h
  exact ⟨cs, a, d, t, h1, h2, h3, h4, h5, h6, by omega⟩
theorem PotOk.same {H H' : Hp} {p cl : Addr} {n : Nat} (h : PotOk H p cl n) (e : Same H H') : PotOk H' p cl n := by
  obtain ⟨cs, a, d, t, h1, h2, h3⟩ := h
  exact ⟨cs, a, d, t, e _ _ h1, e _ _ h2, h3⟩
theorem GrowP.refl {p cl : Addr} {n : Nat} {H : Hp} (h : PotOk H p cl n) : GrowP p cl n H H := ⟨fun _ _ _ e => e, h⟩
theorem GrowP.trans {p cl : Addr} {m n : Nat} {H H1 H2 : Hp} (a : GrowP p cl m H H1) (b : GrowP p cl n H1 H2) : GrowP p cl n H H2 := ⟨fun c o h e => b.keep c o h (a.keep c o h e), b.ok⟩
def spMixed : Sp := fun vs H Q _ => ∃ (c t : Int), vs = [.int c, .int t] ∧ 0 ≤ t ∧ t ≤ 1000000000 ∧ ∀ i : Int, Q (.int i) H
def spPot (K : PySem.W.Frag) : Sp := fun vs H Q _ => ∃ (a : Addr) (ns : List Int), vs = [.ref a] ∧ SqL K H a (ns.map V.int) ∧ ∀ p cl H', Same H H' → H p = none → H cl = none → PotOk H' p cl 0 → Q (.ref p) H'
def spDraw : Sp := fun vs H Q _ => ∃ (p cl : Addr) (n : Nat) (m : Int), vs = [.ref p, .int m] ∧ PotOk H p cl n ∧ n < 1000000000 ∧ 0 < m ∧ m < 1000000 ∧ ∀ (d : Int) H', 0 ≤ d → d < m → GrowP p cl (n + 1) H H' → Q (.int d) H'
section
variable {P : Program} {w : World} {K : PySem.W.Frag} {mg : Str → Option Value} {base : Heap} {f : Addr} {fd : FuncData}
abbrev s_mixed : Stmt := top 9
abbrev s_pot : Stmt := top 10
abbrev s_draw : Stmt := top 11
theorem sc_mixed : FnScope ["_law_cell", "_law_turn", "_law_once"] ["_law_cell", "_law_turn"] (defScope s_mixed) := ⟨rfl, rfl, rfl, by decide +kernel, rfl, by decide +kernel, by decide +kernel⟩
theorem ok_mixed (F : Fun K "_law_mixed" "_law_mixed" s_mixed f fd) : FnOk P w K mg base CX0 1 f fd ["_law_cell", "_law_turn"] spMixed := by
  refine F.ok sc_mixed (fun vs H Q E h => ?_) (fun cdv A outer s H vs Q E hr h => ?_)
  · obtain ⟨c, t, rfl, _⟩ := h
    rfl
  obtain ⟨c, t, rfl, t0, t1, q⟩ := h
  refine ⟨_, pss_cons (ps_set (i := 2) sc_mixed.nd rfl (Or.inl rfl) (pe_op op_mod (pe_op op_mul (pe_op op_add (pe_op op_add (pe_op op_mod (pv 0) pe_int) (pe_op op_mul (pe_op op_mul (pv 1) (pv 1)) pe_int)) pe_int) pe_int) pe_int))
    (pss_one (ps_ret (pe_op op_fdiv (pe_op op_mod (pe_op op_mul (pe_op op_add (pe_op op_add (pe_op op_fdiv (pv 2) pe_int) (pe_op op_mul (pv 1) pe_int)) pe_int) pe_int) pe_int) pe_int))), ?_⟩
  refine ⟨_, rfl, _, _, rfl, rfl, (by show (0 : Int) < 2147483647; decide), _, rfl, _, rfl, t, t, rfl, rfl, .inl ⟨by omega, by omega⟩, _, _, rfl, rfl, .inr ⟨by decide, by decide⟩, _, _, rfl, rfl, _, _, rfl, rfl, _, _, rfl, rfl, .inr ⟨by decide, by decide⟩, _, _, rfl, rfl, (by show (0 : Int) < 2147483647; decide), ?_⟩
  exact ⟨_, rfl, _, _, rfl, rfl, ⟨by decide, by decide⟩, _, rfl, _, _, rfl, rfl, .inr ⟨by decide, by decide⟩, _, _, rfl, rfl, _, _, rfl, rfl, _, _, rfl, rfl, .inr ⟨by decide, by decide⟩, _, _, rfl, rfl, (by show (0 : Int) < 2147483629; decide), _, _, rfl, rfl, ⟨by decide, by decide⟩, q _⟩
theorem sc_pot : FnScope ["_law_script"] ["_law_script"] (defScope s_pot) := ⟨rfl, rfl, rfl, by decide +kernel, rfl, by decide +kernel, by decide +kernel⟩
theorem ok_pot (F : Fun K "_law_pot" "_law_pot" s_pot f fd) (mt : mg "list" = none) : FnOk P w K mg base CX0 1 f fd ["_law_script"] (spPot K) := by
  refine F.ok sc_pot (fun vs H Q E h => ?_) (fun cdv A outer s H vs Q E hr h => ?_)
  · obtain ⟨a, ns, rfl, _⟩ := h
    rfl
  obtain ⟨a, ns, rfl, hS, q⟩ := h
  refine ⟨_, pss_one (ps_ret (pe_disp (pps_cons pe_str (pe_callTy call_list_of rfl mt boot_list (pa_cons (pe_slice sl_list (pv 0) po_none (po_some pe_int)) pa_nil)) (pps_cons pe_str pe_int (pps_cons pe_str pe_int (pps_cons pe_str pe_int pps_nil)))) rfl rfl (by simp) (by decide))), ?_⟩
  intro p hp
  have e1 := same_new hp (.dK [])
  refine ⟨_, rfl, 63, rfl, a, _, rfl, e1.seq hS, fun c hc => ?_⟩
  have e2 := same_new hc (.lst (cutV (ns.map V.int) none (some 63)))
  refine ⟨c, _, rfl, .inl (SqL.of upd_same), fun l hl => ?_⟩
  have e3 := same_new hl (.lst (cutV (ns.map V.int) none (some 63)))
  have cut : ∃ cs : List Int, cutV (ns.map V.int) none (some 63) = cs.map V.int ∧ cs.length ≤ 63 := by
    refine ⟨ns.take 63, ?_, by rw [List.length_take]; omega⟩
    have hx : cutV (ns.map V.int) none (some (63 : Nat)) = (ns.take 63).map V.int := by
      unfold cutV
      rw [HT.sIx_none, HT.sIx_nat, List.drop_zero, Nat.sub_zero, List.map_take]
      rw [List.length_map]
      by_cases h : 63 ≤ ns.length
      · rw [Nat.min_eq_left h]
      · rw [Nat.min_eq_right (by omega), List.take_of_length_le (by simp), List.take_of_length_le (by simp; omega)]
    exact hx
  obtain ⟨cs, hcs, lcs⟩ := cut
  refine ⟨(e2.trans e3) _ _ upd_same, [(kc, .ref l), (ka, .int 0), (kd, .int 0), (kt, .int 0)], rfl, (by show 4 ≤ 15; decide), ?_⟩
  have em : mergeK [] [(kc, .ref l), (ka, .int 0), (kd, .int 0), (kt, .int 0)] = potL l 0 0 0 := by
    obtain ⟨h1, h2, h3, h4, h5, h6, h7, h8, h9, h10, h11, h12⟩ := keys_ne
    simp only [mergeK, putK, potL, List.foldl_cons, List.foldl_nil, List.any_nil, List.any_cons, Bool.false_eq_true, if_false, List.nil_append, List.cons_append, decide_eq_false h1, decide_eq_false h2, decide_eq_false h3, decide_eq_false h5, decide_eq_false h6, decide_eq_false h9, Bool.or_false, Bool.false_or]
  have hlp : l ≠ p := fun e => by
    have := (e2 _ _ (upd_same (H := H) (a := p) (o := HO.dK [])))
    rw [e] at hl
    rw [this] at hl
    cases hl
  refine q p l _ (fun b o hb => ?_) hp ((e1.trans e2).free hl) ⟨cs, 0, 0, 0, by rw [em]; exact upd_same, ?_, lcs, by decide, by decide, by decide, by decide⟩
  · rw [upd_ne (ne_of_none hb hp)]
    exact ((e1.trans e2).trans e3) b o hb
  · rw [upd_ne hlp, upd_same, hcs]
theorem sc_draw : FnScope ["_law_pot_here", "_law_many", "_law_cell", "_law_one"] ["_law_pot_here", "_law_many"] (defScope s_draw) := ⟨rfl, rfl, rfl, by decide +kernel, rfl, by decide +kernel, by decide +kernel⟩
set_option maxHeartbeats 1000000 in
theorem ok_draw (F : Fun K "_law_draw" "_law_draw" s_draw f fd) (ml : mg "len" = none) (h1 : Has P w K mg base 1 "_law_mixed" ["_law_cell", "_law_turn"] spMixed) : FnOk P w K mg base CX0 2 f fd ["_law_pot_here", "_law_many"] spDraw := by
  refine F.ok sc_draw (fun vs H Q E h => ?_) (fun cdv A outer s H vs Q E hr h => ?_)
  · obtain ⟨p, cl, n, m, rfl, _⟩ := h
    rfl
  obtain ⟨p, cl, n, m, rfl, ⟨cs, a, d, t, hp, hcl, lcs, a0, d0, t0, t1⟩, hn, m0, m1, q⟩ := h
  have ne : cl ≠ p := ne_of hcl hp (by intro z; cases z)
  have gc : ∀ (H : Hp) (a d t : Int), H p = some (.dK (potL cl a d t)) → DGet H p (.str "cells") (some (.ref cl)) := fun H a d t e => by have := DGet.k (k := kc) e; rw [pot_c] at this; exact this
  have ga : ∀ (H : Hp) (a d t : Int), H p = some (.dK (potL cl a d t)) → DGet H p (.str "at") (some (.int a)) := fun H a d t e => by have := DGet.k (k := ka) e; rw [pot_a] at this; exact this
  have gd : ∀ (H : Hp) (a d t : Int), H p = some (.dK (potL cl a d t)) → DGet H p (.str "digits") (some (.int d)) := fun H a d t e => by have := DGet.k (k := kd) e; rw [pot_d] at this; exact this
  have gt : ∀ (H : Hp) (a d t : Int), H p = some (.dK (potL cl a d t)) → DGet H p (.str "turn") (some (.int t)) := fun H a d t e => by have := DGet.k (k := kt) e; rw [pot_t] at this; exact this
  have pa : ∀ (H : Hp) (a d t x : Int), H p = some (.dK (potL cl a d t)) → DPut H p (.str "at") (.int x) (upd H p (.dK (potL cl x d t))) := fun H a d t x e => by have := DPut.k (k := ka) (v := .int x) e (by show 4 < sizeLine; decide); rw [put_a] at this; exact this
  have pd : ∀ (H : Hp) (a d t x : Int), H p = some (.dK (potL cl a d t)) → DPut H p (.str "digits") (.int x) (upd H p (.dK (potL cl a x t))) := fun H a d t x e => by have := DPut.k (k := kd) (v := .int x) e (by show 4 < sizeLine; decide); rw [put_d] at this; exact this
  have pt : ∀ (H : Hp) (a d t x : Int), H p = some (.dK (potL cl a d t)) → DPut H p (.str "turn") (.int x) (upd H p (.dK (potL cl a d x))) := fun H a d t x e => by have := DPut.k (k := kt) (v := .int x) e (by show 4 < sizeLine; decide); rw [put_t] at this; exact this
  have hu := hu_of hr
  refine ⟨_, pss_cons (ps_dput hu (pv 0) pe_str (pe_op op_add (pe_dget hu (pv 0) pe_str (fun _ _ => rfl)) pe_int) rfl)
    (pss_cons (ps_if (pt_cmpR op_eq (pe_dget hu (pv 0) pe_str (fun _ _ => rfl)) pe_int (nomark _))
      (pss_cons (ps_set (i := 2) sc_draw.nd rfl (Or.inl rfl) pe_int)
      (pss_cons (ps_if (pt_cmpR op_gt (pe_callB call_len_seq rfl ml PySem.boot_len (pa_cons (pe_dget hu (pv 0) pe_str (fun _ _ => rfl)) pa_nil)) pe_int (nomark _))
        (pss_cons (ps_set (i := 2) sc_draw.nd rfl (Or.inl rfl) (pe_ix ix_list (pe_dget hu (pv 0) pe_str (fun _ _ => rfl)) (pe_op op_mod (pe_dget hu (pv 0) pe_str (fun _ _ => rfl)) (pe_callB call_len_seq rfl ml PySem.boot_len (pa_cons (pe_dget hu (pv 0) pe_str (fun _ _ => rfl)) pa_nil))) (fun _ _ => rfl)))
        (pss_one (ps_dput hu (pv 0) pe_str (pe_op op_add (pe_dget hu (pv 0) pe_str (fun _ _ => rfl)) pe_int) rfl))) pss_nil)
      (pss_cons (ps_if (pt_cmpR op_lt (pv 2) (pe_op op_pow pe_int pe_int) (nomark _)) (pss_one (ps_ret (pe_op op_mod (pcall h1 hr (by decide) rfl (pa_cons (pv 2) (pa_cons (pe_dget hu (pv 0) pe_str (fun _ _ => rfl)) pa_nil))) (pv 1)))) pss_nil)
      (pss_one (ps_dput hu (pv 0) pe_str (pv 2) rfl))))) pss_nil)
    (pss_cons (ps_set (i := 3) sc_draw.nd rfl (Or.inl rfl) (pe_op op_mod (pe_dget hu (pv 0) pe_str (fun _ _ => rfl)) (pv 1)))
    (pss_cons (ps_dput hu (pv 0) pe_str (pe_op op_fdiv (pe_dget hu (pv 0) pe_str (fun _ _ => rfl)) (pv 1)) rfl)
    (pss_one (ps_ret (pv 3)))))), ?_⟩
  refine ⟨_, rfl, p, _, rfl, gt H _ _ _ hp, t, 1, rfl, rfl, _, rfl, p, _, rfl, pt H _ _ _ (t + 1) hp, ?_⟩
  have hp1 : (upd H p (.dK (potL cl a d (t + 1)))) p = some (.dK (potL cl a d (t + 1))) := upd_same
  have hcl1 : (upd H p (.dK (potL cl a d (t + 1)))) cl = some (.lst (cs.map V.int)) := by rw [upd_ne ne]; exact hcl
  have keep1 : ∀ b o, b ≠ p → H b = some o → (upd H p (.dK (potL cl a d (t + 1)))) b = some o := fun b o hb e => by rw [upd_ne hb]; exact e
  revert hp1 hcl1 keep1
  generalize upd H p (.dK (potL cl a d (t + 1))) = H1
  intro hp1 hcl1 keep1
  refine ⟨_, rfl, p, _, rfl, gd H1 _ _ _ hp1, rfl, _, rfl, ?_⟩
  refine ite2 (fun c1 => ?_) (fun c1 => ?_)
  · refine ⟨_, rfl, p, _, rfl, gc H1 _ _ _ hp1, cl, _, rfl, .inl (SqL.of hcl1), _, _, rfl, rfl, _, rfl, ?_⟩
    refine ite2 (fun c2 => ?_) (fun c2 => ?_)
    · have l0 : (0 : Int) < ((cs.map V.int).length : Nat) := of_decide_eq_true c2
      have i0 := Int.emod_nonneg a (b := ((cs.map V.int).length : Nat)) (by omega)
      have i1 := Int.emod_lt_of_pos a l0
      obtain ⟨v, hv, hm⟩ := at_any (xs := cs.map V.int) i0 i1
      obtain ⟨c, _, rfl⟩ := List.mem_map.mp hm
      refine ⟨_, rfl, p, _, rfl, gc H1 _ _ _ hp1, _, rfl, p, _, rfl, ga H1 _ _ _ hp1, _, rfl, p, _, rfl, gc H1 _ _ _ hp1, cl, _, rfl, .inl (SqL.of hcl1), a, _, rfl, rfl, l0, cl, _, _, .int c, rfl, rfl, SqL.of hcl1, hv, ?_⟩
      refine ⟨_, rfl, p, _, rfl, ga H1 _ _ _ hp1, a, 1, rfl, rfl, _, rfl, p, _, rfl, pa H1 _ _ _ (a + 1) hp1, ?_⟩
      have hp2 : (upd H1 p (.dK (potL cl (a + 1) d (t + 1)))) p = some (.dK (potL cl (a + 1) d (t + 1))) := upd_same
      have hcl2 : (upd H1 p (.dK (potL cl (a + 1) d (t + 1)))) cl = some (.lst (cs.map V.int)) := by rw [upd_ne ne]; exact hcl1
      have keep2 : ∀ b o, b ≠ p → H b = some o → (upd H1 p (.dK (potL cl (a + 1) d (t + 1)))) b = some o := fun b o hb e => by rw [upd_ne hb]; exact keep1 b o hb e
      have a20 : 0 ≤ a + 1 := by omega
      revert hp2 hcl2 keep2 a20
      generalize upd H1 p (.dK (potL cl (a + 1) d (t + 1))) = H2
      generalize a + 1 = a2
      intro hp2 hcl2 keep2 a20
      refine ⟨_, rfl, _, _, rfl, rfl, ⟨by decide, by decide, by decide⟩, _, _, rfl, rfl, _, rfl, ?_⟩
      refine ite2 (fun c3 => ?_) (fun c3 => ?_)
      · refine ⟨_, rfl, _, rfl, p, _, rfl, gt H2 _ _ _ hp2, c, t + 1, rfl, by omega, by omega, fun i => ⟨_, rfl, i, m, rfl, rfl, m0, ?_⟩⟩
        exact q (i % m) H2 (Int.emod_nonneg _ (by omega)) (Int.emod_lt_of_pos _ m0) ⟨keep2, cs, a2, d, t + 1, hp2, hcl2, lcs, a20, d0, by omega, by omega⟩
      have c4 : ¬ c < 10 ^ 18 := of_decide_eq_false (Bool.eq_false_iff.mpr c3)
      refine ⟨_, rfl, _, rfl, p, _, rfl, pd H2 _ _ _ c hp2, ?_⟩
      have hp3 : (upd H2 p (.dK (potL cl a2 c (t + 1)))) p = some (.dK (potL cl a2 c (t + 1))) := upd_same
      have hcl3 : (upd H2 p (.dK (potL cl a2 c (t + 1)))) cl = some (.lst (cs.map V.int)) := by rw [upd_ne ne]; exact hcl2
      have keep3 : ∀ b o, b ≠ p → H b = some o → (upd H2 p (.dK (potL cl a2 c (t + 1)))) b = some o := fun b o hb e => by rw [upd_ne hb]; exact keep2 b o hb e
      have d30 : 0 ≤ c := by omega
      have a30 := a20
      revert hp3 hcl3 keep3 d30 a30
      generalize upd H2 p (.dK (potL cl a2 c (t + 1))) = H3
      intro hp3 hcl3 keep3 d30 a30
      refine ⟨_, rfl, p, _, rfl, gd H3 _ _ _ hp3, _, rfl, c, m, rfl, rfl, m0, ?_⟩
      refine ⟨_, rfl, p, _, rfl, gd H3 _ _ _ hp3, _, rfl, c, m, rfl, rfl, ⟨m0, by omega⟩, _, rfl, p, _, rfl, pd H3 _ _ _ _ hp3, ?_⟩
      refine ⟨_, rfl, q (c % m) _ (Int.emod_nonneg _ (by omega)) (Int.emod_lt_of_pos _ m0) ⟨fun b o hb e => by rw [upd_ne hb]; exact keep3 b o hb e, cs, a2, c / m, t + 1, upd_same, by rw [upd_ne ne]; exact hcl3, lcs, a30, Int.ediv_nonneg d30 (by omega), by omega, by omega⟩⟩
    · have hp2 := hp1
      have hcl2 := hcl1
      have keep2 := keep1
      have a20 := a0
      revert hp2 hcl2 keep2 a20
      generalize H1 = H2
      generalize a = a2
      intro hp2 hcl2 keep2 a20
      obtain ⟨c, ec⟩ : ∃ c : Int, c = 0 := ⟨0, rfl⟩
      refine ⟨_, rfl, _, _, rfl, rfl, ⟨by decide, by decide, by decide⟩, 0, _, rfl, rfl, _, rfl, ?_⟩
      refine ite2 (fun c3 => ?_) (fun c3 => ?_)
      · refine ⟨_, rfl, _, rfl, p, _, rfl, gt H2 _ _ _ hp2, 0, t + 1, rfl, by omega, by omega, fun i => ⟨_, rfl, i, m, rfl, rfl, m0, ?_⟩⟩
        exact q (i % m) H2 (Int.emod_nonneg _ (by omega)) (Int.emod_lt_of_pos _ m0) ⟨keep2, cs, a2, d, t + 1, hp2, hcl2, lcs, a20, d0, by omega, by omega⟩
      have c4 : ¬ (0 : Int) < 10 ^ 18 := of_decide_eq_false (Bool.eq_false_iff.mpr c3)
      refine ⟨_, rfl, _, rfl, p, _, rfl, pd H2 _ _ _ 0 hp2, ?_⟩
      have hp3 : (upd H2 p (.dK (potL cl a2 0 (t + 1)))) p = some (.dK (potL cl a2 0 (t + 1))) := upd_same
      have hcl3 : (upd H2 p (.dK (potL cl a2 0 (t + 1)))) cl = some (.lst (cs.map V.int)) := by rw [upd_ne ne]; exact hcl2
      have keep3 : ∀ b o, b ≠ p → H b = some o → (upd H2 p (.dK (potL cl a2 0 (t + 1)))) b = some o := fun b o hb e => by rw [upd_ne hb]; exact keep2 b o hb e
      have d30 : (0 : Int) ≤ 0 := by omega
      have a30 := a20
      revert hp3 hcl3 keep3 d30 a30
      generalize upd H2 p (.dK (potL cl a2 0 (t + 1))) = H3
      intro hp3 hcl3 keep3 d30 a30
      refine ⟨_, rfl, p, _, rfl, gd H3 _ _ _ hp3, _, rfl, 0, m, rfl, rfl, m0, ?_⟩
      refine ⟨_, rfl, p, _, rfl, gd H3 _ _ _ hp3, _, rfl, 0, m, rfl, rfl, ⟨m0, by omega⟩, _, rfl, p, _, rfl, pd H3 _ _ _ _ hp3, ?_⟩
      refine ⟨_, rfl, q (0 % m) _ (Int.emod_nonneg _ (by omega)) (Int.emod_lt_of_pos _ m0) ⟨fun b o hb e => by rw [upd_ne hb]; exact keep3 b o hb e, cs, a2, 0 / m, t + 1, upd_same, by rw [upd_ne ne]; exact hcl3, lcs, a30, Int.ediv_nonneg d30 (by omega), by omega, by omega⟩⟩
  · have H3 := H1
    have hp3 := hp1
    have hcl3 := hcl1
    have keep3 := keep1
    have d30 := d0
    have a30 := a0
    clear H3
    revert hp3 hcl3 keep3
    generalize H1 = H3
    intro hp3 hcl3 keep3
    refine ⟨_, rfl, p, _, rfl, gd H3 _ _ _ hp3, _, rfl, d, m, rfl, rfl, m0, ?_⟩
    refine ⟨_, rfl, p, _, rfl, gd H3 _ _ _ hp3, _, rfl, d, m, rfl, rfl, ⟨m0, by omega⟩, _, rfl, p, _, rfl, pd H3 _ _ _ _ hp3, ?_⟩
    refine ⟨_, rfl, q (d % m) _ (Int.emod_nonneg _ (by omega)) (Int.emod_lt_of_pos _ m0) ⟨fun b o hb e => by rw [upd_ne hb]; exact keep3 b o hb e, cs, a, d / m, t + 1, upd_same, by rw [upd_ne ne]; exact hcl3, lcs, a30, Int.ediv_nonneg d30 (by omega), by omega, by omega⟩⟩
end
end Fw

set_option Elab.async false
set_option linter.all false
set_option maxRecDepth 100000
namespace Fw
open PySem PySem.Spec PyProof.Rows L2
/-! ### words of a pot -/
theorem at_sm {d : Int} (h0 : 0 ≤ d) (h1 : d < 26) : ∃ c, atI smallS.cps.toList d = some c ∧ c ∈ smallS.cps.toList := at_any h0 (by rw [len_toList, smallS_len]; exact h1)
theorem at_gr {d : Int} (h0 : 0 ≤ d) (h1 : d < 26) : ∃ c, atI greatS.cps.toList d = some c ∧ c ∈ greatS.cps.toList := at_any h0 (by rw [len_toList, greatS_len]; exact h1)
theorem slice_mem {x : Str} {l u : Option Int} {c : Nat} (h : c ∈ (Txt.slice x l u).cps.toList) : c ∈ x.cps.toList := by
  unfold Txt.slice at h
  split at h
  · exact h
  · simp only [List.mem_filterMap] at h
    obtain ⟨i, _, hi⟩ := h
    exact Array.mem_toList_iff.mpr (Array.mem_of_getElem? hi)
def Lets (z : Str) : Prop := ∀ c ∈ z.cps.toList, 97 ≤ c ∧ c ≤ 122
theorem Lets.app {a b : Str} (ha : Lets a) (hb : Lets b) : Lets (a ++ b) := fun c hc => by
  rw [cps_app] at hc
  rcases List.mem_append.mp hc with h | h
  · exact ha c h
  · exact hb c h
theorem Lets.slice {a : Str} (ha : Lets a) (l u : Option Int) : Lets (Txt.slice a l u) := fun c hc => ha c (slice_mem hc)
theorem Lets.one {c : Nat} (h : c ∈ smallS.cps.toList) : Lets ⟨#[c]⟩ := fun d hd => by
  have e : d = c := by simpa using hd
  subst e
  exact small_range (decide_eq_true h)
theorem Lets.rep {a : Str} (ha : Lets a) (k : Nat) : Lets (repS k a) := fun c hc => by
  rw [repS_list] at hc
  obtain ⟨l, h1, h2⟩ := List.mem_flatten.mp hc
  rw [(List.mem_replicate.mp h1).2] at h2
  exact ha c h2
theorem lets_q : Lets "q" := by
  have : ∀ c ∈ ("q" : Str).cps.toList, 97 ≤ c ∧ c ≤ 122 := by decide +kernel
  exact this
theorem one_len (c : Nat) : (⟨#[c]⟩ : Str).length = 1 := rfl
def spPWord : Sp := fun vs H Q _ => ∃ (p cl : Addr) (n : Nat), vs = [.ref p] ∧ PotOk H p cl n ∧ n + 4 ≤ 1000000000 ∧ ∀ (z : Str) H', Lets z → 1 ≤ z.length → z.length ≤ 20 → GrowP p cl (n + 4) H H' → Q (.str z) H'
section
variable {P : Program} {w : World} {K : PySem.W.Frag} {mg : Str → Option Value} {base : Heap} {f : Addr} {fd : FuncData}
abbrev s_word : Stmt := top 12
abbrev s_head : Stmt := top 13
abbrev s_leaf : Stmt := top 14
theorem sc_word : FnScope ["_law_pot_here", "_law_letters", "_law_size", "_law_stem", "_law_at"] ["_law_pot_here"] (defScope s_word) := ⟨rfl, rfl, rfl, by decide +kernel, rfl, by decide +kernel, by decide +kernel⟩
theorem ok_word (F : Fun K "_law_word" "_law_word" s_word f fd) (h1 : Has P w K mg base 2 "_law_draw" ["_law_pot_here", "_law_many"] spDraw) : FnOk P w K mg base CX0 3 f fd ["_law_pot_here"] spPWord := by
  refine F.ok sc_word (fun vs H Q E h => ?_) (fun cdv A outer s H vs Q E hr h => ?_)
  · obtain ⟨p, cl, n, rfl, _⟩ := h
    rfl
  obtain ⟨p, cl, n, rfl, hp, hn, q⟩ := h
  refine ⟨_, pss_cons (ps_set (i := 1) sc_word.nd rfl (Or.inl rfl) pe_str)
    (pss_cons (ps_set (i := 2) sc_word.nd rfl (Or.inl rfl) (pcall h1 hr (by decide) rfl (pa_cons (pv 0) (pa_cons pe_int pa_nil))))
    (pss_cons (ps_set (i := 3) sc_word.nd rfl (Or.inl rfl) (pe_op op_mulS (pe_ix ix_str (pv 1) (pcall h1 hr (by decide) rfl (pa_cons (pv 0) (pa_cons pe_int pa_nil))) (fun _ _ => rfl)) (pv 2)))
    (pss_cons (ps_set (i := 4) sc_word.nd rfl (Or.inl rfl) (pcall h1 hr (by decide) rfl (pa_cons (pv 0) (pa_cons (pe_op op_add (pv 2) pe_int) pa_nil))))
    (pss_one (ps_ret (pe_op op_add_str (pe_op op_add_str (pe_op op_add_str (pe_slice sl_str (pv 3) po_none (po_some (pv 4))) (pe_ix ix_str (pv 1) (pcall h1 hr (by decide) rfl (pa_cons (pv 0) (pa_cons pe_int pa_nil))) (fun _ _ => rfl))) (pe_slice sl_str (pv 3) (po_some (pv 4)) po_none)) pe_str)))))), ?_⟩
  have sl : smallS.length ≤ 1000000 := by rw [smallS_len]; decide
  refine ⟨_, rfl, p, cl, n, 7, rfl, hp, by omega, by decide, by decide, fun d H1 d0 d1 g1 => ?_⟩
  refine ⟨_, rfl, _, rfl, p, cl, n + 1, 26, rfl, g1.ok, by omega, by decide, by decide, fun e H2 e0 e1 g2 => ?_⟩
  obtain ⟨c, hc, hm⟩ := at_sm e0 e1
  refine ⟨smallS, e, c, rfl, rfl, small sl, hc, _, rfl, ⟨#[c]⟩, d.toNat, rfl, (by rw [show ((d.toNat : Nat) : Int) = d by omega]), (by rw [one_len]; omega), by omega, ?_⟩
  have hst : Lets (repS d.toNat ⟨#[c]⟩) := (Lets.one hm).rep _
  have lst : (repS d.toNat ⟨#[c]⟩).length ≤ 6 := by rw [repS_len, one_len]; omega
  refine ⟨_, rfl, _, rfl, d, 1, rfl, rfl, p, cl, n + 2, d + 1, rfl, g2.ok, by omega, by omega, by omega, fun a H3 a0 a1 g3 => ?_⟩
  have l1 := Txt.slice_le (repS d.toNat ⟨#[c]⟩) none (some a)
  have l2 := Txt.slice_le (repS d.toNat ⟨#[c]⟩) (some a) none
  refine ⟨_, rfl, _, rfl, a, rfl, _, rfl, small (by omega), ?_⟩
  refine ⟨_, rfl, _, rfl, p, cl, n + 3, 26, rfl, g3.ok, by omega, by decide, by decide, fun e' H4 e0' e1' g4 => ?_⟩
  obtain ⟨c', hc', hm'⟩ := at_sm e0' e1'
  refine ⟨smallS, e', c', rfl, rfl, small sl, hc', _, _, rfl, rfl, small (by rw [one_len]; omega), ?_⟩
  have l3 : (Txt.slice (repS d.toNat ⟨#[c]⟩) none (some a) ++ (⟨#[c']⟩ : Str)).length = (Txt.slice (repS d.toNat ⟨#[c]⟩) none (some a)).length + 1 := by rw [len_app, one_len]
  refine ⟨_, rfl, _, rfl, a, rfl, _, rfl, small (by omega), _, _, rfl, rfl, small (by omega), ?_⟩
  have lq : ("q" : Str).length = 1 := by decide +kernel
  refine ⟨_, _, rfl, rfl, small (by rw [len_app, l3, lq]; omega), ?_⟩
  refine q _ H4 (((hst.slice _ _).app (Lets.one hm')).app (hst.slice _ _) |>.app lets_q) ?_ ?_ ((((g1.trans g2).trans g3).trans g4))
  · rw [len_app, lq]; omega
  · rw [len_app, len_app, l3, lq]; omega
end
end Fw

set_option Elab.async false
set_option linter.all false
set_option maxRecDepth 100000
namespace Fw
open PySem PySem.Spec PyProof.Rows L2
theorem growP_same {p cl : Addr} {n : Nat} {H H' : Hp} (h : PotOk H p cl n) (e : Same H H') : GrowP p cl n H H' := ⟨fun b o _ q => e b o q, h.same e⟩
theorem GrowP.up {p cl : Addr} {m n : Nat} {H H' : Hp} (g : GrowP p cl m H H') (q : m ≤ n) : GrowP p cl n H H' := ⟨g.keep, g.ok.mono q⟩
theorem GrowP.tups {p cl : Addr} {m n : Nat} {H H' : Hp} (g : GrowP p cl n H H') (h : PotOk H p cl m) : ∀ b xs, H b = some (.tup xs) → H' b = some (.tup xs) := fun b xs e => g.keep b _ (by
  obtain ⟨cs, a, d, t, h1, _⟩ := h
  exact ne_of e h1 (by intro z; cases z)) e
theorem Rep.growP {p cl : Addr} {m n : Nat} {H H' : Hp} {v : V} {t : T} (r : Rep H v t) (g : GrowP p cl n H H') (h : PotOk H p cl m) : Rep H' v t := r.mono (g.tups h)
theorem Reps.growP {p cl : Addr} {m n : Nat} {H H' : Hp} {vs : List V} {ts : List T} (r : Reps H vs ts) (g : GrowP p cl n H H') (h : PotOk H p cl m) : Reps H' vs ts := r.mono (g.tups h)
/-- a text that begins otherwise than with ?, one that begins with it -/
def NQ (z : Str) : Prop := z.cps.toList.head? ≠ some 63 ∧ z.length ≤ 60
def QQ (z : Str) : Prop := z.cps.toList.head? = some 63 ∧ z.length ≤ 60
theorem head_app {a b : Str} (h : 1 ≤ a.length) : (a ++ b).cps.toList.head? = a.cps.toList.head? := by
  rw [cps_app]
  have : a.cps.toList ≠ [] := fun e => by
    have l := len_toList a
    rw [e] at l
    simp at l
    omega
  cases h' : a.cps.toList with
  | nil => exact absurd h' this
  | cons x y => rfl
theorem lets_nq {z : Str} (h : Lets z) (hl : z.length ≤ 60) : NQ z := by
  refine ⟨fun e => ?_, hl⟩
  have := h 63 (List.mem_of_mem_head? (by rw [e]; rfl))
  omega
theorem qmark : ("?" : Str).length = 1 ∧ ("?" : Str).cps.toList.head? = some 63 := by decide +kernel
theorem q_qq {z : Str} (hl : z.length ≤ 50) : QQ ("?" ++ z) := ⟨by rw [head_app (by rw [qmark.1]; exact Nat.le_refl 1)]; exact qmark.2, by rw [len_app, qmark.1]; omega⟩
theorem num_text : ∀ k : Fin 30, (Str.ofString (toString ((k.val : Nat) : Int))).length ≤ 5 ∧ (((k.val : Nat) : Int)).natAbs.log2 < 1920 := by decide +kernel
def oddL : List Str := ["?", "??", "? ", "?->", "?(num", "?A.b"]
theorem odd_qq : ∀ z ∈ oddL, QQ z := by
  have : ∀ z ∈ oddL, z.cps.toList.head? = some 63 ∧ z.length ≤ 60 := by decide +kernel
  exact this
def spPHead : Sp := fun vs H Q _ => ∃ (p cl : Addr) (n : Nat), vs = [.ref p] ∧ PotOk H p cl n ∧ n + 11 ≤ 1000000000 ∧ ∀ (a : Addr) (z : Str) (k : Int) H', NQ z → 0 ≤ k → k < 4 → H' a = some (.tup [.str z, .int k]) → GrowP p cl (n + 11) H H' → Q (.ref a) H'
def spPLeaf : Sp := fun vs H Q _ => ∃ (p cl : Addr) (n : Nat), vs = [.ref p] ∧ PotOk H p cl n ∧ n + 5 ≤ 1000000000 ∧ ∀ (z : Str) H', QQ z → GrowP p cl (n + 5) H H' → Q (.str z) H'
section
variable {P : Program} {w : World} {K : PySem.W.Frag} {mg : Str → Option Value} {base : Heap} {f : Addr} {fd : FuncData}
theorem sc_head : FnScope ["_law_pot_here", "_law_word_here"] ["_law_pot_here"] (defScope s_head) := ⟨rfl, rfl, rfl, by decide +kernel, rfl, by decide +kernel, by decide +kernel⟩
theorem ok_head (F : Fun K "_law_head" "_law_head" s_head f fd) (h1 : Has P w K mg base 2 "_law_draw" ["_law_pot_here", "_law_many"] spDraw) (h2 : Has P w K mg base 3 "_law_word" ["_law_pot_here"] spPWord) : FnOk P w K mg base CX0 4 f fd ["_law_pot_here"] spPHead := by
  refine F.ok sc_head (fun vs H Q E h => ?_) (fun cdv A outer s H vs Q E hr h => ?_)
  · obtain ⟨p, cl, n, rfl, _⟩ := h
    rfl
  obtain ⟨p, cl, n, rfl, hp, hn, q⟩ := h
  refine ⟨_, pss_cons (ps_set (i := 1) sc_head.nd rfl (Or.inl rfl) (pcall h2 hr (by decide) rfl (pa_cons (pv 0) pa_nil)))
    (pss_cons (ps_if (pt_cmpR op_eq (pcall h1 hr (by decide) rfl (pa_cons (pv 0) (pa_cons pe_int pa_nil))) pe_int (nomark _))
      (pss_one (ps_set (i := 1) sc_head.nd rfl (Or.inl rfl) (pe_op op_add_str (pe_op op_add_str (pe_op op_add_str (pe_ix ix_str pe_str (pcall h1 hr (by decide) rfl (pa_cons (pv 0) (pa_cons pe_int pa_nil))) (fun _ _ => rfl))
        (pe_slice sl_str (pcall h2 hr (by decide) rfl (pa_cons (pv 0) pa_nil)) po_none (po_some pe_int))) pe_str) (pv 1)))) pss_nil)
    (pss_one (ps_ret (pe_tup (pa_cons (pv 1) (pa_cons (pcall h1 hr (by decide) rfl (pa_cons (pv 0) (pa_cons pe_int pa_nil))) pa_nil)))))), ?_⟩
  have gl : greatS.length ≤ 1000000 := by rw [greatS_len]; decide
  refine ⟨_, rfl, p, cl, n, rfl, hp, by omega, fun z H1 hz lz1 lz2 g1 => ?_⟩
  refine ⟨_, rfl, p, cl, n + 4, 3, rfl, g1.ok, by omega, by decide, by decide, fun d H2 d0 d1 g2 => ⟨rfl, _, rfl, ?_⟩⟩
  have fin : ∀ (z' : Str) (H3 : Hp) (m : Nat), NQ z' → m ≤ n + 10 → GrowP p cl m H H3 → ∀ (k : Int) (H4 : Hp) (a : Addr), 0 ≤ k → k < 4 → GrowP p cl (m + 1) H3 H4 → H4 a = none → Q (.ref a) (upd H4 a (.tup [.str z', .int k])) := fun z' H3 m hz' hm g3 k H4 a k0 k1 g4 ha =>
    q a z' k _ hz' k0 k1 upd_same ((g3.trans g4).trans ((growP_same g4.ok (same_new ha _)).up (by omega)))
  refine ite2 (fun c1 => ?_) (fun c1 => ?_)
  · refine ⟨_, rfl, p, cl, n + 5, 26, rfl, g2.ok, by omega, by decide, by decide, fun e H3 e0 e1 g3 => ?_⟩
    obtain ⟨c, hc, hm⟩ := at_gr e0 e1
    refine ⟨greatS, e, c, rfl, rfl, small gl, hc, _, rfl, p, cl, n + 6, rfl, g3.ok, by omega, fun y H4 hy ly1 ly2 g4 => ?_⟩
    have ls := Txt.slice_le y none (some 7)
    refine ⟨7, rfl, y, rfl, small (by omega), _, _, rfl, rfl, small (by rw [one_len]; omega), ?_⟩
    have lp : (".": Str).length = 1 := by decide +kernel
    refine ⟨_, _, rfl, rfl, small (by rw [len_app, one_len, lp]; omega), _, rfl, _, _, rfl, rfl, small (by rw [len_app, len_app, one_len, lp]; omega), ?_⟩
    refine ⟨_, rfl, _, rfl, p, cl, n + 10, 4, rfl, g4.ok, by omega, by decide, by decide, fun k H5 k0 k1 g5 => ⟨small (by show 2 ≤ 1000000; decide), fun a ha => ?_⟩⟩
    refine fin _ H4 (n + 10) ⟨fun e' => ?_, ?_⟩ (by omega) (((g1.trans g2).trans g3).trans g4) k H5 a k0 k1 g5 ha
    · rw [head_app (by rw [len_app, len_app, one_len]; omega), head_app (by rw [len_app, one_len]; omega), head_app (by rw [one_len]; exact Nat.le_refl 1)] at e'
      have e2 : c = 63 := by simpa using e'
      have := great_range (c := c) (decide_eq_true hm)
      omega
    · rw [len_app, len_app, len_app, one_len, lp]; omega
  · refine ⟨_, rfl, _, rfl, p, cl, n + 5, 4, rfl, g2.ok, by omega, by decide, by decide, fun k H5 k0 k1 g5 => ⟨small (by show 2 ≤ 1000000; decide), fun a ha => ?_⟩⟩
    exact fin z H2 (n + 5) (lets_nq hz (by omega)) (by omega) (g1.trans g2) k H5 a k0 k1 g5 ha
theorem sc_leaf : FnScope ["_law_pot_here", "_law_way"] ["_law_pot_here"] (defScope s_leaf) := ⟨rfl, rfl, rfl, by decide +kernel, rfl, by decide +kernel, by decide +kernel⟩
theorem ok_leaf (F : Fun K "_law_leaf" "_law_leaf" s_leaf f fd) (ms : mg "str" = none) (h1 : Has P w K mg base 2 "_law_draw" ["_law_pot_here", "_law_many"] spDraw) (h2 : Has P w K mg base 3 "_law_word" ["_law_pot_here"] spPWord) : FnOk P w K mg base CX0 4 f fd ["_law_pot_here"] spPLeaf := by
  refine F.ok sc_leaf (fun vs H Q E h => ?_) (fun cdv A outer s H vs Q E hr h => ?_)
  · obtain ⟨p, cl, n, rfl, _⟩ := h
    rfl
  obtain ⟨p, cl, n, rfl, hp, hn, q⟩ := h
  refine ⟨_, pss_cons (ps_set (i := 1) sc_leaf.nd rfl (Or.inl rfl) (pcall h1 hr (by decide) rfl (pa_cons (pv 0) (pa_cons pe_int pa_nil))))
    (pss_cons (ps_if (pt_cmpR op_eq (pv 1) pe_int (nomark _)) (pss_one (ps_ret (pe_op op_add_str pe_str (pe_callTy call_str_int rfl ms boot_str (pa_cons (pcall h1 hr (by decide) rfl (pa_cons (pv 0) (pa_cons pe_int pa_nil))) pa_nil))))) pss_nil)
    (pss_cons (ps_if (pt_cmpR op_eq (pv 1) pe_int (nomark _)) (pss_one (ps_ret (pe_ix ix_list (pe_lst (pa_cons pe_str (pa_cons pe_str (pa_cons pe_str (pa_cons pe_str (pa_cons pe_str (pa_cons pe_str pa_nil))))))) (pcall h1 hr (by decide) rfl (pa_cons (pv 0) (pa_cons pe_int pa_nil))) (fun _ _ => rfl)))) pss_nil)
    (pss_cons (ps_if (pt_cmpR op_eq (pv 1) pe_int (nomark _)) (pss_one (ps_ret (pe_op op_add_str pe_str (pe_ix ix_str pe_str (pcall h1 hr (by decide) rfl (pa_cons (pv 0) (pa_cons pe_int pa_nil))) (fun _ _ => rfl))))) pss_nil)
    (pss_one (ps_ret (pe_op op_add_str pe_str (pcall h2 hr (by decide) rfl (pa_cons (pv 0) pa_nil)))))))), ?_⟩
  have sl : smallS.length ≤ 1000000 := by rw [smallS_len]; decide
  refine ⟨_, rfl, p, cl, n, 5, rfl, hp, by omega, by decide, by decide, fun d H1 d0 d1 g1 => ?_⟩
  refine ⟨_, rfl, rfl, _, rfl, ite2 (fun c1 => ?_) (fun c1 => ?_)⟩
  · refine ⟨_, rfl, p, cl, n + 1, 30, rfl, g1.ok, by omega, by decide, by decide, fun e H2 e0 e1 g2 => ?_⟩
    have nt := num_text ⟨e.toNat, by omega⟩
    have ee : ((e.toNat : Nat) : Int) = e := by omega
    rw [show (((⟨e.toNat, by omega⟩ : Fin 30).val : Nat) : Int) = e from ee] at nt
    exact ⟨e, rfl, nt.2, _, _, rfl, rfl, small (by rw [qmark.1]; have := nt.1; omega), q _ H2 (q_qq (by have := nt.1; omega)) ((g1.trans g2).up (by omega))⟩
  refine ⟨_, rfl, rfl, _, rfl, ite2 (fun c2 => ?_) (fun c2 => ?_)⟩
  · refine ⟨small (by show 6 ≤ 1000000; decide), fun l hl => ?_⟩
    have e1 := same_new hl (.lst (oddL.map V.str))
    have gl := growP_same g1.ok e1
    refine ⟨_, rfl, p, cl, n + 1, 6, rfl, gl.ok, by omega, by decide, by decide, fun e H2 e0 e1' g2 => ?_⟩
    obtain ⟨v, hv, hm⟩ := at_any (xs := oddL.map V.str) e0 (by simpa [oddL] using e1')
    obtain ⟨z, hz, rfl⟩ := List.mem_map.mp hm
    have nlp : l ≠ p := fun e => by
      obtain ⟨cs, a, d, t, h1, _⟩ := g1.ok
      rw [e, h1] at hl
      cases hl
    exact ⟨l, _, e, .str z, rfl, rfl, SqL.of (g2.keep _ _ nlp upd_same), hv, q z H2 (odd_qq z hz) (((g1.trans gl).trans g2).up (by omega))⟩
  refine ⟨_, rfl, rfl, _, rfl, ite2 (fun c3 => ?_) (fun c3 => ?_)⟩
  · refine ⟨_, rfl, p, cl, n + 1, 26, rfl, g1.ok, by omega, by decide, by decide, fun e H2 e0 e1 g2 => ?_⟩
    obtain ⟨c, hc, hm⟩ := at_sm e0 e1
    exact ⟨smallS, e, c, rfl, rfl, small sl, hc, _, _, rfl, rfl, small (by rw [qmark.1, one_len]; decide), q _ H2 (q_qq (by rw [one_len]; decide)) ((g1.trans g2).up (by omega))⟩
  · exact ⟨_, rfl, p, cl, n + 1, rfl, g1.ok, by omega, fun z H2 hz lz1 lz2 g2 => ⟨_, _, rfl, rfl, small (by rw [qmark.1]; omega), q _ H2 (q_qq (by omega)) (g1.trans g2)⟩⟩
end
end Fw

set_option Elab.async false
set_option linter.all false
set_option maxRecDepth 100000
namespace Fw
open PySem PySem.Spec PyProof.Rows L2
/-! ### leaves, unlike -/
def LQ (n : Nat) (z : Str) : Prop := z.cps.toList.head? = some 63 ∧ z.length ≤ n
theorem PotOk.upd {H : Hp} {p cl l : Addr} {n : Nat} {o : HO} (h : PotOk H p cl n) (h1 : l ≠ p) (h2 : l ≠ cl) : PotOk (upd H l o) p cl n := by
  obtain ⟨cs, a, d, t, e1, e2, r⟩ := h
  exact ⟨cs, a, d, t, by rw [upd_ne (Ne.symm h1)]; exact e1, by rw [upd_ne (Ne.symm h2)]; exact e2, r⟩
theorem PotOk.fresh {H : Hp} {p cl l : Addr} {n : Nat} (h : PotOk H p cl n) (hl : H l = none) : l ≠ p ∧ l ≠ cl := by
  obtain ⟨cs, a, d, t, e1, e2, _⟩ := h
  exact ⟨fun e => (by rw [e, e1] at hl; cases hl), fun e => (by rw [e, e2] at hl; cases hl)⟩
theorem x_len : ("x" : Str).length = 1 := by decide +kernel
def spPLeaves : Sp := fun vs H Q _ => ∃ (p cl : Addr) (n m : Nat), vs = [.ref p, .int m] ∧ PotOk H p cl n ∧ m ≤ 12 ∧ n + 60 ≤ 1000000000 ∧
  ∀ (l : Addr) (zs : List Str) H', H l = none → H' l = some (.lst (zs.map V.str)) → zs.length = m → zs.Nodup → (∀ z ∈ zs, LQ 80 z) → GrowP p cl (n + 60) H H' → Q (.ref l) H'
section
variable {P : Program} {w : World} {K : PySem.W.Frag} {mg : Str → Option Value} {base : Heap} {f : Addr} {fd : FuncData}
abbrev s_leaves : Stmt := top 15
theorem sc_leaves : FnScope ["_law_pot_here", "_law_many", "_law_some", "_law_k", "_law_one"] ["_law_pot_here", "_law_many"] (defScope s_leaves) := ⟨rfl, rfl, rfl, by decide +kernel, rfl, by decide +kernel, by decide +kernel⟩
set_option maxHeartbeats 1000000 in
theorem ok_leaves (F : Fun K "_law_leaves" "_law_leaves" s_leaves f fd) (mr : mg "range" = none) (h1 : Has P w K mg base 4 "_law_leaf" ["_law_pot_here"] spPLeaf) : FnOk P w K mg base CX0 5 f fd ["_law_pot_here", "_law_many"] spPLeaves := by
  refine F.ok sc_leaves (fun vs H Q E h => ?_) (fun cdv A outer s H vs Q E hr h => ?_)
  · obtain ⟨p, cl, n, m, rfl, _⟩ := h
    rfl
  obtain ⟨p, cl, n, m, rfl, hp, hm, hn, q⟩ := h
  refine ⟨_, pss_cons (ps_set (i := 2) sc_leaves.nd rfl (Or.inl rfl) (pe_lst pa_nil))
    (pss_cons (ps_for PassesOwn.never rfl (pi_range1 rfl mr (pa_cons (pv 1) pa_nil)) (pg_name (i := 3) sc_leaves.nd rfl (Or.inl rfl))
      (pss_cons (ps_set (i := 4) sc_leaves.nd rfl (Or.inl rfl) (pcall h1 hr (by decide) rfl (pa_cons (pv 0) pa_nil)))
      (pss_cons (ps_while PassesOwn.never (pt_cmpR op_in_seq (pv 4) (pv 2) (by with_unfolding_all rfl)) (pss_one (ps_set (i := 4) sc_leaves.nd rfl (Or.inl rfl) (pe_op op_add_str (pv 4) pe_str))))
      (pss_one (ps_expr (pe_bm PySem.F.plainAttrs_list PySem.F.slot_list_append PySem.F.type_list_append mt_append (pv 2) (pa_cons (pv 4) pa_nil)))))))
    (pss_one (ps_ret (pv 2)))), ?_⟩
  refine ⟨small (by show 0 ≤ 1000000; decide), fun l hl => ?_⟩
  obtain ⟨nlp, nlc⟩ := hp.fresh hl
  refine ⟨_, rfl, m, rfl, by omega, by omega, for_range (n := (m : Int).toNat) (fun i σ H' => ∃ (o3 o4 : Option V) (zs : List Str), σ = [some (.ref p), some (.int m), some (.ref l), o3, o4] ∧ H' l = some (.lst (zs.map V.str)) ∧ zs.length = i ∧ zs.Nodup ∧ (∀ z ∈ zs, LQ (60 + i) z) ∧ (∀ b o, b ≠ p → H b = some o → H' b = some o) ∧ PotOk H' p cl (n + 5 * i))
    ⟨none, none, [], rfl, upd_same, rfl, List.nodup_nil, (fun _ h => by cases h), (fun b o hb e => by rw [upd_ne (ne_of_none e hl)]; exact e), hp.upd nlp nlc⟩ ?_ ?_⟩
  · rintro i σ H2 hi ⟨o3, o4, zs, rfl, hl2, lz, nd, hz2, keep2, ok2⟩
    refine ⟨_, rfl, p, cl, n + 5 * i, rfl, ok2, by omega, fun z H3 hz g3 => ?_⟩
    have hl3 : H3 l = some (.lst (zs.map V.str)) := g3.keep _ _ nlp hl2
    refine ⟨fun k σ H' => ∃ (z : Str), σ = [some (.ref p), some (.int m), some (.ref l), some (.int (0 + i)), some (.str z)] ∧ H' = H3 ∧ LQ (61 + i) z ∧ k = 62 + i - z.length, ⟨_, z, rfl, rfl, ⟨hz.1, by have := hz.2; omega⟩, rfl⟩, ?_⟩
    rintro k σ H4 ⟨z1, rfl, rfl, hz1, rfl⟩
    refine ⟨_, rfl, _, rfl, l, zs.map V.str, rfl, .inl (SqL.of hl3), rfl, flat_strs zs, _, rfl, ?_⟩
    rw [inV_str]
    refine ite2 (fun c => ?_) (fun c => ?_)
    · have mem : z1 ∈ zs := of_decide_eq_true c
      have lz1 := (hz2 z1 mem).2
      have lx : (z1 ++ ("x" : Str)).length = z1.length + 1 := by rw [len_app, x_len]
      have h1' : 1 ≤ z1.length := by
        have h := hz1.1
        have l0 := len_toList z1
        cases hc : z1.cps.toList with
        | nil => rw [hc] at h; cases h
        | cons a b => rw [hc] at l0; simp at l0; omega
      refine ⟨_, fun _ _ h => h, ?_⟩
      refine ⟨_, rfl, z1, "x", rfl, rfl, small (by rw [x_len]; omega), ?_⟩
      exact ⟨62 + i - (z1 ++ ("x" : Str)).length, by rw [lx]; omega, z1 ++ ("x" : Str), rfl, rfl, ⟨by rw [head_app h1']; exact hz1.1, by rw [lx]; omega⟩, rfl⟩
    · have nmem : z1 ∉ zs := fun h => by
        rw [decide_eq_true h] at c
        exact c rfl
      refine ⟨_, rfl, .inl ⟨rfl, _, SqL.of hl3⟩, _, rfl, l, _, .str z1, rfl, rfl, hl3, small' (by rw [List.length_map]; omega), ?_⟩
      refine ⟨_, _, zs ++ [z1], rfl, by rw [upd_same, List.map_append]; rfl, by simp [lz], ?_, fun z' hz' => ?_, fun b o hb e => ?_, (g3.ok.mono (by omega)).upd nlp nlc⟩
      · rw [List.nodup_append]
        refine ⟨nd, by simp, fun a ha b hb => ?_⟩
        rw [List.mem_singleton.mp hb]
        intro e
        rw [e] at ha
        exact nmem ha
      · rcases List.mem_append.mp hz' with h | h
        · exact ⟨(hz2 z' h).1, by have := (hz2 z' h).2; omega⟩
        · rw [List.mem_singleton.mp h]
          exact ⟨hz1.1, by have := hz1.2; omega⟩
      · rw [upd_ne (ne_of_none e hl)]
        exact g3.keep b o hb (keep2 b o hb e)
  · rintro σ H2 ⟨o3, o4, zs, rfl, hl2, lz, nd, hz2, keep2, ok2⟩
    have e : (m : Int).toNat = m := by omega
    rw [e] at lz ok2 hz2
    exact ⟨_, rfl, q l zs H2 hl hl2 lz nd (fun z hz => ⟨(hz2 z hz).1, by have := (hz2 z hz).2; omega⟩) ⟨keep2, ok2.mono (by omega)⟩⟩
end
end Fw

set_option Elab.async false
set_option linter.all false
set_option maxRecDepth 100000
namespace Fw
open PySem PySem.Spec PyProof.Rows L2
/-! ### kinds of a pot -/
theorem comp_listM {K : PySem.W.Frag} {H : Hp} {n : Nat} {a : Addr} {xs : List V} {g : TG} {tt : TT} {te : TE} {σ' : L2.St} {Q : VK} (Pv : Nat → List V → Hp → Prop) (h0 : Pv 0 [] H) (hl : ∀ i vs H, i ≤ xs.length → Pv i vs H → SqL K H a xs ∧ vs.length < sizeLine)
    (hs : ∀ i x vs H2 (τ : L2.St), τ.length = n → i < xs.length → xs[i]? = some x → Pv i vs H2 → g x (τ ++ σ') H2 fun σ1 H3 => (∃ τ' : L2.St, σ1 = τ' ++ σ' ∧ τ'.length = n) ∧ tt σ1 H3 fun b H4 => if b = true then te σ1 H4 fun v H5 => Nx xs.length i (Pv (i + 1) (vs ++ [v]) H5) else Nx xs.length i (Pv (i + 1) vs H4))
    (hd : ∀ vs H2, Pv xs.length vs H2 → ∀ l, H2 l = none → Q (.ref l) (upd H2 l (.lst vs))) : CompWM n (Itl K a) g tt te σ' Q H := by
  refine ⟨fun i m vs H => m = xs.length - i ∧ i ≤ xs.length ∧ Pv i vs H, ⟨xs.length, by simp, Nat.zero_le _, h0⟩, ?_⟩
  rintro i m vs H2 ⟨rfl, hi, p⟩
  obtain ⟨q1, q2⟩ := hl i vs H2 hi p
  refine ⟨q2, ?_⟩
  by_cases hlt : i < xs.length
  · refine .inr ⟨⟨xs, xs[i], q1, by simp [hlt]⟩, ?_⟩
    rintro τ x H3 lτ ⟨e, y⟩
    subst e
    exact hs i x vs _ τ lτ hlt (y xs q1) p
  · have e : i = xs.length := by omega
    subst e
    exact .inl ⟨⟨xs, q1, Nat.le_refl _⟩, hd vs H2 p⟩
/-- a kind, at most n deep -/
inductive KD : Nat → T → Prop where
  | leaf {n : Nat} {z : Str} (h : z.length ≤ 80) : KD n (.str z)
  | tup {n : Nat} {z : Str} {ks : List T} (h : NQ z) (h1 : 1 ≤ ks.length) (h3 : ks.length ≤ 3) (hk : ∀ k ∈ ks, KD n k) : KD (n + 1) (.tup (.str z :: ks))
def BQ : Nat → Nat
  | 0 => 1
  | n + 1 => 2 + 3 * BQ n
theorem BQ_pos : ∀ n, 1 ≤ BQ n
  | 0 => Nat.le_refl 1
  | n + 1 => by show 1 ≤ 2 + 3 * BQ n; omega
def DQ : Nat → Nat
  | 0 => 2
  | n + 1 => 2 + 3 * DQ n
theorem DQ_pos : ∀ n, 2 ≤ DQ n
  | 0 => Nat.le_refl 2
  | n + 1 => by show 2 ≤ 2 + 3 * DQ n; omega
def hT (h : Str × Int) : T := .tup [.str h.1, .int h.2]
/-- what a kind is drawn of: the leaves and the heads -/
structure Src (H : Hp) (p la ha : Addr) (zs : List Str) (hvs : List V) (hs : List (Str × Int)) : Prop where
  la : H la = some (.lst (zs.map V.str))
  lz : zs.length ≤ 12
  hz : ∀ z ∈ zs, z.length ≤ 80
  ha : H ha = some (.lst hvs)
  hr : Reps H hvs (hs.map hT)
  h1 : 1 ≤ hs.length
  h9 : hs.length ≤ 9
  hh : ∀ h ∈ hs, NQ h.1 ∧ 0 ≤ h.2 ∧ h.2 < 4
theorem PotOk.ne_lst {H : Hp} {p cl b : Addr} {n : Nat} {xs : List V} (h : PotOk H p cl n) (e : H b = some (.lst xs)) : b ≠ p := by
  obtain ⟨cs, a, d, t, h1, _⟩ := h
  exact ne_of e h1 (by intro z; cases z)
theorem Src.grow {H H' : Hp} {p cl la ha : Addr} {zs : List Str} {hvs : List V} {hs : List (Str × Int)} {m n : Nat} (s : Src H p la ha zs hvs hs) (g : GrowP p cl n H H') (h : PotOk H p cl m) : Src H' p la ha zs hvs hs :=
  ⟨g.keep _ _ (h.ne_lst s.la) s.la, s.lz, s.hz, g.keep _ _ (h.ne_lst s.ha) s.ha, s.hr.growP g h, s.h1, s.h9, s.hh⟩
theorem num_len : ("num" : Str).length ≤ 80 := by decide +kernel
theorem arrow_nq : NQ "->" := by
  have : ("->" : Str).cps.toList.head? ≠ some 63 ∧ ("->" : Str).length ≤ 60 := by decide +kernel
  exact this
def spPKind (n : Nat) : Sp := fun vs H Q _ => ∃ (p cl la ha : Addr) (m : Nat) (zs : List Str) (hvs : List V) (hs : List (Str × Int)), vs = [.ref p, .ref la, .ref ha, .int n] ∧ PotOk H p cl m ∧ m + DQ n ≤ 1000000000 ∧ Src H p la ha zs hvs hs ∧
  ∀ v t H', KD n t → Rep H' v t → t.sz ≤ BQ n → GrowP p cl (m + DQ n) H H' → Q v H'
def spPKindN : Nat → Sp
  | 0 => fun _ _ _ _ => False
  | n + 1 => spPKind n
section
variable {P : Program} {w : World} {K : PySem.W.Frag} {mg : Str → Option Value} {base : Heap} {f : Addr} {fd : FuncData}
abbrev s_kind : Stmt := top 16
theorem sc_kind : FnScope ["_law_pot_here", "_law_leaves_here", "_law_heads", "_law_deep", "_law_way", "_law_bare", "_law_word_here", "_law_many"] ["_law_pot_here", "_law_leaves_here", "_law_heads", "_law_deep"] (defScope s_kind) := ⟨rfl, rfl, rfl, by decide +kernel, rfl, by decide +kernel, by decide +kernel⟩
theorem comp_nd : ((["_law_word_here", "_law_many"] : List Str) ++ ([] : List Str)).Nodup := by decide +kernel
theorem Reps.at2 {H : Hp} : ∀ {vs : List V} {ts : List T} {i : Nat} {v : V}, Reps H vs ts → vs[i]? = some v → ∃ t, ts[i]? = some t ∧ Rep H v t
  | _, _, _, _, .nil, h => by simp at h
  | _, _, 0, _, .cons r _, h => by
    simp at h; subst h
    exact ⟨_, rfl, r⟩
  | _, _, i + 1, v, .cons _ q, h => by
    obtain ⟨t, h1, h2⟩ := q.at2 (i := i) (v := v) (by simpa using h)
    exact ⟨t, by simpa using h1, h2⟩
theorem head_at {H : Hp} {hvs : List V} {hs : List (Str × Int)} {i : Nat} {v : V} (r : Reps H hvs (hs.map hT)) (h : hvs[i]? = some v) : ∃ a z k, v = .ref a ∧ H a = some (.tup [.str z, .int k]) ∧ (z, k) ∈ hs := by
  obtain ⟨t, h1, h2⟩ := r.at2 h
  rw [List.getElem?_map] at h1
  cases hh : hs[i]? with
  | none => rw [hh] at h1; cases h1
  | some zk =>
    rw [hh] at h1
    obtain ⟨z, k⟩ := zk
    have e : hT (z, k) = t := Option.some.inj h1
    subst e
    have h2 : Rep H v (.tup [.str z, .int k]) := h2
    cases h2 with
    | tup ha ra =>
      cases ra with
      | cons r1 rr =>
        cases r1
        cases rr with
        | cons r2 rn =>
          cases r2
          cases rn
          exact ⟨_, z, k, rfl, ha, List.mem_of_getElem? hh⟩
set_option maxHeartbeats 2000000 in
theorem ok_kind {n : Nat} (F : Fun K "_law_kind" "_law_kind" s_kind f fd) (ml : mg "len" = none) (mr : mg "range" = none) (mt : mg "tuple" = none) (h1 : Has P w K mg base 2 "_law_draw" ["_law_pot_here", "_law_many"] spDraw)
    (h2 : Has P w K mg base (2 + n) "_law_kind" ["_law_pot_here", "_law_leaves_here", "_law_heads", "_law_deep"] (spPKindN n)) : FnOk P w K mg base CX0 (2 + n + 1) f fd ["_law_pot_here", "_law_leaves_here", "_law_heads", "_law_deep"] (spPKind n) := by
  refine F.ok sc_kind (fun vs H Q E h => ?_) (fun cdv A outer s H vs Q E hr h => ?_)
  · obtain ⟨p, cl, la, ha, m, zs, hvs, hs, rfl, _⟩ := h
    rfl
  obtain ⟨p, cl, la, ha, m, zs, hvs, hs, rfl, hp, hm, src, q⟩ := h
  refine ⟨_, pss_cons (ps_set (i := 4) sc_kind.nd rfl (Or.inl rfl) (pcall h1 hr (by omega) rfl (pa_cons (pv 0) (pa_cons pe_int pa_nil))))
    (pss_cons (ps_if (PW.pt (pw_or (pt_cmpR op_eq (pv 3) pe_int (nomark _)) (pw_or1 (pt_cmpR op_lt (pv 4) pe_int (nomark _)))))
      (pss_cons (ps_if (PW.pt (pw_and (pt_cmpR op_gt (pe_op op_mod (pv 4) pe_int) pe_int (nomark _)) (pw_and1 (pt_cmpR op_gt (pe_callB call_len_seq rfl ml PySem.boot_len (pa_cons (pv 1) pa_nil)) pe_int (nomark _)))))
        (pss_one (ps_ret (pe_ix ix_list (pv 1) (pcall h1 hr (by omega) rfl (pa_cons (pv 0) (pa_cons (pe_callB call_len_seq rfl ml PySem.boot_len (pa_cons (pv 1) pa_nil)) pa_nil))) (fun _ _ => rfl)))) pss_nil)
      (pss_cons (ps_set (i := 5) sc_kind.nd rfl (Or.inl rfl) (pe_op op_cat (pe_lst (pa_cons pe_str pa_nil))
        (pe_lcM (g := gTup K 2 (gCons (gName 0) (gCons (gName 1) gNil))) (defScope s_kind) ["_law_pot_here", "_law_leaves_here", "_law_heads", "_law_deep", "_law_way", "_law_bare", "_law_word_here", "_law_many"] ["_law_word_here", "_law_many"] [] [] (by decide +kernel) (pi_list (pv 2))
          (fun C s₀ H₀ ex => pg_tup (n := 2) rfl (pgs_cons (pg_name (i := 0) comp_nd rfl (Or.inl rfl) (Or.inr rfl)) (pgs_cons (pg_name (i := 1) comp_nd rfl (Or.inl rfl) (Or.inr rfl)) pgs_nil)))
          (fun C s₀ H₀ ex => pts_one (pt_cmpR op_eq (pv 1) pe_int (nomark _))) (fun C s₀ H₀ ex => pv 0))))
      (pss_one (ps_ret (pe_ix ix_list (pv 5) (pcall h1 hr (by omega) rfl (pa_cons (pv 0) (pa_cons (pe_callB call_len_seq rfl ml PySem.boot_len (pa_cons (pv 5) pa_nil)) pa_nil))) (fun _ _ => rfl)))))) pss_nil)
    (pss_cons (ps_if (pt_cmpR op_lt (pv 4) pe_int (nomark _))
      (pss_one (ps_ret (pe_tup (pa_cons pe_str (pa_cons (pcall h2 hr (by omega) rfl (pa_cons (pv 0) (pa_cons (pv 1) (pa_cons (pv 2) (pa_cons (pe_op op_sub (pv 3) pe_int) pa_nil)))))
        (pa_cons (pcall h2 hr (by omega) rfl (pa_cons (pv 0) (pa_cons (pv 1) (pa_cons (pv 2) (pa_cons (pe_op op_sub (pv 3) pe_int) pa_nil))))) pa_nil)))))) pss_nil)
    (pss_cons (ps_asg (pe_ix ix_list (pv 2) (pcall h1 hr (by omega) rfl (pa_cons (pv 0) (pa_cons (pe_callB call_len_seq rfl ml PySem.boot_len (pa_cons (pv 2) pa_nil)) pa_nil))) (fun _ _ => rfl))
      (pg_tup rfl (pgs_cons (pg_name (i := 6) sc_kind.nd rfl (Or.inl rfl)) (pgs_cons (pg_name (i := 7) sc_kind.nd rfl (Or.inl rfl)) pgs_nil))))
    (pss_cons (ps_if (pt_cmpR op_eq (pv 7) pe_int (nomark _)) (pss_one (ps_ret (pv 6))) pss_nil)
    (pss_one (ps_ret (pe_op op_catT (pe_tup (pa_cons (pv 6) pa_nil)) (pe_callTy call_tuple_of rfl mt boot_tuple (pa_cons
      (pe_lc (defScope s_kind) ["_law_pot_here", "_law_leaves_here", "_law_heads", "_law_deep", "_law_way", "_law_bare", "_law_word_here", "_law_many"] ["_law_pot_here", "_law_leaves_here", "_law_heads", "_law_deep"] [0, 1, 2, 3] (by decide +kernel) (pi_range1 rfl mr (pa_cons (pv 7) pa_nil)) (fun C s₀ H₀ ex => pts_nil)
        (fun C s₀ H₀ ex => pcall h2 hr (by omega) rfl (pa_cons (pv 1) (pa_cons (pv 2) (pa_cons (pv 3) (pa_cons (pe_op op_sub (pv 4) pe_int) pa_nil)))))) pa_nil))))))))), ?_⟩
  have d2 := DQ_pos n
  refine ⟨_, rfl, p, cl, m, 9, rfl, hp, by omega, by decide, by decide, fun y H1 y0 y1 g1 => ?_⟩
  have src1 := src.grow g1 hp
  refine st_if (ts_or (ts_t (ev_eqI (ev_var rfl) fun _ _ => ev_c)) (fun _ H' e' => ts_t (ev_op (z := .bl (decide (y < 2))) (ev_var rfl) (fun _ _ => ev_c) fun H'' Q'' e'' q'' => ⟨_, _, rfl, rfl, q''⟩))) (fun c H2 e2 => ?_) (fun c H2 e2 => ?_)
  · -- a leaf
    have g2 := g1.trans (growP_same g1.ok e2)
    have src2 := src1.grow (growP_same g1.ok e2) g1.ok
    refine st_if (ts_and (ts_t (ev_op (z := .bl (decide (y % 3 > 0))) (ev_op (x := .int y) (y := .int 3) (z := .int (y % 3)) (ev_var rfl) (fun _ _ => ev_c) fun H'' Q'' e'' q'' => ⟨_, _, rfl, rfl, (by show (0 : Int) < 3; decide), q''⟩) (fun _ _ => ev_c) fun H'' Q'' e'' q'' => ⟨_, _, rfl, rfl, q''⟩))
      (fun _ H' e' => ts_t (ev_op (z := .bl (decide (((zs.map V.str).length : Int) > 0))) (ev_lenL (ev_var rfl) (SqL.of (e' _ _ src2.la))) (fun _ _ => ev_c) fun H'' Q'' e'' q'' => ⟨_, _, rfl, rfl, q''⟩))) (fun c' H3 e3 => ?_) (fun c' H3 e3 => ?_)
    · have g3 := g2.trans (growP_same g2.ok e3)
      have src3 := src2.grow (growP_same g2.ok e3) g2.ok
      have l0 : ((zs.map V.str).length : Int) > 0 := by
        rw [Bool.and_eq_true] at c'
        exact of_decide_eq_true c'.2
      have l12 := src.lz
      refine ⟨_, rfl, _, rfl, _, rfl, la, _, rfl, .inl (SqL.of src3.la), p, cl, m + 1, ((zs.map V.str).length : Nat), rfl, g3.ok, by omega, l0, by rw [List.length_map]; omega, fun d H4 d0 d1 g4 => ?_⟩
      obtain ⟨v, hv, hmem⟩ := at_any (xs := zs.map V.str) d0 d1
      obtain ⟨z, hz, rfl⟩ := List.mem_map.mp hmem
      have lz := src.hz z hz
      exact ⟨la, _, d, .str z, rfl, rfl, SqL.of (src3.grow g4 g3.ok).la, hv, q _ (.str z) H4 (.leaf lz) (.str z (by omega)) (BQ_pos n) ((g3.trans g4).up (by omega))⟩
    · have g3 := g2.trans (growP_same g2.ok e3)
      have src3 := src2.grow (growP_same g2.ok e3) g2.ok
      refine ⟨small (by show 1 ≤ 1000000; decide), fun lb hlb => ?_⟩
      have e4 := same_new hlb (.lst [.str "num"])
      have hlb4 : (upd H3 lb (.lst [.str "num"])) lb = some (.lst [.str "num"]) := upd_same
      have g4 := g3.trans (growP_same g3.ok e4)
      have src4 := src3.grow (growP_same g3.ok e4) g3.ok
      revert hlb4 g4 src4
      generalize upd H3 lb (.lst [.str "num"]) = H4
      intro hlb4 g4 src4
      have lh := src4.hr.length
      have lh9 := src.h9
      rw [List.length_map] at lh
      refine ⟨_, rfl, ha, rfl, ⟨_, SqL.of src4.ha⟩, comp_listM (n := 2) (xs := hvs) (fun i vs H' => H' = H4 ∧ ∃ bs : List Str, vs = bs.map V.str ∧ (∀ b ∈ bs, b.length ≤ 80) ∧ bs.length ≤ i) ⟨rfl, [], rfl, (fun _ h => by cases h), Nat.le_refl _⟩ ?_ ?_ ?_⟩
      · rintro i vs H' hi ⟨rfl, bs, rfl, _, lb'⟩
        exact ⟨SqL.of src4.ha, small' (by rw [List.length_map]; omega)⟩
      · rintro i x vs H' τ lτ hi hx ⟨rfl, bs, rfl, hb, lb'⟩
        obtain ⟨a, z, k, rfl, ha', hmem⟩ := head_at src4.hr hx
        have nz := (src.hh _ hmem).1
        match τ, lτ with
        | [t1, t2], _ =>
          refine ⟨a, [.str z, .int k], rfl, SqT.of ha', rfl, .str z, [.int k], rfl, .int k, [], rfl, rfl, ⟨[some (.str z), some (.int k)], rfl, rfl⟩, ?_⟩
          refine ⟨_, rfl, rfl, _, rfl, ite2 (fun c3 => ?_) (fun c3 => ?_)⟩
          · refine ⟨_, rfl, nx hi ⟨rfl, bs ++ [z], by simp, fun b hb' => ?_, by simp; omega⟩⟩
            rcases List.mem_append.mp hb' with h | h
            · exact hb b h
            · rw [List.mem_singleton.mp h]; have := nz.2; show z.length ≤ 80; have : z.length ≤ 60 := nz.2; omega
          · exact nx hi ⟨rfl, bs, rfl, hb, by omega⟩
      · rintro vs H' ⟨rfl, bs, rfl, hb, lb'⟩ l hl
        have e5 := same_new hl (.lst (bs.map V.str))
        refine ⟨lb, l, _, _, rfl, rfl, e5 _ _ hlb4, upd_same, small (by rw [List.length_map]; show 1 + bs.length ≤ 1000000; omega), fun lc hlc => ?_⟩
        have e6 := same_new hlc (.lst ([.str "num"] ++ bs.map V.str))
        have g6 := g4.trans (growP_same g4.ok (e5.trans e6))
        have nlc := (g4.ok.same e5).fresh hlc
        have hlc6 : (upd (upd H' l (.lst (bs.map V.str))) lc (.lst ([.str "num"] ++ bs.map V.str))) lc = some (.lst ((("num" : Str) :: bs).map V.str)) := upd_same
        revert g6 hlc6
        generalize upd (upd H' l (.lst (bs.map V.str))) lc (.lst ([.str "num"] ++ bs.map V.str)) = H6
        intro g6 hlc6
        have lB : ((("num" : Str) :: bs).map V.str).length = bs.length + 1 := by simp
        refine ⟨_, rfl, _, rfl, _, rfl, lc, _, rfl, .inl (SqL.of hlc6), p, cl, m + 1, (((("num" : Str) :: bs).map V.str).length : Nat), rfl, g6.ok, by omega, by rw [lB]; omega, by rw [lB]; omega, fun d H7 d0 d1 g7 => ?_⟩
        obtain ⟨v, hv, hmem⟩ := at_any (xs := (("num" : Str) :: bs).map V.str) d0 d1
        obtain ⟨z, hz, rfl⟩ := List.mem_map.mp hmem
        have lz : z.length ≤ 80 := by
          rcases List.mem_cons.mp hz with rfl | h
          · exact num_len
          · exact hb z h
        exact ⟨lc, _, d, .str z, rfl, rfl, SqL.of (g7.keep _ _ nlc.1 hlc6), hv, q _ (.str z) H7 (.leaf lz) (.str z (by omega)) (BQ_pos n) ((g6.trans g7).up (by omega))⟩
  · have c1 : ¬ ((n : Int) = 0) ∧ ¬ y < 2 := by
      rw [Bool.or_eq_false_iff] at c
      exact ⟨of_decide_eq_false c.1, of_decide_eq_false c.2⟩
    obtain ⟨j, rfl⟩ : ∃ j, n = j + 1 := ⟨n - 1, by omega⟩
    have em : (((j + 1 : Nat) : Int) - 1) = (j : Int) := by omega
    have eD : DQ (j + 1) = 2 + 3 * DQ j := rfl
    have eB : BQ (j + 1) = 2 + 3 * BQ j := rfl
    have rec_ : ∀ (H3 : Hp) (m3 : Nat) (Q3 : VK), PotOk H3 p cl m3 → m3 + DQ j ≤ 1000000000 → Src H3 p la ha zs hvs hs → (∀ v t H', KD j t → Rep H' v t → t.sz ≤ BQ j → GrowP p cl (m3 + DQ j) H3 H' → Q3 v H') → spPKindN (j + 1) ([V.ref p, .ref la, .ref ha, .int (((j + 1 : Nat) : Int) - 1)] ++ []) H3 Q3 E0 := fun H3 m3 Q3 h3 hm3 s3 q3 => by
      rw [em]
      exact ⟨p, cl, la, ha, m3, zs, hvs, hs, rfl, h3, hm3, s3, q3⟩
    have g2 := g1.trans (growP_same g1.ok e2)
    have src2 := src1.grow (growP_same g1.ok e2) g1.ok
    refine st_if (ts_t (ev_op (z := .bl (decide (y < 5))) (ev_var rfl) (fun _ _ => ev_c) fun H'' Q'' e'' q'' => ⟨_, _, rfl, rfl, q''⟩)) (fun c2 H3 e3 => ?_) (fun c2 H3 e3 => ?_)
    · -- an arrow
      have g3 := g2.trans (growP_same g2.ok e3)
      have src3 := src2.grow (growP_same g2.ok e3) g2.ok
      refine ⟨_, rfl, _, rfl, _, rfl, _, rfl, _, _, rfl, rfl, rec_ H3 (m + 1) _ g3.ok (by omega) src3 fun v1 t1 H4 k1 r1 b1 g4 => ?_⟩
      refine ⟨_, rfl, _, rfl, _, rfl, _, rfl, _, _, rfl, rfl, rec_ H4 (m + 1 + DQ j) _ g4.ok (by omega) (src3.grow g4 g3.ok) fun v2 t2 H5 k2 r2 b2 g5 => ?_⟩
      refine ⟨small (by show 3 ≤ 1000000; decide), fun a ha' => ?_⟩
      have e6 := same_new ha' (.tup [.str "->", v1, v2])
      refine q _ (.tup [.str "->", t1, t2]) _ (.tup arrow_nq (by simp) (by simp) fun k hk => ?_) (.tup upd_same (.cons (.str _ (by decide +kernel)) (.cons ((r1.growP g5 g4.ok).same e6) (.cons (r2.same e6) .nil)))) ?_ ((((g3.trans g4).trans g5).trans (growP_same g5.ok e6)).up (by omega))
      · simp only [List.mem_cons, List.not_mem_nil, or_false] at hk
        rcases hk with rfl | rfl
        · exact k1
        · exact k2
      · have := BQ_pos j
        simp only [T.sz, szs]
        omega
    · -- a name
      have g3 := g2.trans (growP_same g2.ok e3)
      have src3 := src2.grow (growP_same g2.ok e3) g2.ok
      have lh := src3.hr.length
      rw [List.length_map] at lh
      have h1' := src.h1
      have h9' := src.h9
      refine ⟨_, rfl, _, rfl, _, rfl, ha, _, rfl, .inl (SqL.of src3.ha), p, cl, m + 1, (hvs.length : Nat), rfl, g3.ok, by omega, by omega, by omega, fun d H4 d0 d1 g4 => ?_⟩
      have src4 := src3.grow g4 g3.ok
      have hd : d.toNat < hvs.length := by omega
      have ed : ((d.toNat : Nat) : Int) = d := by omega
      obtain ⟨a, z, k, ev, ha4, hmem⟩ := head_at src4.hr (i := d.toNat) (v := hvs[d.toNat]) (List.getElem?_eq_getElem hd)
      have hat : atI hvs d = some (.ref a) := by
        have := atI_nat (xs := hvs) (j := d.toNat) (v := hvs[d.toNat]) (List.getElem?_eq_getElem hd)
        rw [ed, ev] at this
        exact this
      obtain ⟨nz, k0, k4⟩ := src.hh _ hmem
      have lz : z.length ≤ 60 := nz.2
      have k0 : 0 ≤ k := k0
      have k4 : k < 4 := k4
      refine ⟨ha, _, d, .ref a, rfl, rfl, SqL.of src4.ha, hat, a, [.str z, .int k], rfl, SqT.of ha4, rfl, .str z, [.int k], rfl, .int k, [], rfl, rfl, ?_⟩
      refine ⟨_, rfl, rfl, _, rfl, ite2 (fun c5 => ?_) (fun c5 => ?_)⟩
      · exact ⟨_, rfl, q _ (.str z) H4 (.leaf (by omega)) (.str z (by omega)) (BQ_pos _) ((g3.trans g4).up (by omega))⟩
      · have k1 : 1 ≤ k := by
          have : ¬ (V.int k = V.int 0) := fun e => c5 (decide_eq_true e)
          have ne : k ≠ 0 := fun e => this (by rw [e])
          omega
        refine ⟨_, rfl, small (by show 1 ≤ 1000000; decide), fun a1 ha1 => ?_⟩
        have e5 := same_new ha1 (.tup [.str z])
        have g5 := growP_same g4.ok e5
        have src5 := src4.grow g5 g4.ok
        have ha15 : (upd H4 a1 (.tup [.str z])) a1 = some (.tup [.str z]) := upd_same
        revert g5 src5 ha15
        generalize upd H4 a1 (.tup [.str z]) = H5
        intro g5 src5 ha15
        refine ⟨_, rfl, k, rfl, by omega, by omega, ?_⟩
        refine comp_range (n := k.toNat) (fun i vs H' => GrowP p cl (m + 2 + i * DQ j) H5 H' ∧ ∃ ts, Reps H' vs ts ∧ ts.length = i ∧ (∀ t ∈ ts, KD j t) ∧ szs ts ≤ i * BQ j) ⟨(GrowP.refl g5.ok).up (by omega), [], .nil, rfl, (fun _ h => by cases h), by simp [szs]⟩ ?_ ?_ ?_
        · rintro i vs H' hi ⟨g, ts, hr1, hl, _⟩
          exact small' (by rw [hr1.length, hl]; omega)
        · rintro i vs H' hi ⟨g, ts, hr1, hl, hg, hb⟩
          have i3 : i * DQ j ≤ 2 * DQ j := Nat.mul_le_mul_right _ (by omega)
          refine tt1 (iteT ?_)
          refine ⟨_, rfl, _, rfl, _, rfl, _, rfl, _, _, rfl, rfl, rec_ H' (m + 2 + i * DQ j) _ g.ok (by omega) (src5.grow g g5.ok) fun v1 t1 H7 k1' r1 b1 g7 => nx hi ⟨(g.trans g7).up (by rw [Nat.add_mul]; omega), ts ++ [t1], (hr1.growP g7 g.ok).append (.cons r1 .nil), by simp [hl], fun t ht => ?_, ?_⟩⟩
          · rcases List.mem_append.mp ht with h | h
            · exact hg t h
            · rw [List.mem_singleton.mp h]; exact k1'
          · rw [szs_app, Nat.add_mul]
            simp [szs]
            omega
        · rintro vs H' ⟨g, ts, hr1, hl, hg, hb⟩ l hl'
          have e8 := same_new hl' (.lst vs)
          refine ⟨l, vs, rfl, .inl ⟨SqL.of upd_same, fun p2 hp2 => ?_⟩⟩
          have e9 := same_new hp2 (.tup vs)
          have hp9 : (upd (upd H' l (.lst vs)) p2 (.tup vs)) a1 = some (.tup [.str z]) := e9 _ _ (e8 _ _ (g.tups g5.ok _ _ ha15))
          have lvs : vs.length = ts.length := hr1.length
          have kt : k.toNat ≤ 3 := by omega
          have i3 : k.toNat * DQ j ≤ 3 * DQ j := Nat.mul_le_mul_right _ kt
          have b3 : k.toNat * BQ j ≤ 3 * BQ j := Nat.mul_le_mul_right _ kt
          refine ⟨a1, p2, [.str z], vs, rfl, rfl, SqT.of hp9, SqT.of upd_same, by simp, small (by simp; omega), fun hv => ?_, fun hv p3 hp3 => ?_⟩
          · rw [hv] at lvs
            simp at lvs
            omega
          · have e10 := same_new hp3 (.tup ([.str z] ++ vs))
            refine q _ (.tup (.str z :: ts)) _ (.tup nz (by omega) (by omega) hg) (.tup upd_same (.cons (.str z (by omega)) (hr1.same (e8.trans (e9.trans e10))))) ?_ ?_
            · simp only [T.sz, szs]
              omega
            · exact ((((g3.trans g4).trans g5).trans g).trans (growP_same g.ok (e8.trans (e9.trans e10)))).up (by omega)
theorem kinds_allP (F : Fun K "_law_kind" "_law_kind" s_kind f fd) (bF : Binds K fd ["_law_pot_here", "_law_leaves_here", "_law_heads", "_law_deep"] []) (mF : mg "_law_kind" = some (.ref f)) (ml : mg "len" = none) (mr : mg "range" = none) (mt : mg "tuple" = none)
    (h1 : Has P w K mg base 2 "_law_draw" ["_law_pot_here", "_law_many"] spDraw) : ∀ n : Nat, Has P w K mg base (2 + n) "_law_kind" ["_law_pot_here", "_law_leaves_here", "_law_heads", "_law_deep"] (spPKindN n)
  | 0 => ⟨f, fd, ⟨fun vs H Q E h => h.elim, fun A outer s H args us vs Q E _ _ _ _ h => h.elim⟩, bF, F.kp, mF⟩
  | n + 1 => ⟨f, fd, ok_kind F ml mr mt h1 (kinds_allP F bF mF ml mr mt h1 n), bF, F.kp, mF⟩
end
end Fw

set_option Elab.async false
set_option linter.all false
set_option maxRecDepth 100000
namespace Fw
open PySem PySem.Spec PyProof.Rows L2
/-! ### kinds put for variables, by a dict -/
section
variable {K : PySem.W.Frag} {H : Hp}
theorem Reps.drop {H : Hp} : ∀ {vs : List V} {ts : List T} (n : Nat), Reps H vs ts → Reps H (vs.drop n) (ts.drop n)
  | _, _, 0, r => r
  | _, _, _ + 1, .nil => .nil
  | _, _, n + 1, .cons _ q => Reps.drop n q
theorem cutn (vs : List V) (n : Nat) : cutV vs (some (n : Int)) none = vs.drop n := by
  unfold cutV
  rw [HT.sIx_none, HT.sIx_nat]
  by_cases h : n ≤ vs.length
  · rw [Nat.min_eq_left h]
    exact List.take_of_length_le (by rw [List.length_drop]; omega)
  · rw [Nat.min_eq_right (by omega), List.drop_eq_nil_of_le (Nat.le_refl _), List.drop_eq_nil_of_le (by omega)]
    simp
theorem cutn_not {vs : List V} {n : Nat} (h : vs ≠ []) (hn : 1 ≤ n) : ¬ (HT.sIx vs.length 0 (some (n : Int)) = 0 ∧ HT.sIx vs.length vs.length none = vs.length) := by
  rw [HT.sIx_nat]
  have : 0 < vs.length := List.length_pos_iff.mpr h
  omega
theorem comp_tup {a : Addr} {xs : List V} {tt : TT} {te : TE} {σ' : L2.St} {Q : VK} (Pv : Nat → List V → Hp → Prop) (h0 : Pv 0 [] H) (hl : ∀ i vs H, i ≤ xs.length → Pv i vs H → SqT K H a xs ∧ vs.length < sizeLine)
    (hs : ∀ i x vs H2, i < xs.length → xs[i]? = some x → Pv i vs H2 → tt (some x :: σ') H2 fun b H4 => if b = true then te (some x :: σ') H4 fun v H5 => Nx xs.length i (Pv (i + 1) (vs ++ [v]) H5) else Nx xs.length i (Pv (i + 1) vs H4))
    (hd : ∀ vs H2, Pv xs.length vs H2 → ∀ l, H2 l = none → Q (.ref l) (upd H2 l (.lst vs))) : CompW (Itt K a) tt te σ' Q H := by
  refine ⟨fun i m vs H => m = xs.length - i ∧ i ≤ xs.length ∧ Pv i vs H, ⟨xs.length, by simp, Nat.zero_le _, h0⟩, ?_⟩
  rintro i m vs H2 ⟨rfl, hi, p⟩
  obtain ⟨q1, q2⟩ := hl i vs H2 hi p
  refine ⟨q2, ?_⟩
  by_cases hlt : i < xs.length
  · refine .inr ⟨⟨xs, xs[i], q1, by simp [hlt]⟩, ?_⟩
    rintro x H3 ⟨e, y⟩
    subst e
    exact hs i x vs _ hlt (y xs q1) p
  · have e : i = xs.length := by omega
    subst e
    exact .inl ⟨⟨xs, q1, Nat.le_refl _⟩, hd vs H2 p⟩
end
theorem cut_head (v : V) (r : List V) (h : 1 ≤ r.length) : cutV (v :: r) none (some 1) = [v] := by
  have e : cutV (v :: r) none (some ((1 : Nat) : Int)) = [v] := by
    unfold cutV
    rw [HT.sIx_none, HT.sIx_nat, List.drop_zero, Nat.sub_zero, Nat.min_eq_left (by simp)]
    rfl
  exact e
theorem cut_head_not (v : V) (r : List V) (h : 1 ≤ r.length) : ¬ (HT.sIx (v :: r).length 0 none = 0 ∧ HT.sIx (v :: r).length (v :: r).length (some 1) = (v :: r).length) := by
  have e : HT.sIx (v :: r).length (v :: r).length (some ((1 : Nat) : Int)) = min 1 (v :: r).length := HT.sIx_nat ..
  intro z
  have z2 := z.2
  rw [show (some (1 : Int)) = some ((1 : Nat) : Int) from rfl, e] at z2
  have l : (v :: r).length = r.length + 1 := rfl
  omega
inductive DReps (H : Hp) : List (Key × V) → List (Str × T) → Prop where
  | nil : DReps H [] []
  | cons {z : Str} {v : V} {t : T} {kvs : List (Key × V)} {m : List (Str × T)} (r : Rep H v t) (q : DReps H kvs m) : DReps H ((Sum.inr z, v) :: kvs) ((z, t) :: m)
theorem DReps.mono {H H' : Hp} (e : ∀ b xs, H b = some (.tup xs) → H' b = some (.tup xs)) : ∀ {kvs : List (Key × V)} {m : List (Str × T)}, DReps H kvs m → DReps H' kvs m
  | _, _, .nil => .nil
  | _, _, .cons r q => .cons (r.mono e) (q.mono e)
theorem DReps.get {H : Hp} (z : Str) : ∀ {kvs : List (Key × V)} {m : List (Str × T)}, DReps H kvs m → (valV kvs (Sum.inr z) = none ∧ m.lookup z = none) ∨ ∃ v t, valV kvs (Sum.inr z) = some v ∧ m.lookup z = some t ∧ Rep H v t
  | _, _, .nil => .inl ⟨rfl, rfl⟩
  | _, _, .cons (z := y) (v := v) (t := t) (kvs := kvs) (m := m) r q => by
    by_cases h : y = z
    · subst h
      refine .inr ⟨v, t, by simp [valV], by simp [List.lookup_cons], r⟩
    · have e1 : valV ((Sum.inr y, v) :: kvs) (Sum.inr z) = valV kvs (Sum.inr z) := by
        unfold valV
        rw [List.find?_cons]
        have : decide ((Sum.inr y : Key) = Sum.inr z) = false := decide_eq_false fun e => h (Sum.inr.inj e)
        simp only [this]
      have e2 : ((y, t) :: m).lookup z = m.lookup z := by
        rw [List.lookup_cons]
        have : (z == y) = false := beq_false_of_ne (Ne.symm h)
        rw [this]
      rw [e1, e2]
      exact q.get z
mutual
def fillT (m : List (Str × T)) : T → T
  | .int i => .int i
  | .str z => (m.lookup z).getD (.str z)
  | .tup l => .tup (fill1 m l)
def fill1 (m : List (Str × T)) : List T → List T
  | [] => []
  | h :: r => h :: fills m r
def fills (m : List (Str × T)) : List T → List T
  | [] => []
  | t :: r => fillT m t :: fills m r
end
theorem fills_map (m : List (Str × T)) : ∀ l, fills m l = l.map (fillT m)
  | [] => by simp [fills]
  | t :: r => by simp [fills, fills_map m r]
def spFill (n : Nat) : Sp := fun vs H Q _ => ∃ (v : V) (b : Addr) (t : T) (kvs : List (Key × V)) (m : List (Str × T)), vs = [v, .ref b] ∧ Rep H v t ∧ KD n t ∧ H b = some (.dK kvs) ∧ DReps H kvs m ∧ ∀ v' H', Same H H' → Rep H' v' (fillT m t) → Q v' H'
def spFillN : Nat → Sp
  | 0 => fun _ _ _ _ => False
  | n + 1 => spFill n
section
variable {P : Program} {w : World} {K : PySem.W.Frag} {mg : Str → Option Value} {base : Heap} {f : Addr} {fd : FuncData}
abbrev s_filled : Stmt := top 18
theorem sc_filled : FnScope ["_law_kind_here", "_law_by_here"] ["_law_kind_here", "_law_by_here"] (defScope s_filled) := ⟨rfl, rfl, rfl, by decide +kernel, rfl, by decide +kernel, by decide +kernel⟩
set_option maxHeartbeats 1000000 in
theorem ok_filled {n : Nat} (F : Fun K "_law_filled" "_law_filled" s_filled f fd) (mi : mg "isinstance" = none) (mt : mg "tuple" = none) (h2 : Has P w K mg base n "_law_filled" ["_law_kind_here", "_law_by_here"] (spFillN n)) : FnOk P w K mg base CX0 (n + 1) f fd ["_law_kind_here", "_law_by_here"] (spFill n) := by
  refine F.ok sc_filled (fun vs H Q E h => ?_) (fun cdv A outer s H vs Q E hr h => ?_)
  · obtain ⟨v, b, t, kvs, m, rfl, _⟩ := h
    rfl
  obtain ⟨v, b, t, kvs, m, rfl, rt, kt, hb, dr, q⟩ := h
  have hu := hu_of hr
  refine ⟨_, pss_cons (ps_if (pt_val (pe_callB call_isi rfl mi boot_isinstance (pa_cons (pv 0) (pa_cons (pe_bltn (v := .ty "tuple") rfl mt boot_tuple rfl) pa_nil))))
      (pss_one (ps_ret (pe_op op_catT (pe_slice sl_tup (pv 0) po_none (po_some pe_int)) (pe_callTy call_tuple_of rfl mt boot_tuple (pa_cons
        (pe_lc (defScope s_filled) ["_law_kind_here", "_law_by_here"] ["_law_by_here"] [1] (by decide +kernel) (pi_tup (pe_slice sl_tup (pv 0) (po_some pe_int) po_none)) (fun C s₀ H₀ ex => pts_nil)
          (fun C s₀ H₀ ex => pcall h2 hr (Nat.le_refl _) rfl (pa_cons (pv 0) (pa_cons (pv 1) pa_nil)))) pa_nil))))) pss_nil)
    (pss_one (ps_ret (pe_dget2 hu (pv 1) (pv 0) (pv 0) ⟨rfl, rfl, rfl, rfl⟩))), ?_⟩
  refine st_if (ts_b (ev_isi (ev_var rfl) rt (kit_tup K))) (fun c H1 e1 => ?_) (fun c H1 e1 => ?_)
  · cases kt with
    | leaf h => cases c
    | @tup j z ks nz k1 k3 hk =>
      cases rt with
      | @tup a vs _ hta rr =>
        cases rr with
        | @cons v0 _ vr _ r0 rr =>
          have lr := rr.length
          refine ⟨_, rfl, 1, rfl, a, _, rfl, SqT.of (e1 _ _ hta), cut_head_not v0 vr (by omega), fun p1 hp1 => ?_⟩
          rw [cut_head v0 vr (by omega)]
          have e2 := same_new hp1 (.tup [v0])
          refine ⟨_, rfl, 1, rfl, a, _, rfl, SqT.of (e2 _ _ (e1 _ _ hta)), cutn_not (vs := v0 :: vr) (n := 1) (by simp) (Nat.le_refl _), fun p2 hp2 => ?_⟩
          have ec : cutV (v0 :: vr) (some 1) none = vr := cutn (v0 :: vr) 1
          rw [ec]
          have e3 := same_new hp2 (.tup vr)
          have hp2' : (upd (upd H1 p1 (.tup [v0])) p2 (.tup vr)) p2 = some (.tup vr) := upd_same
          have hp1' : (upd (upd H1 p1 (.tup [v0])) p2 (.tup vr)) p1 = some (.tup [v0]) := e3 _ _ upd_same
          have eA := (e1.trans e2).trans e3
          revert hp2' hp1' eA
          generalize upd (upd H1 p1 (.tup [v0])) p2 (.tup vr) = H3
          intro hp2' hp1' eA
          refine ⟨p2, rfl, ⟨_, SqT.of hp2'⟩, comp_tup (xs := vr) (fun i ws H' => Same H3 H' ∧ Reps H' ws (fills m (ks.take i))) ⟨Same.refl _, by simp [fills]; exact .nil⟩ ?_ ?_ ?_⟩
          · rintro i ws H' hi ⟨e, rw'⟩
            refine ⟨SqT.of (e _ _ hp2'), small' ?_⟩
            rw [rw'.length, fills_map, List.length_map, List.length_take]
            omega
          · rintro i x ws H' hi hx ⟨e, rw'⟩
            obtain ⟨t', ht', rx⟩ := rr.at2 hx
            have hmem : t' ∈ ks := List.mem_of_getElem? ht'
            refine tt1 (iteT ⟨_, rfl, _, rfl, x, b, t', kvs, m, rfl, rx.same (eA.trans e), hk t' hmem, (eA.trans e) _ _ hb, dr.mono (Same.tups (eA.trans e)), fun v' H'' e'' r'' => nx hi ⟨e.trans e'', ?_⟩⟩)
            have et : ks.take (i + 1) = ks.take i ++ [t'] := by
              rw [List.take_add_one, ht']
              rfl
            rw [et, fills_map, List.map_append, ← fills_map]
            exact (rw'.same e'').append (.cons r'' .nil)
          · rintro ws H' ⟨e, rw'⟩ l hl
            have e4 := same_new hl (.lst ws)
            refine ⟨l, ws, rfl, .inl ⟨SqL.of upd_same, fun p4 hp4 => ?_⟩⟩
            have e5 := same_new hp4 (.tup ws)
            have lw : ws.length = ks.length := by
              rw [rw'.length, fills_map, List.length_map, List.length_take]
              omega
            rw [List.take_of_length_le (by omega)] at rw'
            refine ⟨p1, p4, [v0], ws, rfl, rfl, SqT.of ((e.trans (e4.trans e5)) _ _ hp1'), SqT.of upd_same, by simp, small (by simp; omega), fun hv => ?_, fun _ p5 hp5 => ?_⟩
            · rw [hv] at lw
              simp at lw
              omega
            · have e6 := same_new hp5 (.tup ([v0] ++ ws))
              have eZ := (e4.trans e5).trans e6
              refine q _ _ ((eA.trans e).trans eZ) ?_
              show Rep _ _ (.tup (fill1 m (.str z :: ks)))
              show Rep _ _ (.tup (.str z :: fills m ks))
              exact .tup upd_same (.cons (r0.same ((eA.trans e).trans eZ)) (rw'.same eZ))
  · cases kt with
    | tup nz k1 k3 hk => cases c
    | @leaf _ z h =>
      cases rt
      refine ⟨_, rfl, b, rfl, .inl ⟨kvs, .inl (e1 _ _ hb)⟩, _, rfl, _, rfl, ?_⟩
      have g := DGet.k (k := Sum.inr z) (e1 _ _ hb)
      refine ⟨_, g, ?_⟩
      rcases dr.get z with ⟨h1, h2'⟩ | ⟨v', t', h1, h2', r'⟩
      · rw [h1]
        refine q _ H1 e1 ?_
        show Rep H1 (.str z) ((m.lookup z).getD (.str z))
        rw [h2']
        exact .str z (by omega)
      · rw [h1]
        refine q _ H1 e1 ?_
        show Rep H1 v' ((m.lookup z).getD (.str z))
        rw [h2']
        exact r'.same e1
theorem filled_all (F : Fun K "_law_filled" "_law_filled" s_filled f fd) (bF : Binds K fd ["_law_kind_here", "_law_by_here"] []) (mF : mg "_law_filled" = some (.ref f)) (mi : mg "isinstance" = none) (mt : mg "tuple" = none) : ∀ n : Nat, Has P w K mg base n "_law_filled" ["_law_kind_here", "_law_by_here"] (spFillN n)
  | 0 => ⟨f, fd, ⟨fun vs H Q E h => h.elim, fun A outer s H args us vs Q E _ _ _ _ h => h.elim⟩, bF, F.kp, mF⟩
  | n + 1 => ⟨f, fd, ok_filled F mi mt (filled_all F bF mF mi mt n), bF, F.kp, mF⟩
end
end Fw

set_option Elab.async false
set_option linter.all false
set_option maxRecDepth 100000
namespace Fw
open PySem PySem.Spec PyProof.Rows L2
/-! ### a dict of kinds for leaves -/
theorem DReps.snoc {H : Hp} {z : Str} {v : V} {t : T} (r : Rep H v t) : ∀ {kvs : List (Key × V)} {m : List (Str × T)}, DReps H kvs m → DReps H (kvs ++ [(Sum.inr z, v)]) (m ++ [(z, t)])
  | _, _, .nil => .cons r .nil
  | _, _, .cons r' q => .cons r' (q.snoc r)
theorem DReps.length {H : Hp} : ∀ {kvs : List (Key × V)} {m : List (Str × T)}, DReps H kvs m → kvs.length = m.length
  | _, _, .nil => rfl
  | _, _, .cons _ q => congrArg (· + 1) q.length
theorem lookup_no {z : Str} : ∀ {m : List (Str × T)}, (∀ p ∈ m, p.1 ≠ z) → m.lookup z = none
  | [], _ => rfl
  | (a, b) :: r, h => by
    have h1 : (z == a) = false := beq_false_of_ne fun e => h (a, b) List.mem_cons_self e.symm
    rw [List.lookup_cons, h1]
    exact lookup_no fun p hp => h p (List.mem_cons_of_mem _ hp)
def spKindLe (N : Nat) : Sp := fun vs H Q E => ∃ n, n ≤ N ∧ spPKind n vs H Q E
def spBy : Sp := fun vs H Q _ => ∃ (p cl la ha : Addr) (m : Nat) (zs : List Str) (hvs : List V) (hs : List (Str × Int)), vs = [.ref p, .ref la, .ref ha] ∧ PotOk H p cl m ∧ m + 1000 ≤ 1000000000 ∧ Src H p la ha zs hvs hs ∧ zs.Nodup ∧
  ∀ (b : Addr) (kvs : List (Key × V)) (mm : List (Str × T)) H', H b = none → H' b = some (.dK kvs) → DReps H' kvs mm → kvs.length ≤ 12 → (∀ x ∈ mm, KD 2 x.2 ∧ x.2.sz ≤ BQ 2 ∧ x.1 ∈ zs) → GrowP p cl (m + 1000) H H' → Q (.ref b) H'
theorem DQ_le : ∀ n, n ≤ 2 → DQ n ≤ 26
  | 0, _ => by decide
  | 1, _ => by decide
  | 2, _ => by decide
  | n + 3, h => by omega
theorem BQ_le : ∀ n, n ≤ 2 → BQ n ≤ BQ 2
  | 0, _ => by decide
  | 1, _ => by decide
  | 2, _ => by decide
  | n + 3, h => by omega
theorem KD.up {n m : Nat} {t : T} (h : KD n t) (q : n ≤ m) : KD m t := by
  induction h generalizing m with
  | leaf h => exact .leaf h
  | @tup n z ks nz h1 h3 hk ih =>
    obtain ⟨j, rfl⟩ : ∃ j, m = j + 1 := ⟨m - 1, by omega⟩
    exact .tup nz h1 h3 fun k hk' => ih k hk' (by omega)
section
variable {P : Program} {w : World} {K : PySem.W.Frag} {mg : Str → Option Value} {base : Heap} {f : Addr} {fd : FuncData}
theorem kinds_le (F : Fun K "_law_kind" "_law_kind" s_kind f fd) (bF : Binds K fd ["_law_pot_here", "_law_leaves_here", "_law_heads", "_law_deep"] []) (mF : mg "_law_kind" = some (.ref f)) (ml : mg "len" = none) (mr : mg "range" = none) (mt : mg "tuple" = none)
    (h1 : Has P w K mg base 2 "_law_draw" ["_law_pot_here", "_law_many"] spDraw) (N : Nat) : Has P w K mg base (2 + N + 1) "_law_kind" ["_law_pot_here", "_law_leaves_here", "_law_heads", "_law_deep"] (spKindLe N) := by
  have all : ∀ n, n ≤ N → FnOk P w K mg base CX0 (2 + N + 1) f fd ["_law_pot_here", "_law_leaves_here", "_law_heads", "_law_deep"] (spPKind n) := fun n hn => (ok_kind F ml mr mt h1 (kinds_allP F bF mF ml mr mt h1 n)).mono (by omega)
  refine ⟨f, fd, ⟨fun vs H Q E h => ?_, fun A outer s H args us vs Q E a1 a2 a3 a4 h => ?_⟩, bF, F.kp, mF⟩
  · obtain ⟨n, hn, h⟩ := h
    exact (all n hn).len vs H Q E h
  · obtain ⟨n, hn, h⟩ := h
    exact (all n hn).run A outer s H args us vs Q E a1 a2 a3 a4 h
abbrev s_by : Stmt := top 19
theorem sc_by : FnScope ["_law_pot_here", "_law_leaves_here", "_law_heads", "_law_by_here", "_law_name"] ["_law_pot_here", "_law_leaves_here", "_law_heads"] (defScope s_by) := ⟨rfl, rfl, rfl, by decide +kernel, rfl, by decide +kernel, by decide +kernel⟩
set_option maxHeartbeats 1000000 in
theorem ok_by (F : Fun K "_law_by" "_law_by" s_by f fd) (h1 : Has P w K mg base 2 "_law_draw" ["_law_pot_here", "_law_many"] spDraw) (h2 : Has P w K mg base 5 "_law_kind" ["_law_pot_here", "_law_leaves_here", "_law_heads", "_law_deep"] (spKindLe 2)) :
    FnOk P w K mg base CX0 6 f fd ["_law_pot_here", "_law_leaves_here", "_law_heads"] spBy := by
  refine F.ok sc_by (fun vs H Q E h => ?_) (fun cdv A outer s H vs Q E hr h => ?_)
  · obtain ⟨p, cl, la, ha, m, zs, hvs, hs, rfl, _⟩ := h
    rfl
  obtain ⟨p, cl, la, ha, m, zs, hvs, hs, rfl, hp, hm, src, nd, q⟩ := h
  have hu := hu_of hr
  refine ⟨_, pss_cons (ps_set (i := 3) sc_by.nd rfl (Or.inl rfl) pe_dnewK)
    (pss_cons (ps_for PassesOwn.never rfl (pi_list (pv 1)) (pg_name (i := 4) sc_by.nd rfl (Or.inl rfl))
      (pss_one (ps_if (pt_cmpR op_gt (pcall h1 hr (by decide) rfl (pa_cons (pv 0) (pa_cons pe_int pa_nil))) pe_int (nomark _))
        (pss_one (ps_dput hu (pv 3) (pv 4) (pcall h2 hr (by decide) rfl (pa_cons (pv 0) (pa_cons (pv 1) (pa_cons (pv 2) (pa_cons (pcall h1 hr (by decide) rfl (pa_cons (pv 0) (pa_cons pe_int pa_nil))) pa_nil))))) rfl)) pss_nil)))
    (pss_one (ps_ret (pv 3)))), ?_⟩
  intro b hb
  obtain ⟨nbp, nbc⟩ := hp.fresh hb
  have e1 := same_new hb (.dK [])
  have l12 := src.lz
  have nla : la ≠ b := ne_of_none src.la hb
  refine ⟨_, rfl, la, rfl, ⟨_, SqL.of (e1 _ _ src.la)⟩, for_list (xs := zs.map V.str) (fun i σ H' => ∃ (o : Option V) (kvs : List (Key × V)) (mm : List (Str × T)), σ = [some (.ref p), some (.ref la), some (.ref ha), some (.ref b), o] ∧ H' b = some (.dK kvs) ∧ DReps H' kvs mm ∧ kvs.length ≤ i ∧
      (∀ x ∈ mm, KD 2 x.2 ∧ x.2.sz ≤ BQ 2 ∧ x.1 ∈ zs.take i) ∧ (∀ c o, c ≠ p → H c = some o → H' c = some o) ∧ PotOk H' p cl (m + i * 30) ∧ Src H' p la ha zs hvs hs)
    ⟨none, [], [], rfl, upd_same, .nil, Nat.le_refl _, (fun _ h => by cases h), (fun c o _ e => e1 c o e), by simpa using hp.upd nbp nbc, src.grow (growP_same hp e1) hp⟩ ?_ ?_ ?_⟩
  · rintro i σ H' hi ⟨o, kvs, mm, rfl, _, _, _, _, _, _, s'⟩
    exact SqL.of s'.la
  · rintro i x σ H2 hx ⟨o, kvs, mm, rfl, hb2, dr, lk, hmm, keep2, ok2, src2⟩
    rw [List.getElem?_map] at hx
    cases hz : zs[i]? with
    | none => rw [hz] at hx; cases hx
    | some z =>
      rw [hz] at hx
      obtain rfl : V.str z = x := Option.some.inj hx
      have hi : i < zs.length := (List.getElem?_eq_some_iff.mp hz).1
      have et : zs.take (i + 1) = zs.take i ++ [z] := by
        rw [List.take_add_one, hz]
        rfl
      have mono : ∀ x ∈ zs.take i, x ∈ zs.take (i + 1) := fun x hx => by rw [et]; exact List.mem_append_left _ hx
      have i30 : (i + 1) * 30 = i * 30 + 30 := by omega
      refine ⟨_, rfl, p, cl, m + i * 30, 3, rfl, ok2, by omega, by decide, by decide, fun d H3 d0 d1 g3 => ⟨_, _, rfl, rfl, _, rfl, ?_⟩⟩
      have hb3 := g3.keep _ _ nbp hb2
      have src3 := src2.grow g3 ok2
      refine ite2 (fun c => ?_) (fun c => ?_)
      · refine ⟨_, rfl, _, rfl, _, rfl, _, rfl, p, cl, m + i * 30 + 1, 3, rfl, g3.ok, by omega, by decide, by decide, fun e H4 e0 e1' g4 => ?_⟩
        obtain ⟨k, rfl⟩ : ∃ k : Nat, e = k := ⟨e.toNat, by omega⟩
        have k2 : k ≤ 2 := by omega
        have dk := DQ_le k k2
        have src4 := src3.grow g4 g3.ok
        refine ⟨k, k2, p, cl, la, ha, m + i * 30 + 2, zs, hvs, hs, rfl, g4.ok, by omega, src4, fun v t H5 kt rt st g5 => ?_⟩
        have g35 := g4.trans g5
        have hb5 := g35.keep _ _ nbp hb3
        have dr5 : DReps H5 kvs mm := dr.mono fun c xs h => g35.tups g3.ok c xs (g3.tups ok2 c xs h)
        refine ⟨_, rfl, _, rfl, b, _, rfl, DPut.k (k := Sum.inr z) (v := v) hb5 (small' (by omega)), ?_⟩
        have no : mm.lookup z = none := lookup_no fun y hy e => by
          have h := (hmm y hy).2.2
          rw [e] at h
          have nd1 : (zs.take (i + 1)).Nodup := nd.sublist (List.take_sublist _ _)
          rw [et, List.nodup_append] at nd1
          exact nd1.2.2 z h z (by simp) rfl
        have vn : valV kvs (Sum.inr z) = none := by
          rcases dr5.get z with ⟨h, _⟩ | ⟨v', t', _, h, _⟩
          · exact h
          · rw [no] at h; cases h
        rw [putK_new v vn]
        have tupsU : ∀ c xs, H5 c = some (.tup xs) → (upd H5 b (.dK (kvs ++ [(Sum.inr z, v)]))) c = some (.tup xs) := fun c xs h => by
          rw [upd_ne (ne_of h hb5 (by intro z; cases z))]; exact h
        have src5 := src4.grow g5 g4.ok
        refine ⟨_, kvs ++ [(Sum.inr z, v)], mm ++ [(z, t)], rfl, upd_same, (dr5.snoc rt).mono tupsU, by simp; omega, fun y hy => ?_, fun c o hc h => ?_, (g5.ok.upd nbp nbc).mono (by omega), ?_⟩
        · rcases List.mem_append.mp hy with h | h
          · exact ⟨(hmm y h).1, (hmm y h).2.1, mono _ (hmm y h).2.2⟩
          · rw [List.mem_singleton.mp h]
            exact ⟨kt.up k2, Nat.le_trans st (BQ_le k k2), by rw [et]; simp⟩
        · rw [upd_ne (ne_of_none h hb)]
          exact g35.keep c o hc (g3.keep c o hc (keep2 c o hc h))
        · exact ⟨by rw [upd_ne nla]; exact src5.la, src.lz, src.hz, by rw [upd_ne (ne_of_none src.ha hb)]; exact src5.ha, src5.hr.mono tupsU, src.h1, src.h9, src.hh⟩
      · exact ⟨_, kvs, mm, rfl, hb3, dr.mono (g3.tups ok2), by omega, fun y hy => ⟨(hmm y hy).1, (hmm y hy).2.1, mono _ (hmm y hy).2.2⟩, fun c o hc h => g3.keep c o hc (keep2 c o hc h), g3.ok.mono (by omega), src3⟩
  · rintro σ H2 ⟨o, kvs, mm, rfl, hb2, dr, lk, hmm, keep2, ok2, src2⟩
    rw [List.length_map] at lk hmm ok2
    exact ⟨_, rfl, q b kvs mm H2 hb hb2 dr (by omega) (fun y hy => ⟨(hmm y hy).1, (hmm y hy).2.1, List.mem_of_mem_take (hmm y hy).2.2⟩) ⟨keep2, ok2.mono (by omega)⟩⟩
end
end Fw

set_option Elab.async false
set_option linter.all false
set_option maxRecDepth 100000
namespace Fw
open PySem PySem.Spec PyProof.Rows L2
/-! ### a kind and the kinds within it, outer first -/
mutual
def pre : T → List T
  | .tup l => .tup l :: pre1 l
  | .str z => [.str z]
  | .int i => [.int i]
def pre1 : List T → List T
  | [] => []
  | _ :: ks => pres ks
def pres : List T → List T
  | [] => []
  | t :: r => pre t ++ pres r
end
theorem pres_app : ∀ (a b : List T), pres (a ++ b) = pres a ++ pres b
  | [], b => rfl
  | t :: r, b => by show pre t ++ pres (r ++ b) = (pre t ++ pres r) ++ pres b; rw [pres_app r b, List.append_assoc]
theorem szs_reverse (l : List T) : szs l.reverse = szs l := by
  induction l with
  | nil => rfl
  | cons t r ih => rw [List.reverse_cons, szs_app, ih]; show szs r + (t.sz + 0) = t.sz + szs r; omega
theorem Reps.reverse {H : Hp} : ∀ {vs : List V} {ts : List T}, Reps H vs ts → Reps H vs.reverse ts.reverse
  | _, _, .nil => .nil
  | _, _, .cons r q => by rw [List.reverse_cons, List.reverse_cons]; exact q.reverse.append (.cons r .nil)
theorem cutq (vs : List V) (n : Nat) : cutV vs (some (n : Int)) none = vs.drop n := by
  unfold cutV
  rw [HT.sIx_none, HT.sIx_nat]
  by_cases h : n ≤ vs.length
  · rw [Nat.min_eq_left h, List.take_of_length_le (by rw [List.length_drop]; omega)]
  · rw [Nat.min_eq_right (by omega), List.drop_eq_nil_of_le (Nat.le_refl _), List.drop_eq_nil_of_le (by omega)]
    simp
theorem cutq_not {vs : List V} {n : Nat} (h : vs ≠ []) (hn : 1 ≤ n) : ¬ (HT.sIx vs.length 0 (some (n : Int)) = 0 ∧ HT.sIx vs.length vs.length none = vs.length) := by
  rw [HT.sIx_nat]
  have : 0 < vs.length := List.length_pos_iff.mpr h
  rintro ⟨e, _⟩
  rcases Nat.le_total n vs.length with z | z
  · rw [Nat.min_eq_left z] at e; omega
  · rw [Nat.min_eq_right z] at e; omega
def openT : T → Bool
  | .str z => Txt.startswith z "?"
  | _ => false
def spOpen : Sp := fun vs H Q _ => ∃ v t, vs = [v] ∧ Rep H v t ∧ Q (.bl (openT t)) H
def spOuter : Sp := fun vs H Q _ => ∃ v t n, vs = [v] ∧ Rep H v t ∧ KD n t ∧ t.sz ≤ 100000 ∧ ∀ (l : Addr) (ws : List V) H', Same H H' → H l = none → H' l = some (.lst ws) → Reps H' ws (pre t) → ws.length ≤ 100000 → Q (.ref l) H'
section
variable {P : Program} {w : World} {K : PySem.W.Frag} {mg : Str → Option Value} {base : Heap} {f : Addr} {fd : FuncData}
abbrev s_is_open : Stmt := top 2
abbrev s_outer : Stmt := top 5
theorem sc_is_open : FnScope ["thing"] ["thing"] (defScope s_is_open) := ⟨rfl, rfl, rfl, by decide +kernel, rfl, by decide +kernel, by decide +kernel⟩
theorem ok_is_open (F : Fun K "is_open" "is_open" s_is_open f fd) (mi : mg "isinstance" = none) (ms : mg "str" = none) : FnOk P w K mg base CX0 1 f fd ["thing"] spOpen := by
  refine F.ok sc_is_open (fun vs H Q E h => ?_) (fun cdv A outer s H vs Q E hr h => ?_)
  · obtain ⟨v, t, rfl, _⟩ := h
    rfl
  obtain ⟨v, t, rfl, rt, q⟩ := h
  refine ⟨_, pss_one (ps_ret (pe_and (pe_callB call_isi rfl mi boot_isinstance (pa_cons (pv 0) (pa_cons (pe_bltn (v := .ty "str") rfl ms boot_str rfl) pa_nil)))
    (pe_one (pe_bm PySem.F.plainAttrs_str PySem.F.slot_str_startswith PySem.F.type_str_startswith mt_startswith (pv 0) (pa_cons pe_str pa_nil))))), ?_⟩
  refine ⟨_, rfl, _, _, _, _, rfl, rep_ty rt, kit_str K t, _, rfl, ?_⟩
  cases rt with
  | int i => exact iteF q
  | tup h r => exact iteF q
  | str z hz => exact iteT ⟨_, rfl, rfl, z, "?", rfl, rfl, q⟩
theorem sc_outer : FnScope ["kind", "waiting", "parts", "part"] ["kind"] (defScope s_outer) := ⟨rfl, rfl, rfl, by decide +kernel, rfl, by decide +kernel, by decide +kernel⟩
set_option maxHeartbeats 1000000 in
theorem ok_outer (F : Fun K "outer_first" "outer_first" s_outer f fd) (ml : mg "len" = none) (mi : mg "isinstance" = none) (mt : mg "tuple" = none) (mL : mg "list" = none) (mr : mg "reversed" = none) : FnOk P w K mg base CX0 1 f fd ["kind"] spOuter := by
  refine F.ok sc_outer (fun vs H Q E h => ?_) (fun cdv A outer s H vs Q E hr h => ?_)
  · obtain ⟨v, t, n, rfl, _⟩ := h
    rfl
  obtain ⟨v, t, n, rfl, rt, kt, hsz, q⟩ := h
  refine ⟨_, pss_cons (ps_set (i := 1) sc_outer.nd rfl (Or.inl rfl) (pe_lst (pa_cons (pv 0) pa_nil)))
    (pss_cons (ps_set (i := 2) sc_outer.nd rfl (Or.inl rfl) (pe_lst pa_nil))
    (pss_cons (ps_while PassesOwn.never (pt_cmpR op_gt (pe_callB call_len_seq rfl ml PySem.boot_len (pa_cons (pv 1) pa_nil)) pe_int (nomark _))
      (pss_cons (ps_set (i := 3) sc_outer.nd rfl (Or.inl rfl) (pe_bm0 PySem.F.plainAttrs_list PySem.F.slot_list_pop PySem.F.type_list_pop mt_pop (pv 1)))
      (pss_cons (ps_expr (pe_bm PySem.F.plainAttrs_list PySem.F.slot_list_append PySem.F.type_list_append mt_append (pv 2) (pa_cons (pv 3) pa_nil)))
      (pss_one (ps_if (pt_val (pe_callB call_isi rfl mi boot_isinstance (pa_cons (pv 3) (pa_cons (pe_bltn (v := .ty "tuple") rfl mt boot_tuple rfl) pa_nil))))
        (pss_one (ps_expr (pe_bm PySem.F.plainAttrs_list PySem.F.slot_list_extend PySem.F.type_list_extend mt_extend (pv 1) (pa_cons (pe_listRev rfl rfl mL rfl mr (pe_slice sl_tup (pv 3) (po_some pe_int) po_none)) pa_nil)))) pss_nil)))))
    (pss_one (ps_ret (pv 2))))), ?_⟩
  refine ⟨_, rfl, small (by show 1 ≤ 1000000; decide), fun lw hlw => ?_⟩
  refine ⟨small (by show 0 ≤ 1000000; decide), fun lp hlp => ?_⟩
  have hlp0 : H lp = none := (same_new hlw (.lst [v])).free hlp
  have nwp : lw ≠ lp := fun e => by rw [e] at hlw; rw [← e, upd_same] at hlp; cases hlp
  have e0 : Same H (upd (upd H lw (.lst [v])) lp (.lst [])) := (same_new hlw _).trans (same_new hlp _)
  refine ⟨fun m σ H' => ∃ (o : Option V) (ws ps : List V) (ts ds : List T), σ = [some v, some (.ref lw), some (.ref lp), o] ∧ H' lw = some (.lst ws) ∧ H' lp = some (.lst ps) ∧ Reps H' ws ts ∧ Reps H' ps ds ∧
      pre t = ds ++ pres ts.reverse ∧ (∀ t' ∈ ts, ∃ n, KD n t') ∧ m = szs ts ∧ ds.length + szs ts ≤ 100000 ∧ Same H H',
    ⟨szs [t], none, [v], [], [t], [], rfl, by rw [upd_ne nwp]; exact upd_same, upd_same, .cons (rt.same e0) .nil, .nil, by simp [pres], fun t' h => ⟨n, by rw [List.mem_singleton.mp h]; exact kt⟩, rfl, by simpa [szs] using hsz, e0⟩, ?_⟩
  rintro m σ H1 ⟨o, ws, ps, ts, ds, rfl, hw1, hp1, rw1, rp1, pre1', kd1, rfl, hs1, e1⟩
  refine ⟨_, rfl, lw, ws, rfl, .inl (SqL.of hw1), _, _, rfl, rfl, _, rfl, ?_⟩
  refine ite2 (fun c => ?_) (fun c => ?_)
  · have c1 : (0 : Int) < ws.length := of_decide_eq_true c
    have ne : ws ≠ [] := fun e => by rw [e] at c1; simp at c1
    obtain ⟨ws, us, v', t', rfl, rfl, hws, hv'⟩ := rw1.snoc_inv ne
    obtain ⟨n', kd'⟩ := kd1 t' (by simp)
    have tups2 : ∀ b xs, H1 b = some (.tup xs) → (upd H1 lw (.lst (ws ++ [v']).dropLast)) b = some (.tup xs) := fun b xs h => by
      rw [upd_ne (ne_of h hw1 (by intro z; cases z))]; exact h
    have sz1 : szs (us ++ [t']) = szs us + t'.sz := by rw [szs_app]; simp [szs]
    have lps := rp1.length
    have lus := hws.length
    have lsz := len_szs us
    refine ⟨_, fun _ _ h => h, ?_⟩
    refine ⟨_, rfl, .inl ⟨rfl, _, SqL.of hw1⟩, lw, ws ++ [v'], v', rfl, rfl, hw1, by simp, ?_⟩
    rw [List.dropLast_concat] at tups2 ⊢
    have hp2 : (upd H1 lw (.lst ws)) lp = some (.lst ps) := by rw [upd_ne (Ne.symm nwp)]; exact hp1
    refine ⟨_, rfl, .inl ⟨rfl, _, SqL.of hp2⟩, _, rfl, lp, ps, v', rfl, rfl, hp2, small' (by omega), ?_⟩
    generalize hH3 : upd (upd H1 lw (.lst ws)) lp (.lst (ps ++ [v'])) = H3
    have hw3 : H3 lw = some (.lst ws) := by rw [← hH3, upd_ne nwp]; exact upd_same
    have hp3 : H3 lp = some (.lst (ps ++ [v'])) := by rw [← hH3]; exact upd_same
    have tups3 : ∀ b xs, H1 b = some (.tup xs) → H3 b = some (.tup xs) := fun b xs h => by
      rw [← hH3, upd_ne (ne_of (tups2 b xs h) hp2 (by intro z; cases z))]; exact tups2 b xs h
    have e3 : Same H H3 := fun b u h => by
      rw [← hH3, upd_ne (ne_of_none h hlp0), upd_ne (ne_of_none h hlw)]; exact e1 b u h
    have rv3 := hv'.mono tups3
    refine ⟨_, rfl, _, _, _, _, rfl, rep_ty rv3, kit_tup K t', ?_⟩
    refine ⟨_, rfl, ?_⟩
    cases kd' with
    | @leaf _ z hz =>
      refine iteF ?_
      refine ⟨szs us, by rw [sz1]; have := sz_pos (.str z); omega, some v', ws, ps ++ [v'], us, ds ++ [.str z], rfl, hw3, hp3, hws.mono tups3, (rp1.mono tups3).append (.cons rv3 .nil), ?_, fun x hx => kd1 x (by simp [hx]), rfl, ?_, e3⟩
      · rw [pre1', List.reverse_append]
        show ds ++ pres (.str z :: us.reverse) = _
        show ds ++ ([.str z] ++ pres us.reverse) = _
        rw [List.append_assoc]
      · have := sz_pos (.str z)
        rw [List.length_append]; simp only [List.length_singleton]; omega
    | @tup j z ks nz k1 k3 hk =>
      refine iteT ?_
      cases rv3 with
      | @tup a vs _ hta rr =>
        cases rr with
        | @cons v0 _ vr _ r0 rr =>
          have lr := rr.length
          refine ⟨_, rfl, .inl ⟨rfl, _, SqL.of hw3⟩, _, rfl, 1, rfl, a, _, rfl, SqT.of hta, cutq_not (vs := v0 :: vr) (n := 1) (by simp) (Nat.le_refl _), fun p4 hp4 => ?_⟩
          have ec : cutV (v0 :: vr) (some 1) none = vr := cutq (v0 :: vr) 1
          rw [ec]
          have e4 := same_new hp4 (.tup vr)
          refine ⟨p4, vr, rfl, SqT.of upd_same, fun l5 hl5 => ?_⟩
          have e5 := same_new hl5 (.lst vr.reverse)
          have hw5 := e5 _ _ (e4 _ _ hw3)
          have hp5 := e5 _ _ (e4 _ _ hp3)
          have e45 := e4.trans e5
          have szk : (T.tup (.str z :: ks)).sz = 1 + (1 + szs ks) := rfl
          refine ⟨lw, l5, ws, vr.reverse, rfl, rfl, hw5, upd_same, small (by rw [List.length_reverse, lr]; have := len_szs ks; omega), ?_⟩
          have tups6 : ∀ b xs, H3 b = some (.tup xs) → (upd (upd (upd H3 p4 (.tup vr)) l5 (.lst vr.reverse)) lw (.lst (ws ++ vr.reverse))) b = some (.tup xs) := fun b xs h => by
            rw [upd_ne (ne_of h hw3 (by intro z; cases z))]; exact e45 b _ h
          refine ⟨szs (us ++ ks.reverse), by rw [sz1, szs_app, szs_reverse, szk]; omega, some (.ref a), ws ++ vr.reverse, ps ++ [.ref a], us ++ ks.reverse, ds ++ [.tup (.str z :: ks)], rfl, upd_same, by rw [upd_ne (Ne.symm nwp)]; exact hp5, ?_, ?_, ?_, fun x hx => ?_, rfl, ?_, fun b u h => ?_⟩
          · exact (hws.mono fun b xs h => tups6 b xs (tups3 b xs h)).append (rr.mono tups6).reverse
          · exact (rp1.mono fun b xs h => tups6 b xs (tups3 b xs h)).append (.cons (.tup (tups6 _ _ hta) ((Reps.cons r0 rr).mono tups6)) .nil)
          · have a1 : pres (us ++ [T.tup (.str z :: ks)]).reverse = (T.tup (.str z :: ks) :: pres ks) ++ pres us.reverse := by rw [List.reverse_append]; rfl
            have a2 : pres (us ++ ks.reverse).reverse = pres ks ++ pres us.reverse := by rw [List.reverse_append, List.reverse_reverse, pres_app]
            rw [pre1', a1, a2]
            simp
          · rcases List.mem_append.mp hx with h | h
            · exact kd1 x (by simp [h])
            · exact ⟨j, hk x (List.mem_reverse.mp h)⟩
          · rw [List.length_append, szs_app, szs_reverse]; simp only [List.length_singleton]; rw [sz1, szk] at hs1; omega
          · rw [upd_ne (ne_of_none h hlw)]; exact e45 b u (e3 b u h)
  · have c1 : ¬ (0 : Int) < ws.length := fun h => c (decide_eq_true h)
    have e : ws = [] := by
      cases ws with
      | nil => rfl
      | cons a b => exact absurd (by simp) c1
    subst e
    cases rw1
    have lps := rp1.length
    rw [show pres ([] : List T).reverse = [] from rfl, List.append_nil] at pre1'
    exact ⟨_, rfl, q lp ps H1 e1 hlp0 hp1 (by rw [pre1']; exact rp1) (by omega)⟩
end
end Fw

set_option Elab.async false
set_option linter.all false
set_option maxRecDepth 100000
namespace Fw
open PySem PySem.Spec PyProof.Rows L2
theorem comp_zip {H : Hp} {n : Nat} {a b : Addr} {xs ys : List V} {g : TG} {tt : TT} {te : TE} {σ' : L2.St} {Q : VK} (hlen : xs.length = ys.length) (Pv : Nat → List V → Hp → Prop) (h0 : Pv 0 [] H)
    (hl : ∀ i vs H, i ≤ xs.length → Pv i vs H → H a = some (.tup xs) ∧ H b = some (.tup ys) ∧ vs.length < sizeLine)
    (hs : ∀ i x y (T : Addr) vs H2 (τ : L2.St), τ.length = n → i < xs.length → xs[i]? = some x → ys[i]? = some y → H2 T = none → Pv i vs H2 → g (.ref T) (τ ++ σ') (upd H2 T (.tup [x, y])) fun σ1 H3 => (∃ τ' : L2.St, σ1 = τ' ++ σ' ∧ τ'.length = n) ∧ tt σ1 H3 fun b H4 => if b = true then te σ1 H4 fun v H5 => Nx xs.length i (Pv (i + 1) (vs ++ [v]) H5) else Nx xs.length i (Pv (i + 1) vs H4))
    (hd : ∀ vs H2, Pv xs.length vs H2 → ∀ l, H2 l = none → Q (.ref l) (upd H2 l (.lst vs))) : CompWM n (Itz a b) g tt te σ' Q H := by
  refine ⟨fun i m vs H => m = xs.length - i ∧ i ≤ xs.length ∧ Pv i vs H, ⟨xs.length, by simp, Nat.zero_le _, h0⟩, ?_⟩
  rintro i m vs H2 ⟨rfl, hi, p⟩
  obtain ⟨q1, q2, q3⟩ := hl i vs H2 hi p
  refine ⟨q3, ?_⟩
  by_cases hlt : i < xs.length
  · refine .inr ⟨⟨xs, ys, xs[i], ys[i], q1, q2, by simp [hlt], by simp [← hlen, hlt]⟩, ?_⟩
    rintro τ v H3 lτ ⟨T, xs', ys', x, y, e1, e2, hx, hy, hT, rfl, rfl⟩
    rw [q1] at e1
    rw [q2] at e2
    cases e1
    cases e2
    exact hs i x y T vs _ τ lτ hlt hx hy hT p
  · have e : i = xs.length := by omega
    subst e
    exact .inl ⟨⟨xs, q1, Nat.le_refl _⟩, hd vs H2 p⟩
def spSame (n : Nat) : Sp := fun vs H Q _ => ∃ (v1 v2 : V) (t : T), vs = [v1, v2] ∧ Rep H v1 t ∧ Rep H v2 t ∧ KD n t ∧ ∀ H', Same H H' → Q (.bl true) H'
def spSameN : Nat → Sp
  | 0 => fun _ _ _ _ => False
  | n + 1 => spSame n
section
variable {P : Program} {w : World} {K : PySem.W.Frag} {mg : Str → Option Value} {base : Heap} {f : Addr} {fd : FuncData}
abbrev s_same : Stmt := top 17
theorem sc_same : FnScope ["_law_one", "_law_due"] ["_law_one", "_law_due"] (defScope s_same) := ⟨rfl, rfl, rfl, by decide +kernel, rfl, by decide +kernel, by decide +kernel⟩
theorem comp_nd2 : ((["_law_part", "_law_other"] : List Str) ++ ([] : List Str)).Nodup := by decide +kernel
set_option maxHeartbeats 1000000 in
theorem ok_same {n : Nat} (F : Fun K "_law_same" "_law_same" s_same f fd) (mi : mg "isinstance" = none) (mt : mg "tuple" = none) (ms : mg "str" = none) (ml : mg "len" = none) (ma : mg "all" = none) (mz : mg "zip" = none)
    (h2 : Has P w K mg base n "_law_same" ["_law_one", "_law_due"] (spSameN n)) : FnOk P w K mg base CX0 (n + 1) f fd ["_law_one", "_law_due"] (spSame n) := by
  refine F.ok sc_same (fun vs H Q E h => ?_) (fun cdv A outer s H vs Q E hr h => ?_)
  · obtain ⟨v1, v2, t, rfl, _⟩ := h
    rfl
  obtain ⟨v1, v2, t, rfl, r1, r2, kt, q⟩ := h
  refine ⟨_, pss_cons (ps_if (pt_val (pe_callB call_isi rfl mi boot_isinstance (pa_cons (pv 1) (pa_cons (pe_bltn (v := .ty "tuple") rfl mt boot_tuple rfl) pa_nil))))
      (pss_cons (ps_if (PW.pt (pw_or (pt_not (pt_val (pe_callB call_isi rfl mi boot_isinstance (pa_cons (pv 0) (pa_cons (pe_bltn (v := .ty "tuple") rfl mt boot_tuple rfl) pa_nil)))))
          (pw_or1 (pt_cmpR op_ne (pe_callB call_len_seq rfl ml PySem.boot_len (pa_cons (pv 0) pa_nil)) (pe_callB call_len_seq rfl ml PySem.boot_len (pa_cons (pv 1) pa_nil)) (nomark _))))) (pss_one (ps_ret pe_bl)) pss_nil)
      (pss_one (ps_ret (pe_callB (call_all rfl) rfl ma boot_all (pa_cons
        (pe_lcM (g := gTup K 2 (gCons (gName 0) (gCons (gName 1) gNil))) (defScope s_same) ["_law_one", "_law_due"] ["_law_part", "_law_other"] [] [] (by decide +kernel) (pi_zip rfl mz (pa_cons (pv 0) (pa_cons (pv 1) pa_nil)))
          (fun C s₀ H₀ ex => pg_tup (n := 2) rfl (pgs_cons (pg_name (i := 0) comp_nd2 rfl (Or.inl rfl) (Or.inr rfl)) (pgs_cons (pg_name (i := 1) comp_nd2 rfl (Or.inl rfl) (Or.inr rfl)) pgs_nil)))
          (fun C s₀ H₀ ex => pts_nil) (fun C s₀ H₀ ex => pcall h2 hr (Nat.le_refl _) rfl (pa_cons (pv 0) (pa_cons (pv 1) pa_nil)))) pa_nil))))) pss_nil)
    (pss_one (ps_ret (pe_and (pe_callB call_isi rfl mi boot_isinstance (pa_cons (pv 0) (pa_cons (pe_bltn (v := .ty "str") rfl ms boot_str rfl) pa_nil))) (pe_one (pe_cmpR op_eq (pv 0) (pv 1) (nomark _)))))), ?_⟩
  refine ⟨_, rfl, _, _, _, _, rfl, rep_ty r2, kit_tup K t, _, rfl, ?_⟩
  cases kt with
  | @leaf _ z hz =>
    refine iteF ?_
    cases r1
    cases r2
    refine ⟨_, rfl, _, _, _, _, rfl, .str z, kit_str K (.str z), _, rfl, iteT ⟨_, rfl, _, rfl, rfl, ?_⟩⟩
    rw [decide_eq_true rfl]
    exact q _ (Same.refl _)
  | @tup j z ks nz k1 k3 hk =>
    refine iteT ?_
    cases r1 with
    | @tup a xs _ ha ra =>
      cases r2 with
      | @tup b ys _ hb rb =>
        have lx := ra.length
        have ly := rb.length
        refine ⟨_, rfl, _, _, _, _, rfl, .tup ha, kit_tup K (.tup []), _, rfl, iteF ?_⟩
        refine ⟨_, rfl, a, xs, rfl, .inr (SqT.of ha), _, rfl, b, ys, rfl, .inr (SqT.of hb), rfl, _, rfl, ?_⟩
        rw [show xs.length = ys.length by omega, decide_eq_true rfl]
        refine iteF ?_
        refine ⟨_, rfl, _, rfl, a, b, xs, ys, rfl, ha, hb, comp_zip (xs := xs) (ys := ys) (by omega) (fun i ws H' => Same H H' ∧ ws = List.replicate i (V.bl true)) ⟨Same.refl _, rfl⟩ ?_ ?_ ?_⟩
        · rintro i ws H' hi ⟨e, rfl⟩
          exact ⟨e _ _ ha, e _ _ hb, small' (by rw [List.length_replicate]; simp at lx; omega)⟩
        · rintro i x y T0 ws H' τ lτ hi hx hy hT ⟨e, rfl⟩
          obtain ⟨t1, ht1, rx⟩ := ra.at2 hx
          obtain ⟨t2, ht2, ry⟩ := rb.at2 hy
          rw [ht1] at ht2
          cases ht2
          have kt1 : KD j t1 := by
            have hm : t1 ∈ (T.str z :: ks) := List.mem_of_getElem? ht1
            rcases List.mem_cons.mp hm with h | h
            · rw [h]; exact .leaf (by have := nz.2; omega)
            · exact hk t1 h
          have eT := same_new hT (.tup [x, y])
          match τ, lτ with
          | [o1, o2], _ =>
            refine ⟨T0, [x, y], rfl, SqT.of upd_same, rfl, x, [y], rfl, y, [], rfl, rfl, ⟨[some x, some y], rfl, rfl⟩, ?_⟩
            have eA := e.trans eT
            refine tt1 (iteT ⟨_, rfl, _, rfl, x, y, t1, rfl, rx.same eA, ry.same eA, kt1, fun H5 e5 => nx hi ⟨eA.trans e5, ?_⟩⟩)
            rw [List.replicate_succ']
        · rintro ws H' ⟨e, rfl⟩ l hl
          refine ⟨l, List.replicate xs.length true, rfl, ?_, ?_⟩
          · rw [List.map_replicate]
            exact SqL.of upd_same
          · have : (List.replicate xs.length true).all id = true := by
              rw [List.all_eq_true]
              intro b hb
              rw [(List.mem_replicate.mp hb).2]
              rfl
            rw [this]
            exact q _ (e.trans (same_new hl _))
theorem same_all (F : Fun K "_law_same" "_law_same" s_same f fd) (bF : Binds K fd ["_law_one", "_law_due"] []) (mF : mg "_law_same" = some (.ref f)) (mi : mg "isinstance" = none) (mt : mg "tuple" = none) (ms : mg "str" = none) (ml : mg "len" = none) (ma : mg "all" = none) (mz : mg "zip" = none) :
    ∀ n : Nat, Has P w K mg base n "_law_same" ["_law_one", "_law_due"] (spSameN n)
  | 0 => ⟨f, fd, ⟨fun vs H Q E h => h.elim, fun A outer s H args us vs Q E _ _ _ _ h => h.elim⟩, bF, F.kp, mF⟩
  | n + 1 => ⟨f, fd, ok_same F mi mt ms ml ma mz (same_all F bF mF mi mt ms ml ma mz n), bF, F.kp, mF⟩
end
end Fw

set_option Elab.async false
set_option linter.all false
set_option maxRecDepth 100000
namespace Fw
open PySem PySem.Spec PyProof.Rows L2
def kidsT : T → List T
  | .tup l => l.tail
  | _ => []
theorem pre_kids : ∀ t : T, pre t = t :: pres (kidsT t)
  | .int i => rfl
  | .str z => rfl
  | .tup [] => rfl
  | .tup (_ :: _) => rfl
def stepS : List T → List T
  | [] => []
  | p :: r => kidsT p ++ r
theorem pres_step (S : List T) : pres (stepS S) = (pres S).tail := by
  cases S with
  | nil => rfl
  | cons p r =>
    show pres (kidsT p ++ r) = (pre p ++ pres r).tail
    rw [pre_kids p, pres_app]
    rfl
def stk (t : T) : Nat → List T
  | 0 => [t]
  | i + 1 => stepS (stk t i)
theorem pres_stk (t : T) : ∀ i, pres (stk t i) = (pre t).drop i
  | 0 => by show pre t ++ [] = _; rw [List.append_nil]; rfl
  | i + 1 => by
    show pres (stepS (stk t i)) = _
    rw [pres_step, pres_stk t i, List.tail_drop]
theorem len_pres : ∀ S : List T, S.length ≤ (pres S).length
  | [] => Nat.le_refl _
  | p :: r => by
    show r.length + 1 ≤ (pre p ++ pres r).length
    rw [pre_kids p, List.length_append]
    have := len_pres r
    simp only [List.length_cons]
    omega
theorem stk_at {t p : T} {i : Nat} (h : (pre t)[i]? = some p) : ∃ r, stk t i = p :: r := by
  have hp := pres_stk t i
  have hi : i < (pre t).length := (List.getElem?_eq_some_iff.mp h).1
  rw [List.drop_eq_getElem_cons hi] at hp
  have hg : (pre t)[i] = p := (List.getElem?_eq_some_iff.mp h).2
  rw [hg] at hp
  cases hs : stk t i with
  | nil => rw [hs] at hp; cases hp
  | cons q r =>
    rw [hs] at hp
    have hp' : pre q ++ pres r = p :: _ := hp
    rw [pre_kids q] at hp'
    have e : q = p := by simpa using (List.cons.inj hp').1
    exact ⟨r, by rw [e]⟩
theorem stk_end (t : T) : stk t (pre t).length = [] := by
  have hp := pres_stk t (pre t).length
  rw [List.drop_eq_nil_of_le (Nat.le_refl _)] at hp
  have := len_pres (stk t (pre t).length)
  rw [hp] at this
  exact List.length_eq_zero_iff.mp (by simpa using this)
theorem stk_len (t : T) (i : Nat) : (stk t i).length ≤ (pre t).length := by
  have := len_pres (stk t i)
  rw [pres_stk, List.length_drop] at this
  omega
theorem mem_pres : ∀ {S : List T} {p : T}, p ∈ pres S → ∃ k ∈ S, p ∈ pre k
  | [], _, h => by cases h
  | q :: r, p, h => by
    rcases List.mem_append.mp (show p ∈ pre q ++ pres r from h) with h | h
    · exact ⟨q, List.mem_cons_self, h⟩
    · obtain ⟨k, hk, hp⟩ := mem_pres h
      exact ⟨k, List.mem_cons_of_mem _ hk, hp⟩
theorem kd_pre {n : Nat} {t : T} (h : KD n t) : ∀ p ∈ pre t, ∃ n, KD n p := by
  induction h with
  | @leaf n z hz =>
    intro p hp
    have : p = .str z := by simpa [pre] using hp
    rw [this]
    exact ⟨0, .leaf hz⟩
  | @tup n z ks nz k1 k3 hk ih =>
    intro p hp
    rcases List.mem_cons.mp (show p ∈ T.tup (.str z :: ks) :: pres ks from hp) with h | h
    · rw [h]
      exact ⟨n + 1, .tup nz k1 k3 hk⟩
    · obtain ⟨k, hk', hp'⟩ := mem_pres h
      exact ih k hk' p hp'
mutual
theorem fill_nil : ∀ t : T, fillT [] t = t
  | .int i => rfl
  | .str z => rfl
  | .tup [] => rfl
  | .tup (h :: r) => by show T.tup (h :: fills [] r) = _; rw [fills_nil r]
theorem fills_nil : ∀ l : List T, fills [] l = l
  | [] => rfl
  | t :: r => by show fillT [] t :: fills [] r = _; rw [fill_nil t, fills_nil r]
end
theorem Reps.split {H : Hp} : ∀ {a b : List T} {vs : List V}, Reps H vs (a ++ b) → ∃ va vb, vs = va ++ vb ∧ Reps H va a ∧ Reps H vb b
  | [], b, vs, h => ⟨[], vs, rfl, .nil, h⟩
  | t :: a, b, _, .cons r q => by
    obtain ⟨va, vb, e, h1, h2⟩ := q.split
    exact ⟨_ :: va, vb, by rw [e]; rfl, .cons r h1, h2⟩
end Fw

set_option Elab.async false
set_option linter.all false
set_option maxRecDepth 100000
namespace Fw
open PySem PySem.Spec PyProof.Rows L2
/-! ### a kind made anew, from the innermost -/
mutual
def remT (g : Str → List T → T) : T → T
  | .int i => .int i
  | .str z => g z []
  | .tup l => rem1 g l
def rem1 (g : Str → List T → T) : List T → T
  | [] => .tup []
  | .str z :: r => g z (rems g r)
  | h :: r => .tup (h :: rems g r)
def rems (g : Str → List T → T) : List T → List T
  | [] => []
  | t :: r => remT g t :: rems g r
end
theorem rems_map (g : Str → List T → T) : ∀ l, rems g l = l.map (remT g)
  | [] => by rw [rems]; rfl
  | t :: r => by rw [rems, rems_map g r]; rfl
theorem rems_app (g : Str → List T → T) (a b : List T) : rems g (a ++ b) = rems g a ++ rems g b := by rw [rems_map, rems_map, rems_map, List.map_append]
def hdT : T → List T
  | .tup l => l
  | t => [t]
/-- the head of a kind -/
theorem KD.head {n : Nat} {p : T} (k : KD n p) : ∃ z, hdT p = .str z :: kidsT p ∧ z.length ≤ 80 ∧ (kidsT p).length ≤ 3 ∧ (kidsT p ≠ [] → NQ z) ∧ ∀ g, remT g p = g z (rems g (kidsT p)) := by
  cases k with
  | @leaf _ z hz => exact ⟨z, rfl, hz, (by show 0 ≤ 3; decide), fun h => absurd rfl h, fun g => by rw [remT]; show _ = g z (rems g []); rw [rems]⟩
  | @tup j z ks nz k1 k3 hk => exact ⟨z, rfl, by have := nz.2; omega, k3, fun _ => nz, fun g => by rw [remT, rem1]; rfl⟩
def spHeaded : Sp := fun vs H Q _ => ∃ v t n, vs = [v] ∧ Rep H v t ∧ KD n t ∧ ∀ (a : Addr) (xs : List V) H', Same H H' → H' a = some (.tup xs) → Reps H' xs (hdT t) → Q (.ref a) H'
/-- what a maker of kinds tells, over the heap at which it was handed on -/
def spMk (H0 : Hp) (g : Str → List T → T) : Sp := fun vs H Q _ => ∃ (z : Str) (li : Addr) (us : List V) (ts : List T), vs = [.str z, .ref li] ∧ Same H0 H ∧ H li = some (.lst us) ∧ Reps H us ts ∧ z.length ≤ 80 ∧ ts.length ≤ 3 ∧ (ts ≠ [] → NQ z) ∧
  ∀ v' H', Same H H' → Rep H' v' (g z ts) → Q v' H'
def spRemade (P : Program) (w : World) (K : PySem.W.Frag) (mg : Str → Option Value) (base : Heap) : Sp := fun vs H Q _ => ∃ (v : V) (f : Addr) (t : T) (n : Nat) (g : Str → List T → T) (fo : Obj) (fd fd' : FuncData), vs = [v, .ref f] ∧ Rep H v t ∧ KD n t ∧ t.sz ≤ 100000 ∧ H f = some (objO f fo) ∧ fo.data = .func fd' ∧
  FnOk P w K mg base CX0 2 f fd ["head", "inner"] (spMk H g) ∧ Binds K fd ["head", "inner"] [] ∧ ∀ v' H', Same H H' → Rep H' v' (remT g t) → Q v' H'
section
variable {P : Program} {w : World} {K : PySem.W.Frag} {mg : Str → Option Value} {base : Heap} {f : Addr} {fd : FuncData}
abbrev s_headed : Stmt := top 1
abbrev s_remade : Stmt := top 6
theorem sc_headed : FnScope ["thing"] ["thing"] (defScope s_headed) := ⟨rfl, rfl, rfl, by decide +kernel, rfl, by decide +kernel, by decide +kernel⟩
theorem ok_headed (F : Fun K "headed" "headed" s_headed f fd) (mi : mg "isinstance" = none) (mt : mg "tuple" = none) : FnOk P w K mg base CX0 1 f fd ["thing"] spHeaded := by
  refine F.ok sc_headed (fun vs H Q E h => ?_) (fun cdv A outer s H vs Q E hr h => ?_)
  · obtain ⟨v, t, n, rfl, _⟩ := h
    rfl
  obtain ⟨v, t, n, rfl, rt, kt, q⟩ := h
  refine ⟨_, pss_one (ps_ret (pe_ifExp (pt_val (pe_callB call_isi rfl mi boot_isinstance (pa_cons (pv 0) (pa_cons (pe_bltn (v := .ty "tuple") rfl mt boot_tuple rfl) pa_nil)))) (pv 0) (pe_tup (pa_cons (pv 0) pa_nil)))), ?_⟩
  refine ⟨_, rfl, _, _, _, _, rfl, rep_ty rt, kit_tup K t, _, rfl, ?_⟩
  cases kt with
  | @leaf _ z hz =>
    cases rt
    refine iteF ⟨_, rfl, small (by show 1 ≤ 1000000; decide), fun p hp => ?_⟩
    exact q p [.str z] _ (same_new hp _) upd_same (.cons (.str z (by omega)) .nil)
  | @tup j z ks nz k1 k3 hk =>
    cases rt with
    | @tup a xs _ ha ra => exact iteT ⟨_, rfl, q a xs H (Same.refl _) ha ra⟩
abbrev nR : List Str := ["kind", "make", "done", "part", "words", "inner"]
theorem sc_remade : FnScope nR ["kind", "make"] (defScope s_remade) := ⟨rfl, rfl, rfl, by decide +kernel, rfl, by decide +kernel, by decide +kernel⟩
set_option maxHeartbeats 2000000 in
theorem ok_remade (F : Fun K "remade" "remade" s_remade f fd) (ml : mg "len" = none) (mr : mg "range" = none) (mv : mg "reversed" = none)
    (h1 : Has P w K mg base 1 "headed" ["thing"] spHeaded) (h2 : Has P w K mg base 1 "outer_first" ["kind"] spOuter) : FnOk P w K mg base CX0 3 f fd ["kind", "make"] (spRemade P w K mg base) := by
  refine F.ok sc_remade (fun vs H Q E h => ?_) (fun cdv A outer s H vs Q E hr h => ?_)
  · obtain ⟨v, fm, t, n, g, fo, gd, gd', rfl, _⟩ := h
    rfl
  obtain ⟨v, fm, t, n, g, fo, gd, gd', rfl, rt, kt, hsz, hfm, hfd, G, gb, q⟩ := h
  refine ⟨_, pss_cons (ps_set (i := 2) sc_remade.nd rfl (Or.inr rfl) (pe_lst pa_nil))
    (pss_cons (ps_for PassesOwn.never rfl (pi_rev rfl mv (pcall h2 hr (by decide) rfl (pa_cons (pv 0) pa_nil))) (pg_name (i := 3) sc_remade.nd rfl (Or.inl rfl))
      (pss_cons (ps_set (i := 4) sc_remade.nd rfl (Or.inl rfl) (pcall h1 hr (by decide) rfl (pa_cons (pv 3) pa_nil)))
      (pss_cons (ps_lc (te := tBM0 K "list" rPop (tVar 1)) (defScope s_remade) nR ["done"] [2] (by decide +kernel) (pi_range2 rfl mr (pa_cons pe_int (pa_cons (pe_callB call_len_seq rfl ml PySem.boot_len (pa_cons (pv 4) pa_nil)) pa_nil))) (pg_name (i := 5) sc_remade.nd rfl (Or.inl rfl))
            (fun C s₀ H₀ ex => pts_nil) (fun C s₀ H₀ ex => by exact pe_bm0 PySem.F.plainAttrs_list PySem.F.slot_list_pop PySem.F.type_list_pop mt_pop (pv 1)) (by with_unfolding_all rfl))
      (pss_one (ps_expr (pe_bm PySem.F.plainAttrs_list PySem.F.slot_list_append PySem.F.type_list_append mt_append (pv 2) (pa_cons (pe_callF (pv 1) (pa_cons (pe_ix ix_tup (pv 4) pe_int (fun _ _ => rfl)) (pa_cons (pv 5) pa_nil))) pa_nil)))))))
    (pss_one (ps_ret (pe_ix ix_list (pv 2) pe_int (fun _ _ => rfl))))), ?_⟩
  refine ⟨small (by show 0 ≤ 1000000; decide), fun ld hld => ?_⟩
  have e1 := same_new hld (.lst [])
  refine ⟨_, rfl, v, t, n, rfl, rt.same e1, kt, hsz, fun l ws H2 e2 hl hl2 rw2 lw => ?_⟩
  have nl : l ≠ ld := fun e => by rw [e, upd_same] at hl; cases hl
  have lpre := rw2.length
  refine ⟨l, ws, rfl, SqL.of hl2, for_rev (xs := ws) (fun j σ H' => ∃ (o3 o4 o5 : Option V) (vs : List V), σ = [some v, some (.ref fm), some (.ref ld), o3, o4, o5] ∧ H' ld = some (.lst vs) ∧ H' l = some (.lst ws) ∧
      Reps H' vs.reverse (rems g (stk t (ws.length - j))) ∧ Reps H' ws (pre t) ∧ Same H H')
    ⟨none, none, none, [], rfl, e2 _ _ upd_same, hl2, ?_, rw2, e1.trans e2⟩ ?_ ?_ ?_⟩
  · rw [Nat.sub_zero, lpre, stk_end, rems]
    exact .nil
  · rintro j σ H' hj ⟨o3, o4, o5, vs, rfl, _, h, _⟩
    exact SqL.of h
  · rintro j x σ H3 hj hx ⟨o3, o4, o5, vs, rfl, hd3, hl3, rv3, rw3, e3⟩
    obtain ⟨p, hp, rx⟩ := rw3.at2 hx
    obtain ⟨r, hr'⟩ := stk_at hp
    obtain ⟨n', kp⟩ := kd_pre kt p (List.mem_of_getElem? hp)
    have es : stk t (ws.length - j) = kidsT p ++ r := by
      rw [show ws.length - j = (ws.length - 1 - j) + 1 by omega]
      show stepS (stk t (ws.length - 1 - j)) = _
      rw [hr']
      rfl
    have es1 : stk t (ws.length - (j + 1)) = p :: r := by rw [show ws.length - (j + 1) = ws.length - 1 - j by omega]; exact hr'
    rw [es] at rv3
    have lvs : vs.length ≤ 100000 := by
      have h1 := rv3.length
      rw [← es, rems_map, List.length_map, List.length_reverse] at h1
      have h2 := stk_len t (ws.length - j)
      omega
    obtain ⟨z, hh, hz, l3, hnz, hrem⟩ := kp.head
    refine ⟨_, rfl, x, p, n', rfl, rx, kp, fun a xs H4 e4 ha4 rxs => ?_⟩
    rw [hh] at rxs
    generalize hks : kidsT p = ks at *
    have hd4 := e4 _ _ hd3
    have hl4 := e4 _ _ hl3
    have rvk : Reps H4 vs.reverse (rems g ks ++ rems g r) := by rw [← rems_app]; exact rv3.same e4
    have rw4 := rw3.same e4
    have s4 := e3.trans e4
    obtain ⟨RA, RB, eR, rA, rB⟩ := rvk.split
    have ev : vs = RB.reverse ++ RA.reverse := by
      have := congrArg List.reverse eR
      rw [List.reverse_reverse, List.reverse_append] at this
      exact this
    have lA : RA.length = ks.length := by rw [rA.length, rems_map, List.length_map]
    have lB : RB.length ≤ 100000 := by rw [ev] at lvs; rw [List.length_append, List.length_reverse, List.length_reverse] at lvs; omega
    cases rxs with
    | @cons v0 _ vr _ r0 rr =>
      cases r0
      have lr := rr.length
      refine ⟨_, rfl, a, _, rfl, .inr (SqT.of ha4), 1, ((V.str z :: vr).length : Nat), rfl, ⟨by decide, by decide, by omega, by simp only [List.length_cons]; omega⟩, ?_⟩
      have en : (((V.str z :: vr).length : Nat) - 1 : Int).toNat = ks.length := by simp only [List.length_cons]; omega
      rw [en]
      have kpt : ∀ H' : Hp, (∀ c u, c ≠ ld → H4 c = some u → H' c = some u) → ∀ c xs, H4 c = some (.tup xs) → H' c = some (.tup xs) := fun H' k c xs h => k c _ (ne_of h hd4 (by intro z; cases z)) h
      refine comp_range (n := ks.length) (fun k us H' => H' ld = some (.lst (RB.reverse ++ (RA.drop k).reverse)) ∧ us = RA.take k ∧ ∀ c u, c ≠ ld → H4 c = some u → H' c = some u)
        ⟨by rw [List.drop_zero, ← ev]; exact hd4, by simp, fun c u _ h => h⟩ ?_ ?_ ?_
      · rintro k us H' hk' ⟨_, rfl, _⟩
        exact small' (by rw [List.length_take]; omega)
      · rintro k us H' hk' ⟨hd', rfl, kk⟩
        have hka : k < RA.length := by omega
        have ed : RA.drop k = RA[k] :: RA.drop (k + 1) := List.drop_eq_getElem_cons hka
        have ex : RB.reverse ++ (RA.drop k).reverse = (RB.reverse ++ (RA.drop (k + 1)).reverse) ++ [RA[k]] := by rw [ed, List.reverse_cons, List.append_assoc]
        rw [ex] at hd'
        refine tt1 (iteT ⟨_, rfl, .inl ⟨rfl, _, SqL.of hd'⟩, ld, _, RA[k], rfl, rfl, hd', by simp, nx hk' ?_⟩)
        rw [List.dropLast_concat]
        refine ⟨upd_same, ?_, fun c u hc h => by rw [upd_ne hc]; exact kk c u hc h⟩
        rw [List.take_add_one, List.getElem?_eq_getElem hka]
        rfl
      · rintro us H5 ⟨hd5, rfl, kk⟩ li hli
        rw [List.drop_eq_nil_of_le (by omega), List.reverse_nil, List.append_nil] at hd5
        have eT : RA.take ks.length = RA := List.take_of_length_le (by omega)
        rw [eT]
        have s6 := same_new hli (.lst RA)
        have hd6 := s6 _ _ hd5
        have hli6 : (upd H5 li (.lst RA)) li = some (.lst RA) := upd_same
        have k6 : ∀ c u, c ≠ ld → H4 c = some u → (upd H5 li (.lst RA)) c = some u := fun c u hc h => s6 _ _ (kk c u hc h)
        revert s6 hd6 hli6 k6
        generalize upd H5 li (.lst RA) = H6
        intro s6 hd6 hli6 k6
        have tu6 := kpt H6 k6
        have s06 : Same H H6 := fun c u h => k6 c u (ne_of_none h hld) (s4 c u h)
        refine ⟨_, rfl, .inl ⟨rfl, _, SqL.of hd6⟩, fm, fo, gd, gd', _, _, 2, rfl, s06 _ _ hfm, hfd, hr, G, gb, _, rfl, a, _, 0, .str z, rfl, rfl, SqT.of (tu6 _ _ ha4), atI_nat (j := 0) rfl, _, rfl, s06 _ _ hfm, z, li, RA, rems g ks, rfl, s06, hli6, rA.mono tu6, hz, by rw [rems_map, List.length_map]; exact l3, fun hne => hnz (fun e => hne (by rw [e, rems])), fun v' H7 e7 rv' => ?_⟩
        have hd7 := e7 _ _ hd6
        refine ⟨ld, RB.reverse, v', rfl, rfl, hd7, small' (by rw [List.length_reverse]; omega), ?_⟩
        have k8 : ∀ c u, c ≠ ld → H4 c = some u → (upd H7 ld (.lst (RB.reverse ++ [v']))) c = some u := fun c u hc h => by rw [upd_ne hc]; exact e7 _ _ (k6 c u hc h)
        have tu8 := kpt _ k8
        have tu7 : ∀ c xs, H7 c = some (.tup xs) → (upd H7 ld (.lst (RB.reverse ++ [v']))) c = some (.tup xs) := fun c xs h => by rw [upd_ne (ne_of h hd7 (by intro z; cases z))]; exact h
        refine ⟨_, _, _, RB.reverse ++ [v'], rfl, upd_same, k8 l _ nl hl4, ?_, rw4.mono tu8, fun c u h => k8 c u (ne_of_none h hld) (s4 c u h)⟩
        rw [es1, List.reverse_append, List.reverse_reverse, rems, hrem g]
        exact .cons (rv'.mono tu7) (rB.mono tu8)
  · rintro σ H3 ⟨o3, o4, o5, vs, rfl, hd3, hl3, rv3, rw3, e3⟩
    rw [Nat.sub_self] at rv3
    have rv3' : Reps H3 vs.reverse [remT g t] := by
      have h0 : rems g (stk t 0) = [remT g t] := by show rems g [t] = _; rw [rems, rems]
      rw [h0] at rv3; exact rv3
    cases hv : vs.reverse with
    | nil => rw [hv] at rv3'; cases rv3'
    | cons v' rest =>
      rw [hv] at rv3'
      cases rv3' with
      | cons rv' rr =>
        cases rr
        have ev : vs = [v'] := by
          have := congrArg List.reverse hv
          rw [List.reverse_reverse] at this
          rw [this]; rfl
        subst ev
        exact ⟨_, rfl, ld, _, 0, v', rfl, rfl, SqL.of hd3, atI_nat (j := 0) rfl, q v' H3 e3 rv'⟩
end
end Fw

set_option Elab.async false
set_option linter.all false
set_option maxRecDepth 100000
namespace Fw
open PySem PySem.Spec PyProof.Rows L2
/-! ### put: a kind made anew by a lambda that knows the dict -/
/-- all is as it was but tables of code -/
def SameT (H H' : Hp) : Prop := ∀ b o, (∀ ps, o ≠ .tbl ps) → H b = some o → H' b = some o
theorem Same.toT {H H' : Hp} (e : Same H H') : SameT H H' := fun b o _ h => e b o h
theorem SameT.trans {H H1 H2 : Hp} (a : SameT H H1) (b : SameT H1 H2) : SameT H H2 := fun c o n h => b c o n (a c o n h)
theorem SameT.tups {H H' : Hp} (e : SameT H H') : ∀ b xs, H b = some (.tup xs) → H' b = some (.tup xs) := fun b xs h => e b _ (fun ps z => by cases z) h
theorem SameT.lst {H H' : Hp} (e : SameT H H') {b : Addr} {xs : List V} (h : H b = some (.lst xs)) : H' b = some (.lst xs) := e b _ (fun ps z => by cases z) h
theorem SameT.dK {H H' : Hp} (e : SameT H H') {b : Addr} {k : List (Key × V)} (h : H b = some (.dK k)) : H' b = some (.dK k) := e b _ (fun ps z => by cases z) h
theorem SameT.obj {H H' : Hp} (e : SameT H H') {b c : Addr} {o : Obj} (h : H b = some (objO c o)) : H' b = some (objO c o) := e b _ (fun ps z => by
  have z' : HO.ext _ = HO.tbl ps := z
  cases z') h
/-- the table of the code object of put: nothing yet, or the lambda's code -/
def TbOk (Pt : Addr) (q : Str) (pos : Pos) (H : Hp) : Prop := H Pt = some (.tbl #[]) ∨ ∃ c' oc, H Pt = some (.tbl #[rawInt pos.line, rawInt pos.col, .ref c']) ∧ H c' = some (objO c' oc) ∧ CodeO oc q
theorem TbOk.same {Pt : Addr} {q : Str} {pos : Pos} {H H' : Hp} (h : TbOk Pt q pos H) (e : Same H H') : TbOk Pt q pos H' := by
  rcases h with h | ⟨c', oc, h1, h2, h3⟩
  · exact .inl (e _ _ h)
  · exact .inr ⟨c', oc, e _ _ h1, e _ _ h2, h3⟩
theorem TbOk.tbl {Pt : Addr} {q : Str} {pos : Pos} {H : Hp} (h : TbOk Pt q pos H) : ∃ ps, H Pt = some (.tbl ps) := by
  rcases h with h | ⟨c', oc, h1, _⟩
  · exact ⟨_, h⟩
  · exact ⟨_, h1⟩
def gPut (m : List (Str × T)) (z : Str) : List T → T
  | [] => fillT m (.str z)
  | t :: r => .tup (.str z :: t :: r)
theorem rem_put (m : List (Str × T)) {n : Nat} {t : T} (h : KD n t) : remT (gPut m) t = fillT m t := by
  induction h with
  | @leaf n z hz => rw [remT]; rfl
  | @tup n z ks nz k1 k3 hk ih =>
    rw [remT, rem1, rems_map]
    have e : ks.map (remT (gPut m)) = ks.map (fillT m) := List.map_congr_left fun k hk' => ih k hk'
    rw [e]
    have e2 : fillT m (.tup (.str z :: ks)) = .tup (.str z :: fills m ks) := by rw [fillT, fill1]
    rw [e2, fills_map]
    cases ks with
    | nil => simp at k1
    | cons k r => rfl
def spFormed : Sp := fun vs H Q _ => ∃ (z : Str) (a : Addr) (xs : List V) (ts : List T), vs = [.str z, .ref a] ∧ z.length ≤ 100000 ∧ H a = some (.lst xs) ∧ Reps H xs ts ∧ xs.length ≤ 1000 ∧ ∀ v H', Same H H' → Rep H' v (match ts with | [] => .str z | t :: r => .tup (.str z :: t :: r)) → Q v H'
section
variable {P : Program} {w : World} {K : PySem.W.Frag} {mg : Str → Option Value} {base : Heap} {f : Addr} {fd : FuncData}
abbrev s_formed : Stmt := top 3
theorem sc_formed : FnScope ["head", "inner"] ["head", "inner"] (defScope s_formed) := ⟨rfl, rfl, rfl, by decide +kernel, rfl, by decide +kernel, by decide +kernel⟩
theorem ok_formed (F : Fun K "formed" "formed" s_formed f fd) (ml : mg "len" = none) (mt : mg "tuple" = none) : FnOk P w K mg base CX0 1 f fd ["head", "inner"] spFormed := by
  refine F.ok sc_formed (fun vs H Q E h => ?_) (fun cdv A outer s H vs Q E hr h => ?_)
  · obtain ⟨z, a, xs, ts, rfl, _⟩ := h
    rfl
  obtain ⟨z, a, xs, ts, rfl, hz, ha, ra, hl, q⟩ := h
  refine ⟨_, pss_one (ps_ret (pe_ifExp (pt_cmpR op_gt (pe_callB call_len_seq rfl ml PySem.boot_len (pa_cons (pv 1) pa_nil)) pe_int (nomark _))
    (pe_op op_catT (pe_tup (pa_cons (pv 0) pa_nil)) (pe_callTy call_tuple_of rfl mt boot_tuple (pa_cons (pv 1) pa_nil))) (pv 0))), ?_⟩
  refine ⟨_, rfl, a, xs, rfl, .inl (SqL.of ha), _, _, rfl, rfl, _, rfl, ite2 (fun c => ?_) (fun c => ?_)⟩
  · have c1 : (0 : Int) < xs.length := of_decide_eq_true c
    refine ⟨_, rfl, small (by show 1 ≤ 1000000; decide), fun p hp => ?_⟩
    have e1 := same_new hp (.tup [V.str z])
    refine ⟨_, rfl, a, xs, rfl, .inl ⟨SqL.of (e1 _ _ ha), fun p1 hp1 => ?_⟩⟩
    have e2 := same_new hp1 (.tup xs)
    refine ⟨p, p1, _, xs, rfl, rfl, SqT.of (e2 _ _ upd_same), SqT.of upd_same, by simp, small (by simp; omega), (fun e => by rw [e] at c1; simp at c1), fun _ p2 hp2 => ?_⟩
    have e3 := same_new hp2 (.tup ([V.str z] ++ xs))
    have e13 := (e1.trans e2).trans e3
    cases ra with
    | nil => simp at c1
    | @cons v0 t0 vr tr r0 rr => exact q _ _ e13 (.tup upd_same (.cons (.str z (by omega)) (.cons (r0.same e13) (rr.same e13))))
  · cases ra with
    | nil => exact ⟨_, rfl, q _ H (Same.refl _) (.str z (by omega))⟩
    | cons r0 rr => exact absurd (decide_eq_true (by simp)) c
abbrev s_put : Stmt := top 7
def lamE : Expr := match (defBody s_put).getD 1 (.Pass ⟨0, 0, 0, 0⟩) with
  | .Return (some (.Call _ as _ _)) _ => as.getD 1 (.List [] ⟨0, 0, 0, 0⟩)
  | _ => .List [] ⟨0, 0, 0, 0⟩
def lamA : Arguments := match lamE with
  | .Lambda a _ _ _ => a
  | _ => defArgs s_put
def lamB : Expr := match lamE with
  | .Lambda _ b _ _ => b
  | _ => lamE
def lamS : Scope := match lamE with
  | .Lambda _ _ s _ => s
  | _ => defScope s_put
def lamP : Pos := match lamE with
  | .Lambda _ _ _ p => p
  | _ => ⟨0, 0, 0, 0⟩
abbrev lamQ : Str := "put" ++ ".<locals>." ++ "<lambda>"
theorem sc_lam : LamScope ["head", "inner", "by"] ["head", "inner"] "by" lamS := ⟨rfl, rfl, rfl, by decide +kernel, rfl, by decide +kernel, rfl, by decide +kernel, by decide +kernel⟩
theorem starts_nq {z : Str} (h : NQ z) : Txt.startswith z "?" = false := by rw [starts_qm]; exact decide_eq_false h.1
set_option maxHeartbeats 1000000 in
/-- the lambda keeps what a maker of kinds promises -/
theorem ok_lam {H0 : Hp} {fl c' c b : Addr} {pm ctv : Value} {oc oy : Obj} {u : Value} {kvs : List (Key × V)} {m : List (Str × T)} (h1 : Has P w K mg base 1 "is_open" ["thing"] spOpen) (h2 : Has P w K mg base 1 "formed" ["head", "inner"] spFormed)
    (hc : CodeO oc lamQ) (hoy : oy.data = .cell (some u)) (ru : RelV (.ref b) u) (e1 : H0 fl = some (objO fl (PySem.W.kla_obj "<lambda>" lamQ lamA lamB lamS [("by", c)] pm c' ctv))) (e2 : H0 c' = some (objO c' oc)) (e3 : H0 c = some (objO c oy)) (hb : H0 b = some (.dK kvs)) (dr : DReps H0 kvs m) (hop : ∀ x ∈ m, Txt.startswith x.1 "?" = true) :
    FnOk P w K mg base CX0 2 fl (PySem.W.kla_fn "<lambda>" lamQ lamA lamB lamS [("by", c)] pm (.ref c') ctv) ["head", "inner"] (spMk H0 (gPut m)) := by
  obtain ⟨vs0, tq, hd0, hv0⟩ := hc
  refine lam_fn (v := .ref b) (t0 := u) sc_lam hd0 hv0 hoy ru (fun vs H Q E h => ?_) (fun A outer s H vs Q E hr h => ?_)
  · obtain ⟨z, li, us, ts, rfl, _⟩ := h
    rfl
  obtain ⟨z, li, us, ts, rfl, s0, hli, rus, hz, l3, hnz, q⟩ := h
  have hu := hu_of hr
  have n : ∀ {x : Addr} {o : HO}, H x = some o → o ≠ objO c oy → x ≠ c := fun hx no z => by rw [z, s0 _ _ e3] at hx; exact no (Option.some.inj hx).symm
  have nl : ∀ {xs : List V}, HO.lst xs ≠ objO c oy := fun z => by
    have z' : HO.lst _ = HO.ext _ := z
    cases z'
  have nd : ∀ {xs : List (Key × V)}, HO.dK xs ≠ objO c oy := fun z => by
    have z' : HO.dK _ = HO.ext _ := z
    cases z'
  have tu : ∀ b xs, H b = some (.tup xs) → (del H c) b = some (.tup xs) := fun b xs h => by rw [del_ne (objO_tup (s0 _ _ e3) h)]; exact h
  have hbH := s0 _ _ hb
  have hb' : (del H c) b = some (.dK kvs) := by rw [del_ne (n hbH nd)]; exact hbH
  have hli' : (del H c) li = some (.lst us) := by rw [del_ne (n hli nl)]; exact hli
  have back : ∀ {v' : V} {H' : Hp} {t' : T}, Same (del H c) H' → Rep H' v' t' → H' c = none → Same H (upd H' c (objO c oy)) ∧ Rep (upd H' c (objO c oy)) v' t' := fun {v' H' t'} sm r nc => by
    refine ⟨fun d o hd => ?_, r.mono fun d xs hd => by rw [upd_ne (ne_of_none hd nc)]; exact hd⟩
    by_cases z : d = c
    · rw [z, s0 _ _ e3] at hd; cases hd; rw [z]; exact upd_same
    · rw [upd_ne z]; exact sm _ _ (by rw [del_ne z]; exact hd)
  refine ⟨s0 _ _ e1, s0 _ _ e2, s0 _ _ e3, _, pe_ifExp (pt_val (pcall h1 hr (by decide) rfl (pa_cons (pv 0) pa_nil))) (pe_dget2 hu (pv 2) (pv 0) (pv 0) ⟨rfl, rfl, rfl, rfl⟩) (pcall h2 hr (by decide) rfl (pa_cons (pv 0) (pa_cons (pv 1) pa_nil))), ?_⟩
  refine ⟨_, rfl, .str z, .str z, rfl, .str z (by omega), _, rfl, ite2 (fun c2 => ?_) (fun c2 => ?_)⟩
  · have c3 : Txt.startswith z "?" = true := c2
    have e0 : ts = [] := by
      cases ts with
      | nil => rfl
      | cons t r => rw [starts_nq (hnz (by simp))] at c3; cases c3
    subst e0
    refine ⟨_, rfl, b, rfl, .inl ⟨kvs, .inl hb'⟩, _, rfl, _, rfl, _, DGet.k (k := Sum.inr z) hb', ?_⟩
    have dr' : DReps (del H c) kvs m := (dr.mono (Same.tups s0)).mono tu
    rcases dr'.get z with ⟨g1, g2⟩ | ⟨v', t', g1, g2, r'⟩
    · rw [g1]
      intro nc
      obtain ⟨k1, k2⟩ := back (v' := .str z) (t' := .str z) (Same.refl _) (.str z (by omega)) nc
      refine q _ _ k1 ?_
      show Rep _ _ ((m.lookup z).getD (.str z))
      rw [g2]
      exact k2
    · rw [g1]
      intro nc
      obtain ⟨k1, k2⟩ := back (Same.refl _) r' nc
      refine q _ _ k1 ?_
      show Rep _ _ ((m.lookup z).getD (.str z))
      rw [g2]
      exact k2
  · have lus := rus.length
    refine ⟨_, rfl, _, rfl, z, li, us, ts, rfl, by omega, hli', rus.mono tu, by omega, fun v' H' sm r => ?_⟩
    intro nc
    obtain ⟨k1, k2⟩ := back sm r nc
    refine q _ _ k1 ?_
    cases ts with
    | nil =>
      show Rep _ _ ((m.lookup z).getD (.str z))
      rw [lookup_no fun y hy e => c2 (by have := hop y hy; rw [e] at this; exact this)]
      exact k2
    | cons t r => exact k2
end
end Fw

set_option Elab.async false
set_option linter.all false
set_option maxRecDepth 100000
namespace L2
open PySem PySem.Spec PyProof.Rows
/-- a def of which the code object is known -/
theorem Fun.okC {P : Program} {w : World} {K : PySem.W.Frag} {mg : Str → Option Value} {base : Heap} {x qual : Str} {st : Stmt} {f : Addr} {fd : FuncData} {N ps : List Str} {k : Nat} {sp : Sp} {cd : Value} (F : Fun K x qual st f fd) (S : FnScope N ps (defScope st)) (hcode : fd.code = cd) (len : ∀ vs H Q E, sp vs H Q E → vs.length = ps.length)
    (hbody : ∀ (A : Around) (outer : List Env) (s : Shared) (H : Hp) (vs : List V) (Q : VK) (E : XK), Room k (A.deeper (envOfC qual (defScope st) s.heap.objs.size f cd)) → sp vs H Q E →
      ∃ t, PSs (cxOf CX0 P w K mg base N qual (defScope st) f cd A outer s H E).nox (defBody st) t ∧ t { nx := fun _ H' => Q .non H', rt := Q } (start N vs) H) : FnOk P w K mg base CX0 (k + 1) f fd ps sp := by
  obtain ⟨oc, od, kV, doc, pm, an, cdv, ct, osl, rfl, lk, hcd⟩ := F.ex
  have e : cdv = cd := hcode
  subst e
  refine fn_of lk hcd S len fun A outer s H vs Q E hr hsp => ?_
  obtain ⟨t, h, q⟩ := hbody A outer s H vs Q E hr hsp
  exact ⟨t, h.nox, q⟩
theorem closL_nil {cells : List (Str × Addr)} : ∀ (names : List (Str × NameKind)) (acc : List (Str × Addr)), (names.filter fun p => p.2 == .free) = [] → closL cells names acc = acc
  | [], acc, _ => rfl
  | (n, k) :: r, acc, h => by
    cases hk : k == NameKind.free with
    | true => rw [List.filter_cons_of_pos (by exact hk)] at h; cases h
    | false =>
      rw [List.filter_cons_of_neg (by show ¬ (k == NameKind.free) = true; rw [hk]; simp)] at h
      unfold closL
      rw [hk]
      exact closL_nil r acc h
theorem closL_one {cells : List (Str × Addr)} {y : Str} {c : Addr} (hc : cells.lookup y = some c) : ∀ (names : List (Str × NameKind)) (acc : List (Str × Addr)), (names.filter fun p => p.2 == .free) = [(y, .free)] → closL cells names acc = (y, c) :: acc
  | [], acc, h => by cases h
  | (n, k) :: r, acc, h => by
    cases hk : k == NameKind.free with
    | true =>
      rw [List.filter_cons_of_pos (by exact hk)] at h
      have h1 := (List.cons.inj h).1
      have h2 := (List.cons.inj h).2
      cases h1
      unfold closL
      rw [hk, hc]
      exact closL_nil r _ h2
    | false =>
      rw [List.filter_cons_of_neg (by show ¬ (k == NameKind.free) = true; rw [hk]; simp)] at h
      unfold closL
      rw [hk]
      exact closL_one hc r acc h
theorem clos_one {scope : Scope} {env : Env} {y : Str} {c : Addr} (hc : env.cells.lookup y = some c) (h : (scope.names.filter fun p => p.2 == .free) = [(y, .free)]) : closureFor scope env = pure [(y, c)] := by
  rw [closL_eq (scope := scope) (env := env) fun p hp hf => by
    have : p ∈ scope.names.filter fun p => p.2 == .free := List.mem_filter.mpr ⟨hp, by rw [hf]; rfl⟩
    rw [h, List.mem_singleton] at this
    rw [this]
    exact ⟨c, hc⟩, closL_one hc _ _ h]
end L2
namespace Fw
open PySem PySem.Spec PyProof.Rows L2
def spPut (Pt : Addr) : Sp := fun vs H Q _ => ∃ (v : V) (b : Addr) (t : T) (n : Nat) (kvs : List (Key × V)) (m : List (Str × T)), vs = [v, .ref b] ∧ Rep H v t ∧ KD n t ∧ t.sz ≤ 100000 ∧ H b = some (.dK kvs) ∧ DReps H kvs m ∧
  (∀ x ∈ m, Txt.startswith x.1 "?" = true) ∧ TbOk Pt lamQ lamP H ∧ ∀ v' H', SameT H H' → TbOk Pt lamQ lamP H' → Rep H' v' (fillT m t) → Q v' H'
theorem lam_free : (lamS.names.filter fun p => p.2 == .free) = [(("by" : Str), NameKind.free)] := by first | rfl | decide +kernel
theorem put_cell : (defScope s_put).names.lookup ("by" : Str) = some .cell := by first | rfl | decide +kernel
section
variable {P : Program} {w : World} {K : PySem.W.Frag} {mg : Str → Option Value} {base : Heap} {f cp Pt : Addr} {fd : FuncData}
theorem sc_put : FnScope ["kind", "by"] ["kind", "by"] (defScope s_put) := ⟨rfl, rfl, rfl, by decide +kernel, rfl, by decide +kernel, by decide +kernel⟩
theorem lam_binds {pm cdv ctv : Value} {c : Addr} : Binds K (PySem.W.kla_fn "<lambda>" lamQ lamA lamB lamS [("by", c)] pm cdv ctv) ["head", "inner"] [] := .all fun us hl => match us, hl with
  | [_, _], _ => rfl
set_option maxHeartbeats 2000000 in
theorem ok_put (F : Fun K "put" "put" s_put f fd) (hcode : fd.code = .ref cp) (CH : PySem.W.CodeHd base cp Pt) (BM : BMain mg base) (ml : mg "len" = none) (h1 : Has P w K mg base 1 "is_open" ["thing"] spOpen) (h2 : Has P w K mg base 1 "formed" ["head", "inner"] spFormed)
    (h3 : Has P w K mg base 3 "remade" ["kind", "make"] (spRemade P w K mg base)) : FnOk P w K mg base CX0 4 f fd ["kind", "by"] (spPut Pt) := by
  obtain ⟨fr, gr, Fr, br, kr, mr⟩ := h3
  refine F.okC sc_put hcode (fun vs H Q E h => ?_) (fun A outer s H vs Q E hr h => ?_)
  · obtain ⟨v, b, t, n, kvs, m, rfl, _⟩ := h
    rfl
  obtain ⟨v, b, t, n, kvs, m, rfl, rt, kt, hsz, hb, dr, hop, tb, q⟩ := h
  obtain ⟨c, hc⟩ := cell_has (n := s.heap.objs.size + 1) put_cell
  refine ⟨_, pss_cons (ps_if (pt_cmpR op_eq (pe_callB call_lenD rfl ml PySem.boot_len (pa_cons (pv 1) pa_nil)) pe_int (nomark _)) (pss_one (ps_ret (pv 0))) pss_nil)
    (pss_one (ps_ret (pe_callL (i := 1) (y := "by") (c := c) Fr br kr mr hr rfl rfl put_cell hc rfl (pa_cons (pv 0) (pa_cons (pe_lam (P := Pt) (cp := cp) (params := lamA) (body := lamB) (scope := lamS) (pos := lamP) (clos := [("by", c)]) (clos_one hc lam_free) rfl CH BM) pa_nil))))), ?_⟩
  refine ⟨_, rfl, b, kvs, rfl, hb, rfl, _, rfl, ?_⟩
  refine ite2 (fun c => ?_) (fun _ => ?_)
  · have c1 : (kvs.length : Int) = 0 := by
      have := of_decide_eq_true c
      injection this
    have e : kvs = [] := List.length_eq_zero_iff.mp (by omega)
    subst e
    cases dr
    exact ⟨_, rfl, q v H (Same.toT (Same.refl _)) tb (by rw [fill_nil]; exact rt)⟩
  -- what comes behind the making of the lambda, either way
  have go : ∀ (H1 : Hp) (fl c' : Addr) (oc : Obj) (ctv : Value), SameT H H1 → H1 fl = some (objO fl (PySem.W.kla_obj "<lambda>" lamQ lamA lamB lamS [("by", c)] ((mg "__name__").getD .none) c' ctv)) → H1 c' = some (objO c' oc) → CodeO oc lamQ → H1 Pt = some (.tbl #[rawInt lamP.line, rawInt lamP.col, .ref c']) →
      ∀ (oy : Obj) (u : Value), oy.data = .cell (some u) → RelV (.ref b) u → H1 c = none → spRemade P w K mg base [v, .ref fl] (upd H1 c (objO c oy)) (fun r H' => H' c = some (objO c oy) ∧ Q r (del H' c)) E0 := by
    intro H1 fl c' oc ctv s1 e1 e2 e3 e4 oy u hoy ru nc
    have up : ∀ {d : Addr} {o : HO}, H1 d = some o → (upd H1 c (objO c oy)) d = some o := fun h => by rw [upd_ne (ne_of_none h nc)]; exact h
    have s2 : SameT H (upd H1 c (objO c oy)) := fun d o n h => up (s1 d o n h)
    have hat : (upd H1 c (objO c oy)) c = some (objO c oy) := upd_same
    refine ⟨v, fl, t, n, gPut m, _, _, _, rfl, rt.mono s2.tups, kt, hsz, up e1, rfl, ok_lam h1 h2 e3 hoy ru (up e1) (up e2) hat (s2.dK hb) (dr.mono s2.tups) hop, lam_binds, fun v' H' e rv => ⟨e _ _ hat, ?_⟩⟩
    rw [rem_put m kt] at rv
    have hc' : H' c = some (objO c oy) := e _ _ hat
    refine q v' _ (fun d o n h => ?_) (.inr ⟨c', oc, ?_, ?_, e3⟩) (rv.mono fun d xs hd => by rw [del_ne (objO_tup hc' hd)]; exact hd)
    · rw [del_ne (ne_of_none (s1 d o n h) nc)]; exact e _ _ (s2 d o n h)
    · rw [del_ne (ne_of_none e4 nc)]; exact e _ _ (up e4)
    · rw [del_ne (ne_of_none e2 nc)]; exact e _ _ (up e2)
  refine ⟨_, rfl, ?_⟩
  rcases tb with tb | ⟨c', oc, tb, hc1, hc2⟩
  · refine ⟨#[], tb, trivial, .inl ⟨rfl, fun fl c' oc ctv nc nf ncf hco => ⟨_, rfl, ?_⟩⟩⟩
    have nP : ∀ {d : Addr} {o : HO}, (∀ ps, o ≠ .tbl ps) → H d = some o → d ≠ Pt := fun n h z => by rw [z, tb] at h; exact n _ (Option.some.inj h).symm
    have cP : c' ≠ Pt := fun z => by rw [z, tb] at nc; cases nc
    have fP : fl ≠ Pt := fun z => by rw [z, tb] at nf; cases nf
    refine go _ fl c' oc ctv (fun d o n h => ?_) upd_same ?_ hco ?_
    · rw [upd_ne (ne_of_none h nf), upd_ne (ne_of_none h nc), upd_ne (nP n h)]; exact h
    · rw [upd_ne ncf]; exact upd_same
    · rw [upd_ne (Ne.symm fP), upd_ne (Ne.symm cP)]; exact upd_same
  · refine ⟨_, tb, by trivial, .inr ⟨c', ?_, fun fl ctv nf => ⟨_, rfl, ?_⟩⟩⟩
    · simp [codeAmong, rawInt]
    exact go _ fl c' oc ctv (fun d o n h => by rw [upd_ne (ne_of_none h nf)]; exact h) upd_same (by rw [upd_ne (ne_of_none hc1 nf)]; exact hc1) hc2 (by rw [upd_ne (ne_of_none tb nf)]; exact tb)
end
end Fw

set_option Elab.async false
set_option linter.all false
set_option maxRecDepth 100000
namespace L2
open PySem PySem.Spec PyProof.Rows
theorem boot_dict' : bootBuiltins "dict" = some (.type "dict") := by decide +kernel
theorem call_dict_d {X : Cx} : CallR X (.type "dict") (fun xs H Q => ∃ a kvs, xs = [V.ref a] ∧ H a = some (.dK kvs) ∧ ∀ p, H p = none → Q (.ref p) (upd H p (.dK kvs))) := by
  intro pins s σ H xs us Q I r h
  obtain ⟨a, kvs, rfl, e, q⟩ := h
  obtain ⟨u, rfl, rx⟩ := vals1 r
  cases rx
  exact d_copyOf I (.inl e) fun p s' hp I' => ⟨.ref p, _, I', rfl, q p hp⟩
end L2
namespace Fw
open PySem PySem.Spec PyProof.Rows L2
theorem lq_open {n : Nat} {z : Str} (h : LQ n z) : Txt.startswith z "?" = true := by rw [starts_qm]; exact decide_eq_true h.1
mutual
theorem fill_two {mo mt mb : List (Str × T)} (h : ∀ z, fillT mt (fillT mo (.str z)) = fillT mb (.str z)) : ∀ t : T, fillT mt (fillT mo t) = fillT mb t
  | .int i => rfl
  | .str z => h z
  | .tup [] => rfl
  | .tup (a :: r) => by show T.tup (a :: fills mt (fills mo r)) = T.tup (a :: fills mb r); rw [fills_two h r]
theorem fills_two {mo mt mb : List (Str × T)} (h : ∀ z, fillT mt (fillT mo (.str z)) = fillT mb (.str z)) : ∀ l : List T, fills mt (fills mo l) = fills mb l
  | [] => rfl
  | t :: r => by show fillT mt (fillT mo t) :: fills mt (fills mo r) = fillT mb t :: fills mb r; rw [fill_two h t, fills_two h r]
end
mutual
theorem fill_self {m : List (Str × T)} (h : ∀ z, fillT m (.str z) = .str z) : ∀ t : T, fillT m t = t
  | .int i => rfl
  | .str z => h z
  | .tup [] => rfl
  | .tup (a :: r) => by show T.tup (a :: fills m r) = _; rw [fills_self h r]
theorem fills_self {m : List (Str × T)} (h : ∀ z, fillT m (.str z) = .str z) : ∀ l : List T, fills m l = l
  | [] => rfl
  | t :: r => by show fillT m t :: fills m r = _; rw [fill_self h t, fills_self h r]
end
theorem lookup_mem {m : List (Str × T)} {z : Str} {t : T} (h : m.lookup z = some t) : (z, t) ∈ m := mem_of_lookup' h
theorem KD.fill {n k : Nat} {m : List (Str × T)} (hm : ∀ x ∈ m, KD k x.2) {t : T} (h : KD n t) : KD (n + k) (fillT m t) := by
  induction h with
  | @leaf n z hz =>
    show KD (n + k) ((m.lookup z).getD (.str z))
    cases e : m.lookup z with
    | none => exact .leaf hz
    | some t => exact (hm _ (lookup_mem e)).up (by omega)
  | @tup n z ks nz k1 k3 hk ih =>
    show KD (n + 1 + k) (T.tup (.str z :: fills m ks))
    rw [show n + 1 + k = (n + k) + 1 by omega]
    refine .tup nz (by rw [fills_map, List.length_map]; exact k1) (by rw [fills_map, List.length_map]; exact k3) fun x hx => ?_
    rw [fills_map] at hx
    obtain ⟨y, hy, rfl⟩ := List.mem_map.mp hx
    exact ih y hy
mutual
theorem sz_fill {m : List (Str × T)} {c : Nat} (h1 : 1 ≤ c) (hm : ∀ x ∈ m, x.2.sz ≤ c) : ∀ t : T, (fillT m t).sz ≤ c * t.sz
  | .int i => by show 1 ≤ c * 1; omega
  | .str z => by
    show ((m.lookup z).getD (.str z)).sz ≤ c * 1
    cases e : m.lookup z with
    | none => show 1 ≤ c * 1; omega
    | some t => have h : t.sz ≤ c := hm _ (lookup_mem e); show t.sz ≤ c * 1; omega
  | .tup [] => by show 1 + 0 ≤ c * (1 + 0); omega
  | .tup (a :: r) => by
    show 1 + (a.sz + szs (fills m r)) ≤ c * (1 + (a.sz + szs r))
    have h := szs_fill h1 hm r
    have ha : a.sz ≤ c * a.sz := Nat.le_mul_of_pos_left _ (by omega)
    rw [Nat.mul_add, Nat.mul_add]
    omega
theorem szs_fill {m : List (Str × T)} {c : Nat} (h1 : 1 ≤ c) (hm : ∀ x ∈ m, x.2.sz ≤ c) : ∀ l : List T, szs (fills m l) ≤ c * szs l
  | [] => Nat.zero_le _
  | t :: r => by
    show (fillT m t).sz + szs (fills m r) ≤ c * (t.sz + szs r)
    have h := szs_fill h1 hm r
    have h' := sz_fill h1 hm t
    rw [Nat.mul_add]
    omega
end
theorem lookup_zs (g : Str → T) (z : Str) : ∀ zs : List Str, (zs.map fun y => (y, g y)).lookup z = if z ∈ zs then some (g z) else none
  | [] => rfl
  | y :: r => by
    show List.lookup z ((y, g y) :: _) = _
    rw [List.lookup_cons]
    by_cases e : z = y
    · subst e
      rw [beq_self_eq_true, if_pos List.mem_cons_self]
    · rw [beq_false_of_ne e]
      show List.lookup z _ = _
      rw [lookup_zs g z r]
      by_cases h : z ∈ r
      · rw [if_pos h, if_pos (List.mem_cons_of_mem _ h)]
      · rw [if_neg h, if_neg (fun h' => by rcases List.mem_cons.mp h' with h' | h'; exact e h'; exact h h')]
theorem DReps.snocz {H : Hp} {z : Str} {v : V} {g : Str → T} {zs : List Str} {kvs : List (Key × V)} (r : Rep H v (g z)) (h : DReps H kvs (zs.map fun y => (y, g y))) : DReps H (kvs ++ [(Sum.inr z, v)]) ((zs ++ [z]).map fun y => (y, g y)) := by
  rw [List.map_append]
  exact h.snoc r
theorem DReps.val_none {H : Hp} {z : Str} {g : Str → T} {zs : List Str} {kvs : List (Key × V)} (h : DReps H kvs (zs.map fun y => (y, g y))) (hz : z ∉ zs) : valV kvs (Sum.inr z) = none := by
  rcases h.get z with ⟨h1, _⟩ | ⟨v, t, _, h2, _⟩
  · exact h1
  · rw [lookup_zs, if_neg hz] at h2
    cases h2
theorem fill_out {m : List (Str × T)} {zs : List Str} {z : Str} (hm : ∀ x ∈ m, x.1 ∈ zs) (hz : z ∉ zs) : fillT m (.str z) = .str z := by
  show (m.lookup z).getD (.str z) = _
  have e : m.lookup z = none := lookup_no fun p hp e => hz (by rw [← e]; exact hm p hp)
  rw [e]
  rfl
end Fw

set_option Elab.async false
set_option linter.all false
set_option maxRecDepth 100000
namespace Fw
open PySem PySem.Spec PyProof.Rows L2
def spLaw (Pt : Addr) (K : PySem.W.Frag) : Sp := fun vs H Q _ => ∃ (a : Addr) (ns : List Int), vs = [.ref a] ∧ SqL K H a (ns.map V.int) ∧ ns.length ≤ 63 ∧ H Pt = some (.tbl #[]) ∧ ∀ H', Q (.bl true) H'
theorem PotOk.conv {H H' : Hp} {p cl : Addr} {n : Nat} (h : PotOk H p cl n) (e : SameT H H') : PotOk H' p cl n := by
  obtain ⟨cs, a, d, t, h1, h2, h3⟩ := h
  exact ⟨cs, a, d, t, e.dK h1, e.lst h2, h3⟩
theorem Src.conv {H H' : Hp} {p la ha : Addr} {zs : List Str} {hvs : List V} {hs : List (Str × Int)} (s : Src H p la ha zs hvs hs) (e : SameT H H') : Src H' p la ha zs hvs hs := ⟨e.lst s.la, s.lz, s.hz, e.lst s.ha, s.hr.mono e.tups, s.h1, s.h9, s.hh⟩
theorem TbOk.keep {Pt : Addr} {q : Str} {pos : Pos} {H H' : Hp} {p : Addr} {k : List (Key × V)} (h : TbOk Pt q pos H) (hp : H p = some (.dK k)) (e : ∀ b o, b ≠ p → H b = some o → H' b = some o) : TbOk Pt q pos H' := by
  rcases h with h | ⟨c', oc, h1, h2, h3⟩
  · exact .inl (e _ _ (ne_of h hp (by intro z; cases z)) h)
  · refine .inr ⟨c', oc, e _ _ (ne_of h1 hp (by intro z; cases z)) h1, e _ _ (ne_of h2 hp ?_) h2, h3⟩
    intro z
    have z' : HO.ext _ = HO.dK k := z
    cases z'
theorem TbOk.grow {Pt : Addr} {q : Str} {pos : Pos} {H H' : Hp} {p cl : Addr} {m n : Nat} (h : TbOk Pt q pos H) (g : GrowP p cl n H H') (ok : PotOk H p cl m) : TbOk Pt q pos H' := by
  obtain ⟨cs, a, d, t, h1, _⟩ := ok
  exact h.keep h1 g.keep
theorem DQ_le3 : ∀ n, n ≤ 3 → DQ n ≤ 80
  | 0, _ => by decide
  | 1, _ => by decide
  | 2, _ => by decide
  | 3, _ => by decide
  | n + 4, h => by omega
theorem BQ_le3 : ∀ n, n ≤ 3 → BQ n ≤ 53
  | 0, _ => by decide
  | 1, _ => by decide
  | 2, _ => by decide
  | 3, _ => by decide
  | n + 4, h => by omega
theorem hT_reps {H : Hp} {a : Addr} {z : Str} {k : Int} (h : H a = some (.tup [.str z, .int k])) (hz : z.length ≤ 60) : Rep H (.ref a) (hT (z, k)) := .tup h (.cons (.str z (by omega)) (.cons (.int k) .nil))
section
variable {P : Program} {w : World} {K : PySem.W.Frag} {mg : Str → Option Value} {base : Heap} {f Pt : Addr} {fd : FuncData}
abbrev s_law : Stmt := top 20
theorem sc_law : FnScope ["_law_script", "_law_pot_here", "_law_heads", "_law_leaves_here", "_law_turn", "_law_kind_here", "_law_one", "_law_other", "_law_both", "_law_itself", "_law_name", "_law_due"] ["_law_script"] (defScope s_law) := ⟨rfl, rfl, rfl, by decide +kernel, rfl, by decide +kernel, by decide +kernel⟩
set_option maxHeartbeats 2000000 in
theorem ok_law (F : Fun K "law" "law" s_law f fd) (mr : mg "range" = none) (ml : mg "len" = none) (mI : mg "int" = none) (mD : mg "dict" = none) (h0 : Has P w K mg base 1 "_law_pot" ["_law_script"] (spPot K)) (h1 : Has P w K mg base 2 "_law_draw" ["_law_pot_here", "_law_many"] spDraw)
    (h2 : Has P w K mg base 4 "_law_head" ["_law_pot_here"] spPHead) (h3 : Has P w K mg base 5 "_law_leaves" ["_law_pot_here", "_law_many"] spPLeaves) (h4 : Has P w K mg base 6 "_law_kind" ["_law_pot_here", "_law_leaves_here", "_law_heads", "_law_deep"] (spKindLe 3))
    (h5 : Has P w K mg base 6 "_law_by" ["_law_pot_here", "_law_leaves_here", "_law_heads"] spBy) (h6 : Has P w K mg base 8 "_law_filled" ["_law_kind_here", "_law_by_here"] (spFillN 8)) (h7 : Has P w K mg base 8 "_law_same" ["_law_one", "_law_due"] (spSameN 8)) (h8 : Has P w K mg base 4 "put" ["kind", "by"] (spPut Pt)) : FnOk P w K mg base CX0 11 f fd ["_law_script"] (spLaw Pt K) := by
  refine F.ok sc_law (fun vs H Q E h => ?_) (fun cdv A outer s H vs Q E hr h => ?_)
  · obtain ⟨a, ns, rfl, _⟩ := h
    rfl
  obtain ⟨a, ns, rfl, hS, h63, hPt, q⟩ := h
  have tb0 : TbOk Pt lamQ lamP H := .inl hPt
  have hu := hu_of hr
  refine ⟨_, pss_cons (ps_set (i := 1) sc_law.nd rfl (Or.inr rfl) (pcall h0 hr (by decide) rfl (pa_cons (pv 0) pa_nil)))
    (pss_cons (
      (ps_lc (defScope s_law) ["_law_script", "_law_pot_here", "_law_heads", "_law_leaves_here", "_law_turn", "_law_kind_here", "_law_one", "_law_other", "_law_both", "_law_itself", "_law_name", "_law_due"] ["_law_pot_here"] [1] (by decide +kernel)
        (pi_range1 rfl mr (pa_cons (pe_ix ix_list (pe_lst (pa_cons pe_int (pa_cons pe_int pa_nil))) (pe_callTy call_int1 rfl mI boot_int (pa_cons (pe_cmpR op_eq (pcall h1 hr (by decide) rfl (pa_cons (pv 1) (pa_cons pe_int pa_nil))) pe_int (nomark _)) pa_nil)) (fun _ _ => rfl)) pa_nil)) (pg_name (i := 2) sc_law.nd rfl (Or.inl rfl)) (fun C s₀ H₀ ex => pts_nil)
        (fun C s₀ H₀ ex => pcall h2 hr (by decide) rfl (pa_cons (pv 1) pa_nil)) (by with_unfolding_all rfl)))
    (pss_cons (ps_set (i := 3) sc_law.nd rfl (Or.inl rfl) (pcall h3 hr (by decide) rfl (pa_cons (pv 1) (pa_cons (pe_ix ix_list (pe_lst (pa_cons pe_int (pa_cons pe_int pa_nil))) (pe_callTy call_int1 rfl mI boot_int (pa_cons (pe_cmpR op_eq (pcall h1 hr (by decide) rfl (pa_cons (pv 1) (pa_cons pe_int pa_nil))) pe_int (nomark _)) pa_nil)) (fun _ _ => rfl)) pa_nil))))
    (pss_cons (ps_for PassesOwn.never rfl (pi_range1 rfl mr (pa_cons pe_int pa_nil)) (pg_name (i := 4) sc_law.nd rfl (Or.inl rfl))
      (pss_cons (ps_set (i := 5) sc_law.nd rfl (Or.inl rfl) (pcall h4 hr (by decide) rfl (pa_cons (pv 1) (pa_cons (pv 3) (pa_cons (pv 2) (pa_cons (pe_op op_add pe_int (pcall h1 hr (by decide) rfl (pa_cons (pv 1) (pa_cons pe_int pa_nil)))) pa_nil))))))
      (pss_cons (ps_set (i := 6) sc_law.nd rfl (Or.inl rfl) (pcall h5 hr (by decide) rfl (pa_cons (pv 1) (pa_cons (pv 3) (pa_cons (pv 2) pa_nil)))))
      (pss_cons (ps_set (i := 7) sc_law.nd rfl (Or.inl rfl) (pcall h5 hr (by decide) rfl (pa_cons (pv 1) (pa_cons (pv 3) (pa_cons (pv 2) pa_nil)))))
      (pss_cons (ps_set (i := 8) sc_law.nd rfl (Or.inl rfl) pe_dnewK)
      (pss_cons (ps_set (i := 9) sc_law.nd rfl (Or.inl rfl) pe_dnewK)
      (pss_cons (ps_for PassesOwn.never rfl (pi_list (pv 3)) (pg_name (i := 10) sc_law.nd rfl (Or.inl rfl))
        (pss_cons (ps_dput hu (pv 8) (pv 10) (pcall h6 hr (by decide) rfl (pa_cons (pcall h6 hr (by decide) rfl (pa_cons (pv 10) (pa_cons (pv 6) pa_nil))) (pa_cons (pv 7) pa_nil))) rfl)
        (pss_one (ps_dput hu (pv 9) (pv 10) (pv 10) rfl))))
      (pss_cons (ps_set (i := 11) sc_law.nd rfl (Or.inl rfl) (pcall h6 hr (by decide) rfl (pa_cons (pv 5) (pa_cons (pv 8) pa_nil))))
      (pss_cons (ps_if (PW.pt (pw_or (pt_not (pt_val (pcall h7 hr (by decide) rfl (pa_cons (pcall h8 hr (by decide) rfl (pa_cons (pcall h8 hr (by decide) rfl (pa_cons (pv 5) (pa_cons (pe_callTy call_dict_d rfl mD boot_dict' (pa_cons (pv 6) pa_nil)) pa_nil))) (pa_cons (pe_callTy call_dict_d rfl mD boot_dict' (pa_cons (pv 7) pa_nil)) pa_nil))) (pa_cons (pv 11) pa_nil)))))
          (pw_or1 (pt_not (pt_val (pcall h7 hr (by decide) rfl (pa_cons (pcall h8 hr (by decide) rfl (pa_cons (pv 5) (pa_cons (pv 8) pa_nil))) (pa_cons (pv 11) pa_nil)))))))) (pss_one (ps_ret pe_bl)) pss_nil)
      (pss_one (ps_if (pt_not (pt_val (pcall h7 hr (by decide) rfl (pa_cons (pcall h8 hr (by decide) rfl (pa_cons (pv 5) (pa_cons (pv 9) pa_nil))) (pa_cons (pv 5) pa_nil))))) (pss_one (ps_ret pe_bl)) pss_nil)))))))))))
    (pss_one (ps_ret pe_bl))))), ?_⟩
  refine ⟨_, rfl, a, ns, rfl, hS, fun p cl H1 e1 hp0 hcl0 ok1 => ?_⟩
  have tb1 := tb0.same e1
  -- the heads
  refine ⟨small (by show 2 ≤ 1000000; decide), fun l2 hl2 => ?_⟩
  have s2 := same_new hl2 (.lst [V.int 4, V.int 9])
  have ok2 := ok1.same s2
  have hl2' : (upd H1 l2 (.lst [V.int 4, V.int 9])) l2 = some (.lst [V.int 4, V.int 9]) := upd_same
  revert ok2 hl2' s2
  generalize upd H1 l2 (.lst [V.int 4, V.int 9]) = H2
  intro s2 ok2 hl2'
  have tb2 := tb1.same s2
  refine ⟨_, rfl, p, cl, 0, 4, rfl, ok2, by decide, by decide, by decide, fun d H3 d0 d1 g3 => ?_⟩
  have hl3 := g3.keep _ _ (ok2.ne_lst hl2') hl2'
  have tb3 := tb2.grow g3 ok2
  refine ⟨rfl, .inr ⟨_, rfl, ?_⟩⟩
  have key : ∀ (c : Bool), ∃ m : Nat, atI [V.int 4, V.int 9] (if c = true then 1 else 0) = some (.int (m : Int)) ∧ 1 ≤ m ∧ m ≤ 9 := fun c => by
    cases c
    · exact ⟨4, atI_nat (j := 0) rfl, by decide, by decide⟩
    · exact ⟨9, atI_nat (j := 1) rfl, by decide, by decide⟩
  obtain ⟨m, hm, m1, m9⟩ := key (decide (V.int d = V.int 0))
  refine ⟨l2, _, _, _, rfl, rfl, SqL.of hl3, hm, _, rfl, by omega, by omega, ?_⟩
  have en : (m : Int).toNat = m := by omega
  rw [en]
  refine comp_range (n := m) (fun i vs H' => PotOk H' p cl (1 + 11 * i) ∧ TbOk Pt lamQ lamP H' ∧ ∃ hs : List (Str × Int), Reps H' vs (hs.map hT) ∧ hs.length = i ∧ ∀ h ∈ hs, NQ h.1 ∧ 0 ≤ h.2 ∧ h.2 < 4)
    ⟨g3.ok, tb3, [], .nil, rfl, fun _ h => by cases h⟩ ?_ ?_ ?_
  · rintro i vs H4 hi ⟨_, _, hs, rhs, lhs, _⟩
    refine small' ?_
    rw [rhs.length, List.length_map, lhs]
    omega
  · rintro i vs H4 hi ⟨ok4, tb4, hs, rhs, lhs, hhs⟩
    refine tt1 (iteT ⟨_, rfl, p, cl, 1 + 11 * i, rfl, ok4, by omega, fun b z k H5 nz k0 k4 hb g5 => nx hi ⟨g5.ok.mono (by omega), tb4.grow g5 ok4, hs ++ [(z, k)], ?_, by rw [List.length_append, lhs]; rfl, fun h hh => ?_⟩⟩)
    · rw [List.map_append]
      exact (rhs.growP g5 ok4).append (.cons (hT_reps hb nz.2) .nil)
    · rcases List.mem_append.mp hh with h' | h'
      · exact hhs h h'
      · rw [List.mem_singleton.mp h']
        exact ⟨nz, k0, k4⟩
  rintro hvs H4 ⟨ok4, tb4, hs, rhs, lhs, hhs⟩ ha hha
  have s5 := same_new hha (.lst hvs)
  have ok5 : PotOk (upd H4 ha (.lst hvs)) p cl 100 := (ok4.mono (by omega)).same s5
  have hha5 : (upd H4 ha (.lst hvs)) ha = some (.lst hvs) := upd_same
  have rhs5 := rhs.same s5
  revert ok5 hha5 rhs5 s5
  generalize upd H4 ha (.lst hvs) = H5
  intro s5 ok5 hha5 rhs5
  have tb5 := tb4.same s5
  -- the leaves
  show tSeq _ _ _ [some (.ref a), some (.ref p), some (.ref ha), none, none, none, none, none, none, none, none, none] H5
  refine ⟨_, rfl, small (by show 2 ≤ 1000000; decide), fun l6 hl6 => ?_⟩
  have s6 := same_new hl6 (.lst [V.int 6, V.int 12])
  have ok6 := ok5.same s6
  have hl6' : (upd H5 l6 (.lst [V.int 6, V.int 12])) l6 = some (.lst [V.int 6, V.int 12]) := upd_same
  have hha6 := s6 _ _ hha5
  have rhs6 := rhs5.same s6
  revert ok6 hl6' s6 hha6 rhs6
  generalize upd H5 l6 (.lst [V.int 6, V.int 12]) = H6
  intro s6 ok6 hl6' hha6 rhs6
  have tb6 := tb5.same s6
  refine ⟨_, rfl, p, cl, 100, 4, rfl, ok6, by decide, by decide, by decide, fun d' H7 d0' d1' g7 => ?_⟩
  have hl7 := g7.keep _ _ (ok6.ne_lst hl6') hl6'
  have hha7 := g7.keep _ _ (ok6.ne_lst hha6) hha6
  have rhs7 := rhs6.growP g7 ok6
  have tb7 := tb6.grow g7 ok6
  refine ⟨rfl, .inr ⟨_, rfl, ?_⟩⟩
  have key2 : ∀ (c : Bool), ∃ m : Nat, atI [V.int 6, V.int 12] (if c = true then 1 else 0) = some (.int (m : Int)) ∧ 4 ≤ m ∧ m ≤ 12 := fun c => by
    cases c
    · exact ⟨6, atI_nat (j := 0) rfl, by decide, by decide⟩
    · exact ⟨12, atI_nat (j := 1) rfl, by decide, by decide⟩
  obtain ⟨m', hm', m1', m9'⟩ := key2 (decide (V.int d' = V.int 0))
  refine ⟨l6, _, _, _, rfl, rfl, SqL.of hl7, hm', p, cl, 101, m', rfl, g7.ok, m9', by decide, fun la zs H8 hla hla8 lzs nd hz8 g8 => ?_⟩
  have hha8 := g8.keep _ _ (g7.ok.ne_lst hha7) hha7
  have rhs8 := rhs7.growP g8 g7.ok
  have src8 : Src H8 p la ha zs hvs hs := ⟨hla8, by omega, fun z hz => (hz8 z hz).2, hha8, rhs8, by omega, by omega, hhs⟩
  have ok8 : PotOk H8 p cl 300 := g8.ok.mono (by omega)
  have tb8 := tb7.grow g8 g7.ok
  -- three turns
  show tSeq _ _ _ [some (.ref a), some (.ref p), some (.ref ha), some (.ref la), none, none, none, none, none, none, none, none] H8
  refine ⟨3, rfl, by decide, by decide, for_range (n := 3) (fun i σ H' => ∃ (o4 o5 o6 o7 o8 o9 o10 o11 : Option V), σ = [some (.ref a), some (.ref p), some (.ref ha), some (.ref la), o4, o5, o6, o7, o8, o9, o10, o11] ∧ PotOk H' p cl (300 + 3000 * i) ∧ Src H' p la ha zs hvs hs ∧ TbOk Pt lamQ lamP H')
    ⟨none, none, none, none, none, none, none, none, rfl, ok8, src8, tb8⟩ ?_ ?_⟩
  · rintro i σ H9 hi ⟨o4, o5, o6, o7, o8, o9, o10, o11, rfl, ok9, src9, tb9⟩
    refine ⟨_, rfl, _, rfl, _, rfl, _, rfl, p, cl, 300 + 3000 * i, 3, rfl, ok9, by omega, by decide, by decide, fun e H10 e0 e1' g10 => ?_⟩
    obtain ⟨en, rfl⟩ : ∃ en : Nat, e = en := ⟨e.toNat, by omega⟩
    have src10 := src9.grow g10 ok9
    have tb10 := tb9.grow g10 ok9
    have dq := DQ_le3 (1 + en) (by omega)
    have bq := BQ_le3 (1 + en) (by omega)
    refine ⟨_, _, rfl, rfl, 1 + en, by omega, p, cl, la, ha, 300 + 3000 * i + 1, zs, hvs, hs, rfl, g10.ok, by omega, src10, fun v t H11 kt rt st g11 => ?_⟩
    have src11 := src10.grow g11 g10.ok
    have tb11 := tb10.grow g11 g10.ok
    refine ⟨_, rfl, _, rfl, _, rfl, p, cl, la, ha, 300 + 3000 * i + 1 + DQ (1 + en), zs, hvs, hs, rfl, g11.ok, by omega, src11, nd, fun bo ko mo H12 hbo hbo12 dro lko hmo g12 => ?_⟩
    have src12 := src11.grow g12 g11.ok
    have tb12 := tb11.grow g12 g11.ok
    have rt12 := rt.growP g12 g11.ok
    have nbo : bo ≠ p := (g11.ok.fresh hbo).1
    refine ⟨_, rfl, _, rfl, _, rfl, p, cl, la, ha, 300 + 3000 * i + 1 + DQ (1 + en) + 1000, zs, hvs, hs, rfl, g12.ok, by omega, src12, nd, fun bt kt2 mt H13 hbt hbt13 drt lkt hmt g13 => ?_⟩
    have src13 := src12.grow g13 g12.ok
    have tb13 := tb12.grow g13 g12.ok
    have rt13 := rt12.growP g13 g12.ok
    have hbo13 := g13.keep _ _ nbo hbo12
    have dro13 : DReps H13 ko mo := dro.mono (g13.tups g12.ok)
    have ok13 : PotOk H13 p cl (300 + 3000 * (i + 1)) := g13.ok.mono (by omega)
    intro bb hbb
    intro bi hbi
    have ob : ∀ x ∈ mo, x.1 ∈ zs := fun x hx => (hmo x hx).2.2
    have tb : ∀ x ∈ mt, x.1 ∈ zs := fun x hx => (hmt x hx).2.2
    have ko2 : ∀ x ∈ mo, KD 2 x.2 := fun x hx => (hmo x hx).1
    have kt22 : ∀ x ∈ mt, KD 2 x.2 := fun x hx => (hmt x hx).1
    have so : ∀ x ∈ mo, x.2.sz ≤ 17 := fun x hx => (hmo x hx).2.1
    have sT : ∀ x ∈ mt, x.2.sz ≤ 17 := fun x hx => (hmt x hx).2.1
    have opo : ∀ x ∈ mo, Txt.startswith x.1 "?" = true := fun x hx => lq_open (hz8 _ (ob x hx))
    have opt : ∀ x ∈ mt, Txt.startswith x.1 "?" = true := fun x hx => lq_open (hz8 _ (tb x hx))
    have hbo13' : H13 bo = some (.dK ko) := hbo13
    have s14 := (same_new hbb (.dK [])).trans (same_new hbi (.dK []))
    have nbb : bb ≠ bi := fun e => by rw [← e, upd_same] at hbi; cases hbi
    have hbi13 : H13 bi = none := (same_new hbb (.dK [])).free hbi
    have lz12 := src8.lz
    let G : Str → T := fun z => fillT mt (fillT mo (.str z))
    have kG : ∀ z, z.length ≤ 80 → KD 4 (G z) := fun z hz => (KD.fill kt22 (KD.fill ko2 (KD.leaf (n := 0) hz)))
    refine ⟨_, rfl, la, rfl, ⟨_, SqL.of (s14 _ _ src13.la)⟩, for_list (xs := zs.map V.str) (fun j σ H' => ∃ (o10 o11 : Option V) (kb ki : List (Key × V)), σ = [some (.ref a), some (.ref p), some (.ref ha), some (.ref la), some (.int (0 + i)), some v, some (.ref bo), some (.ref bt), some (.ref bb), some (.ref bi), o10, o11] ∧
        H' bb = some (.dK kb) ∧ H' bi = some (.dK ki) ∧ DReps H' kb ((zs.take j).map fun y => (y, G y)) ∧ DReps H' ki ((zs.take j).map fun y => (y, T.str y)) ∧ kb.length ≤ j ∧ ki.length ≤ j ∧ Same H13 H')
      ⟨_, _, [], [], rfl, by rw [upd_ne nbb]; exact upd_same, upd_same, .nil, .nil, Nat.le_refl _, Nat.le_refl _, s14⟩ ?_ ?_ ?_⟩
    · rintro j σ H' hj ⟨o10, o11, kb, ki, rfl, _, _, _, _, _, _, e⟩
      exact SqL.of (e _ _ src13.la)
    · rintro j x σ H15 hx ⟨o10, o11, kb, ki, rfl, hbb15, hbi15, drb, dri, lkb, lki, e15⟩
      rw [List.getElem?_map] at hx
      cases hz : zs[j]? with
      | none => rw [hz] at hx; cases hx
      | some z =>
        rw [hz] at hx
        obtain rfl : V.str z = x := Option.some.inj hx
        have hj : j < zs.length := (List.getElem?_eq_some_iff.mp hz).1
        have et : zs.take (j + 1) = zs.take j ++ [z] := by
          rw [List.take_add_one, hz]
          rfl
        have zm : z ∈ zs := List.mem_of_getElem? hz
        have zl := (hz8 z zm).2
        have znot : z ∉ zs.take j := fun h => by
          have nd1 : (zs.take (j + 1)).Nodup := nd.sublist (List.take_sublist _ _)
          rw [et, List.nodup_append] at nd1
          exact nd1.2.2 z h z (by simp) rfl
        refine ⟨_, rfl, _, rfl, .str z, bo, .str z, ko, mo, rfl, .str z (by omega), .leaf zl, e15 _ _ hbo13', dro13.mono (Same.tups e15), fun v1 H16 e16 r1 => ?_⟩
        have e13 := e15.trans e16
        refine ⟨_, rfl, v1, bt, fillT mo (.str z), kt2, mt, rfl, r1, (KD.fill ko2 (KD.leaf (n := 0) zl)).up (by decide), e13 _ _ hbt13, drt.mono (Same.tups e13), fun v2 H17 e17 r2 => ?_⟩
        have e67 := e16.trans e17
        have hbb17 := e67 _ _ hbb15
        have hbi17 := e67 _ _ hbi15
        refine ⟨_, rfl, _, rfl, bb, _, rfl, DPut.k (k := Sum.inr z) (v := v2) hbb17 (small' (by omega)), ?_⟩
        rw [putK_new v2 (drb.val_none znot)]
        have hbi18 : (upd H17 bb (.dK (kb ++ [(Sum.inr z, v2)]))) bi = some (.dK ki) := by rw [upd_ne (Ne.symm nbb)]; exact hbi17
        refine ⟨_, rfl, _, rfl, _, rfl, bi, _, rfl, DPut.k (k := Sum.inr z) (v := .str z) hbi18 (small' (by omega)), ?_⟩
        rw [putK_new (.str z) (dri.val_none znot)]
        have tu : ∀ c xs, H17 c = some (.tup xs) → (upd (upd H17 bb (.dK (kb ++ [(Sum.inr z, v2)]))) bi (.dK (ki ++ [(Sum.inr z, V.str z)]))) c = some (.tup xs) := fun c xs h => by
          rw [upd_ne (ne_of h hbi17 (by intro z; cases z)), upd_ne (ne_of h hbb17 (by intro z; cases z))]; exact h
        refine ⟨_, _, kb ++ [(Sum.inr z, v2)], ki ++ [(Sum.inr z, V.str z)], rfl, by rw [upd_ne nbb]; exact upd_same, upd_same, ?_, ?_, by simp; omega, by simp; omega, fun c u h => ?_⟩
        · rw [et]
          exact ((drb.mono (Same.tups e67)).mono tu).snocz (r2.mono tu)
        · rw [et]
          exact ((dri.mono (Same.tups e67)).mono tu).snocz (g := T.str) (.str z (by omega))
        · rw [upd_ne (ne_of_none h hbi13), upd_ne (ne_of_none h hbb)]
          exact (e13.trans e17) c u h
    · rintro σ H15 ⟨o10, o11, kb, ki, rfl, hbb15, hbi15, drb, dri, lkb, lki, e15⟩
      rw [List.length_map, List.take_of_length_le (Nat.le_refl _)] at drb dri
      have rt15 := rt13.same e15
      have opb : ∀ x ∈ (zs.map fun y => (y, G y)), Txt.startswith x.1 "?" = true := fun x hx => by
        obtain ⟨y, hy, rfl⟩ := List.mem_map.mp hx
        exact lq_open (hz8 y hy)
      have opi : ∀ x ∈ (zs.map fun y => (y, T.str y)), Txt.startswith x.1 "?" = true := fun x hx => by
        obtain ⟨y, hy, rfl⟩ := List.mem_map.mp hx
        exact lq_open (hz8 y hy)
      have kb4 : ∀ x ∈ (zs.map fun y => (y, G y)), KD 4 x.2 := fun x hx => by
        obtain ⟨y, hy, rfl⟩ := List.mem_map.mp hx
        exact kG y (hz8 y hy).2
      have both : ∀ z, fillT mt (fillT mo (.str z)) = fillT (zs.map fun y => (y, G y)) (.str z) := fun z => by
        by_cases hz : z ∈ zs
        · show G z = ((zs.map fun y => (y, G y)).lookup z).getD (.str z)
          rw [lookup_zs, if_pos hz]
          rfl
        · rw [fill_out ob hz, fill_out tb hz, fill_out (m := zs.map fun y => (y, G y)) (fun x hx => by obtain ⟨y, hy, rfl⟩ := List.mem_map.mp hx; exact hy) hz]
      have self : ∀ z, fillT (zs.map fun y => (y, T.str y)) (.str z) = .str z := fun z => by
        show ((zs.map fun y => (y, T.str y)).lookup z).getD (.str z) = _
        rw [lookup_zs]
        split <;> rfl
      have k7 : KD 7 t := kt.up (by omega)
      have kdue : KD 7 (fillT (zs.map fun y => (y, G y)) t) := (KD.fill kb4 kt).up (by omega)
      refine ⟨_, rfl, _, rfl, v, bb, t, kb, _, rfl, rt15, k7, hbb15, drb, fun vd H16 e16 rd => ?_⟩
      have e13 := e15.trans e16
      have sz1 := sz_fill (c := 17) (by decide) so t
      refine ⟨_, rfl, _, rfl, bo, ko, rfl, e13 _ _ hbo13', fun d1 hd1 => ?_⟩
      have s17 := same_new hd1 (.dK ko)
      have e17 := e13.trans s17
      refine ⟨v, d1, t, 1 + en, ko, mo, rfl, rt13.same e17, kt, by omega, upd_same, dro13.mono (Same.tups e17), opo, tb13.same e17, fun v1 H18 e18 tb18 r1 => ?_⟩
      have e18' := (Same.toT e17).trans e18
      refine ⟨_, rfl, bt, kt2, rfl, e18'.dK hbt13, fun d2 hd2 => ?_⟩
      have s19 := same_new hd2 (.dK kt2)
      have e19 := e18'.trans (Same.toT s19)
      refine ⟨v1, d2, fillT mo t, 1 + en + 2, kt2, mt, rfl, r1.same s19, KD.fill ko2 kt, by omega, upd_same, drt.mono e19.tups, opt, tb18.same s19, fun v2 H20 e20 tb20 r2 => ?_⟩
      have e20' := e19.trans e20
      have eD : SameT H16 H20 := ((Same.toT s17).trans e18).trans ((Same.toT s19).trans e20)
      rw [fill_two both t] at r2
      refine ⟨_, rfl, v2, vd, _, rfl, r2, rd.mono eD.tups, kdue, fun H21 e21 => ⟨true, rfl, iteF ?_⟩⟩
      have eD1 := eD.trans (Same.toT e21)
      have eA := (Same.toT e16).trans eD1
      have e21' := e20'.trans (Same.toT e21)
      refine ⟨_, rfl, _, rfl, v, bb, t, 1 + en, kb, _, rfl, rt13.mono e21'.tups, kt, by omega, eA.dK hbb15, drb.mono eA.tups, opb, tb20.same e21, fun v3 H22 e22 tb22 r3 => ?_⟩
      refine ⟨_, rfl, v3, vd, _, rfl, r3, rd.mono (eD1.trans e22).tups, kdue, fun H23 e23 => ⟨true, rfl, iteF ?_⟩⟩
      have eB := (eA.trans e22).trans (Same.toT e23)
      have e23' := (e21'.trans e22).trans (Same.toT e23)
      refine ⟨_, rfl, _, rfl, v, bi, t, 1 + en, ki, _, rfl, rt13.mono e23'.tups, kt, by omega, eB.dK hbi15, dri.mono eB.tups, opi, tb22.same e23, fun v4 H24 e24 tb24 r4 => ?_⟩
      rw [fill_self self t] at r4
      refine ⟨_, rfl, v4, v, t, rfl, r4, rt13.mono (e23'.trans e24).tups, k7, fun H25 e25 => ⟨true, rfl, iteF ?_⟩⟩
      have e25' := (e23'.trans e24).trans (Same.toT e25)
      exact ⟨_, _, _, _, _, _, _, _, rfl, ok13.conv e25', src13.conv e25', tb24.same e25⟩
  · rintro σ H9 ⟨o4, o5, o6, o7, o8, o9, o10, o11, rfl, _⟩
    exact q _
end
end Fw

set_option Elab.async false
set_option linter.all false
set_option maxRecDepth 100000
namespace Fw
open PySem PySem.Spec PyProof.Rows L2
def DefIs (K : PySem.W.Frag) (x : Str) (st : Stmt) : Prop := ∃ f fd, PySem.W.nsIn K mainGlobals x = some (some (.ref f)) ∧ Fun K x x st f fd
theorem def_mk {K : PySem.W.Frag} {x : Str} {st : Stmt} {f : Addr} {oc : Value} {od an : Option Addr} {osl : Array (Option Value)} {kV doc pm cdv ct : Value} (a : PySem.W.nsIn K mainGlobals x = some (some (.ref f)))
    (l : K.lookup f = some ⟨oc, od, .func (PySem.W.fnOf x x (defArgs st) (defBody st) (defScope st) .none kV doc pm an cdv ct), osl⟩) (c : PySem.W.codeIn K cdv x = true) (k : PySem.W.keepIn K (.ref f) = true) : DefIs K x st := ⟨f, _, a, fun_mk l c k⟩
theorem law_binds {K : PySem.W.Frag} {x : Str} {st : Stmt} {f : Addr} {fd : FuncData} {p : Str} (F : Fun K x x st f fd) (h : ∀ (kV doc pm : Value) (an : Option Addr) (cdv ct : Value) (s : Shared) (v : Value), BindsTo s (PySem.W.fnOf x x (defArgs st) (defBody st) (defScope st) .none kV doc pm an cdv ct) ⟨[v], []⟩ [(p, v)]) :
    ∀ (s : Shared) (v : Value), BindsTo s fd ⟨[v], []⟩ [(p, v)] := by
  obtain ⟨oc, od, kV, doc, pm, an, cdv, ct, osl, rfl, lk, hcd⟩ := F.ex
  exact h kV doc pm an cdv ct
def DefIsC (K : PySem.W.Frag) (x : Str) (st : Stmt) (cp : Addr) : Prop := ∃ f fd, PySem.W.nsIn K mainGlobals x = some (some (.ref f)) ∧ Fun K x x st f fd ∧ fd.code = .ref cp
theorem def_mkC {K : PySem.W.Frag} {x : Str} {st : Stmt} {f cp : Addr} {oc : Value} {od an : Option Addr} {osl : Array (Option Value)} {kV doc pm ct : Value} (a : PySem.W.nsIn K mainGlobals x = some (some (.ref f)))
    (l : K.lookup f = some ⟨oc, od, .func (PySem.W.fnOf x x (defArgs st) (defBody st) (defScope st) .none kV doc pm an (.ref cp) ct), osl⟩) (c : PySem.W.codeIn K (.ref cp) x = true) (k : PySem.W.keepIn K (.ref f) = true) : DefIsC K x st cp := ⟨f, _, a, fun_mk l c k, rfl⟩
theorem all_mk {l : PySem.W.OpenLaw} {w : World} {K : PySem.W.Frag} {h : Heap} {mg : Str → Option Value} {fa cp Pt : Addr} (X : K.In h) (G : h.Ns mainGlobals mg) (hfa : mg "law" = some (.ref fa))
    (z_len : PySem.W.nsIn K mainGlobals "len" = some none)
    (z_isinstance : PySem.W.nsIn K mainGlobals "isinstance" = some none)
    (z_str : PySem.W.nsIn K mainGlobals "str" = some none)
    (z_tuple : PySem.W.nsIn K mainGlobals "tuple" = some none)
    (z_list : PySem.W.nsIn K mainGlobals "list" = some none)
    (z_reversed : PySem.W.nsIn K mainGlobals "reversed" = some none)
    (z_range : PySem.W.nsIn K mainGlobals "range" = some none)
    (z_int : PySem.W.nsIn K mainGlobals "int" = some none)
    (z_all : PySem.W.nsIn K mainGlobals "all" = some none)
    (z_zip : PySem.W.nsIn K mainGlobals "zip" = some none)
    (z_dict : PySem.W.nsIn K mainGlobals "dict" = some none)
    (d1 : DefIs K "headed" s_headed)
    (d2 : DefIs K "is_open" s_is_open)
    (d3 : DefIs K "formed" s_formed)
    (d5 : DefIs K "outer_first" s_outer)
    (d6 : DefIs K "remade" s_remade)
    (d7 : DefIsC K "put" s_put cp)
    (d9 : DefIs K "_law_mixed" s_mixed)
    (d10 : DefIs K "_law_pot" s_pot)
    (d11 : DefIs K "_law_draw" s_draw)
    (d12 : DefIs K "_law_word" s_word)
    (d13 : DefIs K "_law_head" s_head)
    (d14 : DefIs K "_law_leaf" s_leaf)
    (d15 : DefIs K "_law_leaves" s_leaves)
    (d16 : DefIs K "_law_kind" s_kind)
    (d17 : DefIs K "_law_same" s_same)
    (d18 : DefIs K "_law_filled" s_filled)
    (d19 : DefIs K "_law_by" s_by)
    (d20 : DefIs K "law" s_law) :
    ∃ fd : FuncData, (∀ (s : Shared) (v : Value), BindsTo s fd ⟨[v], []⟩ [("_law_script", v)]) ∧ ∀ base : Heap, K.In base → base.Ns mainGlobals mg → BMain mg base → PySem.W.CodeHd base cp Pt → FnOk l.prog w K mg base CX0 11 fa fd ["_law_script"] (spLaw Pt K) := by
  obtain ⟨f1, g1, a1, F1⟩ := d1
  obtain ⟨f2, g2, a2, F2⟩ := d2
  obtain ⟨f3, g3, a3, F3⟩ := d3
  obtain ⟨f5, g5, a5, F5⟩ := d5
  obtain ⟨f6, g6, a6, F6⟩ := d6
  obtain ⟨f7, g7, a7, F7, cdE⟩ := d7
  obtain ⟨f9, g9, a9, F9⟩ := d9
  obtain ⟨f10, g10, a10, F10⟩ := d10
  obtain ⟨f11, g11, a11, F11⟩ := d11
  obtain ⟨f12, g12, a12, F12⟩ := d12
  obtain ⟨f13, g13, a13, F13⟩ := d13
  obtain ⟨f14, g14, a14, F14⟩ := d14
  obtain ⟨f15, g15, a15, F15⟩ := d15
  obtain ⟨f16, g16, a16, F16⟩ := d16
  obtain ⟨f17, g17, a17, F17⟩ := d17
  obtain ⟨f18, g18, a18, F18⟩ := d18
  obtain ⟨f19, g19, a19, F19⟩ := d19
  obtain ⟨f20, g20, a20, F20⟩ := d20
  have e := hfa.symm.trans (PySem.W.mg_of X G a20)
  cases e
  refine ⟨g20, law_binds F20 fun _ _ _ _ _ _ _ _ => .of_eq rfl, fun base _ _ BM CH => ?_⟩
  have m_len := PySem.W.mg_none_of X G z_len
  have m_isinstance := PySem.W.mg_none_of X G z_isinstance
  have m_str := PySem.W.mg_none_of X G z_str
  have m_tuple := PySem.W.mg_none_of X G z_tuple
  have m_list := PySem.W.mg_none_of X G z_list
  have m_reversed := PySem.W.mg_none_of X G z_reversed
  have m_range := PySem.W.mg_none_of X G z_range
  have m_int := PySem.W.mg_none_of X G z_int
  have m_all := PySem.W.mg_none_of X G z_all
  have m_zip := PySem.W.mg_none_of X G z_zip
  have m_dict := PySem.W.mg_none_of X G z_dict
  have b1 := F1.binds (ps := ["thing"]) fun _ _ _ _ _ _ us hl => match us, hl with | [_], _ => rfl
  have b2 := F2.binds (ps := ["thing"]) fun _ _ _ _ _ _ us hl => match us, hl with | [_], _ => rfl
  have b3 := F3.binds (ps := ["head", "inner"]) fun _ _ _ _ _ _ us hl => match us, hl with | [_, _], _ => rfl
  have b5 := F5.binds (ps := ["kind"]) fun _ _ _ _ _ _ us hl => match us, hl with | [_], _ => rfl
  have b6 := F6.binds (ps := ["kind", "make"]) fun _ _ _ _ _ _ us hl => match us, hl with | [_, _], _ => rfl
  have b7 := F7.binds (ps := ["kind", "by"]) fun _ _ _ _ _ _ us hl => match us, hl with | [_, _], _ => rfl
  have b9 := F9.binds (ps := ["_law_cell", "_law_turn"]) fun _ _ _ _ _ _ us hl => match us, hl with | [_, _], _ => rfl
  have b10 := F10.binds (ps := ["_law_script"]) fun _ _ _ _ _ _ us hl => match us, hl with | [_], _ => rfl
  have b11 := F11.binds (ps := ["_law_pot_here", "_law_many"]) fun _ _ _ _ _ _ us hl => match us, hl with | [_, _], _ => rfl
  have b12 := F12.binds (ps := ["_law_pot_here"]) fun _ _ _ _ _ _ us hl => match us, hl with | [_], _ => rfl
  have b13 := F13.binds (ps := ["_law_pot_here"]) fun _ _ _ _ _ _ us hl => match us, hl with | [_], _ => rfl
  have b14 := F14.binds (ps := ["_law_pot_here"]) fun _ _ _ _ _ _ us hl => match us, hl with | [_], _ => rfl
  have b15 := F15.binds (ps := ["_law_pot_here", "_law_many"]) fun _ _ _ _ _ _ us hl => match us, hl with | [_, _], _ => rfl
  have b16 := F16.binds (ps := ["_law_pot_here", "_law_leaves_here", "_law_heads", "_law_deep"]) fun _ _ _ _ _ _ us hl => match us, hl with | [_, _, _, _], _ => rfl
  have b17 := F17.binds (ps := ["_law_one", "_law_due"]) fun _ _ _ _ _ _ us hl => match us, hl with | [_, _], _ => rfl
  have b18 := F18.binds (ps := ["_law_kind_here", "_law_by_here"]) fun _ _ _ _ _ _ us hl => match us, hl with | [_, _], _ => rfl
  have b19 := F19.binds (ps := ["_law_pot_here", "_law_leaves_here", "_law_heads"]) fun _ _ _ _ _ _ us hl => match us, hl with | [_, _, _], _ => rfl
  have H1 : Has l.prog w K mg base 1 "headed" ["thing"] spHeaded := ⟨f1, g1, ok_headed F1 m_isinstance m_tuple, b1, F1.kp, PySem.W.mg_of X G a1⟩
  have H2 : Has l.prog w K mg base 1 "is_open" ["thing"] spOpen := ⟨f2, g2, ok_is_open F2 m_isinstance m_str, b2, F2.kp, PySem.W.mg_of X G a2⟩
  have H3 : Has l.prog w K mg base 1 "formed" ["head", "inner"] spFormed := ⟨f3, g3, ok_formed F3 m_len m_tuple, b3, F3.kp, PySem.W.mg_of X G a3⟩
  have H5 : Has l.prog w K mg base 1 "outer_first" ["kind"] spOuter := ⟨f5, g5, ok_outer F5 m_len m_isinstance m_tuple m_list m_reversed, b5, F5.kp, PySem.W.mg_of X G a5⟩
  have H6 : Has l.prog w K mg base 3 "remade" ["kind", "make"] (spRemade l.prog w K mg base) := ⟨f6, g6, ok_remade F6 m_len m_range m_reversed H1 H5, b6, F6.kp, PySem.W.mg_of X G a6⟩
  have H7 : Has l.prog w K mg base 4 "put" ["kind", "by"] (spPut Pt) := ⟨f7, g7, ok_put F7 cdE CH BM m_len H2 H3 H6, b7, F7.kp, PySem.W.mg_of X G a7⟩
  have H9 : Has l.prog w K mg base 1 "_law_mixed" ["_law_cell", "_law_turn"] spMixed := ⟨f9, g9, ok_mixed F9, b9, F9.kp, PySem.W.mg_of X G a9⟩
  have H10 : Has l.prog w K mg base 1 "_law_pot" ["_law_script"] (spPot K) := ⟨f10, g10, ok_pot F10 m_list, b10, F10.kp, PySem.W.mg_of X G a10⟩
  have H11 : Has l.prog w K mg base 2 "_law_draw" ["_law_pot_here", "_law_many"] spDraw := ⟨f11, g11, ok_draw F11 m_len H9, b11, F11.kp, PySem.W.mg_of X G a11⟩
  have H12 : Has l.prog w K mg base 3 "_law_word" ["_law_pot_here"] spPWord := ⟨f12, g12, ok_word F12 H11, b12, F12.kp, PySem.W.mg_of X G a12⟩
  have H13 : Has l.prog w K mg base 4 "_law_head" ["_law_pot_here"] spPHead := ⟨f13, g13, ok_head F13 H11 H12, b13, F13.kp, PySem.W.mg_of X G a13⟩
  have H14 : Has l.prog w K mg base 4 "_law_leaf" ["_law_pot_here"] spPLeaf := ⟨f14, g14, ok_leaf F14 m_str H11 H12, b14, F14.kp, PySem.W.mg_of X G a14⟩
  have H15 : Has l.prog w K mg base 5 "_law_leaves" ["_law_pot_here", "_law_many"] spPLeaves := ⟨f15, g15, ok_leaves F15 m_range H14, b15, F15.kp, PySem.W.mg_of X G a15⟩
  have H162 := kinds_le (P := l.prog) (w := w) (base := base) F16 b16 (PySem.W.mg_of X G a16) m_len m_range m_tuple H11 2
  have H163 := kinds_le (P := l.prog) (w := w) (base := base) F16 b16 (PySem.W.mg_of X G a16) m_len m_range m_tuple H11 3
  have H17 := same_all (P := l.prog) (w := w) (base := base) F17 b17 (PySem.W.mg_of X G a17) m_isinstance m_tuple m_str m_len m_all m_zip 8
  have H18 := filled_all (P := l.prog) (w := w) (base := base) F18 b18 (PySem.W.mg_of X G a18) m_isinstance m_tuple 8
  have H19 : Has l.prog w K mg base 6 "_law_by" ["_law_pot_here", "_law_leaves_here", "_law_heads"] spBy := ⟨f19, g19, ok_by F19 H11 H162, b19, F19.kp, PySem.W.mg_of X G a19⟩
  exact ok_law F20 m_range m_len m_int m_dict H10 H11 H13 H15 H163 H19 H18 H17 H7
theorem walk {l : PySem.W.OpenLaw} {q : Program} {loose : List Str} {XP : (Str → Option Value) → Heap → Prop} {YP : World → Heap → Prop} {d : DefRec} {K : Params → PySem.W.Frag} {cp Pt : Addr} (hn : l.most = some 63) (hdf : d.params.defaults = [])
    (hY : ∀ (w : World) (h : Heap), YP w h → (K w.params).In h) (nT : ∀ w : World, PySem.W.noTabs (K w.params) = true) (hcd : ∀ w : World, PySem.W.codeHdIn (K w.params) cp Pt = true) (hT : ∀ (w : World) (h : Heap), YP w h → h.get? Pt = some (PySem.W.tabObj #[]))
    (F : ∀ (w : World) (mg : Str → Option Value) (fa : Addr) (h : Heap), (K w.params).In h → h.Ns mainGlobals mg → mg d.name = some (.ref fa) →
      ∃ fd : FuncData, (∀ (s : Shared) (u : Value), BindsTo s fd ⟨[u], []⟩ [("_law_script", u)]) ∧ ∀ base : Heap, (K w.params).In base → base.Ns mainGlobals mg → BMain mg base → PySem.W.CodeHd base cp Pt → FnOk l.prog w (K w.params) mg base CX0 11 fa fd ["_law_script"] (spLaw Pt (K w.params))) :
    PySem.W.WalkO q loose XP YP l.row.toRowW d [] (fun f vs => PySem.call f vs) :=
  L2.walk_ofT (n := 63) (k := 11) (x := "_law_script") (sp := spLaw Pt) hn (by decide) hdf ⟨rfl, by decide, by decide⟩ hY nT hcd hT F (fun _ _ a ns hl hS hP => ⟨a, ns, rfl, hS, hl, hP, fun _ => rfl⟩)
end Fw

set_option Elab.async false
open PySem PySem.W PyProof.Rows
set_option maxRecDepth 100000 in
set_option maxHeartbeats 0 in
theorem PySem.Challenge.cw_facework_k19_put_and_put_holds : PySem.Challenge.rw_facework_k19_put_and_put.Holds := by
  w_on; o_law; k_head; (case hw => w_witness2)
  k_fill
  refine Fw.walk (l := PySem.Challenge.rw_facework_k19_put_and_put) (cp := 53) (Pt := 49) rfl rfl (fun w h Y => PySem.W.km_in_of Y) (fun w => by kernel_rfl) (fun w => by kernel_rfl) (fun w h Y => PySem.W.km_tabs_of Y 49 (by simp)) ?F
  case F =>
    intro w mg fa h KX G hmg
    refine' Fw.all_mk KX G hmg ?z_len ?z_isinstance ?z_str ?z_tuple ?z_list ?z_reversed ?z_range ?z_int ?z_all ?z_zip ?z_dict ?d1 ?d2 ?d3 ?d5 ?d6 ?d7 ?d9 ?d10 ?d11 ?d12 ?d13 ?d14 ?d15 ?d16 ?d17 ?d18 ?d19 ?d20
    (case z_len => k_is)
    (case z_isinstance => k_is)
    (case z_str => k_is)
    (case z_tuple => k_is)
    (case z_list => k_is)
    (case z_reversed => k_is)
    (case z_range => k_is)
    (case z_int => k_is)
    (case z_all => k_is)
    (case z_zip => k_is)
    (case z_dict => k_is)
    (case d1 => refine' Fw.def_mk ?a ?l ?c ?k; (case a => k_is); (case l => k_is); (case c => k_is); (case k => k_is))
    (case d2 => refine' Fw.def_mk ?a ?l ?c ?k; (case a => k_is); (case l => k_is); (case c => k_is); (case k => k_is))
    (case d3 => refine' Fw.def_mk ?a ?l ?c ?k; (case a => k_is); (case l => k_is); (case c => k_is); (case k => k_is))
    (case d5 => refine' Fw.def_mk ?a ?l ?c ?k; (case a => k_is); (case l => k_is); (case c => k_is); (case k => k_is))
    (case d6 => refine' Fw.def_mk ?a ?l ?c ?k; (case a => k_is); (case l => k_is); (case c => k_is); (case k => k_is))
    (case d7 => refine' Fw.def_mkC ?a ?l ?c ?k; (case a => k_is); (case l => k_is); (case c => k_is); (case k => k_is))
    (case d9 => refine' Fw.def_mk ?a ?l ?c ?k; (case a => k_is); (case l => k_is); (case c => k_is); (case k => k_is))
    (case d10 => refine' Fw.def_mk ?a ?l ?c ?k; (case a => k_is); (case l => k_is); (case c => k_is); (case k => k_is))
    (case d11 => refine' Fw.def_mk ?a ?l ?c ?k; (case a => k_is); (case l => k_is); (case c => k_is); (case k => k_is))
    (case d12 => refine' Fw.def_mk ?a ?l ?c ?k; (case a => k_is); (case l => k_is); (case c => k_is); (case k => k_is))
    (case d13 => refine' Fw.def_mk ?a ?l ?c ?k; (case a => k_is); (case l => k_is); (case c => k_is); (case k => k_is))
    (case d14 => refine' Fw.def_mk ?a ?l ?c ?k; (case a => k_is); (case l => k_is); (case c => k_is); (case k => k_is))
    (case d15 => refine' Fw.def_mk ?a ?l ?c ?k; (case a => k_is); (case l => k_is); (case c => k_is); (case k => k_is))
    (case d16 => refine' Fw.def_mk ?a ?l ?c ?k; (case a => k_is); (case l => k_is); (case c => k_is); (case k => k_is))
    (case d17 => refine' Fw.def_mk ?a ?l ?c ?k; (case a => k_is); (case l => k_is); (case c => k_is); (case k => k_is))
    (case d18 => refine' Fw.def_mk ?a ?l ?c ?k; (case a => k_is); (case l => k_is); (case c => k_is); (case k => k_is))
    (case d19 => refine' Fw.def_mk ?a ?l ?c ?k; (case a => k_is); (case l => k_is); (case c => k_is); (case k => k_is))
    (case d20 => refine' Fw.def_mk ?a ?l ?c ?k; (case a => k_is); (case l => k_is); (case c => k_is); (case k => k_is))
#print axioms PySem.Challenge.cw_facework_k19_put_and_put_holds
