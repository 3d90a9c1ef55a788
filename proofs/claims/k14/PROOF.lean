import PyProof.Rows.All
import Wide.All
import OpenK.AllK
import Wide.FinOn
import Lean
import PyProof.EqAt
import PyProof.EqKinds
import PyProof.TupleCall
import KE.KRevIter
import PyProof.CollectWalk
import PyProof.TupleOfSeq
import KE.KDictList
import PyProof.CompUse
import PyProof.ZipIter
import PyProof.EnumFor
import PyProof.Draws
import KE.KDictLaws
import KE.KStrOpen
import PyProof.Rows.StrJoin2
import PySem.Challenge.RW_facework_k14_schemes_of_sorts
set_option Elab.async false
set_option linter.all false
set_option maxRecDepth 100000
/-! THE HAND LAYER, for ints, bools, texts, own classes, LISTS and tuples (index, slices, in, append, pop ..), calls, loops. Paste it whole ahead of your own text; what your proof does not reach may be deleted. -/
namespace L2
open PySem PySem.Spec PyProof.Rows

/-- a key: an int or a str -/
abbrev Key := Sum Int Str
def keyIs : Key → Value → Bool
  | .inl k, v => Value.isInt k v
  | .inr x, v => Value.isStrOf x v
def keyH (w : World) : Key → Int
  | .inl k => hashInt k
  | .inr x => hashStr w x
theorem keyIs_shape : ∀ {k : Key} {v : Value}, keyIs k v = true → (∃ i t, k = Sum.inl i ∧ v = Value.int i t) ∨ (∃ x t, k = Sum.inr x ∧ v = Value.str x t)
  | .inl i, v, h => by
    obtain ⟨t, e⟩ := Value.isInt_shape (k := i) (v := v) h
    exact .inl ⟨i, t, rfl, e⟩
  | .inr x, v, h => by
    obtain ⟨t, e⟩ := Value.isStrOf_shape (x := x) (v := v) h
    exact .inr ⟨x, t, rfl, e⟩
theorem keyIs_int (i : Int) (t : Tok) : keyIs (.inl i) (.int i t) = true := by simp [keyIs, Value.isInt]
theorem keyIs_str (x : Str) (t : Tok) : keyIs (.inr x) (.str x t) = true := by simp [keyIs, Value.isStrOf]
theorem key_ll (a b : Int) : decide ((Sum.inl a : Key) = Sum.inl b) = (a == b) := by
  by_cases e : a = b
  · subst e; simp
  · have h : ¬ (Sum.inl a : Key) = Sum.inl b := fun q => e (Sum.inl.inj q)
    rw [decide_eq_false h]
    exact (beq_eq_false_iff_ne.mpr e).symm
theorem key_rr (a b : Str) : decide ((Sum.inr a : Key) = Sum.inr b) = decide (a = b) := by
  by_cases e : a = b
  · subst e; simp
  · have h : ¬ (Sum.inr a : Key) = Sum.inr b := fun q => e (Sum.inr.inj q)
    rw [decide_eq_false h, decide_eq_false e]
theorem key_lr (a : Int) (b : Str) : decide ((Sum.inl a : Key) = Sum.inr b) = false := decide_eq_false (fun q => nomatch q)
theorem key_rl (a : Str) (b : Int) : decide ((Sum.inr a : Key) = Sum.inl b) = false := decide_eq_false (fun q => nomatch q)

def mixKind (prog : Program) (w : World) : PySem.KeyKind prog w Key where
  is := keyIs
  hash := keyH w
  inj := fun v a b ha hb => by
    rcases keyIs_shape ha with ⟨i, t, rfl, rfl⟩ | ⟨x, t, rfl, rfl⟩
    · rcases keyIs_shape hb with ⟨j, u, rfl, e⟩ | ⟨y, u, rfl, e⟩
      · injection e with e1 _; rw [e1]
      · exact nomatch e
    · rcases keyIs_shape hb with ⟨j, u, rfl, e⟩ | ⟨y, u, rfl, e⟩
      · exact nomatch e
      · injection e with e1 _; rw [e1]
  byValue := fun k v h => by
    rcases keyIs_shape h with ⟨i, t, rfl, rfl⟩ | ⟨x, t, rfl, rfl⟩ <;> rfl
  pyHash := fun hv h => by
    rcases keyIs_shape hv with ⟨i, t, rfl, rfl⟩ | ⟨x, t, rfl, rfl⟩
    · exact wpAny_pyHash_int h
    · exact wpAny_pyHash_str h
  eqBool := fun hu hv h => by
    rcases keyIs_shape hu with ⟨i, t, rfl, rfl⟩ | ⟨x, t, rfl, rfl⟩
    · rcases keyIs_shape hv with ⟨j, u, rfl, rfl⟩ | ⟨y, u, rfl, rfl⟩
      · rw [key_ll] at h; exact wpAny_eqBool_int h
      · rw [key_lr] at h; exact SeqAt.EqAt.int_str i t y u _ _ _ _ h
    · rcases keyIs_shape hv with ⟨j, u, rfl, rfl⟩ | ⟨y, u, rfl, rfl⟩
      · rw [key_rl] at h; exact SeqAt.EqAt.str_int x t j u _ _ _ _ h
      · rw [key_rr] at h; exact wpAny_eqBool_str h
  «strs» := fun k x t v h => by
    rcases keyIs_shape h with ⟨i, u, rfl, e⟩ | ⟨y, u, rfl, e⟩
    · exact nomatch e
    · injection e with e1 _
      subst e1
      cases v <;> rfl

theorem mixKind_int (prog : Program) (w : World) (i : Int) (t : Tok) : (mixKind prog w).is (.inl i) (.int i t) = true := keyIs_int i t
theorem mixKind_str (prog : Program) (w : World) (x : Str) (t : Tok) : (mixKind prog w).is (.inr x) (.str x t) = true := keyIs_str x t
end L2

namespace L2
open PySem PySem.Spec PyProof.Rows

/-- a value, without the heap -/
inductive V where
  | non | bl (b : Bool) | int (i : Int) | str (x : Str) | byt (b : Array UInt8) | flt (b : UInt64) | ref (a : Addr) | ty (n : String)
  deriving DecidableEq

def RelV : V → Value → Prop
  | .non, u => u = Value.none
  | .bl b, u => u = Value.bool b
  | .int i, u => ∃ t, u = Value.int i t
  | .str x, u => ∃ t, u = Value.str x t
  | .byt b, u => ∃ t, u = Value.bytes b t
  | .flt b, u => ∃ t, u = Value.float b t
  | .ref a, u => u = Value.ref a
  | .ty n, u => u = Value.type n

abbrev Vals : List V → List Value → Prop := Paired RelV
theorem Vals.length {xs : List V} {us : List Value} (r : Vals xs us) : xs.length = us.length := Paired.length r
theorem Vals.get : ∀ {xs : List V} {us : List Value} {i : Nat} {x : V}, Vals xs us → xs[i]? = some x → ∃ u, us[i]? = some u ∧ RelV x u
  | _, _, _, _, .nil, e => by simp at e
  | _, _, 0, _, .cons r _, e => by simp at e; subst e; exact ⟨_, rfl, r⟩
  | _, _, i + 1, x, .cons _ t, e => by
    obtain ⟨u, h1, h2⟩ := Vals.get (i := i) (x := x) t (by simpa using e)
    exact ⟨u, by simpa using h1, h2⟩
theorem Vals.set {x : V} {u : Value} (r : RelV x u) : ∀ {xs : List V} {us : List Value} (i : Nat), Vals xs us → Vals (xs.set i x) (us.set i u)
  | _, _, _, .nil => .nil
  | _, _, 0, .cons _ t => .cons r t
  | _, _, i + 1, .cons q t => .cons q (Vals.set r i t)
theorem Vals.append : ∀ {xs ys : List V} {us ws : List Value}, Vals xs us → Vals ys ws → Vals (xs ++ ys) (us ++ ws)
  | _, _, _, _, .nil, s => s
  | _, _, _, _, .cons r t, s => .cons r (Vals.append t s)
theorem Vals.take : ∀ {xs : List V} {us : List Value} (n : Nat), Vals xs us → Vals (xs.take n) (us.take n)
  | _, _, 0, _ => .nil
  | _, _, _ + 1, .nil => .nil
  | _, _, n + 1, .cons r t => .cons r (Vals.take n t)
theorem Vals.drop : ∀ {xs : List V} {us : List Value} (n : Nat), Vals xs us → Vals (xs.drop n) (us.drop n)
  | _, _, 0, r => r
  | _, _, _ + 1, .nil => .nil
  | _, _, n + 1, .cons _ t => Vals.drop n t
theorem Vals.none_of : ∀ {xs : List V} {us : List Value} {i : Nat}, Vals xs us → xs[i]? = none → us[i]? = none := fun {xs us i} r e => by
  have h1 := r.length
  have h2 : xs.length ≤ i := List.getElem?_eq_none_iff.mp e
  exact List.getElem?_eq_none_iff.mpr (by omega)

def RelO : Option V → Option Value → Prop
  | some v, some u => RelV v u
  | none, none => True
  | _, _ => False
def KV {κ : Type} : List (κ × V) → List (κ × Value) → Prop := Paired fun (p : κ × V) (q : κ × Value) => p.1 = q.1 ∧ RelV p.2 q.2

/-- a key of a dict (00_mix): an int or a text -/
def kV : Key → V
  | .inl i => .int i
  | .inr x => .str x

/-- what stands at a tracked address -/
inductive HO where
  /-- a list -/
  | lst (xs : List V)
  /-- a tuple (never changes) -/
  | tup (xs : List V)
  /-- a dict whose keys are ints and texts; one whose keys are tuples of ints and texts (the empty one is both) -/
  | dK (kvs : List (Key × V)) | dT (kvs : List (List Key × V))
  /-- a set of ints: its members, its size -/
  | set (S : Int → Bool) (n : Nat)
  /-- an instance of the class at C, its dict at dx, its attributes -/
  | ins (C dx : Addr) (fs : List (Str × V))
  /-- the dict of the instance at x -/
  | own (x : Addr)
  /-- the dict of an exception -/
  | xd (fs : List (Str × V))
  /-- a bound method, f of x -/
  | met (f x : Addr)
  /-- a range object lo, lo + 1, .. below hi -/
  | rng (lo hi : Int)
  /-- a thing that is known to the object (the script; a dict while a loop walks it): read, never written while it is so -/
  | frz (o : Obj) (u : HO)
  /-- a code object's table -/
  | tbl (ps : Array Value)
  /-- any other thing, by what is true of its one object (a def of one's own: SetO a S n := HO.ext fun h => ..) -/
  | ext (φ : Heap → Prop)

abbrev Hp := Addr → Option HO
def upd (H : Hp) (a : Addr) (o : HO) : Hp := fun b => if b = a then some o else H b
theorem upd_same {H : Hp} {a : Addr} {o : HO} : upd H a o a = some o := by unfold upd; rw [if_pos rfl]
theorem upd_ne {H : Hp} {a b : Addr} {o : HO} (h : b ≠ a) : upd H a o b = H b := by unfold upd; rw [if_neg h]
/-- two objects of different content stand apart -/
theorem ne_of {H : Hp} {a b : Addr} {o u : HO} (h : H a = some o) (h' : H b = some u) (d : o ≠ u) : a ≠ b := by
  intro e; subst e; rw [h] at h'; exact d (Option.some.inj h')
theorem ne_of_none {H : Hp} {a b : Addr} {o : HO} (h : H a = some o) (h' : H b = none) : a ≠ b := by
  intro e; subst e; rw [h] at h'; cases h'

section
variable (P : Program) (w : World)
def ObjOk (H : Hp) (h : Heap) (a : Addr) : HO → Prop
  | .lst xs => xs.length ≤ sizeLine ∧ ∃ (its : List Value) (n : Nat), Vals xs its ∧ h.get? a = some { cls := .type "list", data := .seq its.toArray n }
  | .tup xs => xs.length ≤ sizeLine ∧ ∃ its : List Value, Vals xs its ∧ IsTup h a its.toArray
  | .dK kvs => kvs.length ≤ sizeLine ∧ (a == sysModules) = false ∧ ∃ vs, KV kvs vs ∧ h.DictOf (mixKind P w) a vs
  | .dT kvs => kvs.length ≤ sizeLine ∧ (a == sysModules) = false ∧ ∃ xs : List (List Key × Addr × Value),
      Paired (fun (p : List Key × V) (q : List Key × Addr × Value) => p.1 = q.1 ∧ H q.2.1 = some (.tup (p.1.map kV)) ∧ RelV p.2 q.2.2) kvs xs ∧
      ∃ o es ep, h.get? a = some o ∧ o.ExactDict ∧ o.data = .dict es ep ∧ es.toList = xs.map (entryOfKey (tupleKind (mixKind P w))) ∧ (xs.map (·.1)).Nodup
  | .set S n => h.SetOf (intKind P w) a S n
  | .ins C dx fs => H dx = some (.own a) ∧ fs.length ≤ 1000 ∧ dx ≠ a ∧ h.get? a = some (PySem.W.instObj C dx) ∧
      ∃ mA, h.Ns1 dx mA ∧ (∀ f, RelO (fs.lookup f) (mA f)) ∧ PySem.Within mA (fs.map (·.1))
  | .own _ => ∃ o, h.get? a = some o
  | .xd fs => ∃ mA, h.Ns1 a mA ∧ ∀ f, RelO (fs.lookup f) (mA f)
  | .rng lo hi => ∃ t u v, h.get? a = some { cls := .type "range", data := .fields #[.int lo t, .int hi u, .int 1 v] }
  | .frz o u => h.get? a = some o ∧ ObjOk H h a u
  | .tbl ps => h.get? a = some { cls := .none, data := .fields ps }
  | .met f x => h.get? a = some (PySem.W.methodObj (.ref f) (.ref x))
  | .ext φ => φ h ∧ (∃ o, h.get? a = some o) ∧ ∀ h1 h2 : Heap, φ h1 → (∀ o, h1.get? a = some o → h2.get? a = some o) → φ h2
/-- the abstract heap is held -/
def HOk (H : Hp) (h : Heap) : Prop := ∀ a o, H a = some o → ObjOk P w H h a o
end

section
variable {P : Program} {w : World} {H H' : Hp} {h h' : Heap} {a : Addr} {o : HO}
theorem ObjOk.lt (x : ObjOk P w H h a o) : a < h.objs.size := by
  cases o with
  | lst xs => obtain ⟨_, _, _, _, e⟩ := x; exact Heap.lt_size e
  | tup xs => obtain ⟨_, _, _, p⟩ := x; exact p.lt
  | dK kvs => obtain ⟨_, _, _, _, o, _, _, e, _⟩ := x; exact Heap.lt_size e
  | dT kvs => obtain ⟨_, _, _, _, o, _, _, e, _⟩ := x; exact Heap.lt_size e
  | set S n => obtain ⟨o, _, _, _, e, _⟩ := x; exact Heap.lt_size e
  | ins C dx fs => obtain ⟨_, _, _, e, _⟩ := x; exact Heap.lt_size e
  | own y => obtain ⟨_, e⟩ := x; exact Heap.lt_size e
  | xd fs => obtain ⟨_, ⟨_, _, _, e, _⟩, _⟩ := x; exact Heap.lt_size e
  | rng lo hi => obtain ⟨_, _, _, e⟩ := x; exact Heap.lt_size e
  | frz ob u => obtain ⟨e, _⟩ := x; exact Heap.lt_size e
  | tbl ps => exact Heap.lt_size (show h.get? a = some _ from x)
  | met f y => exact Heap.lt_size (show h.get? a = some _ from x)
  | ext φ => obtain ⟨_, ⟨_, e⟩, _⟩ := x; exact Heap.lt_size e
theorem Paired.mapP {α β : Type} {F G : α → β → Prop} : ∀ {l₁ : List α} {l₂ : List β}, Paired F l₁ l₂ → (∀ a b, F a b → G a b) → Paired G l₁ l₂
  | _, _, .nil, _ => .nil
  | _, _, .cons r t, f => .cons (f _ _ r) (Paired.mapP t f)
/-- what an object's description leans on: its own object, its own dict, the tuples -/
theorem ObjOk.stay (x : ObjOk P w H h a o) (k : ∀ b u, (b = a ∨ H b = some (.own a)) → h.get? b = some u → h'.get? b = some u)
    (ho : ∀ b, H b = some (.own a) → H' b = some (.own a)) (ht : ∀ b xs, H b = some (.tup xs) → H' b = some (.tup xs)) : ObjOk P w H' h' a o := by
  induction o with
  | lst xs => obtain ⟨z, its, n, r, e⟩ := x; exact ⟨z, its, n, r, k _ _ (.inl rfl) e⟩
  | tup xs => obtain ⟨z, its, r, ob, e, c⟩ := x; exact ⟨z, its, r, ob, k _ _ (.inl rfl) e, c⟩
  | dK kvs => obtain ⟨z, y, vs, r, ob, es, ep, e, c⟩ := x; exact ⟨z, y, vs, r, ob, es, ep, k _ _ (.inl rfl) e, c⟩
  | dT kvs =>
    obtain ⟨z, y, xs, r, ob, es, ep, e, c⟩ := x
    exact ⟨z, y, xs, Paired.mapP r fun p q z => ⟨z.1, ht _ _ z.2.1, z.2.2⟩, ob, es, ep, k _ _ (.inl rfl) e, c⟩
  | set S n => obtain ⟨ob, es, ep, t, e, c⟩ := x; exact ⟨ob, es, ep, t, k _ _ (.inl rfl) e, c⟩
  | ins C dx fs =>
    obtain ⟨d, z, ne, e, mA, ⟨od, es, ep, e2, c⟩, r⟩ := x
    exact ⟨ho _ d, z, ne, k _ _ (.inl rfl) e, mA, ⟨od, es, ep, k _ _ (.inr d) e2, c⟩, r⟩
  | own y => obtain ⟨ob, e⟩ := x; exact ⟨ob, k _ _ (.inl rfl) e⟩
  | xd fs => obtain ⟨mA, ⟨od, es, ep, e, c⟩, r⟩ := x; exact ⟨mA, ⟨od, es, ep, k _ _ (.inl rfl) e, c⟩, r⟩
  | rng lo hi => obtain ⟨t, u, v, e⟩ := x; exact ⟨t, u, v, k _ _ (.inl rfl) e⟩
  | frz ob u ih => obtain ⟨e, q⟩ := x; exact ⟨k _ _ (.inl rfl) e, ih q⟩
  | tbl ps =>
    have e : h.get? a = some { cls := .none, data := .fields ps } := x
    show h'.get? a = some { cls := .none, data := .fields ps }
    exact k a _ (.inl rfl) e
  | met f y =>
    have e : h.get? a = some (PySem.W.methodObj (.ref f) (.ref y)) := x
    show h'.get? a = some (PySem.W.methodObj (.ref f) (.ref y))
    exact k a _ (.inl rfl) e
  | ext φ => obtain ⟨p, ⟨o, e⟩, st⟩ := x; exact ⟨st _ _ p fun o q => k _ _ (.inl rfl) q, ⟨o, k _ _ (.inl rfl) e⟩, st⟩
theorem HOk.lt (x : HOk P w H h) (e : H a = some o) : a < h.objs.size := (x a o e).lt
theorem HOk.fresh (x : HOk P w H h) (e : h.objs.size ≤ a) : H a = none := by
  cases q : H a with
  | none => rfl
  | some u => exact absurd (Nat.lt_of_lt_of_le (x.lt q) e) (Nat.lt_irrefl _)
/-- every object of the heap is kept -/
theorem HOk.kept (x : HOk P w H h) (k : ∀ b u, h.get? b = some u → h'.get? b = some u) : HOk P w H h' := fun a o e =>
  (x a o e).stay (fun b u _ q => k b u q) (fun _ q => q) fun _ _ q => q
/-- a new object is laid and tracked -/
theorem HOk.laid (x : HOk P w H h) (k : ∀ b u, h.get? b = some u → h'.get? b = some u) (hp : h.objs.size ≤ a) (new : ObjOk P w (upd H a o) h' a o) : HOk P w (upd H a o) h' := fun b u e => by
  have hn := x.fresh hp
  by_cases hb : b = a
  · subst hb; rw [upd_same] at e; cases e; exact new
  · rw [upd_ne hb] at e
    exact (x b u e).stay (fun c v _ q => k c v q) (fun c q => by rw [upd_ne (ne_of_none q hn)]; exact q) fun c xs q => by rw [upd_ne (ne_of_none q hn)]; exact q
end

/-- what may be read as u: it is u, or a known u -/
def Rd (H : Hp) (a : Addr) (u : HO) : Prop := H a = some u ∨ ∃ o, H a = some (.frz o u)
theorem Rd.of {H : Hp} {a : Addr} {u : HO} (h : H a = some u) : Rd H a u := .inl h
theorem Rd.ok {P : Program} {w : World} {H : Hp} {h : Heap} {a : Addr} {u : HO} (r : Rd H a u) (x : HOk P w H h) : ObjOk P w H h a u := by
  rcases r with r | ⟨o, r⟩
  · exact x a u r
  · obtain ⟨_, q⟩ := x a _ r
    exact q
/-- what may be written -/
def Mut : Option HO → Prop
  | some (.lst _) => True
  | some (.dK _) => True
  | some (.dT _) => True
  | some (.set _ _) => True
  | some (.ins _ _ _) => True
  | some (.ext _) => True
  | _ => False
section
variable {P : Program} {w : World} {H : Hp} {h h' : Heap} {x e : Addr} {o' : HO}
/-- the object at e is changed: x itself, or the dict of the instance x -/
theorem HOk.write (ok : HOk P w H h) (mu : Mut (H x)) (he : e = x ∨ H e = some (.own x)) (k : ∀ b u, b ≠ e → h.get? b = some u → h'.get? b = some u) (heo : ∃ u, h'.get? e = some u)
    (new : ObjOk P w (upd H x o') h' x o') : HOk P w (upd H x o') h' := fun b u q => by
  have nown : ∀ c y, H c = some (.own y) → c ≠ x := fun c y r z => by subst z; rw [r] at mu; exact mu
  have ntup : ∀ c xs, H c = some (.tup xs) → c ≠ x := fun c xs r z => by subst z; rw [r] at mu; exact mu
  by_cases hb : b = x
  · subst hb; rw [upd_same] at q; cases q; exact new
  · rw [upd_ne hb] at q
    by_cases hbe : b = e
    · have q' : H b = some (.own x) := by
        rcases he with z | z
        · exact absurd (hbe.trans z) hb
        · rw [hbe]; exact z
      rw [q] at q'; cases q'
      obtain ⟨v, hv⟩ := heo
      exact ⟨v, by rw [hbe]; exact hv⟩
    · refine (ok b u q).stay (fun c v hc r => k c v ?_ r) (fun c r => by rw [upd_ne (nown c b r)]; exact r) fun c xs r => by rw [upd_ne (ntup c xs r)]; exact r
      rcases hc with rfl | hc
      · exact hbe
      · rintro rfl
        rcases he with z | z
        · exact nown c b hc z
        · rw [hc] at z; cases z; exact hb rfl
end

/-! ### kept unless tracked; of the frames at fs (the callers') the slots may change (an exception that passes writes there); of the records at ex (iterators) nothing is said -/
structure Un (fs ex : List Addr) (H H' : Hp) (h h' : Heap) : Prop where
  keep : ∀ b o, h.get? b = some o → H b = none → b ∉ fs → b ∉ ex → h'.get? b = some o
  slot : ∀ b o, h.get? b = some o → H b = none → b ∈ fs → b ∉ ex → ∃ sl, h'.get? b = some { o with slots := sl }
  free : ∀ b o, h.get? b = some o → H b = none → b ∉ ex → H' b = none
  there : ∀ b o, h.get? b = some o → b ∉ ex → ∃ o', h'.get? b = some o'
  tups : ∀ b xs, H b = some (.tup xs) → H' b = some (.tup xs)
  frzs : ∀ b o u, H b = some (.frz o u) → H' b = some (.frz o u)
  tbls : ∀ b ps, H b = some (.tbl ps) → ∃ more, H' b = some (.tbl (ps ++ more))
section
variable {fs fs' ex ex' : List Addr} {H H1 H2 : Hp} {h h1 h2 h' : Heap} {a x e : Addr} {o : HO}
theorem Un.any (u : Un fs ex H H1 h h1) {b : Addr} {ob : Obj} (q : h.get? b = some ob) (n : H b = none) (hx : b ∉ ex) : ∃ sl, h1.get? b = some { ob with slots := sl } := by
  by_cases hb : b ∈ fs
  · exact u.slot b ob q n hb hx
  · exact ⟨ob.slots, u.keep b ob q n hb hx⟩
theorem Un.trans (a : Un fs ex H H1 h h1) (b : Un fs ex H1 H2 h1 h2) : Un fs ex H H2 h h2 where
  keep := fun c ob q n hc hx => b.keep c ob (a.keep c ob q n hc hx) (a.free c ob q n hx) hc hx
  slot := fun c ob q n hc hx => by
    obtain ⟨sl, e1⟩ := a.slot c ob q n hc hx
    obtain ⟨sl', e2⟩ := b.slot c _ e1 (a.free c ob q n hx) hc hx
    exact ⟨sl', e2⟩
  free := fun c ob q n hx => by
    obtain ⟨o', e1⟩ := a.there c ob q hx
    exact b.free c o' e1 (a.free c ob q n hx) hx
  there := fun c ob q hx => by
    obtain ⟨o', e1⟩ := a.there c ob q hx
    exact b.there c o' e1 hx
  tups := fun c xs q => b.tups c xs (a.tups c xs q)
  frzs := fun c ob xs q => b.frzs c ob xs (a.frzs c ob xs q)
  tbls := fun c ps q => by
    obtain ⟨m1, e1⟩ := a.tbls c ps q
    obtain ⟨m2, e2⟩ := b.tbls c _ e1
    exact ⟨m1 ++ m2, by rw [e2, Array.append_assoc]⟩
theorem Un.kept (k : ∀ b u, h.get? b = some u → h'.get? b = some u) : Un fs ex H H h h' :=
  ⟨fun b ob q _ _ _ => k b ob q, fun b ob q _ _ _ => ⟨ob.slots, k b ob q⟩, fun _ _ _ n _ => n, fun b ob q _ => ⟨ob, k b ob q⟩, fun _ _ q => q, fun _ _ _ q => q, fun _ ps q => ⟨#[], by rw [q]; simp⟩⟩
theorem Un.refl : Un fs ex H H h h := Un.kept fun _ _ q => q
theorem Un.laid (k : ∀ b u, h.get? b = some u → h'.get? b = some u) (hp : h.objs.size ≤ a) (hn : H a = none) : Un fs ex H (upd H a o) h h' where
  keep := fun b u q _ _ _ => k b u q
  slot := fun b u q _ _ _ => ⟨u.slots, k b u q⟩
  free := fun b u q n _ => by rw [upd_ne (Nat.ne_of_lt (Nat.lt_of_lt_of_le (Heap.lt_size q) hp))]; exact n
  there := fun b u q _ => ⟨u, k b u q⟩
  tups := fun b xs q => by rw [upd_ne (ne_of_none q hn)]; exact q
  frzs := fun b u xs q => by rw [upd_ne (ne_of_none q hn)]; exact q
  tbls := fun b ps q => ⟨#[], by rw [upd_ne (ne_of_none q hn), q]; simp⟩
theorem Un.write (mu : Mut (H x)) (he : e = x ∨ H e = some (.own x)) (k : ∀ b u, b ≠ e → h.get? b = some u → h'.get? b = some u) (heo : ∃ u, h'.get? e = some u) : Un fs ex H (upd H x o) h h' := by
  have hx : ∀ b, H b = none → b ≠ x := fun b n z => by subst z; rw [n] at mu; exact mu
  have hb : ∀ b, H b = none → b ≠ e := fun b n z => by
    subst z
    rcases he with r | r
    · exact hx b n r
    · rw [n] at r; cases r
  have hm : ∀ b u, H b = some u → ¬ Mut (some u) → b ≠ x := fun b u q nm z => by subst z; rw [q] at mu; exact nm mu
  refine ⟨fun b u q n _ _ => k b u (hb b n) q, fun b u q n _ _ => ⟨u.slots, k b u (hb b n) q⟩, fun b u q n _ => by rw [upd_ne (hx b n)]; exact n, fun b u q _ => ?_,
    fun b xs q => by rw [upd_ne (hm b _ q fun z => z)]; exact q, fun b u xs q => by rw [upd_ne (hm b _ q fun z => z)]; exact q, fun b ps q => ⟨#[], by rw [upd_ne (hm b _ q fun z => z), q]; simp⟩⟩
  by_cases hbe : b = e
  · subst hbe; exact heo
  · exact ⟨u, k b u hbe q⟩
theorem Un.mono (u : Un fs ex H H1 h h1) (hs : ∀ b ∈ fs, b ∈ fs') (hx : ∀ b ∈ ex, b ∈ ex') : Un fs' ex' H H1 h h1 :=
  ⟨fun b ob q n hb he => u.keep b ob q n (fun z => hb (hs b z)) fun z => he (hx b z), fun _ _ q n _ he => u.any q n fun z => he (hx _ z), fun b ob q n he => u.free b ob q n fun z => he (hx b z), fun b ob q he => u.there b ob q fun z => he (hx b z), u.tups, u.frzs, u.tbls⟩
end

/-! ### the heap without what is tracked -/
def trk (h : Heap) (H : Hp) : List Addr := (List.range h.objs.size).filter fun a => (H a).isSome
def hidT (h : Heap) (H : Hp) : Heap := PySem.W.hideAll h (trk h H)
theorem hidT_size (h : Heap) (H : Hp) : (hidT h H).objs.size = h.objs.size := PySem.W.hideAll_size _ _
theorem hidT_get {h : Heap} {H : Hp} {b : Addr} {o : Obj} (e : h.get? b = some o) (n : H b = none) : (hidT h H).get? b = some o :=
  PySem.W.hideAll_get _ e fun hm => by
    have q : (H b).isSome = true := (List.mem_filter.mp hm).2
    rw [n] at q; simp at q
theorem of_hidT {h : Heap} {H : Hp} {b : Addr} {o : Obj} (e : (hidT h H).get? b = some o) : h.get? b = some o ∧ H b = none := by
  have e' : h.get? b = some o := PySem.W.of_hideAll (trk h H) e
  refine ⟨e', ?_⟩
  cases q : H b with
  | none => rfl
  | some x =>
    have hm : b ∈ trk h H := List.mem_filter.mpr ⟨List.mem_range.mpr (Heap.lt_size e'), by simp [q]⟩
    have z : (hidT h H).get? b = none := PySem.W.hideAll_none (trk h H) hm
    rw [z] at e; cases e

/-! ### OpenK's ledger, filled with every new object but one -/
def allNews (g h : Heap) (L : Addr) : List (Addr × Obj) := (List.range h.objs.size).filterMap fun a => if a = L ∨ (g.get? a).isSome = true then none else (h.get? a).map fun o => (a, o)
def rest (g h : Heap) (L d : Addr) : List (Addr × Obj) := (allNews g h L).filter fun p => decide (p.1 ≠ d)
end L2

namespace L2
open PySem PySem.Spec PyProof.Rows

/-- the module's facts, over the base: the heap at the law's entry without what is tracked there -/
structure Mod (K : PySem.W.Frag) (mg : Str → Option Value) (base : Heap) : Prop where
  kin : K.In base
  glob : base.Ns mainGlobals mg
  blt : ∃ mb, base.Ns builtinsNs mb ∧ ∀ x : Str, x ≠ "__name__" → mb x = bootBuiltins x
  nolimit : base.NoLimit

/-- the context: a def's body (or a comprehension's block) running. base: fixed through the whole law; s₀, H₀: the entry; outer: the frames whose slots others may change (a def's callers); stack: all frames that run;
   ex: iterators that were made ahead of the entry and are walked here (a comprehension's); fn: the names whose cells were made at the entry (a def: all; a comprehension's block: its own); calm: not within an except suite; pn: pins that every state bears; xe: what is wanted of an exception that leaves the code -/
structure Cx where
  prog : Program
  w : World
  K : PySem.W.Frag
  mg : Str → Option Value
  base : Heap
  A : Around
  N : List Str
  s₀ : Shared
  H₀ : Hp
  env : Env
  outer : List Env
  stack : List Env
  ex : List Addr
  fn : Str → Bool
  calm : Bool
  pn : List (Addr × Obj)
  xe : Value → Shared → Prop
/-- the callers' frames -/
def frs (l : List Env) : List Addr := l.filterMap (·.frame)
abbrev Cx.fs (X : Cx) : List Addr := frs X.outer

def Vis (sc : Scope) (x : Str) : Prop := sc.names.lookup x = some .local ∨ sc.names.lookup x = some .cell ∨ sc.names.lookup x = some .free
def Loc (sc : Scope) (x : Str) : Prop := sc.names.lookup x = some .local ∨ sc.names.lookup x = some .cell
def Look (env : Env) (h : Heap) (m : Str → Option Value) (x : Str) (u : Value) : Prop :=
  (env.kindOf x = some .local ∧ m x = some u) ∨ ((env.kindOf x = some .cell ∨ env.kindOf x = some .free) ∧ ∃ c, env.cells.lookup x = some c ∧ h.IsCell c (some u))

structure Cx.Ok (X : Cx) : Prop where
  mod : Mod X.K X.mg X.base
  kind : X.env.scope.kind = .function
  glob : X.env.globals = mainGlobals
  blt : X.env.builtins = builtinsNs
  above : X.s₀.heap.objs.size ≤ X.env.locals
  inj : ∀ x y c, X.env.cells.lookup x = some c → X.env.cells.lookup y = some c → x = y
  has : ∀ x, (X.env.kindOf x = some .cell ∨ X.env.kindOf x = some .free) → ∃ c, X.env.cells.lookup x = some c
  cab : ∀ x c, X.fn x = true → X.env.cells.lookup x = some c → X.s₀.heap.objs.size ≤ c
  hd : X.calm = true → X.A.handled = none
  frames : X.A.frames = some X.stack
  stk : X.stack = X.outer ∨ (X.stack = X.env :: X.outer ∧ X.env.frame = some X.env.locals)
  exf : ∀ b ∈ X.ex, b ≠ X.env.locals ∧ ∀ x c, X.env.cells.lookup x = some c → c ≠ b
  bs : ∀ b o, X.base.get? b = some o → X.s₀.heap.get? b = some o ∧ X.H₀ b = none
  bsz : X.base.objs.size ≤ X.s₀.heap.objs.size
  noex : ∀ b o, X.base.get? b = some o → b ∉ X.ex
  exfs : ∀ b ∈ X.ex, b ∉ X.fs
  funs : X.s₀.heap.FunFrames X.base X.outer
  frf : ∀ b ∈ X.fs, X.H₀ b = none

structure Inv (X : Cx) (pins : List (Addr × Obj)) (σ : List (Option V)) (H : Hp) (s : Shared) : Prop where
  ok : X.Ok
  os : s.os = X.s₀.os
  bare : AllBare s.gens
  base : Un X.fs X.ex X.H₀ H X.s₀.heap s.heap
  loc : ∃ m, s.heap.Ns X.env.locals m ∧ ∀ (i : Nat) (x : Str) (v : V), X.N[i]? = some x → σ[i]? = some (some v) → Vis X.env.scope x → ∃ u, RelV v u ∧ Look X.env s.heap m x u
  cell : ∀ x c, X.env.cells.lookup x = some c → ∃ v, s.heap.IsCell c v
  free : H X.env.locals = none
  freeC : ∀ x c, X.env.cells.lookup x = some c → H c = none
  pin : ∀ p ∈ X.pn ++ pins, s.heap.get? p.1 = some p.2 ∧ H p.1 = none ∧ p.1 ≠ X.env.locals ∧ p.1 ∉ X.fs ∧ ∀ v, p.2.data ≠ .cell v
  hok : HOk X.prog X.w H s.heap
  len : σ.length = X.N.length

section
variable {X : Cx} {pins : List (Addr × Obj)} {σ : List (Option V)} {H H' : Hp} {s : Shared} {h' : Heap}

theorem Cx.Ok.nofr (ok : X.Ok) {b : Addr} {o : Obj} (e : X.base.get? b = some o) : b ∉ X.fs := fun hb => by
  have := (ok.funs.mem hb).1
  rw [e] at this; cases this
theorem Inv.bs (I : Inv X pins σ H s) : ∀ b o, X.base.get? b = some o → s.heap.get? b = some o ∧ H b = none := fun b o e =>
  ⟨I.base.keep b o (I.ok.bs b o e).1 (I.ok.bs b o e).2 (I.ok.nofr e) (I.ok.noex b o e), I.base.free b o (I.ok.bs b o e).1 (I.ok.bs b o e).2 (I.ok.noex b o e)⟩
theorem Inv.bk (I : Inv X pins σ H s) : ∀ b o, X.base.get? b = some o → s.heap.get? b = some o := fun b o e => (I.bs b o e).1
theorem Inv.mod (I : Inv X pins σ H s) : Mod X.K X.mg X.base := I.ok.mod
theorem Inv.kIn (I : Inv X pins σ H s) : X.K.In s.heap := I.ok.mod.kin.keeps I.bk
theorem Inv.nolimit (I : Inv X pins σ H s) : s.heap.NoLimit := I.ok.mod.nolimit.keeps I.bk
/-- the frame over the base: for OpenK's rules (K.In X.base is I.mod.kin) -/
theorem Inv.fr (I : Inv X pins σ H s) : ∃ m, Fr X.base X.env.locals s.heap m :=
  let ⟨m, hn, _⟩ := I.loc
  ⟨m, hn, I.bk, Nat.le_trans I.ok.bsz I.ok.above⟩
theorem Inv.lt (I : Inv X pins σ H s) : X.env.locals < s.heap.objs.size := let ⟨_, hn, _⟩ := I.loc; hn.lt
theorem Inv.sz (I : Inv X pins σ H s) : X.s₀.heap.objs.size ≤ s.heap.objs.size := Nat.le_trans I.ok.above (Nat.le_of_lt I.lt)
theorem Inv.nofs (I : Inv X pins σ H s) {a : Addr} (h : s.heap.objs.size ≤ a) : a ∉ X.fs := fun hb => by
  obtain ⟨_, o, ho, _⟩ := I.ok.funs.mem hb
  exact absurd (Nat.lt_of_lt_of_le (Heap.lt_size ho) (Nat.le_trans I.sz h)) (Nat.lt_irrefl _)
theorem Inv.cne (I : Inv X pins σ H s) : ∀ x c, X.env.cells.lookup x = some c → c ≠ X.env.locals := fun x c e z => by
  obtain ⟨v, o, ho, hd⟩ := I.cell x c e
  obtain ⟨m, ⟨o', es, ep, ho', hd', _⟩, _⟩ := I.loc
  rw [z, ho'] at ho; cases ho; rw [hd'] at hd; cases hd
theorem Inv.funs (I : Inv X pins σ H s) : s.heap.FunFrames X.base X.outer := by
  have all : ∀ (l : List Env), (∀ b ∈ frs l, b ∈ X.fs) → X.s₀.heap.FunFrames X.base l → s.heap.FunFrames X.base l := by
    intro l
    induction l with
    | nil => intro _ _; trivial
    | cons env r ih =>
      intro hs hl
      obtain ⟨hk, ⟨L, o, hf, hn, ho, hd⟩, hr⟩ := hl
      have hL : L ∈ X.fs := hs L (by unfold frs; rw [List.filterMap_cons, hf]; exact List.mem_cons_self)
      obtain ⟨sl, e⟩ := I.base.slot L o ho (I.ok.frf L hL) hL fun z => I.ok.exfs L z hL
      exact ⟨hk, ⟨L, _, hf, hn, e, hd⟩, ih (fun b hb => hs b (by unfold frs; rw [List.filterMap_cons, hf]; exact List.mem_cons_of_mem _ hb)) hr⟩
  exact all X.outer (fun _ hb => hb) I.ok.funs

/-- the frames that run, for a call -/
theorem Inv.stack (I : Inv X pins σ H s) : s.heap.FunFrames X.base X.stack := by
  rcases I.ok.stk with e | ⟨e, hf⟩
  · rw [e]; exact I.funs
  · rw [e]
    obtain ⟨m, hn, _⟩ := I.loc
    refine .cons (by rw [I.ok.kind]; decide) hf hn ?_ I.funs
    exact Heap.get?_none_of_le (Nat.le_trans I.ok.bsz I.ok.above)
theorem Inv.stkSub (I : Inv X pins σ H s) : ∀ b ∈ frs X.stack, b ∈ X.env.locals :: X.fs := fun b hb => by
  rcases I.ok.stk with e | ⟨e, hf⟩
  · rw [e] at hb; exact List.mem_cons_of_mem _ hb
  · rw [e] at hb
    unfold frs at hb
    rw [List.filterMap_cons, hf] at hb
    exact hb
theorem Inv.stkFree (I : Inv X pins σ H s) : ∀ b ∈ frs X.stack, H b = none := fun b hb => by
  rcases List.mem_cons.mp (I.stkSub b hb) with e | hb
  · rw [e]; exact I.free
  · obtain ⟨_, o, ho, _⟩ := I.ok.funs.mem hb
    exact I.base.free b o ho (I.ok.frf b hb) fun z => I.ok.exfs b z hb

/-- THE STEP: the untracked objects but the frame and the records at ch are kept (the callers' frames up to slots), the frame's map is kept, the new abstract heap is held -/
theorem Inv.step {g' : Array GenState} {t' : Nat} {d' : Drawn} {ch : List Addr} (I : Inv X pins σ H s)
    (hch : ∀ b ∈ ch, (b ∈ X.ex ∨ X.s₀.heap.objs.size ≤ b) ∧ b ≠ X.env.locals ∧ (∀ x c, X.env.cells.lookup x = some c → c ≠ b) ∧ ∀ p ∈ X.pn ++ pins, p.1 ≠ b)
    (keep : ∀ b o, b ≠ X.env.locals → b ∉ X.fs → b ∉ ch → s.heap.get? b = some o → H b = none → h'.get? b = some o)
    (slot : ∀ b o, b ≠ X.env.locals → b ∈ X.fs → b ∉ ch → s.heap.get? b = some o → H b = none → ∃ sl, h'.get? b = some { o with slots := sl }) (free : ∀ b o, b ∉ ch → s.heap.get? b = some o → H b = none → H' b = none)
    (there : ∀ b o, b ∉ ch → s.heap.get? b = some o → ∃ o', h'.get? b = some o')
    (tups : ∀ b xs, H b = some (.tup xs) → H' b = some (.tup xs)) (frzs : ∀ b o u, H b = some (.frz o u) → H' b = some (.frz o u)) (tbls : ∀ b ps, H b = some (.tbl ps) → ∃ more, H' b = some (.tbl (ps ++ more)))
    (ns : ∀ m, s.heap.Ns X.env.locals m → h'.Ns X.env.locals m) (hok : HOk X.prog X.w H' h') (hg : AllBare g') :
    Inv X pins σ H' { s with heap := h', gens := g', drawn := d', toks := t' } := by
  have neL : ∀ b o, X.s₀.heap.get? b = some o → b ≠ X.env.locals := fun b o e => Nat.ne_of_lt (Nat.lt_of_lt_of_le (Heap.lt_size e) I.ok.above)
  have neC : ∀ b o, X.s₀.heap.get? b = some o → b ∉ X.ex → b ∉ ch := fun b o e hx hb => by
    rcases (hch b hb).1 with z | z
    · exact hx z
    · exact absurd (Nat.lt_of_lt_of_le (Heap.lt_size e) z) (Nat.lt_irrefl _)
  have cellK : ∀ x c, X.env.cells.lookup x = some c → ∀ v, s.heap.IsCell c v → h'.IsCell c v := fun x c e v ⟨o, ho, hd⟩ => by
    have nch : c ∉ ch := fun z => (hch c z).2.2.1 x c e rfl
    by_cases hc : c ∈ X.fs
    · obtain ⟨sl, q⟩ := slot c o (I.cne x c e) hc nch ho (I.freeC x c e)
      exact ⟨_, q, hd⟩
    · exact ⟨o, keep c o (I.cne x c e) hc nch ho (I.freeC x c e), hd⟩
  refine ⟨I.ok, I.os, hg, ⟨fun b o e n hb hx => ?_, fun b o e n hb hx => ?_, fun b o e n hx => ?_, fun b o e hx => ?_, fun b xs e => tups b xs (I.base.tups b xs e), fun b o xs e => frzs b o xs (I.base.frzs b o xs e), fun b ps e => ?_⟩, ?_, fun x c e => ?_, ?_, fun x c e => ?_, fun p hp => ?_, hok, I.len⟩
  · exact keep b o (neL b o e) hb (neC b o e hx) (I.base.keep b o e n hb hx) (I.base.free b o e n hx)
  · obtain ⟨sl, e1⟩ := I.base.slot b o e n hb hx
    obtain ⟨sl', e2⟩ := slot b _ (neL b o e) hb (neC b o e hx) e1 (I.base.free b o e n hx)
    exact ⟨sl', e2⟩
  · obtain ⟨o', e1⟩ := I.base.there b o e hx
    exact free b o' (neC b o e hx) e1 (I.base.free b o e n hx)
  · obtain ⟨o', e1⟩ := I.base.there b o e hx
    exact there b o' (neC b o e hx) e1
  · obtain ⟨m1, e1⟩ := I.base.tbls b ps e
    obtain ⟨m2, e2⟩ := tbls b _ e1
    exact ⟨m1 ++ m2, by rw [e2, Array.append_assoc]⟩
  · obtain ⟨m, hn, hl⟩ := I.loc
    refine ⟨m, ns m hn, fun i x v e1 e2 e3 => ?_⟩
    obtain ⟨u, r, l⟩ := hl i x v e1 e2 e3
    refine ⟨u, r, ?_⟩
    rcases l with l | ⟨k, c, e, z⟩
    · exact .inl l
    · exact .inr ⟨k, c, e, cellK x c e _ z⟩
  · obtain ⟨v, z⟩ := I.cell x c e
    exact ⟨v, cellK x c e v z⟩
  · obtain ⟨m, ⟨o, _, _, ho, _⟩, _⟩ := I.loc
    exact free _ o (fun z => (hch _ z).2.1 rfl) ho I.free
  · obtain ⟨v, o, ho, hd⟩ := I.cell x c e
    exact free c o (fun z => (hch c z).2.2.1 x c e rfl) ho (I.freeC x c e)
  · obtain ⟨e, n, ne, nf, d⟩ := I.pin p hp
    have nch : p.1 ∉ ch := fun z => (hch p.1 z).2.2.2 p hp rfl
    exact ⟨keep p.1 p.2 ne nf nch e n, free p.1 p.2 nch e n, ne, nf, d⟩
/-- .. where the frame's own object is kept too -/
theorem Inv.un {t' : Nat} (I : Inv X pins σ H s) (u : Un X.fs [] H H' s.heap h') (hok : HOk X.prog X.w H' h') : Inv X pins σ H' { s with heap := h', toks := t' } := by
  obtain ⟨m, ⟨o, es, ep, ho, r⟩, _⟩ := id I.loc
  obtain ⟨sl, hL⟩ := u.any ho I.free (by simp)
  exact I.step (g' := s.gens) (d' := s.drawn) (ch := []) (fun _ z => nomatch z) (fun b o _ hb _ e n => u.keep b o e n hb (by simp)) (fun b o _ hb _ e n => u.slot b o e n hb (by simp)) (fun b o _ e n => u.free b o e n (by simp)) (fun b o _ e => u.there b o e (by simp)) u.tups u.frzs u.tbls (fun m' hm => by
    obtain ⟨o', es', ep', ho', r'⟩ := hm
    rw [ho] at ho'; cases ho'
    exact ⟨_, es', ep', hL, r'⟩) hok I.bare
/-- behind a call (or a comprehension's block): the slots of this frame may have changed too, the records at ch may have turned -/
theorem Inv.call {g' : Array GenState} {t' : Nat} {d' : Drawn} {ch : List Addr} (I : Inv X pins σ H s) (u : Un (frs X.stack) ch H H' s.heap h') (hok : HOk X.prog X.w H' h') (hg : AllBare g')
    (hch : ∀ b ∈ ch, (b ∈ X.ex ∨ X.s₀.heap.objs.size ≤ b) ∧ b ≠ X.env.locals ∧ (∀ x c, X.env.cells.lookup x = some c → c ≠ b) ∧ ∀ p ∈ X.pn ++ pins, p.1 ≠ b) :
    Inv X pins σ H' { s with heap := h', gens := g', drawn := d', toks := t' } := by
  obtain ⟨m, ⟨o, es, ep, ho, r⟩, _⟩ := id I.loc
  obtain ⟨sl, hL⟩ := u.any ho I.free fun z => (hch _ z).2.1 rfl
  exact I.step (ch := ch) hch (fun b o hL hb hc e n => u.keep b o e n (fun z => (List.mem_cons.mp (I.stkSub b z)).elim hL hb) hc) (fun b o _ _ hc e n => u.any e n hc) (fun b o hc e n => u.free b o e n hc) (fun b o hc e => u.there b o e hc) u.tups u.frzs u.tbls (fun m' hm => by
    obtain ⟨o', es', ep', ho', r'⟩ := hm
    rw [ho] at ho'; cases ho'
    exact ⟨_, es', ep', hL, r'⟩) hok hg
/-- an untracked record of ours (an iterator) has turned -/
theorem Inv.turned {t' : Nat} {it : Addr} (I : Inv X pins σ H s) (k : ∀ b o, b ≠ it → s.heap.get? b = some o → h'.get? b = some o) (hn : H it = none) (hL : it ≠ X.env.locals)
    (h1 : it ∈ X.ex ∨ X.s₀.heap.objs.size ≤ it) (h2 : ∀ x c, X.env.cells.lookup x = some c → c ≠ it) (h3 : ∀ p ∈ X.pn ++ pins, p.1 ≠ it) : Inv X pins σ H { s with heap := h', toks := t' } := by
  have nit : ∀ b u, H b = some u → b ≠ it := fun b u e z => by rw [z, hn] at e; cases e
  refine I.step (g' := s.gens) (d' := s.drawn) (ch := [it]) (fun b hb => ?_) (fun b o _ _ hc e _ => k b o (fun z => hc (by simp [z])) e) (fun b o _ _ hc e _ => ⟨o.slots, k b o (fun z => hc (by simp [z])) e⟩) (fun _ _ _ _ n => n)
    (fun b o hc e => ⟨o, k b o (fun z => hc (by simp [z])) e⟩) (fun _ _ e => e) (fun _ _ _ e => e) (fun b ps e => ⟨#[], by rw [e]; simp⟩) (fun m hm => ?_) (fun b u e => ?_) I.bare
  · have e : b = it := by simpa using hb
    subst e
    exact ⟨h1, hL, h2, h3⟩
  · obtain ⟨o, es, ep, ho, r⟩ := hm
    exact ⟨o, es, ep, k _ o (Ne.symm hL) ho, r⟩
  · refine (I.hok b u e).stay (fun c v hc q => k c v ?_ q) (fun _ q => q) fun _ _ q => q
    rcases hc with z | z
    · rw [z]; exact nit b u e
    · exact nit c _ z
theorem Inv.tok (I : Inv X pins σ H s) (t : Nat) : Inv X pins σ H { s with toks := t } := I.un (h' := s.heap) (t' := t) Un.refl I.hok
/-- all objects kept -/
theorem Inv.kept {t' : Nat} (I : Inv X pins σ H s) (k : ∀ b u, s.heap.get? b = some u → h'.get? b = some u) : Inv X pins σ H { s with heap := h', toks := t' } := I.un (Un.kept k) (I.hok.kept k)
/-- a new object laid and tracked -/
theorem Inv.laid {a : Addr} {o : HO} {t' : Nat} (I : Inv X pins σ H s) (k : ∀ b u, s.heap.get? b = some u → h'.get? b = some u) (hp : s.heap.objs.size ≤ a) (new : ObjOk X.prog X.w (upd H a o) h' a o) :
    Inv X pins σ (upd H a o) { s with heap := h', toks := t' } := I.un (Un.laid k hp (I.hok.fresh hp)) (I.hok.laid k hp new)
/-- an object written -/
theorem Inv.write {x e : Addr} {o : HO} {t' : Nat} (I : Inv X pins σ H s) (mu : Mut (H x)) (he : e = x ∨ H e = some (.own x)) (k : ∀ b u, b ≠ e → s.heap.get? b = some u → h'.get? b = some u) (heo : ∃ u, h'.get? e = some u)
    (new : ObjOk X.prog X.w (upd H x o) h' x o) : Inv X pins σ (upd H x o) { s with heap := h', toks := t' } := I.un (Un.write mu he k heo) (I.hok.write mu he k heo new)
theorem Inv.pins_of {pins' : List (Addr × Obj)} (I : Inv X pins σ H s) (h : ∀ p ∈ pins', s.heap.get? p.1 = some p.2 ∧ H p.1 = none ∧ p.1 ≠ X.env.locals ∧ p.1 ∉ X.fs ∧ ∀ v, p.2.data ≠ .cell v) : Inv X pins' σ H s :=
  ⟨I.ok, I.os, I.bare, I.base, I.loc, I.cell, I.free, I.freeC, fun p hp => (List.mem_append.mp hp).elim (fun z => I.pin p (List.mem_append_left _ z)) (h p), I.hok, I.len⟩

theorem nodup_ix {N : List Str} (hN : N.Nodup) {i j : Nat} {x : Str} (a : N[i]? = some x) (b : N[j]? = some x) : i = j := by
  obtain ⟨h1, e1⟩ := List.getElem?_eq_some_iff.mp a
  obtain ⟨h2, e2⟩ := List.getElem?_eq_some_iff.mp b
  exact (List.getElem_inj hN).mp (e1.trans e2.symm)

/-- a name is stored; what changed -/
theorem store_ok2 {M : Model} {A : Around} {E : Value → Shared → Prop} {i : Nat} {x : Str} {v : V} {u : Value} {Q : Unit → Shared → Prop} (I : Inv X pins σ H s) (hN : X.N.Nodup) (hi : X.N[i]? = some x) (hx : Loc X.env.scope x) (r : RelV v u)
    (h : ∀ s', Inv X pins (σ.set i (some v)) H s' → (∃ a, Heap.SameBut a s.heap s'.heap ∧ (a = X.env.locals ∨ X.env.cells.lookup x = some a)) → Q () s') (hf : X.fn x = true ∨ X.env.scope.names.lookup x = some .local := by first | exact .inl rfl | exact .inr rfl | assumption) : wpAny M A (storeName X.env x u) Q E s := by
  obtain ⟨m, hn, hl⟩ := id I.loc
  have hcls : (X.env.scope.kind == .class || (X.env.scope.kind == .module && X.env.locals != X.env.globals)) = false := by rw [I.ok.kind]; rfl
  have hiσ : i < σ.length := by rw [I.len]; exact (List.getElem?_eq_some_iff.mp hi).1
  have cne := I.cne
  have tracked : ∀ {a : Addr} {h' : Heap}, (∃ o, s.heap.get? a = some o ∧ H a = none) → Heap.SameBut a s.heap h' → HOk X.prog X.w H h' := fun {a h'} ha hs b ob e => by
    obtain ⟨_, _, hfree⟩ := ha
    refine (I.hok b ob e).stay (fun c w' hc q => (hs.2 c ?_).trans q) (fun _ q => q) fun _ _ q => q
    rintro rfl
    rcases hc with rfl | hc
    · rw [hfree] at e; cases e
    · rw [hfree] at hc; cases hc
  rcases hx with hk | hk
  · refine wpAny_storeName_local hk hn (fun h' hn' hs => ?_) hcls
    obtain ⟨oL, _, _, hoL, _⟩ := id hn
    refine h _ ⟨I.ok, I.os, I.bare, ⟨fun b o e n hb hx => ?_, fun b o e n hb hx => ?_, I.base.free, fun b o e hx => ?_, I.base.tups, I.base.frzs, I.base.tbls⟩, ⟨_, hn', fun j y v' e1 e2 e3 => ?_⟩, fun y c e => ?_, I.free, I.freeC, fun p hp => ?_, tracked ⟨oL, hoL, I.free⟩ hs, by simpa using I.len⟩ ⟨_, hs, .inl rfl⟩
    · exact (hs.2 b (Nat.ne_of_lt (Nat.lt_of_lt_of_le (Heap.lt_size e) I.ok.above))).trans (I.base.keep b o e n hb hx)
    · obtain ⟨sl, e1⟩ := I.base.slot b o e n hb hx
      exact ⟨sl, (hs.2 b (Nat.ne_of_lt (Nat.lt_of_lt_of_le (Heap.lt_size e) I.ok.above))).trans e1⟩
    · obtain ⟨o', e1⟩ := I.base.there b o e hx
      exact ⟨o', (hs.2 b (Nat.ne_of_lt (Nat.lt_of_lt_of_le (Heap.lt_size e) I.ok.above))).trans e1⟩
    · by_cases hj : j = i
      · subst hj
        rw [hi] at e1; cases e1
        rw [List.getElem?_set_self hiσ] at e2
        cases e2
        exact ⟨u, r, .inl ⟨hk, by simp⟩⟩
      · rw [List.getElem?_set_ne (Ne.symm hj)] at e2
        obtain ⟨u', r', q⟩ := hl j y v' e1 e2 e3
        refine ⟨u', r', ?_⟩
        rcases q with ⟨k, e⟩ | ⟨k, c, e, z⟩
        · refine .inl ⟨k, ?_⟩
          have : y ≠ x := fun e => hj (nodup_ix hN e1 (e ▸ hi))
          simp [this, e]
        · exact .inr ⟨k, c, e, z.sameBut hs (cne y c e)⟩
    · obtain ⟨w', z⟩ := I.cell y c e
      exact ⟨w', z.sameBut hs (cne y c e)⟩
    · obtain ⟨e, n, ne, nf, d⟩ := I.pin p hp
      exact ⟨(hs.2 p.1 ne).trans e, n, ne, nf, d⟩
  · have hfn : X.fn x = true := by
      rcases hf with z | z
      · exact z
      · rw [z] at hk; cases hk
    obtain ⟨c, hc⟩ := I.ok.has x (.inl hk)
    obtain ⟨w', z⟩ := I.cell x c hc
    refine wpAny_storeName_cell I.ok.kind hk hc z (fun h' hc' hs => ?_)
    obtain ⟨oc, hoc, hocd⟩ := id z
    refine h { s with heap := h' } ⟨I.ok, I.os, I.bare, ⟨fun b o e n hb hx => ?_, fun b o e n hb hx => ?_, I.base.free, fun b o e hx => ?_, I.base.tups, I.base.frzs, I.base.tbls⟩, ⟨m, hn.sameBut hs (Ne.symm (cne x c hc)), fun j y v' e1 e2 e3 => ?_⟩, fun y c' e => ?_, I.free, I.freeC, fun p hp => ?_, tracked ⟨oc, hoc, I.freeC x c hc⟩ hs, by simpa using I.len⟩ ⟨c, hs, .inr hc⟩
    · exact (hs.2 b (Nat.ne_of_lt (Nat.lt_of_lt_of_le (Heap.lt_size e) (I.ok.cab x c hfn hc)))).trans (I.base.keep b o e n hb hx)
    · obtain ⟨sl, e1⟩ := I.base.slot b o e n hb hx
      exact ⟨sl, (hs.2 b (Nat.ne_of_lt (Nat.lt_of_lt_of_le (Heap.lt_size e) (I.ok.cab x c hfn hc)))).trans e1⟩
    · obtain ⟨o', e1⟩ := I.base.there b o e hx
      exact ⟨o', (hs.2 b (Nat.ne_of_lt (Nat.lt_of_lt_of_le (Heap.lt_size e) (I.ok.cab x c hfn hc)))).trans e1⟩
    · by_cases hj : j = i
      · subst hj
        rw [hi] at e1; cases e1
        rw [List.getElem?_set_self hiσ] at e2
        cases e2
        exact ⟨u, r, .inr ⟨.inl hk, c, hc, hc'⟩⟩
      · rw [List.getElem?_set_ne (Ne.symm hj)] at e2
        obtain ⟨u', r', q⟩ := hl j y v' e1 e2 e3
        refine ⟨u', r', ?_⟩
        rcases q with q | ⟨k, c', e, z'⟩
        · exact .inl q
        · refine .inr ⟨k, c', e, z'.sameBut hs ?_⟩
          rintro rfl
          exact hj (nodup_ix hN e1 (I.ok.inj _ _ _ e hc ▸ hi))
    · by_cases hcc : c' = c
      · subst hcc; exact ⟨_, hc'⟩
      · obtain ⟨w2, z2⟩ := I.cell y c' e
        exact ⟨w2, z2.sameBut hs hcc⟩
    · obtain ⟨e, n, ne, nf, d⟩ := I.pin p hp
      refine ⟨(hs.2 p.1 ?_).trans e, n, ne, nf, d⟩
      intro q
      rw [q, hoc] at e
      have q' : oc = p.2 := Option.some.inj e
      exact d w' (by rw [← q']; exact hocd)
theorem store_ok {M : Model} {A : Around} {E : Value → Shared → Prop} {i : Nat} {x : Str} {v : V} {u : Value} {Q : Unit → Shared → Prop} (I : Inv X pins σ H s) (hN : X.N.Nodup) (hi : X.N[i]? = some x) (hx : Loc X.env.scope x) (r : RelV v u)
    (h : ∀ s', Inv X pins (σ.set i (some v)) H s' → Q () s') (hf : X.fn x = true ∨ X.env.scope.names.lookup x = some .local := by first | exact .inl rfl | exact .inr rfl | assumption) : wpAny M A (storeName X.env x u) Q E s :=
  store_ok2 I hN hi hx r (fun s' I' _ => h s' I') hf
/-- behind a call or a block, the state as it is -/
theorem Inv.call' {s' : Shared} {ch : List Addr} (I : Inv X pins σ H s) (ho : s'.os = s.os) (u : Un (frs X.stack) ch H H' s.heap s'.heap) (hok : HOk X.prog X.w H' s'.heap) (hg : AllBare s'.gens)
    (hch : ∀ b ∈ ch, (b ∈ X.ex ∨ X.s₀.heap.objs.size ≤ b) ∧ b ≠ X.env.locals ∧ (∀ x c, X.env.cells.lookup x = some c → c ≠ b) ∧ ∀ p ∈ X.pn ++ pins, p.1 ≠ b) : Inv X pins σ H' s' := by
  obtain ⟨h', g', d', t', o'⟩ := s'
  have e : o' = s.os := ho
  subst e
  exact I.call (g' := g') (t' := t') (d' := d') u hok hg hch
end

/-! ### the judgements -/
/-- an exception: its class, its own dict's address (where it has one), the abstract heap behind it -/
abbrev XK := Value → Option Addr → Hp → Prop
abbrev St := List (Option V)
abbrev VK := V → Hp → Prop
/-- an expression's reading; a test's; an argument list's -/
abbrev TE := St → Hp → VK → Prop
abbrev TT := St → Hp → (Bool → Hp → Prop) → Prop
abbrev TA := St → Hp → (List V → Hp → Prop) → Prop
/-- what is wanted behind a statement -/
structure Ends where
  nx : St → Hp → Prop
  rt : VK
  bk : St → Hp → Prop := fun _ _ => False
  ct : St → Hp → Prop := fun _ _ => False
abbrev TS := Ends → St → Hp → Prop

def EP (X : Cx) (pins : List (Addr × Obj)) (σ : St) (Q : VK) (u : Value) (s' : Shared) : Prop := ∃ v H', Inv X pins σ H' s' ∧ RelV v u ∧ Q v H'
def TP (X : Cx) (pins : List (Addr × Obj)) (σ : St) (Q : Bool → Hp → Prop) (b : Bool) (s' : Shared) : Prop := ∃ H', Inv X pins σ H' s' ∧ Q b H'
def AP (X : Cx) (pins : List (Addr × Obj)) (σ : St) (Q : List V → Hp → Prop) (us : List Value) (s' : Shared) : Prop := ∃ vs H', Inv X pins σ H' s' ∧ Vals vs us ∧ Q vs H'
def SP (X : Cx) (pins : List (Addr × Obj)) (D : Ends) (f : Flow) (s' : Shared) : Prop :=
  match f with
  | .next => ∃ σ' H', Inv X pins σ' H' s' ∧ D.nx σ' H'
  | .brk => ∃ σ' H', Inv X pins σ' H' s' ∧ D.bk σ' H'
  | .cont => ∃ σ' H', Inv X pins σ' H' s' ∧ D.ct σ' H'
  | .ret u => ∃ v σ' H', Inv X pins σ' H' s' ∧ RelV v u ∧ D.rt v H'

def PE (X : Cx) (e : Expr) (t : TE) : Prop :=
  ∀ (pins : List (Addr × Obj)) (s : Shared) (σ : St) (H : Hp) (Q : VK), Inv X pins σ H s → t σ H Q → wpAny (model X.prog X.w) X.A (eval e X.env) (EP X pins σ Q) X.xe s
def PT (X : Cx) (e : Expr) (t : TT) : Prop :=
  ∀ (pins : List (Addr × Obj)) (s : Shared) (σ : St) (H : Hp) (Q : Bool → Hp → Prop), Inv X pins σ H s → t σ H Q → wpAny (model X.prog X.w) X.A (isTrue e X.env (eval e X.env)) (TP X pins σ Q) X.xe s
/-- a test whatever its 'whole' is (and, or) -/
def PW (X : Cx) (e : Expr) (t : TT) : Prop :=
  ∀ (whole : Sem Value) (pins : List (Addr × Obj)) (s : Shared) (σ : St) (H : Hp) (Q : Bool → Hp → Prop), Inv X pins σ H s → t σ H Q → wpAny (model X.prog X.w) X.A (isTrue e X.env whole) (TP X pins σ Q) X.xe s
theorem PW.pt {X : Cx} {e : Expr} {t : TT} (h : PW X e t) : PT X e t := h _
/-- an argument list (no star), from the left -/
def PA (X : Cx) (es : List Expr) (t : TA) : Prop :=
  ∀ (pos : Pos) (pins : List (Addr × Obj)) (s : Shared) (σ : St) (H : Hp) (Q : List V → Hp → Prop), Inv X pins σ H s → t σ H Q → wpAny (model X.prog X.w) X.A (spliced (backTo pos (starEach es X.env))) (AP X pins σ Q) X.xe s
def PS (X : Cx) (st : Stmt) (t : TS) : Prop :=
  ∀ (pins : List (Addr × Obj)) (s : Shared) (σ : St) (H : Hp) (D : Ends), Inv X pins σ H s → t D σ H → wpAny (model X.prog X.w) X.A (exec st X.env) (SP X pins D) X.xe s
def PSs (X : Cx) (st : List Stmt) (t : TS) : Prop :=
  ∀ (pins : List (Addr × Obj)) (s : Shared) (σ : St) (H : Hp) (D : Ends), Inv X pins σ H s → t D σ H → wpAny (model X.prog X.w) X.A (execs st X.env) (SP X pins D) X.xe s
/-- weaken the end -/
theorem thn {α : Type} {t : Sem α} {Q Q' : α → Shared → Prop} {M : Model} {A : Around} {E : Value → Shared → Prop} {s : Shared} (h : wpAny M A t Q E s) (hQ : ∀ a s, Q a s → Q' a s) : wpAny M A t Q' E s := wpAny_mono h hQ fun _ _ x => x
end L2

namespace L2
open PySem PySem.Spec PyProof.Rows
section
variable {X : Cx}

/-! ### names and constants -/
def tVar (i : Nat) : TE := fun σ H Q => ∃ v, σ[i]? = some (some v) ∧ Q v H
def tC (v : V) : TE := fun _ H Q => Q v H
theorem pe_var {i : Nat} {x : Str} {pos : Pos} (hN : X.N[i]? = some x) (hv : Vis X.env.scope x) (hd : (x == ("__debug__" : Str)) = false := by decide) (hcd : (x == ("__classdict__" : Str)) = false := by decide) : PE X (.Name x pos) (tVar i) := by
  intro pins s σ H Q I h
  obtain ⟨v, e, h⟩ := h
  obtain ⟨m, hn, hl⟩ := I.loc
  obtain ⟨u, r, l⟩ := hl i x v hN e hv
  have fin : EP X pins σ Q u s := ⟨v, H, I, r, h⟩
  rcases l with ⟨hk, hm⟩ | ⟨hk, c, hc, hcell⟩
  · exact wpAny_Name (wpAny_loadName_local I.ok.kind hk hn hm fin) hd
  · rcases hk with hk | hk
    · exact wpAny_Name (wpAny_loadName_cell I.ok.kind hk hc hcell fin) hd
    · exact wpAny_Name (wpAny_loadName_free I.ok.kind hk hc hcell fin hcd) hd
theorem pe_int {i j pos} : PE X (.Constant (.int i) j pos) (tC (.int i)) := fun _ _ _ H _ I h => wpAny_Constant_int ⟨.int i, H, I.tok _, ⟨_, rfl⟩, h⟩
theorem pe_bl {b j pos} : PE X (.Constant (.bool b) j pos) (tC (.bl b)) := fun _ _ _ H _ I h => Constant_bool ⟨.bl b, H, I, rfl, h⟩
theorem pe_str {x j pos} : PE X (.Constant (.str x) j pos) (tC (.str x)) := fun _ _ _ H _ I h => Calls.Constant_str ⟨.str x, H, I.tok _, ⟨_, rfl⟩, h⟩

/-- a global name of the def -/
def Gl (X : Cx) (x : Str) : Prop := X.env.kindOf x = some .globalImplicit
theorem ld_glob {E : Value → Shared → Prop} {pins : List (Addr × Obj)} {s : Shared} {σ : St} {H : Hp} {x : Str} {u : Value} {pos : Pos} {Q : Value → Shared → Prop} (I : Inv X pins σ H s) (hg : Gl X x) (hm : X.mg x = some u) (h : Q u s)
    (hd : (x == ("__debug__" : Str)) = false := by decide) : wpAny (model X.prog X.w) X.A (eval (.Name x pos) X.env) Q E s :=
  Calls.Name_function_global I.ok.kind hg (Calls.loadGlobal_global (by rw [I.ok.glob]; exact I.mod.glob.keeps I.bk) hm h) hd
theorem ld_blt {E : Value → Shared → Prop} {pins : List (Addr × Obj)} {s : Shared} {σ : St} {H : Hp} {x : Str} {u : Value} {pos : Pos} {Q : Value → Shared → Prop} (I : Inv X pins σ H s) (hg : Gl X x) (hm : X.mg x = none) (hv : bootBuiltins x = some u) (h : Q u s)
    (hn : x ≠ "__name__" := by decide) (hd : (x == ("__debug__" : Str)) = false := by decide) : wpAny (model X.prog X.w) X.A (eval (.Name x pos) X.env) Q E s := by
  obtain ⟨mb, h1, h2⟩ := I.mod.blt
  exact Calls.Name_function_global I.ok.kind hg (Calls.loadGlobal_builtin (by rw [I.ok.glob]; exact I.mod.glob.keeps I.bk) hm (by rw [I.ok.blt]; exact h1.keeps I.bk) ((h2 x hn).trans hv) h) hd
/-- a module's constant, a class, a function, as a value -/
theorem pe_glob {x : Str} {v : V} {u : Value} {pos : Pos} (hg : Gl X x) (hm : X.mg x = some u) (r : RelV v u) (hd : (x == ("__debug__" : Str)) = false := by decide) : PE X (.Name x pos) (tC v) :=
  fun _ _ _ H _ I h => ld_glob I hg hm ⟨v, H, I, r, h⟩ hd
theorem pe_bltn {x : Str} {v : V} {u : Value} {pos : Pos} (hg : Gl X x) (hm : X.mg x = none) (hv : bootBuiltins x = some u) (r : RelV v u) (hn : x ≠ "__name__" := by decide) (hd : (x == ("__debug__" : Str)) = false := by decide) : PE X (.Name x pos) (tC v) :=
  fun _ _ _ H _ I h => ld_blt I hg hm hv ⟨v, H, I, r, h⟩ hn hd

/-! ### arithmetic -/
/-- two ints -/
def t2I (ta tb : TE) (k : Int → Int → Hp → Prop) : St → Hp → Prop := fun σ H => ta σ H fun x H1 => tb σ H1 fun y H2 => ∃ i j, x = .int i ∧ y = .int j ∧ k i j H2
def tAdd (ta tb : TE) : TE := fun σ H Q => t2I ta tb (fun i j H2 => Q (.int (i + j)) H2) σ H
def tSub (ta tb : TE) : TE := fun σ H Q => t2I ta tb (fun i j H2 => Q (.int (i - j)) H2) σ H
/-- the left factor below 2^64 -/
def tMul (ta tb : TE) : TE := fun σ H Q => t2I ta tb (fun i j H2 => (-(2 ^ 64) < i ∧ i < 2 ^ 64) ∧ Q (.int (i * j)) H2) σ H
variable {a b : Expr} {ta tb : TE} {pos : Pos}
/-! ### comparisons -/
def PC (X : Cx) (op : CmpOp) (a b : Expr) (t : TE) : Prop :=
  ∀ (pins : List (Addr × Obj)) (s : Shared) (σ : St) (H : Hp) (Q : VK), Inv X pins σ H s → t σ H Q →
    wpAny (model X.prog X.w) X.A (eval a X.env) (fun v s₁ => wpAny (model X.prog X.w) X.A (eval b X.env) (fun u s₂ => wpAny (model X.prog X.w) X.A (compareOp op v u) (EP X pins σ Q) X.xe s₂) X.xe s₁) X.xe s
def tCmp (p : Int → Int → Bool) (ta tb : TE) : TE := fun σ H Q => t2I ta tb (fun i j H2 => Q (.bl (p i j)) H2) σ H
abbrev tLt : TE → TE → TE := tCmp fun i j => decide (i < j)
abbrev tLe : TE → TE → TE := tCmp fun i j => decide (i ≤ j)
abbrev tGt : TE → TE → TE := tCmp fun i j => decide (j < i)
abbrev tGe : TE → TE → TE := tCmp fun i j => decide (j ≤ i)
abbrev tEqI : TE → TE → TE := tCmp fun i j => decide (i = j)
abbrev tNeI : TE → TE → TE := tCmp fun i j => !decide (i = j)
/-- is None -/
def tIsN (ta : TE) : TE := fun σ H Q => ta σ H fun x H1 => Q (.bl (decide (x = .non))) H1
def tNotN (ta : TE) : TE := fun σ H Q => ta σ H fun x H1 => Q (.bl (!decide (x = .non))) H1
/-- a comparison as a value, as a test -/
def tB (t : TE) : TT := fun σ H Q => t σ H fun x H1 => ∃ c, x = .bl c ∧ Q c H1
/-- an expression whose value is a bool, as a test -/
theorem pt_val {e : Expr} {t : TE} (h : PE X e t) (he : ∀ whole, isTrue e X.env whole = (do let v ← whole; standAt e.pos; holding [v] (truthy v)) := by intro _; rfl) : PT X e (tB t) := by
  intro pins s σ H Q I hw
  refine isTrue_plain (thn (h pins s σ H _ I hw) fun v s1 ⟨x, H1, I1, r1, q1⟩ => ?_) (he _)
  obtain ⟨d, rfl, q⟩ := q1
  cases r1
  exact wpAny_truthy_bool ⟨H1, I1, q⟩

/-! ### and, or, not -/
variable {tA tB' : TT} {rest : List Expr}
def tAnd (t u : TT) : TT := fun σ H Q => t σ H fun c H1 => if c = true then u σ H1 Q else Q false H1
def tOr (t u : TT) : TT := fun σ H Q => t σ H fun c H1 => if c = true then Q true H1 else u σ H1 Q
def tNot (t : TT) : TT := fun σ H Q => t σ H fun c H1 => Q (!c) H1
theorem pw_and1 (ha : PT X a tA) : PW X (.BoolOp .And [a] pos) tA := by
  intro wh pins s σ H Q I h
  refine isTrue_and (thn (ha pins s σ H Q I h) fun c s1 e => ?_)
  cases c with
  | true => exact isTrue_and_nil e
  | false => exact e
theorem pw_or1 (ha : PT X a tA) : PW X (.BoolOp .Or [a] pos) tA := by
  intro wh pins s σ H Q I h
  refine isTrue_or (thn (ha pins s σ H Q I h) fun c s1 e => ?_)
  cases c with
  | false => exact isTrue_or_nil e
  | true => exact e
theorem pw_and (ha : PT X a tA) (hb : PW X (.BoolOp .And (b :: rest) pos) tB') : PW X (.BoolOp .And (a :: b :: rest) pos) (tAnd tA tB') := by
  intro wh pins s σ H Q I h
  refine isTrue_and (thn (ha pins s σ H _ I h) fun c s1 ⟨H1, I1, q1⟩ => ?_)
  cases c with
  | true => exact hb wh pins s1 σ H1 Q I1 q1
  | false => exact ⟨H1, I1, q1⟩
theorem pw_or (ha : PT X a tA) (hb : PW X (.BoolOp .Or (b :: rest) pos) tB') : PW X (.BoolOp .Or (a :: b :: rest) pos) (tOr tA tB') := by
  intro wh pins s σ H Q I h
  refine isTrue_or (thn (ha pins s σ H _ I h) fun c s1 ⟨H1, I1, q1⟩ => ?_)
  cases c with
  | true => exact ⟨H1, I1, q1⟩
  | false => exact hb wh pins s1 σ H1 Q I1 q1
theorem pt_not (ha : PT X a tA) : PT X (.UnaryOp .Not a pos) (tNot tA) := by
  intro pins s σ H Q I h
  exact isTrue_not (ha pins s σ H (fun c H1 => Q (!c) H1) I h)
/-- .. as values (bools) -/
def tAndV (ta tb : TE) : TE := fun σ H Q => ta σ H fun x H1 => ∃ c, x = .bl c ∧ if c = true then tb σ H1 Q else Q (.bl false) H1
def tOrV (ta tb : TE) : TE := fun σ H Q => ta σ H fun x H1 => ∃ c, x = .bl c ∧ if c = true then Q (.bl true) H1 else tb σ H1 Q
def tNotV (ta : TE) : TE := fun σ H Q => ta σ H fun x H1 => ∃ c, x = .bl c ∧ Q (.bl (!c)) H1
/-- a if t else b -/
def tIf (t : TT) (ta tb : TE) : TE := fun σ H Q => t σ H fun c H1 => if c = true then ta σ H1 Q else tb σ H1 Q
theorem pe_ifExp {c : Expr} (hc : PT X c tA) (ha : PE X a ta) (hb : PE X b tb) : PE X (.IfExp c a b pos) (tIf tA ta tb) := by
  intro pins s σ H Q I h
  refine wpAny_IfExp (thn (hc pins s σ H _ I h) fun d s1 ⟨H1, I1, q1⟩ => ?_)
  cases d with
  | true => exact ha pins s1 σ H1 Q I1 q1
  | false => exact hb pins s1 σ H1 Q I1 q1
end
end L2

namespace L2
open PySem PySem.Spec PyProof.Rows

/-! ### a list, a tuple that is read: tracked, frozen, or an object of the module -/
def SqL (K : PySem.W.Frag) (H : Hp) (a : Addr) (xs : List V) : Prop :=
  Rd H a (.lst xs) ∨
    ∃ (o : Obj) (its : Array Value) (n : Nat), K.lookup a = some o ∧ o.cls = .type "list" ∧ o.dict = none ∧ o.data = .seq its n ∧ its.size ≤ sizeLine ∧ Vals xs its.toList
def SqT (K : PySem.W.Frag) (H : Hp) (a : Addr) (xs : List V) : Prop :=
  Rd H a (.tup xs) ∨
    ∃ (o : Obj) (its : Array Value) (n : Nat), K.lookup a = some o ∧ o.cls = .type "tuple" ∧ o.data = .seq its n ∧ its.size ≤ sizeLine ∧ Vals xs its.toList
def absV : Value → Option V
  | .none => some .non
  | .bool b => some (.bl b)
  | .int i _ => some (.int i)
  | .str x _ => some (.str x)
  | .bytes b _ => some (.byt b)
  | .float b _ => some (.flt b)
  | .ref a => some (.ref a)
  | .type n => some (.ty n)
  | _ => none
theorem RelV.abs {x : V} {u : Value} (r : RelV x u) : absV u = some x := by
  cases x with
  | non => cases r; rfl
  | bl _ => cases r; rfl
  | int _ => obtain ⟨t, rfl⟩ := r; rfl
  | str _ => obtain ⟨t, rfl⟩ := r; rfl
  | byt _ => obtain ⟨t, rfl⟩ := r; rfl
  | flt _ => obtain ⟨t, rfl⟩ := r; rfl
  | ref _ => cases r; rfl
  | ty _ => cases r; rfl
theorem RelV.inj {x y : V} {u : Value} (r : RelV x u) (q : RelV y u) : x = y := Option.some.inj (r.abs.symm.trans q.abs)
theorem Vals.inj : ∀ {xs ys : List V} {us : List Value}, Vals xs us → Vals ys us → xs = ys
  | _, _, _, .nil, .nil => rfl
  | _, _, _, .cons r t, .cons r' t' => by rw [r.inj r', Vals.inj t t']
section
variable {X : Cx} {pins : List (Addr × Obj)} {σ : St} {H : Hp} {s : Shared} {a : Addr} {xs ys : List V}
theorem SqL.of {K : PySem.W.Frag} (h : H a = some (.lst xs)) : SqL K H a xs := .inl (.inl h)
theorem SqT.of {K : PySem.W.Frag} (h : H a = some (.tup xs)) : SqT K H a xs := .inl (.inl h)
theorem Inv.list (I : Inv X pins σ H s) (h : SqL X.K H a xs) : ∃ its : List Value, Vals xs its ∧ PlainL s.heap a its.toArray ∧ xs.length ≤ sizeLine := by
  rcases h with h | ⟨o, its, n, hk, hc, hd, hs, hz, r⟩
  · obtain ⟨z, its, n, r, e⟩ := h.ok I.hok
    exact ⟨its, r, ⟨_, n, e, rfl, rfl, rfl⟩, z⟩
  · refine ⟨its.toList, r, ⟨o, n, I.kIn a o hk, hc, hd, by simpa using hs⟩, ?_⟩
    have e := r.length
    simp only [Array.length_toList] at e
    omega
theorem Inv.tuple (I : Inv X pins σ H s) (h : SqT X.K H a xs) : ∃ its : List Value, Vals xs its ∧ IsTup s.heap a its.toArray ∧ xs.length ≤ sizeLine := by
  rcases h with h | ⟨o, its, n, hk, hc, hs, hz, r⟩
  · obtain ⟨z, its, r, p⟩ := h.ok I.hok
    exact ⟨its, r, p, z⟩
  · refine ⟨its.toList, r, ⟨o, I.kIn a o hk, hc, n, by simpa using hs⟩, ?_⟩
    have e := r.length
    simp only [Array.length_toList] at e
    omega
theorem Inv.list_inj (I : Inv X pins σ H s) (h : SqL X.K H a xs) (h' : SqL X.K H a ys) : xs = ys := by
  obtain ⟨its, r, ⟨o, n, e, _, _, d⟩, _⟩ := I.list h
  obtain ⟨its', r', ⟨o', n', e', _, _, d'⟩, _⟩ := I.list h'
  rw [e] at e'; cases e'
  rw [d] at d'
  injection d' with d1 _
  have : its = its' := by simpa using congrArg Array.toList d1
  subst this
  exact r.inj r'
theorem Inv.tuple_inj (I : Inv X pins σ H s) (h : SqT X.K H a xs) (h' : SqT X.K H a ys) : xs = ys := by
  obtain ⟨its, r, ⟨o, e, _, n, d⟩, _⟩ := I.tuple h
  obtain ⟨its', r', ⟨o', e', _, n', d'⟩, _⟩ := I.tuple h'
  rw [e] at e'; cases e'
  rw [d] at d'
  injection d' with d1 _
  have : its = its' := by simpa using congrArg Array.toList d1
  subst this
  exact r.inj r'
end

/-! ### another wish about exceptions -/
abbrev Cx.wish (X : Cx) (E : Value → Shared → Prop) : Cx := { X with xe := E }
/-- no exception leaves -/
abbrev Cx.nox (X : Cx) : Cx := X.wish fun _ _ => False
theorem Cx.Ok.wish {X : Cx} (ok : X.Ok) (E : Value → Shared → Prop) : (X.wish E).Ok :=
  ⟨ok.mod, ok.kind, ok.glob, ok.blt, ok.above, ok.inj, ok.has, ok.cab, ok.hd, ok.frames, ok.stk, ok.exf, ok.bs, ok.bsz, ok.noex, ok.exfs, ok.funs, ok.frf⟩
theorem Cx.Ok.unwish {X : Cx} {E : Value → Shared → Prop} (ok : (X.wish E).Ok) : X.Ok :=
  ⟨ok.mod, ok.kind, ok.glob, ok.blt, ok.above, ok.inj, ok.has, ok.cab, ok.hd, ok.frames, ok.stk, ok.exf, ok.bs, ok.bsz, ok.noex, ok.exfs, ok.funs, ok.frf⟩
section
variable {X : Cx} {pins : List (Addr × Obj)} {σ : St} {H : Hp} {s : Shared} {E : Value → Shared → Prop}
theorem Inv.wish (I : Inv X pins σ H s) (E : Value → Shared → Prop) : Inv (X.wish E) pins σ H s := ⟨I.ok.wish E, I.os, I.bare, I.base, I.loc, I.cell, I.free, I.freeC, I.pin, I.hok, I.len⟩
theorem Inv.unwish (I : Inv (X.wish E) pins σ H s) : Inv X pins σ H s := ⟨I.ok.unwish, I.os, I.bare, I.base, I.loc, I.cell, I.free, I.freeC, I.pin, I.hok, I.len⟩
theorem SP.unwish {D : Ends} {f : Flow} {s' : Shared} (h : SP (X.wish E) pins D f s') : SP X pins D f s' := by
  cases f with
  | next => obtain ⟨σ', H', I, q⟩ := h; exact ⟨σ', H', I.unwish, q⟩
  | brk => obtain ⟨σ', H', I, q⟩ := h; exact ⟨σ', H', I.unwish, q⟩
  | cont => obtain ⟨σ', H', I, q⟩ := h; exact ⟨σ', H', I.unwish, q⟩
  | ret u => obtain ⟨v, σ', H', I, r, q⟩ := h; exact ⟨v, σ', H', I.unwish, r, q⟩
theorem PE.nox {e : Expr} {t : TE} (h : PE X.nox e t) : PE X e t := fun pins s σ H Q I hw =>
  wpAny_mono (h pins s σ H Q (I.wish _) hw) (fun _ _ ⟨v, H', I', r, q⟩ => ⟨v, H', I'.unwish, r, q⟩) fun _ _ z => False.elim z
theorem PT.nox {e : Expr} {t : TT} (h : PT X.nox e t) : PT X e t := fun pins s σ H Q I hw =>
  wpAny_mono (h pins s σ H Q (I.wish _) hw) (fun _ _ ⟨H', I', q⟩ => ⟨H', I'.unwish, q⟩) fun _ _ z => False.elim z
theorem PSs.nox {st : List Stmt} {t : TS} (h : PSs X.nox st t) : PSs X st t := fun pins s σ H D I hw =>
  wpAny_mono (h pins s σ H D (I.wish _) hw) (fun _ _ q => q.unwish) fun _ _ z => False.elim z
end

/-! ### blocks and small statements -/
section
variable {X : Cx} {st : Stmt} {rest : List Stmt} {t u : TS} {e : Expr} {te : TE} {pos : Pos}
def tNext : TS := fun D σ H => D.nx σ H
def tSeq (t u : TS) : TS := fun D σ H => t { D with nx := u D } σ H
theorem pss_nil : PSs X [] tNext := fun _ _ σ H _ I h => wpAny_execs_nil ⟨σ, H, I, h⟩
theorem pss_cons (h1 : PS X st t) (h2 : PSs X rest u) : PSs X (st :: rest) (tSeq t u) := by
  intro pins s σ H D I h
  refine wpAny_execs_cons (thn (h1 pins s σ H { D with nx := u D } I h) fun f s1 q => ?_)
  cases f with
  | next =>
    obtain ⟨σ', H', I', q⟩ := q
    exact h2 pins s1 σ' H' D I' q
  | ret v => exact q
  | brk => exact q
  | cont => exact q
theorem pss_one (h1 : PS X st t) : PSs X [st] t := by
  intro pins s σ H D I h
  refine wpAny_execs_cons (thn (h1 pins s σ H D I h) fun f s1 q => ?_)
  cases f with
  | next => exact wpAny_execs_nil q
  | ret v => exact q
  | brk => exact q
  | cont => exact q
def tBreak : TS := fun D σ H => D.bk σ H
def tCont : TS := fun D σ H => D.ct σ H
/-- in a def's body nothing is shown -/
theorem Inv.quiet {pins : List (Addr × Obj)} {σ : St} {H : Hp} {s : Shared} (I : Inv X pins σ H s) : interactive X.env = false := by simp [interactive, I.ok.kind]
/-- an expression whose value is dropped -/
def tDrop (te : TE) : TS := fun D σ H => te σ H fun _ H1 => D.nx σ H1
theorem ps_expr (he : PE X e te) (hs : swapsWith e none pos.line X.env = pure false := by rfl) : PS X (.Expr e pos) (tDrop te) := by
  intro pins s σ H D I h
  exact wpAny_Expr_any (thn (he pins s σ H _ I h) fun v s1 ⟨x, H1, I1, r1, q1⟩ => ⟨σ, H1, I1, q1⟩) I.quiet hs
def tRet (te : TE) : TS := fun D σ H => te σ H D.rt
theorem ps_ret (he : PE X e te) : PS X (.Return (some e) pos) (tRet te) := by
  intro pins s σ H D I h
  exact wpAny_Return_some (thn (he pins s σ H _ I h) fun v s1 ⟨x, H1, I1, r1, q1⟩ => ⟨x, σ, H1, I1, r1, q1⟩)
def tRetN : TS := fun D _ H => D.rt .non H
def tIfS (c : TT) (t u : TS) : TS := fun D σ H => c σ H fun b H1 => if b = true then t D σ H1 else u D σ H1
theorem ps_if {c : Expr} {a b : List Stmt} {tc : TT} (hc : PT X c tc) (ha : PSs X a t) (hb : PSs X b u) : PS X (.If c a b pos) (tIfS tc t u) := by
  intro pins s σ H D I h
  refine wpAny_If (thn (hc pins s σ H _ I h) fun d s1 ⟨H1, I1, q1⟩ => ?_)
  cases d with
  | true => exact ha pins s1 σ H1 D I1 q1
  | false => exact hb pins s1 σ H1 D I1 q1
/-- code that the proof never comes to -/
def tNever : TS := fun _ _ _ => False
end

/-! ### targets -/
abbrev TG := V → St → Hp → (St → Hp → Prop) → Prop
abbrev TGs := List V → St → Hp → (St → Hp → Prop) → Prop
def PG (X : Cx) (target : Expr) (t : TG) : Prop :=
  ∀ (pins : List (Addr × Obj)) (s : Shared) (σ : St) (H : Hp) (v : V) (u : Value) (Q : St → Hp → Prop), Inv X pins σ H s → RelV v u → t v σ H Q →
    wpAny (model X.prog X.w) X.A (assign target X.env u) (fun _ s' => ∃ σ' H', Inv X pins σ' H' s' ∧ Q σ' H') X.xe s
/-- several targets, one after another -/
def PGs (X : Cx) (ts : List Expr) (t : TGs) : Prop :=
  ∀ (pins : List (Addr × Obj)) (s : Shared) (σ : St) (H : Hp) (vs : List V) (us : List Value) (Q : St → Hp → Prop), Inv X pins σ H s → Vals vs us → t vs σ H Q →
    wpAny (model X.prog X.w) X.A (assignInOrder ((assignEach ts X.env).map (·.2)) us) (fun _ s' => ∃ σ' H', Inv X pins σ' H' s' ∧ Q σ' H') X.xe s
/-- o[i] = v, by values -/
abbrev TSet := V → V → V → Hp → (Hp → Prop) → Prop
def PSet (X : Cx) (t : TSet) : Prop :=
  ∀ (pins : List (Addr × Obj)) (s : Shared) (σ : St) (H : Hp) (o i v : V) (ov iv u : Value) (Q : Hp → Prop), Inv X pins σ H s → RelV o ov → RelV i iv → RelV v u → t o i v H Q →
    wpAny (model X.prog X.w) X.A (setItem ov iv u) (fun _ s' => ∃ H', Inv X pins σ H' s' ∧ Q H') X.xe s
/-- a op= b, by values -/
abbrev TIp := V → V → Hp → VK → Prop
def PIp (X : Cx) (op : Operator) (t : TIp) : Prop :=
  ∀ (pins : List (Addr × Obj)) (s : Shared) (σ : St) (H : Hp) (x y : V) (v u : Value) (Q : VK), Inv X pins σ H s → RelV x v → RelV y u → t x y H Q →
    wpAny (model X.prog X.w) X.A (inplaceOp op v u) (EP X pins σ Q) X.xe s
section
variable {X : Cx} {pos : Pos}
def gName (i : Nat) : TG := fun v σ H Q => Q (σ.set i (some v)) H
theorem pg_name {i : Nat} {x : Str} (hN : X.N.Nodup) (hi : X.N[i]? = some x) (hx : Loc X.env.scope x) (hf : X.fn x = true ∨ X.env.scope.names.lookup x = some .local := by first | exact .inl rfl | exact .inr rfl | assumption) : PG X (.Name x pos) (gName i) := by
  intro pins s σ H v u Q I r h
  exact wpAny_assign_Name (store_ok I hN hi hx r (fun s' I' => ⟨_, H, I', h⟩) hf)
def gNil : TGs := fun vs σ H Q => vs = [] ∧ Q σ H
def gCons (t : TG) (u : TGs) : TGs := fun vs σ H Q => ∃ v r, vs = v :: r ∧ t v σ H fun σ' H' => u r σ' H' Q
theorem pgs_nil : PGs X [] gNil := by
  intro pins s σ H vs us Q I r h
  obtain ⟨e, h⟩ := h
  subst e
  cases r
  exact assignInOrder_nil ⟨σ, H, I, h⟩
theorem pgs_cons {e : Expr} {es : List Expr} {t : TG} {u : TGs} (h1 : PG X e t) (h2 : PGs X es u)
    (hs : (assignEach (e :: es) X.env).map (·.2) = assign e X.env :: (assignEach es X.env).map (·.2) := by rfl) : PGs X (e :: es) (gCons t u) := by
  intro pins s σ H vs us Q I r h
  obtain ⟨v, vr, e1, h⟩ := h
  subst e1
  cases r with
  | cons r rr =>
    rw [hs]
    refine assignInOrder_cons (thn (h1 pins s σ H _ _ _ I r h) fun _ s1 ⟨σ1, H1, I1, q1⟩ => ?_)
    exact h2 pins s1 σ1 H1 _ _ Q I1 rr q1
/-- (a, b, ..) = a tuple of that length -/
def gTup (K : PySem.W.Frag) (n : Nat) (t : TGs) : TG := fun v σ H Q => ∃ a xs, v = .ref a ∧ SqT K H a xs ∧ xs.length = n ∧ t xs σ H Q
theorem pg_tup {es : List Expr} {k : Nat} {t : TGs} {n : Nat} (hc : X.calm = true) (h : PGs X es t)
    (hn : (assignEach es X.env).length = n := by rfl) (hst : (assignEach es X.env).findIdx? (·.1) = none := by rfl) : PG X (.Tuple es k pos) (gTup X.K n t) := by
  intro pins s σ H v u Q I r hw
  obtain ⟨a, xs, e1, hq, hl, hw⟩ := hw
  subst e1
  cases r
  obtain ⟨its, rv, ht, hz⟩ := I.tuple hq
  refine assign_Tuple_tuple (I.ok.hd hc) ht (by simp [hn, ← hl, rv.length]) hst fun h' hx => ?_
  have I1 : Inv X pins σ H { s with heap := h' } := I.kept (t' := s.toks) fun b o e => hx b o (Nat.ne_of_lt (Heap.lt_size e)) e
  exact h pins _ σ H xs _ Q I1 (by simpa using rv) hw
/-- o[i] = .. -/
def gSub (to ti : TE) (t : TSet) : TG := fun v σ H Q => to σ H fun o H1 => ti σ H1 fun i H2 => t o i v H2 fun H3 => Q σ H3
theorem pg_sub {o i : Expr} {to ti : TE} {t : TSet} (ho : PE X o to) (hi : PE X i ti) (hs : PSet X t)
    (ha : ∀ v, assign (.Subscript o i pos) X.env v = (do
      let ov ← holding [v] (eval o X.env)
      let iv ← holding [v, ov] (eval i X.env)
      standAt pos
      holding [v, ov, iv] (setItem ov iv v)
      release [v, ov, iv] []) := by intro _; rfl) : PG X (.Subscript o i pos) (gSub to ti t) := by
  intro pins s σ H v u Q I r h
  rw [ha]
  refine wpAny_bind (wpAny_holding (thn (ho pins s σ H _ I h) fun ov s1 ⟨x, H1, I1, r1, q1⟩ => ?_))
  refine wpAny_bind (wpAny_holding (thn (hi pins s1 σ H1 _ I1 q1) fun iv s2 ⟨y, H2, I2, r2, q2⟩ => ?_))
  refine wpAny_bind (wpAny_standAt (wpAny_bind (wpAny_holding (thn (hs pins s2 σ H2 x y v ov iv u _ I2 r1 r2 r q2) fun _ s3 ⟨H3, I3, q3⟩ => ?_))))
  exact wpAny_release ⟨σ, H3, I3, q3⟩
/-- target = value -/
def tAsg (te : TE) (g : TG) : TS := fun D σ H => te σ H fun x H1 => g x σ H1 D.nx
theorem ps_asg {tg e : Expr} {te : TE} {g : TG} (he : PE X e te) (hg : PG X tg g) (hs : swapsWithSole [tg] e pos.line X.env = pure false := by rfl) (hw : swappedStores [tg] e X.env = pure none := by rfl)
    (h1 : (assignEach [tg] X.env).map (·.2) = [assign tg X.env] := by rfl) : PS X (.Assign [tg] e pos) (tAsg te g) := by
  intro pins s σ H D I h
  refine wpAny_Assign_stores (thn (he pins s σ H _ I h) fun v s1 ⟨x, H1, I1, r1, q1⟩ => ?_) hs hw
  rw [h1]
  exact thn (hg pins s1 σ H1 x v _ I1 r1 q1) fun _ s2 q => q
/-- name = value -/
theorem ps_set {i : Nat} {x : Str} {e : Expr} {te : TE} {pos' : Pos} (hN : X.N.Nodup) (hi : X.N[i]? = some x) (hx : Loc X.env.scope x) (he : PE X e te) (hs : swapsWith e (some (.Name x pos')) pos.line X.env = pure false := by rfl) (hf : X.fn x = true ∨ X.env.scope.names.lookup x = some .local := by first | exact .inl rfl | exact .inr rfl | assumption) :
    PS X (.Assign [.Name x pos'] e pos) (tAsg te (gName i)) := by
  intro pins s σ H D I h
  refine wpAny_Assign_Name (thn (he pins s σ H _ I h) fun v s1 ⟨y, H1, I1, r1, q1⟩ => ?_) hs
  exact store_ok I1 hN hi hx r1 (fun s2 I2 => ⟨_, H1, I2, q1⟩) hf
/-- a, b = x, y with plain local names: stored from the right; the pair itself is not tracked (the opening rows as in PyProof/Rows/TupAssign.lean:23) -/
def tPar (i j : Nat) (ta : TA) : TS := fun D σ H => ta σ H fun vs H1 => ∃ v w, vs = [v, w] ∧ D.nx ((σ.set i (some v)).set j (some w)) H1
/-- name op= e -/
def tAug (i : Nat) (te : TE) (ti : TIp) : TS := fun D σ H => ∃ x, σ[i]? = some (some x) ∧ te σ H fun y H1 => ti x y H1 fun z H2 => D.nx (σ.set i (some z)) H2
theorem ps_aug {i : Nat} {x : Str} {e : Expr} {te : TE} {op : Operator} {ti : TIp} {pos' : Pos} (hN : X.N.Nodup) (hi : X.N[i]? = some x) (hx : Loc X.env.scope x) (he : PE X e te) (ho : PIp X op ti) (hf : X.fn x = true ∨ X.env.scope.names.lookup x = some .local := by first | exact .inl rfl | exact .inr rfl | assumption) :
    PS X (.AugAssign (.Name x pos') op e pos) (tAug i te ti) := by
  intro pins s σ H D I h
  obtain ⟨v, e1, h⟩ := h
  obtain ⟨m, hn, hl⟩ := I.loc
  have vis : Vis X.env.scope x := by rcases hx with k | k; exact .inl k; exact .inr (.inl k)
  obtain ⟨u, r, l⟩ := hl i x v hi e1 vis
  refine wpAny_AugAssign_Name ?_
  have go : wpAny (model X.prog X.w) X.A (eval e X.env) (fun w s₂ => wpAny (model X.prog X.w) X.A (inplaceOp op u w) (fun r s₃ => wpAny (model X.prog X.w) X.A (storeName X.env x r) (fun _ => SP X pins D .next) X.xe s₃) X.xe s₂) X.xe s := by
    refine thn (he pins s σ H _ I h) fun w s1 ⟨y, H1, I1, r1, q1⟩ => ?_
    refine thn (ho pins s1 σ H1 v y u w _ I1 r r1 q1) fun z s2 ⟨zv, H2, I2, r2, q2⟩ => ?_
    exact store_ok I2 hN hi hx r2 (fun s3 I3 => ⟨_, H2, I3, q2⟩) hf
  rcases l with ⟨hk, hm⟩ | ⟨hk, c, hc, hcell⟩
  · exact wpAny_loadName_local I.ok.kind hk hn hm go
  · rcases hk with hk | hk
    · exact wpAny_loadName_cell I.ok.kind hk hc hcell go
    · rcases hx with k | k
      · have : X.env.scope.names.lookup x = some .free := hk
        rw [k] at this; cases this
      · have : X.env.scope.names.lookup x = some .free := hk
        rw [k] at this; cases this
/-- o[i] op= e -/
def tAugS (to ti te : TE) (tget : V → V → Hp → VK → Prop) (tip : TIp) (tset : TSet) : TS := fun D σ H => to σ H fun o H1 => ti σ H1 fun i H2 => tget o i H2 fun x H3 => te σ H3 fun y H4 => tip x y H4 fun z H5 => tset o i z H5 fun H6 => D.nx σ H6
/-- o[i], by values -/
def PGet (X : Cx) (t : V → V → Hp → VK → Prop) : Prop :=
  ∀ (pins : List (Addr × Obj)) (s : Shared) (σ : St) (H : Hp) (o i : V) (ov iv : Value) (Q : VK), Inv X pins σ H s → RelV o ov → RelV i iv → t o i H Q →
    wpAny (model X.prog X.w) X.A (getItem ov iv) (EP X pins σ Q) X.xe s
/-- ints -/
def ipI (f : Int → Int → Int) : TIp := fun x y H Q => ∃ i j, x = .int i ∧ y = .int j ∧ Q (.int (f i j)) H
end

/-! ### while -/
section
variable {X : Cx} {pos : Pos}
/-- the invariant W with its measure -/
def tWhile (c : TT) (tb : TS) : TS := fun D σ H => ∃ W : Nat → St → Hp → Prop, (∃ m, W m σ H) ∧ ∀ m σ H, W m σ H →
  c σ H fun b H1 => if b = true then ∃ N : St → Hp → Prop, (∀ σ' H', N σ' H' → ∃ m', m' < m ∧ W m' σ' H') ∧ tb { D with nx := N, ct := N, bk := D.nx } σ H1 else D.nx σ H1
end

/-! ### what a loop or a comprehension walks -/
/-- at turn i: it yields x (the heap may grow), or it stops -/
structure It where
  go : Nat → Hp → Prop
  yld : Nat → Hp → V → Hp → Prop
  stop : Nat → Hp → Prop
/-- the iterator's own objects may turn: they are not the frame's, not pinned, younger than the entry (or a comprehension's own) -/
def FpOk (X : Cx) (pins : List (Addr × Obj)) (H : Hp) (b : Addr) : Prop :=
  H b = none ∧ b ≠ X.env.locals ∧ b ∉ X.fs ∧ (b ∈ X.ex ∨ X.s₀.heap.objs.size ≤ b) ∧ (∀ x c, X.env.cells.lookup x = some c → c ≠ b) ∧ ∀ p ∈ X.pn ++ pins, p.1 ≠ b
theorem Inv.fpOk {X : Cx} {pins : List (Addr × Obj)} {σ : St} {H H' : Hp} {s : Shared} {b : Addr} (I : Inv X pins σ H s) (hb : s.heap.objs.size ≤ b) (hn : H' b = none) : FpOk X pins H' b := by
  refine ⟨hn, Nat.ne_of_gt (Nat.lt_of_lt_of_le I.lt hb), I.nofs hb, .inr (Nat.le_trans I.sz hb), fun x c e z => ?_, fun p hp z => ?_⟩
  · obtain ⟨v, q⟩ := I.cell x c e
    exact absurd (Nat.lt_of_lt_of_le q.lt (by rw [z]; exact hb)) (Nat.lt_irrefl _)
  · exact absurd (Nat.lt_of_lt_of_le (Heap.lt_size (I.pin p hp).1) (by rw [z]; exact hb)) (Nat.lt_irrefl _)
structure Turn (P : Program) (w : World) (K : PySem.W.Frag) (tg : Expr) (J : It) (fp : List Addr) (it : Addr) (tn : Nat → Heap → Prop) : Prop where
  mem : it ∈ fp
  obj : ∀ i h, tn i h → ∀ b ∈ fp, ∃ o, h.get? b = some o ∧ ∀ v, o.data ≠ .cell v
  keep : ∀ i h h', tn i h → (∀ b ∈ fp, ∀ o, h.get? b = some o → h'.get? b = some o) → tn i h'
  item : ∀ (X : Cx), X.prog = P → X.w = w → X.K = K → X.calm = true → ∀ (i : Nat) (pins : List (Addr × Obj)) (s : Shared) (σ : St) (H : Hp) (E : Value → Shared → Prop), Inv X pins σ H s → (∀ b ∈ fp, FpOk X pins H b) → tn i s.heap → J.go i H →
    wpAny (model P w) X.A (pyNext (.ref it)) (fun r s1 => ∃ u, r = some u ∧
      wpAny (model P w) X.A (letOwnedTupleGo tg (.ref it) u) (fun _ s2 => ∃ x H', Inv X pins σ H' s2 ∧ RelV x u ∧ J.yld i H x H' ∧ tn (i + 1) s2.heap ∧ ∀ b ∈ fp, H' b = none) E s1) E s
  done : ∀ (X : Cx), X.prog = P → X.w = w → X.K = K → X.calm = true → ∀ (i : Nat) (pins : List (Addr × Obj)) (s : Shared) (σ : St) (H : Hp) (E : Value → Shared → Prop), Inv X pins σ H s → (∀ b ∈ fp, FpOk X pins H b) → tn i s.heap → J.stop i H →
    wpAny (model P w) X.A (pyNext (.ref it)) (fun r s1 => r = none ∧ Inv X pins σ H s1) E s
  self : ∀ (A : Around) (i : Nat) (s : Shared) (Q : Value → Shared → Prop) (E : Value → Shared → Prop), tn i s.heap → Q (.ref it) s → wpAny (model P w) A (pyIter (.ref it)) Q E s
abbrev TI := St → Hp → (It → Hp → Prop) → Prop
/-- an iterator has come -/
def PIE (X : Cx) (pins : List (Addr × Obj)) (σ : St) (tg : Expr) (R : It → Hp → Prop) (itv : Value) (s2 : Shared) : Prop :=
  ∃ (it : Addr) (fp : List Addr) (tn : Nat → Heap → Prop) (J : It) (H' : Hp), itv = .ref it ∧ Inv X pins σ H' s2 ∧ Turn X.prog X.w X.K tg J fp it tn ∧ tn 0 s2.heap ∧ (∀ b ∈ fp, FpOk X pins H' b) ∧ R J H'
def PI (X : Cx) (tg iter : Expr) (wi : TI) : Prop :=
  ∀ (pins : List (Addr × Obj)) (s : Shared) (σ : St) (H : Hp) (R : It → Hp → Prop), Inv X pins σ H s → wi σ H R →
    wpAny (model X.prog X.w) X.A (eval iter X.env) (fun v s1 => wpAny (model X.prog X.w) X.A (pyIter v) (PIE X pins σ tg R) X.xe s1) X.xe s

/-- the step ahead of the store is nothing for an iterator that keeps no tuple -/
theorem go_of {M : Model} {A : Around} {E : Value → Shared → Prop} {s : Shared} {tg : Expr} {it : Addr} {u : Value} {o : Obj} {n : String} {vs : Array Value} {Q : Unit → Shared → Prop} (ho : s.heap.get? it = some o) (hc : o.cls = .type n) (hd : o.data = .fields vs)
    (hn : ["enumerate", "zip", "dict_itemiterator", "dict_reverseitemiterator", "odict_iterator", "itertools.zip_longest", "itertools.pairwise"].contains n = false) (hQ : Q () s) : wpAny M A (letOwnedTupleGo tg (.ref it) u) Q E s := by
  unfold letOwnedTupleGo
  cases tg <;> first
    | exact wpAny_pure hQ
    | (cases u <;> first
        | exact wpAny_pure hQ
        | (refine wpAny_bind (wpAny_load ho ?_)
           rw [hc, hd]
           show wpAny M A (if (["enumerate", "zip", "dict_itemiterator", "dict_reverseitemiterator", "odict_iterator", "itertools.zip_longest", "itertools.pairwise"].contains n && vs[0]? == some (rawInt _)) = true then _ else _) Q E s
           rw [if_neg (by intro h; rw [hn, Bool.false_and] at h; cases h)]
           exact wpAny_pure hQ))

/-- the list at a, as it stands at each turn (a loop may append to it) -/
def Itl (K : PySem.W.Frag) (a : Addr) : It :=
  ⟨fun i H => ∃ xs x, SqL K H a xs ∧ xs[i]? = some x, fun i H x H' => H' = H ∧ ∀ xs, SqL K H a xs → xs[i]? = some x, fun i H => ∃ xs, SqL K H a xs ∧ xs.length ≤ i⟩
def Itt (K : PySem.W.Frag) (a : Addr) : It :=
  ⟨fun i H => ∃ xs x, SqT K H a xs ∧ xs[i]? = some x, fun i H x H' => H' = H ∧ ∀ xs, SqT K H a xs → xs[i]? = some x, fun i H => ∃ xs, SqT K H a xs ∧ xs.length ≤ i⟩
/-- lo, lo + 1, .. (n of them) -/
def Itr (lo : Int) (n : Nat) : It := ⟨fun i _ => i < n, fun i H x H' => H' = H ∧ x = .int (lo + i), fun i _ => n ≤ i⟩
theorem turn_list {P : Program} {w : World} {K : PySem.W.Frag} {tg : Expr} (a it : Addr) : Turn P w K tg (Itl K a) [it] it (fun i h => h.IsListIter it a i) where
  mem := by simp
  obj := fun i h st b hb => by
    have e : b = it := by simpa using hb
    subst e
    obtain ⟨o, e, c, d⟩ := st
    exact ⟨o, e, fun v z => by rw [d] at z; cases z⟩
  keep := fun i h h' st k => st.at fun o e => k it (by simp) o e
  item := by
    intro X hP hw hK hc i pins s σ H E I hf st hg
    subst hP hw hK
    obtain ⟨xs, x, hq, hx⟩ := hg
    obtain ⟨its, rv, p, hz⟩ := I.list hq
    obtain ⟨u, hu, ru⟩ := rv.get hx
    obtain ⟨f0, f1, f2, f3, f4, f5⟩ := hf it (by simp)
    refine wpAny_pyNext_list_item st p.isList (x := u) (by simpa using hu) fun h' st' sb => ?_
    have I1 : Inv X pins σ H { s with heap := h' } := I.turned (t' := s.toks) (fun b o hb e => (sb.2 b hb).trans e) f0 f1 f3 f4 f5
    obtain ⟨o, e, c, d⟩ := id st'
    exact ⟨u, rfl, go_of (s := { s with heap := h' }) e c d (by decide) ⟨x, H, I1, ru, ⟨rfl, fun ys hy => by rw [I.list_inj hy hq]; exact hx⟩, st', fun b hb => (hf b hb).1⟩⟩
  done := by
    intro X hP hw hK hc i pins s σ H E I hf st hg
    subst hP hw hK
    obtain ⟨xs, hq, hx⟩ := hg
    obtain ⟨its, rv, p, hz⟩ := I.list hq
    obtain ⟨f0, f1, f2, f3, f4, f5⟩ := hf it (by simp)
    have hl := rv.length
    exact wpAny_pyNext_list_end (I.ok.hd hc) st p.isList (by simp; omega) fun h' eb => ⟨rfl, I.turned (t' := s.toks) (fun b o hb e => eb b o hb e) f0 f1 f3 f4 f5⟩
  self := fun _ _ _ _ _ st h => wpAny_pyIter_listiter st h
theorem turn_tuple {P : Program} {w : World} {K : PySem.W.Frag} {tg : Expr} (a it : Addr) : Turn P w K tg (Itt K a) [it] it (fun i h => h.IsTupleIter it a i) where
  mem := by simp
  obj := fun i h st b hb => by
    have e : b = it := by simpa using hb
    subst e
    obtain ⟨o, e, c, d⟩ := st
    exact ⟨o, e, fun v z => by rw [d] at z; cases z⟩
  keep := fun i h h' st k => st.at fun o e => k it (by simp) o e
  item := by
    intro X hP hw hK hc i pins s σ H E I hf st hg
    subst hP hw hK
    obtain ⟨xs, x, hq, hx⟩ := hg
    obtain ⟨its, rv, p, hz⟩ := I.tuple hq
    obtain ⟨u, hu, ru⟩ := rv.get hx
    obtain ⟨f0, f1, f2, f3, f4, f5⟩ := hf it (by simp)
    refine wpAny_pyNext_tuple_item st (show s.heap.IsTuple a its.toArray from p) (x := u) (by simpa using hu) fun h' st' sb => ?_
    have I1 : Inv X pins σ H { s with heap := h' } := I.turned (t' := s.toks) (fun b o hb e => (sb.2 b hb).trans e) f0 f1 f3 f4 f5
    obtain ⟨o, e, c, d⟩ := id st'
    exact ⟨u, rfl, go_of (s := { s with heap := h' }) e c d (by decide) ⟨x, H, I1, ru, ⟨rfl, fun ys hy => by rw [I.tuple_inj hy hq]; exact hx⟩, st', fun b hb => (hf b hb).1⟩⟩
  done := by
    intro X hP hw hK hc i pins s σ H E I hf st hg
    subst hP hw hK
    obtain ⟨xs, hq, hx⟩ := hg
    obtain ⟨its, rv, p, hz⟩ := I.tuple hq
    obtain ⟨f0, f1, f2, f3, f4, f5⟩ := hf it (by simp)
    have hl := rv.length
    exact wpAny_pyNext_tuple_end (I.ok.hd hc) st (show s.heap.IsTuple a its.toArray from p) (by simp; omega) fun h' eb => ⟨rfl, I.turned (t' := s.toks) (fun b o hb e => eb b o hb e) f0 f1 f3 f4 f5⟩
  self := fun _ _ _ _ _ st h => wpAny_pyIter_tupleiter st h
theorem turn_range {P : Program} {w : World} {K : PySem.W.Frag} {tg : Expr} (it : Addr) (lo : Int) (n : Nat) : Turn P w K tg (Itr lo n) [it] it (fun i h => IsRangeIter h it (lo + (i : Nat) * 1) ((n : Int) - (i : Nat)) 1) where
  mem := by simp
  obj := fun i h st b hb => by
    have e : b = it := by simpa using hb
    subst e
    exact ⟨_, st, fun v z => by
      have z' : Data.fields _ = Data.cell v := z
      cases z'⟩
  keep := fun i h h' st k => k it (by simp) _ st
  item := by
    intro X hP hw hK hc i pins s σ H E I hf st hg
    subst hP hw hK
    obtain ⟨f0, f1, f2, f3, f4, f5⟩ := hf it (by simp)
    have W := Walks.range (prog := X.prog) (w := X.w) (I.ok.hd hc) it lo 1 n
    refine W.item i s _ _ hg st fun v h' tk hv st' kk => ?_
    obtain ⟨t, rfl⟩ := hv
    have I1 : Inv X pins σ H { s with heap := h', toks := tk } := I.turned (fun b o hb e => kk b o (by simpa using hb) e) f0 f1 f3 f4 f5
    refine ⟨_, rfl, go_of (s := { s with heap := h', toks := tk }) (n := "range_iterator") st' rfl rfl (by decide) ⟨.int (lo + i), H, I1, ⟨t, ?_⟩, ⟨rfl, rfl⟩, st', fun b hb => (hf b hb).1⟩⟩
    rw [Int.mul_one]
  done := by
    intro X hP hw hK hc i pins s σ H E I hf st hg
    subst hP hw hK
    obtain ⟨f0, f1, f2, f3, f4, f5⟩ := hf it (by simp)
    exact wpAny_pyNext_range_end (I.ok.hd hc) st (by have : n ≤ i := hg; omega) fun h' eb => ⟨rfl, I.turned (t' := s.toks) (fun b o hb e => eb b o hb e) f0 f1 f3 f4 f5⟩
  self := fun _ _ _ _ _ st h => wpAny_pyIter_rangeiter st h
end L2

namespace L2
open PySem PySem.Spec PyProof.Rows
section
variable {X : Cx} {tg : Expr}
def iList (K : PySem.W.Frag) (tl : TE) : TI := fun σ H R => tl σ H fun x H1 => ∃ a, x = .ref a ∧ (∃ xs, SqL K H1 a xs) ∧ R (Itl K a) H1
def iTup (K : PySem.W.Frag) (tl : TE) : TI := fun σ H R => tl σ H fun x H1 => ∃ a, x = .ref a ∧ (∃ xs, SqT K H1 a xs) ∧ R (Itt K a) H1
theorem pi_list {l : Expr} {tl : TE} (hl : PE X l tl) : PI X tg l (iList X.K tl) := by
  intro pins s σ H R I h
  refine thn (hl pins s σ H _ I h) fun v s1 ⟨x, H1, I1, r1, q1⟩ => ?_
  obtain ⟨a, e, ⟨xs, hq⟩, q⟩ := q1
  subst e
  cases r1
  obtain ⟨its, rv, p, hz⟩ := I1.list hq
  refine wpAny_pyIter_list p.isList ?_
  refine ⟨s1.heap.objs.size, [s1.heap.objs.size], _, _, H1, rfl, I1.kept (t' := s1.toks) fun b o e => Heap.get?_push_of_some _ e, turn_list a _, ⟨_, Heap.get?_push_size _ rfl, rfl, rfl⟩, fun b hb => ?_, q⟩
  have e : b = s1.heap.objs.size := by simpa using hb
  subst e
  exact I1.fpOk (Nat.le_refl _) (I1.hok.fresh (Nat.le_refl _))
theorem pi_tup {l : Expr} {tl : TE} (hl : PE X l tl) : PI X tg l (iTup X.K tl) := by
  intro pins s σ H R I h
  refine thn (hl pins s σ H _ I h) fun v s1 ⟨x, H1, I1, r1, q1⟩ => ?_
  obtain ⟨a, e, ⟨xs, hq⟩, q⟩ := q1
  subst e
  cases r1
  obtain ⟨its, rv, p, hz⟩ := I1.tuple hq
  refine wpAny_pyIter_tuple (show s1.heap.IsTuple a its.toArray from p) ?_
  refine ⟨s1.heap.objs.size, [s1.heap.objs.size], _, _, H1, rfl, I1.kept (t' := s1.toks) fun b o e => Heap.get?_push_of_some _ e, turn_tuple a _, ⟨_, Heap.get?_push_size _ rfl, rfl, rfl⟩, fun b hb => ?_, q⟩
  have e : b = s1.heap.objs.size := by simpa using hb
  subst e
  exact I1.fpOk (Nat.le_refl _) (I1.hok.fresh (Nat.le_refl _))
/-- a range object just made, walked -/
theorem range_it {pins : List (Addr × Obj)} {σ : St} {H : Hp} {s : Shared} {R : It → Hp → Prop} {E : Value → Shared → Prop} {lo hi : Int} {t u v : Tok} {tk : Nat} (I : Inv X pins σ H s) (h1 : -(2 ^ 62) ≤ lo) (h2 : lo < 2 ^ 62) (h3 : -(2 ^ 62) ≤ hi) (h4 : hi < 2 ^ 62)
    (q : R (Itr lo (hi - lo).toNat) H) : wpAny (model X.prog X.w) X.A (pyIter (.ref s.heap.objs.size)) (PIE X pins σ tg R) E { s with heap := s.heap.push { cls := .type "range", data := .fields #[.int lo t, .int hi u, .int 1 v] }, toks := tk } := by
  refine wpAny_pyIter_range (IsRange.new ..) (small_one h1 h2 h3 h4) ?_
  have I1 : Inv X pins σ H { s with heap := s.heap.push { cls := .type "range", data := .fields #[.int lo t, .int hi u, .int 1 v] }, toks := tk } := I.kept fun b o e => Heap.get?_push_of_some _ e
  refine ⟨(s.heap.push { cls := .type "range", data := .fields #[.int lo t, .int hi u, .int 1 v] }).objs.size, [(s.heap.push { cls := .type "range", data := .fields #[.int lo t, .int hi u, .int 1 v] }).objs.size], _, _, H, rfl,
    I1.kept (t' := tk) fun b o e => Heap.get?_push_of_some _ e, turn_range _ lo (hi - lo).toNat, ?_, fun b hb => ?_, q⟩
  · have e1 : lo + ((0 : Nat) : Int) * 1 = lo := by simp
    have e2 : (((hi - lo).toNat : Nat) : Int) - ((0 : Nat) : Int) = Builtin.Range.rangeSize lo hi 1 := by rw [rangeSize_one]; split <;> omega
    show IsRangeIter _ _ (lo + ((0 : Nat) : Int) * 1) ((((hi - lo).toNat : Nat) : Int) - ((0 : Nat) : Int)) 1
    rw [e1, e2]
    exact Heap.get?_push_size _ rfl
  · have e : b = (s.heap.push { cls := .type "range", data := .fields #[.int lo t, .int hi u, .int 1 v] }).objs.size := by simpa using hb
    subst e
    exact I1.fpOk (Nat.le_refl _) (I1.hok.fresh (Nat.le_refl _))
def iRng1 (ta : TA) : TI := fun σ H R => ta σ H fun vs H1 => ∃ j : Int, vs = [.int j] ∧ -(2 ^ 62) ≤ j ∧ j < 2 ^ 62 ∧ R (Itr 0 j.toNat) H1
def iRng2 (ta : TA) : TI := fun σ H R => ta σ H fun vs H1 => ∃ i j : Int, vs = [.int i, .int j] ∧ (-(2 ^ 62) ≤ i ∧ i < 2 ^ 62 ∧ -(2 ^ 62) ≤ j ∧ j < 2 ^ 62) ∧ R (Itr i (j - i).toNat) H1
theorem pi_range1 {a : Expr} {ta : TA} {p pos : Pos} (hg : Gl X "range") (hm : X.mg "range" = none) (ha : PA X [a] ta) (hs : starEach [a] X.env = [(false, eval a X.env)] := by rfl) : PI X tg (.Call (.Name "range" p) [a] [] pos) (iRng1 ta) := by
  intro pins s σ H R I h
  refine Call_ (ld_blt I hg hm boot_range (PyProof.Rows.callWith_type1 (thn (ha pos pins s σ H _ I h) fun us s1 ⟨vs, H1, I1, r1, q1⟩ => ?_) hs rfl))
  obtain ⟨j, e, q1, q2, q⟩ := q1
  subst e
  cases r1 with
  | cons r rr =>
    cases rr
    obtain ⟨t, rfl⟩ := r
    exact call_range_1 (range_it I1 (by omega) (by omega) q1 q2 (by simpa using q))
/-! ### for -/
/-- W: the invariant by the turn and a measure; N: what the body is to reach -/
def tFor (wi : TI) (g : TG) (tb : TS) : TS := fun D σ H => wi σ H fun J H1 => ∃ W : Nat → Nat → St → Hp → Prop, (∃ m, W 0 m σ H1) ∧ ∀ i m σ H, W i m σ H →
  (J.stop i H ∧ D.nx σ H) ∨ (J.go i H ∧ ∃ N : St → Hp → Prop, (∀ σ' H', N σ' H' → ∃ m', m' < m ∧ W (i + 1) m' σ' H') ∧ ∀ x H', J.yld i H x H' → g x σ H' fun σ2 H2 => tb { D with nx := N, ct := N, bk := D.nx } σ2 H2)
/-- the records at fp as they stand -/
def pinsAt (fp : List Addr) (h : Heap) : List (Addr × Obj) := fp.filterMap fun b => (h.get? b).map fun o => (b, o)
theorem mem_pinsAt {fp : List Addr} {h : Heap} {b : Addr} {o : Obj} (hb : b ∈ fp) (e : h.get? b = some o) : (b, o) ∈ pinsAt fp h := List.mem_filterMap.mpr ⟨b, hb, by rw [e]; rfl⟩
theorem of_pinsAt {fp : List Addr} {h : Heap} {p : Addr × Obj} (hp : p ∈ pinsAt fp h) : p.1 ∈ fp ∧ h.get? p.1 = some p.2 := by
  obtain ⟨b, hb, e⟩ := List.mem_filterMap.mp hp
  cases q : h.get? b with
  | none => rw [q] at e; cases e
  | some o =>
    rw [q] at e
    have e' : (b, o) = p := Option.some.inj e
    subst e'
    exact ⟨hb, q⟩
theorem Inv.pinned {pins : List (Addr × Obj)} {σ : St} {H : Hp} {s : Shared} {fp : List Addr} (I : Inv X pins σ H s) (hf : ∀ b ∈ fp, FpOk X pins H b) (ho : ∀ b ∈ fp, ∃ o, s.heap.get? b = some o ∧ ∀ v, o.data ≠ .cell v) : Inv X (pins ++ pinsAt fp s.heap) σ H s :=
  I.pins_of fun p hp => (List.mem_append.mp hp).elim (fun z => I.pin p (List.mem_append_right _ z)) fun z => by
    obtain ⟨hb, e⟩ := of_pinsAt z
    obtain ⟨f0, f1, f2, _⟩ := hf p.1 hb
    obtain ⟨o, e', d⟩ := ho p.1 hb
    rw [e] at e'; cases e'
    exact ⟨e, f0, f1, f2, d⟩
theorem Inv.unpinned {pins pl : List (Addr × Obj)} {σ : St} {H : Hp} {s : Shared} (I : Inv X (pins ++ pl) σ H s) : Inv X pins σ H s := I.pins_of fun p hp => I.pin p (List.mem_append_right _ (List.mem_append_left _ hp))
theorem ps_for {iter : Expr} {body : List Stmt} {wi : TI} {g : TG} {tb : TS} {pos : Pos} (hp : PassesOwn (model X.prog X.w) X.A X.env X.xe) (hc : X.calm = true) (hi : PI X tg iter wi) (hg : PG X tg g) (hb : PSs X body tb)
    (hs : ∀ x, foldedSetIterable iter X.env x = pure x := by intro _; rfl) : PS X (.For tg iter body [] pos) (tFor wi g tb) := by
  intro pins s σ H D I h
  refine wpAny_For (thn (hi pins s σ H _ I h) fun v s1 h1 => thn h1 fun itv s2 h2 => ?_) hs
  obtain ⟨it, fp, tn, J, H2, e, I2, T, st2, f2, W, ⟨m0, w0⟩, turn⟩ := h2
  subst e
  -- what stays true of the iterator's objects through the loop
  have stat : ∀ {H' : Hp}, (∀ b ∈ fp, H' b = none) → ∀ b ∈ fp, FpOk X pins H' b := fun hn b hb => ⟨hn b hb, (f2 b hb).2⟩
  refine codeAny_forLoop_any (fun n s' => ∃ i σ' H', Inv X pins σ' H' s' ∧ tn i s'.heap ∧ (∀ b ∈ fp, H' b = none) ∧ W i n σ' H') ?_ m0 ⟨0, σ, H2, I2, st2, fun b hb => (f2 b hb).1, w0⟩
  rintro n s3 ⟨i, σ3, H3, I3, st3, fr3, w3⟩
  rcases turn i n σ3 H3 w3 with ⟨stop, qn⟩ | ⟨go, N, hN, step⟩
  · refine wpAny_passesOwn hp (thn (T.done X rfl rfl rfl hc i pins s3 σ3 H3 X.xe I3 (stat fr3) st3 stop) fun r s4 ⟨hr, I4⟩ => ?_)
    subst hr
    exact wpAny_execs_nil ⟨σ3, H3, I4, qn⟩
  · refine wpAny_passesOwn hp (thn (T.item X rfl rfl rfl hc i pins s3 σ3 H3 X.xe I3 (stat fr3) st3 go) fun r s4 ⟨u, hr, h4⟩ => ?_)
    subst hr
    refine wpAny_passesOwn hp (thn h4 fun _ s5 ⟨x, H5, I5, r5, y5, st5, fr5⟩ => ?_)
    have I5' := I5.pinned (stat fr5) (T.obj _ _ st5)
    refine wpAny_passesOwn hp (thn (hg _ s5 σ3 H5 x u _ I5' r5 (step x H5 y5)) fun _ s6 ⟨σ6, H6, I6, q6⟩ => ?_)
    refine wpAny_passesOwn hp (thn (hb _ s6 σ6 H6 _ I6 q6) fun f s7 q7 => ?_)
    have again : ∀ {σ7 : St} {H7 : Hp}, Inv X (pins ++ pinsAt fp s5.heap) σ7 H7 s7 → N σ7 H7 → ∃ m, m < n ∧ ∃ i σ' H', Inv X pins σ' H' s7 ∧ tn i s7.heap ∧ (∀ b ∈ fp, H' b = none) ∧ W i m σ' H' := fun {σ7 H7} I7 n7 => by
      obtain ⟨m', hm, w7⟩ := hN σ7 H7 n7
      refine ⟨m', hm, i + 1, σ7, H7, I7.unpinned, T.keep _ _ _ st5 fun b hb o e => (I7.pin (b, o) (List.mem_append_right _ (List.mem_append_right _ (mem_pinsAt hb e)))).1, fun b hb => ?_, w7⟩
      obtain ⟨o, e, d⟩ := T.obj _ _ st5 b hb
      exact (I7.pin (b, o) (List.mem_append_right _ (List.mem_append_right _ (mem_pinsAt hb e)))).2.1
    cases f with
    | next => obtain ⟨σ7, H7, I7, n7⟩ := q7; exact again I7 n7
    | cont => obtain ⟨σ7, H7, I7, n7⟩ := q7; exact again I7 n7
    | brk => obtain ⟨σ7, H7, I7, q7⟩ := q7; exact ⟨σ7, H7, I7.unpinned, q7⟩
    | ret v => obtain ⟨x7, σ7, H7, I7, r7, q7⟩ := q7; exact ⟨x7, σ7, H7, I7.unpinned, r7, q7⟩
end

/-! ### the forms one uses -/
/-- over a list that the body leaves as it is -/
theorem for_list {K : PySem.W.Frag} {a : Addr} {xs : List V} {g : TG} {tb : TS} {D : Ends} {σ : St} {H : Hp} (Pv : Nat → St → Hp → Prop) (h0 : Pv 0 σ H) (hl : ∀ i σ H, i ≤ xs.length → Pv i σ H → SqL K H a xs)
    (hs : ∀ i x σ H, xs[i]? = some x → Pv i σ H → g x σ H fun σ2 H2 => tb { D with nx := Pv (i + 1), ct := Pv (i + 1), bk := D.nx } σ2 H2) (hd : ∀ σ H, Pv xs.length σ H → D.nx σ H) :
    ∃ W : Nat → Nat → St → Hp → Prop, (∃ m, W 0 m σ H) ∧ ∀ i m σ H, W i m σ H →
      ((Itl K a).stop i H ∧ D.nx σ H) ∨ ((Itl K a).go i H ∧ ∃ N : St → Hp → Prop, (∀ σ' H', N σ' H' → ∃ m', m' < m ∧ W (i + 1) m' σ' H') ∧ ∀ x H', (Itl K a).yld i H x H' → g x σ H' fun σ2 H2 => tb { D with nx := N, ct := N, bk := D.nx } σ2 H2) := by
  refine ⟨fun i m σ H => m = xs.length - i ∧ i ≤ xs.length ∧ Pv i σ H, ⟨xs.length, by simp, Nat.zero_le _, h0⟩, ?_⟩
  rintro i m σ H ⟨rfl, hi, p⟩
  have q := hl i σ H hi p
  by_cases hlt : i < xs.length
  · refine .inr ⟨⟨xs, xs[i], q, by simp [hlt]⟩, Pv (i + 1), fun σ' H' p' => ⟨xs.length - (i + 1), by omega, rfl, hlt, p'⟩, fun x H' y => ?_⟩
    obtain ⟨e, y⟩ := y
    subst e
    exact hs i x σ _ (y xs q) p
  · have e : i = xs.length := by omega
    subst e
    exact .inl ⟨⟨xs, q, Nat.le_refl _⟩, hd σ H p⟩
theorem for_tup {K : PySem.W.Frag} {a : Addr} {xs : List V} {g : TG} {tb : TS} {D : Ends} {σ : St} {H : Hp} (Pv : Nat → St → Hp → Prop) (h0 : Pv 0 σ H) (hl : ∀ i σ H, i ≤ xs.length → Pv i σ H → SqT K H a xs)
    (hs : ∀ i x σ H, xs[i]? = some x → Pv i σ H → g x σ H fun σ2 H2 => tb { D with nx := Pv (i + 1), ct := Pv (i + 1), bk := D.nx } σ2 H2) (hd : ∀ σ H, Pv xs.length σ H → D.nx σ H) :
    ∃ W : Nat → Nat → St → Hp → Prop, (∃ m, W 0 m σ H) ∧ ∀ i m σ H, W i m σ H →
      ((Itt K a).stop i H ∧ D.nx σ H) ∨ ((Itt K a).go i H ∧ ∃ N : St → Hp → Prop, (∀ σ' H', N σ' H' → ∃ m', m' < m ∧ W (i + 1) m' σ' H') ∧ ∀ x H', (Itt K a).yld i H x H' → g x σ H' fun σ2 H2 => tb { D with nx := N, ct := N, bk := D.nx } σ2 H2) := by
  refine ⟨fun i m σ H => m = xs.length - i ∧ i ≤ xs.length ∧ Pv i σ H, ⟨xs.length, by simp, Nat.zero_le _, h0⟩, ?_⟩
  rintro i m σ H ⟨rfl, hi, p⟩
  have q := hl i σ H hi p
  by_cases hlt : i < xs.length
  · refine .inr ⟨⟨xs, xs[i], q, by simp [hlt]⟩, Pv (i + 1), fun σ' H' p' => ⟨xs.length - (i + 1), by omega, rfl, hlt, p'⟩, fun x H' y => ?_⟩
    obtain ⟨e, y⟩ := y
    subst e
    exact hs i x σ _ (y xs q) p
  · have e : i = xs.length := by omega
    subst e
    exact .inl ⟨⟨xs, q, Nat.le_refl _⟩, hd σ H p⟩
end L2

namespace L2
open PySem PySem.Spec PyProof.Rows

abbrev R2 := V → V → Hp → VK → Prop
/-- a two-place operation on values: f is binaryOp op, inplaceOp op or compareOp op -/
def OpR (X : Cx) (f : Value → Value → Sem Value) (r : R2) : Prop :=
  ∀ (pins : List (Addr × Obj)) (s : Shared) (σ : St) (H : Hp) (x y : V) (v u : Value) (Q : VK), Inv X pins σ H s → RelV x v → RelV y u → r x y H Q →
    wpAny (model X.prog X.w) X.A (f v u) (EP X pins σ Q) X.xe s
/-- a one-place operation -/
def UnR (X : Cx) (f : Value → Sem Value) (r : V → Hp → VK → Prop) : Prop :=
  ∀ (pins : List (Addr × Obj)) (s : Shared) (σ : St) (H : Hp) (x : V) (v : Value) (Q : VK), Inv X pins σ H s → RelV x v → r x H Q →
    wpAny (model X.prog X.w) X.A (f v) (EP X pins σ Q) X.xe s
/-- a call of a value that is known (a builtin, a type) with values -/
def CallR (X : Cx) (f : Value) (r : List V → Hp → VK → Prop) : Prop :=
  ∀ (pins : List (Addr × Obj)) (s : Shared) (σ : St) (H : Hp) (xs : List V) (us : List Value) (Q : VK), Inv X pins σ H s → Vals xs us → r xs H Q →
    wpAny (model X.prog X.w) X.A (call f us) (EP X pins σ Q) X.xe s
/-- a value's truth -/
def TruR (X : Cx) (r : V → Hp → (Bool → Hp → Prop) → Prop) : Prop :=
  ∀ (pins : List (Addr × Obj)) (s : Shared) (σ : St) (H : Hp) (x : V) (v : Value) (Q : Bool → Hp → Prop), Inv X pins σ H s → RelV x v → r x H Q →
    wpAny (model X.prog X.w) X.A (truthy v) (TP X pins σ Q) X.xe s

def tOp (r : R2) (ta tb : TE) : TE := fun σ H Q => ta σ H fun x H1 => tb σ H1 fun y H2 => r x y H2 Q
def tUn (r : V → Hp → VK → Prop) (ta : TE) : TE := fun σ H Q => ta σ H fun x H1 => r x H1 Q
/-- ints in, under C, and a value out -/
def rI (C : Int → Int → Prop) (g : Int → Int → V) : R2 := fun x y H Q => ∃ i j, x = .int i ∧ y = .int j ∧ C i j ∧ Q (g i j) H
def rI0 (g : Int → Int → V) : R2 := fun x y H Q => ∃ i j, x = .int i ∧ y = .int j ∧ Q (g i j) H
def rU (g : Int → V) : V → Hp → VK → Prop := fun x H Q => ∃ i, x = .int i ∧ Q (g i) H

section
variable {X : Cx} {a b c : Expr} {ta tb tc : TE} {pos : Pos}

theorem binT (ha : PE X a ta) (hb : PE X b tb) {pins : List (Addr × Obj)} {s : Shared} {σ : St} {H : Hp} {R : V → V → Hp → Prop} (I : Inv X pins σ H s)
    (h : ta σ H fun x H1 => tb σ H1 fun y H2 => R x y H2) {Q : Value → Shared → Prop} {f : Value → Value → Sem Value}
    (hf : ∀ v u s2 x y H2, Inv X pins σ H2 s2 → RelV x v → RelV y u → R x y H2 → wpAny (model X.prog X.w) X.A (f v u) Q X.xe s2) :
    wpAny (model X.prog X.w) X.A (eval a X.env) (fun v s₁ => wpAny (model X.prog X.w) X.A (eval b X.env) (fun u s₂ => wpAny (model X.prog X.w) X.A (f v u) Q X.xe s₂) X.xe s₁) X.xe s := by
  refine thn (ha pins s σ H _ I h) fun v s1 ⟨x, H1, I1, r1, q1⟩ => ?_
  refine thn (hb pins s1 σ H1 _ I1 q1) fun u s2 ⟨y, H2, I2, r2, q2⟩ => ?_
  exact hf v u s2 x y H2 I2 r1 r2 q2

theorem pe_op {op : Operator} {r : R2} (ho : OpR X (binaryOp op) r) (ha : PE X a ta) (hb : PE X b tb) : PE X (.BinOp a op b pos) (tOp r ta tb) := by
  intro pins s σ H Q I h
  exact wpAny_BinOp (binT ha hb I h fun v u s2 x y H2 I2 rx ry q => ho pins s2 σ H2 x y v u Q I2 rx ry q)
theorem pe_un {op : UnaryOp} {r : V → Hp → VK → Prop} (ho : UnR X (unaryOp op) r) (ha : PE X a ta) : PE X (.UnaryOp op a pos) (tUn r ta) := by
  intro pins s σ H Q I h
  exact UnaryOp_ (thn (ha pins s σ H _ I h) fun v s1 ⟨x, H1, I1, r1, q1⟩ => ho pins s1 σ H1 x v Q I1 r1 q1)
/-! ### ints -/
theorem opI {f : Value → Value → Sem Value} {C : Int → Int → Prop} {g : Int → Int → Int}
    (rule : ∀ (i j : Int) (t u : Tok) (s : Shared) (Q : Value → Shared → Prop) (E : Value → Shared → Prop), C i j → Q (.int (g i j) s.toks) { s with toks := s.toks + 1 } → wpAny (model X.prog X.w) X.A (f (.int i t) (.int j u)) Q E s) :
    OpR X f (rI C fun i j => .int (g i j)) := by
  intro pins s σ H x y v u Q I rx ry h
  obtain ⟨i, j, rfl, rfl, hc, q⟩ := h
  obtain ⟨t, rfl⟩ := rx
  obtain ⟨t', rfl⟩ := ry
  exact rule i j t t' s _ _ hc ⟨.int (g i j), H, I.tok _, ⟨_, rfl⟩, q⟩
theorem opI0 {f : Value → Value → Sem Value} {g : Int → Int → Int}
    (rule : ∀ (i j : Int) (t u : Tok) (s : Shared) (Q : Value → Shared → Prop) (E : Value → Shared → Prop), Q (.int (g i j) s.toks) { s with toks := s.toks + 1 } → wpAny (model X.prog X.w) X.A (f (.int i t) (.int j u)) Q E s) :
    OpR X f (rI0 fun i j => .int (g i j)) := by
  intro pins s σ H x y v u Q I rx ry h
  obtain ⟨i, j, rfl, rfl, q⟩ := h
  obtain ⟨t, rfl⟩ := rx
  obtain ⟨t', rfl⟩ := ry
  exact rule i j t t' s _ _ ⟨.int (g i j), H, I.tok _, ⟨_, rfl⟩, q⟩
theorem opB0 {f : Value → Value → Sem Value} {g : Int → Int → Bool}
    (rule : ∀ (i j : Int) (t u : Tok) (s : Shared) (Q : Value → Shared → Prop) (E : Value → Shared → Prop), Q (.bool (g i j)) s → wpAny (model X.prog X.w) X.A (f (.int i t) (.int j u)) Q E s) :
    OpR X f (rI0 fun i j => .bl (g i j)) := by
  intro pins s σ H x y v u Q I rx ry h
  obtain ⟨i, j, rfl, rfl, q⟩ := h
  obtain ⟨t, rfl⟩ := rx
  obtain ⟨t', rfl⟩ := ry
  exact rule i j t t' s _ _ ⟨.bl (g i j), H, I, rfl, q⟩

def CDiv (i j : Int) : Prop := 0 < j ∧ j < 1073741824
def CDivN (i j : Int) : Prop := j ≠ 0 ∧ j.natAbs < 1073741824
def CPow (i j : Int) : Prop := 0 ≤ j ∧ j ≤ 1000000 ∧ i.natAbs < 2 ^ 64
def CMul (i j : Int) : Prop := (-(2 ^ 64) < i ∧ i < 2 ^ 64) ∨ (-(2 ^ 64) < j ∧ j < 2 ^ 64)
theorem CMul.ok {i j : Int} (h : CMul i j) : IntMulOk i j := by
  rcases h with ⟨h1, h2⟩ | ⟨h1, h2⟩
  · exact .of_left (intBits_le_64 h1 h2)
  · exact .of_right (intBits_le_64 h1 h2)
theorem op_add : OpR X (binaryOp .Add) (rI0 fun i j => .int (i + j)) := opI0 fun _ _ _ _ _ _ _ q => add_int q
theorem op_sub : OpR X (binaryOp .Sub) (rI0 fun i j => .int (i - j)) := opI0 fun _ _ _ _ _ _ _ q => sub_int q
theorem op_mul : OpR X (binaryOp .Mult) (rI CMul fun i j => .int (i * j)) := opI fun _ _ _ _ _ _ _ hc q => mul_int q hc.ok
/-- // by a positive divisor -/
theorem op_fdiv : OpR X (binaryOp .FloorDiv) (rI CDiv fun i j => .int (i / j)) := opI fun i j _ _ _ _ _ hc q => by
  have h1 : (0 : Int) < j := hc.1
  have h2 : j < 1073741824 := hc.2
  exact floordiv_int (by omega) (by rw [Int.fdiv_eq_ediv_of_nonneg i (by omega)]; exact q) (.inl (PyProof.noPylong_small (by omega)))
/-- % by a positive divisor of any size -/
theorem op_mod : OpR X (binaryOp .Mod) (rI (fun _ j => 0 < j) fun i j => .int (i % j)) := opI fun i j _ _ _ _ _ hc q => by
  have h1 : (0 : Int) < j := hc
  exact mod_int' (by omega) (by rw [Int.fmod_eq_emod_of_nonneg i (by omega)]; exact q)
theorem op_pow : OpR X (binaryOp .Pow) (rI CPow fun i j => .int (i ^ j.toNat)) := opI fun _ _ _ _ _ _ _ hc q => pow_int_small hc.1 hc.2.1 hc.2.2 q
theorem unI {f : Value → Sem Value} {g : Int → Int}
    (rule : ∀ (i : Int) (t : Tok) (s : Shared) (Q : Value → Shared → Prop) (E : Value → Shared → Prop), Q (.int (g i) s.toks) { s with toks := s.toks + 1 } → wpAny (model X.prog X.w) X.A (f (.int i t)) Q E s) :
    UnR X f (rU fun i => .int (g i)) := by
  intro pins s σ H x v Q I rx h
  obtain ⟨i, rfl, q⟩ := h
  obtain ⟨t, rfl⟩ := rx
  exact rule i t s _ _ ⟨.int (g i), H, I.tok _, ⟨_, rfl⟩, q⟩
theorem un_neg : UnR X (unaryOp .USub) (rU fun i => .int (-i)) := unI fun _ _ _ _ _ q => neg_int q
/-! ### bools among ints: n += (a < b) -/
end

/-! ### comparisons -/
/-- the scalars that == tells apart as data does -/
def scal : V → V → Bool
  | .non, .non => true | .non, .int _ => true | .int _, .non => true | .non, .bl _ => true | .bl _, .non => true | .non, .str _ => true | .str _, .non => true
  | .int _, .int _ => true | .bl _, .bl _ => true | .str _, .str _ => true | .byt _, .byt _ => true
  | .int _, .str _ => true | .str _, .int _ => true | .bl _, .str _ => true | .str _, .bl _ => true
  | _, _ => false
def rEq : R2 := fun x y H Q => scal x y = true ∧ Q (.bl (decide (x = y))) H
def rNe : R2 := fun x y H Q => scal x y = true ∧ Q (.bl (!decide (x = y))) H

theorem dec_int {i j : Int} : decide (V.int i = V.int j) = (i == j) := by
  rw [Bool.eq_iff_iff]
  simp
theorem dec_bl {i j : Bool} : decide (V.bl i = V.bl j) = (i == j) := by
  rw [Bool.eq_iff_iff]
  simp
theorem dec_str {i j : Str} : decide (V.str i = V.str j) = (i == j) := by
  rw [Bool.eq_iff_iff]
  simp
theorem dec_byt {i j : Array UInt8} : decide (V.byt i = V.byt j) = (i.toList == j.toList) := by
  rw [Bool.eq_iff_iff]
  cases i
  cases j
  simp

section
variable {X : Cx} {a b c : Expr} {ta tb tc : TE} {pos : Pos}
theorem fin_bl {pins : List (Addr × Obj)} {σ : St} {H : Hp} {s : Shared} {Q : VK} {k k' : Bool} (I : Inv X pins σ H s) (q : Q (.bl k) H) (e : k = k') : EP X pins σ Q (.bool k') s := by
  subst e
  exact ⟨.bl k, H, I, rfl, q⟩
theorem op_eq : OpR X (compareOp .Eq) rEq := by
  intro pins s σ H x y v u Q I rx ry h
  obtain ⟨hs, q⟩ := h
  cases x with
  | non =>
    cases rx
    cases y with
    | non => cases ry; exact PySem.EqNone.eq_none_none (fin_bl I q (by simp))
    | bl j => cases ry; exact PySem.EqNone.eq_none_bool (fin_bl I q (by simp))
    | int j => obtain ⟨t', rfl⟩ := ry; exact PySem.EqNone.eq_none_int (fin_bl I q (by simp))
    | str j => obtain ⟨t', rfl⟩ := ry; exact PySem.EqNone.eq_none_str (fin_bl I q (by simp))
    | _ => exact absurd (show false = true from hs) Bool.false_ne_true
  | bl i =>
    cases rx
    cases y with
    | non => cases ry; exact PySem.EqNone.eq_bool_none (fin_bl I q (by simp))
    | bl j => cases ry; exact eq_bool (fin_bl I q dec_bl)
    | str j => obtain ⟨t', rfl⟩ := ry; exact PySem.EqMixed.eq_bool_str (fin_bl I q (by simp))
    | _ => exact absurd (show false = true from hs) Bool.false_ne_true
  | int i =>
    obtain ⟨t, rfl⟩ := rx
    cases y with
    | non => cases ry; exact PySem.EqNone.eq_int_none (fin_bl I q (by simp))
    | int j => obtain ⟨t', rfl⟩ := ry; exact eq_int (fin_bl I q dec_int)
    | str j => obtain ⟨t', rfl⟩ := ry; exact PySem.EqMixed.eq_int_str (fin_bl I q (by simp))
    | _ => exact absurd (show false = true from hs) Bool.false_ne_true
  | str i =>
    obtain ⟨t, rfl⟩ := rx
    cases y with
    | non => cases ry; exact PySem.EqNone.eq_str_none (fin_bl I q (by simp))
    | bl j => cases ry; exact PySem.EqMixed.eq_str_bool (fin_bl I q (by simp))
    | int j => obtain ⟨t', rfl⟩ := ry; exact PySem.EqMixed.eq_str_int (fin_bl I q (by simp))
    | str j => obtain ⟨t', rfl⟩ := ry; exact eq_str (fin_bl I q dec_str)
    | _ => exact absurd (show false = true from hs) Bool.false_ne_true
  | byt i =>
    obtain ⟨t, rfl⟩ := rx
    cases y with
    | byt j => obtain ⟨t', rfl⟩ := ry; exact PySem.W.eq_bytes (fin_bl I q dec_byt)
    | _ => exact absurd (show false = true from hs) Bool.false_ne_true
  | _ => cases y <;> exact absurd (show false = true from hs) Bool.false_ne_true
theorem op_ne : OpR X (compareOp .NotEq) rNe := by
  intro pins s σ H x y v u Q I rx ry h
  obtain ⟨hs, q⟩ := h
  cases x with
  | non =>
    cases rx
    cases y with
    | non => cases ry; exact PySem.EqNone.ne_none_none (fin_bl I q (by simp))
    | bl j => cases ry; exact PySem.EqNone.ne_none_bool (fin_bl I q (by simp))
    | int j => obtain ⟨t', rfl⟩ := ry; exact PySem.EqNone.ne_none_int (fin_bl I q (by simp))
    | str j => obtain ⟨t', rfl⟩ := ry; exact PySem.EqNone.ne_none_str (fin_bl I q (by simp))
    | _ => exact absurd (show false = true from hs) Bool.false_ne_true
  | bl i =>
    cases rx
    cases y with
    | non => cases ry; exact PySem.EqNone.ne_bool_none (fin_bl I q (by simp))
    | bl j => cases ry; exact ne_bool (fin_bl I q (congrArg not dec_bl))
    | str j => obtain ⟨t', rfl⟩ := ry; exact PySem.EqMixed.ne_bool_str (fin_bl I q (by simp))
    | _ => exact absurd (show false = true from hs) Bool.false_ne_true
  | int i =>
    obtain ⟨t, rfl⟩ := rx
    cases y with
    | non => cases ry; exact PySem.EqNone.ne_int_none (fin_bl I q (by simp))
    | int j => obtain ⟨t', rfl⟩ := ry; exact ne_int (fin_bl I q (congrArg not dec_int))
    | str j => obtain ⟨t', rfl⟩ := ry; exact PySem.EqMixed.ne_int_str (fin_bl I q (by simp))
    | _ => exact absurd (show false = true from hs) Bool.false_ne_true
  | str i =>
    obtain ⟨t, rfl⟩ := rx
    cases y with
    | non => cases ry; exact PySem.EqNone.ne_str_none (fin_bl I q (by simp))
    | bl j => cases ry; exact PySem.EqMixed.ne_str_bool (fin_bl I q (by simp))
    | int j => obtain ⟨t', rfl⟩ := ry; exact PySem.EqMixed.ne_str_int (fin_bl I q (by simp))
    | str j => obtain ⟨t', rfl⟩ := ry; exact ne_str (fin_bl I q (congrArg not dec_str))
    | _ => exact absurd (show false = true from hs) Bool.false_ne_true
  | byt i =>
    obtain ⟨t, rfl⟩ := rx
    cases y with
    | byt j => obtain ⟨t', rfl⟩ := ry; exact PySem.W.ne_bytes (fin_bl I q (congrArg not dec_byt))
    | _ => exact absurd (show false = true from hs) Bool.false_ne_true
  | _ => cases y <;> exact absurd (show false = true from hs) Bool.false_ne_true

theorem op_gt : OpR X (compareOp .Gt) (rI0 fun i j => .bl (decide (j < i))) := opB0 fun _ _ _ _ _ _ _ q => gt_int q
/-- is, is not of two objects that are tracked lists or instances -/
def isObj : HO → Bool
  | .lst _ => true
  | .ins _ _ _ => true
  | _ => false
/-- two rules for one operation: by cases -/
theorem OpR.or {f : Value → Value → Sem Value} {r r' : R2} (h : OpR X f r) (h' : OpR X f r') : OpR X f (fun x y H Q => r x y H Q ∨ r' x y H Q) := by
  intro pins s σ H x y v u Q I rx ry q
  rcases q with q | q
  · exact h pins s σ H x y v u Q I rx ry q
  · exact h' pins s σ H x y v u Q I rx ry q

theorem nomark (b : Expr) {op : CmpOp} (h : op ≠ .In := by decide) (h2 : op ≠ .NotIn := by decide) : behindInMarks op b = false := by
  have e1 : (op == CmpOp.In) = false := by cases op <;> first | rfl | exact absurd rfl h
  have e2 : (op == CmpOp.NotIn) = false := by cases op <;> first | rfl | exact absurd rfl h2
  cases b <;> simp [behindInMarks, e1, e2]
/-- a comparison as a value; hm: nomark b, or (for in, not in) by with_unfolding_all rfl -/
theorem pe_cmpR {op : CmpOp} {r : R2} (ho : OpR X (compareOp op) r) (ha : PE X a ta) (hb : PE X b tb) (hm : behindInMarks op b = false) : PE X (.Compare a [op] [b] pos) (tOp r ta tb) := by
  intro pins s σ H Q I h
  exact wpAny_Compare1 (binT ha hb I h fun v u s2 x y H2 I2 rx ry q => ho pins s2 σ H2 x y v u Q I2 rx ry q) hm
/-- a reading of a value as a test -/
def tTest (t : TE) : TT := fun σ H Q => t σ H fun x H' => ∃ k, x = .bl k ∧ Q k H'
theorem pt_cmpR {op : CmpOp} {r : R2} (ho : OpR X (compareOp op) r) (ha : PE X a ta) (hb : PE X b tb) (hm : behindInMarks op b = false) : PT X (.Compare a [op] [b] pos) (tTest (tOp r ta tb)) := by
  intro pins s σ H Q I h
  refine wpAny_isTrue_Compare1 (thn (ha pins s σ H _ I h) fun v s1 ⟨x, H1, I1, r1, q1⟩ => thn (hb pins s1 σ H1 _ I1 q1) fun u s2 ⟨y, H2, I2, r2, q2⟩ =>
    thn (ho pins s2 σ H2 x y v u _ I2 r1 r2 q2) fun c s3 ⟨z, H3, I3, r3, k, e, q3⟩ => ?_) hm
  subst e
  cases r3
  exact wpAny_truthy_bool ⟨H3, I3, q3⟩
/-- a op1 b op2 c -/
def tChain (r r' : R2) (ta tb tc : TE) : TE := fun σ H Q => ta σ H fun x H1 => tb σ H1 fun y H2 => r x y H2 fun z H3 => ∃ k, z = .bl k ∧
  (if k = true then tc σ H3 fun w' H4 => r' y w' H4 Q else Q (.bl false) H3)
/-! ### truth -/
/-- a value's truth by the abstract heap -/
def TruV (K : PySem.W.Frag) (x : V) (H : Hp) (k : Bool) : Prop :=
  match x with
  | .non => k = false
  | .bl b => k = b
  | .int i => k = (i != 0)
  | .str y => y.length ≤ sizeLine ∧ k = ((y.length : Int) != 0)
  | .byt y => y.size ≤ sizeLine ∧ k = ((y.size : Int) != 0)
  | .ref p => (∃ xs, SqL K H p xs ∧ k = !xs.isEmpty) ∨ (∃ xs, SqT K H p xs ∧ k = !xs.isEmpty) ∨ ∃ kvs, H p = some (.dK kvs) ∧ k = !kvs.isEmpty
  | _ => False
theorem line63 : (sizeLine : Nat) < 2 ^ 63 := by rw [sizeLine_eq]; decide
/-! ### strs and bytes -/
theorem op_add_str : OpR X (binaryOp .Add) (fun x y H Q => ∃ i j, x = .str i ∧ y = .str j ∧ i.length + j.length ≤ sizeLine ∧ Q (.str (i ++ j)) H) := by
  intro pins s σ H x y v u Q I rx ry h
  obtain ⟨i, j, rfl, rfl, hz, q⟩ := h
  obtain ⟨t, rfl⟩ := rx
  obtain ⟨t', rfl⟩ := ry
  exact add_str (fun t' tk => ⟨.str (i ++ j), H, I.tok _, ⟨_, rfl⟩, q⟩) hz
def PlainIxT (b : Expr) : Prop := ∀ o i, subscripted b false o i = operate [o, i] (getItem o i)
/-! ### scalar builtins, by CallR -/
theorem vals1 {x : V} {us : List Value} (r : Vals [x] us) : ∃ u, us = [u] ∧ RelV x u := by
  cases r with
  | cons r1 r2 => cases r2; exact ⟨_, rfl, r1⟩
theorem vals2 {x y : V} {us : List Value} (r : Vals [x, y] us) : ∃ u w', us = [u, w'] ∧ RelV x u ∧ RelV y w' := by
  cases r with
  | cons r1 r2 =>
    cases r2 with
    | cons r3 r4 => cases r4; exact ⟨_, _, rfl, r1, r3⟩
theorem call_int1 : CallR X (.type "int") (fun xs H Q => (∃ i, xs = [.int i] ∧ Q (.int i) H) ∨ ∃ k, xs = [.bl k] ∧ Q (.int (if k then 1 else 0)) H) := by
  intro pins s σ H xs us Q I r h
  rcases h with ⟨i, rfl, q⟩ | ⟨k, rfl, q⟩
  · obtain ⟨u, rfl, t, rfl⟩ := vals1 r
    exact call_int_int ⟨.int i, H, I, ⟨_, rfl⟩, q⟩
  · obtain ⟨u, rfl, r1⟩ := vals1 r
    cases r1
    exact call_int_bool ⟨.int (if k then 1 else 0), H, I.tok _, ⟨_, rfl⟩, q⟩
/-- len of a str, a bytes, a list, a tuple -/
def LenV (K : PySem.W.Frag) (x : V) (H : Hp) (n : Nat) : Prop :=
  match x with
  | .str y => y.length ≤ sizeLine ∧ n = y.length
  | .byt y => y.size ≤ sizeLine ∧ n = y.size
  | .ref p => (∃ xs, SqL K H p xs ∧ n = xs.length) ∨ ∃ xs, SqT K H p xs ∧ n = xs.length
  | _ => False
end
end L2

namespace L2
open PySem PySem.Spec PyProof.Rows

/-! ### an instance, its attributes a map -/
structure ObjM (h : Heap) (x dx C : Addr) (mA : Str → Option Value) : Prop where
  obj : h.get? x = some (PySem.W.instObj C dx)
  ns : h.Ns1 dx mA
  ne : dx ≠ x

theorem lookIn_ns {h : Heap} {dx : Addr} {mA : Str → Option Value} (n : h.Ns1 dx mA) : ∃ od, h.get? dx = some od ∧ ∀ name, PySem.W.lookIn name od = some (mA name) := by
  obtain ⟨o, es, ep, ho, hd, hk, _, hm⟩ := n
  refine ⟨o, ho, fun name => ?_⟩
  have e := hm name
  unfold nsFind findBy at e
  rw [← Array.find?_toList] at e
  unfold PySem.W.lookIn
  rw [hd]
  dsimp only
  split
  · rename_i y q
    rw [q] at e
    exact congrArg some e
  · rename_i q
    rw [q] at e
    have a : es.toList.any (·.refKey) = false := by
      rw [List.any_eq_false]
      intro y hy
      obtain ⟨z, t, hkey⟩ := hk y (Array.mem_toList_iff.mp hy)
      simp [DictEntry.refKey, hkey]
    have a' : ¬ es.toList.any (·.refKey) = true := by rw [a]; exact Bool.false_ne_true
    rw [if_neg a']
    exact congrArg some e

theorem ObjM.look {h : Heap} {x dx C : Addr} {mA : Str → Option Value} (I : ObjM h x dx C mA) : ∃ od, PySem.W.InstAt h x (PySem.W.instObj C dx) C (some od) ∧ ∀ name, PySem.W.lookIn name od = some (mA name) :=
  let ⟨od, ho, hl⟩ := lookIn_ns I.ns
  ⟨od, ⟨I.obj, rfl, rfl, ho⟩, hl⟩

section
variable {prog : Program} {w : World} {A : Around} {E : Value → Shared → Prop} {s : Shared} {K : PySem.W.Frag} {x dx C f : Addr} {mA : Str → Option Value} {name : Str} {v : Value}

theorem get_map {expr : Bool} {Q : Value → Shared → Prop} (X : K.In s.heap) (I : ObjM s.heap x dx C mA) (hg : PySem.W.plainGet K C name = true) (hh : PySem.W.hasDictIn K C = true)
    (ha : PySem.W.findIn K (.ref C) name = some none) (hv : mA name = some v) (hv' : PySem.W.handedIn v = true) (h : Q v { s with toks := s.toks + 1 }) :
    wpAny (model prog w) A (getAttr (.ref x) name expr) Q E s := by
  obtain ⟨od, J, hl⟩ := I.look
  exact PySem.W.get_value X J (PySem.W.plainGet_of hg).1 (PySem.W.findObj_own hh ha rfl (by rw [hl, hv])) hv' h

theorem get_meth {pl : Sem Bool} {Q : Value × List Value → Shared → Prop} (X : K.In s.heap) (I : ObjM s.heap x dx C mA) (hg : PySem.W.plainGet K C name = true)
    (hf : PySem.W.findIn K (.ref C) name = some (some (.ref f))) (ht : PySem.W.isFn K (.ref f) = true) (hv : mA name = none) (h : Q (.ref f, [.ref x]) s) :
    wpAny (model prog w) A (getMethod (.ref x) name pl) Q E s := by
  obtain ⟨od, J, hl⟩ := I.look
  exact PySem.W.method_fn X J (PySem.W.plainGet_of hg).1 (PySem.W.plainGet_of hg).2 hf (beq_iff_eq.mp ht) (by show (PySem.W.lookIn name od).map (·.isSome) = some false; rw [hl, hv]; rfl) h

theorem set_map {ns : List Str} {Q : Unit → Shared → Prop} (X : K.In s.heap) (I : ObjM s.heap x dx C mA)
    (hs : PySem.W.findIn K (.ref C) "__setattr__" = some (some (.builtin "object.__setattr__"))) (hp : PySem.W.plainOver K C = true) (ht : PySem.W.takerIn K C name = some none) (hh : PySem.W.hasDictIn K C = true)
    (hw : PySem.Within mA ns) (hsz : ns.length ≤ sizeLine)
    (h : ∀ h', ObjM h' x dx C (fun y => if y = name then some v else mA y) → Heap.SameBut dx s.heap h' → Q () { s with heap := h', toks := s.toks + 2 }) :
    wpAny (model prog w) A (setAttr (.ref x) name v) Q E s := by
  obtain ⟨od, J, hl⟩ := I.look
  refine PySem.W.set_plain X J hs (PySem.W.osa_open (s := { s with toks := s.toks + 1 }) (r := none) X J hp ht fun b => ?_)
  obtain ⟨cd, hc, hd'⟩ := PySem.W.any_some hh
  have hx : s.heap.get? x = some ⟨.ref C, some dx, .plain, #[]⟩ := I.obj
  refine wpAny_bind (wpAny_pure (wpAny_bind (wpAny_bind (wpAny_loadPart hx (wpAny_bind (PySem.W.Looks.here (s := { s with toks := s.toks + 1 }) (PySem.W.looks_clsIn X hc) ?_))))))
  rw [hd']
  refine wpAny_pure (a := some dx) (wpAny_bind (wpAny_pure (wpAny_bind ?_)))
  refine wpAny_nsSet1 (s := { s with toks := s.toks + 1 }) I.ns fun h' hn2 hs2 => ?_
  obtain ⟨oD, esD, epD, hoD, hdD, hcD⟩ := hn2.count (PySem.Within.cons name v hw)
  refine wpAny_bind (wpAny_lookBehind hoD (by rw [hdD]; exact pastItsLine_dict (Nat.le_trans hcD (by rw [List.length_cons]; omega))) ?_)
  exact wpAny_pure (h _ ⟨(hs2.2 _ (Ne.symm I.ne)).trans I.obj, hn2, I.ne⟩ hs2)

/-- C(..): the dict at the heap's end, the instance behind it; then its __init__ -/
theorem make_map {R : Result → Shared → Prop} {vs : List Value} {kw : List (Str × Value)} (X : K.In s.heap) (hm : PySem.W.makesIn K C = true)
    (hi : PySem.W.findIn K (.ref C) "__init__" = some (some (.ref f))) (hf : PySem.W.typeIn K (.ref f) = some (.type "function"))
    (h : codeAny (model prog w) (A.under (.builtin "type.__call__" ⟨.ref C :: vs, kw⟩)) (.call (.ref f) ⟨.ref (s.heap.objs.size + 1) :: vs, kw⟩) (PySem.W.InitBack (s.heap.objs.size + 1) R)
      { s with heap := (s.heap.push PySem.W.emptyDict).push (PySem.W.instObj C s.heap.objs.size) }) :
    codeAny (model prog w) A (.call (.ref C) ⟨vs, kw⟩) R s := by
  obtain ⟨hh, g, d, t, os⟩ := s
  exact PySem.W.make_core (PySem.W.makes_of X hm) (PySem.W.looks_findIn X hi) (fun self => PySem.W.bind_fn X self hf) (.inl rfl) h
end

/-! ### the attributes as a list of pairs -/
def putF (f : Str) (v : V) : List (Str × V) → List (Str × V)
  | [] => [(f, v)]
  | (g, x) :: r => if g = f then (g, v) :: r else (g, x) :: putF f v r
theorem lookup_putF (f g : Str) (v : V) : ∀ fs : List (Str × V), (putF f v fs).lookup g = if g = f then some v else fs.lookup g
  | [] => by
    show List.lookup g [(f, v)] = _
    by_cases h : g = f
    · have hb : (g == f) = true := beq_iff_eq.mpr h
      simp only [List.lookup, hb, if_pos h]
    · have hb : (g == f) = false := beq_eq_false_iff_ne.mpr h
      simp only [List.lookup, hb, if_neg h]
  | (k, x) :: r => by
    have ih := lookup_putF f g v r
    rw [show putF f v ((k, x) :: r) = (if k = f then (k, v) :: r else (k, x) :: putF f v r) from rfl]
    by_cases hk : k = f
    · rw [if_pos hk]
      by_cases h : g = k
      · have hb : (g == k) = true := beq_iff_eq.mpr h
        simp only [List.lookup, hb, if_pos (h.trans hk)]
      · have hb : (g == k) = false := beq_eq_false_iff_ne.mpr h
        simp only [List.lookup, hb, if_neg (fun e : g = f => h (e.trans hk.symm))]
    · rw [if_neg hk]
      by_cases h : g = k
      · have hb : (g == k) = true := beq_iff_eq.mpr h
        simp only [List.lookup, hb, if_neg (fun e : g = f => hk (h.symm.trans e))]
      · have hb : (g == k) = false := beq_eq_false_iff_ne.mpr h
        simp only [List.lookup, hb]
        exact ih
theorem keys_putF (f : Str) (v : V) : ∀ fs : List (Str × V), f ∈ (putF f v fs).map (·.1) ∧ ∀ g, g ∈ fs.map (·.1) → g ∈ (putF f v fs).map (·.1)
  | [] => ⟨by simp [putF], fun g h => by simp at h⟩
  | (k, x) :: r => by
    obtain ⟨i1, i2⟩ := keys_putF f v r
    rw [show putF f v ((k, x) :: r) = (if k = f then (k, v) :: r else (k, x) :: putF f v r) from rfl]
    by_cases hk : k = f
    · rw [if_pos hk]
      subst hk
      exact ⟨by simp, fun g h => by simpa using h⟩
    · rw [if_neg hk]
      refine ⟨?_, fun g h => ?_⟩
      · rw [List.map_cons]
        exact List.mem_cons_of_mem _ i1
      · rw [List.map_cons] at h ⊢
        rcases List.mem_cons.mp h with e | e
        · exact List.mem_cons.mpr (.inl e)
        · exact List.mem_cons_of_mem _ (i2 g e)
theorem length_putF (f : Str) (v : V) : ∀ fs : List (Str × V), (putF f v fs).length ≤ fs.length + 1
  | [] => by simp [putF]
  | (k, x) :: r => by
    have ih := length_putF f v r
    rw [show putF f v ((k, x) :: r) = (if k = f then (k, v) :: r else (k, x) :: putF f v r) from rfl]
    by_cases hk : k = f
    · rw [if_pos hk, List.length_cons, List.length_cons]; omega
    · rw [if_neg hk, List.length_cons, List.length_cons]; omega

theorem RelO.some_of {v : V} {o : Option Value} (r : RelO (some v) o) : ∃ u, o = some u ∧ RelV v u := by
  cases o with
  | none => exact (show False from r).elim
  | some u => exact ⟨u, rfl, r⟩
theorem RelO.none_of {o : Option Value} (r : RelO none o) : o = none := by
  cases o with
  | none => rfl
  | some u => exact (show False from r).elim
theorem handed_of {v : V} {u : Value} (r : RelV v u) : PySem.W.handedIn u = true := by
  cases v with
  | non => cases (show u = Value.none from r); rfl
  | bl b => cases (show u = Value.bool b from r); rfl
  | int i => obtain ⟨t, e⟩ := (show ∃ t, u = Value.int i t from r); cases e; rfl
  | str x => obtain ⟨t, e⟩ := (show ∃ t, u = Value.str x t from r); cases e; rfl
  | byt b => obtain ⟨t, e⟩ := (show ∃ t, u = Value.bytes b t from r); cases e; rfl
  | flt b => obtain ⟨t, e⟩ := (show ∃ t, u = Value.float b t from r); cases e; rfl
  | ref a => cases (show u = Value.ref a from r); rfl
  | ty n => cases (show u = Value.type n from r); rfl

section
variable {P : Program} {w : World} {H H' : Hp} {h h' : Heap} {a C dx : Addr} {fs fs' : List (Str × V)}
theorem ins_get (hok : HOk P w H h) (e : H a = some (.ins C dx fs)) : ∃ mA, ObjM h a dx C mA ∧ (∀ f, RelO (fs.lookup f) (mA f)) ∧ PySem.Within mA (fs.map (·.1)) ∧ fs.length ≤ 1000 ∧ H dx = some (.own a) := by
  obtain ⟨d, z, ne, ob, mA, n, r, q⟩ := (show ObjOk P w H h a (.ins C dx fs) from hok a _ e)
  exact ⟨mA, ⟨ob, n, ne⟩, r, q, z, d⟩
end

/-! ### what of the text a class must have -/
structure Cls (K : PySem.W.Frag) (C : Addr) : Prop where
  pg : PySem.W.plainGet K C Str.empty = true
  hd : PySem.W.hasDictIn K C = true
  po : PySem.W.plainOver K C = true
  sa : PySem.W.findIn K (.ref C) "__setattr__" = some (some (.builtin "object.__setattr__"))
theorem Cls.get {K : PySem.W.Frag} {C : Addr} (c : Cls K C) (f : Str) : PySem.W.plainGet K C f = true := c.pg
/-- no class of it has the name -/
def NoAttr (K : PySem.W.Frag) (C : Addr) (f : Str) : Prop := PySem.W.findIn K (.ref C) f = some none
theorem NoAttr.taker {K : PySem.W.Frag} {C : Addr} {f : Str} (n : NoAttr K C f) : PySem.W.takerIn K C f = some none := by
  unfold PySem.W.takerIn
  rw [show PySem.W.findIn K (.ref C) f = some none from n]
  rfl
/-- a constant of the class -/
structure Con (K : PySem.W.Frag) (C : Addr) (f : Str) (v : V) (u : Value) : Prop where
  at_ : PySem.W.findIn K (.ref C) f = some (some u)
  rel : RelV v u
  get : PySem.W.specialIn K u "__get__" = some none
  cp : PySem.W.copiedNames.contains f = false
/-- a method: a plain def of the class or of one above it -/
structure Meth (K : PySem.W.Frag) (C : Addr) (m : Str) (f : Addr) : Prop where
  at_ : PySem.W.findIn K (.ref C) m = some (some (.ref f))
  fn : PySem.W.isFn K (.ref f) = true
  kp : PySem.W.keepIn K (.ref f) = true

section
variable {X : Cx} {pins : List (Addr × Obj)} {σ : St} {H : Hp} {s : Shared} {a C dx : Addr} {fs : List (Str × V)} {f : Str} {v : V} {A : Around} {E : Value → Shared → Prop}

theorem getattr_ok {b : Bool} {Q : Value → Shared → Prop} (I : Inv X pins σ H s) (e : H a = some (.ins C dx fs)) (c : Cls X.K C) (n : NoAttr X.K C f) (l : fs.lookup f = some v)
    (h : ∀ u s', Inv X pins σ H s' → RelV v u → Q u s') : wpAny (model X.prog X.w) A (getAttr (.ref a) f b) Q E s := by
  obtain ⟨mA, O, r, _, _, _⟩ := ins_get I.hok e
  obtain ⟨u, hu, ru⟩ := RelO.some_of (v := v) (o := mA f) (by rw [← l]; exact r f)
  exact get_map I.kIn O (c.get f) c.hd n hu (handed_of ru) (h u _ (I.tok _) ru)

theorem getmeth_ok {m : Str} {g : Addr} {pl : Sem Bool} {Q : Value × List Value → Shared → Prop} (I : Inv X pins σ H s) (e : H a = some (.ins C dx fs)) (c : Cls X.K C) (k : Meth X.K C m g) (l : fs.lookup m = none)
    (h : Q (.ref g, [.ref a]) s) : wpAny (model X.prog X.w) A (getMethod (.ref a) m pl) Q E s := by
  obtain ⟨mA, O, r, _, _, _⟩ := ins_get I.hok e
  have hn : mA m = none := RelO.none_of (by rw [← l]; exact r m)
  exact get_meth I.kIn O (c.get m) k.at_ k.fn hn h

theorem setattr_ok {y : V} {u : Value} {Q : Unit → Shared → Prop} (I : Inv X pins σ H s) (e : H a = some (.ins C dx fs)) (c : Cls X.K C) (n : NoAttr X.K C f) (hl : fs.length < 1000) (ry : RelV y u)
    (h : ∀ s', Inv X pins σ (upd H a (.ins C dx (putF f y fs))) s' → Q () s') : wpAny (model X.prog X.w) A (setAttr (.ref a) f u) Q E s := by
  obtain ⟨mA, O, r, wi, _, ho⟩ := ins_get I.hok e
  have hz : (fs.map (·.1)).length ≤ sizeLine := by rw [List.length_map, sizeLine_eq]; omega
  refine set_map I.kIn O c.sa c.po n.taker c.hd wi hz fun h' O' sb => h _ ?_
  have hd : ∃ o, h'.get? dx = some o := let ⟨o, _, _, e', _⟩ := O'.ns; ⟨o, e'⟩
  refine I.write (x := a) (e := dx) (by rw [e]; exact True.intro) (.inr ho) (fun b q hb z => (sb.2 b hb).trans z) hd ?_
  refine ⟨by rw [upd_ne O.ne]; exact ho, ?_, O.ne, O'.obj, _, O'.ns, fun g => ?_, fun g hg => ?_⟩
  · have := length_putF f y fs; omega
  · show RelO ((putF f y fs).lookup g) (if g = f then some u else mA g)
    rw [lookup_putF]
    by_cases q : g = f
    · rw [if_pos q, if_pos q]; exact ry
    · rw [if_neg q, if_neg q]; exact r g
  · by_cases q : g = f
    · rw [q]; exact (keys_putF f y fs).1
    · refine (keys_putF f y fs).2 g (wi g fun z => hg ?_)
      show (if g = f then some u else mA g) = none
      rw [if_neg q]; exact z

/-- a new instance, tracked, without attributes -/
theorem Inv.made (I : Inv X pins σ H s) : Inv X pins σ (upd (upd H s.heap.objs.size (.own (s.heap.objs.size + 1))) (s.heap.objs.size + 1) (.ins C s.heap.objs.size []))
    { s with heap := (s.heap.push PySem.W.emptyDict).push (PySem.W.instObj C s.heap.objs.size) } := by
  have e1 : (s.heap.push PySem.W.emptyDict).get? s.heap.objs.size = some PySem.W.emptyDict := Heap.get?_push_size s.heap rfl
  have e2 : ((s.heap.push PySem.W.emptyDict).push (PySem.W.instObj C s.heap.objs.size)).get? (s.heap.objs.size + 1) = some (PySem.W.instObj C s.heap.objs.size) := by
    have := Heap.get?_push_size (s.heap.push PySem.W.emptyDict) (o := PySem.W.instObj C s.heap.objs.size) rfl
    rwa [Heap.size_push] at this
  have e3 : (s.heap.push PySem.W.emptyDict).Ns s.heap.objs.size (fun _ => none) := ⟨PySem.W.emptyDict, #[], _, e1, rfl, (fun e he => absurd he (by simp)), fun _ => rfl⟩
  have I1 := I.laid (a := s.heap.objs.size) (o := .own (s.heap.objs.size + 1)) (h' := s.heap.push PySem.W.emptyDict) (t' := s.toks) (fun b u q => Heap.get?_push_of_some _ q) (Nat.le_refl _) ⟨_, e1⟩
  refine I1.laid (a := s.heap.objs.size + 1) (o := .ins C s.heap.objs.size []) (t' := s.toks) (fun b u q => Heap.get?_push_of_some _ q) (Nat.le_of_eq (Heap.size_push _ _)) ?_
  have ne : s.heap.objs.size ≠ s.heap.objs.size + 1 := Nat.ne_of_lt (Nat.lt_succ_self _)
  refine ⟨by rw [upd_ne ne, upd_same], Nat.zero_le _, ne, e2, fun _ => none, (Heap.Ns1.of_empty e3).at fun o q => Heap.get?_push_of_some _ q, fun _ => True.intro, fun y hy => absurd rfl hy⟩

/-- e.f where nothing but the object is asked: through attributeBase (super) and the last hold -/
theorem attr_of {prog : Program} {w : World} {env : Env} {e : Expr} {f : Str} {pos : Pos} {s : Shared} {Q : Value → Shared → Prop} (hb : attributeBase e f env (eval e env) = eval e env)
    (h : wpAny (model prog w) A (eval e env) (fun o s₁ => wpAny (model prog w) A (getAttr o f true) Q E s₁) E s) : wpAny (model prog w) A (eval (.Attribute e f pos) env) Q E s :=
  Attribute_any_ h (by rw [arm_eval_Attribute, hb])
end

/-! ### readings and rules -/
/-- e.f, an attribute of the instance -/
def tFld (K : PySem.W.Frag) (ta : TE) (f : Str) : TE := fun σ H Q => ta σ H fun x H1 => ∃ a C dx fs v, x = .ref a ∧ H1 a = some (.ins C dx fs) ∧ Cls K C ∧ NoAttr K C f ∧ fs.lookup f = some v ∧ Q v H1
/-- e.f, a constant of the class -/
def tCon (K : PySem.W.Frag) (ta : TE) (f : Str) : TE := fun σ H Q => ta σ H fun x H1 => ∃ a C dx fs v u, x = .ref a ∧ H1 a = some (.ins C dx fs) ∧ Cls K C ∧ Con K C f v u ∧ fs.lookup f = none ∧ Q v H1
/-- e.f = value -/
def sFld (K : PySem.W.Frag) (ta tv : TE) (f : Str) : TS := fun D σ H => tv σ H fun y H1 => ta σ H1 fun x H2 => ∃ a C dx fs, x = .ref a ∧ H2 a = some (.ins C dx fs) ∧ Cls K C ∧ NoAttr K C f ∧ fs.length < 1000 ∧
  D.nx σ (upd H2 a (.ins C dx (putF f y fs)))
/-- an augmented operator on two values -/
def InOp (X : Cx) (op : Operator) (rd : V → V → Hp → VK → Prop) : Prop :=
  ∀ (pins : List (Addr × Obj)) (s : Shared) (σ : St) (H : Hp) (x y : V) (u v : Value) (Q : VK), Inv X pins σ H s → RelV x u → RelV y v → rd x y H Q → wpAny (model X.prog X.w) X.A (inplaceOp op u v) (EP X pins σ Q) X.xe s
/-- e.f op= value -/
def sFldAug (K : PySem.W.Frag) (ta tv : TE) (rd : V → V → Hp → VK → Prop) (f : Str) : TS := fun D σ H => ta σ H fun x H1 => ∃ a C dx fs v, x = .ref a ∧ H1 a = some (.ins C dx fs) ∧ Cls K C ∧ NoAttr K C f ∧ fs.lookup f = some v ∧
  tv σ H1 fun y H2 => rd v y H2 fun z H3 => ∃ dx' fs', H3 a = some (.ins C dx' fs') ∧ fs'.length < 1000 ∧ D.nx σ (upd H3 a (.ins C dx' (putF f z fs')))

section
variable {X : Cx} {o e value : Expr} {f : Str} {pos pos' tpos : Pos} {ta tv : TE}
theorem pe_fld (he : PE X e ta) (hb : attributeBase e f X.env (eval e X.env) = eval e X.env) : PE X (.Attribute e f pos) (tFld X.K ta f) := by
  intro pins s σ H Q I h
  refine attr_of hb (thn (he pins s σ H _ I h) fun u s1 ⟨x, H1, I1, rx, a, C, dx, fs, v, ex, ea, c, n, l, q⟩ => ?_)
  subst ex
  obtain rfl : u = Value.ref a := rx
  exact getattr_ok I1 ea c n l fun u' s2 I2 ru => ⟨v, H1, I2, ru, q⟩
theorem ps_fld (ha : PE X o ta) (hv : PE X value tv) (hs : swapsWith value (some (.Attribute o f pos')) pos.line X.env = pure false) : PS X (.Assign [.Attribute o f pos'] value pos) (sFld X.K ta tv f) := by
  intro pins s σ H D I h
  refine plainObj_wpAny_Assign_Attribute (thn (hv pins s σ H _ I h) fun u s1 ⟨y, H1, I1, ry, q⟩ => thn (ha pins s1 σ H1 _ I1 q) fun ov s2 ⟨x, H2, I2, rx, a, C, dx, fs, ex, ea, c, n, l, q2⟩ => ?_) hs
  subst ex
  obtain rfl : ov = Value.ref a := rx
  exact setattr_ok I2 ea c n l ry fun s3 I3 => ⟨σ, _, I3, q2⟩
def rAdd : V → V → Hp → VK → Prop := fun x y H Q => ∃ i j, x = .int i ∧ y = .int j ∧ Q (.int (i + j)) H
def rSub : V → V → Hp → VK → Prop := fun x y H Q => ∃ i j, x = .int i ∧ y = .int j ∧ Q (.int (i - j)) H
end

/-! ### isinstance -/
section
variable {X : Cx} {pins : List (Addr × Obj)} {σ : St} {H : Hp} {s : Shared} {A : Around} {E : Value → Shared → Prop} {Q : Value → Shared → Prop} {c : Value} {b : Bool}
/-- the type of a value, as the fragment's deciders take it; for an instance its class -/
inductive TyOf (K : PySem.W.Frag) (H : Hp) : V → Value → Prop where
  | non : TyOf K H .non (.type "NoneType")
  | bl (x : Bool) : TyOf K H (.bl x) (.type "bool")
  | int (i : Int) : TyOf K H (.int i) (.type "int")
  | str (x : Str) : TyOf K H (.str x) (.type "str")
  | flt (x : UInt64) : TyOf K H (.flt x) (.type "float")
  | lst {a : Addr} {xs : List V} (e : H a = some (.lst xs)) : TyOf K H (.ref a) (.type "list")
  | frz {a : Addr} {o : Obj} {xs : List V} (e : H a = some (.frz o (.lst xs))) : TyOf K H (.ref a) (.type "list")
  | tup {a : Addr} {xs : List V} (e : H a = some (.tup xs)) : TyOf K H (.ref a) (.type "tuple")
  | dK {a : Addr} {kvs : List (Key × V)} (e : H a = some (.dK kvs)) : TyOf K H (.ref a) (.type "dict")
  | dT {a : Addr} {kvs : List (List Key × V)} (e : H a = some (.dT kvs)) : TyOf K H (.ref a) (.type "dict")
  | ins {a C dx : Addr} {fs : List (Str × V)} (e : H a = some (.ins C dx fs)) (cl : Cls K C) (ha : PySem.W.findIn K (.ref C) "__class__" = some (some (.builtin "object.__class__")))
      (hn : PySem.W.specialIn K (.builtin "object.__class__") "__get__" = some (some (.builtin "getset_descriptor.__get__"))) (htk : PySem.W.takesIn K (.builtin "object.__class__") = some true)
      (hm : PySem.W.mroIn K C (.type "object") = some true) : TyOf K H (.ref a) (.ref C)
/-- isinstance(x, c) for one class c, a built-in or an own one: kitOne's answer -/
theorem isinst_ok {x : V} {u t : Value} (I : Inv X pins σ H s) (rx : RelV x u) (ty : TyOf X.K H x t) (e : PySem.W.kitOne X.K t c = some b) (h : ∀ tk, Q (.bool b) { s with toks := tk }) :
    wpAny (model X.prog X.w) A (call (.builtin "isinstance") [u, c]) Q E s := by
  cases ty with
  | non => cases (show u = Value.none from rx); exact PySem.W.kia_one PySem.W.kitx_none I.kIn True.intro e (fun z => nomatch z) h
  | bl y => cases (show u = Value.bool y from rx); exact PySem.W.kia_one PySem.W.kitx_bool I.kIn True.intro e (fun z => nomatch z) h
  | int i => obtain ⟨t, q⟩ := (show ∃ t, u = Value.int i t from rx); cases q; exact PySem.W.kia_one PySem.W.kitx_int I.kIn True.intro e (fun z => nomatch z) h
  | str y => obtain ⟨t, q⟩ := (show ∃ t, u = Value.str y t from rx); cases q; exact PySem.W.kia_one PySem.W.kitx_str I.kIn True.intro e (fun z => nomatch z) h
  | flt y => obtain ⟨t, q⟩ := (show ∃ t, u = Value.float y t from rx); cases q; exact PySem.W.kia_one PySem.W.kitx_float I.kIn True.intro e (fun z => nomatch z) h
  | @lst a xs ea =>
    cases (show u = Value.ref a from rx)
    obtain ⟨_, _, n, _, h1⟩ := (show ObjOk X.prog X.w H s.heap a (.lst xs) from I.hok a _ ea)
    exact PySem.W.kia_one PySem.W.kitx_list I.kIn ⟨_, h1, rfl⟩ e (fun z => nomatch z) h
  | @frz a ob xs ea =>
    cases (show u = Value.ref a from rx)
    obtain ⟨_, _, _, n, _, h1⟩ := (show ObjOk X.prog X.w H s.heap a (.frz ob (.lst xs)) from I.hok a _ ea)
    exact PySem.W.kia_one PySem.W.kitx_list I.kIn ⟨_, h1, rfl⟩ e (fun z => nomatch z) h
  | @tup a xs ea =>
    cases (show u = Value.ref a from rx)
    obtain ⟨_, _, _, p⟩ := (show ObjOk X.prog X.w H s.heap a (.tup xs) from I.hok a _ ea)
    obtain ⟨o, h1, h2, _⟩ := p
    exact PySem.W.kia_one PySem.W.kitx_tuple I.kIn ⟨o, h1, h2⟩ e (fun z => nomatch z) h
  | @dK a kvs ea =>
    cases (show u = Value.ref a from rx)
    obtain ⟨_, _, vs, _, p⟩ := (show ObjOk X.prog X.w H s.heap a (.dK kvs) from I.hok a _ ea)
    obtain ⟨o, es, ep, h1, h2, _⟩ := p
    exact PySem.W.kia_one PySem.W.kitx_dict I.kIn ⟨o, h1, h2.1⟩ e (fun z => nomatch z) h
  | @dT a kvs ea =>
    cases (show u = Value.ref a from rx)
    obtain ⟨_, _, xs, _, o, es, ep, h1, h2, _⟩ := (show ObjOk X.prog X.w H s.heap a (.dT kvs) from I.hok a _ ea)
    exact PySem.W.kia_one PySem.W.kitx_dict I.kIn ⟨o, h1, h2.1⟩ e (fun z => nomatch z) h
  | @ins a C dx fs ea cl ha hn htk hm =>
    cases (show u = Value.ref a from rx)
    obtain ⟨mA, O, _⟩ := ins_get I.hok ea
    obtain ⟨od, J, _⟩ := O.look
    exact PySem.W.kia_one (PySem.W.kitx_own (cl.get _) cl.hd ha hn htk hm) I.kIn J e (fun z => nomatch z) h
end
end L2

namespace L2
open PySem PySem.Spec PyProof.Rows

/-! ### room -/
structure Room (k : Nat) (A : Around) : Prop where
  hd : A.handled = none
  dp : A.depth + 3 * k + 5 < recursionLimit
  un : A.units + 16 * k + 200 < cLine
theorem Room.mono {j k : Nat} {A : Around} (r : Room k A) (h : j ≤ k) : Room j A := ⟨r.hd, by have := r.dp; omega, by have := r.un; omega⟩
theorem Room.deeper {k : Nat} {A : Around} (r : Room (k + 1) A) (env : Env) : Room k (A.deeper env) :=
  ⟨r.hd, by have := r.dp; show A.depth + 1 + 3 * k + 5 < _; omega, by have := r.un; show A.units + 3 + 16 * k + 200 < _; omega⟩
theorem Room.in1 {k : Nat} {A : Around} (r : Room (k + 1) A) : Room k A.in1 :=
  ⟨r.hd, by have := r.dp; show A.depth + 3 * k + 5 < _; omega, by have := r.un; show A.units + 1 + 16 * k + 200 < _; omega⟩
theorem make_depth {A : Around} {C : Addr} {us : List Value} {kw : List (Str × Value)} : (A.under (.builtin "type.__call__" ⟨.ref C :: us, kw⟩)).depth = A.depth + 1 := by
  first | rfl | simp [Around.under, Code.weight, Code.isCreation, Code.isGuard, Code.isCaller, Code.frames, Code.isFrame, guardIds]
theorem make_units {A : Around} {C : Addr} {us : List Value} {kw : List (Str × Value)} : (A.under (.builtin "type.__call__" ⟨.ref C :: us, kw⟩)).units = A.units + 1 := by
  first | rfl | simp [Around.under, Code.cUnits, Code.frames, Code.isFrame]
theorem Room.make {k : Nat} {A : Around} (r : Room (k + 1) A) (C : Addr) (us : List Value) (kw : List (Str × Value)) : Room k (A.under (.builtin "type.__call__" ⟨.ref C :: us, kw⟩)) :=
  ⟨r.hd, by have := r.dp; rw [make_depth]; omega, by have := r.un; rw [make_units]; omega⟩
theorem Room.depth {k : Nat} {A : Around} (r : Room k A) : A.depth < recursionLimit := by have := r.dp; omega
theorem Room.units {k : Nat} {A : Around} (r : Room k A) : A.units + 64 < cLine := by have := r.un; omega
/-! ### argument lists and displays -/
def tNil : TA := fun _ H Q => Q [] H
def tCons (ta : TE) (tr : TA) : TA := fun σ H Q => ta σ H fun x H1 => tr σ H1 fun xs H2 => Q (x :: xs) H2
section
variable {X : Cx} {e : Expr} {es : List Expr} {te : TE} {t : TA} {pos : Pos}
theorem pa_nil : PA X [] tNil := fun _ _ _ _ H Q I h => Calls.spliced_nil ⟨[], H, I, .nil, h⟩
theorem pa_cons (ha : PE X e te) (hr : PA X es t) (hs : starEach (e :: es) X.env = (false, eval e X.env) :: starEach es X.env := by rfl) : PA X (e :: es) (tCons te t) := by
  intro pos pins s σ H Q I h
  rw [hs]
  show wpAny _ _ (spliced ((false, eval e X.env) :: backTo pos (starEach es X.env))) _ _ s
  refine Calls.spliced_cons (thn (ha pins s σ H _ I h) fun u s1 ⟨x, H1, I1, r1, q1⟩ => ?_)
  exact thn (hr pos pins s1 σ H1 _ I1 q1) fun us s2 ⟨xs, H2, I2, r2, q2⟩ => ⟨x :: xs, H2, I2, .cons r1 r2, q2⟩

/-- a tuple, a list of written items -/
def tTup (t : TA) : TE := fun σ H Q => t σ H fun xs H1 => xs.length ≤ sizeLine ∧ ∀ p, H1 p = none → Q (.ref p) (upd H1 p (.tup xs))
def tLst (t : TA) : TE := fun σ H Q => t σ H fun xs H1 => xs.length ≤ sizeLine ∧ ∀ p, H1 p = none → Q (.ref p) (upd H1 p (.lst xs))
theorem pe_tup {x1} (h : PA X es t) : PE X (.Tuple es x1 pos) (tTup t) := by
  intro pins s σ H Q I hq
  refine wpAny_Tuple_spliced (thn (h pos pins s σ H _ I hq) fun us s1 ⟨xs, H1, I1, r, z, q⟩ => ⟨by rw [← r.length]; exact z, ?_⟩)
  have hf : H1 s1.heap.objs.size = none := I1.hok.fresh (Nat.le_refl _)
  refine ⟨.ref s1.heap.objs.size, upd H1 s1.heap.objs.size (.tup xs), I1.laid (t' := s1.toks) (fun b u e => Heap.get?_push_of_some _ e) (Nat.le_refl _) ?_, rfl, q _ hf⟩
  exact ⟨z, us, r, ⟨_, Heap.get?_push_size _ rfl, rfl, _, rfl⟩⟩
theorem pe_lst (h : PA X es t) : PE X (.List es pos) (tLst t) := by
  intro pins s σ H Q I hq
  refine wpAny_List_spliced (thn (h pos pins s σ H _ I hq) fun us s1 ⟨xs, H1, I1, r, z, q⟩ => ⟨by rw [← r.length]; exact z, ?_⟩)
  have hf : H1 s1.heap.objs.size = none := I1.hok.fresh (Nat.le_refl _)
  refine ⟨.ref s1.heap.objs.size, upd H1 s1.heap.objs.size (.lst xs), I1.laid (t' := s1.toks) (fun b u e => Heap.get?_push_of_some _ e) (Nat.le_refl _) ?_, rfl, q _ hf⟩
  exact ⟨z, us, 0, r, Heap.get?_push_size _ rfl⟩
end

/-! ### what a def promises -/
/-- a def's promise: the bound arguments in the parameters' order, the heap, the wanted end, the wanted exception -/
abbrev Sp := List V → Hp → VK → XK → Prop
/-- how an exception lies behind a call (file 08 gives it): the callers' frames, abstract heap and state ahead of the call, the wish, the exception, the state -/
abbrev CXT := List Env → Hp → Shared → XK → Value → Shared → Prop

/-- the state at a call -/
structure Env0 (P : Program) (w : World) (K : PySem.W.Frag) (mg : Str → Option Value) (base : Heap) (A : Around) (outer : List Env) (s : Shared) (H : Hp) : Prop where
  frames : A.frames = some outer
  mod : Mod K mg base
  bs : ∀ b o, base.get? b = some o → s.heap.get? b = some o ∧ H b = none
  bsz : base.objs.size ≤ s.heap.objs.size
  funs : s.heap.FunFrames base outer
  frf : ∀ b ∈ frs outer, H b = none
  hok : HOk P w H s.heap
  bare : AllBare s.gens
/-- a call's end -/
def CE (outer : List Env) (P : Program) (w : World) (H : Hp) (s : Shared) (Q : VK) (u : Value) (s' : Shared) : Prop :=
  ∃ v H', s'.os = s.os ∧ AllBare s'.gens ∧ Un (frs outer) [] H H' s.heap s'.heap ∧ HOk P w H' s'.heap ∧ RelV v u ∧ Q v H'
def CR (CX : CXT) (outer : List Env) (P : Program) (w : World) (H : Hp) (s : Shared) (Q : VK) (E : XK) (r : Result) (s' : Shared) : Prop :=
  match r with
  | .ok (.ret u) => CE outer P w H s Q u s'
  | .ok _ => False
  | .error e => CX outer H s E e s'
structure FnOk (P : Program) (w : World) (K : PySem.W.Frag) (mg : Str → Option Value) (base : Heap) (CX : CXT) (k : Nat) (f : Addr) (fd : FuncData) (ps : List Str) (sp : Sp) : Prop where
  len : ∀ vs H Q E, sp vs H Q E → vs.length = ps.length
  run : ∀ (A : Around) (outer : List Env) (s : Shared) (H : Hp) (args : Args) (us : List Value) (vs : List V) (Q : VK) (E : XK), Room k A → Env0 P w K mg base A outer s H → BindsTo s fd args (ps.zip us) → Vals vs us → sp vs H Q E →
    codeAny (model P w) A (.call (.ref f) args) (CR CX outer P w H s Q E) s
theorem FnOk.mono {P : Program} {w : World} {K : PySem.W.Frag} {mg : Str → Option Value} {base : Heap} {CX : CXT} {j k : Nat} {f : Addr} {fd : FuncData} {ps : List Str} {sp : Sp} (F : FnOk P w K mg base CX j f fd ps sp) (h : j ≤ k) :
    FnOk P w K mg base CX k f fd ps sp := ⟨F.len, fun A outer s H args us vs Q E hr => F.run A outer s H args us vs Q E (hr.mono h)⟩
theorem Env0.make {P : Program} {w : World} {K : PySem.W.Frag} {mg : Str → Option Value} {base : Heap} {A : Around} {outer : List Env} {s : Shared} {H : Hp} (e : Env0 P w K mg base A outer s H) (C : Addr) (us : List Value) (kw : List (Str × Value)) :
    Env0 P w K mg base (A.under (.builtin "type.__call__" ⟨.ref C :: us, kw⟩)) outer s H := ⟨by first | exact e.frames | (simpa [Around.under, Code.envs, Code.isFrame, pushEnvs] using e.frames), e.mod, e.bs, e.bsz, e.funs, e.frf, e.hok, e.bare⟩
theorem Env0.in1 {P : Program} {w : World} {K : PySem.W.Frag} {mg : Str → Option Value} {base : Heap} {A : Around} {outer : List Env} {s : Shared} {H : Hp} (e : Env0 P w K mg base A outer s H) :
    Env0 P w K mg base A.in1 outer s H := ⟨e.frames, e.mod, e.bs, e.bsz, e.funs, e.frf, e.hok, e.bare⟩

section
variable {X : Cx} {pins : List (Addr × Obj)} {σ : St} {H : Hp} {s s' : Shared}
/-- from a body: what a callee wants -/
theorem Inv.env0 (I : Inv X pins σ H s) : Env0 X.prog X.w X.K X.mg X.base X.A X.stack s H :=
  ⟨I.ok.frames, I.ok.mod, I.bs, Nat.le_trans I.ok.bsz I.sz, I.stack, I.stkFree, I.hok, I.bare⟩
/-- behind a call -/
theorem Inv.after {Q : VK} {u : Value} (I : Inv X pins σ H s) (h : CE X.stack X.prog X.w H s Q u s') : EP X pins σ Q u s' := by
  obtain ⟨v, H', os, bare, un, hok, r, q⟩ := h
  obtain ⟨hh, g, d, t, os'⟩ := s'
  obtain rfl : os' = s.os := os
  exact ⟨v, H', I.call (h' := hh) (g' := g) (d' := d) (t' := t) (ch := []) un hok bare (fun b z => absurd z (by simp)), r, q⟩
end

/-! ### calls -/
/-- f(..): the written arguments, then the defaults dvs; E: what is wanted of an exception -/
def tCall (sp : Sp) (dvs : List V) (E : XK) (t : TA) : TE := fun σ H Q => t σ H fun vs H1 => sp (vs ++ dvs) H1 Q E
/-- o.m(..) of an instance of the class at C -/
def tMeth (C : Addr) (m : Str) (sp : Sp) (dvs : List V) (E : XK) (ta : TE) (t : TA) : TE := fun σ H Q => ta σ H fun x H1 => ∃ a dx fs, x = .ref a ∧ H1 a = some (.ins C dx fs) ∧ fs.lookup m = none ∧
  t σ H1 fun vs H2 => sp (x :: (vs ++ dvs)) H2 Q E
/-- C(..): a new instance and its dict, then __init__ -/
def tMake (C : Addr) (sp : Sp) (dvs : List V) (E : XK) (t : TA) : TE := fun σ H Q => t σ H fun vs H1 => ∀ x dx, H1 x = none → H1 dx = none → dx ≠ x →
  sp (.ref x :: (vs ++ dvs)) (upd (upd H1 dx (.own x)) x (.ins C dx [])) (fun v H2 => v = .non ∧ Q (.ref x) H2) E

/-- how the parameters are bound: us the positional arguments, kw the keywords' values by name, ds the defaults that fill up -/
def Binds (K : PySem.W.Frag) (fd : FuncData) (ps : List Str) (ds : List Value) : Prop :=
  ∀ (s : Shared) (us : List Value), K.In s.heap → (us ++ ds).length = ps.length → BindsTo s fd ⟨us, []⟩ (ps.zip (us ++ ds))
/-- every parameter is given -/
theorem Binds.all {K : PySem.W.Frag} {fd : FuncData} {ps : List Str} (h : ∀ us : List Value, us.length = ps.length → bindArgs fd ⟨us, []⟩ = pure (ps.zip us)) : Binds K fd ps [] := fun s us _ hl => by
  rw [List.append_nil] at hl ⊢
  exact .of_eq (h us hl)

/-- an exception of a callee reaches what this body wants of exceptions -/
def Passes (CX : CXT) (X : Cx) (E : XK) : Prop := ∀ (pins : List (Addr × Obj)) (σ : St) (H : Hp) (s : Shared) (e : Value) (s' : Shared), Inv X pins σ H s → CX X.stack H s E e s' → X.xe e s'

section
variable {X : Cx} {CX : CXT} {k : Nat} {f C : Addr} {fd : FuncData} {ps : List Str} {sp : Sp} {dvs : List V} {ds : List Value} {E : XK} {x m : Str} {p pos apos : Pos} {e o : Expr} {es : List Expr} {ta : TE} {t : TA}

/-- the callee runs -/
theorem run_fn {pins : List (Addr × Obj)} {σ : St} {H : Hp} {s : Shared} {Q : VK} {us : List Value} {vs : List V} (F : FnOk X.prog X.w X.K X.mg X.base CX k f fd ps sp) (hr : Room k X.A) (hb : Binds X.K fd ps ds) (hd : Vals dvs ds) (hx : Passes CX X E)
    (I : Inv X pins σ H s) (r : Vals vs us) (h : sp (vs ++ dvs) H Q E) : wpAny (model X.prog X.w) X.A (call (.ref f) us) (EP X pins σ Q) X.xe s := by
  have r2 : Vals (vs ++ dvs) (us ++ ds) := r.append hd
  have hl : (us ++ ds).length = ps.length := by rw [← r2.length]; exact F.len _ _ _ _ h
  refine wpAny_call (codeAny_mono (F.run X.A X.stack s H ⟨us, []⟩ (us ++ ds) (vs ++ dvs) Q E hr I.env0 (hb s us I.kIn hl) r2 h) fun r s' hq => ?_)
  cases r with
  | error e => exact hx pins σ H s e s' I hq
  | ok fl =>
    cases fl with
    | ret u => exact I.after hq
    | next => exact False.elim hq
    | brk => exact False.elim hq
    | cont => exact False.elim hq

theorem pe_call (F : FnOk X.prog X.w X.K X.mg X.base CX k f fd ps sp) (hr : Room k X.A) (hg : Gl X x) (hm : X.mg x = some (.ref f)) (hk : PySem.W.keepIn X.K (.ref f) = true) (hb : Binds X.K fd ps ds) (hd : Vals dvs ds) (hx : Passes CX X E)
    (ha : PA X (e :: es) t) (hdb : (x == ("__debug__" : Str)) = false := by decide) (he : starEach (e :: es) X.env = (false, eval e X.env) :: starEach es X.env := by rfl) (hpl : (backTo pos (starEach es X.env)).any (·.1) = false := by rfl) :
    PE X (.Call (.Name x p) (e :: es) [] pos) (tCall sp dvs E t) := by
  intro pins s σ H Q I h
  refine wpAny_Call_Name_kw (ld_glob I hg hm ?_ hdb)
  refine PySem.W.callWith_K (h₀ := X.base) I.ok.mod.kin hk (thn (ha pos pins s σ H _ I h) fun us s1 ⟨vs, H1, I1, r, q⟩ => ⟨I1.kIn, ?_⟩) he hpl
  exact run_fn F hr hb hd hx I1 r q
/-- o.m(e, ..) -/
theorem pe_meth {pl : Sem Bool} (he : PE X o ta) (c : Cls X.K C) (hm : Meth X.K C m f) (F : FnOk X.prog X.w X.K X.mg X.base CX k f fd ps sp) (hr : Room k X.A) (hb : Binds X.K fd ps ds) (hd : Vals dvs ds) (hx : Passes CX X E) (ha : PA X (e :: es) t)
    (hst : starEach (e :: es) X.env = (false, eval e X.env) :: starEach es X.env := by rfl) (hpl : (backTo pos (starEach es X.env)).any (·.1) = false := by rfl)
    (ht : eval (.Call (.Attribute o m apos) (e :: es) [] pos) X.env = (do
      let ov ← eval o X.env
      standAt apos.atName
      let (f, first) ← holding [ov] (getMethod ov m pl)
      callWith pos f first (backTo pos (starEach (e :: es) X.env)) (backToKw pos (keywordEach [] X.env))) := by rfl) :
    PE X (.Call (.Attribute o m apos) (e :: es) [] pos) (tMeth C m sp dvs E ta t) := by
  intro pins s σ H Q I h
  refine PySem.W.methodCall_KW (pl := pl) (thn (he pins s σ H _ I h) fun u s1 ⟨x, H1, I1, rx, a, dx, fs, ex, ea, l, q⟩ => ?_) ht
  subst ex
  obtain rfl : u = Value.ref a := rx
  refine getmeth_ok I1 ea c hm l ?_
  refine PySem.W.callWith_K (first := [.ref a]) (h₀ := X.base) I.ok.mod.kin hm.kp (thn (ha pos pins s1 σ H1 _ I1 q) fun us s2 ⟨vs, H2, I2, r, q2⟩ => ⟨I2.kIn, ?_⟩) hst hpl
  exact run_fn (us := .ref a :: us) (vs := .ref a :: vs) F hr hb hd hx I2 (.cons rfl r) q2
/-- what a class must have to be made -/
structure Mk (K : PySem.W.Frag) (C f : Addr) : Prop where
  makes : PySem.W.makesIn K C = true
  init : PySem.W.findIn K (.ref C) "__init__" = some (some (.ref f))
  fn : PySem.W.isFn K (.ref f) = true
  kp : PySem.W.keepIn K (.ref C) = true

theorem run_make {pins : List (Addr × Obj)} {σ : St} {H : Hp} {s : Shared} {Q : VK} {us : List Value} {vs : List V} (M : Mk X.K C f) (F : FnOk X.prog X.w X.K X.mg X.base CX k f fd ps sp) (hr : Room (k + 1) X.A) (hb : Binds X.K fd ps ds) (hd : Vals dvs ds)
    (hx : Passes CX X E) (I : Inv X pins σ H s) (r : Vals vs us)
    (h : ∀ x dx, H x = none → H dx = none → dx ≠ x → sp (.ref x :: (vs ++ dvs)) (upd (upd H dx (.own x)) x (.ins C dx [])) (fun v H2 => v = .non ∧ Q (.ref x) H2) E) :
    wpAny (model X.prog X.w) X.A (call (.ref C) us) (EP X pins σ Q) X.xe s := by
  have hq := h (s.heap.objs.size + 1) s.heap.objs.size (I.hok.fresh (Nat.le_succ _)) (I.hok.fresh (Nat.le_refl _)) (Nat.ne_of_lt (Nat.lt_succ_self _))
  have I2 := Inv.made (C := C) I
  have r2 : Vals (V.ref (s.heap.objs.size + 1) :: (vs ++ dvs)) (Value.ref (s.heap.objs.size + 1) :: (us ++ ds)) := .cons rfl (r.append hd)
  have hl : (Value.ref (s.heap.objs.size + 1) :: us ++ ds).length = ps.length := by
    have e := r2.length
    rw [F.len _ _ _ _ hq] at e
    exact e.symm
  refine wpAny_call (make_map (f := f) I.kIn M.makes M.init (beq_iff_eq.mp M.fn) (codeAny_mono (F.run _ X.stack _ _ ⟨Value.ref (s.heap.objs.size + 1) :: us, []⟩ (Value.ref (s.heap.objs.size + 1) :: (us ++ ds)) _ _ E (hr.make C us [])
    (I2.env0.make C us []) (hb _ (Value.ref (s.heap.objs.size + 1) :: us) I2.kIn hl) r2 hq) fun r s' hq' => ?_))
  cases r with
  | error e => exact hx pins σ _ _ e s' I2 hq'
  | ok fl =>
    cases fl with
    | ret u =>
      obtain ⟨v, H', I3, rv, ev, q3⟩ := I2.after hq'
      subst ev
      exact ⟨rv, ⟨V.ref (s.heap.objs.size + 1), H', I3, rfl, q3⟩⟩
    | next => exact False.elim hq'
    | brk => exact False.elim hq'
    | cont => exact False.elim hq'
theorem pe_make (M : Mk X.K C f) (F : FnOk X.prog X.w X.K X.mg X.base CX k f fd ps sp) (hr : Room (k + 1) X.A) (hg : Gl X x) (hm : X.mg x = some (.ref C)) (hb : Binds X.K fd ps ds) (hd : Vals dvs ds) (hx : Passes CX X E)
    (ha : PA X (e :: es) t) (hdb : (x == ("__debug__" : Str)) = false := by decide) (he : starEach (e :: es) X.env = (false, eval e X.env) :: starEach es X.env := by rfl) (hpl : (backTo pos (starEach es X.env)).any (·.1) = false := by rfl) :
    PE X (.Call (.Name x p) (e :: es) [] pos) (tMake C sp dvs E t) := by
  intro pins s σ H Q I h
  refine wpAny_Call_Name_kw (ld_glob I hg hm ?_ hdb)
  refine PySem.W.callWith_K (h₀ := X.base) I.ok.mod.kin M.kp (thn (ha pos pins s σ H _ I h) fun us s1 ⟨vs, H1, I1, r, q⟩ => ⟨I1.kIn, ?_⟩) he hpl
  exact run_make M F hr hb hd hx I1 r q
end

/-! ### keywords -/
/-- the values of the keywords, from the left -/
def PK (X : Cx) (kws : List Keyword) (t : TA) : Prop :=
  ∀ (pos : Pos) (pins : List (Addr × Obj)) (s : Shared) (σ : St) (H : Hp) (Q : List V → Hp → Prop), Inv X pins σ H s → t σ H Q → wpAny (model X.prog X.w) X.A (evalAll ((backToKw pos (keywordEach kws X.env)).map (·.2))) (AP X pins σ Q) X.xe s
section
variable {X : Cx} {CX : CXT} {k : Nat} {f C : Addr} {fd : FuncData} {ps ks : List Str} {sp : Sp} {E : XK} {x m : Str} {p pos apos kpos : Pos} {e o : Expr} {es : List Expr} {kws : List Keyword} {te ta : TE} {t tk : TA} {nm : Option Str}
/-- how a call with keywords binds: g puts the positional values us and the keywords' values ws (names ks) in the parameters' order, defaults among them -/
structure KBinds (K : PySem.W.Frag) (fd : FuncData) (ps ks : List Str) (g : List Value → List Value → List Value) (gV : List V → List V → List V) : Prop where
  to : ∀ (s : Shared) (us ws : List Value), K.In s.heap → (g us ws).length = ps.length → BindsTo s fd ⟨us, ks.zip ws⟩ (ps.zip (g us ws))
  rel : ∀ {vs : List V} {us : List Value} {zs : List V} {ws : List Value}, Vals vs us → Vals zs ws → Vals (gV vs zs) (g us ws)
def tCallK (sp : Sp) (gV : List V → List V → List V) (E : XK) (t tk : TA) : TE := fun σ H Q => t σ H fun vs H1 => tk σ H1 fun zs H2 => sp (gV vs zs) H2 Q E
variable {g : List Value → List Value → List Value} {gV : List V → List V → List V}
end

/-! ### a def's body keeps its promise -/
/-- names: the parameters first -/
structure FnScope (N P : List Str) (sc : Scope) : Prop where
  kind : sc.kind = .function
  co : sc.isCoroutine = false
  gen : sc.isGenerator = false
  nd : N.Nodup
  pre : N.take P.length = P
  par : ∀ x ∈ P, sc.names.lookup x = some .local ∨ sc.names.lookup x = some .cell
  nofree : ∀ y ∈ sc.names, y.2 ≠ .free

theorem bindL_out {kindOf : Str → Option NameKind} {x : Str} : ∀ {binds : List (Str × Value)} {m : Str → Option Value}, (∀ v, (x, v) ∉ binds) → bindL kindOf binds m x = m x
  | [], _, _ => rfl
  | (n, v) :: r, m, h => by
    unfold bindL
    rw [bindL_out fun w hw => h w (List.mem_cons_of_mem _ hw)]
    split
    · have : x ≠ n := by rintro rfl; exact h v List.mem_cons_self
      simp [this]
    · rfl
theorem bindC_out {kindOf : Str → Option NameKind} {x : Str} : ∀ {binds : List (Str × Value)} {m : Str → Option Value}, (∀ v, (x, v) ∉ binds) → bindC kindOf binds m x = m x
  | [], _, _ => rfl
  | (n, v) :: r, m, h => by
    unfold bindC
    rw [bindC_out fun w hw => h w (List.mem_cons_of_mem _ hw)]
    split
    · rfl
    · have : x ≠ n := by rintro rfl; exact h v List.mem_cons_self
      simp [this]
theorem bindL_get {kindOf : Str → Option NameKind} {x : Str} {v : Value} : ∀ {P : List Str} {vs : List Value} {i : Nat} {m : Str → Option Value}, P.Nodup → P[i]? = some x → vs[i]? = some v → kindOf x = some .local →
    bindL kindOf (P.zip vs) m x = some v
  | [], _, _, _, _, h, _, _ => by simp at h
  | _ :: _, [], _, _, _, _, h, _ => by simp at h
  | p :: P, w :: vs, 0, m, nd, h1, h2, hk => by
    simp at h1 h2; subst h1; subst h2
    show bindL kindOf ((p, w) :: P.zip vs) m p = _
    unfold bindL
    rw [bindL_out fun v hv => (List.nodup_cons.mp nd).1 (List.of_mem_zip hv).1, if_pos hk]
    simp
  | p :: P, w :: vs, i + 1, m, nd, h1, h2, hk => by
    show bindL kindOf ((p, w) :: P.zip vs) m x = _
    unfold bindL
    exact bindL_get (i := i) (List.nodup_cons.mp nd).2 (by simpa using h1) (by simpa using h2) hk
theorem bindC_get {kindOf : Str → Option NameKind} {x : Str} {v : Value} : ∀ {P : List Str} {vs : List Value} {i : Nat} {m : Str → Option Value}, P.Nodup → P[i]? = some x → vs[i]? = some v → kindOf x ≠ some .local →
    bindC kindOf (P.zip vs) m x = some v
  | [], _, _, _, _, h, _, _ => by simp at h
  | _ :: _, [], _, _, _, _, h, _ => by simp at h
  | p :: P, w :: vs, 0, m, nd, h1, h2, hk => by
    simp at h1 h2; subst h1; subst h2
    show bindC kindOf ((p, w) :: P.zip vs) m p = _
    unfold bindC
    rw [bindC_out fun v hv => (List.nodup_cons.mp nd).1 (List.of_mem_zip hv).1, if_neg hk]
    simp
  | p :: P, w :: vs, i + 1, m, nd, h1, h2, hk => by
    show bindC kindOf ((p, w) :: P.zip vs) m x = _
    unfold bindC
    exact bindC_get (i := i) (List.nodup_cons.mp nd).2 (by simpa using h1) (by simpa using h2) hk

/-- the names' values at the entry -/
def start (N : List Str) (vs : List V) : St := vs.map some ++ List.replicate (N.length - vs.length) none

/-- the context of a def's body, at its entry; an exception leaves the frame, then lies as CX says -/
def cxOf (CX : CXT) (P : Program) (w : World) (K : PySem.W.Frag) (mg : Str → Option Value) (base : Heap) (N : List Str) (qual : Str) (scope : Scope) (f : Addr) (cd : Value) (A : Around) (outer : List Env) (s : Shared) (H : Hp) (E : XK) : Cx where
  prog := P
  w := w
  K := K
  mg := mg
  base := base
  A := A.deeper (envOfC qual scope s.heap.objs.size f cd)
  N := N
  s₀ := s
  H₀ := H
  env := envOfC qual scope s.heap.objs.size f cd
  outer := outer
  stack := envOfC qual scope s.heap.objs.size f cd :: outer
  ex := []
  calm := true
  fn := fun _ => true
  pn := []
  xe := fun e s' => wpAny (model P w) (A.deeper (envOfC qual scope s.heap.objs.size f cd)) (leaving (envOfC qual scope s.heap.objs.size f cd) e) (fun _ s'' => CX outer H s E e s'') (fun e' s'' => CX outer H s E e' s'') s'

theorem cell_has {sc : Scope} {n : Nat} {x : Str} (h : sc.names.lookup x = some .cell) : ∃ c, (cellsFrom n sc.names []).lookup x = some c := by
  have q := PySem.W.cellsFrom_some sc.names n [] (.inl h)
  exact Option.isSome_iff_exists.mp q

theorem inv_start {CX : CXT} {P : Program} {w : World} {K : PySem.W.Frag} {mg : Str → Option Value} {base : Heap} {N ps : List Str} {qual : Str} {scope : Scope} {f : Addr} {cd : Value} {A : Around} {outer : List Env} {s s1 : Shared} {H : Hp} {E : XK} {us : List Value} {vs : List V}
    (S : FnScope N ps scope) (hd : A.handled = none) (e0 : Env0 P w K mg base A outer s H) (hl : vs.length = ps.length) (r : Vals vs us)
    (x : InCallC s s.heap.objs.size (bindL (envOfC qual scope s.heap.objs.size f cd).kindOf (ps.zip us) fun _ => none) (cellsFrom (s.heap.objs.size + 1) scope.names []) (bindC (envOfC qual scope s.heap.objs.size f cd).kindOf (ps.zip us) fun _ => none) s1) :
    Inv (cxOf CX P w K mg base N qual scope f cd A outer s H E) [] (start N vs) H s1 := by
  have hpl : ps.length ≤ N.length := by have := congrArg List.length S.pre; rw [List.length_take] at this; omega
  obtain ⟨h1, tk, rfl, hk⟩ := x.done
  have noA : ∀ b : Addr, b ∉ (cxOf CX P w K mg base N qual scope f cd A outer s H E).ex := fun b z => absurd (show b ∈ ([] : List Addr) from z) (by simp)
  refine ⟨⟨e0.mod, S.kind, rfl, rfl, Nat.le_refl _, fun y z c h1 h2 => ?_, fun y hy => ?_, fun y c _ h => ?_, fun _ => hd, Around.frames_deeper e0.frames, .inr ⟨rfl, rfl⟩, fun b z => absurd z (noA b), e0.bs, e0.bsz, fun b _ _ => noA b, fun b z => absurd z (noA b), e0.funs, e0.frf⟩,
    rfl, e0.bare, Un.kept hk, ⟨_, x.toInCall.ns, fun i y v h1 h2 h3 => ?_⟩, fun y c h => ⟨_, x.cell y c h⟩, e0.hok.fresh (Nat.le_refl _), fun y c h => ?_, fun p hp => absurd (show p ∈ ([] : List (Addr × Obj)) from hp) (by simp), e0.hok.kept hk, ?_⟩
  · exact name_of_addr x.apart (PySem.mem_of_lookup h1) (PySem.mem_of_lookup h2)
  · have hy : scope.names.lookup y = some .cell ∨ scope.names.lookup y = some .free := hy
    rcases hy with hy | hy
    · exact cell_has hy
    · exact absurd rfl (S.nofree _ (PySem.mem_of_lookup hy))
  · exact Nat.le_of_lt (x.above y c (PySem.mem_of_lookup h))
  · have hi : i < vs.length := by
      unfold start at h2
      by_cases hi : i < vs.length
      · exact hi
      · rw [List.getElem?_append_right (by simpa using hi)] at h2
        rw [List.getElem?_replicate] at h2
        split at h2 <;> cases h2
    have ha : vs[i]? = some v := by
      unfold start at h2
      rw [List.getElem?_append_left (by simpa using hi), List.getElem?_map] at h2
      cases e : vs[i]? with
      | none => rw [e] at h2; cases h2
      | some a => rw [e] at h2; cases h2; rfl
    obtain ⟨u, hu, rv⟩ := r.get ha
    have hp : ps[i]? = some y := by
      rw [← S.pre, List.getElem?_take_of_lt (by omega)]; exact h1
    have ndP : ps.Nodup := by rw [← S.pre]; exact S.nd.sublist (List.take_sublist _ _)
    refine ⟨u, rv, ?_⟩
    rcases S.par y (List.mem_of_getElem? hp) with k | k
    · exact .inl ⟨k, bindL_get ndP hp hu k⟩
    · obtain ⟨c, e⟩ := cell_has (n := s.heap.objs.size + 1) k
      refine .inr ⟨.inl k, c, e, ?_⟩
      have q := x.cell y c e
      rw [bindC_get ndP hp hu (by show scope.names.lookup y ≠ _; rw [k]; decide)] at q
      exact q
  · exact e0.hok.fresh (Nat.le_of_lt (x.above y c (PySem.mem_of_lookup h)))
  · unfold start
    show _ = N.length
    rw [List.length_append, List.length_map, List.length_replicate]
    omega

/-- THE RULE: a def (or a method) of the text, by its body. The body's reading t is chosen for each entry; it is run at the parameters' values -/
theorem fn_of {CX : CXT} {P : Program} {w : World} {K : PySem.W.Frag} {mg : Str → Option Value} {base : Heap} {k : Nat} {f : Addr} {name qual : Str} {params : Arguments} {body : List Stmt} {scope : Scope} {dV kV doc pm cdv ct oc : Value} {an od : Option Addr}
    {osl : Array (Option Value)} {N ps : List Str} {sp : Sp} (lk : K.lookup f = some ⟨oc, od, .func (PySem.W.fnOf name qual params body scope dV kV doc pm an cdv ct), osl⟩) (hcd : PySem.W.codeIn K cdv qual = true) (S : FnScope N ps scope)
    (len : ∀ vs H Q E, sp vs H Q E → vs.length = ps.length)
    (hbody : ∀ (A : Around) (outer : List Env) (s : Shared) (H : Hp) (vs : List V) (Q : VK) (E : XK), Room k (A.deeper (envOfC qual scope s.heap.objs.size f cdv)) → sp vs H Q E →
      ∃ t, PSs (cxOf CX P w K mg base N qual scope f cdv A outer s H E) body t ∧ t { nx := fun _ H' => Q .non H', rt := Q } (start N vs) H) :
    FnOk P w K mg base CX (k + 1) f (PySem.W.fnOf name qual params body scope dV kV doc pm an cdv ct) ps sp := by
  refine ⟨len, fun A outer s H args us vs Q E hr e0 hb r hsp => ?_⟩
  have hl := len _ _ _ _ hsp
  have KX : K.In s.heap := e0.mod.kin.keeps fun b o e => (e0.bs b o e).1
  have lim : s.heap.NoLimit := e0.mod.nolimit.keeps fun b o e => (e0.bs b o e).1
  have hkind : ∀ y ∈ ps.zip us, scope.names.lookup y.1 = some .local ∨ (scope.names.lookup y.1 = some .cell ∧ ((cellsFrom (s.heap.objs.size + 1) scope.names []).lookup y.1).isSome = true) := fun ⟨n, v⟩ hy => by
    rcases S.par n (List.of_mem_zip hy).1 with q | q
    · exact .inl q
    · exact .inr ⟨q, PySem.W.cellsFrom_some _ _ _ (.inl q)⟩
  refine codeAny_call_function hr.depth (KX _ _ lk) rfl S.co S.gen rfl (PySem.W.codeRec_of KX hcd) (hb _ _ _ _ ?_)
  refine wpAny_newFunctionEnv_cells S.kind hkind fun env he s1 x => ?_
  subst he
  refine ⟨lim.keeps x.toInCall.keep, codeAny_func ?_⟩
  obtain ⟨t, ht, hq⟩ := hbody A outer s H vs Q E (hr.deeper _) hsp
  have I : Inv (cxOf CX P w K mg base N qual scope f cdv A outer s H E) [] (start N vs) H s1 := inv_start S hr.hd e0 hl r x
  refine wpAny_mono (ht [] s1 (start N vs) H _ I hq) (fun fl s' hs => ?_) fun e s' hs => hs
  have fin : ∀ {σ' : St} {H' : Hp} {v : V} {u : Value}, Inv (cxOf CX P w K mg base N qual scope f cdv A outer s H E) [] σ' H' s' → RelV v u → Q v H' → CE outer P w H s Q u s' :=
    fun {σ' H' v u} J rv q => ⟨v, H', J.os, J.bare, J.base, J.hok, rv, q⟩
  cases fl with
  | ret u =>
    obtain ⟨v, σ', H', J, rv, q⟩ := hs
    exact fin J rv q
  | next =>
    obtain ⟨σ', H', J, q⟩ := hs
    exact fin (v := V.non) (u := Value.none) J rfl q
  | brk =>
    obtain ⟨_, _, _, q⟩ := hs
    exact False.elim q
  | cont =>
    obtain ⟨_, _, _, q⟩ := hs
    exact False.elim q
end L2

namespace L2
open PySem PySem.Spec PyProof.Rows
section
variable {X : Cx} {x : Str} {p pos : Pos} {e : Expr} {es : List Expr} {t : TA} {id T : String} {r : List V → Hp → VK → Prop}

def tCB (r : List V → Hp → VK → Prop) (t : TA) : TE := fun σ H Q => t σ H fun vs H1 => r vs H1 Q
/-- f(e, ..), f a built-in function -/
theorem pe_callB (hc : CallR X (.builtin id) r) (hg : Gl X x) (hm : X.mg x = none) (hv : bootBuiltins x = some (.builtin id)) (ha : PA X (e :: es) t) (hn : x ≠ "__name__" := by decide) (hdb : (x == ("__debug__" : Str)) = false := by decide)
    (he : starEach (e :: es) X.env = (false, eval e X.env) :: starEach es X.env := by rfl) (hpl : (backTo pos (starEach es X.env)).any (·.1) = false := by rfl) : PE X (.Call (.Name x p) (e :: es) [] pos) (tCB r t) := by
  intro pins s σ H Q I h
  refine wpAny_Call_Name_kw (ld_blt I hg hm hv ?_ hn hdb)
  exact PyProof.Rows.callWith_builtin1 (thn (ha pos pins s σ H _ I h) fun us s1 ⟨vs, H1, I1, r1, q1⟩ => hc pins s1 σ H1 vs us Q I1 r1 q1) he hpl
/-- T(e, ..), T a built-in type -/
theorem pe_callTy (hc : CallR X (.type T) r) (hg : Gl X x) (hm : X.mg x = none) (hv : bootBuiltins x = some (.type T)) (ha : PA X (e :: es) t) (hn : x ≠ "__name__" := by decide) (hdb : (x == ("__debug__" : Str)) = false := by decide)
    (he : starEach (e :: es) X.env = (false, eval e X.env) :: starEach es X.env := by rfl) (hpl : (backTo pos (starEach es X.env)).any (·.1) = false := by rfl) : PE X (.Call (.Name x p) (e :: es) [] pos) (tCB r t) := by
  intro pins s σ H Q I h
  refine wpAny_Call_Name_kw (ld_blt I hg hm hv ?_ hn hdb)
  exact PyProof.Rows.callWith_type1 (thn (ha pos pins s σ H _ I h) fun us s1 ⟨vs, H1, I1, r1, q1⟩ => hc pins s1 σ H1 vs us Q I1 r1 q1) he hpl
end
end L2

namespace HT
open PySem PyProof.Rows

/-- t < u of tuples of ints -/
def lexLt : List Int → List Int → Bool
  | [], [] => false
  | [], _ :: _ => true
  | _ :: _, [] => false
  | x :: xs, y :: ys => if x = y then lexLt xs ys else decide (x < y)
section
open PySem.SeqAt
open PySem.AutoSeq1 (wpAny_loadPart')
open PySem.MeetsSeq PySem.MeetsSeq2 PySem.MeetsSeq3

end

section
variable {prog : Program} {w : World} {A : Around} {E : Value → Shared → Prop} {s : Shared}

/-- t + u, t not empty -/
theorem cat_tup {t b : Addr} {vs ws : List Value} {Q : Value → Shared → Prop} (ht : IsTup s.heap t vs.toArray) (hb : IsTup s.heap b ws.toArray) (hv : vs ≠ [])
    (h1 : ws = [] → Q (.ref t) s) (h2 : ws ≠ [] → Q (.ref s.heap.objs.size) { s with heap := s.heap.push { cls := .type "tuple", data := .seq (vs ++ ws).toArray } })
    (hsz : vs.length + ws.length ≤ sizeLine) : wpAny (model prog w) A (binaryOp .Add (.ref t) (.ref b)) Q E s := by
  obtain ⟨⟨cls, dd, data, sl⟩, ho, hc, n, hd⟩ := id ht
  obtain ⟨⟨cls2, dd2, data2, sl2⟩, ho2, hc2, n2, hd2⟩ := id hb
  simp only at hc hd hc2 hd2
  subst hc hd hc2 hd2
  have e : vs.toArray ++ ws.toArray = (vs ++ ws).toArray := by simp
  by_cases hw : ws = []
  · exact concat_meets ⟨_, ho, rfl⟩ ⟨_, ho2, rfl⟩ noFill_tuple_add seq_tuple_add PySem.F.slot_tuple_add PySem.F.entry_tuple_add (PySem.F.args_tuple_add_2 _ _)
      (tuple_addW1 t b vs.toArray ws.toArray n n2 dd dd2 sl sl2 (by simpa using hv) (by simp [hw])) ⟨ho, ho2, h1 hw⟩
  · refine concat_meets ⟨_, ho, rfl⟩ ⟨_, ho2, rfl⟩ noFill_tuple_add seq_tuple_add PySem.F.slot_tuple_add PySem.F.entry_tuple_add (PySem.F.args_tuple_add_2 _ _)
      (tuple_addW2 t b vs.toArray ws.toArray n n2 dd dd2 sl sl2 (by simpa using hv) (by simpa using hw) (by rw [List.size_toArray, List.size_toArray]; exact hsz)) ⟨ho, ho2, ?_⟩
    rw [e]
    exact h2 hw

/-! ### t[a:b], not the whole -/
/-- a slice's bound as a place among n (d where it is left out) -/
def sIx (n d : Nat) : Option Int → Nat
  | none => d
  | some v => if v < 0 then (v + (n : Int)).toNat else min v.toNat n
theorem sIx_none (n d : Nat) : sIx n d none = d := rfl
theorem sIx_nat (n d k : Nat) : sIx n d (some (k : Int)) = min k n := by
  show (if (k : Int) < 0 then ((k : Int) + (n : Int)).toNat else min (k : Int).toNat n) = min k n
  rw [if_neg (by omega), Int.toNat_natCast]
theorem sIx_le (n d : Nat) (hd : d ≤ n) (o : Option Int) : sIx n d o ≤ n := by
  cases o with
  | none => exact hd
  | some v =>
    show (if v < 0 then (v + (n : Int)).toNat else min v.toNat n) ≤ n
    by_cases hv : v < 0
    · rw [if_pos hv]; omega
    · rw [if_neg hv]; exact Nat.min_le_right _ _
theorem clip_eq (v : Int) (n d : Nat) : (if v < 0 then max (v + (n : Int)) 0 else min v (n : Int)) = ((sIx n d (some v) : Nat) : Int) := by
  show (if v < 0 then max (v + (n : Int)) 0 else min v (n : Int)) = (((if v < 0 then (v + (n : Int)).toNat else min v.toNat n) : Nat) : Int)
  by_cases hv : v < 0
  · simp only [if_pos hv]; omega
  · simp only [if_neg hv]; omega
theorem adjust_gen (lo hi : Option Int) (n : Nat) : Builtin.Slice.sliceAdjust lo hi 1 (n : Int) = (((sIx n 0 lo : Nat) : Int), ((sIx n n hi : Nat) : Int)) := by
  have h1 : ¬ ((1 : Int) < 0) := by omega
  unfold Builtin.Slice.sliceAdjust
  simp only [h1, if_false]
  refine Prod.ext ?_ ?_
  · cases lo with
    | none => rfl
    | some v => exact clip_eq v n 0
  · cases hi with
    | none => rfl
    | some v => exact clip_eq v n n
theorem places_gen (i j : Nat) : Builtin.Slice.slicePlaces (i : Int) (j : Int) 1 = j - i := by
  unfold Builtin.Slice.slicePlaces
  have h1 : (1 : Int) > 0 := by omega
  simp only [h1, if_true, Int.ediv_one]
  split <;> omega
theorem slicePart_ {v : Value} {o : Option Int} {Q : Option Int → Shared → Prop} (p : IsPart v o) (h : Q o s) : wpAny (model prog w) A (Builtin.Slice.slicePartIndex v) Q E s := by
  cases p with
  | none => exact slicePart_none h
  | int i t => exact slicePart_int h
theorem sliceApplied_gen {sl : Addr} {vl vu : Value} {lo hi : Option Int} {n : Nat} {Q : Int × Int × Nat → Shared → Prop} (hs : s.heap.IsSliceOf sl vl vu .none) (pl : IsPart vl lo) (pu : IsPart vu hi)
    (h : Q (((sIx n 0 lo : Nat) : Int), 1, sIx n n hi - sIx n 0 lo) s) : wpAny (model prog w) A (Builtin.Slice.sliceApplied (.ref sl) (pure (n : Int))) Q E s := by
  obtain ⟨os, hos, hcs, hds⟩ := id hs
  unfold Builtin.Slice.sliceApplied Builtin.Slice.sliceFields
  refine wpAny_bind (wpAny_bind (wpAny_field hos hds (x := vl) rfl (wpAny_bind (wpAny_field hos hds (x := vu) rfl (wpAny_bind (wpAny_field hos hds (x := .none) rfl (wpAny_pure ?_)))))))
  refine wpAny_bind (slicePart_none ?_)
  show wpAny _ _ (if ((1 : Int) == 0) = true then _ else _) _ _ s
  rw [if_neg (by decide)]
  refine wpAny_bind (slicePart_ pl (wpAny_bind (slicePart_ pu (wpAny_bind (wpAny_pure ?_)))))
  show wpAny _ _ (match Builtin.Slice.sliceAdjust lo hi 1 (n : Int) with | (lo, hi) => pure (lo, (1 : Int), Builtin.Slice.slicePlaces lo hi 1)) _ _ s
  rw [adjust_gen lo hi n]
  show wpAny _ _ (pure (((sIx n 0 lo : Nat) : Int), (1 : Int), Builtin.Slice.slicePlaces ((sIx n 0 lo : Nat) : Int) ((sIx n n hi : Nat) : Int) 1)) _ _ s
  rw [places_gen]
  exact wpAny_pure h
theorem pick_gen (xs : Array Value) (i k : Nat) : ((List.range k).filterMap fun (m : Nat) => xs[((i : Int) + (m : Int) * 1).toNat]?).toArray = ((xs.toList.drop i).take k).toArray := by
  have e : (fun (m : Nat) => xs[((i : Int) + (m : Int) * 1).toNat]?) = fun m => xs[i + m]? := by
    funext m
    have : ((i : Int) + (m : Int) * 1).toNat = i + m := by omega
    rw [this]
  rw [e]
  have := pick_run xs i k
  rw [List.filterMap_map] at this
  have e2 : ((fun x => xs[x]?) ∘ fun x => i + x) = fun m => xs[i + m]? := rfl
  rw [e2] at this
  rw [this]

theorem getItem_tuple_cut {t sl : Addr} {items : Array Value} {vl vu : Value} {lo hi : Option Int} {Q : Value → Shared → Prop} (ht : IsTup s.heap t items) (hs : s.heap.IsSliceOf sl vl vu .none) (pl : IsPart vl lo) (pu : IsPart vu hi)
    (hw : ¬ (sIx items.size 0 lo = 0 ∧ sIx items.size items.size hi = items.size))
    (h : Q (.ref s.heap.objs.size) { s with heap := s.heap.push { cls := .type "tuple", data := .seq ((items.toList.drop (sIx items.size 0 lo)).take (sIx items.size items.size hi - sIx items.size 0 lo)).toArray } })
    (hsz : items.size ≤ sizeLine) : wpAny (model prog w) A (getItem (.ref t) (.ref sl)) Q E s := by
  have htake : sizeOk (.seq ((items.toList.drop (sIx items.size 0 lo)).take (sIx items.size items.size hi - sIx items.size 0 lo)).toArray) := by
    show ((items.toList.drop (sIx items.size 0 lo)).take (sIx items.size items.size hi - sIx items.size 0 lo)).toArray.size ≤ sizeLine
    rw [List.size_toArray, List.length_take, List.length_drop, Array.length_toList]
    omega
  have hj : sIx items.size items.size hi ≤ items.size := sIx_le _ _ (Nat.le_refl _) hi
  obtain ⟨os, hos, hcs, hds⟩ := id hs
  have hTs : s.TypeIs (.ref sl) "slice" := ⟨os, hos, hcs⟩
  unfold getItem
  try with_reducible refine wpAny_holding ?_
  first | refine wpAny_bind (wpAny_pure ?_) | skip
  refine wpAny_bind (wpAny_sequenceKey ht.typeIs (by decide) ?_)
  refine wpAny_bind (wpAny_callSpecial?_slot (name := Str.ofString "__getitem__") ht.typeIs PyProof.Rows.slot_tuple_getitem
    (wpAny_call_entry PyProof.Rows.slot_tuple_getitem ht.typeIs entry_tuple_getitem ?_ (args_tuple_getitem _ _)))
  show wpAny _ _ (Builtin.Tuple.tupleItemsOf (.ref t) >>= _) _ _ s
  refine wpAny_bind (tupleItemsOf_ ht ?_)
  refine wpAny_bind (wpAny_typeOf hTs ?_)
  rw [if_pos (by decide)]
  refine wpAny_bind (sliceApplied_gen hs pl pu ?_)
  have hno : ¬ ((((sIx items.size 0 lo : Nat) : Int) == 0 && (1 : Int) == 1 && (sIx items.size items.size hi - sIx items.size 0 lo) == items.size) = true) := by
    intro q
    rw [Bool.and_eq_true, Bool.and_eq_true] at q
    have q1 : ((sIx items.size 0 lo : Nat) : Int) = 0 := eq_of_beq q.1.1
    have q2 : sIx items.size items.size hi - sIx items.size 0 lo = items.size := eq_of_beq q.2
    exact hw ⟨by omega, by omega⟩
  show wpAny _ _ (if (((sIx items.size 0 lo : Nat) : Int) == 0 && (1 : Int) == 1 && (sIx items.size items.size hi - sIx items.size 0 lo) == items.size) = true then _ else _) _ _ s
  rw [if_neg hno, pick_gen]
  first
    | exact wpAny_bind (m := Builtin.Tuple.tupleExact _) (wpAny_newObj_type (wpAny_pure ⟨_, rfl, wpAny_pure h⟩) htake)
    | exact wpAny_bind (m := Builtin.Tuple.tupleExact _) (wpAny_newObj_type (wpAny_bind (wpAny_pure (wpAny_pure ⟨_, rfl, wpAny_pure h⟩))) htake)
    | exact wpAny_bind (wpAny_bind (m := Builtin.Tuple.tupleExact _) (wpAny_newObj_type (wpAny_pure (wpAny_pure ⟨_, rfl, wpAny_pure h⟩)) htake))
    | exact wpAny_bind (wpAny_bind (m := Builtin.Tuple.tupleExact _) (wpAny_newObj_type (wpAny_pure ⟨_, rfl, wpAny_pure h⟩) htake))
end
end HT

namespace L2
open PySem PySem.Spec PyProof.Rows

/-! ### the parts of a slice -/
abbrev TO := St → Hp → (Option Int → Hp → Prop) → Prop
/-- a slice's part (left out, or an int) -/
def PO (X : Cx) (e : Option Expr) (t : TO) : Prop :=
  ∀ (pins : List (Addr × Obj)) (s : Shared) (σ : St) (H : Hp) (Q : Option Int → Hp → Prop), Inv X pins σ H s → t σ H Q →
    wpAny (model X.prog X.w) X.A (evalPart e X.env) (fun u s' => ∃ o H', Inv X pins σ H' s' ∧ IsPart u o ∧ Q o H') X.xe s
def tNoPart : TO := fun _ H Q => Q none H
def tPart (t : TE) : TO := fun σ H Q => t σ H fun x H1 => ∃ i, x = .int i ∧ Q (some i) H1

section
variable {X : Cx} {e : Expr} {te : TE} {lo hi : Option Expr} {tl th : TO} {pos p2 : Pos}

theorem po_none : PO X none tNoPart := by
  intro pins s σ H Q I h
  rw [evalPart_none]
  exact wpAny_pure ⟨none, H, I, .none, h⟩
theorem po_some (h : PE X e te) : PO X (some e) (tPart te) := by
  intro pins s σ H Q I hw
  rw [evalPart_some]
  refine thn (h pins s σ H _ I hw) fun u s1 ⟨x, H1, I1, r1, q1⟩ => ?_
  obtain ⟨i, rfl, q⟩ := q1
  obtain ⟨t, rfl⟩ := r1
  exact ⟨some i, H1, I1, .int i t, q⟩

/-- what a slice of a value is, by values: the slice object stands at sl -/
def SlR (X : Cx) (r : V → Option Int → Option Int → Hp → VK → Prop) : Prop :=
  ∀ (pins : List (Addr × Obj)) (s : Shared) (σ : St) (H : Hp) (x : V) (v vl vu : Value) (lo hi : Option Int) (sl : Addr) (Q : VK), Inv X pins σ H s → RelV x v → s.heap.IsSliceOf sl vl vu .none → IsPart vl lo → IsPart vu hi → r x lo hi H Q →
    ∃ T id, typeLookup (.type T) "__getitem__" = pure (some (.builtin id)) ∧ s.TypeIs v T ∧ wpAny (model X.prog X.w) X.A (getItem v (.ref sl)) (EP X pins σ Q) X.xe s
theorem SlR.or {r r' : V → Option Int → Option Int → Hp → VK → Prop} (h : SlR X r) (h' : SlR X r') : SlR X (fun x lo hi H Q => r x lo hi H Q ∨ r' x lo hi H Q) := by
  intro pins s σ H x v vl vu lo hi sl Q I rx hs pl pu q
  rcases q with q | q
  · exact h pins s σ H x v vl vu lo hi sl Q I rx hs pl pu q
  · exact h' pins s σ H x v vl vu lo hi sl Q I rx hs pl pu q
def tSl (r : V → Option Int → Option Int → Hp → VK → Prop) (te : TE) (tl th : TO) : TE := fun σ H Q => te σ H fun x H1 => tl σ H1 fun l H2 => th σ H2 fun u H3 => r x l u H3 Q
/-- a[lo:hi], any a -/
theorem pe_slice {r : V → Option Int → Option Int → Hp → VK → Prop} (hr : SlR X r) (he : PE X e te) (hl : PO X lo tl) (hu : PO X hi th) : PE X (.Subscript e (.Slice lo hi none p2) pos) (tSl r te tl th) := by
  intro pins s σ H Q I h
  refine Subscript_ (thn (he pins s σ H _ I h) fun v s1 ⟨x, H1, I1, r1, q1⟩ => ?_)
  refine wpAny_Slice (thn (hl pins s1 σ H1 _ I1 q1) fun vl s2 ⟨l, H2, I2, pl, q2⟩ => thn (hu pins s2 σ H2 _ I2 q2) fun vu s3 ⟨u, H3, I3, pu, q3⟩ => ?_)
  rw [evalPart_none]
  refine wpAny_pure ?_
  have I4 : Inv X pins σ H3 { s3 with heap := s3.heap.push { cls := .type "slice", data := .fields #[vl, vu, .none] } } := I3.kept (t' := s3.toks) fun b ob q => Heap.get?_push_of_some _ q
  obtain ⟨T, id, hT, ht, hg⟩ := hr pins { s3 with heap := s3.heap.push { cls := .type "slice", data := .fields #[vl, vu, .none] } } σ H3 x v vl vu l u s3.heap.objs.size Q I4 r1 (Heap.IsSliceOf.new ..) pl pu q3
  show wpAny (model X.prog X.w) X.A (subscriptTail e (.Slice lo hi none p2) v (.ref s3.heap.objs.size)) (EP X pins σ Q) X.xe { s3 with heap := s3.heap.push { cls := .type "slice", data := .fields #[vl, vu, .none] } }
  exact tail_any (ops := [.ref s3.heap.objs.size, v]) ht hT hg (by with_unfolding_all rfl)

/-- the items of xs[lo:hi] -/
def cutV (xs : List V) (lo hi : Option Int) : List V := (xs.drop (HT.sIx xs.length 0 lo)).take (HT.sIx xs.length xs.length hi - HT.sIx xs.length 0 lo)
theorem cutV_length (xs : List V) (lo hi : Option Int) : (cutV xs lo hi).length ≤ xs.length := by
  unfold cutV
  rw [List.length_take, List.length_drop]
  omega
/-- t[lo:hi], not the whole of it (the whole would be t itself) -/
def rSlT (K : PySem.W.Frag) : V → Option Int → Option Int → Hp → VK → Prop := fun x lo hi H Q => ∃ a xs, x = .ref a ∧ SqT K H a xs ∧
  ¬ (HT.sIx xs.length 0 lo = 0 ∧ HT.sIx xs.length xs.length hi = xs.length) ∧ ∀ p, H p = none → Q (.ref p) (upd H p (.tup (cutV xs lo hi)))
theorem sl_tup : SlR X (rSlT X.K) := by
  intro pins s σ H x v vl vu lo hi sl Q I rx hs pl pu h
  obtain ⟨a, xs, rfl, hx, hw, q⟩ := h
  cases rx
  obtain ⟨its, r, ht, hz⟩ := I.tuple hx
  have hlen : its.toArray.size = xs.length := by rw [List.size_toArray]; exact r.length.symm
  refine ⟨"tuple", _, PyProof.Rows.slot_tuple_getitem.lookup, ht.typeIs, ?_⟩
  refine HT.getItem_tuple_cut ht hs pl pu (by rw [hlen]; exact hw) ?_ (by rw [hlen]; exact hz)
  rw [hlen]
  refine ⟨.ref s.heap.objs.size, _, I.laid (t' := s.toks) (o := .tup (cutV xs lo hi)) (fun b ob q => Heap.get?_push_of_some _ q) (Nat.le_refl _) ?_, rfl, q _ (I.hok.fresh (Nat.le_refl _))⟩
  exact ⟨Nat.le_trans (cutV_length xs lo hi) hz, _, (r.drop (HT.sIx xs.length 0 lo)).take (HT.sIx xs.length xs.length hi - HT.sIx xs.length 0 lo), IsTup.new _ _⟩

/-! ### t < u, t + u -/
def rLtT (K : PySem.W.Frag) : R2 := fun x y H Q => ∃ a b ns ms, x = .ref a ∧ y = .ref b ∧ SqT K H a (ns.map V.int) ∧ SqT K H b (ms.map V.int) ∧ Q (.bl (HT.lexLt ns ms)) H
/-- t + u, t not empty: u empty gives t itself -/
def rCatT (K : PySem.W.Frag) : R2 := fun x y H Q => ∃ a b xs ys, x = .ref a ∧ y = .ref b ∧ SqT K H a xs ∧ SqT K H b ys ∧ xs ≠ [] ∧ xs.length + ys.length ≤ sizeLine ∧
  (ys = [] → Q (.ref a) H) ∧ (ys ≠ [] → ∀ p, H p = none → Q (.ref p) (upd H p (.tup (xs ++ ys))))
theorem Vals.nil_iff {xs : List V} {us : List Value} (r : Vals xs us) : us = [] ↔ xs = [] := by
  cases r with
  | nil => simp
  | cons _ _ => simp
theorem op_catT : OpR X (binaryOp .Add) (rCatT X.K) := by
  intro pins s σ H x y v u Q I rx ry h
  obtain ⟨a, b, xs, ys, rfl, rfl, ha, hb, hx, hz, q1, q2⟩ := h
  cases rx
  cases ry
  obtain ⟨its, r1, p1, _⟩ := I.tuple ha
  obtain ⟨its2, r2, p2, _⟩ := I.tuple hb
  refine HT.cat_tup p1 p2 (fun z => hx (r1.nil_iff.mp z)) (fun z => ⟨.ref a, H, I, rfl, q1 (r2.nil_iff.mp z)⟩) (fun z => ?_) (by rw [← r1.length, ← r2.length]; exact hz)
  refine ⟨.ref s.heap.objs.size, _, I.laid (t' := s.toks) (o := .tup (xs ++ ys)) (fun b ob q => Heap.get?_push_of_some _ q) (Nat.le_refl _) ?_, rfl, q2 (fun w => z (r2.nil_iff.mpr w)) _ (I.hok.fresh (Nat.le_refl _))⟩
  exact ⟨by rw [List.length_append]; exact hz, _, r1.append r2, IsTup.new _ _⟩
end
end L2

namespace L2
open PySem PySem.Spec PyProof.Rows

/-! ### places -/
/-- the place that an index of any sign means -/
def ixN (n : Nat) (i : Int) : Option Nat := if 0 ≤ i then (if i < n then some i.toNat else none) else if -(n : Int) ≤ i then some (i + n).toNat else none
def atI {α : Type} (xs : List α) (i : Int) : Option α := (ixN xs.length i).bind fun j => xs[j]?
theorem ixN_seq {n : Nat} {i : Int} {j : Nat} (h : ixN n i = some j) : seqIndex? i n = some j ∧ j < n ∧ -(n : Int) ≤ i ∧ i < n := by
  unfold ixN at h
  by_cases h0 : 0 ≤ i
  · rw [if_pos h0] at h
    by_cases h1 : i < n
    · rw [if_pos h1] at h
      have e : i.toNat = j := Option.some.inj h
      exact ⟨by rw [seqIndex_of h0 h1, e], by omega, by omega, h1⟩
    · rw [if_neg h1] at h; cases h
  · rw [if_neg h0] at h
    by_cases h1 : -(n : Int) ≤ i
    · rw [if_pos h1] at h
      have e : (i + n).toNat = j := Option.some.inj h
      exact ⟨by rw [seqIndex_neg (by omega) h1, e], by omega, h1, by omega⟩
    · rw [if_neg h1] at h; cases h
theorem atI_get {α : Type} {xs : List α} {i : Int} {v : α} (h : atI xs i = some v) : ∃ j, seqIndex? i xs.length = some j ∧ xs[j]? = some v ∧ j < xs.length ∧ -(xs.length : Int) ≤ i ∧ i < xs.length := by
  unfold atI at h
  cases e : ixN xs.length i with
  | none => rw [e] at h; cases h
  | some j =>
    rw [e] at h
    obtain ⟨h1, h2, h3, h4⟩ := ixN_seq e
    exact ⟨j, h1, h, h2, h3, h4⟩
theorem atI_nat {α : Type} {xs : List α} {j : Nat} {v : α} (h : xs[j]? = some v) : atI xs (j : Int) = some v := by
  have hj : j < xs.length := (List.getElem?_eq_some_iff.mp h).1
  have e : ixN xs.length (j : Int) = some j := by
    unfold ixN
    rw [if_pos (by omega), if_pos (by omega)]; simp
  unfold atI; rw [e]; exact h
/-! ### what may be subscripted -/
/-- what stands as an index of a plain subscript -/
def PlainIx (b : Expr) : Prop := ∀ o i, subscripted b false o i = operate [o, i] (getItem o i)
/-- a subscript by values -/
def IxR (X : Cx) (r : R2) : Prop :=
  ∀ (value slice : Expr) (pins : List (Addr × Obj)) (s : Shared) (σ : St) (H : Hp) (x y : V) (v u : Value) (Q : VK), Inv X pins σ H s → RelV x v → RelV y u → r x y H Q →
    subscripted slice false v u = operate [v, u] (getItem v u) → wpAny (model X.prog X.w) X.A (subscriptTail value slice v u) (EP X pins σ Q) X.xe s
/-- a call of a builtin's method by values: the receiver, the arguments -/
def MtR (X : Cx) (id : String) (r : V → List V → Hp → VK → Prop) : Prop :=
  ∀ (pins : List (Addr × Obj)) (s : Shared) (σ : St) (H : Hp) (x : V) (xs : List V) (v : Value) (us : List Value) (Q : VK), Inv X pins σ H s → RelV x v → Vals xs us → r x xs H Q →
    wpAny (model X.prog X.w) X.A (call (.builtin id) (v :: us)) (EP X pins σ Q) X.xe s
section
variable {X : Cx} {a b : Expr} {ta tb : TE} {pos : Pos}
theorem IxR.or {r r' : R2} (h : IxR X r) (h' : IxR X r') : IxR X (fun x y H Q => r x y H Q ∨ r' x y H Q) := by
  intro value slice pins s σ H x y v u Q I rx ry q hs
  rcases q with q | q
  · exact h value slice pins s σ H x y v u Q I rx ry q hs
  · exact h' value slice pins s σ H x y v u Q I rx ry q hs
theorem MtR.or {id : String} {r r' : V → List V → Hp → VK → Prop} (h : MtR X id r) (h' : MtR X id r') : MtR X id (fun x xs H Q => r x xs H Q ∨ r' x xs H Q) := by
  intro pins s σ H x xs v us Q I rx rs q
  rcases q with q | q
  · exact h pins s σ H x xs v us Q I rx rs q
  · exact h' pins s σ H x xs v us Q I rx rs q
/-- a[b] -/
theorem pe_ix {r : R2} (hr : IxR X r) (ha : PE X a ta) (hb : PE X b tb) (hs : PlainIx b) : PE X (.Subscript a b pos) (tOp r ta tb) := by
  intro pins s σ H Q I h
  exact Subscript_ (binT ha hb I h fun v u s2 x y H2 I2 rx ry q => hr a b pins s2 σ H2 x y v u Q I2 rx ry q (hs _ _))

def rIxL (K : PySem.W.Frag) : R2 := fun x y H Q => ∃ p xs i v, x = .ref p ∧ y = .int i ∧ SqL K H p xs ∧ atI xs i = some v ∧ Q v H
def rIxT (K : PySem.W.Frag) : R2 := fun x y H Q => ∃ p xs i v, x = .ref p ∧ y = .int i ∧ SqT K H p xs ∧ atI xs i = some v ∧ Q v H
def rIxS : R2 := fun x y H Q => ∃ z i c, x = .str z ∧ y = .int i ∧ z.length ≤ sizeLine ∧ atI z.cps.toList i = some c ∧ Q (.str ⟨#[c]⟩) H
theorem ix_list : IxR X (rIxL X.K) := by
  intro value slice pins s σ H x y v u Q I rx ry h hs
  obtain ⟨p, xs, i, z, rfl, rfl, hq, he, q⟩ := h
  cases rx
  obtain ⟨t, rfl⟩ := ry
  obtain ⟨its, r, pl, hz⟩ := I.list hq
  obtain ⟨j, h1, h2, h3, h4, h5⟩ := atI_get he
  obtain ⟨w, ew, rw'⟩ := r.get h2
  have hl := r.length
  have hn := line63
  have fin : EP X pins σ Q w s := ⟨z, H, I, rw', q⟩
  by_cases h0 : 0 ≤ i
  · have hj : i.toNat = j := by
      rw [seqIndex_of h0 h5] at h1
      exact Option.some.inj h1
    exact item_listR pl.isList h0 (by omega) (by rw [hj]; simpa using ew) fin hs
  · have hj : (i + (its.toArray.size : Int)).toNat = j := by
      rw [seqIndex_neg (by omega) h4] at h1
      rw [List.size_toArray, ← hl]
      exact Option.some.inj h1
    exact subscriptTail_builtinR (x := w) pl.isList.typeIs slot_list_getitem.lookup
      (wpAny_getItem_list_neg (Q := fun r s' => r = w ∧ EP X pins σ Q r s') pl.isList (by omega) (by rw [List.size_toArray] <;> omega) (by omega) (by rw [hj]; simpa using ew) ⟨rfl, fin⟩) hs
theorem ix_tup : IxR X (rIxT X.K) := by
  intro value slice pins s σ H x y v u Q I rx ry h hs
  obtain ⟨p, xs, i, z, rfl, rfl, hq, he, q⟩ := h
  cases rx
  obtain ⟨t, rfl⟩ := ry
  obtain ⟨its, r, pl, hz⟩ := I.tuple hq
  obtain ⟨j, h1, h2, h3, h4, h5⟩ := atI_get he
  obtain ⟨w, ew, rw'⟩ := r.get h2
  have hl := r.length
  have hn := line63
  have fin : EP X pins σ Q w s := ⟨z, H, I, rw', q⟩
  exact subscriptTail_builtinR (x := w) pl.typeIs slot_tuple_getitem.lookup
    (getItem_tuple (j := j) (Q := fun r s' => r = w ∧ EP X pins σ Q r s') pl (by omega) (by omega) (by rw [List.size_toArray, ← hl]; exact h1) (by simpa using ew) ⟨rfl, fin⟩) hs
theorem ix_str : IxR X rIxS := by
  intro value slice pins s σ H x y v u Q I rx ry h hs
  obtain ⟨z, i, c, rfl, rfl, hz, he, q⟩ := h
  obtain ⟨t, rfl⟩ := rx
  obtain ⟨t', rfl⟩ := ry
  obtain ⟨j, h1, h2, h3, h4, h5⟩ := atI_get he
  have hl : z.cps.toList.length = z.length := by simp [Str.length]
  rw [hl] at h1 h4 h5
  have hn := line63
  exact tail_any (typeIs_str s z t) slot_str_getitem.lookup (getItem_str (c := c) (by
    have e1 : decide (i < -(2 ^ 63 : Int)) = false := decide_eq_false (by omega)
    have e2 : decide (i ≥ 2 ^ 63) = false := decide_eq_false (by omega)
    rw [e1, e2, Bool.or_false]) (by rw [h1]; simpa using h2) ⟨.str ⟨#[c]⟩, H, I.tok _, ⟨_, rfl⟩, q⟩) hs
/-- list, tuple or str -/
def rIx (K : PySem.W.Frag) : R2 := fun x y H Q => rIxL K x y H Q ∨ rIxT K x y H Q ∨ rIxS x y H Q
theorem ix_seq : IxR X (rIx X.K) := ix_list.or (ix_tup.or ix_str)

/-! ### xs[i] = v, any sign -/
/-- the list's object behind a store -/
theorem mapSeq_set (its : List Value) (n j : Nat) (u : Value) : Obj.mapSeq (·.setIfInBounds j u) { cls := .type "list", data := .seq its.toArray n } = { cls := .type "list", data := .seq (its.set j u).toArray n } := by
  simp [Obj.mapSeq]
theorem Inv.lst {pins : List (Addr × Obj)} {σ : St} {H : Hp} {s : Shared} {p : Addr} {xs : List V} (I : Inv X pins σ H s) (h : H p = some (.lst xs)) :
    ∃ (its : List Value) (n : Nat), Vals xs its ∧ s.heap.get? p = some { cls := .type "list", data := .seq its.toArray n } ∧ xs.length ≤ sizeLine := by
  obtain ⟨z, its, n, r, e⟩ := I.hok p _ h
  exact ⟨its, n, r, e, z⟩
/-- the list at p is written by an update of its object -/
theorem Inv.lstUpd {pins : List (Addr × Obj)} {σ : St} {H : Hp} {s : Shared} {p : Addr} {xs ys : List V} {its its' : List Value} {n n' : Nat} {f : Obj → Obj} (I : Inv X pins σ H s) (h : H p = some (.lst xs))
    (ho : s.heap.get? p = some { cls := .type "list", data := .seq its.toArray n }) (hf : f { cls := .type "list", data := .seq its.toArray n } = { cls := .type "list", data := .seq its'.toArray n' }) (r : Vals ys its') (hz : ys.length ≤ sizeLine) (t : Nat) :
    Inv X pins σ (upd H p (.lst ys)) { s with heap := s.heap.update p f, toks := t } := by
  have e : (s.heap.update p f).get? p = some { cls := .type "list", data := .seq its'.toArray n' } := by
    rw [Heap.get?_update_self f ho (by rw [hf] <;> rfl), hf]
  refine I.write (x := p) (e := p) (by rw [h]; trivial) (.inl rfl) (fun b u hb q => (Heap.get?_update_other _ _ (Ne.symm hb)).trans q) ⟨_, e⟩ ?_
  exact ⟨hz, its', n', r, e⟩
def rSetL : V → V → V → Hp → (Hp → Prop) → Prop := fun o i v H Q => ∃ p xs k j, o = .ref p ∧ i = .int k ∧ H p = some (.lst xs) ∧ ixN xs.length k = some j ∧ Q (upd H p (.lst (xs.set j v)))
theorem set_list : PSet X rSetL := by
  intro pins s σ H o i v ov iv u Q I ro ri rv h
  obtain ⟨p, xs, k, j, rfl, rfl, hp, hj, q⟩ := h
  cases ro
  obtain ⟨t, rfl⟩ := ri
  obtain ⟨its, n, r, ho, hz⟩ := I.lst hp
  obtain ⟨h1, h2, h3, h4⟩ := ixN_seq hj
  have hl := r.length
  have hn := line63
  have I' : Inv X pins σ (upd H p (.lst (xs.set j v))) { s with heap := s.heap.update p (Obj.mapSeq (·.setIfInBounds j u)) } :=
    I.lstUpd hp ho (mapSeq_set its n j u) (r.set rv j) (by rw [List.length_set]; exact hz) s.toks
  by_cases h0 : 0 ≤ k
  · have hk : k.toNat = j := by
      rw [seqIndex_of h0 h4] at h1
      exact Option.some.inj h1
    exact PySem.W.ki_setAt ho h0 (by omega) (by rw [List.size_toArray, ← hl]; exact h4) (by rw [hk]; exact ⟨_, I', q⟩)
  · have hk : (k + (its.toArray.size : Int)).toNat = j := by
      rw [seqIndex_neg (by omega) h3] at h1
      rw [List.size_toArray, ← hl]
      exact Option.some.inj h1
    exact PySem.W.ki_setBack ho (by omega) (by rw [List.size_toArray, ← hl]; exact h3) (by omega) (by rw [hk]; exact ⟨_, I', q⟩)

/-! ### slices -/
theorem slice_bounds (lo hi : Option Int) (n : Nat) : (sliceBounds lo hi none n).1 = ((HT.sIx n 0 lo : Nat) : Int) ∧ (sliceBounds lo hi none n).2.1 = ((HT.sIx n n hi : Nat) : Int) ∧ (sliceBounds lo hi none n).2.2 = 1 := by
  refine ⟨?_, ?_, rfl⟩
  · cases lo with
    | none => simp [sliceBounds, HT.sIx]
    | some i =>
      simp only [sliceBounds, HT.sIx, Option.getD_none, show (1 : Int) > 0 by decide, if_true]
      by_cases h : i < 0
      · simp only [h, if_true] <;> omega
      · simp only [h, if_false] <;> omega
  · cases hi with
    | none => simp [sliceBounds, HT.sIx]
    | some i =>
      simp only [sliceBounds, HT.sIx, Option.getD_none, show (1 : Int) > 0 by decide, if_true]
      by_cases h : i < 0
      · simp only [h, if_true] <;> omega
      · simp only [h, if_false] <;> omega
theorem slicePick_cut (its : List Value) (lo hi : Option Int) : slicePick its.toArray lo hi none = ((its.drop (HT.sIx its.length 0 lo)).take (HT.sIx its.length its.length hi - HT.sIx its.length 0 lo)).toArray := by
  obtain ⟨h1, h2, h3⟩ := slice_bounds lo hi its.toArray.size
  unfold slicePick
  rw [h1, h2, h3]
  simp only [sliceRange_one, pick_run, List.size_toArray] <;> rfl
/-- xs[lo:hi] of a list: a new list -/
def rSlL (K : PySem.W.Frag) : V → Option Int → Option Int → Hp → VK → Prop := fun x lo hi H Q => ∃ a xs, x = .ref a ∧ SqL K H a xs ∧ ∀ p, H p = none → Q (.ref p) (upd H p (.lst (cutV xs lo hi)))
theorem sl_list : SlR X (rSlL X.K) := by
  intro pins s σ H x v vl vu lo hi sl Q I rx hs pl pu h
  obtain ⟨a, xs, rfl, hx, q⟩ := h
  cases rx
  obtain ⟨its, r, ht, hz⟩ := I.list hx
  have hlen := r.length
  refine ⟨"list", _, slot_list_getitem.lookup, ht.isList.typeIs, ?_⟩
  refine wpAny_getItem_list_slice ht.isList hs pl pu .none (by simp) ?_ (by rw [List.size_toArray] <;> omega)
  rw [slicePick_cut, ← hlen]
  refine ⟨.ref s.heap.objs.size, _, I.laid (t' := s.toks) (o := .lst (cutV xs lo hi)) (fun b ob q => Heap.get?_push_of_some _ q) (Nat.le_refl _) ?_, rfl, q _ (I.hok.fresh (Nat.le_refl _))⟩
  exact ⟨Nat.le_trans (cutV_length xs lo hi) hz, _, 0, (r.drop (HT.sIx xs.length 0 lo)).take (HT.sIx xs.length xs.length hi - HT.sIx xs.length 0 lo), Heap.get?_push_size _ rfl⟩

/-! ### in, not in: flat items -/
def flatV : V → Bool
  | .non => true
  | .bl _ => true
  | .int _ => true
  | .str _ => true
  | _ => false
/-- == of flat values -/
def eqV : V → V → Bool
  | .non, .non => true
  | .bl a, .bl b => a == b
  | .bl a, .int b => (if a then 1 else 0) == b
  | .int a, .bl b => a == (if b then 1 else 0)
  | .int a, .int b => a == b
  | .str a, .str b => a == b
  | _, _ => false
theorem eqAt_V {A : Around} {s : Shared} {y x : V} {u v : Value} (ry : RelV y u) (rx : RelV x v) (fy : flatV y = true) (fx : flatV x = true) : SeqAt.EqAt A s u v (eqV y x) := by
  cases y with
  | non =>
    cases ry
    cases x with
    | non => cases rx; exact SeqAt.EqAt.same _
    | bl b => cases rx; exact SeqAt.EqAt.none_bool b
    | int b => obtain ⟨t, rfl⟩ := rx; exact SeqAt.EqAt.none_int b t
    | str b => obtain ⟨t, rfl⟩ := rx; exact SeqAt.EqAt.none_str b t
    | _ => exact absurd (show false = true from fx) Bool.false_ne_true
  | bl a =>
    cases ry
    cases x with
    | non => cases rx; exact SeqAt.EqAt.bool_none a
    | bl b => cases rx; exact SeqAt.EqAt.bool_bool a b
    | int b => obtain ⟨t, rfl⟩ := rx; exact SeqAt.EqAt.bool_int a b t
    | str b => obtain ⟨t, rfl⟩ := rx; exact SeqAt.EqAt.bool_str a b t
    | _ => exact absurd (show false = true from fx) Bool.false_ne_true
  | int a =>
    obtain ⟨t', rfl⟩ := ry
    cases x with
    | non => cases rx; exact SeqAt.EqAt.int_none a t'
    | bl b => cases rx; exact SeqAt.EqAt.int_bool a t' b
    | int b => obtain ⟨t, rfl⟩ := rx; exact SeqAt.EqAt.int_int a t' b t
    | str b => obtain ⟨t, rfl⟩ := rx; exact SeqAt.EqAt.int_str a t' b t
    | _ => exact absurd (show false = true from fx) Bool.false_ne_true
  | str a =>
    obtain ⟨t', rfl⟩ := ry
    cases x with
    | non => cases rx; exact SeqAt.EqAt.str_none a t'
    | bl b => cases rx; exact SeqAt.EqAt.str_bool a t' b
    | int b => obtain ⟨t, rfl⟩ := rx; exact SeqAt.EqAt.str_int a t' b t
    | str b => obtain ⟨t, rfl⟩ := rx; exact SeqAt.EqAt.str_str a t' b t
    | _ => exact absurd (show false = true from fx) Bool.false_ne_true
  | _ => exact absurd (show false = true from fy) Bool.false_ne_true
/-- the items' answers, read off the values (a value's own answer does not lean on its token) -/
def eqU (x : V) (u : Value) : Bool := match u with
  | .none => eqV .non x
  | .bool b => eqV (.bl b) x
  | .int i _ => eqV (.int i) x
  | .str z _ => eqV (.str z) x
  | _ => false
theorem eqU_of {x y : V} {u : Value} (r : RelV y u) (f : flatV y = true) : eqU x u = eqV y x := by
  cases y with
  | non => cases r; rfl
  | bl b => cases r; rfl
  | int i => obtain ⟨t, rfl⟩ := r; rfl
  | str z => obtain ⟨t, rfl⟩ := r; rfl
  | _ => exact absurd (show false = true from f) Bool.false_ne_true
theorem any_eqU {x : V} : ∀ {xs : List V} {us : List Value}, Vals xs us → xs.all flatV = true → us.any (eqU x) = xs.any fun y => eqV y x
  | _, _, .nil, _ => rfl
  | y :: xs, u :: us, .cons r t, f => by
    rw [List.all_cons, Bool.and_eq_true] at f
    rw [List.any_cons, List.any_cons, eqU_of r f.1, any_eqU t f.2]
theorem mem_eqAt {A : Around} {s : Shared} {x : V} {v : Value} (rx : RelV x v) (fx : flatV x = true) : ∀ {xs : List V} {us : List Value}, Vals xs us → xs.all flatV = true → ∀ u ∈ us, SeqAt.EqAt A s u v (eqU x u)
  | _, _, .nil, _ => fun u hu => by cases hu
  | y :: xs, u :: us, .cons r t, f => fun u' hu => by
    rw [List.all_cons, Bool.and_eq_true] at f
    rcases List.mem_cons.mp hu with rfl | hu
    · rw [eqU_of r f.1]; exact eqAt_V r rx f.1 fx
    · exact mem_eqAt rx fx t f.2 u' hu
def inV (x : V) (xs : List V) : Bool := xs.any fun y => eqV y x
/-- x in a list or tuple of flat items -/
def rIn (K : PySem.W.Frag) (neg : Bool) : R2 := fun x y H Q => ∃ p xs, y = .ref p ∧ (SqL K H p xs ∨ SqT K H p xs) ∧ flatV x = true ∧ xs.all flatV = true ∧ Q (.bl (if neg then !inV x xs else inV x xs)) H
theorem op_in_seq : OpR X (compareOp .In) (rIn X.K false) := by
  intro pins s σ H x y v u Q I rx ry h
  obtain ⟨p, xs, rfl, hq, fx, fs, q⟩ := h
  cases ry
  rcases hq with hq | hq
  · obtain ⟨its, r, pl, hz⟩ := I.list hq
    refine SeqAt.in_listAt (eqU x) pl.isList (fun w hw => mem_eqAt rx fx r fs w (by simpa using hw)) ⟨.bl _, H, I, rfl, ?_⟩
    rw [show its.toArray.any (eqU x) = its.any (eqU x) by simp, any_eqU r fs]
    exact q
  · obtain ⟨its, r, pl, hz⟩ := I.tuple hq
    refine SeqAt.in_tupleAt (eqU x) pl (fun w hw => mem_eqAt rx fx r fs w (by simpa using hw)) ⟨.bl _, H, I, rfl, ?_⟩
    rw [show its.toArray.any (eqU x) = its.any (eqU x) by simp, any_eqU r fs]
    exact q
theorem op_notIn_seq : OpR X (compareOp .NotIn) (rIn X.K true) := by
  intro pins s σ H x y v u Q I rx ry h
  obtain ⟨p, xs, rfl, hq, fx, fs, q⟩ := h
  cases ry
  rcases hq with hq | hq
  · obtain ⟨its, r, pl, hz⟩ := I.list hq
    refine SeqAt.notIn_listAt (eqU x) pl.isList (fun w hw => mem_eqAt rx fx r fs w (by simpa using hw)) ⟨.bl _, H, I, rfl, ?_⟩
    rw [show its.toArray.any (eqU x) = its.any (eqU x) by simp, any_eqU r fs]
    exact q
  · obtain ⟨its, r, pl, hz⟩ := I.tuple hq
    refine SeqAt.notIn_tupleAt (eqU x) pl (fun w hw => mem_eqAt rx fx r fs w (by simpa using hw)) ⟨.bl _, H, I, rfl, ?_⟩
    rw [show its.toArray.any (eqU x) = its.any (eqU x) by simp, any_eqU r fs]
    exact q
/-! ### len, list(x), tuple(x) of any list or tuple that is read -/
theorem call_len_seq : CallR X (.builtin "len") (fun xs H Q => ∃ p ys, xs = [.ref p] ∧ (SqL X.K H p ys ∨ SqT X.K H p ys) ∧ Q (.int ys.length) H) := by
  intro pins s σ H xs us Q I r h
  obtain ⟨p, ys, rfl, hq, q⟩ := h
  obtain ⟨u, rfl, rx⟩ := vals1 r
  cases rx
  have hn := line63
  rcases hq with hq | hq
  · obtain ⟨its, r', pl, hz⟩ := I.list hq
    have hlen := r'.length
    exact Calls.call_len_list pl.isList (by simp only [List.size_toArray] <;> omega) ⟨.int ys.length, H, I.tok _, ⟨s.toks + 1, by rw [List.size_toArray, hlen]⟩, q⟩
  · obtain ⟨its, r', pl, hz⟩ := I.tuple hq
    have hlen := r'.length
    exact len_tuple pl (by simp only [List.size_toArray] <;> omega) ⟨.int ys.length, H, I.tok _, ⟨s.toks + 1, by rw [List.size_toArray, hlen]⟩, q⟩
theorem call_len_str : CallR X (.builtin "len") (fun xs H Q => ∃ z, xs = [.str z] ∧ z.length ≤ sizeLine ∧ Q (.int z.length) H) := by
  intro pins s σ H xs us Q I r h
  obtain ⟨z, rfl, hz, q⟩ := h
  obtain ⟨u, rfl, t, rfl⟩ := vals1 r
  have hn := line63
  exact len_str (by omega) ⟨.int z.length, H, I.tok _, ⟨_, rfl⟩, q⟩
theorem CallR.or {f : Value} {r r' : List V → Hp → VK → Prop} (h : CallR X f r) (h' : CallR X f r') : CallR X f (fun xs H Q => r xs H Q ∨ r' xs H Q) := by
  intro pins s σ H xs us Q I rs q
  rcases q with q | q
  · exact h pins s σ H xs us Q I rs q
  · exact h' pins s σ H xs us Q I rs q
theorem call_list_of : CallR X (.type "list") (fun xs H Q => ∃ p ys, xs = [.ref p] ∧ (SqL X.K H p ys ∨ SqT X.K H p ys) ∧ ∀ l, H l = none → Q (.ref l) (upd H l (.lst ys))) := by
  intro pins s σ H xs us Q I r h
  obtain ⟨p, ys, rfl, hq, q⟩ := h
  obtain ⟨u, rfl, rx⟩ := vals1 r
  cases rx
  have fin : ∀ (its : List Value), Vals ys its → ys.length ≤ sizeLine → ∀ (h' : Heap) (c' : Nat), (∀ b o', s.heap.get? b = some o' → h'.get? b = some o') →
      h'.get? s.heap.objs.size = some { cls := .type "list", dict := none, data := .seq its.toArray c', slots := #[] } → EP X pins σ Q (.ref s.heap.objs.size) { s with heap := h' } := fun its r' hz h' c' kp e =>
    ⟨.ref s.heap.objs.size, _, I.laid (t' := s.toks) kp (Nat.le_refl _) (show ObjOk X.prog X.w _ h' _ (.lst ys) from ⟨hz, its, c', r', e⟩), rfl, q _ (I.hok.fresh (Nat.le_refl _))⟩
  rcases hq with hq | hq
  · obtain ⟨its, r', pl, hz⟩ := I.list hq
    have hlen := r'.length
    obtain ⟨o, ho, hc, n, hd⟩ := pl.isList
    exact call_list_seq p (.inl rfl) ho hc hd (fun h' c' kp e => fin its r' hz h' c' kp e) (by simp only [List.size_toArray] <;> omega)
  · obtain ⟨its, r', pl, hz⟩ := I.tuple hq
    have hlen := r'.length
    obtain ⟨o, ho, hc, n, hd⟩ := pl
    exact call_list_seq p (.inr rfl) ho hc hd (fun h' c' kp e => fin its r' hz h' c' kp e) (by simp only [List.size_toArray] <;> omega)
theorem call_tuple_of : CallR X (.type "tuple") (fun xs H Q => ∃ p ys, xs = [.ref p] ∧ ((SqL X.K H p ys ∧ ∀ l, H l = none → Q (.ref l) (upd H l (.tup ys))) ∨ (SqT X.K H p ys ∧ Q (.ref p) H))) := by
  intro pins s σ H xs us Q I r h
  obtain ⟨p, ys, rfl, h⟩ := h
  obtain ⟨u, rfl, rx⟩ := vals1 r
  cases rx
  rcases h with ⟨hq, q⟩ | ⟨hq, q⟩
  · obtain ⟨its, r', pl, hz⟩ := I.list hq
    have hlen := r'.length
    refine call_tuple_list pl.isList (fun h' kp => ?_) (by simp only [List.size_toArray] <;> omega)
    have I1 : Inv X pins σ H { s with heap := h' } := I.kept (t' := s.toks) kp
    have I2 : Inv X pins σ (upd H h'.objs.size (.tup ys)) { s with heap := h'.push { cls := .type "tuple", data := .seq its.toArray } } :=
      I1.laid (t' := s.toks) (fun b o e => Heap.get?_push_of_some _ e) (Nat.le_refl _) (show ObjOk X.prog X.w _ _ _ (.tup ys) from ⟨hz, its, r', IsTup.new _ _⟩)
    exact ⟨.ref h'.objs.size, _, I2, rfl, q _ (I1.hok.fresh (Nat.le_refl _))⟩
  · obtain ⟨its, r', pl, hz⟩ := I.tuple hq
    exact call_tuple_same pl ⟨.ref p, H, I, rfl, q⟩

/-! ### the call of a builtin's method: o.m(..) -/
/-- the value is of that builtin type -/
def tyV (K : PySem.W.Frag) (T : String) (x : V) (H : Hp) : Prop := match x with
  | .str _ => T = "str"
  | .int _ => T = "int"
  | .ref p => (T = "list" ∧ ∃ xs, SqL K H p xs) ∨ (T = "tuple" ∧ ∃ o, K.lookup p = some o ∧ o.cls = .type "tuple" ∧ o.dict = none) ∨
      (T = "dict" ∧ ((∃ kvs, H p = some (.dK kvs)) ∨ ∃ kvs, H p = some (.dT kvs))) ∨ (T = "set" ∧ ∃ S n, H p = some (.set S n))
  | _ => False
theorem tyV_is {pins : List (Addr × Obj)} {σ : St} {H : Hp} {s : Shared} {T : String} {x : V} {v : Value} (I : Inv X pins σ H s) (r : RelV x v) (ty : tyV X.K T x H) :
    s.TypeIs v T ∧ ∀ a, v = .ref a → ∃ ob, s.heap.get? a = some ob ∧ ob.dict = none := by
  cases x with
  | str z =>
    obtain ⟨t, rfl⟩ := r
    cases (show T = "str" from ty)
    exact ⟨typeIs_str s z t, fun _ e => nomatch e⟩
  | int i =>
    obtain ⟨t, rfl⟩ := r
    cases (show T = "int" from ty)
    exact ⟨typeIs_int s i t, fun _ e => nomatch e⟩
  | ref p =>
    cases r
    rcases ty with ⟨rfl, xs, hq⟩ | ⟨rfl, o, hk, hc, hd⟩ | ⟨rfl, hk⟩ | ⟨rfl, S, n, hk⟩
    · obtain ⟨its, _, pl, _⟩ := I.list hq
      refine ⟨pl.isList.typeIs, fun a e => ?_⟩
      cases e
      obtain ⟨o, n, e, c, hd, _⟩ := pl
      exact ⟨o, e, hd⟩
    · refine ⟨⟨o, I.kIn p o hk, hc⟩, fun a e => ?_⟩
      cases e
      exact ⟨o, I.kIn _ o hk, hd⟩
    · have z : ∃ o, s.heap.get? p = some o ∧ o.ExactDict := by
        rcases hk with ⟨kvs, hk⟩ | ⟨kvs, hk⟩
        · obtain ⟨_, _, _, _, o, _, _, e, ex, _⟩ := I.hok p _ hk
          exact ⟨o, e, ex⟩
        · obtain ⟨_, _, _, _, o, _, _, e, ex, _⟩ := I.hok p _ hk
          exact ⟨o, e, ex⟩
      obtain ⟨o, e, ex⟩ := z
      refine ⟨⟨o, e, ex.1⟩, fun a e2 => ?_⟩
      cases e2
      exact ⟨o, e, ex.2.1⟩
    · obtain ⟨o, _, _, _, e, ex, _⟩ := I.hok p _ hk
      refine ⟨⟨o, e, ex.1⟩, fun a e2 => ?_⟩
      cases e2
      exact ⟨o, e, ex.2.1⟩
  | _ => exact False.elim ty
def tBM0 (K : PySem.W.Frag) (T : String) (r : V → List V → Hp → VK → Prop) (to : TE) : TE := fun σ H Q => to σ H fun x H1 => tyV K T x H1 ∧ r x [] H1 Q
def tBM (K : PySem.W.Frag) (T : String) (r : V → List V → Hp → VK → Prop) (to : TE) (t : TA) : TE := fun σ H Q => to σ H fun x H1 => tyV K T x H1 ∧ t σ H1 fun xs H2 => r x xs H2 Q
variable {o e : Expr} {es : List Expr} {to : TE} {t : TA} {name : Str} {apos cpos : Pos} {T id : String} {r : V → List V → Hp → VK → Prop}
theorem pe_bm0 (pa : PlainAttrs T) (slot : Slot T name id) (hty : typeOf (.builtin id) = pure (.type "method_descriptor")) (hm : MtR X id r) (ho : PE X o to)
    (hbase : attributeBase o name X.env (eval o X.env) = eval o X.env := by rfl) (hline : (apos.endLine == cpos.line) = true := by rfl) : PE X (.Call (.Attribute o name apos) [] [] cpos) (tBM0 X.K T r to) := by
  intro pins s σ H Q I h
  refine wpAny_Call_method0_late hbase hline (thn (ho pins s σ H _ I h) fun v s1 ⟨x, H1, I1, r1, ty, q1⟩ => ?_)
  obtain ⟨h1, h2⟩ := tyV_is I1 r1 ty
  exact ⟨T, id, pa, slot, hty, h1, h2, Calls.callWith_builtin rfl (PySem.evalArgs_none (hm pins s1 σ H1 x [] v [] Q I1 r1 .nil q1))⟩
theorem pe_bm (pa : PlainAttrs T) (slot : Slot T name id) (hty : typeOf (.builtin id) = pure (.type "method_descriptor")) (hm : MtR X id r) (ho : PE X o to) (ha : PA X (e :: es) t)
    (hbase : attributeBase o name X.env (eval o X.env) = eval o X.env := by rfl)
    (hfew : ((backTo cpos (starEach (e :: es) X.env)).all (fun x => !x.1) && (backToKw cpos (keywordEach [] X.env)).all (fun x => x.1.isSome)
      && decide ((e :: es).length + ([] : List Keyword).length + (if ([] : List Keyword).isEmpty then 0 else 1) < 30)) = true := by rfl)
    (hline : (apos.endLine == cpos.line) = true := by rfl) (hs : starEach (e :: es) X.env = (false, eval e X.env) :: starEach es X.env := by rfl) (hplain : (backTo cpos (starEach es X.env)).any (·.1) = false := by rfl) :
    PE X (.Call (.Attribute o name apos) (e :: es) [] cpos) (tBM X.K T r to t) := by
  intro pins s σ H Q I h
  refine wpAny_Call_method_late hbase hfew hline rfl (thn (ho pins s σ H _ I h) fun v s1 ⟨x, H1, I1, r1, ty, q1⟩ => ?_)
  obtain ⟨h1, h2⟩ := tyV_is I1 r1 ty
  refine ⟨T, id, pa, slot, hty, h1, h2, ?_⟩
  have hA := ha cpos pins s1 σ H1 _ I1 q1
  rw [hs] at hA ⊢
  refine Calls.callWith_builtin (by show (false || (backTo cpos (starEach es X.env)).any (·.1)) = false; rw [hplain] <;> rfl) (Calls.evalArgs_plain ?_)
  exact thn hA fun us s2 ⟨vs, H2, I2, r2, q2⟩ => hm pins s2 σ H2 x vs v us Q I2 r1 r2 q2
/- xs.append(e), list.index on a module's tuple .. are MtR facts of 06m -/
end
end L2

namespace L2
open PySem PySem.Spec PyProof.Rows

def MtM (X : Cx) (id : String) (r : V → List V → Hp → VK → Prop) : Prop :=
  ∀ (pins : List (Addr × Obj)) (s : Shared) (σ : St) (H : Hp) (x : V) (xs : List V) (v : Value) (us : List Value) (Q : VK), Inv X pins σ H s → RelV x v → Vals xs us → r x xs H Q →
    wpAny (model X.prog X.w) X.A (call (.builtin id) (v :: us)) (EP X pins σ Q) X.xe s

/-! ### lists of values -/
theorem Vals.one : ∀ {x : V} {us : List Value}, Vals [x] us → ∃ u, us = [u] ∧ RelV x u
  | _, _, .cons r .nil => ⟨_, rfl, r⟩
theorem Vals.two : ∀ {x y : V} {us : List Value}, Vals [x, y] us → ∃ u v, us = [u, v] ∧ RelV x u ∧ RelV y v
  | _, _, _, .cons r (.cons q .nil) => ⟨_, _, rfl, r, q⟩
theorem Vals.zero : ∀ {us : List Value}, Vals [] us → us = []
  | _, .nil => rfl
theorem Vals.dropLast {xs : List V} {us : List Value} (h : Vals xs us) : Vals xs.dropLast us.dropLast := by
  induction h with
  | nil => exact .nil
  | cons r t ih =>
    cases t with
    | nil => exact .nil
    | cons q t' => exact .cons r ih
theorem Vals.eraseIdx : ∀ {xs : List V} {us : List Value} (i : Nat), Vals xs us → Vals (xs.eraseIdx i) (us.eraseIdx i)
  | _, _, _, .nil => .nil
  | _, _, 0, .cons _ t => t
  | _, _, i + 1, .cons r t => .cons r (Vals.eraseIdx i t)
theorem Vals.reverse {xs : List V} {us : List Value} (h : Vals xs us) : Vals xs.reverse us.reverse := by
  induction h with
  | nil => exact .nil
  | cons r t ih => rw [List.reverse_cons, List.reverse_cons]; exact Vals.append ih (.cons r .nil)
theorem len_erase {α : Type} : ∀ (l : List α) (i : Nat), (l.eraseIdx i).length ≤ l.length
  | [], _ => Nat.le_refl _
  | _ :: _, 0 => Nat.le_succ _
  | _ :: r, i + 1 => Nat.succ_le_succ (len_erase r i)
section
variable {X : Cx} {pins : List (Addr × Obj)} {σ : St} {H : Hp} {s : Shared} {l b : Addr} {xs ys zs : List V}

/-! ### the two steps: a tracked list is rewritten, a new list is laid -/
theorem Inv.lset {its its' : List Value} {n : Nat} {f : Array Value → Array Value} {t' : Nat} (I : Inv X pins σ H s) (hH : H l = some (.lst xs))
    (e : s.heap.get? l = some { cls := .type "list", data := .seq its.toArray n }) (hf : f its.toArray = its'.toArray) (hv : Vals ys its') (hz : ys.length ≤ sizeLine) :
    Inv X pins σ (upd H l (.lst ys)) { s with heap := s.heap.update l (Obj.mapSeq f), toks := t' } := by
  have q := PySem.IsL.update e f
  rw [hf] at q
  refine I.write (x := l) (e := l) (by rw [hH]; exact trivial) (.inl rfl) (fun b' u hb hu => (Heap.get?_update_other s.heap (Obj.mapSeq f) (Ne.symm hb)).trans hu) ⟨_, q⟩ ?_
  exact ⟨hz, its', _, hv, q⟩
theorem Inv.lnew {its : List Value} {t' : Nat} (I : Inv X pins σ H s) (hv : Vals ys its) (hz : ys.length ≤ sizeLine) :
    Inv X pins σ (upd H s.heap.objs.size (.lst ys)) { s with heap := s.heap.push { cls := .type "list", data := .seq its.toArray }, toks := t' } :=
  I.laid (fun _ _ q => Heap.get?_push_of_some _ q) (Nat.le_refl _) ⟨hz, its, 0, hv, Heap.get?_push_size _ rfl⟩
theorem Inv.fresh (I : Inv X pins σ H s) : H s.heap.objs.size = none := I.hok.fresh (Nat.le_refl _)
theorem Inv.lstM (I : Inv X pins σ H s) (hH : H l = some (.lst xs)) : xs.length ≤ sizeLine ∧ ∃ (its : List Value) (n : Nat), Vals xs its ∧ xs.length = its.length ∧ s.heap.get? l = some { cls := .type "list", data := .seq its.toArray n } := by
  obtain ⟨z, its, n, r, e⟩ := I.hok l _ hH
  exact ⟨z, its, n, r, r.length, e⟩

theorem notLongL {n : Nat} (h : n ≤ sizeLine) : Builtin.List.listTooLong n = false := by
  unfold Builtin.List.listTooLong
  exact decide_eq_false (by omega)
end

section
variable {X : Cx}

/-! ### methods -/
def rAppend : V → List V → Hp → VK → Prop := fun x vs H Q => ∃ l xs y, x = .ref l ∧ vs = [y] ∧ H l = some (.lst xs) ∧ xs.length < sizeLine ∧ Q .non (upd H l (.lst (xs ++ [y])))
theorem mt_append : MtM X "list.append" rAppend := by
  intro pins s σ H x vs v us Q I rx rv h
  obtain ⟨l, xs, y, rfl, rfl, hH, hz, q⟩ := h
  cases rx
  obtain ⟨u, rfl, ru⟩ := rv.one
  obtain ⟨z, its, n, r, hl, e⟩ := I.lstM hH
  refine call_meets F.slot_list_append ⟨_, e, rfl⟩ F.entry_list_append (F.args_list_append_2 _ _) (PySem.list_append l its.toArray n u (by rw [List.size_toArray]; omega)) ⟨e, ?_⟩
  refine ⟨.non, _, I.lset (its' := its ++ [u]) hH e (by simp) (r.append (.cons ru .nil)) ?_, rfl, q⟩
  rw [List.length_append, List.length_singleton]
  omega

def rExtend : V → List V → Hp → VK → Prop := fun x vs H Q => ∃ l b xs zs, x = .ref l ∧ vs = [.ref b] ∧ H l = some (.lst xs) ∧ H b = some (.lst zs) ∧ xs.length + zs.length ≤ sizeLine ∧ Q .non (upd H l (.lst (xs ++ zs)))
def rPop : V → List V → Hp → VK → Prop := fun x vs H Q => ∃ l xs y, x = .ref l ∧ vs = [] ∧ H l = some (.lst xs) ∧ xs[xs.length - 1]? = some y ∧ Q y (upd H l (.lst xs.dropLast))
def rPopAt : V → List V → Hp → VK → Prop := fun x vs H Q => ∃ l xs i k y, x = .ref l ∧ vs = [.int i] ∧ H l = some (.lst xs) ∧ -(2 ^ 63) ≤ i ∧ i < 2 ^ 63 ∧ seqIndex? i xs.length = some k ∧ xs[k]? = some y ∧ Q y (upd H l (.lst (xs.eraseIdx k)))
theorem mt_popAt : MtM X "list.pop" rPopAt := by
  intro pins s σ H x vs v us Q I rx rv h
  obtain ⟨l, xs, i, k, y, rfl, rfl, hH, h1, h2, hk, hy, q⟩ := h
  cases rx
  obtain ⟨u, rfl, ru⟩ := rv.one
  obtain ⟨t, rfl⟩ := ru
  obtain ⟨z, its, n, r, hl, e⟩ := I.lstM hH
  obtain ⟨w, hw, rw'⟩ := r.get hy
  refine call_meets F.slot_list_pop ⟨_, e, rfl⟩ F.entry_list_pop (F.args_list_pop_2 _ _)
    (MeetsSeq.list_pop_at l its.toArray n i t k w (fitsIndex_both h1 h2) (by rw [List.size_toArray, ← hl]; exact hk) (by rw [← Array.getElem?_toList]; exact hw) (by rw [List.size_toArray]; omega)) ⟨e, ?_⟩
  refine ⟨y, _, I.lset (its' := its.eraseIdx k) hH e ?_ (r.eraseIdx k) ?_, rw', q⟩
  · show its.toArray.eraseIdxIfInBounds k = (its.eraseIdx k).toArray
    rw [List.eraseIdxIfInBounds_toArray]
  · have := len_erase xs k
    omega

def rReverse : V → List V → Hp → VK → Prop := fun x vs H Q => ∃ l xs, x = .ref l ∧ vs = [] ∧ H l = some (.lst xs) ∧ Q .non (upd H l (.lst xs.reverse))
def rClear : V → List V → Hp → VK → Prop := fun x vs H Q => ∃ l xs, x = .ref l ∧ vs = [] ∧ H l = some (.lst xs) ∧ Q .non (upd H l (.lst []))
/-! ### list + list, list += list, list * int -/
def rCat : R2 := fun x y H Q => ∃ l b xs zs, x = .ref l ∧ y = .ref b ∧ H l = some (.lst xs) ∧ H b = some (.lst zs) ∧ xs.length + zs.length ≤ sizeLine ∧ ∀ p, H p = none → Q (.ref p) (upd H p (.lst (xs ++ zs)))
theorem op_cat : OpR X (binaryOp .Add) rCat := by
  intro pins s σ H x y v u Q I rx ry h
  obtain ⟨l, b, xs, zs, rfl, rfl, hH, hB, hz, q⟩ := h
  cases rx
  cases ry
  obtain ⟨z, its, n, r, hl, e⟩ := I.lstM hH
  obtain ⟨z2, its2, n2, r2, hl2, e2⟩ := I.lstM hB
  refine PySem.P.add_list e e2 ?_ (by rw [List.size_toArray, List.size_toArray]; omega)
  have ea : its.toArray ++ its2.toArray = (its ++ its2).toArray := by simp
  rw [ea]
  exact ⟨.ref _, _, I.lnew (t' := s.toks) (r.append r2) (by rw [List.length_append]; omega), rfl, q _ I.fresh⟩
/-- a list times an int (a negative one is nothing) -/
def rRep : R2 := fun x y H Q => ∃ l k xs, x = .ref l ∧ y = .int k ∧ H l = some (.lst xs) ∧ -(2 ^ 63) ≤ k ∧ k < 2 ^ 63 ∧ xs.length * k.toNat ≤ sizeLine ∧
  ∀ p, H p = none → Q (.ref p) (upd H p (.lst (List.replicate k.toNat xs).flatten))
/-! ### del xs[i] -/
end

/-! ### xs[a:b] = ys -/
section
variable {prog : Program} {w : World} {A : Around} {E : Value → Shared → Prop} {s : Shared}
end

section
variable {X : Cx}
end
end L2

namespace Att
open PySem PySem.W PySem.Calls PyProof.Rows

/-! ### the script -/
theorem ints_of_wellAll {P : Params} {h : Heap} : ∀ (ns : List Int) (vs : List Value), WellAll P h vs (ns.map WData.int) → IntsAre vs ns := by
  intro ns
  induction ns with
  | nil =>
    intro vs w
    rw [List.map_nil] at w
    cases w
    exact .nil
  | cons n ns ih =>
    intro vs w
    rw [List.map_cons] at w
    cases w with
    | cons a b =>
      cases a
      exact .cons _ _ (ih _ b)

theorem script_of {l : OpenLaw} {n : Nat} (hn : l.most = some n) {P : Params} {h : Heap} {args : List WData} {vals : List Value}
    (hpre : l.row.toRowW.claim.pre args = true) (hwl : WellAll P h vals args) :
    ∃ a vs ns, vals = [Value.ref a] ∧ args = [WData.list (ns.map WData.int)] ∧ h.get? a = some { cls := .type "list", data := .seq vs.toArray } ∧ IntsAre vs ns ∧ ns.length ≤ n := by
  have hsh : WShape.hasAll [] args [.list .int] = true := (pre_splitW hpre).1
  have hc : l.pre.holds [] { args := args } = true := (pre_splitW hpre).2
  obtain ⟨d, r, rfl, h1, h2⟩ := hasAllW_cons hsh
  obtain rfl := hasAllW_nil h2
  obtain ⟨xs, rfl, h3⟩ := hasW_list h1
  obtain ⟨ns, rfl⟩ := items_int h3
  have hlen : ns.length ≤ n := by
    unfold OpenLaw.pre at hc
    have h4 : (WTm.not (.lt (.lit (.int (n : Int))) (.len (.arg 0)))).holds [] { args := [.list (ns.map .int)] } = true := by
      have h4 := (holds_andW hc).1
      rw [hn] at h4
      exact h4
    have h5 := condW_of h4 (w_not (w_lt w_lit (w_len_list (w_arg rfl))))
    rw [List.length_map] at h5
    refine Nat.le_of_not_lt fun q => ?_
    have q' : (n : Int) < ((ns.length : Nat) : Int) := by omega
    first
      | (rw [decide_eq_true q'] at h5; exact absurd h5 (by decide))
      | (simp at h5; omega)
  cases hwl with
  | cons w1 w2 =>
    cases w2
    cases w1 with
    | list ho hall => exact ⟨_, _, ns, rfl, rfl, ho, ints_of_wellAll ns _ hall, hlen⟩

theorem post_true (l : OpenLaw) (args : List WData) : l.row.toRowW.claim.post args (.bool true) args = true :=
  postW_of (r := l.row.toRowW) (X := (true == true))
    (show WShape.has [] (.bool true) .bool = true by first | rfl | decide | simp [WShape.has, WShape.arms, WShape.armsAll])
    (show (WTm.eq .res (.lit (.bool true))).value [] { args := args, res := some (.bool true), after := args } = some (.bool (true == true)) from w_eq_bool (w_res rfl) w_lit) rfl

/-! ### the attachment: holds_open's last premise (the goal 'hc' behind k_head) from a wpAny of the law's body -/
/-- the same from a codeAny of the CALL (for a layer whose function contracts speak of calls) -/
theorem attach_call {l : OpenLaw} {n : Nat} {q : Program} {loose : List Str} {XP : (Str → Option Value) → Heap → Prop} {YP : World → Heap → Prop} {d : DefRec}
    (hn : l.most = some n) (hdf : d.params.defaults = [])
    (call : ∀ (w : World) (s₀ s₁ : Shared) (mg mb : Str → Option Value) (fa : Addr) (o : Obj) (pm cd doc : Value) (a : Addr) (vs : List Value) (ns : List Int),
      Ground q loose [] XP w s₀ mg mb s₁.heap → YP w s₁.heap →
      s₁.heap.get? fa = some o → o.data = .func (docDef d.name d.params d.body d.scope pm cd doc) → s₁.heap.CodeRec cd d.name → mg d.name = some (.ref fa) →
      s₁.heap.get? a = some { cls := .type "list", data := .seq vs.toArray } → IntsAre vs ns → ns.length ≤ n → s₁.gens = #[] →
      codeAny (model l.prog w) callerA (.call (.ref fa) ⟨[.ref a], []⟩) (fun r s' => r = .ok (.ret (.bool true)) ∧ OldK s₁.heap s'.heap ∧ s'.os = s₁.os ∧ AllBare s'.gens) s₁) :
    WalkO q loose XP YP l.row.toRowW d [] (fun f vs => PySem.call f vs) := by
  intro w s₀ s₁ mg mb G Y fa o pm cd doc dV kV ho hd hcd hD hmg hg args vals as hpre hlay hrd hwl hlo
  obtain rfl : dV = .none := Dflts.none hD hdf
  obtain rfl : kV = .none := Dflts.noKw hD
  obtain ⟨a, vs, ns, rfl, rfl, hobj, hints, hlen⟩ := script_of hn hpre hwl
  refine enter_call (codeAny_mono (call w s₀ s₁ mg mb fa o pm cd doc a vs ns G Y ho (fd_plain hd) hcd hmg hobj hints hlen hg) fun r s' hq => ?_)
  obtain ⟨rfl, h2, h3, h4⟩ := hq
  exact ⟨.inl ⟨.bool true, .bool true, [], rfl, fun _ => rfl, .bool true, post_true l _, fun _ => ⟨List.Pairwise.nil, fun _ hm => (nomatch hm)⟩⟩, h2, h3, h4⟩

/-! ### rules over ANY heap (no ledger) from facts about the written part K: the library's own take a ledger (News) for what they write -/
section
variable {prog : Program} {w : World} {A : Around} {E : Value → Shared → Prop} {s : Shared} {K : Frag}

/-! the whole heap as the ledger: makes every rule that writes through a ledger a rule over any heap -/
def noObjs (h : Heap) : Heap := { h with objs := #[] }
def ledger (h : Heap) (L d : Addr) : List (Addr × Obj) := (List.range h.objs.size).filterMap fun a => if a = L ∨ a = d then none else (h.get? a).map fun o => (a, o)
end
end Att

namespace L2
open PySem PySem.Spec PyProof.Rows

theorem vals_ints : ∀ {vs : List Value} {ns : List Int}, IntsAre vs ns → Vals (ns.map V.int) vs
  | _, _, .nil => .nil
  | _, _, .cons n t h => .cons ⟨t, rfl⟩ (vals_ints h)

/-- nothing is tracked but the script, known to the object (or it is an object of the module) -/
def Only (H : Hp) : Prop := ∀ b, H b = none ∨ ∃ o xs, H b = some (.frz o (.lst xs))

/-- THE HEAD: the law's promise, at the heap behind the top. F, the promise of the law's def, may use that base is part of the heap (so K.In base, base.Ns mainGlobals mg stand in Mod) -/
theorem law_call {P : Program} {w : World} {K : PySem.W.Frag} {mg mb : Str → Option Value} {CX : CXT} {k : Nat} {fa a : Addr} {fd : FuncData} {x : Str} {sp : Sp} {s₁ : Shared} {vs : List Value} {ns : List Int}
    (KX : K.In s₁.heap) (hns : s₁.heap.Ns mainGlobals mg) (hb : s₁.heap.Ns builtinsNs mb) (hbb : ∀ x : Str, x ≠ "__name__" → mb x = bootBuiltins x) (hlim : s₁.heap.NoLimit) (hg : s₁.gens = #[])
    (ha : s₁.heap.get? a = some { cls := .type "list", data := .seq vs.toArray }) (hi : IntsAre vs ns) (hl : ns.length ≤ sizeLine) (hr : Room k callerA)
    (F : ∀ base : Heap, K.In base → base.Ns mainGlobals mg → FnOk P w K mg base CX k fa fd [x] sp) (hbind : ∀ (s : Shared) (u : Value), BindsTo s fd ⟨[u], []⟩ [(x, u)])
    (hsp : ∀ H : Hp, Only H → SqL K H a (ns.map V.int) → sp [.ref a] H (fun v _ => v = .bl true) fun _ _ _ => False)
    (hCX : ∀ H e s', CX [] H s₁ (fun _ _ _ => False) e s' → False) :
    codeAny (model P w) callerA (.call (.ref fa) ⟨[.ref a], []⟩) (fun r s' => r = .ok (.ret (.bool true)) ∧ OldK s₁.heap s'.heap ∧ s'.os = s₁.os ∧ AllBare s'.gens) s₁ := by
  have rv := vals_ints hi
  have lenV := hi.length
  -- from an abstract heap in which nothing but the script may be tracked
  have core : ∀ H : Hp, Only H → SqL K H a (ns.map V.int) → HOk P w H s₁.heap → (∀ b, H b ≠ none → b = a) → (H a ≠ none → K.lookup a = none) →
      codeAny (model P w) callerA (.call (.ref fa) ⟨[.ref a], []⟩) (fun r s' => r = .ok (.ret (.bool true)) ∧ OldK s₁.heap s'.heap ∧ s'.os = s₁.os ∧ AllBare s'.gens) s₁ := by
    intro H hO hS hok hA hK
    have base_of : ∀ {b : Addr} {o : Obj}, s₁.heap.get? b = some o → H b = none → (hidT s₁.heap H).get? b = some o := fun e n => hidT_get e n
    have noA : ∀ {b : Addr} {o : Obj} {es : Array DictEntry} {ep : Nat}, s₁.heap.get? b = some o → o.data = .dict es ep → H b = none := fun {b o es ep} e d => by
      cases q : H b with
      | none => rfl
      | some u =>
        have e' : b = a := hA b (by rw [q]; simp)
        subst e'
        rw [ha] at e; cases e
        have d' : Data.seq vs.toArray _ = Data.dict es ep := d
        cases d'
    have nsK : ∀ {b : Addr} {m : Str → Option Value}, s₁.heap.Ns b m → (hidT s₁.heap H).Ns b m := fun {b m} ⟨o, es, ep, e, d, r⟩ => ⟨o, es, ep, base_of e (noA e d), d, r⟩
    have hKb : K.In (hidT s₁.heap H) := fun b o e => base_of (KX b o e) (by
      cases q : H b with
      | none => rfl
      | some u =>
        have e' : b = a := hA b (by rw [q]; simp)
        subst e'
        rw [hK (by rw [q]; simp)] at e; cases e)
    have hM : Mod K mg (hidT s₁.heap H) := ⟨hKb, nsK hns, ⟨mb, nsK hb, hbb⟩, let ⟨mc, h1, h2⟩ := hlim; ⟨mc, nsK h1, h2⟩⟩
    have e0 : Env0 P w K mg (hidT s₁.heap H) callerA [] s₁ H := ⟨rfl, hM, fun b o e => of_hidT e, Nat.le_of_eq (hidT_size _ _), trivial, fun b hb => absurd (show b ∈ ([] : List Addr) from hb) (by simp), hok, .of_eq hg⟩
    refine codeAny_mono ((F _ hKb (nsK hns)).run callerA [] s₁ H ⟨[.ref a], []⟩ [.ref a] [.ref a] _ _ hr e0 (hbind s₁ (.ref a)) (.cons rfl .nil) (hsp H hO hS)) fun r s' h => ?_
    cases r with
    | error e => exact (hCX H e s' h).elim
    | ok fl =>
      cases fl with
      | next => exact False.elim h
      | brk => exact False.elim h
      | cont => exact False.elim h
      | ret u =>
        obtain ⟨v, H', os, bare, un, hok', r', q⟩ := h
        have q' : v = .bl true := q
        subst q'
        obtain rfl : u = Value.bool true := r'
        refine ⟨rfl, OldK.of_keep fun b o e => ?_, os, bare⟩
        cases q : H b with
        | none => exact un.keep b o e q (by intro z; exact absurd (show b ∈ ([] : List Addr) from z) (by simp)) (by simp)
        | some u =>
          rcases hO b with z | ⟨ob, xs, z⟩
          · rw [q] at z; cases z
          · have z2 := un.frzs b ob _ z
            obtain ⟨e1, _⟩ := hok b _ z
            obtain ⟨e2, _⟩ := hok' b _ z2
            rw [e] at e1; cases e1
            exact e2
  cases hk : K.lookup a with
  | some o =>
    -- the script is one of the module's own objects
    have e := KX a o hk
    rw [ha] at e
    cases e
    refine core (fun _ => none) (fun _ => .inl rfl) (.inr ⟨_, vs.toArray, _, hk, rfl, rfl, rfl, by rw [List.size_toArray, lenV]; exact hl, by simpa using rv⟩) (fun b u z => by have z' : (none : Option HO) = some u := z; cases z') (fun b z => absurd rfl z) fun z => absurd rfl z
  | none =>
    refine core (fun b => if b = a then some (.frz { cls := .type "list", data := .seq vs.toArray } (.lst (ns.map V.int))) else none) (fun b => ?_) (.inl (.inr ⟨{ cls := .type "list", data := .seq vs.toArray }, if_pos rfl⟩)) (fun b u z => ?_) (fun b z => ?_) fun _ => hk
    · by_cases hb : b = a
      · exact .inr ⟨_, _, if_pos hb⟩
      · exact .inl (if_neg hb)
    · by_cases hb : b = a
      · have z' := (if_pos hb).symm.trans z
        cases z'
        subst hb
        exact ⟨ha, by rw [List.length_map]; exact hl, vs, _, rv, ha⟩
      · have z' := (if_neg hb).symm.trans z
        cases z'
    · by_cases hb : b = a
      · exact hb
      · exact absurd (if_neg hb) z
end L2

namespace L2
open PySem PySem.Spec PyProof.Rows

abbrev KOf {K : PySem.W.Frag} {h : Heap} (_ : K.In h) : PySem.W.Frag := K

/-- the goal that k_head leaves (case hc), from the law's promise. F gives the function object fd (K's own) once, then the promise over every base -/
theorem walk_of {l : PySem.W.OpenLaw} {n k : Nat} {q : Program} {loose : List Str} {XP : (Str → Option Value) → Heap → Prop} {YP : World → Heap → Prop} {d : DefRec} {K : Params → PySem.W.Frag} {CX : World → CXT} {sp : World → Sp} {x : Str}
    (hn : l.most = some n) (hn2 : n ≤ sizeLine) (hdf : d.params.defaults = []) (hr : Room k callerA)
    (hY : ∀ (w : World) (h : Heap), YP w h → (K w.params).In h)
    (F : ∀ (w : World) (mg : Str → Option Value) (fa : Addr) (h : Heap), (K w.params).In h → h.Ns mainGlobals mg → mg d.name = some (.ref fa) →
      ∃ fd : FuncData, (∀ (s : Shared) (u : Value), BindsTo s fd ⟨[u], []⟩ [(x, u)]) ∧
        ∀ base : Heap, (K w.params).In base → base.Ns mainGlobals mg → FnOk l.prog w (K w.params) mg base (CX w) k fa fd [x] (sp w))
    (hsp : ∀ (w : World) (H : Hp) (a : Addr) (ns : List Int), ns.length ≤ n → Only H → SqL (K w.params) H a (ns.map V.int) → sp w [.ref a] H (fun v _ => v = .bl true) fun _ _ _ => False)
    (hCX : ∀ (w : World) (H : Hp) (s : Shared) (e : Value) (s' : Shared), CX w [] H s (fun _ _ _ => False) e s' → False) :
    PySem.W.WalkO q loose XP YP l.row.toRowW d [] (fun f vs => PySem.call f vs) := by
  refine Att.attach_call hn hdf fun w s₀ s₁ mg mb fa o pm cd doc a vs ns G Y ho hd hcd hmg hobj hints hlen hg => ?_
  have KX := hY w _ Y
  obtain ⟨fd, hb, hF⟩ := F w mg fa _ KX G.T.g hmg
  exact law_call KX G.T.g G.T.b G.T.builtins G.T.nolimit hg hobj hints (Nat.le_trans hlen hn2) hr hF hb (fun H hO hS => hsp w H a ns hlen hO hS) fun H e s' => hCX w H s₁ e s'
end L2

/- THE LAST THEOREM (shape; LID, My.* are yours):
   My.Adr: a structure of the addresses that your layer names (classes, functions); My.Txt K t: a structure (Prop) of the equations over K;
   My.txt_mk : {K} {implicit addresses ..} (e1 : nsIn K mainGlobals "law" = some (some (.ref f))) (e2 : K.lookup f = some ⟨oc, od, .func (fnOf "law" "law" params body scope dV kV doc pm an cdv ct), sl⟩) (e3 : codeIn K cdv "law" = true) .. : ∃ t, My.Txt K t

set_option maxRecDepth 100000 in
set_option maxHeartbeats 0 in
theorem PySem.Challenge.cw_LID_holds : PySem.Challenge.rw_LID.Holds := by
  w_on; o_law; k_head; (case hw => w_witness2)
  k_fill
  refine L2.walk_of (l := PySem.Challenge.rw_LID) (n := 63) (k := 40) (x := "script") (CX := fun w => ..) (sp := fun _ => My.sp_law) rfl (by decide) rfl ⟨rfl, by decide, by decide⟩ (fun w h Y => PySem.W.kIn_of Y) ?F ?S ?C
  case F =>
    intro w mg fa h KX G hmg
    have T : ∃ t, My.Txt (L2.KOf KX) t := by
      dsimp only [L2.KOf]                          -- K must stand as «<heap const> w.params» for k_is
      refine' My.txt_mk ?e1 ?e2 ?e3 ..
      (case e1 => PySem.W.k_is)                    -- in the order: a name -> its address -> its object -> its parts
      (case e2 => PySem.W.k_is)
      ..
    obtain ⟨t, T⟩ := T
    have e0 := hmg.symm.trans (PySem.W.mg_of KX G T.law)
    cases e0                                       -- fa is the law's own address
    exact ⟨_, fun s u => .of_eq rfl, fun base kb nb => My.law_fn T kb nb⟩     -- if «.of_eq rfl» comes too early: refine' ⟨_, ?b, fun base kb nb => My.law_fn T kb nb⟩; exact fun s u => .of_eq rfl
  case S => exact fun w H a ns hl hO hS => ..
  case C => exact ..
(the tactic k_is has no namespace: write k_is) -/

/-! SHORT WORDS over the layer: a def of the text, its body, what a loop and a test want. -/
namespace L2
open PySem PySem.Spec PyProof.Rows

/-! ### the text by places -/
/-- the j-th statement of a class's body -/
def inClass (s : Stmt) (j : Nat) : Stmt := match s with
  | .ClassDef _ _ _ body _ _ _ _ _ _ _ => body.getD j (.Pass ⟨0, 0, 0, 0⟩)
  | _ => .Pass ⟨0, 0, 0, 0⟩
def defArgs (s : Stmt) : Arguments := match s with
  | .FunctionDef _ a _ _ _ _ _ _ _ _ => a
  | _ => { posonlyargs := [], args := [], vararg := none, kwonlyargs := [], kw_defaults := [], kwarg := none, defaults := [] }
def defBody (s : Stmt) : List Stmt := match s with
  | .FunctionDef _ _ b _ _ _ _ _ _ _ => b
  | _ => []
def defScope (s : Stmt) : Scope := match s with
  | .FunctionDef _ _ _ _ _ _ sc _ _ _ => sc
  | _ => { kind := .function, names := [], isGenerator := false, isCoroutine := false }

/-! ### no exception leaves a def -/
abbrev CX0 : CXT := fun _ _ _ _ _ _ => False
abbrev E0 : XK := fun _ _ _ => False
theorem pass0 {X : Cx} : Passes CX0 X E0 := fun _ _ _ _ _ _ _ h => h.elim

/-! ### a def (or method) of the text as it stands behind the top -/
structure Fun (K : PySem.W.Frag) (x qual : Str) (st : Stmt) (f : Addr) (fd : FuncData) : Prop where
  ex : ∃ (oc : Value) (od : Option Addr) (kV doc pm : Value) (an : Option Addr) (cdv ct : Value) (osl : Array (Option Value)),
    fd = PySem.W.fnOf x qual (defArgs st) (defBody st) (defScope st) .none kV doc pm an cdv ct ∧ K.lookup f = some ⟨oc, od, .func fd, osl⟩ ∧ PySem.W.codeIn K cdv qual = true
  kp : PySem.W.keepIn K (.ref f) = true
section
variable {P : Program} {w : World} {K : PySem.W.Frag} {mg : Str → Option Value} {base : Heap}
/-- THE RULE for a def: its body as a term of rules, and the reading of that term -/
theorem Fun.ok {x qual : Str} {st : Stmt} {f : Addr} {fd : FuncData} {N ps : List Str} {k : Nat} {sp : Sp} (F : Fun K x qual st f fd) (S : FnScope N ps (defScope st)) (len : ∀ vs H Q E, sp vs H Q E → vs.length = ps.length)
    (hbody : ∀ (cdv : Value) (A : Around) (outer : List Env) (s : Shared) (H : Hp) (vs : List V) (Q : VK) (E : XK), Room k (A.deeper (envOfC qual (defScope st) s.heap.objs.size f cdv)) → sp vs H Q E →
      ∃ t, PSs (cxOf CX0 P w K mg base N qual (defScope st) f cdv A outer s H E).nox (defBody st) t ∧ t { nx := fun _ H' => Q .non H', rt := Q } (start N vs) H) : FnOk P w K mg base CX0 (k + 1) f fd ps sp := by
  obtain ⟨oc, od, kV, doc, pm, an, cdv, ct, osl, rfl, lk, hcd⟩ := F.ex
  refine fn_of lk hcd S len fun A outer s H vs Q E hr hsp => ?_
  obtain ⟨t, h, q⟩ := hbody cdv A outer s H vs Q E hr hsp
  exact ⟨t, h.nox, q⟩
/-- how its arguments bind (no defaults): h is «fun _ _ _ _ _ _ us hl => match us, hl with | [_, _], _ => rfl», one _ a parameter -/
theorem Fun.binds {x qual : Str} {st : Stmt} {f : Addr} {fd : FuncData} {ps : List Str} (F : Fun K x qual st f fd)
    (h : ∀ (kV doc pm : Value) (an : Option Addr) (cdv ct : Value) (us : List Value), us.length = ps.length → bindArgs (PySem.W.fnOf x qual (defArgs st) (defBody st) (defScope st) .none kV doc pm an cdv ct) ⟨us, []⟩ = pure (ps.zip us)) : Binds K fd ps [] := by
  obtain ⟨oc, od, kV, doc, pm, an, cdv, ct, osl, rfl, lk, hcd⟩ := F.ex
  exact .all (h kV doc pm an cdv ct)
theorem fun_mk {x qual : Str} {st : Stmt} {f : Addr} {oc : Value} {od an : Option Addr} {osl : Array (Option Value)} {kV doc pm cdv ct : Value} (l : K.lookup f = some ⟨oc, od, .func (PySem.W.fnOf x qual (defArgs st) (defBody st) (defScope st) .none kV doc pm an cdv ct), osl⟩)
    (c : PySem.W.codeIn K cdv qual = true) (k : PySem.W.keepIn K (.ref f) = true) : Fun K x qual st f (PySem.W.fnOf x qual (defArgs st) (defBody st) (defScope st) .none kV doc pm an cdv ct) := ⟨⟨oc, od, kV, doc, pm, an, cdv, ct, osl, rfl, l, c⟩, k⟩
end
theorem hu_of {A : Around} {k : Nat} (hr : Room k A) : A.units + 1 < cLine := Nat.lt_of_le_of_lt (Nat.add_le_add_left (by decide : 1 ≤ 64) _) hr.units
/-! ### expressions in short: the name that stands in the i-th slot -/
section
variable {X : Cx}
theorem pv (i : Nat) {x : Str} {pos : Pos} (hN : X.N[i]? = some x := by rfl) (hv : Vis X.env.scope x := by first | exact Or.inl rfl | exact Or.inr (Or.inl rfl) | exact Or.inr (Or.inr rfl)) (hd : (x == ("__debug__" : Str)) = false := by decide)
    (hcd : (x == ("__classdict__" : Str)) = false := by decide) : PE X (.Name x pos) (tVar i) := pe_var hN hv hd hcd
end

/-! ### tests -/
theorem iteF {A B : Prop} (h : B) : if false = true then A else B := by
  rw [if_neg Bool.false_ne_true]
  exact h
theorem iteT {A B : Prop} (h : A) : if true = true then A else B := by
  rw [if_pos rfl]
  exact h
theorem ite2 {c A B : Prop} [Decidable c] (h1 : c → A) (h2 : ¬ c → B) : if c then A else B := by
  by_cases h : c
  · rw [if_pos h]
    exact h1 h
  · rw [if_neg h]
    exact h2 h
/-! ### heaps -/
/-- all that was tracked is as it was -/
def Same (H H' : Hp) : Prop := ∀ b o, H b = some o → H' b = some o
theorem Same.refl (H : Hp) : Same H H := fun _ _ h => h
theorem Same.trans {H H1 H2 : Hp} (a : Same H H1) (b : Same H1 H2) : Same H H2 := fun c o h => b c o (a c o h)
theorem Same.free {H H' : Hp} (e : Same H H') {l : Addr} (h : H' l = Option.none) : H l = Option.none := by
  cases q : H l with
  | none => rfl
  | some o =>
    rw [e l o q] at h
    cases h
theorem Same.seq {K : PySem.W.Frag} {H H' : Hp} {a : Addr} {xs : List V} (e : Same H H') (h : SqL K H a xs) : SqL K H' a xs := by
  rcases h with (h | ⟨o, h⟩) | h
  · exact .inl (.inl (e _ _ h))
  · exact .inl (.inr ⟨o, e _ _ h⟩)
  · exact .inr h

end L2

set_option Elab.async false
set_option linter.all false
set_option maxRecDepth 100000
namespace L2
open PySem PySem.Spec PyProof.Rows

/-! ### lists of pairs as tables -/
section
variable {κ : Type} [DecidableEq κ]
def valV (kvs : List (κ × V)) (k : κ) : Option V := (kvs.find? fun kv => decide (kv.1 = k)).map (·.2)
/-- in its place, or at the end -/
def putK (kvs : List (κ × V)) (k : κ) (v : V) : List (κ × V) :=
  if (kvs.any fun kv => decide (kv.1 = k)) = true then kvs.map (fun kv => if kv.1 = k then (kv.1, v) else kv) else kvs ++ [(k, v)]
def dropK (kvs : List (κ × V)) (k : κ) : List (κ × V) := kvs.filter fun kv => decide (kv.1 ≠ k)

theorem valV_pos {p : κ × V} {r : List (κ × V)} {k : κ} (e : p.1 = k) : valV (p :: r) k = some p.2 := by simp [valV, List.find?_cons, e]
theorem valV_neg {p : κ × V} {r : List (κ × V)} {k : κ} (e : ¬ p.1 = k) : valV (p :: r) k = valV r k := by simp [valV, List.find?_cons, e]
theorem valV_any (k : κ) : ∀ kvs : List (κ × V), (kvs.any fun kv => decide (kv.1 = k)) = (valV kvs k).isSome
  | [] => rfl
  | p :: r => by
    rw [List.any_cons]
    by_cases e : p.1 = k
    · simp only [valV_pos e, decide_eq_true e, Bool.true_or, Option.isSome_some]
    · rw [valV_neg e, decide_eq_false e, Bool.false_or]; exact valV_any k r
theorem length_putK (kvs : List (κ × V)) (k : κ) (v : V) : (putK kvs k v).length ≤ kvs.length + 1 := by
  unfold putK
  split
  · rw [List.length_map]; omega
  · rw [List.length_append, List.length_cons, List.length_nil]; omega
theorem putK_new {kvs : List (κ × V)} {k : κ} (v : V) (h : valV kvs k = none) : putK kvs k v = kvs ++ [(k, v)] := by
  unfold putK
  rw [valV_any, h]
  exact if_neg (by decide)

theorem RelO.isSome_eq {o : Option V} {u : Option Value} (r : RelO o u) : o.isSome = u.isSome := by
  cases o with
  | none => cases u with
    | none => rfl
    | some _ => exact (show False from r).elim
  | some _ => cases u with
    | none => exact (show False from r).elim
    | some _ => rfl
theorem RelO.getD {o : Option V} {u : Option Value} {d : V} {d' : Value} (r : RelO o u) (rd : RelV d d') : RelV (o.getD d) (u.getD d') := by
  cases o with
  | none => cases u with
    | none => exact rd
    | some _ => exact (show False from r).elim
  | some _ => cases u with
    | none => exact (show False from r).elim
    | some _ => exact r

/-- raw tables of the same keys -/
theorem KV.val {kvs : List (κ × V)} {vs : List (κ × Value)} (r : KV kvs vs) (k : κ) : RelO (valV kvs k) (valueAt vs k) := by
  unfold KV at r
  induction r with
  | nil => exact True.intro
  | @cons p q ps qs h t ih =>
    obtain ⟨h1, h2⟩ := h
    by_cases e : p.1 = k
    · have e' : q.1 = k := h1.symm.trans e
      have b : valueAt (q :: qs) k = some q.2 := by simp [valueAt, List.find?_cons, e']
      rw [valV_pos e, b]; exact h2
    · have e' : ¬ q.1 = k := fun z => e (h1.trans z)
      have b : valueAt (q :: qs) k = valueAt qs k := by simp [valueAt, List.find?_cons, e']
      rw [valV_neg e, b]; exact ih
theorem KV.any {kvs : List (κ × V)} {vs : List (κ × Value)} (r : KV kvs vs) (k : κ) : (kvs.any fun kv => decide (kv.1 = k)) = vs.any fun kv => decide (kv.1 = k) := by
  unfold KV at r
  induction r with
  | nil => rfl
  | cons h t ih => rw [List.any_cons, List.any_cons, ih, h.1]
theorem KV.repl {kvs : List (κ × V)} {vs : List (κ × Value)} (r : KV kvs vs) (k : κ) {y : V} {u : Value} (ry : RelV y u) :
    KV (kvs.map fun kv => if kv.1 = k then (kv.1, y) else kv) (vs.map fun kv => if kv.1 = k then (kv.1, u) else kv) := by
  unfold KV at r ⊢
  induction r with
  | nil => exact .nil
  | @cons p q ps qs h t ih =>
    rw [List.map_cons, List.map_cons]
    refine .cons ?_ ih
    obtain ⟨h1, h2⟩ := h
    by_cases e : p.1 = k
    · rw [if_pos e, if_pos (h1.symm.trans e)]; exact ⟨h1, ry⟩
    · rw [if_neg e, if_neg (fun z => e (h1.trans z))]; exact ⟨h1, h2⟩
theorem KV.put {kvs : List (κ × V)} {vs : List (κ × Value)} (r : KV kvs vs) (k : κ) {y : V} {u : Value} (ry : RelV y u) : KV (putK kvs k y) (stored vs k u) := by
  unfold putK stored
  rw [r.any k]
  by_cases e : (vs.any fun kv => decide (kv.1 = k)) = true
  · rw [if_pos e, if_pos e]; exact r.repl k ry
  · rw [if_neg e, if_neg e]; exact Paired.snoc r ⟨rfl, ry⟩
theorem KV.drop {kvs : List (κ × V)} {vs : List (κ × Value)} (r : KV kvs vs) (k : κ) : KV (dropK kvs k) (without vs k) := by
  unfold KV at r ⊢
  unfold dropK without
  induction r with
  | nil => exact .nil
  | @cons p q ps qs h t ih =>
    obtain ⟨h1, h2⟩ := h
    rw [List.filter_cons, List.filter_cons]
    by_cases e : p.1 = k
    · have a : ¬ decide (p.1 ≠ k) = true := by simp [e]
      have b : ¬ decide (q.1 ≠ k) = true := by simp [h1.symm.trans e]
      rw [if_neg a, if_neg b]; exact ih
    · have e' : ¬ q.1 = k := fun z => e (h1.trans z)
      have a : decide (p.1 ≠ k) = true := by simp [e]
      have b : decide (q.1 ≠ k) = true := by simp [e']
      rw [if_pos a, if_pos b]; exact .cons ⟨h1, h2⟩ ih
theorem KV.keys {kvs : List (κ × V)} {vs : List (κ × Value)} (r : KV kvs vs) : kvs.map (·.1) = vs.map (·.1) := by
  unfold KV at r
  induction r with
  | nil => rfl
  | cons h t ih => rw [List.map_cons, List.map_cons, ih, h.1]
theorem KV.length {kvs : List (κ × V)} {vs : List (κ × Value)} (r : KV kvs vs) : kvs.length = vs.length := Paired.length r
end


/-! ### a tracked dict, its keys ints and texts or tuples of these -/
theorem kV_is {P : Program} {w : World} {k : Key} {u : Value} (r : RelV (kV k) u) : (mixKind P w).is k u = true := by
  cases k with
  | inl i => obtain ⟨t, e⟩ := (show ∃ t, u = Value.int i t from r); subst e; exact mixKind_int P w i t
  | inr x => obtain ⟨t, e⟩ := (show ∃ t, u = Value.str x t from r); subst e; exact mixKind_str P w x t
theorem items_are {P : Program} {w : World} : ∀ {ks : List Key} {us : List Value}, Vals (ks.map kV) us → ItemsAre (mixKind P w) ks us
  | [], _, r => by rw [List.map_nil] at r; cases r; exact .nil
  | k :: ks, _, r => by
    rw [List.map_cons] at r
    cases r with
    | cons h t => exact .cons (kV_is h) (items_are t)

/-- raw entries of a dict with tuple keys -/
abbrev KT (H : Hp) : List (List Key × V) → List (List Key × Addr × Value) → Prop := Paired fun p q => p.1 = q.1 ∧ H q.2.1 = some (.tup (p.1.map kV)) ∧ RelV p.2 q.2.2
theorem KT.val {H : Hp} {kvs : List (List Key × V)} {xs : List (List Key × Addr × Value)} (r : KT H kvs xs) (k : List Key) : RelO (valV kvs k) ((atKey xs k).map (·.2)) := by
  induction r with
  | nil => exact True.intro
  | @cons p q ps qs h t ih =>
    obtain ⟨h1, _, h2⟩ := h
    by_cases e : p.1 = k
    · have e' : q.1 = k := h1.symm.trans e
      have b : atKey (q :: qs) k = some q.2 := by simp [atKey, List.find?_cons, e']
      rw [valV_pos e, b]; exact h2
    · have e' : ¬ q.1 = k := fun z => e (h1.trans z)
      have b : atKey (q :: qs) k = atKey qs k := by simp [atKey, List.find?_cons, e']
      rw [valV_neg e, b]; exact ih
theorem KT.repl {H : Hp} {kvs : List (List Key × V)} {xs : List (List Key × Addr × Value)} (r : KT H kvs xs) (k : List Key) {y : V} {u : Value} (ry : RelV y u) :
    KT H (kvs.map fun kv => if kv.1 = k then (kv.1, y) else kv) (xs.map (putAt k u)) := by
  induction r with
  | nil => exact .nil
  | @cons p q ps qs h t ih =>
    rw [List.map_cons, List.map_cons]
    refine .cons ?_ ih
    obtain ⟨h1, h2, h3⟩ := h
    unfold putAt
    by_cases e : p.1 = k
    · rw [if_pos e, if_pos (h1.symm.trans e)]; exact ⟨h1, h2, ry⟩
    · rw [if_neg e, if_neg (fun z => e (h1.trans z))]; exact ⟨h1, h2, h3⟩
theorem KT.put {H : Hp} {kvs : List (List Key × V)} {xs : List (List Key × Addr × Value)} (r : KT H kvs xs) (k : List Key) {b : Addr} {y : V} {u : Value} (hb : H b = some (.tup (k.map kV))) (ry : RelV y u) :
    KT H (putK kvs k y) (storedH xs k b u) := by
  have e : (kvs.any fun kv => decide (kv.1 = k)) = (atKey xs k).isSome := by
    rw [valV_any, (r.val k).isSome_eq, Option.isSome_map]
  unfold putK storedH
  rw [e]
  by_cases q : (atKey xs k).isSome = true
  · rw [if_pos q, if_pos q]; exact r.repl k ry
  · rw [if_neg q, if_neg q]; exact Paired.snoc r ⟨rfl, hb, ry⟩
theorem KT.keeps {H H' : Hp} {kvs : List (List Key × V)} {xs : List (List Key × Addr × Value)} (r : KT H kvs xs) (ht : ∀ b ys, H b = some (.tup ys) → H' b = some (.tup ys)) : KT H' kvs xs :=
  Paired.mapP r fun _ _ z => ⟨z.1, ht _ _ z.2.1, z.2.2⟩

section
variable {P : Program} {w : World} {H : Hp} {h : Heap} {a : Addr}
theorem rd_of {u : HO} (ok : HOk P w H h) (e : Rd H a u) : ObjOk P w H h a u := e.ok ok
theorem dk_rd {kvs : List (Key × V)} (ok : HOk P w H h) (e : Rd H a (.dK kvs)) : kvs.length ≤ sizeLine ∧ (a == sysModules) = false ∧ ∃ vs, KV kvs vs ∧ h.DictOf (mixKind P w) a vs :=
  show ObjOk P w H h a (.dK kvs) from rd_of ok e
theorem dk_of {kvs : List (Key × V)} (ok : HOk P w H h) (e : H a = some (.dK kvs)) : kvs.length ≤ sizeLine ∧ (a == sysModules) = false ∧ ∃ vs, KV kvs vs ∧ h.DictOf (mixKind P w) a vs := dk_rd ok (.inl e)
/-- a tracked tuple of ints and texts is a key -/
theorem key_of {ks : List Key} (ok : HOk P w H h) (e : H a = some (.tup (ks.map kV))) : (tupleKind (mixKind P w)).is h ks a := by
  obtain ⟨_, its, r, o, h1, h2, n, h3⟩ := (show ObjOk P w H h a (.tup (ks.map kV)) from ok a _ e)
  exact ⟨o, its.toArray, n, h1, h2, h3, by simpa using items_are r⟩
theorem dt_rd {kvs : List (List Key × V)} (ok : HOk P w H h) (e : Rd H a (.dT kvs)) : kvs.length ≤ sizeLine ∧ (a == sysModules) = false ∧
    ∃ xs, KT H kvs xs ∧ h.DictOfH (tupleKind (mixKind P w)) a xs := by
  obtain ⟨z, y, xs, r, o, es, ep, h1, h2, h3, h4, h5⟩ := (show ObjOk P w H h a (.dT kvs) from rd_of ok e)
  refine ⟨z, y, xs, r, o, es, ep, h1, h2, h3, h4, fun x hx => ?_, h5⟩
  have all : ∀ {l : List (List Key × V)} {m : List (List Key × Addr × Value)}, KT H l m → ∀ x ∈ m, (tupleKind (mixKind P w)).is h x.1 x.2.1 := by
    intro l m q
    induction q with
    | nil => intro x hx; exact nomatch hx
    | @cons p q ps qs hq t ih =>
      intro x hx
      rcases List.mem_cons.mp hx with e | hx
      · subst e
        exact key_of ok (by rw [← hq.1]; exact hq.2.1)
      · exact ih x hx
  exact all r x hx
theorem dt_of {kvs : List (List Key × V)} (ok : HOk P w H h) (e : H a = some (.dT kvs)) : kvs.length ≤ sizeLine ∧ (a == sysModules) = false ∧
    ∃ xs, KT H kvs xs ∧ h.DictOfH (tupleKind (mixKind P w)) a xs := dt_rd ok (.inl e)
end

/-- what the dict at a holds at the key y -/
def DGet (H : Hp) (a : Addr) (y : V) (r : Option V) : Prop :=
  (∃ kvs k, Rd H a (.dK kvs) ∧ y = kV k ∧ r = valV kvs k) ∨ ∃ kvs k b, Rd H a (.dT kvs) ∧ y = .ref b ∧ H b = some (.tup (k.map kV)) ∧ r = valV kvs k
/-- the heap behind a[y] = v -/
def DPut (H : Hp) (a : Addr) (y v : V) (H' : Hp) : Prop :=
  (∃ kvs k, H a = some (.dK kvs) ∧ y = kV k ∧ kvs.length < sizeLine ∧ H' = upd H a (.dK (putK kvs k v))) ∨
  ∃ kvs k b, H a = some (.dT kvs) ∧ y = .ref b ∧ H b = some (.tup (k.map kV)) ∧ kvs.length < sizeLine ∧ H' = upd H a (.dT (putK kvs k v))
theorem DGet.k {H : Hp} {a : Addr} {kvs : List (Key × V)} {k : Key} (e : H a = some (.dK kvs)) : DGet H a (kV k) (valV kvs k) := .inl ⟨kvs, k, .inl e, rfl, rfl⟩
theorem DGet.t {H : Hp} {a b : Addr} {kvs : List (List Key × V)} {k : List Key} (e : H a = some (.dT kvs)) (eb : H b = some (.tup (k.map kV))) : DGet H a (.ref b) (valV kvs k) := .inr ⟨kvs, k, b, .inl e, rfl, eb, rfl⟩
theorem DPut.k {H : Hp} {a : Addr} {kvs : List (Key × V)} {k : Key} {v : V} (e : H a = some (.dK kvs)) (hl : kvs.length < sizeLine) : DPut H a (kV k) v (upd H a (.dK (putK kvs k v))) := .inl ⟨kvs, k, e, rfl, hl, rfl⟩
theorem DPut.t {H : Hp} {a b : Addr} {kvs : List (List Key × V)} {k : List Key} {v : V} (e : H a = some (.dT kvs)) (eb : H b = some (.tup (k.map kV))) (hl : kvs.length < sizeLine) :
    DPut H a (.ref b) v (upd H a (.dT (putK kvs k v))) := .inr ⟨kvs, k, b, e, rfl, eb, hl, rfl⟩


section
variable {X : Cx} {pins : List (Addr × Obj)} {σ : St} {H : Hp} {s : Shared} {a : Addr} {y v : V} {u r : Value} {o : Option V} {A : Around} {E : Value → Shared → Prop}

theorem Inv.big (I : Inv X pins σ H s) : sysModules < s.heap.objs.size := by
  have h : mainGlobals < s.heap.objs.size := (I.mod.glob.keeps I.bk).lt
  exact Nat.lt_trans (by decide) h

/-- d[y], there -/
theorem d_getItem {Q : Value → Shared → Prop} (hu : A.units + 1 < cLine) (I : Inv X pins σ H s) (g : DGet H a y (some v)) (ry : RelV y u) (h : ∀ w' s', Inv X pins σ H s' → RelV v w' → Q w' s') :
    wpAny (model X.prog X.w) A (getItem (.ref a) u) Q E s := by
  rcases g with ⟨kvs, k, e, ey, l⟩ | ⟨kvs, k, b, e, ey, eb, l⟩
  · subst ey
    obtain ⟨z, hd, vs, rel, dd⟩ := dk_rd I.hok e
    obtain ⟨w', hw, rw'⟩ := RelO.some_of (v := v) (o := valueAt vs k) (by rw [l]; exact rel.val k)
    exact wpAny_getItem_of (kV_is ry) dd.mapOf hw (h w' _ (I.tok _) rw')
  · subst ey
    cases (show u = Value.ref b from ry)
    obtain ⟨z, hd, xs, rel, dd⟩ := dt_rd I.hok e
    obtain ⟨w', hw, rw'⟩ := RelO.some_of (v := v) (o := (atKey xs k).map (·.2)) (by rw [l]; exact rel.val k)
    obtain ⟨p, hp, hp2⟩ := Option.map_eq_some_iff.mp hw
    refine wpAny_getItem_heap (tupleKind_room_in1 hu) (key_of I.hok eb) dd hp ?_
    rw [hp2]
    exact h w' _ (I.tok _) rw'
/-- a dict's object is replaced -/
theorem d_write {h' : Heap} {t' : Nat} {ob : HO} (I : Inv X pins σ H s) (mu : Mut (H a)) (hs : Heap.SameBut a s.heap h') (he : ∃ q, h'.get? a = some q) (new : ObjOk X.prog X.w (upd H a ob) h' a ob) :
    Inv X pins σ (upd H a ob) { s with heap := h', toks := t' } :=
  I.write (x := a) (e := a) mu (.inl rfl) (fun b q hb z => (hs.2 b hb).trans z) he new
theorem dk_new {P : Program} {w : World} {H' : Hp} {h' : Heap} {kvs : List (Key × V)} {vs : List (Key × Value)} (z : kvs.length ≤ sizeLine) (hd : (a == sysModules) = false) (rel : KV kvs vs) (dd : h'.DictOf (mixKind P w) a vs) :
    ObjOk P w H' h' a (.dK kvs) := ⟨z, hd, vs, rel, dd⟩
/-- d[y] = v -/
theorem d_setItem {H' : Hp} {Q : Unit → Shared → Prop} (hu : A.units + 1 < cLine) (I : Inv X pins σ H s) (g : DPut H a y v H') (ry : RelV y u) (rv : RelV v r) (h : ∀ s', Inv X pins σ H' s' → Q () s') :
    wpAny (model X.prog X.w) A (setItem (.ref a) u r) Q E s := by
  rcases g with ⟨kvs, k, e, ey, l, eH⟩ | ⟨kvs, k, b, e, ey, eb, l, eH⟩
  · subst ey eH
    obtain ⟨z, hd, vs, rel, dd⟩ := dk_of I.hok e
    have hz : vs.length ≤ sizeLine := by rw [← rel.length]; exact z
    have hl : (putK kvs k v).length ≤ sizeLine := by have := length_putK kvs k v; omega
    refine wpAny_setItem_pairs (hsz := hz) (kV_is ry) dd fun h' dd' hs => h _ ?_
    have he : ∃ q, h'.get? a = some q := let ⟨q, _, _, hq, _⟩ := dd'; ⟨q, hq⟩
    exact d_write I (by rw [e]; exact True.intro) hs he (dk_new hl hd (rel.put k rv) dd')
  · subst ey eH
    cases (show u = Value.ref b from ry)
    obtain ⟨z, hd, xs, rel, dd⟩ := dt_of I.hok e
    have hz : xs.length ≤ sizeLine := by rw [← Paired.length rel]; exact z
    have hl : (putK kvs k v).length ≤ sizeLine := by have := length_putK kvs k v; omega
    refine wpAny_setItem_heap (hsz := hz) (tupleKind_room_in1 hu) (key_of I.hok eb) dd fun h' dd' hs => h _ ?_
    obtain ⟨q, es, ep, hq, h2, h3, h4, _, h5⟩ := dd'
    refine d_write I (by rw [e]; exact True.intro) hs ⟨q, hq⟩ ⟨hl, hd, _, (rel.put k eb rv).keeps fun c ys ec => ?_, q, es, ep, hq, h2, h3, h4, h5⟩
    rw [upd_ne (ne_of ec e (fun z => nomatch z))]
    exact ec
end

section
variable {X : Cx} {pins : List (Addr × Obj)} {σ : St} {H : Hp} {s : Shared} {a : Addr} {kvs : List (Key × V)} {k : Key} {u : Value} {A : Around} {E : Value → Shared → Prop}
end


/-! ### readings and rules -/
/-- the element of a subscription, not a slice -/
def NoSl (i : Expr) : Prop := ∀ ov iv, subscripted i false ov iv = operate [ov, iv] (getItem ov iv)
theorem subD_of {prog : Program} {w : World} {A : Around} {E : Value → Shared → Prop} {s : Shared} {env : Env} {value slice : Expr} {pos : Pos} {T id : String} {Q : Value → Shared → Prop}
    (hl : typeLookup (.type T) "__getitem__" = pure (some (.builtin id))) (hs : NoSl slice)
    (h : wpAny (model prog w) A (eval value env) (fun o s₁ => wpAny (model prog w) A (eval slice env) (fun i s₂ => s₂.TypeIs o T ∧ wpAny (model prog w) A (getItem o i) Q E s₂) E s₁) E s) :
    wpAny (model prog w) A (eval (.Subscript value slice pos) env) Q E s := by
  refine Subscript_ (wpAny_mono h (fun o s₁ h₁ => wpAny_mono h₁ (fun i s₂ h₂ => ?_) fun _ _ x => x) fun _ _ x => x)
  obtain ⟨hT, h₂⟩ := h₂
  unfold subscriptTail
  refine wpAny_bind ?_
  rw [getitemInPython_of_ne hT.not_modules]
  refine wpAny_bind (wpAny_specialOf hT hl ?_)
  have fin : wpAny (model prog w) A (subscripted slice false o i) (fun r s₃ => wpAny (model prog w) A (letTemporaryGo value o r >>= fun _ => pure r) Q E s₃) E s₂ := by
    rw [hs o i]
    exact wpAny_operating (wpAny_mono h₂ (fun r s₃ h₃ => wpAny_bind (wpAny_letTemporaryGo (wpAny_pure h₃))) fun _ _ x => x)
  first
    | exact wpAny_pure (wpAny_bind fin)
    | exact wpAny_bind (wpAny_pure (wpAny_bind fin))
    | exact wpAny_bind fin

theorem dict_typeIs {X : Cx} {pins : List (Addr × Obj)} {σ : St} {H : Hp} {s : Shared} {a : Addr} {y : V} {o : Option V} (I : Inv X pins σ H s) (g : DGet H a y o) : s.TypeIs (.ref a) "dict" := by
  rcases g with ⟨kvs, k, e, _, _⟩ | ⟨kvs, k, b, e, _, _, _⟩
  · obtain ⟨_, _, vs, _, dd⟩ := dk_rd I.hok e
    exact dd.typeIs
  · obtain ⟨_, _, xs, _, dd⟩ := dt_rd I.hok e
    exact dd.typeIs
/-- d[y] -/
def tDGet (td ty : TE) : TE := fun σ H Q => td σ H fun x H1 => ty σ H1 fun y H2 => ∃ a v, x = .ref a ∧ DGet H2 a y (some v) ∧ Q v H2
/-- y in d, y not in d -/
def tDIn (ty td : TE) : TE := fun σ H Q => ty σ H fun y H1 => td σ H1 fun x H2 => ∃ a o, x = .ref a ∧ DGet H2 a y o ∧ Q (.bl o.isSome) H2
def tDNotIn (ty td : TE) : TE := fun σ H Q => ty σ H fun y H1 => td σ H1 fun x H2 => ∃ a o, x = .ref a ∧ DGet H2 a y o ∧ Q (.bl (!o.isSome)) H2
/-- d[y] = v -/
def sDPut (td ty tv : TE) : TS := fun D σ H => tv σ H fun v H1 => td σ H1 fun x H2 => ty σ H2 fun y H3 => ∃ a H4, x = .ref a ∧ DPut H3 a y v H4 ∧ D.nx σ H4
/-- d[y] op= v -/
def sDAug (td ty tv : TE) (rd : V → V → Hp → VK → Prop) : TS := fun D σ H => td σ H fun x H1 => ty σ H1 fun y H2 => ∃ a v, x = .ref a ∧ DGet H2 a y (some v) ∧
  tv σ H2 fun y2 H3 => rd v y2 H3 fun z H4 => ∃ H5, DPut H4 a y z H5 ∧ D.nx σ H5
/-- del d[y] -/
def sDDel (td ty : TE) : TS := fun D σ H => td σ H fun x H1 => ty σ H1 fun y H2 => ∃ a kvs k, x = .ref a ∧ H2 a = some (.dK kvs) ∧ y = kV k ∧ (valV kvs k).isSome = true ∧ D.nx σ (upd H2 a (.dK (dropK kvs k)))

section
variable {X : Cx} {o i e value : Expr} {pos pos' tpos : Pos} {td ty tv : TE}
theorem pe_dget (hu : X.A.units + 1 < cLine) (ho : PE X o td) (hi : PE X i ty) (hs : NoSl i) : PE X (.Subscript o i pos) (tDGet td ty) := by
  intro pins s σ H Q I h
  refine subD_of PySem.F.slot_dict_getitem.lookup hs (thn (ho pins s σ H _ I h) fun u s1 ⟨x, H1, I1, rx, q1⟩ => thn (hi pins s1 σ H1 _ I1 q1) fun iv s2 ⟨y, H2, I2, ry, a, v, ex, g, q2⟩ => ?_)
  subst ex
  obtain rfl : u = Value.ref a := rx
  exact ⟨dict_typeIs I2 g, d_getItem hu I2 g ry fun w' s3 I3 rw' => ⟨v, H2, I3, rw', q2⟩⟩
theorem ps_dput (hu : X.A.units + 1 < cLine) (ho : PE X o td) (hi : PE X i ty) (hv : PE X value tv) (hs : swapsWith value (some (.Subscript o i pos')) pos.line X.env = pure false) :
    PS X (.Assign [.Subscript o i pos'] value pos) (sDPut td ty tv) := by
  intro pins s σ H D I h
  refine wpAny_Assign_Subscript (thn (hv pins s σ H _ I h) fun r s1 ⟨v, H1, I1, rv, q1⟩ => thn (ho pins s1 σ H1 _ I1 q1) fun u s2 ⟨x, H2, I2, rx, q2⟩ => thn (hi pins s2 σ H2 _ I2 q2) fun iv s3 ⟨y, H3, I3, ry, a, H4, ex, g, q3⟩ => ?_) hs
  subst ex
  obtain rfl : u = Value.ref a := rx
  exact d_setItem hu I3 g ry rv fun s4 I4 => ⟨σ, H4, I4, q3⟩
end


/-! ### displays -/
theorem dk_empty {P : Program} {w : World} {H : Hp} (h : Heap) (hb : sysModules < h.objs.size) : ObjOk P w H (h.push { cls := .type "dict", data := .dict #[] }) h.objs.size (.dK []) :=
  ⟨Nat.zero_le _, beq_eq_false_iff_ne.mpr (Ne.symm (Nat.ne_of_lt hb)), [], .nil, Heap.DictOf.new h⟩
/-- {}, to be a dict of the kind that is wanted -/
def tDNewK : TE := fun _ H Q => ∀ p, H p = none → Q (.ref p) (upd H p (.dK []))
def tDNewT : TE := fun _ H Q => ∀ p, H p = none → Q (.ref p) (upd H p (.dT []))
section
variable {X : Cx} {pos : Pos}
theorem pe_dnewK : PE X (.Dict [] [] pos) tDNewK := fun pins s σ H Q I h =>
  wpAny_Dict_empty ⟨.ref s.heap.objs.size, _, I.laid (a := s.heap.objs.size) (o := .dK []) (t' := s.toks) (fun _ _ q => Heap.get?_push_of_some _ q) (Nat.le_refl _) (dk_empty s.heap I.big), rfl, h _ (I.hok.fresh (Nat.le_refl _))⟩
end

/-- the pairs of a display, from the left -/
def tPairs : List (TE × TE) → St → Hp → (List (V × V) → Hp → Prop) → Prop
  | [], _, H, Q => Q [] H
  | (tk, tv) :: r, σ, H, Q => tk σ H fun x H1 => tv σ H1 fun y H2 => tPairs r σ H2 fun ps H3 => Q ((x, y) :: ps) H3
abbrev VV : List (V × V) → List (Value × Value) → Prop := Paired fun p q => RelV p.1 q.1 ∧ RelV p.2 q.2
def PPs (X : Cx) (pos : Pos) (keys : List (Option Expr)) (values : List Expr) (trs : List (TE × TE)) : Prop :=
  ∀ (pins : List (Addr × Obj)) (s : Shared) (σ : St) (H : Hp) (Q : List (V × V) → Hp → Prop), Inv X pins σ H s → tPairs trs σ H Q →
    wpAny (model X.prog X.w) X.A (evalPairs (pairTrees keys values X.env pos)) (fun vs s' => ∃ ps H', Inv X pins σ H' s' ∧ VV ps vs ∧ Q ps H') X.xe s
theorem pps_nil {X : Cx} {pos : Pos} : PPs X pos [] [] [] := fun pins s σ H Q I h => pairTrees_nil_walk ⟨[], H, I, .nil, h⟩
theorem pps_cons {X : Cx} {pos : Pos} {k v : Expr} {ks : List (Option Expr)} {vs : List Expr} {tk tv : TE} {trs : List (TE × TE)} (hk : PE X k tk) (hv : PE X v tv) (hr : PPs X pos ks vs trs) :
    PPs X pos (some k :: ks) (v :: vs) ((tk, tv) :: trs) := fun pins s σ H Q I h =>
  pairTrees_cons_walk (thn (hk pins s σ H _ I h) fun u s1 ⟨x, H1, I1, rx, q1⟩ => thn (hv pins s1 σ H1 _ I1 q1) fun w2 s2 ⟨y, H2, I2, ry, q2⟩ =>
    thn (hr pins s2 σ H2 _ I2 q2) fun ws s3 ⟨ps, H3, I3, rel, q3⟩ => ⟨(x, y) :: ps, H3, I3, .cons ⟨rx, ry⟩ rel, q3⟩)

def mergeK (kvs more : List (Key × V)) : List (Key × V) := more.foldl (fun acc kv => putK acc kv.1 kv.2) kvs
theorem KV.merge : ∀ {more : List (Key × V)} {rs : List (Key × Value)} {kvs : List (Key × V)} {vs : List (Key × Value)}, KV more rs → KV kvs vs → KV (mergeK kvs more) (merged vs rs) := by
  intro more rs kvs vs r
  unfold KV at r
  induction r generalizing kvs vs with
  | nil => intro q; exact q
  | @cons p q ps qs h t ih =>
    intro r0
    have e : KV (putK kvs p.1 p.2) (stored vs q.1 q.2) := by
      have := r0.put p.1 h.2
      rw [← h.1]; exact this
    exact ih e
theorem length_mergeK : ∀ (more kvs : List (Key × V)), (mergeK kvs more).length ≤ kvs.length + more.length
  | [], kvs => by show kvs.length ≤ kvs.length + 0; omega
  | p :: r, kvs => by
    have h1 := length_mergeK r (putK kvs p.1 p.2)
    have h2 := length_putK kvs p.1 p.2
    show (mergeK (putK kvs p.1 p.2) r).length ≤ _
    rw [List.length_cons]; omega
theorem carries_of {P : Program} {w : World} : ∀ {kvs : List (Key × V)} {ws : List (Value × Value)}, VV (kvs.map fun kv => (kV kv.1, kv.2)) ws → ∃ rs, Carries (mixKind P w) ws rs ∧ KV kvs rs
  | [], _, r => by rw [List.map_nil] at r; cases r; exact ⟨[], True.intro, .nil⟩
  | p :: kvs, _, r => by
    rw [List.map_cons] at r
    cases r with
    | @cons a b as bs h t =>
      obtain ⟨rs, c, q⟩ := carries_of (P := P) (w := w) t
      obtain ⟨b1, b2⟩ := b
      exact ⟨(p.1, b2) :: rs, ⟨kV_is h.1, rfl, c⟩, .cons ⟨rfl, h.2⟩ q⟩
/-- {k: v, ..} with keys ints and texts; the new dict stands empty while the pairs are made -/
def tDisp (trs : List (TE × TE)) : TE := fun σ H Q => ∀ p, H p = none → tPairs trs σ (upd H p (.dK [])) fun ps H2 => H2 p = some (.dK []) ∧ ∃ kvs : List (Key × V), ps = kvs.map (fun kv => (kV kv.1, kv.2)) ∧ kvs.length ≤ 15 ∧ Q (.ref p) (upd H2 p (.dK (mergeK [] kvs)))
theorem pe_disp {X : Cx} {pos : Pos} {keys : List (Option Expr)} {values : List Expr} {trs : List (TE × TE)} (h : PPs X pos keys values trs) (hall : keys.all (·.isSome) = true) (hl : keys.length = values.length) (h0 : keys ≠ [])
    (h15 : keys.length ≤ 15) : PE X (.Dict keys values pos) (tDisp trs) := by
  intro pins s σ H Q I q
  have hn := I.hok.fresh (Nat.le_refl s.heap.objs.size)
  have I1 := I.laid (a := s.heap.objs.size) (o := .dK []) (h' := s.heap.push { cls := .type "dict", data := .dict #[] }) (t' := s.toks) (fun _ _ q => Heap.get?_push_of_some _ q) (Nat.le_refl _) (dk_empty s.heap I.big)
  refine wpAny_Dict_walk (knd := mixKind X.prog X.w) hall hl h0 h15 (thn (h pins _ σ _ _ I1 (q _ hn)) fun ws s2 ⟨ps, H2, I2, rel, e, kvs, ep, lk, q2⟩ => ?_)
  subst ep
  obtain ⟨rs, c, rk⟩ := carries_of (P := X.prog) (w := X.w) rel
  obtain ⟨z, hd, vs0, r0, dd⟩ := dk_of I2.hok e
  cases r0
  refine ⟨rs, c, dd, fun h' dd' hs => ⟨.ref s.heap.objs.size, _, ?_, rfl, q2⟩⟩
  have hz : (mergeK [] kvs).length ≤ sizeLine := by
    have h1 := length_mergeK kvs []
    rw [List.length_nil] at h1
    rw [sizeLine_eq]; omega
  have he : ∃ q, h'.get? s.heap.objs.size = some q := let ⟨q, _, _, hq, _⟩ := dd'; ⟨q, hq⟩
  exact d_write I2 (by rw [e]; exact True.intro) hs he (dk_new hz hd (rk.merge .nil) dd')


/-! ### methods -/
/-- a method call o.m(e) of a built-in, with one argument: what must be seen of the text -/
structure M1 (X : Cx) (o : Expr) (m : Str) (apos : Pos) (e : Expr) (cpos : Pos) : Prop where
  base : attributeBase o m X.env (eval o X.env) = eval o X.env
  few : ((backTo cpos (starEach [e] X.env)).all (fun x => !x.1) && (backToKw cpos (keywordEach [] X.env)).all (fun x => x.1.isSome)
    && decide (([e] : List Expr).length + ([] : List Keyword).length + (if ([] : List Keyword).isEmpty then 0 else 1) < 30)) = true
  line : (apos.endLine == cpos.line) = true
  trees : backTo cpos (starEach [e] X.env) = [(false, eval e X.env)]
structure M2 (X : Cx) (o : Expr) (m : Str) (apos : Pos) (e f : Expr) (cpos : Pos) : Prop where
  base : attributeBase o m X.env (eval o X.env) = eval o X.env
  few : ((backTo cpos (starEach [e, f] X.env)).all (fun x => !x.1) && (backToKw cpos (keywordEach [] X.env)).all (fun x => x.1.isSome)
    && decide (([e, f] : List Expr).length + ([] : List Keyword).length + (if ([] : List Keyword).isEmpty then 0 else 1) < 30)) = true
  line : (apos.endLine == cpos.line) = true
  trees : backTo cpos (starEach [e, f] X.env) = [(false, eval e X.env), (false, eval f X.env)]

/-- a is a dict, whatever its keys -/
def IsD (H : Hp) (a : Addr) : Prop := (∃ kvs, Rd H a (.dK kvs)) ∨ ∃ kvs, Rd H a (.dT kvs)
section
variable {X : Cx} {pins : List (Addr × Obj)} {σ : St} {H : Hp} {s : Shared} {a : Addr} {y d : V} {u r : Value} {o : Option V} {A : Around} {E : Value → Shared → Prop}
end

def tDGet1 (td ty : TE) : TE := fun σ H Q => td σ H fun x H1 => ∃ a, x = .ref a ∧ IsD H1 a ∧ ty σ H1 fun y H2 => ∃ o, DGet H2 a y o ∧ Q (o.getD .non) H2
def tDGet2 (td ty tx : TE) : TE := fun σ H Q => td σ H fun x H1 => ∃ a, x = .ref a ∧ IsD H1 a ∧ ty σ H1 fun y H2 => tx σ H2 fun z H3 => ∃ o, DGet H3 a y o ∧ Q (o.getD z) H3
/-- d.pop(k): there; d.pop(k, x): there or not -/
def tDPop1 (td ty : TE) : TE := fun σ H Q => td σ H fun x H1 => ∃ a, x = .ref a ∧ IsD H1 a ∧ ty σ H1 fun y H2 => ∃ kvs k v, H2 a = some (.dK kvs) ∧ y = kV k ∧ valV kvs k = some v ∧ Q v (upd H2 a (.dK (dropK kvs k)))
def tDPop2 (td ty tx : TE) : TE := fun σ H Q => td σ H fun x H1 => ∃ a, x = .ref a ∧ IsD H1 a ∧ ty σ H1 fun y H2 => tx σ H2 fun z H3 => ∃ kvs k, H3 a = some (.dK kvs) ∧ y = kV k ∧
  (∀ v, valV kvs k = some v → Q v (upd H3 a (.dK (dropK kvs k)))) ∧ (valV kvs k = none → Q z H3)
section
variable {X : Cx} {o e f : Expr} {apos cpos : Pos} {td ty tx : TE}
end

/-! ### dict(d): a copy -/
section
variable {X : Cx} {pins : List (Addr × Obj)} {σ : St} {H : Hp} {s : Shared} {a : Addr} {kvs : List (Key × V)} {A : Around} {E : Value → Shared → Prop}
end


section
variable {X : Cx} {pins : List (Addr × Obj)} {σ : St} {H : Hp} {s : Shared} {a : Addr} {y : V} {u : Value} {A : Around} {E : Value → Shared → Prop}
end
end L2
namespace L2
open PySem PySem.Spec PyProof.Rows
section
variable {X : Cx}
end
/-! ### a dict's pairs: keys that differ -/
section
variable {κ : Type} [DecidableEq κ]
end
end L2


set_option Elab.async false
set_option linter.all false
set_option maxRecDepth 100000
namespace L2
open PySem PySem.Spec PyProof.Rows
/-! ### comprehensions: a list comprehension's block in a context of its own -/
def closL (cells : List (Str × Addr)) : List (Str × NameKind) → List (Str × Addr) → List (Str × Addr)
  | [], acc => acc
  | (n, k) :: r, acc => if k == .free then (match cells.lookup n with | some c => closL cells r ((n, c) :: acc) | none => closL cells r acc) else closL cells r acc
theorem closL_forIn {env : Env} : ∀ (names : List (Str × NameKind)) (acc : List (Str × Addr)), (∀ p ∈ names, p.2 = .free → ∃ c, env.cells.lookup p.1 = some c) →
    (forIn names acc fun (x : Str × NameKind) (r : List (Str × Addr)) => (if (x.2 == NameKind.free) = true then (do let a ← cellOf env x.1; pure (ForInStep.yield ((x.1, a) :: r))) else pure (ForInStep.yield r) : Sem (ForInStep (List (Str × Addr))))) = pure (closL env.cells names acc) := by
  intro names
  induction names with
  | nil => intro acc _; rfl
  | cons p r ih =>
    intro acc h
    obtain ⟨n, k⟩ := p
    rw [List.forIn_cons]
    cases hk : k == NameKind.free with
    | false =>
      simp only [hk, Bool.false_eq_true, if_false, pure_bind, closL]
      exact ih acc fun q hq => h q (List.mem_cons_of_mem _ hq)
    | true =>
      have e : k = .free := by simpa using hk
      obtain ⟨c, hc⟩ := h (n, k) List.mem_cons_self e
      simp only [hk, if_true, closL, cellOf, hc, pure_bind]
      exact ih _ fun q hq => h q (List.mem_cons_of_mem _ hq)
theorem closL_eq {scope : Scope} {env : Env} (h : ∀ p ∈ scope.names, p.2 = .free → ∃ c, env.cells.lookup p.1 = some c) : closureFor scope env = pure (closL env.cells scope.names []) := by
  have q := closL_forIn (env := env) scope.names [] h
  simp only [closureFor]
  first
    | exact q
    | (rw [← q]; simp)
    | simpa using q
theorem closL_look {cells : List (Str × Addr)} : ∀ (names : List (Str × NameKind)) (acc : List (Str × Addr)) (y : Str) (c : Addr), (closL cells names acc).lookup y = some c → cells.lookup y = some c ∨ acc.lookup y = some c := by
  intro names
  induction names with
  | nil => intro acc y c h; exact .inr h
  | cons p r ih =>
    intro acc y c h
    obtain ⟨n, k⟩ := p
    unfold closL at h
    split at h
    · split at h
      · rename_i c' hc
        rcases ih _ y c h with q | q
        · exact .inl q
        · rw [List.lookup_cons] at q
          cases e : y == n with
          | true =>
            rw [e] at q
            have e' : y = n := by simpa using e
            subst e'
            have q' : some c' = some c := q
            rw [← q']; exact .inl hc
          | false => rw [e] at q; exact .inr q
      · exact ih _ y c h
    · exact ih _ y c h
theorem closL_acc {cells : List (Str × Addr)} : ∀ (names : List (Str × NameKind)) (acc : List (Str × Addr)) (y : Str), (∃ c, acc.lookup y = some c) → ∃ c, (closL cells names acc).lookup y = some c := by
  intro names
  induction names with
  | nil => intro acc y h; exact h
  | cons p r ih =>
    intro acc y h
    obtain ⟨n, k⟩ := p
    unfold closL
    split
    · split
      · refine ih _ y ?_
        rw [List.lookup_cons]
        cases e : y == n with
        | true => exact ⟨_, rfl⟩
        | false => exact h
      · exact ih _ y h
    · exact ih _ y h
theorem closL_has {cells : List (Str × Addr)} : ∀ (names : List (Str × NameKind)) (acc : List (Str × Addr)) (y : Str), (y, NameKind.free) ∈ names → (∃ c, cells.lookup y = some c) → ∃ c, (closL cells names acc).lookup y = some c := by
  intro names
  induction names with
  | nil => intro acc y h _; cases h
  | cons p r ih =>
    intro acc y h hc
    obtain ⟨n, k⟩ := p
    unfold closL
    rcases List.mem_cons.mp h with e | h
    · cases e
      obtain ⟨c, hc⟩ := hc
      simp only [beq_self_eq_true, if_true, hc]
      exact closL_acc _ _ _ ⟨c, by rw [List.lookup_cons, beq_self_eq_true]⟩
    · split
      · split
        · exact ih _ y h hc
        · exact ih _ y h hc
      · exact ih _ y h hc

/-- the context of a comprehension's block -/
def cxComp (X : Cx) (N' : List Str) (scope : Scope) (C : Addr) (s₀ : Shared) (H₀ : Hp) (ex : List Addr) : Cx :=
  { X with N := N', s₀ := s₀, H₀ := H₀, env := compEnvC scope (closL X.env.cells scope.names []) C X.env, outer := X.stack, stack := X.stack, ex := ex, fn := fun _ => false, xe := fun _ _ => False }

/-- the tests of a comprehension -/
def PTs (X : Cx) (ifs : List Expr) (t : TT) : Prop :=
  ∀ (pins : List (Addr × Obj)) (s : Shared) (σ : St) (H : Hp) (Q : Bool → Hp → Prop), Inv X pins σ H s → t σ H Q →
    wpAny (model X.prog X.w) X.A (forIn ifs true fun c r => if r = true then do let ok ← isTrue c X.env (eval c X.env); pure (ForInStep.yield ok) else pure (ForInStep.yield r)) (TP X pins σ Q) X.xe s
def tTrue : TT := fun _ H Q => Q true H
theorem pts_nil {X : Cx} : PTs X [] tTrue := fun _ _ _ H _ I h => wpAny_tests_nil ⟨H, I, h⟩
theorem pts_one {X : Cx} {c : Expr} {t : TT} (h : PT X c t) : PTs X [c] t := fun pins s σ H Q I q => wpAny_tests_one (h pins s σ H Q I q)

section
variable {prog : Program} {w : World} {A : Around} {R : Result → Shared → Prop} {s : Shared}
theorem compLoop_go {elt target iter : Expr} {ifs : List Expr} {scope : Scope} {pos : Pos} {it acc : Value} {env : Env} (I : Nat → Shared → Prop)
    (turn : ∀ n s, I n s → wpAny (model prog w) A (pyNext it) (fun r s₁ => match r with
      | none => R (.ok .next) s₁
      | some v => wpAny (model prog w) A (letOwnedTupleGo target it v) (fun _ s₀ => wpAny (model prog w) A (assign target env v) (fun _ s₂ =>
          wpAny (model prog w) A (forIn ifs true fun c r => if r = true then do let ok ← isTrue c env (eval c env); pure (ForInStep.yield ok) else pure (ForInStep.yield r)) (fun ok s₃ =>
            if ok = true then wpAny (model prog w) A (eval elt env) (fun x s₄ =>
              wpAny (model prog w) A (call (.builtin "list.append") [acc, x]) (fun _ s₅ => ∃ m, m < n ∧ I m s₅) (fun _ _ => False) s₄) (fun _ _ => False) s₃
            else ∃ m, m < n ∧ I m s₃) (fun _ _ => False) s₂) (fun _ _ => False) s₀) (fun _ _ => False) s₁) (fun _ _ => False) s)
    (n : Nat) (h : I n s) :
    codeAny (model prog w) A (.compLoop (.ListComp elt [⟨target, iter, ifs, 0⟩] scope pos) 0 it acc env) R s := by
  refine codeAny_loop rfl I (fun n s hI => ?_) n h
  show wpAny _ A ((compTurn (.ListComp elt [⟨target, iter, ifs, 0⟩] scope pos) 0 it acc env).onRaise (fun x => do noteFrame x env; theTreesLotGoes x)) _ _ s
  refine wpAny_noted ?_
  rw [compTurn_list]
  refine wpAny_bind (wpAny_standAt (wpAny_bind (wpAny_mono (turn n s hI) (fun r s₁ h₁ => ?_) fun _ _ h' => h'.elim)))
  cases r with
  | none => exact wpAny_pure h₁
  | some v =>
    refine wpAny_bind (wpAny_mono h₁ (fun _ s₀ h₀ => ?_) fun _ _ h' => h'.elim)
    refine wpAny_bind (wpAny_mono h₀ (fun _ s₂ h₂ => wpAny_bind (wpAny_mono h₂ (fun ok s₃ h₃ => ?_) fun _ _ h' => h'.elim)) fun _ _ h' => h'.elim)
    cases ok with
    | false => exact wpAny_pure ⟨rfl, h₃⟩
    | true =>
      exact wpAny_bind (wpAny_bind (wpAny_mono h₃ (fun x s₄ h₄ => wpAny_bind (wpAny_mono h₄ (fun _ s₅ h₅ => wpAny_pure (wpAny_pure ⟨rfl, h₅⟩)) fun _ _ h' => h'.elim)) fun _ _ h' => h'.elim))
end

/-- what a comprehension's scope is: the target's name is its first, the others are names of the def (cells there) -/
structure CompScope (X : Cx) (x : Str) (frees : List Str) (idx : List Nat) (scope : Scope) : Prop where
  kind : scope.kind = .function
  nocell : ∀ y ∈ scope.names, y.2 ≠ .cell
  loc : ∀ y ∈ scope.names, y.2 = .local → scope.names.lookup y.1 = some .local
  tgt : scope.names.lookup x = some .local
  nd : (x :: frees).Nodup
  fr : ∀ y ∈ scope.names, y.2 = .free → X.env.kindOf y.1 = some .cell ∨ X.env.kindOf y.1 = some .free
  ix : ∀ (j : Nat) (y : Str), frees[j]? = some y → ∃ k, idx[j]? = some k ∧ X.N[k]? = some y
  len : idx.length = frees.length
  cl : ∀ y ∈ frees, (y, NameKind.free) ∈ scope.names
def outs (σ : St) (idx : List Nat) : St := idx.map fun k => (σ[k]?).join
/-- the word of a comprehension: W by the turn, a measure, the items so far -/
def CompW (J : It) (tt : TT) (te : TE) (σ' : St) (Q : VK) (H1 : Hp) : Prop := ∃ W : Nat → Nat → List V → Hp → Prop, (∃ m, W 0 m [] H1) ∧ ∀ i m vs H2, W i m vs H2 →
  vs.length < sizeLine ∧ ((J.stop i H2 ∧ ∀ l, H2 l = none → Q (.ref l) (upd H2 l (.lst vs))) ∨
    (J.go i H2 ∧ ∀ x H3, J.yld i H2 x H3 → tt (some x :: σ') H3 fun b H4 => if b = true then te (some x :: σ') H4 fun v H5 => ∃ m', m' < m ∧ W (i + 1) m' (vs ++ [v]) H5 else ∃ m', m' < m ∧ W (i + 1) m' vs H4))
def tComp (idx : List Nat) (wi : TI) (tt : TT) (te : TE) : TE := fun σ H Q => wi σ H fun J H1 => CompW J tt te (outs σ idx) Q H1

theorem Vals.snoc {xs : List V} {us : List Value} {x : V} {u : Value} (h : Vals xs us) (r : RelV x u) : Vals (xs ++ [x]) (us ++ [u]) := Vals.append h (.cons r .nil)

theorem mem_of_lookup' {α β : Type} [BEq α] [LawfulBEq α] : ∀ {l : List (α × β)} {x : α} {b : β}, l.lookup x = some b → (x, b) ∈ l
  | [], _, _, h => by simp at h
  | (n, k) :: r, x, b, h => by
    rw [List.lookup_cons] at h
    cases e : x == n with
    | true =>
      rw [e] at h
      have e' : x = n := by simpa using e
      have h' : k = b := Option.some.inj h
      subst e' h'
      exact List.mem_cons_self
    | false => rw [e] at h; exact List.mem_cons_of_mem _ (mem_of_lookup' h)

theorem relabel_free {scope : Scope} {env : Env} {y : Str} (h : (relabel scope env).names.lookup y = some .cell ∨ (relabel scope env).names.lookup y = some .free) (hc : ∀ y ∈ scope.names, y.2 ≠ .cell) : (y, NameKind.free) ∈ scope.names := by
  have q : ∃ k, (y, k) ∈ (relabel scope env).names ∧ (k = .cell ∨ k = .free) := by
    rcases h with h | h
    · exact ⟨_, mem_of_lookup' h, .inl rfl⟩
    · exact ⟨_, mem_of_lookup' h, .inr rfl⟩
  obtain ⟨k, hm, hk⟩ := q
  obtain ⟨⟨n, k'⟩, hm', e⟩ := List.mem_map.mp hm
  dsimp only at e
  split at e
  · rename_i hf
    cases e
    have : k' = .free := by
      simp only [Bool.and_eq_true, beq_iff_eq] at hf
      exact hf.1.1
    subst this
    exact hm'
  · cases e
    rcases hk with rfl | rfl
    · exact absurd rfl (hc _ hm')
    · exact hm'
end L2

set_option Elab.async false
set_option linter.all false
set_option maxRecDepth 100000
namespace L2
open PySem PySem.Spec PyProof.Rows
theorem lookup_relabel_free {env : Env} : ∀ {names : List (Str × NameKind)} {x : Str}, names.lookup x = some .free →
    ((names.map fun (n, k) => if (k == NameKind.free && env.scope.kind == .function && env.kindOf n == some .cell) then (n, NameKind.cell) else (n, k)).lookup x = some .cell ∨
     (names.map fun (n, k) => if (k == NameKind.free && env.scope.kind == .function && env.kindOf n == some .cell) then (n, NameKind.cell) else (n, k)).lookup x = some .free)
  | [], _, h => by simp at h
  | (n, k) :: r, x, h => by
    have ih := @lookup_relabel_free env r x
    rw [List.map_cons]
    cases hx : x == n with
    | true =>
      simp only [List.lookup_cons, hx] at h
      have hk : k = .free := Option.some.inj h
      subst hk
      by_cases hc : (NameKind.free == NameKind.free && env.scope.kind == .function && env.kindOf n == some .cell) = true
      · left
        simp only [hc, if_true, List.lookup_cons, hx]
      · right
        simp only [hc, if_false, List.lookup_cons, hx, Bool.false_eq_true]
    | false =>
      simp only [List.lookup_cons, hx] at h
      by_cases hc : (k == NameKind.free && env.scope.kind == .function && env.kindOf n == some .cell) = true
      · simp only [hc, if_true, List.lookup_cons, hx]; exact ih h
      · simp only [hc, if_false, List.lookup_cons, hx, Bool.false_eq_true]; exact ih h

theorem Inv.track {X : Cx} {pins : List (Addr × Obj)} {σ : St} {H : Hp} {s : Shared} {D : Addr} {vs : List V} {its : List Value} {k : Nat} (I : Inv X pins σ H s) (hD : H D = none) (hz : vs.length ≤ sizeLine) (hv : Vals vs its)
    (e : s.heap.get? D = some { cls := .type "list", data := .seq its.toArray k }) (h1 : D ∈ X.ex ∨ X.s₀.heap.objs.size ≤ D) (h2 : D ≠ X.env.locals) (h3 : ∀ x c, X.env.cells.lookup x = some c → c ≠ D) (h4 : ∀ p ∈ X.pn ++ pins, p.1 ≠ D) :
    Inv X pins σ (upd H D (.lst vs)) s := by
  obtain ⟨hh, g, d, t, o⟩ := s
  have nD : ∀ b u, H b = some u → b ≠ D := fun b u q z => by rw [z, hD] at q; cases q
  refine I.step (g' := g) (d' := d) (t' := t) (h' := hh) (ch := [D]) (fun b hb => ?_) (fun b o _ _ _ q _ => q) (fun b o _ _ _ q _ => ⟨o.slots, q⟩) (fun b o hb q n => ?_) (fun b o _ q => ⟨o, q⟩)
    (fun b xs q => by rw [upd_ne (nD b _ q)]; exact q) (fun b o u q => by rw [upd_ne (nD b _ q)]; exact q) (fun b ps q => ⟨#[], by rw [upd_ne (nD b _ q), q]; simp⟩) (fun m q => q) (fun b u q => ?_) I.bare
  · have z : b = D := by simpa using hb
    subst z
    exact ⟨h1, h2, h3, h4⟩
  · rw [upd_ne (by simpa using hb)]; exact n
  · by_cases z : b = D
    · subst z
      rw [upd_same] at q; cases q
      exact ⟨hz, its, k, hv, e⟩
    · rw [upd_ne z] at q
      exact (I.hok b u q).stay (fun _ _ _ q => q) (fun c q => by rw [upd_ne (nD c _ q)]; exact q) fun c xs q => by rw [upd_ne (nD c _ q)]; exact q

theorem pe_lcomp {X : Cx} {elt iter : Expr} {x : Str} {px pos : Pos} {ifs : List Expr} {scope : Scope} {frees : List Str} {idx : List Nat} {wi : TI} {tt : TT} {te : TE}
    (hc : X.calm = true) (S : CompScope X x frees idx scope) (hfl : ∀ y ∈ frees, scope.names.lookup y = some .free) (hi : PI X (.Name x px) iter wi)
    (ht : ∀ C s₀ H₀ ex, PTs (cxComp X (x :: frees) scope C s₀ H₀ ex) ifs tt) (he : ∀ C s₀ H₀ ex, PE (cxComp X (x :: frees) scope C s₀ H₀ ex) elt te)
    (hs : ∀ v, foldedSetIterable iter X.env v = pure v := by intro _; rfl) : PE X (.ListComp elt [⟨.Name x px, iter, ifs, 0⟩] scope pos) (tComp idx wi tt te) := by
  intro pins s σ H Q I h
  rw [eval_ListComp]
  have hclos := closL_eq (scope := scope) (env := X.env) fun p hp hf => I.ok.has p.1 (S.fr p hp hf)
  refine wpAny_comprehension_free (use := none) rfl hs hclos S.kind S.loc (thn (hi pins s σ H _ I h) fun v s1 h1 => thn h1 fun itv s2 h2 => ?_)
  obtain ⟨it, fp, tn, J, H2, rfl, I2, T, st2, f2, W, ⟨m0, w0⟩, turn⟩ := h2
  refine wpAny_newObj_type (wpAny_newFunctionEnv S.nocell (by intro y hy; simp at hy) (fun h₁ hns₁ hsb₁ => ?_) S.kind)
  dsimp only at hns₁ hsb₁ ⊢
  generalize hH2 : s2.heap.push { cls := .type "list", dict := none, data := .seq ([] : List Value).toArray } = G2 at hns₁ hsb₁ ⊢
  have hCe : G2.objs.size = s2.heap.objs.size + 1 := by rw [← hH2, Heap.size_push]
  generalize hC : G2.objs.size = C at hns₁ hsb₁ hCe ⊢
  have hCle : s2.heap.objs.size ≤ C := by omega
  have hDC : s2.heap.objs.size ≠ C := by omega
  have below : ∀ b, b < s2.heap.objs.size → b ≠ C := fun b hb => by omega
  have old : ∀ b o, s2.heap.get? b = some o → h₁.get? b = some o := fun b o e => hsb₁.extBut b o (below b (Heap.lt_size e)) (Heap.get?_push_of_some _ (hH2 ▸ Heap.get?_push_of_some _ e))
  have hacc : ∃ k, h₁.get? s2.heap.objs.size = some { cls := .type "list", data := .seq ([] : List Value).toArray k } := ⟨_, hsb₁.extBut _ _ hDC (Heap.get?_push_of_some _ (hH2 ▸ Heap.get?_push_size _ rfl))⟩
  have look : ∀ y c, (closL X.env.cells scope.names []).lookup y = some c → X.env.cells.lookup y = some c := fun y c e => by
    rcases closL_look _ _ y c e with q | q
    · exact q
    · cases q
  have fpD : ∀ b ∈ fp, b < s2.heap.objs.size := fun b hb => by
    obtain ⟨o, e, _⟩ := T.obj _ _ st2 b hb
    exact Heap.lt_size e
  have ok' : (cxComp X (x :: frees) scope C s2 H2 fp).Ok := {
    mod := I2.ok.mod
    kind := S.kind
    glob := I2.ok.glob
    blt := I2.ok.blt
    above := hCle
    inj := fun y z c e1 e2 => I2.ok.inj y z c (look y c e1) (look z c e2)
    has := fun y hy => by
      have q := relabel_free (scope := scope) (env := X.env) hy S.nocell
      exact closL_has _ _ y q (I2.ok.has y (S.fr _ q rfl))
    cab := fun y c hf => by cases hf
    hd := I2.ok.hd
    frames := I2.ok.frames
    stk := .inl rfl
    exf := fun b hb => ⟨below b (fpD b hb), fun y c e => (f2 b hb).2.2.2.2.1 y c (look y c e)⟩
    bs := I2.bs
    bsz := Nat.le_trans I2.ok.bsz I2.sz
    noex := fun b o e hb => by
      rcases (f2 b hb).2.2.2.1 with z | z
      · exact I2.ok.noex b o e z
      · exact absurd (Nat.lt_of_lt_of_le (Heap.lt_size e) (Nat.le_trans I2.ok.bsz z)) (Nat.lt_irrefl _)
    exfs := fun b hb hf => by
      rcases List.mem_cons.mp (I2.stkSub b hf) with z | z
      · exact (f2 b hb).2.1 z
      · exact (f2 b hb).2.2.1 z
    funs := I2.stack
    frf := I2.stkFree }
  have Dfs : s2.heap.objs.size ∉ frs X.stack := fun hb => by
    rcases List.mem_cons.mp (I2.stkSub _ hb) with z | z
    · have q := I2.lt
      rw [← z] at q
      exact Nat.lt_irrefl _ q
    · exact I2.nofs (Nat.le_refl _) z
  have Dcell : ∀ y c, X.env.cells.lookup y = some c → c ≠ s2.heap.objs.size := fun y c e z => by
    obtain ⟨v, q⟩ := I2.cell y c e
    have q' := q.lt
    rw [z] at q'
    exact Nat.lt_irrefl _ q'
  have Dpin : ∀ p ∈ X.pn ++ pins, p.1 ≠ s2.heap.objs.size := fun p hp z => by
    have q' := Heap.lt_size (I2.pin p hp).1
    rw [z] at q'
    exact Nat.lt_irrefl _ q'
  have I3 : Inv (cxComp X (x :: frees) scope C s2 H2 fp) pins (none :: outs σ idx) H2 { s2 with heap := h₁, toks := s2.toks + ([] : List (Str × Value)).length } := {
    ok := ok'
    os := rfl
    bare := I2.bare
    base := Un.kept old
    loc := by
      refine ⟨_, hns₁, fun i y v e1 e2 e3 => ?_⟩
      cases i with
      | zero => cases e2
      | succ j =>
        have e1' : frees[j]? = some y := e1
        have e2' : (outs σ idx)[j]? = some (some v) := e2
        obtain ⟨k, hk, hN⟩ := S.ix j y e1'
        have hy : y ∈ frees := List.mem_of_getElem? e1'
        have e4 : σ[k]? = some (some v) := by
          unfold outs at e2'
          rw [List.getElem?_map, hk] at e2'
          have e5 : (σ[k]?).join = some v := Option.some.inj e2'
          cases q : σ[k]? with
          | none => rw [q] at e5; cases e5
          | some o => rw [q] at e5; exact congrArg some e5
        obtain ⟨m, hn, hl⟩ := I2.loc
        have kin := S.fr _ (S.cl y hy) rfl
        have vis : Vis X.env.scope y := by
          rcases kin with z | z
          · exact .inr (.inl z)
          · exact .inr (.inr z)
        obtain ⟨u, r, l⟩ := hl k y v hN e4 vis
        refine ⟨u, r, .inr ⟨lookup_relabel_free (env := X.env) (hfl y hy), ?_⟩⟩
        rcases l with ⟨z, _⟩ | ⟨_, c, ec, ic⟩
        · rcases kin with z' | z'
          · have z'' : X.env.kindOf y = some .cell := z'
            rw [z] at z''; cases z''
          · have z'' : X.env.kindOf y = some .free := z'
            rw [z] at z''; cases z''
        · obtain ⟨c', ec'⟩ := closL_has (cells := X.env.cells) scope.names [] y (S.cl y hy) ⟨c, ec⟩
          have : c' = c := Option.some.inj ((look y c' ec').symm.trans ec)
          subst this
          obtain ⟨o, ho, hd⟩ := ic
          exact ⟨c', ec', o, old _ _ ho, hd⟩
    cell := fun y c e => by
      obtain ⟨v, o, ho, hd⟩ := I2.cell y c (look y c e)
      exact ⟨v, o, old _ _ ho, hd⟩
    free := I2.hok.fresh hCle
    freeC := fun y c e => I2.freeC y c (look y c e)
    pin := fun p hp => by
      obtain ⟨e, n, ne, nf, d⟩ := I2.pin p hp
      refine ⟨old _ _ e, n, below _ (Heap.lt_size e), fun hb => ?_, d⟩
      rcases List.mem_cons.mp (I2.stkSub _ hb) with z | z
      · exact ne z
      · exact nf z
    hok := I2.hok.kept old
    len := by simp [cxComp, outs, S.len] }
  have fok : ∀ {pp : List (Addr × Obj)} {H' : Hp}, (∀ b ∈ fp, H' b = none) → (∀ p ∈ pp, p.1 = s2.heap.objs.size) → ∀ b ∈ fp, FpOk (cxComp X (x :: frees) scope C s2 H2 fp) (pins ++ pp) H' b := fun {pp H'} hn hp b hb => by
    obtain ⟨_, f1, f2', f3, f4, f5⟩ := f2 b hb
    refine ⟨hn b hb, below b (fpD b hb), fun hf => ?_, .inl hb, fun y c e => f4 y c (look y c e), fun p hpp z => ?_⟩
    · rcases List.mem_cons.mp (I2.stkSub b hf) with z | z
      · exact f1 z
      · exact f2' z
    · have hpp' : p ∈ X.pn ++ (pins ++ pp) := hpp
      rw [← List.append_assoc] at hpp'
      rcases List.mem_append.mp hpp' with q | q
      · exact f5 p q z
      · have q' := fpD b hb
        rw [← z, hp p q] at q'
        exact Nat.lt_irrefl _ q'
  have loop : ∀ s3 : Shared, s3 = { s2 with heap := h₁, toks := s2.toks + ([] : List (Str × Value)).length } →
      codeAny (model X.prog X.w) X.A (.compLoop (.ListComp elt [⟨.Name x px, iter, ifs, 0⟩] scope pos) 0 (.ref it) (.ref s2.heap.objs.size) (compEnvC scope (closL X.env.cells scope.names []) C X.env))
        (compPost (model X.prog X.w) X.A X.xe none (EP X pins σ Q) (.ref s2.heap.objs.size) C) s3 := by
    rintro s3 rfl
    obtain ⟨k0, hacc⟩ := hacc
    refine compLoop_go (fun n s' => ∃ i o vs H' its k, Inv (cxComp X (x :: frees) scope C s2 H2 fp) pins (o :: outs σ idx) H' s' ∧ tn i s'.heap ∧ (∀ b ∈ fp, H' b = none) ∧ H' s2.heap.objs.size = none ∧
      s'.heap.get? s2.heap.objs.size = some { cls := .type "list", data := .seq its.toArray k } ∧ Vals vs its ∧ W i n vs H') ?_ m0
      ⟨0, none, [], H2, [], k0, I3, T.keep _ _ _ st2 fun b _ o e => old b o e, fun b hb => (f2 b hb).1, I2.hok.fresh (Nat.le_refl _), hacc, .nil, w0⟩
    rintro n s' ⟨i, o, vs, H', its, k, I', st', fr', hD', hg', hv', w'⟩
    obtain ⟨hlen, alt⟩ := turn i n vs H' w'
    have IP : Inv (cxComp X (x :: frees) scope C s2 H2 fp) (pins ++ [(s2.heap.objs.size, { cls := .type "list", data := .seq its.toArray k })]) (o :: outs σ idx) H' s' :=
      I'.pins_of fun p hp => (List.mem_append.mp hp).elim (fun z => I'.pin p (List.mem_append_right _ z)) fun z => by
        have z' : p = (s2.heap.objs.size, { cls := .type "list", data := .seq its.toArray k }) := by simpa using z
        subst z'
        exact ⟨hg', hD', hDC, Dfs, fun v q => by cases q⟩
    have FP := fok (pp := [(s2.heap.objs.size, { cls := .type "list", data := .seq its.toArray k })]) fr' (fun p hp => by
      have z' : p = (s2.heap.objs.size, { cls := .type "list", data := .seq its.toArray k }) := by simpa using hp
      rw [z'])
    rcases alt with ⟨stop, qn⟩ | ⟨go, step⟩
    · refine thn (T.done (cxComp X (x :: frees) scope C s2 H2 fp) rfl rfl rfl hc i _ s' _ H' (fun _ _ => False) IP FP st' stop) fun r s4 ⟨hr, I4⟩ => ?_
      subst hr
      obtain ⟨m4, hn4, _⟩ := id I4.loc
      refine ⟨m4, hn4, fun h' hsb => ?_⟩
      have gD : s4.heap.get? s2.heap.objs.size = some { cls := .type "list", data := .seq its.toArray k } := (I4.pin (s2.heap.objs.size, _) (List.mem_append_right _ (List.mem_append_right _ (List.mem_singleton.mpr rfl)))).1
      have hx : ∀ b o, b ≠ C → s4.heap.get? b = some o → h'.get? b = some o := fun b o hb e => (hsb.2 b hb).trans e
      have J1 : Inv X pins σ H' { s4 with heap := h' } := by
        refine I2.call' (ch := fp) I4.os ⟨fun b o e n hb hx' => ?_, fun b o e n hb hx' => ?_, I4.base.free, fun b o e hx' => ?_, I4.base.tups, I4.base.frzs, I4.base.tbls⟩ (fun b u e => ?_) I4.bare fun b hb => ?_
        · exact hx b o (below b (Heap.lt_size e)) (I4.base.keep b o e n hb hx')
        · obtain ⟨sl, q⟩ := I4.base.slot b o e n hb hx'
          exact ⟨sl, hx b _ (below b (Heap.lt_size e)) q⟩
        · obtain ⟨o', q⟩ := I4.base.there b o e hx'
          exact ⟨o', hx b _ (below b (Heap.lt_size e)) q⟩
        · refine (I4.hok b u e).stay (fun c v hcc q => hx c v ?_ q) (fun _ q => q) fun _ _ q => q
          rintro rfl
          rcases hcc with z | z
          · rw [← z] at e
            have := I4.free
            rw [show H' c = none from this] at e; cases e
          · have := I4.free
            rw [show H' c = none from this] at z; cases z
        · obtain ⟨_, f1, f2', f3, f4, f5⟩ := f2 b hb
          exact ⟨f3, f1, f4, f5⟩
      refine ⟨.ref s2.heap.objs.size, upd H' s2.heap.objs.size (.lst vs), J1.track hD' (Nat.le_of_lt hlen) hv' (hx _ _ hDC gD) (.inr I2.sz) (fun z => by have q := I2.lt; rw [← z] at q; exact Nat.lt_irrefl _ q) Dcell Dpin, rfl, qn _ hD'⟩
    · refine thn (T.item (cxComp X (x :: frees) scope C s2 H2 fp) rfl rfl rfl hc i _ s' _ H' (fun _ _ => False) IP FP st' go) fun r s4 ⟨u, hr, h4⟩ => ?_
      subst hr
      refine thn h4 fun _ s5 ⟨xv, H5, I5, r5, y5, st5, fr5⟩ => ?_
      have I5' := I5.pinned (fok (pp := [(s2.heap.objs.size, { cls := .type "list", data := .seq its.toArray k })]) fr5 (fun p hp => by
        have z' : p = (s2.heap.objs.size, { cls := .type "list", data := .seq its.toArray k }) := by simpa using hp
        rw [z'])) (T.obj _ _ st5)
      refine wpAny_assign_Name (store_ok (i := 0) (X := cxComp X (x :: frees) scope C s2 H2 fp) I5' S.nd rfl (.inl (lookup_relabel_local S.tgt)) r5 (fun s6 I6 => ?_) (.inr (lookup_relabel_local S.tgt)))
      have q6 := step xv H5 y5
      refine thn (ht C s2 H2 fp _ s6 _ H5 _ I6 q6) fun b s7 ⟨H7, I7, q7⟩ => ?_
      have keepT : ∀ {s8 : Shared} {σ8 : St} {H8 : Hp}, Inv (cxComp X (x :: frees) scope C s2 H2 fp) ((pins ++ [(s2.heap.objs.size, { cls := .type "list", data := .seq its.toArray k })]) ++ pinsAt fp s5.heap) σ8 H8 s8 →
          tn (i + 1) s8.heap ∧ (∀ b ∈ fp, H8 b = none) ∧ H8 s2.heap.objs.size = none ∧ s8.heap.get? s2.heap.objs.size = some { cls := .type "list", data := .seq its.toArray k } := fun {s8 σ8 H8} I8 => by
        refine ⟨T.keep _ _ _ st5 fun b hb o e => (I8.pin (b, o) (List.mem_append_right _ (List.mem_append_right _ (mem_pinsAt hb e)))).1, fun b hb => ?_, ?_, ?_⟩
        · obtain ⟨o, e, d⟩ := T.obj _ _ st5 b hb
          exact (I8.pin (b, o) (List.mem_append_right _ (List.mem_append_right _ (mem_pinsAt hb e)))).2.1
        · exact (I8.pin (s2.heap.objs.size, _) (List.mem_append_right _ (List.mem_append_left _ (List.mem_append_right _ (List.mem_singleton.mpr rfl))))).2.1
        · exact (I8.pin (s2.heap.objs.size, _) (List.mem_append_right _ (List.mem_append_left _ (List.mem_append_right _ (List.mem_singleton.mpr rfl))))).1
      cases b with
      | false =>
        rw [if_neg Bool.false_ne_true] at q7 ⊢
        obtain ⟨m', hm, w7⟩ := q7
        obtain ⟨a1, a2, a3, a4⟩ := keepT I7
        exact ⟨m', hm, i + 1, some xv, vs, H7, its, k, I7.unpinned.unpinned, a1, a2, a3, a4, hv', w7⟩
      | true =>
        rw [if_pos rfl] at q7 ⊢
        refine thn (he C s2 H2 fp _ s7 _ H7 _ I7 q7) fun u8 s8 ⟨v8, H8, I8, r8, m', hm, w8⟩ => ?_
        obtain ⟨a1, a2, a3, a4⟩ := keepT I8
        refine wpAny_list_append_plain (items := its.toArray) ⟨k, a4⟩ (fun h9 pl sb => ?_) (by rw [List.size_toArray, ← hv'.length]; exact Nat.le_of_lt hlen)
        obtain ⟨k9, e9⟩ := pl
        have ne : ∀ b ∈ fp, b ≠ s2.heap.objs.size := fun b hb => Nat.ne_of_lt (fpD b hb)
        have I9 : Inv (cxComp X (x :: frees) scope C s2 H2 fp) pins (some xv :: outs σ idx) H8 { s8 with heap := h9 } :=
          I8.unpinned.unpinned.turned (t' := s8.toks) (fun b o hb e => (sb.2 b hb).trans e) a3 hDC (.inr (Nat.le_refl _)) (fun y c e => Dcell y c (look y c e)) Dpin
        refine ⟨m', hm, i + 1, some xv, vs ++ [v8], H8, its ++ [u8], k9, I9, T.keep _ _ _ a1 fun b hb o e => (sb.2 b (ne b hb)).trans e, a2, a3, ?_, hv'.snoc r8, w8⟩
        rw [List.push_toArray] at e9
        exact e9
  exact codeAny_compStart_list (loop _ rfl) (T.self _ 0 _ _ _ (T.keep _ _ _ st2 fun b _ o e => old b o e) (loop _ rfl))
end L2

set_option Elab.async false
set_option linter.all false
set_option maxRecDepth 100000
namespace L2
open PySem PySem.Spec PyProof.Rows
/-! ### a text walked sign by sign -/
def Its (x : Str) : It := ⟨fun i _ => i < x.cps.size, fun i H v H' => H' = H ∧ ∃ c, x.cps[i]? = some c ∧ v = .str ⟨#[c]⟩, fun i _ => i = x.cps.size⟩
theorem turn_str {P : Program} {w : World} {K : PySem.W.Frag} {tg : Expr} (it : Addr) (x : Str) (t : Tok) (ty : String) (hty : ty = "str_ascii_iterator" ∨ ty = "str_iterator") :
    Turn P w K tg (Its x) [it] it (fun i h => h.IsStrIter it ty x t i) where
  mem := by simp
  obj := fun i h st b hb => by
    have e : b = it := by simpa using hb
    subst e
    obtain ⟨o, e, c, d⟩ := st
    exact ⟨o, e, fun v z => by rw [d] at z; cases z⟩
  keep := fun i h h' st k => by
    obtain ⟨o, e, r⟩ := st
    exact ⟨o, k it (by simp) o e, r⟩
  item := by
    intro X hP hw hK hc i pins s σ H E I hf st hg
    subst hP hw hK
    obtain ⟨f0, f1, f2, f3, f4, f5⟩ := hf it (by simp)
    have go : ∀ W : Walks X.prog X.w X.A it [it] [it] x.cps.size (SignAt x) (fun i h => h.IsStrIter it ty x t i), wpAny (model X.prog X.w) X.A (pyNext (.ref it)) (fun r s1 => ∃ u, r = some u ∧
        wpAny (model X.prog X.w) X.A (letOwnedTupleGo tg (.ref it) u) (fun _ s2 => ∃ v H', Inv X pins σ H' s2 ∧ RelV v u ∧ (Its x).yld i H v H' ∧ s2.heap.IsStrIter it ty x t (i + 1) ∧ ∀ b ∈ [it], H' b = none) E s1) E s := fun W => by
      refine W.item i s _ _ hg st fun v h' tk hv st' kk => ?_
      obtain ⟨c, u, hcx, rfl⟩ := hv
      have I1 : Inv X pins σ H { s with heap := h', toks := tk } := I.turned (fun b o hb e => kk b o (by simpa using hb) e) f0 f1 f3 f4 f5
      obtain ⟨o, e, hcl, d⟩ := id st'
      refine ⟨_, rfl, go_of (s := { s with heap := h', toks := tk }) (n := ty) e hcl d ?_ ⟨.str ⟨#[c]⟩, H, I1, ⟨u, rfl⟩, ⟨rfl, c, hcx, rfl⟩, st', fun b hb => (hf b hb).1⟩⟩
      rcases hty with rfl | rfl <;> decide
    rcases hty with rfl | rfl
    · exact go (Walks.strAscii (I.ok.hd hc) it x t)
    · exact go (Walks.strWide (I.ok.hd hc) it x t)
  done := by
    intro X hP hw hK hc i pins s σ H E I hf st hg
    subst hP hw hK
    obtain ⟨f0, f1, f2, f3, f4, f5⟩ := hf it (by simp)
    have hg' : i = x.cps.size := hg
    subst hg'
    rcases hty with rfl | rfl
    · exact (Walks.strAscii (prog := X.prog) (w := X.w) (I.ok.hd hc) it x t).done s _ _ st fun h' tk kk => ⟨rfl, I.turned (fun b o hb e => kk b o (by simpa using hb) e) f0 f1 f3 f4 f5⟩
    · exact (Walks.strWide (prog := X.prog) (w := X.w) (I.ok.hd hc) it x t).done s _ _ st fun h' tk kk => ⟨rfl, I.turned (fun b o hb e => kk b o (by simpa using hb) e) f0 f1 f3 f4 f5⟩
  self := fun _ _ _ _ _ st h => by
    rcases hty with rfl | rfl
    · exact wpAny_pyIter_striter_ascii st h
    · exact wpAny_pyIter_striter_wide st h
def iStr (tl : TE) : TI := fun σ H R => tl σ H fun v H1 => ∃ x, v = .str x ∧ R (Its x) H1
theorem pi_str {X : Cx} {tg l : Expr} {tl : TE} (hl : PE X l tl) : PI X tg l (iStr tl) := by
  intro pins s σ H R I h
  refine thn (hl pins s σ H _ I h) fun v s1 ⟨y, H1, I1, r1, q1⟩ => ?_
  obtain ⟨x, e, q⟩ := q1
  subst e
  obtain ⟨t, rfl⟩ := r1
  have go : ∀ (ty : String) (o : Obj), (ty = "str_ascii_iterator" ∨ ty = "str_iterator") → (s1.heap.push o).IsStrIter s1.heap.objs.size ty x t 0 → PIE X pins σ tg R (.ref s1.heap.objs.size) { s1 with heap := s1.heap.push o } := fun ty o hty st => by
    refine ⟨s1.heap.objs.size, [s1.heap.objs.size], _, _, H1, rfl, I1.kept (t' := s1.toks) fun b o e => Heap.get?_push_of_some _ e, turn_str _ x t ty hty, st, fun b hb => ?_, q⟩
    have e : b = s1.heap.objs.size := by simpa using hb
    subst e
    exact I1.fpOk (Nat.le_refl _) (I1.hok.fresh (Nat.le_refl _))
  cases ha : x.cps.all (· < 128)
  · exact wpAny_pyIter_wide ha (go "str_iterator" _ (.inr rfl) ⟨_, Heap.get?_push_size _ rfl, rfl, rfl⟩)
  · exact wpAny_pyIter_ascii ha (go "str_ascii_iterator" _ (.inl rfl) ⟨_, Heap.get?_push_size _ rfl, rfl, rfl⟩)

section
variable {X : Cx}
/-! ### all([..]) of a list of bools -/
theorem boolsAre_of : ∀ {bs : List Bool} {us : List Value}, Vals (bs.map V.bl) us → LSm.BoolsAre us bs := by
  intro bs
  induction bs with
  | nil => intro us h; cases h; exact .nil
  | cons b r ih =>
    intro us h
    cases h with
    | cons h1 h2 =>
      cases (show _ = Value.bool b from h1)
      exact .cons b (ih h2)
theorem call_all (hc : X.calm = true) : CallR X (.builtin "all") (fun xs H Q => ∃ (p : Addr) (bs : List Bool), xs = [.ref p] ∧ SqL X.K H p (bs.map V.bl) ∧ Q (.bl (bs.all id)) H) := by
  intro pins s σ H xs us Q I r h
  obtain ⟨p, bs, rfl, hq, q⟩ := h
  obtain ⟨u, rfl, rx⟩ := vals1 r
  cases rx
  obtain ⟨its, r', pl, hz⟩ := I.list hq
  have hl := pl.isList
  have hb := boolsAre_of r'
  have hlt : p < s.heap.objs.size := by obtain ⟨_, e, _⟩ := hl; exact Heap.lt_size e
  refine call_all_walk (wpAny_pyIter_list hl ?_)
  refine ⟨s.heap.objs.size, [s.heap.objs.size, p], [s.heap.objs.size], its.toArray.size, _, _, fun i => (bs[i]?).getD true, rfl, Walks.list (A := X.A.in1) (I.ok.hd hc) _ p (Nat.ne_of_lt hlt) its.toArray,
    ⟨⟨_, Heap.get?_push_size _ rfl, rfl, rfl⟩, hl.push _⟩, fun i v s' Q' E' hP hQ => ?_, fun h' tk hk => ?_⟩
  · obtain ⟨b, e, rfl⟩ := hb.get i v (by simpa using hP)
    simp only [e, Option.getD_some] at hQ
    exact wpAny_truthy_bool hQ
  · have e : ((List.range its.toArray.size).all fun i => (bs[i]?).getD true) = bs.all id := by
      rw [List.size_toArray, hb.length]; exact LSm.range_all bs
    rw [e]
    exact ⟨.bl (bs.all id), H, I.kept (LSm.kept_iter hk), rfl, q⟩
/-! ### isinstance -/
theorem call_isi : CallR X (.builtin "isinstance") (fun xs H Q => ∃ x t T b, xs = [x, .ty T] ∧ TyOf X.K H x t ∧ PySem.W.kitOne X.K t (.type T) = some b ∧ Q (.bl b) H) := by
  intro pins s σ H xs us Q I r h
  obtain ⟨x, t, T, b, rfl, ty, e, q⟩ := h
  obtain ⟨u, w', rfl, rx, ry⟩ := vals2 r
  cases (show w' = Value.type T from ry)
  exact isinst_ok I rx ty e fun tk => ⟨.bl b, H, I.tok tk, rfl, q⟩
/-! ### slices of texts -/
theorem sl_str : SlR X (fun x lo hi H Q => ∃ z, x = .str z ∧ z.length ≤ sizeLine ∧ Q (.str (Txt.slice z lo hi)) H) := by
  intro pins s σ H x v vl vu lo hi sl Q I rx hs pl pu h
  obtain ⟨z, rfl, hz, q⟩ := h
  obtain ⟨t, rfl⟩ := rx
  refine ⟨"str", _, F.slot_str_getitem.lookup, typeIs_str _ _ _, ?_⟩
  have fin : ∀ l u : Option (Int × Tok), vl = partValue l → vu = partValue u → l.map (·.1) = lo → u.map (·.1) = hi → wpAny (model X.prog X.w) X.A (getItem (.str z t) (.ref sl)) (EP X pins σ Q) X.xe s := fun l u e1 e2 e3 e4 => by
    subst e1 e2 e3 e4
    refine wpAny_getItem_str_slice (l := l) (u := u) (st := none) hs rfl (post_val_or_str ⟨Nat.le_trans (Txt.slice_le z _ _) hz, fun t' k => ⟨.str _, H, I.tok k, ⟨t', rfl⟩, q⟩⟩)
  cases pl <;> cases pu <;> first
    | exact fin none none rfl rfl rfl rfl
    | exact fin none (some (_, _)) rfl rfl rfl rfl
    | exact fin (some (_, _)) none rfl rfl rfl rfl
    | exact fin (some (_, _)) (some (_, _)) rfl rfl rfl rfl
/-! ### str methods -/
/-! ### is, is not of bools -/
/-! ### a tuple is no text -/
/-! ### the call of a function that stands in a slot -/
end
end L2

set_option Elab.async false
set_option linter.all false
set_option maxRecDepth 100000
namespace L2
open PySem PySem.Spec PyProof.Rows
def compOk (osc : Scope) (N : List Str) (x : Str) (frees : List Str) (idx : List Nat) (scope : Scope) : Bool :=
  scope.kind == .function && (scope.names.all (fun y => y.2 != .cell) && (scope.names.all (fun y => y.2 != .local || scope.names.lookup y.1 == some .local) && (scope.names.all (fun y => y.2 != .free || (osc.names.lookup y.1 == some .cell || osc.names.lookup y.1 == some .free)) &&
  (scope.names.lookup x == some .local && (decide (x :: frees).Nodup && (idx.length == frees.length && ((idx.zip frees).all (fun p => N[p.1]? == some p.2) && frees.all (fun y => scope.names.lookup y == some .free))))))))
theorem zip_get {α β : Type} : ∀ {l : List α} {r : List β} {j : Nat} {y : β}, l.length = r.length → r[j]? = some y → ∃ k, l[j]? = some k ∧ (k, y) ∈ l.zip r
  | [], [], j, y, _, h => by simp at h
  | a :: l, b :: r, 0, y, _, h => by
    simp at h; subst h
    exact ⟨a, rfl, by simp⟩
  | a :: l, b :: r, j + 1, y, e, h => by
    obtain ⟨k, h1, h2⟩ := zip_get (l := l) (r := r) (j := j) (y := y) (by simpa using e) (by simpa using h)
    exact ⟨k, by simpa using h1, by rw [List.zip_cons_cons]; exact List.mem_cons_of_mem _ h2⟩
theorem compOk_scope {X : Cx} {osc : Scope} {N : List Str} {x : Str} {frees : List Str} {idx : List Nat} {scope : Scope} (h : compOk osc N x frees idx scope = true) (ho : X.env.scope = osc) (hN : X.N = N) :
    CompScope X x frees idx scope ∧ ∀ y ∈ frees, scope.names.lookup y = some .free := by
  unfold compOk at h
  simp only [Bool.and_eq_true, List.all_eq_true, Bool.or_eq_true, bne_iff_ne, beq_iff_eq, decide_eq_true_eq] at h
  obtain ⟨h1, h2, h3, h4, h5, h6, h7, h8, h9⟩ := h
  have fl : ∀ y ∈ frees, scope.names.lookup y = some .free := fun y hy => h9 y hy
  refine ⟨⟨h1, h2, fun y hy e => ?_, h5, h6, fun y hy e => ?_, fun j y hj => ?_, h7, fun y hy => mem_of_lookup' (fl y hy)⟩, fl⟩
  · rcases h3 y hy with q | q
    · exact absurd e q
    · exact q
  · have q : osc.names.lookup y.1 = some .cell ∨ osc.names.lookup y.1 = some .free := by
      rcases h4 y hy with q | q
      · exact absurd e q
      · exact q
    rw [← ho] at q
    exact q
  · obtain ⟨k, e1, e2⟩ := zip_get h7 hj
    exact ⟨k, e1, by rw [hN]; exact h8 (k, y) e2⟩
theorem pe_lc {X : Cx} {elt iter : Expr} {x : Str} {px pos : Pos} {ifs : List Expr} {scope : Scope} {wi : TI} {tt : TT} {te : TE} (osc : Scope) (N : List Str) (frees : List Str) (idx : List Nat)
    (hk : compOk osc N x frees idx scope = true) (hi : PI X (.Name x px) iter wi)
    (ht : ∀ C s₀ H₀ ex, PTs (cxComp X (x :: frees) scope C s₀ H₀ ex) ifs tt) (he : ∀ C s₀ H₀ ex, PE (cxComp X (x :: frees) scope C s₀ H₀ ex) elt te)
    (ho : X.env.scope = osc := by rfl) (hN : X.N = N := by rfl) (hc : X.calm = true := by rfl) (hs : ∀ v, foldedSetIterable iter X.env v = pure v := by intro _; rfl) : PE X (.ListComp elt [⟨.Name x px, iter, ifs, 0⟩] scope pos) (tComp idx wi tt te) := by
  obtain ⟨S, fl⟩ := compOk_scope (X := X) hk ho hN
  exact pe_lcomp hc S fl hi ht he hs
/-- what a turn of n, the i-th, hands on -/
def Nx (n i : Nat) (p : Prop) : Prop := ∃ m', m' < n - i ∧ m' = n - (i + 1) ∧ i + 1 ≤ n ∧ p
theorem nx {n i : Nat} {p : Prop} (h : i < n) (q : p) : Nx n i p := ⟨n - (i + 1), by omega, rfl, h, q⟩
/-- over a text -/
theorem comp_str {x : Str} {tt : TT} {te : TE} {σ' : St} {Q : VK} {H : Hp} (Pv : Nat → List V → Hp → Prop) (h0 : Pv 0 [] H) (hlen : ∀ i vs H2, i ≤ x.cps.size → Pv i vs H2 → vs.length < sizeLine)
    (hs : ∀ i vs H2 c, i < x.cps.size → x.cps[i]? = some c → Pv i vs H2 → tt (some (.str ⟨#[c]⟩) :: σ') H2 fun b H4 => if b = true then te (some (.str ⟨#[c]⟩) :: σ') H4 fun v H5 => Nx x.cps.size i (Pv (i + 1) (vs ++ [v]) H5) else Nx x.cps.size i (Pv (i + 1) vs H4))
    (hd : ∀ vs H2, Pv x.cps.size vs H2 → ∀ l, H2 l = none → Q (.ref l) (upd H2 l (.lst vs))) : CompW (Its x) tt te σ' Q H := by
  refine ⟨fun i m vs H => m = x.cps.size - i ∧ i ≤ x.cps.size ∧ Pv i vs H, ⟨x.cps.size, by simp, Nat.zero_le _, h0⟩, ?_⟩
  rintro i m vs H2 ⟨rfl, hi, p⟩
  refine ⟨hlen i vs H2 hi p, ?_⟩
  by_cases hlt : i < x.cps.size
  · refine .inr ⟨hlt, ?_⟩
    rintro v H3 ⟨rfl, c, hc, rfl⟩
    exact hs i vs H3 c hlt hc p
  · have e : i = x.cps.size := by omega
    subst e
    exact .inl ⟨rfl, hd vs H2 p⟩
/-- over a range -/
theorem comp_range {lo : Int} {n : Nat} {tt : TT} {te : TE} {σ' : St} {Q : VK} {H : Hp} (Pv : Nat → List V → Hp → Prop) (h0 : Pv 0 [] H) (hlen : ∀ i vs H2, i ≤ n → Pv i vs H2 → vs.length < sizeLine)
    (hs : ∀ i vs H2, i < n → Pv i vs H2 → tt (some (.int (lo + i)) :: σ') H2 fun b H4 => if b = true then te (some (.int (lo + i)) :: σ') H4 fun v H5 => Nx n i (Pv (i + 1) (vs ++ [v]) H5) else Nx n i (Pv (i + 1) vs H4))
    (hd : ∀ vs H2, Pv n vs H2 → ∀ l, H2 l = none → Q (.ref l) (upd H2 l (.lst vs))) : CompW (Itr lo n) tt te σ' Q H := by
  refine ⟨fun i m vs H => m = n - i ∧ i ≤ n ∧ Pv i vs H, ⟨n, by simp, Nat.zero_le _, h0⟩, ?_⟩
  rintro i m vs H2 ⟨rfl, hi, p⟩
  refine ⟨hlen i vs H2 hi p, ?_⟩
  by_cases hlt : i < n
  · refine .inr ⟨hlt, ?_⟩
    rintro v H3 ⟨rfl, rfl⟩
    exact hs i vs H3 hlt p
  · have e : i = n := by omega
    subst e
    exact .inl ⟨Nat.le_refl _, hd vs H2 p⟩
end L2

set_option Elab.async false
set_option linter.all false
set_option maxRecDepth 100000
namespace L2
open PySem PySem.Spec PyProof.Rows
/-! ### a dict of the module, its keys texts -/
def EntryIs (w : World) (p : Str × V) (e : DictEntry) : Prop := e.hash = hashStr w p.1 ∧ (∃ t, e.key = .str p.1 t) ∧ RelV p.2 e.val
def StrDict (K : PySem.W.Frag) (w : World) (a : Addr) (fs : List (Str × V)) : Prop :=
  (a == sysModules) = false ∧ ∃ o es ep, K.lookup a = some o ∧ o.ExactDict ∧ o.data = .dict es ep ∧ Paired (EntryIs w) fs es.toList
section
variable {X : Cx} {pins : List (Addr × Obj)} {σ : St} {H : Hp} {s : Shared}
end
end L2

set_option Elab.async false
set_option linter.all false
set_option maxRecDepth 100000
namespace L2
open PySem PySem.Spec PyProof.Rows
section
variable {X : Cx}
end
end L2

set_option Elab.async false
set_option linter.all false
set_option maxRecDepth 100000
namespace L2
open PySem PySem.Spec PyProof.Rows
/-! ### texts many times; lists that are alike -/
def repS (k : Nat) (z : Str) : Str := ⟨(List.replicate k z.cps).foldl (· ++ ·) #[]⟩
section
variable {X : Cx}
/-- xs == ys of flat values -/
def eqVs (xs ys : List V) : Bool := decide (xs.length = ys.length) && (List.range xs.length).all fun j => match xs[j]?, ys[j]? with
  | some a, some b => eqV a b
  | _, _ => false
end
end L2

set_option Elab.async false
set_option linter.all false
set_option maxRecDepth 100000
namespace L2
open PySem PySem.Spec PyProof.Rows
/-! ### a comprehension whose target is a pattern -/
structure CompScopeM (X : Cx) (frees : List Str) (idx : List Nat) (scope : Scope) : Prop where
  kind : scope.kind = .function
  nocell : ∀ y ∈ scope.names, y.2 ≠ .cell
  loc : ∀ y ∈ scope.names, y.2 = .local → scope.names.lookup y.1 = some .local
  fr : ∀ y ∈ scope.names, y.2 = .free → X.env.kindOf y.1 = some .cell ∨ X.env.kindOf y.1 = some .free
  ix : ∀ (j : Nat) (y : Str), frees[j]? = some y → ∃ k, idx[j]? = some k ∧ X.N[k]? = some y
  len : idx.length = frees.length
  cl : ∀ y ∈ frees, (y, NameKind.free) ∈ scope.names
def CompWM (n : Nat) (J : It) (g : TG) (tt : TT) (te : TE) (σ' : St) (Q : VK) (H1 : Hp) : Prop := ∃ W : Nat → Nat → List V → Hp → Prop, (∃ m, W 0 m [] H1) ∧ ∀ i m vs H2, W i m vs H2 →
  vs.length < sizeLine ∧ ((J.stop i H2 ∧ ∀ l, H2 l = none → Q (.ref l) (upd H2 l (.lst vs))) ∨
    (J.go i H2 ∧ ∀ (τ : St) x H3, τ.length = n → J.yld i H2 x H3 → g x (τ ++ σ') H3 fun σ1 H4 => (∃ τ' : St, σ1 = τ' ++ σ' ∧ τ'.length = n) ∧
      tt σ1 H4 fun b H5 => if b = true then te σ1 H5 fun v H6 => ∃ m', m' < m ∧ W (i + 1) m' (vs ++ [v]) H6 else ∃ m', m' < m ∧ W (i + 1) m' vs H5))
def tCompM (n : Nat) (idx : List Nat) (wi : TI) (g : TG) (tt : TT) (te : TE) : TE := fun σ H Q => wi σ H fun J H1 => CompWM n J g tt te (outs σ idx) Q H1
theorem pe_lcompM {X : Cx} {elt iter tg : Expr} {M : List Str} {g : TG} {pos : Pos} {ifs : List Expr} {scope : Scope} {frees : List Str} {idx : List Nat} {wi : TI} {tt : TT} {te : TE}
    (hc : X.calm = true) (S : CompScopeM X frees idx scope) (hfl : ∀ y ∈ frees, scope.names.lookup y = some .free) (hi : PI X tg iter wi) (hg : ∀ C s₀ H₀ ex, PG (cxComp X (M ++ frees) scope C s₀ H₀ ex) tg g)
    (ht : ∀ C s₀ H₀ ex, PTs (cxComp X (M ++ frees) scope C s₀ H₀ ex) ifs tt) (he : ∀ C s₀ H₀ ex, PE (cxComp X (M ++ frees) scope C s₀ H₀ ex) elt te)
    (hs : ∀ v, foldedSetIterable iter X.env v = pure v := by intro _; rfl) : PE X (.ListComp elt [⟨tg, iter, ifs, 0⟩] scope pos) (tCompM M.length idx wi g tt te) := by
  intro pins s σ H Q I h
  rw [eval_ListComp]
  have hclos := closL_eq (scope := scope) (env := X.env) fun p hp hf => I.ok.has p.1 (S.fr p hp hf)
  refine wpAny_comprehension_free (use := none) rfl hs hclos S.kind S.loc (thn (hi pins s σ H _ I h) fun v s1 h1 => thn h1 fun itv s2 h2 => ?_)
  obtain ⟨it, fp, tn, J, H2, rfl, I2, T, st2, f2, W, ⟨m0, w0⟩, turn⟩ := h2
  refine wpAny_newObj_type (wpAny_newFunctionEnv S.nocell (by intro y hy; simp at hy) (fun h₁ hns₁ hsb₁ => ?_) S.kind)
  dsimp only at hns₁ hsb₁ ⊢
  generalize hH2 : s2.heap.push { cls := .type "list", dict := none, data := .seq ([] : List Value).toArray } = G2 at hns₁ hsb₁ ⊢
  have hCe : G2.objs.size = s2.heap.objs.size + 1 := by rw [← hH2, Heap.size_push]
  generalize hC : G2.objs.size = C at hns₁ hsb₁ hCe ⊢
  have hCle : s2.heap.objs.size ≤ C := by omega
  have hDC : s2.heap.objs.size ≠ C := by omega
  have below : ∀ b, b < s2.heap.objs.size → b ≠ C := fun b hb => by omega
  have old : ∀ b o, s2.heap.get? b = some o → h₁.get? b = some o := fun b o e => hsb₁.extBut b o (below b (Heap.lt_size e)) (Heap.get?_push_of_some _ (hH2 ▸ Heap.get?_push_of_some _ e))
  have hacc : ∃ k, h₁.get? s2.heap.objs.size = some { cls := .type "list", data := .seq ([] : List Value).toArray k } := ⟨_, hsb₁.extBut _ _ hDC (Heap.get?_push_of_some _ (hH2 ▸ Heap.get?_push_size _ rfl))⟩
  have look : ∀ y c, (closL X.env.cells scope.names []).lookup y = some c → X.env.cells.lookup y = some c := fun y c e => by
    rcases closL_look _ _ y c e with q | q
    · exact q
    · cases q
  have fpD : ∀ b ∈ fp, b < s2.heap.objs.size := fun b hb => by
    obtain ⟨o, e, _⟩ := T.obj _ _ st2 b hb
    exact Heap.lt_size e
  have ok' : (cxComp X (M ++ frees) scope C s2 H2 fp).Ok := {
    mod := I2.ok.mod
    kind := S.kind
    glob := I2.ok.glob
    blt := I2.ok.blt
    above := hCle
    inj := fun y z c e1 e2 => I2.ok.inj y z c (look y c e1) (look z c e2)
    has := fun y hy => by
      have q := relabel_free (scope := scope) (env := X.env) hy S.nocell
      exact closL_has _ _ y q (I2.ok.has y (S.fr _ q rfl))
    cab := fun y c hf => by cases hf
    hd := I2.ok.hd
    frames := I2.ok.frames
    stk := .inl rfl
    exf := fun b hb => ⟨below b (fpD b hb), fun y c e => (f2 b hb).2.2.2.2.1 y c (look y c e)⟩
    bs := I2.bs
    bsz := Nat.le_trans I2.ok.bsz I2.sz
    noex := fun b o e hb => by
      rcases (f2 b hb).2.2.2.1 with z | z
      · exact I2.ok.noex b o e z
      · exact absurd (Nat.lt_of_lt_of_le (Heap.lt_size e) (Nat.le_trans I2.ok.bsz z)) (Nat.lt_irrefl _)
    exfs := fun b hb hf => by
      rcases List.mem_cons.mp (I2.stkSub b hf) with z | z
      · exact (f2 b hb).2.1 z
      · exact (f2 b hb).2.2.1 z
    funs := I2.stack
    frf := I2.stkFree }
  have Dfs : s2.heap.objs.size ∉ frs X.stack := fun hb => by
    rcases List.mem_cons.mp (I2.stkSub _ hb) with z | z
    · have q := I2.lt
      rw [← z] at q
      exact Nat.lt_irrefl _ q
    · exact I2.nofs (Nat.le_refl _) z
  have Dcell : ∀ y c, X.env.cells.lookup y = some c → c ≠ s2.heap.objs.size := fun y c e z => by
    obtain ⟨v, q⟩ := I2.cell y c e
    have q' := q.lt
    rw [z] at q'
    exact Nat.lt_irrefl _ q'
  have Dpin : ∀ p ∈ X.pn ++ pins, p.1 ≠ s2.heap.objs.size := fun p hp z => by
    have q' := Heap.lt_size (I2.pin p hp).1
    rw [z] at q'
    exact Nat.lt_irrefl _ q'
  have I3 : Inv (cxComp X (M ++ frees) scope C s2 H2 fp) pins (List.replicate M.length none ++ outs σ idx) H2 { s2 with heap := h₁, toks := s2.toks + ([] : List (Str × Value)).length } := {
    ok := ok'
    os := rfl
    bare := I2.bare
    base := Un.kept old
    loc := by
      refine ⟨_, hns₁, fun i y v e1 e2 e3 => ?_⟩
      by_cases hi' : i < M.length
      · rw [List.getElem?_append_left (by rw [List.length_replicate]; exact hi'), List.getElem?_replicate, if_pos hi'] at e2
        cases e2
      · obtain ⟨j, rfl⟩ : ∃ j, i = M.length + j := ⟨i - M.length, by omega⟩
        have e1' : frees[j]? = some y := by
          have e1'' : (M ++ frees)[M.length + j]? = some y := e1
          rw [List.getElem?_append_right (Nat.le_add_right _ _), Nat.add_sub_cancel_left] at e1''
          exact e1''
        have e2' : (outs σ idx)[j]? = some (some v) := by
          rw [List.getElem?_append_right (by rw [List.length_replicate]; exact Nat.le_add_right _ _), List.length_replicate, Nat.add_sub_cancel_left] at e2
          exact e2
        obtain ⟨k, hk, hN⟩ := S.ix j y e1'
        have hy : y ∈ frees := List.mem_of_getElem? e1'
        have e4 : σ[k]? = some (some v) := by
          unfold outs at e2'
          rw [List.getElem?_map, hk] at e2'
          have e5 : (σ[k]?).join = some v := Option.some.inj e2'
          cases q : σ[k]? with
          | none => rw [q] at e5; cases e5
          | some o => rw [q] at e5; exact congrArg some e5
        obtain ⟨m, hn, hl⟩ := I2.loc
        have kin := S.fr _ (S.cl y hy) rfl
        have vis : Vis X.env.scope y := by
          rcases kin with z | z
          · exact .inr (.inl z)
          · exact .inr (.inr z)
        obtain ⟨u, r, l⟩ := hl k y v hN e4 vis
        refine ⟨u, r, .inr ⟨lookup_relabel_free (env := X.env) (hfl y hy), ?_⟩⟩
        rcases l with ⟨z, _⟩ | ⟨_, c, ec, ic⟩
        · rcases kin with z' | z'
          · have z'' : X.env.kindOf y = some .cell := z'
            rw [z] at z''; cases z''
          · have z'' : X.env.kindOf y = some .free := z'
            rw [z] at z''; cases z''
        · obtain ⟨c', ec'⟩ := closL_has (cells := X.env.cells) scope.names [] y (S.cl y hy) ⟨c, ec⟩
          have : c' = c := Option.some.inj ((look y c' ec').symm.trans ec)
          subst this
          obtain ⟨o, ho, hd⟩ := ic
          exact ⟨c', ec', o, old _ _ ho, hd⟩
    cell := fun y c e => by
      obtain ⟨v, o, ho, hd⟩ := I2.cell y c (look y c e)
      exact ⟨v, o, old _ _ ho, hd⟩
    free := I2.hok.fresh hCle
    freeC := fun y c e => I2.freeC y c (look y c e)
    pin := fun p hp => by
      obtain ⟨e, n, ne, nf, d⟩ := I2.pin p hp
      refine ⟨old _ _ e, n, below _ (Heap.lt_size e), fun hb => ?_, d⟩
      rcases List.mem_cons.mp (I2.stkSub _ hb) with z | z
      · exact ne z
      · exact nf z
    hok := I2.hok.kept old
    len := by simp [cxComp, outs, S.len] }
  have fok : ∀ {pp : List (Addr × Obj)} {H' : Hp}, (∀ b ∈ fp, H' b = none) → (∀ p ∈ pp, p.1 = s2.heap.objs.size) → ∀ b ∈ fp, FpOk (cxComp X (M ++ frees) scope C s2 H2 fp) (pins ++ pp) H' b := fun {pp H'} hn hp b hb => by
    obtain ⟨_, f1, f2', f3, f4, f5⟩ := f2 b hb
    refine ⟨hn b hb, below b (fpD b hb), fun hf => ?_, .inl hb, fun y c e => f4 y c (look y c e), fun p hpp z => ?_⟩
    · rcases List.mem_cons.mp (I2.stkSub b hf) with z | z
      · exact f1 z
      · exact f2' z
    · have hpp' : p ∈ X.pn ++ (pins ++ pp) := hpp
      rw [← List.append_assoc] at hpp'
      rcases List.mem_append.mp hpp' with q | q
      · exact f5 p q z
      · have q' := fpD b hb
        rw [← z, hp p q] at q'
        exact Nat.lt_irrefl _ q'
  have loop : ∀ s3 : Shared, s3 = { s2 with heap := h₁, toks := s2.toks + ([] : List (Str × Value)).length } →
      codeAny (model X.prog X.w) X.A (.compLoop (.ListComp elt [⟨tg, iter, ifs, 0⟩] scope pos) 0 (.ref it) (.ref s2.heap.objs.size) (compEnvC scope (closL X.env.cells scope.names []) C X.env))
        (compPost (model X.prog X.w) X.A X.xe none (EP X pins σ Q) (.ref s2.heap.objs.size) C) s3 := by
    rintro s3 rfl
    obtain ⟨k0, hacc⟩ := hacc
    refine compLoop_go (fun n s' => ∃ i τ vs H' its k, (τ : St).length = M.length ∧ Inv (cxComp X (M ++ frees) scope C s2 H2 fp) pins (τ ++ outs σ idx) H' s' ∧ tn i s'.heap ∧ (∀ b ∈ fp, H' b = none) ∧ H' s2.heap.objs.size = none ∧
      s'.heap.get? s2.heap.objs.size = some { cls := .type "list", data := .seq its.toArray k } ∧ Vals vs its ∧ W i n vs H') ?_ m0
      ⟨0, List.replicate M.length none, [], H2, [], k0, by simp, I3, T.keep _ _ _ st2 fun b _ o e => old b o e, fun b hb => (f2 b hb).1, I2.hok.fresh (Nat.le_refl _), hacc, .nil, w0⟩
    rintro n s' ⟨i, τ, vs, H', its, k, lτ, I', st', fr', hD', hg', hv', w'⟩
    obtain ⟨hlen, alt⟩ := turn i n vs H' w'
    have IP : Inv (cxComp X (M ++ frees) scope C s2 H2 fp) (pins ++ [(s2.heap.objs.size, { cls := .type "list", data := .seq its.toArray k })]) (τ ++ outs σ idx) H' s' :=
      I'.pins_of fun p hp => (List.mem_append.mp hp).elim (fun z => I'.pin p (List.mem_append_right _ z)) fun z => by
        have z' : p = (s2.heap.objs.size, { cls := .type "list", data := .seq its.toArray k }) := by simpa using z
        subst z'
        exact ⟨hg', hD', hDC, Dfs, fun v q => by cases q⟩
    have FP := fok (pp := [(s2.heap.objs.size, { cls := .type "list", data := .seq its.toArray k })]) fr' (fun p hp => by
      have z' : p = (s2.heap.objs.size, { cls := .type "list", data := .seq its.toArray k }) := by simpa using hp
      rw [z'])
    rcases alt with ⟨stop, qn⟩ | ⟨go, step⟩
    · refine thn (T.done (cxComp X (M ++ frees) scope C s2 H2 fp) rfl rfl rfl hc i _ s' _ H' (fun _ _ => False) IP FP st' stop) fun r s4 ⟨hr, I4⟩ => ?_
      subst hr
      obtain ⟨m4, hn4, _⟩ := id I4.loc
      refine ⟨m4, hn4, fun h' hsb => ?_⟩
      have gD : s4.heap.get? s2.heap.objs.size = some { cls := .type "list", data := .seq its.toArray k } := (I4.pin (s2.heap.objs.size, _) (List.mem_append_right _ (List.mem_append_right _ (List.mem_singleton.mpr rfl)))).1
      have hx : ∀ b o, b ≠ C → s4.heap.get? b = some o → h'.get? b = some o := fun b o hb e => (hsb.2 b hb).trans e
      have J1 : Inv X pins σ H' { s4 with heap := h' } := by
        refine I2.call' (ch := fp) I4.os ⟨fun b o e n hb hx' => ?_, fun b o e n hb hx' => ?_, I4.base.free, fun b o e hx' => ?_, I4.base.tups, I4.base.frzs, I4.base.tbls⟩ (fun b u e => ?_) I4.bare fun b hb => ?_
        · exact hx b o (below b (Heap.lt_size e)) (I4.base.keep b o e n hb hx')
        · obtain ⟨sl, q⟩ := I4.base.slot b o e n hb hx'
          exact ⟨sl, hx b _ (below b (Heap.lt_size e)) q⟩
        · obtain ⟨o', q⟩ := I4.base.there b o e hx'
          exact ⟨o', hx b _ (below b (Heap.lt_size e)) q⟩
        · refine (I4.hok b u e).stay (fun c v hcc q => hx c v ?_ q) (fun _ q => q) fun _ _ q => q
          rintro rfl
          rcases hcc with z | z
          · rw [← z] at e
            have := I4.free
            rw [show H' c = none from this] at e; cases e
          · have := I4.free
            rw [show H' c = none from this] at z; cases z
        · obtain ⟨_, f1, f2', f3, f4, f5⟩ := f2 b hb
          exact ⟨f3, f1, f4, f5⟩
      refine ⟨.ref s2.heap.objs.size, upd H' s2.heap.objs.size (.lst vs), J1.track hD' (Nat.le_of_lt hlen) hv' (hx _ _ hDC gD) (.inr I2.sz) (fun z => by have q := I2.lt; rw [← z] at q; exact Nat.lt_irrefl _ q) Dcell Dpin, rfl, qn _ hD'⟩
    · refine thn (T.item (cxComp X (M ++ frees) scope C s2 H2 fp) rfl rfl rfl hc i _ s' _ H' (fun _ _ => False) IP FP st' go) fun r s4 ⟨u, hr, h4⟩ => ?_
      subst hr
      refine thn h4 fun _ s5 ⟨xv, H5, I5, r5, y5, st5, fr5⟩ => ?_
      have I5' := I5.pinned (fok (pp := [(s2.heap.objs.size, { cls := .type "list", data := .seq its.toArray k })]) fr5 (fun p hp => by
        have z' : p = (s2.heap.objs.size, { cls := .type "list", data := .seq its.toArray k }) := by simpa using hp
        rw [z'])) (T.obj _ _ st5)
      have q6 := step τ xv H5 lτ y5
      refine thn (hg C s2 H2 fp _ s5 _ H5 xv _ _ I5' r5 q6) fun _ s6 ⟨σ6, H6, I6, ⟨τ6, e6, l6⟩, q6'⟩ => ?_
      subst e6
      refine thn (ht C s2 H2 fp _ s6 _ H6 _ I6 q6') fun b s7 ⟨H7, I7, q7⟩ => ?_
      have keepT : ∀ {s8 : Shared} {σ8 : St} {H8 : Hp}, Inv (cxComp X (M ++ frees) scope C s2 H2 fp) ((pins ++ [(s2.heap.objs.size, { cls := .type "list", data := .seq its.toArray k })]) ++ pinsAt fp s5.heap) σ8 H8 s8 →
          tn (i + 1) s8.heap ∧ (∀ b ∈ fp, H8 b = none) ∧ H8 s2.heap.objs.size = none ∧ s8.heap.get? s2.heap.objs.size = some { cls := .type "list", data := .seq its.toArray k } := fun {s8 σ8 H8} I8 => by
        refine ⟨T.keep _ _ _ st5 fun b hb o e => (I8.pin (b, o) (List.mem_append_right _ (List.mem_append_right _ (mem_pinsAt hb e)))).1, fun b hb => ?_, ?_, ?_⟩
        · obtain ⟨o, e, d⟩ := T.obj _ _ st5 b hb
          exact (I8.pin (b, o) (List.mem_append_right _ (List.mem_append_right _ (mem_pinsAt hb e)))).2.1
        · exact (I8.pin (s2.heap.objs.size, _) (List.mem_append_right _ (List.mem_append_left _ (List.mem_append_right _ (List.mem_singleton.mpr rfl))))).2.1
        · exact (I8.pin (s2.heap.objs.size, _) (List.mem_append_right _ (List.mem_append_left _ (List.mem_append_right _ (List.mem_singleton.mpr rfl))))).1
      cases b with
      | false =>
        rw [if_neg Bool.false_ne_true] at q7 ⊢
        obtain ⟨m', hm, w7⟩ := q7
        obtain ⟨a1, a2, a3, a4⟩ := keepT I7
        exact ⟨m', hm, i + 1, τ6, vs, H7, its, k, l6, I7.unpinned.unpinned, a1, a2, a3, a4, hv', w7⟩
      | true =>
        rw [if_pos rfl] at q7 ⊢
        refine thn (he C s2 H2 fp _ s7 _ H7 _ I7 q7) fun u8 s8 ⟨v8, H8, I8, r8, m', hm, w8⟩ => ?_
        obtain ⟨a1, a2, a3, a4⟩ := keepT I8
        refine wpAny_list_append_plain (items := its.toArray) ⟨k, a4⟩ (fun h9 pl sb => ?_) (by rw [List.size_toArray, ← hv'.length]; exact Nat.le_of_lt hlen)
        obtain ⟨k9, e9⟩ := pl
        have ne : ∀ b ∈ fp, b ≠ s2.heap.objs.size := fun b hb => Nat.ne_of_lt (fpD b hb)
        have I9 : Inv (cxComp X (M ++ frees) scope C s2 H2 fp) pins (τ6 ++ outs σ idx) H8 { s8 with heap := h9 } :=
          I8.unpinned.unpinned.turned (t' := s8.toks) (fun b o hb e => (sb.2 b hb).trans e) a3 hDC (.inr (Nat.le_refl _)) (fun y c e => Dcell y c (look y c e)) Dpin
        refine ⟨m', hm, i + 1, τ6, vs ++ [v8], H8, its ++ [u8], k9, l6, I9, T.keep _ _ _ a1 fun b hb o e => (sb.2 b (ne b hb)).trans e, a2, a3, ?_, hv'.snoc r8, w8⟩
        rw [List.push_toArray] at e9
        exact e9
  exact codeAny_compStart_list (loop _ rfl) (T.self _ 0 _ _ _ (T.keep _ _ _ st2 fun b _ o e => old b o e) (loop _ rfl))
def compOkM (osc : Scope) (N : List Str) (frees : List Str) (idx : List Nat) (scope : Scope) : Bool :=
  scope.kind == .function && (scope.names.all (fun y => y.2 != .cell) && (scope.names.all (fun y => y.2 != .local || scope.names.lookup y.1 == some .local) && (scope.names.all (fun y => y.2 != .free || (osc.names.lookup y.1 == some .cell || osc.names.lookup y.1 == some .free)) &&
  (idx.length == frees.length && ((idx.zip frees).all (fun p => N[p.1]? == some p.2) && frees.all (fun y => scope.names.lookup y == some .free))))))
theorem compOkM_scope {X : Cx} {osc : Scope} {N : List Str} {frees : List Str} {idx : List Nat} {scope : Scope} (h : compOkM osc N frees idx scope = true) (ho : X.env.scope = osc) (hN : X.N = N) :
    CompScopeM X frees idx scope ∧ ∀ y ∈ frees, scope.names.lookup y = some .free := by
  unfold compOkM at h
  simp only [Bool.and_eq_true, List.all_eq_true, Bool.or_eq_true, bne_iff_ne, beq_iff_eq, decide_eq_true_eq] at h
  obtain ⟨h1, h2, h3, h4, h7, h8, h9⟩ := h
  have fl : ∀ y ∈ frees, scope.names.lookup y = some .free := fun y hy => h9 y hy
  refine ⟨⟨h1, h2, fun y hy e => ?_, fun y hy e => ?_, fun j y hj => ?_, h7, fun y hy => mem_of_lookup' (fl y hy)⟩, fl⟩
  · rcases h3 y hy with q | q
    · exact absurd e q
    · exact q
  · have q : osc.names.lookup y.1 = some .cell ∨ osc.names.lookup y.1 = some .free := by
      rcases h4 y hy with q | q
      · exact absurd e q
      · exact q
    rw [← ho] at q
    exact q
  · obtain ⟨k, e1, e2⟩ := zip_get h7 hj
    exact ⟨k, e1, by rw [hN]; exact h8 (k, y) e2⟩
/-- [e for TARGET in it if ..] -/
theorem pe_lcM {X : Cx} {elt iter tg : Expr} {pos : Pos} {ifs : List Expr} {scope : Scope} {wi : TI} {g : TG} {tt : TT} {te : TE} (osc : Scope) (N : List Str) (M frees : List Str) (idx : List Nat)
    (hk : compOkM osc N frees idx scope = true) (hi : PI X tg iter wi) (hg : ∀ C s₀ H₀ ex, PG (cxComp X (M ++ frees) scope C s₀ H₀ ex) tg g)
    (ht : ∀ C s₀ H₀ ex, PTs (cxComp X (M ++ frees) scope C s₀ H₀ ex) ifs tt) (he : ∀ C s₀ H₀ ex, PE (cxComp X (M ++ frees) scope C s₀ H₀ ex) elt te)
    (ho : X.env.scope = osc := by rfl) (hN : X.N = N := by rfl) (hc : X.calm = true := by rfl) (hs : ∀ v, foldedSetIterable iter X.env v = pure v := by intro _; rfl) : PE X (.ListComp elt [⟨tg, iter, ifs, 0⟩] scope pos) (tCompM M.length idx wi g tt te) := by
  obtain ⟨S, fl⟩ := compOkM_scope (X := X) hk ho hN
  exact pe_lcompM hc S fl hi hg ht he hs
end L2

set_option Elab.async false
set_option linter.all false
set_option maxRecDepth 100000
namespace PySem
open PyProof.Rows
namespace F
theorem owner_rvt : Manifest.owners.lookup (String.ofList ['d', 'e', 's', 'r', 'e', 'v', 'e', 'r'].reverse) = some Manifest.sig_reversed := by kernel_rfl
theorem slot_rvt_next : Slot "reversed" "__next__" "reversed.__next__" :=
  .of (owner := "reversed") (n := "__next__") (by rw [typeLookup_type, builtinLookup_eq_fast]; kernel_rfl) (by decide +kernel) (by decide +kernel) (by decide +kernel)
    (by first | exact .inl (by decide +kernel) | exact .inr (by decide +kernel)) (by rw [isSubtype_type]; kernel_rfl)
theorem entry_rvt_next : entryFor table "reversed.__next__" = some Builtin.«reversed.__next__» := entryFor_of_tree (by kernel_rfl)
theorem args_rvt_next (a : Value) : argsOk "reversed.__next__" ⟨[a], []⟩ := by
  unfold argsOk; rw [signature?_of (id := "reversed.__next__") (n := ['_', '_', 't', 'x', 'e', 'n', '_', '_']) (o := ['d', 'e', 's', 'r', 'e', 'v', 'e', 'r']) (by kernel_rfl) owner_rvt]; kernel_rfl
theorem slot_rvt_iter : Slot "reversed" "__iter__" "reversed.__iter__" :=
  .of (owner := "reversed") (n := "__iter__") (by rw [typeLookup_type, builtinLookup_eq_fast]; kernel_rfl) (by decide +kernel) (by decide +kernel) (by decide +kernel)
    (by first | exact .inl (by decide +kernel) | exact .inr (by decide +kernel)) (by rw [isSubtype_type]; kernel_rfl)
theorem args_rvt_iter (a : Value) : argsOk "reversed.__iter__" ⟨[a], []⟩ := by
  unfold argsOk; rw [signature?_of (id := "reversed.__iter__") (n := ['_', '_', 'r', 'e', 't', 'i', '_', '_']) (o := ['d', 'e', 's', 'r', 'e', 'v', 'e', 'r']) (by kernel_rfl) owner_rvt]; kernel_rfl
theorem entry_rvt_iter : entryFor table "reversed.__iter__" = some Builtin.«dict_keyiterator.__iter__» :=
  entryFor_alias (id' := "dict_keyiterator.__iter__") (by kernel_rfl) (by first | rfl | decide +kernel | (unfold String.splitOn; simp +decide [String.splitOnAux])) (by decide +kernel) (by kernel_rfl)
theorem tup_norev : typeLookup (.type "tuple") "__reversed__" = pure none := by rw [typeLookup_type, builtinLookup_eq_fast]; kernel_rfl
theorem slot_rvt_init : Slot "reversed" "__init__" "object.__init__" :=
  .of (owner := "object") (n := "__init__") (by rw [typeLookup_type, builtinLookup_eq_fast]; kernel_rfl) (by decide +kernel) (by decide +kernel) (by decide +kernel)
    (by first | exact .inl (by decide +kernel) | exact .inr (by decide +kernel)) (by rw [isSubtype_type]; kernel_rfl)
theorem called_reversed : TypeCalled "reversed" "reversed.__new__" "object.__init__" :=
  ⟨by decide +kernel, by decide +kernel, ⟨_, _, mro_reversed⟩, made_reversed, by decide +kernel, by rw [isSubtype_type]; kernel_rfl, slot_rvt_init⟩
end F
def rvtObj (l : Addr) (i : Int) : Obj := { cls := .type "reversed", data := .fields #[.ref l, rawInt i] }
def Heap.IsRvt (h : Heap) (a l : Addr) (i : Int) : Prop := h.get? a = some (rvtObj l i)
theorem Heap.IsRvt.typeIs {s : Shared} {a l : Addr} {i : Int} (x : s.heap.IsRvt a l i) : s.TypeIs (.ref a) "reversed" := ⟨_, x, rfl⟩
section
variable {prog : Program} {w : World} {A : Around} {E : Value → Shared → Prop} {s : Shared}
theorem meets_rvt_new (l : Addr) (xs : Array Value) (hz : (xs.size : Int) < 2 ^ 63) :
    Meets (Builtin.«reversed.__new__» ⟨[.type "reversed", .ref l], []⟩) (fun _ R s => IsTup s.heap l xs ∧
      R (.ok (.ret (.ref s.heap.objs.size))) { s with heap := s.heap.push (rvtObj l ((xs.size : Int) - 1)), toks := s.toks + 1 + 1 }) :=
  .of_wp fun prog w A R s h => by
    obtain ⟨hl, h⟩ := h
    unfold Builtin.«reversed.__new__»
    refine wpAny_bind (wpAny_of_eq (newClass_reversed _) ?_)
    try dsimp only
    refine wpAny_bind (wpAny_of_eq (a := ()) (by first | rfl | kernel_rfl) ?_)
    refine wpAny_bind (wpAny_of_eq (a := ()) (by first | rfl | kernel_rfl) ?_)
    try dsimp only
    refine wpAny_bind (wpAny_specialOf hl.typeIs F.tup_norev ?_)
    try dsimp only
    refine wpAny_bind ?_
    show wpAny _ _ (isInstance (.ref l) (.type "dict") >>= _) _ _ _
    refine wpAny_bind (wpAny_isInstance (b := false) hl.typeIs F.sub_tuple_dict ?_)
    rw [if_neg Bool.false_ne_true]
    show wpAny _ _ (specialOf (Value.ref l) (Str.ofString "__getitem__") >>= _) _ _ _
    refine wpAny_bind (wpAny_specialOf hl.typeIs F.slot_tuple_getitem.lookup ?_)
    dsimp only
    rw [if_pos (by decide)]
    refine wpAny_pure ?_
    rw [if_neg (by decide)]
    refine wpAny_bind (len_tuple hl hz ?_)
    refine wpAny_bind (m := asInt? (.int _ _)) (wpAny_pure ?_)
    dsimp only
    refine wpAny_bind ?_
    show wpAny _ _ (newObj (.type "reversed") (.fields #[Value.ref l, rawInt ((xs.size : Int) - 1)])) _ _ _
    refine wpAny_newObj_type ?_
    exact wpAny_pure ⟨_, rfl, h⟩
theorem call_reversed_tuple {l : Addr} {xs : Array Value} {Q : Value → Shared → Prop} (hl : IsTup s.heap l xs) (hz : (xs.size : Int) < 2 ^ 63)
    (h : Q (.ref s.heap.objs.size) { s with heap := s.heap.push (rvtObj l ((xs.size : Int) - 1)), toks := s.toks + 1 + 1 }) : wpAny (model prog w) A (call (.type "reversed") [.ref l]) Q E s :=
  callType_new F.called_reversed (by decide) (F.typeCall_reversed_1 _) (F.newCall_reversed_1 _) (fun obj => F.args_object_init_2 obj _) F.entry_reversed_new (meets_rvt_new l xs hz)
    ⟨hl, ⟨_, Heap.get?_push_size _ rfl, rfl⟩, h⟩
theorem wpAny_pyNext_rvt_item {it l : Addr} {i : Nat} {xs : Array Value} {x : Value} {Q : Option Value → Shared → Prop} (hit : s.heap.IsRvt it l (i : Int)) (hl : IsTup s.heap l xs) (hz : (xs.size : Int) < 2 ^ 63) (hx : xs[i]? = some x)
    (hQ : ∀ h' tk, s.toks ≤ tk → h'.IsRvt it l ((i : Int) - 1) → Heap.SameBut it s.heap h' → Q (some x) { s with heap := h', toks := tk }) : wpAny (model prog w) A (pyNext (.ref it)) Q E s := by
  have hlt : i < xs.size := (Array.getElem?_eq_some_iff.mp hx).1
  unfold pyNext
  refine wpAny_bind (wpAny_attempt (wpAny_callSpecial?_slot (name := Str.ofString "__next__") hit.typeIs F.slot_rvt_next
    (wpAny_call_entry F.slot_rvt_next hit.typeIs F.entry_rvt_next ?_ (F.args_rvt_next _))))
  unfold Builtin.«reversed.__next__»
  refine wpAny_bind (wpAny_of_eq (a := (Value.ref it, [])) rfl ?_)
  try dsimp only
  refine wpAny_bind (wpAny_field hit rfl (x := .ref l) rfl ?_)
  show wpAny _ _ (field (.ref it) 1 >>= _) _ _ s
  refine wpAny_bind (wpAny_field hit rfl (x := rawInt (i : Int)) rfl ?_)
  show wpAny _ _ (if (i : Int) < 0 then _ else _) _ _ s
  rw [if_neg (by omega)]
  refine wpAny_bind (wpAny_specialOf hl.typeIs F.slot_tuple_getitem.lookup ?_)
  rw [if_neg (by simp)]
  refine wpAny_bind (wpAny_mkInt ?_)
  refine wpAny_bind (wpAny_attempt ?_)
  refine getItem_tuple (j := i) (x := x) hl (by omega) (by omega) (by unfold seqIndex?; simp; omega) hx ?_
  dsimp only
  refine wpAny_bind (wpAny_field (s := { s with toks := _ }) hit rfl (x := rawInt (i : Int)) rfl ?_)
  show wpAny _ _ (setField (Value.ref it) 1 (rawInt ((i : Int) - 1)) >>= fun _ => ret x) _ _ _
  refine wpAny_bind (wpAny_setField_rec (s := { s with toks := s.toks + 1 }) hit (by simp) fun h' e1 e2 => ?_)
  exact wpAny_pure ⟨x, rfl, wpAny_pure (hQ h' (s.toks + 1) (Nat.le_succ _) e1 e2)⟩
theorem wpAny_pyNext_rvt_end {it l : Addr} {Q : Option Value → Shared → Prop} (hh : A.handled = none) (hit : s.heap.IsRvt it l (-1))
    (hQ : ∀ h', Heap.ExtBut it s.heap h' → Q none { s with heap := h' }) : wpAny (model prog w) A (pyNext (.ref it)) Q E s := by
  unfold pyNext
  refine wpAny_bind (wpAny_attempt (wpAny_callSpecial?_slot (name := Str.ofString "__next__") hit.typeIs F.slot_rvt_next
    (wpAny_call_entry F.slot_rvt_next hit.typeIs F.entry_rvt_next ?_ (F.args_rvt_next _))))
  unfold Builtin.«reversed.__next__»
  refine wpAny_bind (wpAny_of_eq (a := (Value.ref it, [])) rfl ?_)
  try dsimp only
  refine wpAny_bind (wpAny_field hit rfl (x := .ref l) rfl ?_)
  show wpAny _ _ (field (.ref it) 1 >>= _) _ _ s
  refine wpAny_bind (wpAny_field hit rfl (x := rawInt (-1)) rfl ?_)
  show wpAny _ _ (if (-1 : Int) < 0 then _ else _) _ _ s
  rw [if_pos (by decide)]
  refine wpAny_bind (wpAny_rule ?_)
  refine wpAny_bind ?_
  show wpAny _ _ (setField (.ref it) 1 (rawInt (-1)) >>= fun _ => setField (.ref it) 0 .none) _ _ _
  refine wpAny_bind (wpAny_setField_rec hit (by simp) fun h1 e1 f1 => ?_)
  refine wpAny_setField_rec (s := { s with heap := h1 }) e1 (by simp) fun h2 e2 f2 => ?_
  first
  | show wpAny _ _ (newExc (.type "StopIteration") [] >>= _) _ _ _
  | (refine wpAny_bind ?_; show wpAny _ _ (newExc (.type "StopIteration") [] >>= _) _ _ _)
  refine wpAny_bind ?_
  simp only [newExc, newTuple]
  refine wpAny_bind (wpAny_newObj_type ?_ (by size_fits))
  refine wpAny_bind (m := firstArgMember _ _) (wpAny_of_eq (a := Value.none) (by first | rfl | (simp only [firstArgMember]; rfl)) ?_)
  refine wpAny_newObj_type ?_ (by size_fits)
  simp only [raiseNew]
  refine wpAny_bind (wpAny_handled ?_)
  first | rw [show A.in1.handled = none from hh] | rw [hh]
  refine wpAny_bind (wpAny_pure (wpAny_throw ?_))
  refine wpAny_bind (wpAny_isInstance (T := "StopIteration") (b := true) ⟨_, Heap.get?_push_size _ rfl, rfl⟩ isSubtype_stop ?_)
  exact wpAny_pure (hQ _ (fun b o hb e => Heap.get?_push_of_some _ (Heap.get?_push_of_some _ (f2.extBut b o hb (f1.extBut b o hb e)))))
theorem wpAny_pyIter_rvt {it l : Addr} {i : Int} {Q : Value → Shared → Prop} (hit : s.heap.IsRvt it l i) (h : Q (.ref it) s) : wpAny (model prog w) A (pyIter (.ref it)) Q E s := by
  refine wpAny_pyIter_slot hit.typeIs F.slot_rvt_iter (wpAny_call_entry F.slot_rvt_iter hit.typeIs F.entry_rvt_iter ?_ (F.args_rvt_iter _))
  show wpAny _ _ (ret (.ref it)) _ _ s
  exact wpAny_pure ⟨_, rfl, "reversed", _, hit.typeIs, F.slot_rvt_next.lookup, h⟩
end
end PySem

set_option Elab.async false
set_option linter.all false
set_option maxRecDepth 100000
namespace PySem
open PyProof.Rows
section
variable {prog : Program} {w : World} {A : Around} {E : Value → Shared → Prop} {s : Shared}
end
section
variable {prog : Program} {w : World} {A : Around} {s : Shared} {R : Result → Shared → Prop}
end
section
variable {prog : Program} {w : World} {A : Around} {E : Value → Shared → Prop} {s : Shared}
end
end PySem

set_option Elab.async false
set_option linter.all false
set_option maxRecDepth 100000
namespace L2
open PySem PySem.Spec PyProof.Rows
section
variable {X : Cx}
theorem boot_rev : bootBuiltins "reversed" = some (.type "reversed") := PyProof.Rows.boot_reversed
def tListRev (K : PySem.W.Frag) (te : TE) : TE := fun σ H Q => te σ H fun x H1 => ∃ a xs, x = .ref a ∧ SqT K H1 a xs ∧ ∀ l, H1 l = none → Q (.ref l) (upd H1 l (.lst xs.reverse))
/-- the list at a, from its end: n items at the start, none less later -/
def Itv (K : PySem.W.Frag) (a : Addr) (n : Nat) : It :=
  ⟨fun i H => ∃ xs, SqL K H a xs ∧ xs.length = n ∧ i < n, fun i H x H' => H' = H ∧ ∀ xs, SqL K H a xs → xs[n - 1 - i]? = some x, fun i H => i = n⟩
theorem turn_rev {P : Program} {w : World} {K : PySem.W.Frag} {tg : Expr} (a it : Addr) (n : Nat) : Turn P w K tg (Itv K a n) [it] it (fun i h => h.IsRevIter it a ((n : Int) - 1 - (i : Int))) where
  mem := by simp
  obj := fun i h st b hb => by
    have e : b = it := by simpa using hb
    subst e
    obtain ⟨o, e, c, d⟩ := st
    exact ⟨o, e, fun v z => by rw [d] at z; cases z⟩
  keep := fun i h h' st k => st.at fun o e => k it (by simp) o e
  item := by
    intro X hP hw hK hc i pins s σ H E I hf st hg
    subst hP hw hK
    obtain ⟨xs, hq, hn, hi⟩ := hg
    obtain ⟨its, rv, p, hz⟩ := I.list hq
    have hx : xs[n - 1 - i]? = some (xs[n - 1 - i]'(by omega)) := List.getElem?_eq_getElem (by omega)
    obtain ⟨u, hu, ru⟩ := rv.get hx
    obtain ⟨f0, f1, f2, f3, f4, f5⟩ := hf it (by simp)
    have e : (n : Int) - 1 - (i : Int) = ((n - 1 - i : Nat) : Int) := by omega
    have st2 : s.heap.IsRevIter it a ((n - 1 - i : Nat) : Int) := by rw [← e]; exact st
    refine wpAny_pyNext_rev_item st2 p.isList (x := u) (by simpa using hu) fun h' st' sb => ?_
    have I1 : Inv X pins σ H { s with heap := h' } := I.turned (t' := s.toks) (fun b o hb e => (sb.2 b hb).trans e) f0 f1 f3 f4 f5
    have st3 : h'.IsRevIter it a ((n : Int) - 1 - ((i + 1 : Nat) : Int)) := by
      have e2 : ((n - 1 - i : Nat) : Int) - 1 = (n : Int) - 1 - ((i + 1 : Nat) : Int) := by omega
      rw [← e2]; exact st'
    obtain ⟨o, e, c, d⟩ := id st'
    exact ⟨u, rfl, go_of (s := { s with heap := h' }) e c d (by decide) ⟨_, H, I1, ru, ⟨rfl, fun ys hy => by rw [I.list_inj hy hq]; exact hx⟩, st3, fun b hb => (hf b hb).1⟩⟩
  done := by
    intro X hP hw hK hc i pins s σ H E I hf st hg
    subst hP hw hK
    have hg : i = n := hg
    subst hg
    obtain ⟨f0, f1, f2, f3, f4, f5⟩ := hf it (by simp)
    have e : (i : Int) - 1 - (i : Int) = -1 := by omega
    have st2 : s.heap.IsRevIter it a (-1) := by rw [← e]; exact st
    exact wpAny_pyNext_rev_end (I.ok.hd hc) st2 fun h' eb => ⟨rfl, I.turned (t' := s.toks) (fun b o hb e => eb b o hb e) f0 f1 f3 f4 f5⟩
  self := fun _ _ _ _ _ st h => wpAny_pyIter_revIter st h
def iRev (K : PySem.W.Frag) (tl : TE) : TI := fun σ H R => tl σ H fun x H1 => ∃ a xs, x = .ref a ∧ SqL K H1 a xs ∧ R (Itv K a xs.length) H1
theorem for_rev {K : PySem.W.Frag} {a : Addr} {xs : List V} {g : TG} {tb : TS} {D : Ends} {σ : St} {H : Hp} (Pv : Nat → St → Hp → Prop) (h0 : Pv 0 σ H) (hl : ∀ i σ H, i ≤ xs.length → Pv i σ H → SqL K H a xs)
    (hs : ∀ i x σ H, i < xs.length → xs[xs.length - 1 - i]? = some x → Pv i σ H → g x σ H fun σ2 H2 => tb { D with nx := Pv (i + 1), ct := Pv (i + 1), bk := D.nx } σ2 H2) (hd : ∀ σ H, Pv xs.length σ H → D.nx σ H) :
    ∃ W : Nat → Nat → St → Hp → Prop, (∃ m, W 0 m σ H) ∧ ∀ i m σ H, W i m σ H →
      ((Itv K a xs.length).stop i H ∧ D.nx σ H) ∨ ((Itv K a xs.length).go i H ∧ ∃ N : St → Hp → Prop, (∀ σ' H', N σ' H' → ∃ m', m' < m ∧ W (i + 1) m' σ' H') ∧ ∀ x H', (Itv K a xs.length).yld i H x H' → g x σ H' fun σ2 H2 => tb { D with nx := N, ct := N, bk := D.nx } σ2 H2) := by
  refine ⟨fun i m σ H => m = xs.length - i ∧ i ≤ xs.length ∧ Pv i σ H, ⟨xs.length, by simp, Nat.zero_le _, h0⟩, ?_⟩
  rintro i m σ H ⟨rfl, hi, p⟩
  have q := hl i σ H hi p
  by_cases hlt : i < xs.length
  · refine .inr ⟨⟨xs, q, rfl, hlt⟩, Pv (i + 1), fun σ' H' p' => ⟨xs.length - (i + 1), by omega, rfl, hlt, p'⟩, fun x H' y => ?_⟩
    obtain ⟨e, y⟩ := y
    subst e
    exact hs i x σ _ hlt (y xs q) p
  · have e : i = xs.length := by omega
    subst e
    exact .inl ⟨rfl, hd σ H p⟩
end
end L2

set_option Elab.async false
set_option linter.all false
set_option maxRecDepth 100000
namespace L2
open PySem PySem.Spec PyProof.Rows PySem.W
end L2

set_option Elab.async false
set_option linter.all false
set_option maxRecDepth 100000
namespace L2
open PySem PySem.Spec PyProof.Rows
theorem ps_lcomp {X : Cx} {elt iter : Expr} {x y : Str} {px py pos pos0 : Pos} {ifs : List Expr} {scope : Scope} {frees : List Str} {idx : List Nat} {wi : TI} {tt : TT} {te : TE} {g : TG}
    (hc : X.calm = true) (S : CompScope X x frees idx scope) (hfl : ∀ y ∈ frees, scope.names.lookup y = some .free) (hi : PI X (.Name x px) iter wi) (hgy : PG X (.Name y py) g)
    (ht : ∀ C s₀ H₀ ex, PTs (cxComp X (x :: frees) scope C s₀ H₀ ex) ifs tt) (he : ∀ C s₀ H₀ ex, PE (cxComp X (x :: frees) scope C s₀ H₀ ex) elt te)
    (hsw : swapsWith (.ListComp elt [⟨.Name x px, iter, ifs, 0⟩] scope pos) (some (.Name y py)) pos0.line X.env = pure true)
    (hs : ∀ v, foldedSetIterable iter X.env v = pure v := by intro _; rfl) : PS X (.Assign [.Name y py] (.ListComp elt [⟨.Name x px, iter, ifs, 0⟩] scope pos) pos0) (tAsg (tComp idx wi tt te) g) := by
  intro pins s σ H D I h
  rw [exec_Assign_Name_used _ _ _ _ hsw]
  refine wpAny_bind (wpAny_standAt ?_)
  refine wpAny_bind ?_
  show wpAny _ _ (comprehension (.ListComp elt [⟨.Name x px, iter, ifs, 0⟩] scope pos) scope X.env _ (newList []) _ _ (some (assign (.Name y py) X.env)) >>= fun _ => pure ()) _ _ s
  refine wpAny_bind (wpAny_mono (Q := fun _ s' => ∃ σ' H', Inv X pins σ' H' s' ∧ D.nx σ' H') ?_ (fun _ s' h' => wpAny_pure (wpAny_pure h')) fun _ _ h' => h')
  have hclos := closL_eq (scope := scope) (env := X.env) fun p hp hf => I.ok.has p.1 (S.fr p hp hf)
  refine wpAny_comprehension_free (use := some (assign (.Name y py) X.env)) rfl hs hclos S.kind S.loc (thn (hi pins s σ H _ I h) fun v s1 h1 => thn h1 fun itv s2 h2 => ?_)
  obtain ⟨it, fp, tn, J, H2, rfl, I2, T, st2, f2, W, ⟨m0, w0⟩, turn⟩ := h2
  refine wpAny_newObj_type (wpAny_newFunctionEnv S.nocell (by intro y hy; simp at hy) (fun h₁ hns₁ hsb₁ => ?_) S.kind)
  dsimp only at hns₁ hsb₁ ⊢
  generalize hH2 : s2.heap.push { cls := .type "list", dict := none, data := .seq ([] : List Value).toArray } = G2 at hns₁ hsb₁ ⊢
  have hCe : G2.objs.size = s2.heap.objs.size + 1 := by rw [← hH2, Heap.size_push]
  generalize hC : G2.objs.size = C at hns₁ hsb₁ hCe ⊢
  have hCle : s2.heap.objs.size ≤ C := by omega
  have hDC : s2.heap.objs.size ≠ C := by omega
  have below : ∀ b, b < s2.heap.objs.size → b ≠ C := fun b hb => by omega
  have old : ∀ b o, s2.heap.get? b = some o → h₁.get? b = some o := fun b o e => hsb₁.extBut b o (below b (Heap.lt_size e)) (Heap.get?_push_of_some _ (hH2 ▸ Heap.get?_push_of_some _ e))
  have hacc : ∃ k, h₁.get? s2.heap.objs.size = some { cls := .type "list", data := .seq ([] : List Value).toArray k } := ⟨_, hsb₁.extBut _ _ hDC (Heap.get?_push_of_some _ (hH2 ▸ Heap.get?_push_size _ rfl))⟩
  have look : ∀ y c, (closL X.env.cells scope.names []).lookup y = some c → X.env.cells.lookup y = some c := fun y c e => by
    rcases closL_look _ _ y c e with q | q
    · exact q
    · cases q
  have fpD : ∀ b ∈ fp, b < s2.heap.objs.size := fun b hb => by
    obtain ⟨o, e, _⟩ := T.obj _ _ st2 b hb
    exact Heap.lt_size e
  have ok' : (cxComp X (x :: frees) scope C s2 H2 fp).Ok := {
    mod := I2.ok.mod
    kind := S.kind
    glob := I2.ok.glob
    blt := I2.ok.blt
    above := hCle
    inj := fun y z c e1 e2 => I2.ok.inj y z c (look y c e1) (look z c e2)
    has := fun y hy => by
      have q := relabel_free (scope := scope) (env := X.env) hy S.nocell
      exact closL_has _ _ y q (I2.ok.has y (S.fr _ q rfl))
    cab := fun y c hf => by cases hf
    hd := I2.ok.hd
    frames := I2.ok.frames
    stk := .inl rfl
    exf := fun b hb => ⟨below b (fpD b hb), fun y c e => (f2 b hb).2.2.2.2.1 y c (look y c e)⟩
    bs := I2.bs
    bsz := Nat.le_trans I2.ok.bsz I2.sz
    noex := fun b o e hb => by
      rcases (f2 b hb).2.2.2.1 with z | z
      · exact I2.ok.noex b o e z
      · exact absurd (Nat.lt_of_lt_of_le (Heap.lt_size e) (Nat.le_trans I2.ok.bsz z)) (Nat.lt_irrefl _)
    exfs := fun b hb hf => by
      rcases List.mem_cons.mp (I2.stkSub b hf) with z | z
      · exact (f2 b hb).2.1 z
      · exact (f2 b hb).2.2.1 z
    funs := I2.stack
    frf := I2.stkFree }
  have Dfs : s2.heap.objs.size ∉ frs X.stack := fun hb => by
    rcases List.mem_cons.mp (I2.stkSub _ hb) with z | z
    · have q := I2.lt
      rw [← z] at q
      exact Nat.lt_irrefl _ q
    · exact I2.nofs (Nat.le_refl _) z
  have Dcell : ∀ y c, X.env.cells.lookup y = some c → c ≠ s2.heap.objs.size := fun y c e z => by
    obtain ⟨v, q⟩ := I2.cell y c e
    have q' := q.lt
    rw [z] at q'
    exact Nat.lt_irrefl _ q'
  have Dpin : ∀ p ∈ X.pn ++ pins, p.1 ≠ s2.heap.objs.size := fun p hp z => by
    have q' := Heap.lt_size (I2.pin p hp).1
    rw [z] at q'
    exact Nat.lt_irrefl _ q'
  have I3 : Inv (cxComp X (x :: frees) scope C s2 H2 fp) pins (none :: outs σ idx) H2 { s2 with heap := h₁, toks := s2.toks + ([] : List (Str × Value)).length } := {
    ok := ok'
    os := rfl
    bare := I2.bare
    base := Un.kept old
    loc := by
      refine ⟨_, hns₁, fun i y v e1 e2 e3 => ?_⟩
      cases i with
      | zero => cases e2
      | succ j =>
        have e1' : frees[j]? = some y := e1
        have e2' : (outs σ idx)[j]? = some (some v) := e2
        obtain ⟨k, hk, hN⟩ := S.ix j y e1'
        have hy : y ∈ frees := List.mem_of_getElem? e1'
        have e4 : σ[k]? = some (some v) := by
          unfold outs at e2'
          rw [List.getElem?_map, hk] at e2'
          have e5 : (σ[k]?).join = some v := Option.some.inj e2'
          cases q : σ[k]? with
          | none => rw [q] at e5; cases e5
          | some o => rw [q] at e5; exact congrArg some e5
        obtain ⟨m, hn, hl⟩ := I2.loc
        have kin := S.fr _ (S.cl y hy) rfl
        have vis : Vis X.env.scope y := by
          rcases kin with z | z
          · exact .inr (.inl z)
          · exact .inr (.inr z)
        obtain ⟨u, r, l⟩ := hl k y v hN e4 vis
        refine ⟨u, r, .inr ⟨lookup_relabel_free (env := X.env) (hfl y hy), ?_⟩⟩
        rcases l with ⟨z, _⟩ | ⟨_, c, ec, ic⟩
        · rcases kin with z' | z'
          · have z'' : X.env.kindOf y = some .cell := z'
            rw [z] at z''; cases z''
          · have z'' : X.env.kindOf y = some .free := z'
            rw [z] at z''; cases z''
        · obtain ⟨c', ec'⟩ := closL_has (cells := X.env.cells) scope.names [] y (S.cl y hy) ⟨c, ec⟩
          have : c' = c := Option.some.inj ((look y c' ec').symm.trans ec)
          subst this
          obtain ⟨o, ho, hd⟩ := ic
          exact ⟨c', ec', o, old _ _ ho, hd⟩
    cell := fun y c e => by
      obtain ⟨v, o, ho, hd⟩ := I2.cell y c (look y c e)
      exact ⟨v, o, old _ _ ho, hd⟩
    free := I2.hok.fresh hCle
    freeC := fun y c e => I2.freeC y c (look y c e)
    pin := fun p hp => by
      obtain ⟨e, n, ne, nf, d⟩ := I2.pin p hp
      refine ⟨old _ _ e, n, below _ (Heap.lt_size e), fun hb => ?_, d⟩
      rcases List.mem_cons.mp (I2.stkSub _ hb) with z | z
      · exact ne z
      · exact nf z
    hok := I2.hok.kept old
    len := by simp [cxComp, outs, S.len] }
  have fok : ∀ {pp : List (Addr × Obj)} {H' : Hp}, (∀ b ∈ fp, H' b = none) → (∀ p ∈ pp, p.1 = s2.heap.objs.size) → ∀ b ∈ fp, FpOk (cxComp X (x :: frees) scope C s2 H2 fp) (pins ++ pp) H' b := fun {pp H'} hn hp b hb => by
    obtain ⟨_, f1, f2', f3, f4, f5⟩ := f2 b hb
    refine ⟨hn b hb, below b (fpD b hb), fun hf => ?_, .inl hb, fun y c e => f4 y c (look y c e), fun p hpp z => ?_⟩
    · rcases List.mem_cons.mp (I2.stkSub b hf) with z | z
      · exact f1 z
      · exact f2' z
    · have hpp' : p ∈ X.pn ++ (pins ++ pp) := hpp
      rw [← List.append_assoc] at hpp'
      rcases List.mem_append.mp hpp' with q | q
      · exact f5 p q z
      · have q' := fpD b hb
        rw [← z, hp p q] at q'
        exact Nat.lt_irrefl _ q'
  have loop : ∀ s3 : Shared, s3 = { s2 with heap := h₁, toks := s2.toks + ([] : List (Str × Value)).length } →
      codeAny (model X.prog X.w) X.A (.compLoop (.ListComp elt [⟨.Name x px, iter, ifs, 0⟩] scope pos) 0 (.ref it) (.ref s2.heap.objs.size) (compEnvC scope (closL X.env.cells scope.names []) C X.env))
        (compPost (model X.prog X.w) X.A X.xe (some (assign (.Name y py) X.env)) (fun _ s' => ∃ σ' H', Inv X pins σ' H' s' ∧ D.nx σ' H') (.ref s2.heap.objs.size) C) s3 := by
    rintro s3 rfl
    obtain ⟨k0, hacc⟩ := hacc
    refine compLoop_go (fun n s' => ∃ i o vs H' its k, Inv (cxComp X (x :: frees) scope C s2 H2 fp) pins (o :: outs σ idx) H' s' ∧ tn i s'.heap ∧ (∀ b ∈ fp, H' b = none) ∧ H' s2.heap.objs.size = none ∧
      s'.heap.get? s2.heap.objs.size = some { cls := .type "list", data := .seq its.toArray k } ∧ Vals vs its ∧ W i n vs H') ?_ m0
      ⟨0, none, [], H2, [], k0, I3, T.keep _ _ _ st2 fun b _ o e => old b o e, fun b hb => (f2 b hb).1, I2.hok.fresh (Nat.le_refl _), hacc, .nil, w0⟩
    rintro n s' ⟨i, o, vs, H', its, k, I', st', fr', hD', hg', hv', w'⟩
    obtain ⟨hlen, alt⟩ := turn i n vs H' w'
    have IP : Inv (cxComp X (x :: frees) scope C s2 H2 fp) (pins ++ [(s2.heap.objs.size, { cls := .type "list", data := .seq its.toArray k })]) (o :: outs σ idx) H' s' :=
      I'.pins_of fun p hp => (List.mem_append.mp hp).elim (fun z => I'.pin p (List.mem_append_right _ z)) fun z => by
        have z' : p = (s2.heap.objs.size, { cls := .type "list", data := .seq its.toArray k }) := by simpa using z
        subst z'
        exact ⟨hg', hD', hDC, Dfs, fun v q => by cases q⟩
    have FP := fok (pp := [(s2.heap.objs.size, { cls := .type "list", data := .seq its.toArray k })]) fr' (fun p hp => by
      have z' : p = (s2.heap.objs.size, { cls := .type "list", data := .seq its.toArray k }) := by simpa using hp
      rw [z'])
    rcases alt with ⟨stop, qn⟩ | ⟨go, step⟩
    · refine thn (T.done (cxComp X (x :: frees) scope C s2 H2 fp) rfl rfl rfl hc i _ s' _ H' (fun _ _ => False) IP FP st' stop) fun r s4 ⟨hr, I4⟩ => ?_
      subst hr
      obtain ⟨m4, hn4, _⟩ := id I4.loc
      show wpAny _ _ (assign (.Name y py) X.env (.ref s2.heap.objs.size)) _ _ s4
      obtain ⟨h', hh'⟩ : ∃ h', h' = s4.heap := ⟨_, rfl⟩
      have hsb : Heap.SameBut C s4.heap h' := by rw [hh']; exact ⟨rfl, fun _ _ => rfl⟩
      have gD : s4.heap.get? s2.heap.objs.size = some { cls := .type "list", data := .seq its.toArray k } := (I4.pin (s2.heap.objs.size, _) (List.mem_append_right _ (List.mem_append_right _ (List.mem_singleton.mpr rfl)))).1
      have hx : ∀ b o, b ≠ C → s4.heap.get? b = some o → h'.get? b = some o := fun b o hb e => (hsb.2 b hb).trans e
      have J1 : Inv X pins σ H' { s4 with heap := h' } := by
        refine I2.call' (ch := fp) I4.os ⟨fun b o e n hb hx' => ?_, fun b o e n hb hx' => ?_, I4.base.free, fun b o e hx' => ?_, I4.base.tups, I4.base.frzs, I4.base.tbls⟩ (fun b u e => ?_) I4.bare fun b hb => ?_
        · exact hx b o (below b (Heap.lt_size e)) (I4.base.keep b o e n hb hx')
        · obtain ⟨sl, q⟩ := I4.base.slot b o e n hb hx'
          exact ⟨sl, hx b _ (below b (Heap.lt_size e)) q⟩
        · obtain ⟨o', q⟩ := I4.base.there b o e hx'
          exact ⟨o', hx b _ (below b (Heap.lt_size e)) q⟩
        · refine (I4.hok b u e).stay (fun c v hcc q => hx c v ?_ q) (fun _ q => q) fun _ _ q => q
          rintro rfl
          rcases hcc with z | z
          · rw [← z] at e
            have := I4.free
            rw [show H' c = none from this] at e; cases e
          · have := I4.free
            rw [show H' c = none from this] at z; cases z
        · obtain ⟨_, f1, f2', f3, f4, f5⟩ := f2 b hb
          exact ⟨f3, f1, f4, f5⟩
      have I5 := J1.track hD' (Nat.le_of_lt hlen) hv' (hx _ _ hDC gD) (.inr I2.sz) (fun z => by have q := I2.lt; rw [← z] at q; exact Nat.lt_irrefl _ q) Dcell Dpin
      have e4 : ({ s4 with heap := h' } : Shared) = s4 := by rw [hh']
      rw [e4] at I5
      have HC : H' C = none := I4.free
      obtain ⟨oC, es, ep, gC, rC⟩ := id hn4
      have nC : C ≠ X.env.locals := fun z => by have q := I2.lt; rw [← z] at q; exact Nat.lt_irrefl _ (Nat.lt_of_lt_of_le q hCle)
      have uC : (upd H' s2.heap.objs.size (.lst vs)) C = none := by rw [upd_ne (Ne.symm hDC)]; exact HC
      have IPn : Inv X (pins ++ [(C, oC)]) σ (upd H' s2.heap.objs.size (.lst vs)) s4 := I5.pins_of fun p hp => (List.mem_append.mp hp).elim (fun z => I5.pin p (List.mem_append_right _ z)) fun z => by
        have z' : p = (C, oC) := by simpa using z
        subst z'
        exact ⟨gC, uC, nC, I2.nofs hCle, fun v q => by have q2 : oC.data = .cell v := q; have q3 := rC.1; rw [q2] at q3; cases q3⟩
      refine thn (hgy _ s4 σ _ (.ref s2.heap.objs.size) _ _ IPn rfl (qn _ hD')) fun _ s6 ⟨σ6, H6, I6, q6⟩ => ?_
      have pC := I6.pin (C, oC) (List.mem_append_right _ (List.mem_append_right _ (List.mem_singleton.mpr rfl)))
      refine ⟨m4, hn4.at' (fun o e => by rw [gC] at e; cases e; exact pC.1), fun h'' sb => ⟨σ6, H6, ?_, q6⟩⟩
      exact I6.unpinned.turned (t' := s6.toks) (fun b o hb e => (sb.2 b hb).trans e) pC.2.1 nC (.inr (Nat.le_trans I2.sz hCle)) (fun z c e zz => by
        obtain ⟨v, q⟩ := I2.cell z c e
        have q' := q.lt
        rw [zz] at q'
        exact Nat.lt_irrefl _ (Nat.lt_of_lt_of_le q' hCle)) (fun p hp zz => by
        have q' := Heap.lt_size (I2.pin p hp).1
        rw [zz] at q'
        exact Nat.lt_irrefl _ (Nat.lt_of_lt_of_le q' hCle))
    · refine thn (T.item (cxComp X (x :: frees) scope C s2 H2 fp) rfl rfl rfl hc i _ s' _ H' (fun _ _ => False) IP FP st' go) fun r s4 ⟨u, hr, h4⟩ => ?_
      subst hr
      refine thn h4 fun _ s5 ⟨xv, H5, I5, r5, y5, st5, fr5⟩ => ?_
      have I5' := I5.pinned (fok (pp := [(s2.heap.objs.size, { cls := .type "list", data := .seq its.toArray k })]) fr5 (fun p hp => by
        have z' : p = (s2.heap.objs.size, { cls := .type "list", data := .seq its.toArray k }) := by simpa using hp
        rw [z'])) (T.obj _ _ st5)
      refine wpAny_assign_Name (store_ok (i := 0) (X := cxComp X (x :: frees) scope C s2 H2 fp) I5' S.nd rfl (.inl (lookup_relabel_local S.tgt)) r5 (fun s6 I6 => ?_) (.inr (lookup_relabel_local S.tgt)))
      have q6 := step xv H5 y5
      refine thn (ht C s2 H2 fp _ s6 _ H5 _ I6 q6) fun b s7 ⟨H7, I7, q7⟩ => ?_
      have keepT : ∀ {s8 : Shared} {σ8 : St} {H8 : Hp}, Inv (cxComp X (x :: frees) scope C s2 H2 fp) ((pins ++ [(s2.heap.objs.size, { cls := .type "list", data := .seq its.toArray k })]) ++ pinsAt fp s5.heap) σ8 H8 s8 →
          tn (i + 1) s8.heap ∧ (∀ b ∈ fp, H8 b = none) ∧ H8 s2.heap.objs.size = none ∧ s8.heap.get? s2.heap.objs.size = some { cls := .type "list", data := .seq its.toArray k } := fun {s8 σ8 H8} I8 => by
        refine ⟨T.keep _ _ _ st5 fun b hb o e => (I8.pin (b, o) (List.mem_append_right _ (List.mem_append_right _ (mem_pinsAt hb e)))).1, fun b hb => ?_, ?_, ?_⟩
        · obtain ⟨o, e, d⟩ := T.obj _ _ st5 b hb
          exact (I8.pin (b, o) (List.mem_append_right _ (List.mem_append_right _ (mem_pinsAt hb e)))).2.1
        · exact (I8.pin (s2.heap.objs.size, _) (List.mem_append_right _ (List.mem_append_left _ (List.mem_append_right _ (List.mem_singleton.mpr rfl))))).2.1
        · exact (I8.pin (s2.heap.objs.size, _) (List.mem_append_right _ (List.mem_append_left _ (List.mem_append_right _ (List.mem_singleton.mpr rfl))))).1
      cases b with
      | false =>
        rw [if_neg Bool.false_ne_true] at q7 ⊢
        obtain ⟨m', hm, w7⟩ := q7
        obtain ⟨a1, a2, a3, a4⟩ := keepT I7
        exact ⟨m', hm, i + 1, some xv, vs, H7, its, k, I7.unpinned.unpinned, a1, a2, a3, a4, hv', w7⟩
      | true =>
        rw [if_pos rfl] at q7 ⊢
        refine thn (he C s2 H2 fp _ s7 _ H7 _ I7 q7) fun u8 s8 ⟨v8, H8, I8, r8, m', hm, w8⟩ => ?_
        obtain ⟨a1, a2, a3, a4⟩ := keepT I8
        refine wpAny_list_append_plain (items := its.toArray) ⟨k, a4⟩ (fun h9 pl sb => ?_) (by rw [List.size_toArray, ← hv'.length]; exact Nat.le_of_lt hlen)
        obtain ⟨k9, e9⟩ := pl
        have ne : ∀ b ∈ fp, b ≠ s2.heap.objs.size := fun b hb => Nat.ne_of_lt (fpD b hb)
        have I9 : Inv (cxComp X (x :: frees) scope C s2 H2 fp) pins (some xv :: outs σ idx) H8 { s8 with heap := h9 } :=
          I8.unpinned.unpinned.turned (t' := s8.toks) (fun b o hb e => (sb.2 b hb).trans e) a3 hDC (.inr (Nat.le_refl _)) (fun y c e => Dcell y c (look y c e)) Dpin
        refine ⟨m', hm, i + 1, some xv, vs ++ [v8], H8, its ++ [u8], k9, I9, T.keep _ _ _ a1 fun b hb o e => (sb.2 b (ne b hb)).trans e, a2, a3, ?_, hv'.snoc r8, w8⟩
        rw [List.push_toArray] at e9
        exact e9
  exact codeAny_compStart_list (loop _ rfl) (T.self _ 0 _ _ _ (T.keep _ _ _ st2 fun b _ o e => old b o e) (loop _ rfl))
/-- y = [e for x in it if ..], y a name of the def on the same row -/
theorem ps_lc {X : Cx} {elt iter : Expr} {x y : Str} {px py pos pos0 : Pos} {ifs : List Expr} {scope : Scope} {wi : TI} {tt : TT} {te : TE} {g : TG} (osc : Scope) (N : List Str) (frees : List Str) (idx : List Nat)
    (hk : compOk osc N x frees idx scope = true) (hi : PI X (.Name x px) iter wi) (hgy : PG X (.Name y py) g)
    (ht : ∀ C s₀ H₀ ex, PTs (cxComp X (x :: frees) scope C s₀ H₀ ex) ifs tt) (he : ∀ C s₀ H₀ ex, PE (cxComp X (x :: frees) scope C s₀ H₀ ex) elt te)
    (hsw : swapsWith (.ListComp elt [⟨.Name x px, iter, ifs, 0⟩] scope pos) (some (.Name y py)) pos0.line X.env = pure true)
    (ho : X.env.scope = osc := by rfl) (hN : X.N = N := by rfl) (hc : X.calm = true := by rfl) (hs : ∀ v, foldedSetIterable iter X.env v = pure v := by intro _; rfl) :
    PS X (.Assign [.Name y py] (.ListComp elt [⟨.Name x px, iter, ifs, 0⟩] scope pos) pos0) (tAsg (tComp idx wi tt te) g) := by
  obtain ⟨S, fl⟩ := compOk_scope (X := X) hk ho hN
  exact ps_lcomp hc S fl hi hgy ht he hsw hs
end L2

set_option Elab.async false
set_option linter.all false
set_option maxRecDepth 100000
namespace PySem
open PyProof.Rows
section
variable {prog : Program} {w : World} {A : Around} {E : Value → Shared → Prop} {s : Shared}
theorem nextOfT_item {it t : Addr} {i : Nat} {xs : Array Value} {x : Value} {Q : Value → Shared → Prop} (hit : s.heap.IsTupleIter it t i) (ht : s.heap.IsTuple t xs) (hx : xs[i]? = some x)
    (hQ : ∀ h', h'.IsTupleIter it t (i + 1) → Heap.SameBut it s.heap h' → Q x { s with heap := h' }) : wpAny (model prog w) A (Builtin.SmallTypes.nextOf (.ref it)) Q E s := by
  obtain ⟨o, ho, hc, hd⟩ := id hit
  obtain ⟨u, hu, _, n, hn⟩ := ht
  unfold Builtin.SmallTypes.nextOf
  refine wpAny_bind (wpAny_callSpecial?_slot (name := Str.ofString "__next__") hit.typeIs F.slot_tuple_iterator_next (wpAny_call_entry F.slot_tuple_iterator_next hit.typeIs F.entry_tuple_iterator_next ?_ (F.args_tuple_iterator_next_1 _)))
  show wpAny _ _ (field (.ref it) 0 >>= _) _ _ s
  refine wpAny_bind (wpAny_field ho hd (x := .ref t) rfl ?_)
  rw [if_neg (show ¬ ((Value.ref t == Value.none) = true) from Bool.false_ne_true)]
  show wpAny _ _ (field (.ref it) 1 >>= _) _ _ s
  refine wpAny_bind (wpAny_field ho hd (x := .int i 0) rfl ?_)
  show wpAny _ _ (seqItems? (.ref t) >>= _) _ _ s
  refine wpAny_bind (wpAny_seqItems hu hn ?_)
  simp only [Int.toNat_natCast, hx]
  refine wpAny_bind (wpAny_setField ho hd (by simp) (wpAny_pure ⟨x, rfl, wpAny_pure (hQ _ ⟨_, Heap.get?_update_self _ ho (Obj.isFreed_of_fields (Obj.data_mapFields hd _)), (Obj.cls_mapFields ..).trans hc, by rw [Obj.data_mapFields hd]; simp [rawInt]⟩ (Heap.SameBut.update ..))⟩))
theorem nextOfT_end {it t : Addr} {i : Nat} {xs : Array Value} {Q : Value → Shared → Prop} (hh : A.handled = none) (hit : s.heap.IsTupleIter it t i) (ht : s.heap.IsTuple t xs) (hx : xs[i]? = none)
    (hE : ∀ h' e, Heap.ExtBut it s.heap h' → (∃ o, h'.get? e = some o ∧ o.cls = .type "StopIteration") → E (.ref e) { s with heap := h' }) : wpAny (model prog w) A (Builtin.SmallTypes.nextOf (.ref it)) Q E s := by
  obtain ⟨o, ho, hc, hd⟩ := id hit
  obtain ⟨u, hu, _, n, hn⟩ := ht
  unfold Builtin.SmallTypes.nextOf
  refine wpAny_bind (wpAny_callSpecial?_slot (name := Str.ofString "__next__") hit.typeIs F.slot_tuple_iterator_next (wpAny_call_entry F.slot_tuple_iterator_next hit.typeIs F.entry_tuple_iterator_next ?_ (F.args_tuple_iterator_next_1 _)))
  show wpAny _ _ (field (.ref it) 0 >>= _) _ _ s
  refine wpAny_bind (wpAny_field ho hd (x := .ref t) rfl ?_)
  rw [if_neg (show ¬ ((Value.ref t == Value.none) = true) from Bool.false_ne_true)]
  show wpAny _ _ (field (.ref it) 1 >>= _) _ _ s
  refine wpAny_bind (wpAny_field ho hd (x := .int i 0) rfl ?_)
  show wpAny _ _ (seqItems? (.ref t) >>= _) _ _ s
  refine wpAny_bind (wpAny_seqItems hu hn ?_)
  simp only [Int.toNat_natCast, hx]
  refine wpAny_bind (wpAny_rule (wpAny_bind (wpAny_setField ho hd (by simp) ?_)))
  show wpAny _ _ (newExc (.type "StopIteration") [] >>= _) _ _ _
  refine wpAny_bind ?_
  simp only [newExc, newTuple]
  refine wpAny_bind (wpAny_newObj_type ?_ (by size_fits))
  refine wpAny_bind (m := firstArgMember _ _) (wpAny_of_eq (a := Value.none) (by first | rfl | (simp only [firstArgMember]; rfl)) ?_)
  refine wpAny_newObj_type ?_ (by size_fits)
  simp only [raiseNew]
  refine wpAny_bind (wpAny_handled ?_)
  first | rw [show A.in1.handled = none from hh] | rw [hh]
  exact wpAny_bind (wpAny_pure (wpAny_throw (hE _ _ (((Heap.SameBut.update ..).extBut.push _).push _) ⟨_, Heap.get?_push_size _ rfl, rfl⟩)))
/-- a zip of two tuples at its k-th turn -/
structure ZipT (h : Heap) (z TI TO i1 i2 t1 t2 : Addr) (k : Nat) : Prop where
  nd : [z, TI, TO, i1, i2].Nodup
  zz : IsZip h z TI TO .none
  ti : IsPair h TI (.ref i1) (.ref i2)
  tO : ∃ a b, IsPair h TO a b
  j1 : h.IsTupleIter i1 t1 k
  j2 : h.IsTupleIter i2 t2 k
abbrev zt1 (h : Heap) (t1 : Addr) : Heap := h.push { cls := .type "tuple_iterator", data := .fields #[.ref t1, .int 0 0] }
abbrev zt2 (h : Heap) (t1 t2 : Addr) : Heap := (zt1 h t1).push { cls := .type "tuple_iterator", data := .fields #[.ref t2, .int 0 0] }
abbrev zt3 (h : Heap) (t1 t2 : Addr) : Heap := (zt2 h t1 t2).push { cls := .type "tuple", data := .seq #[.ref h.objs.size, .ref (zt1 h t1).objs.size] }
abbrev zt4 (h : Heap) (t1 t2 : Addr) : Heap := (zt3 h t1 t2).push { cls := .type "tuple", data := .seq #[.none, .none] }
abbrev zt5 (h : Heap) (t1 t2 : Addr) : Heap := (zt4 h t1 t2).push { cls := .type "zip", data := .fields #[.none, .bool false, .bool false, .ref (zt2 h t1 t2).objs.size, .ref (zt3 h t1 t2).objs.size] }
end
end PySem

set_option Elab.async false
set_option linter.all false
set_option maxRecDepth 100000
namespace L2
open PySem PySem.Spec PyProof.Rows
section
variable {X : Cx} {pins : List (Addr × Obj)} {σ : St} {H : Hp} {s : Shared} {h' : Heap}
end
/-- zip of two tuples -/
def Itz (a b : Addr) : It :=
  ⟨fun i H => ∃ xs ys x y, H a = some (.tup xs) ∧ H b = some (.tup ys) ∧ xs[i]? = some x ∧ ys[i]? = some y,
   fun i H v H' => ∃ (T : Addr) (xs ys : List V) (x y : V), H a = some (.tup xs) ∧ H b = some (.tup ys) ∧ xs[i]? = some x ∧ ys[i]? = some y ∧ H T = none ∧ v = .ref T ∧ H' = upd H T (.tup [x, y]),
   fun i H => ∃ xs, H a = some (.tup xs) ∧ xs.length ≤ i⟩
def iZip (ta : TA) : TI := fun σ H R => ta σ H fun vs H1 => ∃ a b xs ys, vs = [.ref a, .ref b] ∧ H1 a = some (.tup xs) ∧ H1 b = some (.tup ys) ∧ R (Itz a b) H1
end L2

set_option Elab.async false
set_option linter.all false
set_option maxRecDepth 100000
namespace PySem
open PyProof.Rows
section
variable {prog : Program} {w : World} {A : Around} {E : Value → Shared → Prop} {s : Shared}
abbrev en1 (h : Heap) (t : Addr) : Heap := h.push { cls := .type "tuple_iterator", data := .fields #[.ref t, .int 0 0] }
abbrev en2 (h : Heap) (t : Addr) : Heap := (en1 h t).push { cls := .type "enumerate", data := .fields #[.none, .bool false, .ref h.objs.size, rawInt 0, .none, .none] }
theorem Draws.tup {prog : Program} {w : World} {A : Around} (hh : A.handled = none) (it t : Addr) (hne : t ≠ it) (xs : Array Value) :
    Draws prog w A it [it, t] xs.size (fun i x => xs[i]? = some x) (fun i h => h.IsTupleIter it t i ∧ h.IsTuple t xs) where
  live := fun i h st => by obtain ⟨⟨o, ho, _⟩, _⟩ := st; exact ⟨o, ho⟩
  frame := fun i h h' st k => by
    obtain ⟨⟨o, ho, r⟩, u, hu, q⟩ := st
    exact ⟨⟨o, k _ (by simp) _ ho, r⟩, u, k _ (by simp) _ hu, q⟩
  item := fun i s Q E hi st hQ => by
    obtain ⟨j, ht⟩ := st
    have hx : xs[i]? = some xs[i] := by simp [hi]
    refine nextOfT_item j ht hx fun h' j' sb => ?_
    obtain ⟨u, hu, q⟩ := ht
    exact hQ _ h' s.toks hx ⟨j', u, (sb.2 t hne).trans hu, q⟩ sb
  done := fun s Q E st hE => by
    obtain ⟨j, ht⟩ := st
    exact nextOfT_end hh j ht (by simp) hE
end
end PySem
namespace L2
open PySem PySem.Spec PyProof.Rows
/-- enumerate of a tuple -/
def Ite (a : Addr) : It :=
  ⟨fun i H => ∃ xs x, H a = some (.tup xs) ∧ xs[i]? = some x,
   fun i H v H' => ∃ (T : Addr) (xs : List V) (x : V), H a = some (.tup xs) ∧ xs[i]? = some x ∧ H T = none ∧ v = .ref T ∧ H' = upd H T (.tup [.int (i : Int), x]),
   fun i H => ∃ xs, H a = some (.tup xs) ∧ xs.length = i⟩
def iEnum (ta : TE) : TI := fun σ H R => ta σ H fun v H1 => ∃ a xs, v = .ref a ∧ H1 a = some (.tup xs) ∧ R (Ite a) H1
end L2

set_option Elab.async false
set_option linter.all false
set_option maxRecDepth 100000
namespace L2
open PySem PySem.Spec PyProof.Rows
section
variable {X : Cx}
/-- the tuple at a, from its end -/
def Itu (K : PySem.W.Frag) (a : Addr) (n : Nat) : It :=
  ⟨fun i H => ∃ xs, SqT K H a xs ∧ xs.length = n ∧ i < n, fun i H x H' => H' = H ∧ ∀ xs, SqT K H a xs → xs[n - 1 - i]? = some x, fun i H => i = n⟩
theorem sz63 : (sizeLine : Int) < 2 ^ 63 := by rw [sizeLine_eq]; decide
theorem turn_rvt {P : Program} {w : World} {K : PySem.W.Frag} {tg : Expr} (a it : Addr) (n : Nat) : Turn P w K tg (Itu K a n) [it] it (fun i h => h.IsRvt it a ((n : Int) - 1 - (i : Int))) where
  mem := by simp
  obj := fun i h st b hb => by
    have e : b = it := by simpa using hb
    subst e
    exact ⟨_, st, fun v z => by cases z⟩
  keep := fun i h h' st k => k it (by simp) _ st
  item := by
    intro X hP hw hK hc i pins s σ H E I hf st hg
    subst hP hw hK
    obtain ⟨xs, hq, hn, hi⟩ := hg
    obtain ⟨its, rv, p, hz⟩ := I.tuple hq
    have hx : xs[n - 1 - i]? = some (xs[n - 1 - i]'(by omega)) := List.getElem?_eq_getElem (by omega)
    obtain ⟨u, hu, ru⟩ := rv.get hx
    obtain ⟨f0, f1, f2, f3, f4, f5⟩ := hf it (by simp)
    have hl := rv.length
    have e : (n : Int) - 1 - (i : Int) = ((n - 1 - i : Nat) : Int) := by omega
    have st2 : s.heap.IsRvt it a ((n - 1 - i : Nat) : Int) := by rw [← e]; exact st
    have z63 := sz63
    refine wpAny_pyNext_rvt_item st2 p (by rw [List.size_toArray]; omega) (x := u) (by simpa using hu) fun h' tk htk st' sb => ?_
    have I1 : Inv X pins σ H { s with heap := h', toks := tk } := I.turned (t' := tk) (fun b o hb e => (sb.2 b hb).trans e) f0 f1 f3 f4 f5
    have st3 : h'.IsRvt it a ((n : Int) - 1 - ((i + 1 : Nat) : Int)) := by
      have e2 : ((n - 1 - i : Nat) : Int) - 1 = (n : Int) - 1 - ((i + 1 : Nat) : Int) := by omega
      rw [← e2]; exact st'
    exact ⟨u, rfl, go_of (s := { s with heap := h', toks := tk }) st' rfl rfl (by decide) ⟨_, H, I1, ru, ⟨rfl, fun ys hy => by rw [I.tuple_inj hy hq]; exact hx⟩, st3, fun b hb => (hf b hb).1⟩⟩
  done := by
    intro X hP hw hK hc i pins s σ H E I hf st hg
    subst hP hw hK
    have hg : i = n := hg
    subst hg
    obtain ⟨f0, f1, f2, f3, f4, f5⟩ := hf it (by simp)
    have e : (i : Int) - 1 - (i : Int) = -1 := by omega
    have st2 : s.heap.IsRvt it a (-1) := by rw [← e]; exact st
    exact wpAny_pyNext_rvt_end (I.ok.hd hc) st2 fun h' eb => ⟨rfl, I.turned (t' := s.toks) (fun b o hb e => eb b o hb e) f0 f1 f3 f4 f5⟩
  self := fun _ _ _ _ _ st h => wpAny_pyIter_rvt st h
def iRev2 (K : PySem.W.Frag) (tl : TE) : TI := fun σ H R => tl σ H fun x H1 => ∃ a xs, x = .ref a ∧ ((SqL K H1 a xs ∧ R (Itv K a xs.length) H1) ∨ (SqT K H1 a xs ∧ R (Itu K a xs.length) H1))
theorem pi_rev2 {l tg : Expr} {tl : TE} {p pos : Pos} (hg : Gl X "reversed") (hm : X.mg "reversed" = none) (hl : PE X l tl) (hs : starEach [l] X.env = [(false, eval l X.env)] := by rfl) : PI X tg (.Call (.Name "reversed" p) [l] [] pos) (iRev2 X.K tl) := by
  intro pins s σ H R I h
  refine wpAny_Call_Name_kw (ld_blt I hg hm boot_rev ?_ (by decide) (by decide))
  refine PyProof.Rows.callWith_type1 ?_ hs rfl
  rw [hs]
  refine Calls.spliced_cons (thn (hl pins s σ H _ I h) fun v s1 ⟨x, H1, I1, r1, q1⟩ => Calls.spliced_nil ?_)
  obtain ⟨a, xs, rfl, ⟨hq, q⟩ | ⟨hq, q⟩⟩ := q1
  · cases r1
    obtain ⟨its, rv, p, hz⟩ := I1.list hq
    have hlen := rv.length
    refine call_reversed_list p.isList ?_
    have st : Heap.IsRevIter (s1.heap.push (revObj a ((its.toArray.size : Int) - 1))) s1.heap.objs.size a ((xs.length : Int) - 1 - ((0 : Nat) : Int)) := by
      refine ⟨_, Heap.get?_push_size _ rfl, rfl, ?_⟩
      show Data.fields _ = _
      simp [hlen]
    refine wpAny_pyIter_revIter (s := { s1 with heap := _ }) st ?_
    refine ⟨s1.heap.objs.size, [s1.heap.objs.size], _, _, H1, rfl, I1.kept (t' := s1.toks) fun b o e => Heap.get?_push_of_some _ e, turn_rev a _ xs.length, st, fun b hb => ?_, q⟩
    have e : b = s1.heap.objs.size := by simpa using hb
    subst e
    exact I1.fpOk (Nat.le_refl _) (I1.hok.fresh (Nat.le_refl _))
  · cases r1
    obtain ⟨its, rv, p, hz⟩ := I1.tuple hq
    have hlen := rv.length
    have z63 := sz63
    refine call_reversed_tuple p (by rw [List.size_toArray]; omega) ?_
    have st : Heap.IsRvt (s1.heap.push (rvtObj a ((its.toArray.size : Int) - 1))) s1.heap.objs.size a ((xs.length : Int) - 1 - ((0 : Nat) : Int)) := by
      have e : ((its.toArray.size : Int) - 1) = ((xs.length : Int) - 1 - ((0 : Nat) : Int)) := by simp [hlen]
      rw [← e]
      exact Heap.get?_push_size _ rfl
    refine wpAny_pyIter_rvt (s := { s1 with heap := _, toks := _ }) st ?_
    refine ⟨s1.heap.objs.size, [s1.heap.objs.size], _, _, H1, rfl, I1.kept (t' := s1.toks + 1 + 1) fun b o e => Heap.get?_push_of_some _ e, turn_rvt a _ xs.length, st, fun b hb => ?_, q⟩
    have e : b = s1.heap.objs.size := by simpa using hb
    subst e
    exact I1.fpOk (Nat.le_refl _) (I1.hok.fresh (Nat.le_refl _))
theorem for_rvt {K : PySem.W.Frag} {a : Addr} {xs : List V} {g : TG} {tb : TS} {D : Ends} {σ : St} {H : Hp} (Pv : Nat → St → Hp → Prop) (h0 : Pv 0 σ H) (hl : ∀ i σ H, i ≤ xs.length → Pv i σ H → SqT K H a xs)
    (hs : ∀ i x σ H, i < xs.length → xs[xs.length - 1 - i]? = some x → Pv i σ H → g x σ H fun σ2 H2 => tb { D with nx := Pv (i + 1), ct := Pv (i + 1), bk := D.nx } σ2 H2) (hd : ∀ σ H, Pv xs.length σ H → D.nx σ H) :
    ∃ W : Nat → Nat → St → Hp → Prop, (∃ m, W 0 m σ H) ∧ ∀ i m σ H, W i m σ H →
      ((Itu K a xs.length).stop i H ∧ D.nx σ H) ∨ ((Itu K a xs.length).go i H ∧ ∃ N : St → Hp → Prop, (∀ σ' H', N σ' H' → ∃ m', m' < m ∧ W (i + 1) m' σ' H') ∧ ∀ x H', (Itu K a xs.length).yld i H x H' → g x σ H' fun σ2 H2 => tb { D with nx := N, ct := N, bk := D.nx } σ2 H2) := by
  refine ⟨fun i m σ H => m = xs.length - i ∧ i ≤ xs.length ∧ Pv i σ H, ⟨xs.length, by simp, Nat.zero_le _, h0⟩, ?_⟩
  rintro i m σ H ⟨rfl, hi, p⟩
  have q := hl i σ H hi p
  by_cases hlt : i < xs.length
  · refine .inr ⟨⟨xs, q, rfl, hlt⟩, Pv (i + 1), fun σ' H' p' => ⟨xs.length - (i + 1), by omega, rfl, hlt, p'⟩, fun x H' y => ?_⟩
    obtain ⟨e, y⟩ := y
    subst e
    exact hs i x σ _ hlt (y xs q) p
  · have e : i = xs.length := by omega
    subst e
    exact .inl ⟨rfl, hd σ H p⟩
end
end L2

set_option Elab.async false
set_option linter.all false
set_option maxRecDepth 100000
namespace L2
open PySem PySem.Spec PyProof.Rows PySem.W
end L2

set_option Elab.async false
set_option linter.all false
set_option maxRecDepth 100000
namespace Fw
open PySem PySem.Spec PyProof.Rows L2
/-! ### lists of signs cut at a sign -/
def splL (c : Nat) : List Nat → List (List Nat)
  | [] => [[]]
  | a :: r => if a = c then [] :: splL c r else match splL c r with
    | p :: ps => (a :: p) :: ps
    | [] => [[a]]
/-! ### the sorts of words -/
def smallS : Str := "abcdefghijklmnopqrstuvwxyz"
def greatS : Str := "ABCDEFGHIJKLMNOPQRSTUVWXYZ"
def keptL : List Str := ["num", "fun", "call", "let", "ring", "case", "make", "pick", "plus", "minus", "times", "less", "if", "kind", "record", "face", "hide", "val", "part", "maker", "apply", "main"]
def inS (y : Str) (c : Nat) : Bool := decide (c ∈ y.cps.toList)
def allS (z y : Str) : Bool := z.cps.toList.all (inS y)
def okLen (z : Str) : Bool := decide (1 ≤ z.length) && decide (z.length ≤ 8)
def smallB (z : Str) : Bool := okLen z && allS z smallS
def nameB (z : Str) : Bool := smallB z && !decide (z ∈ keptL)
def restS (z : Str) : Str := ⟨(z.cps.toList.drop 1).toArray⟩
def greatB (z : Str) : Bool := okLen z && (inS greatS (z.cps.toList.getD 0 0) && allS (restS z) smallS)
def pathB (z : Str) : Bool := match splL 46 z.cps.toList with
  | [a, b] => greatB ⟨a.toArray⟩ && nameB ⟨b.toArray⟩
  | _ => false
def varB (z : Str) : Bool := decide (z.cps.toList.head? = some 63) && smallB (restS z)
def leafB (z : Str) : Bool := decide (z = "num") || varB z || nameB z || pathB z
def headB (z : Str) : Bool := nameB z || pathB z

theorem len_toList (z : Str) : z.cps.toList.length = z.length := by simp [Str.length]
theorem str_ext {a b : Str} (h : a.cps.toList = b.cps.toList) : a = b := by
  cases a; cases b
  simp only [Str.mk.injEq]
  exact Array.toList_inj.mp h
theorem small_range {c : Nat} (h : inS smallS c = true) : 97 ≤ c ∧ c ≤ 122 := by
  have h' : c ∈ smallS.cps.toList := of_decide_eq_true h
  have : ∀ d ∈ smallS.cps.toList, 97 ≤ d ∧ d ≤ 122 := by decide +kernel
  exact this c h'
theorem smallS_len : smallS.length = 26 := by decide +kernel
theorem greatS_len : greatS.length = 26 := by decide +kernel
/-- a word of small letters, in other words -/
structure IsLet (z : Str) (n : Nat) : Prop where
  len : z.length = n
  all : allS z smallS = true
theorem IsLet.mem {z : Str} {n : Nat} (h : IsLet z n) {c : Nat} (hc : c ∈ z.cps.toList) : 97 ≤ c ∧ c ≤ 122 :=
  small_range (List.all_eq_true.mp h.all c hc)
theorem cps_app (a b : Str) : (a ++ b).cps.toList = a.cps.toList ++ b.cps.toList := by
  show (a.cps ++ b.cps).toList = _
  simp
theorem len_app (a b : Str) : (a ++ b).length = a.length + b.length := by
  rw [← len_toList, cps_app, List.length_append, len_toList, len_toList]
/-! small names -/
/-! great names -/
/-! what a word with no dot, with a first sign that is none is not -/
end Fw

set_option Elab.async false
set_option linter.all false
set_option maxRecDepth 100000
namespace Fw
open PySem PySem.Spec PyProof.Rows L2
/-! ### things -/
inductive T where
  | int (i : Int)
  | str (x : Str)
  | tup (l : List T)
mutual
def T.sz : T → Nat
  | .int _ => 1
  | .str _ => 1
  | .tup l => 1 + szs l
def szs : List T → Nat
  | [] => 0
  | t :: r => t.sz + szs r
end
mutual
inductive Rep (H : Hp) : V → T → Prop where
  | int (i : Int) : Rep H (.int i) (.int i)
  | str (x : Str) (h : x.length ≤ 100000) : Rep H (.str x) (.str x)
  | tup {a : Addr} {vs : List V} {ts : List T} (h : H a = some (.tup vs)) (r : Reps H vs ts) : Rep H (.ref a) (.tup ts)
inductive Reps (H : Hp) : List V → List T → Prop where
  | nil : Reps H [] []
  | cons {v : V} {t : T} {vs : List V} {ts : List T} (r : Rep H v t) (q : Reps H vs ts) : Reps H (v :: vs) (t :: ts)
end
mutual
theorem Rep.mono {H H' : Hp} (e : ∀ b xs, H b = some (.tup xs) → H' b = some (.tup xs)) : ∀ {v : V} {t : T}, Rep H v t → Rep H' v t
  | _, _, .int i => .int i
  | _, _, .str x h => .str x h
  | _, _, .tup h r => .tup (e _ _ h) (Reps.mono e r)
theorem Reps.mono {H H' : Hp} (e : ∀ b xs, H b = some (.tup xs) → H' b = some (.tup xs)) : ∀ {vs : List V} {ts : List T}, Reps H vs ts → Reps H' vs ts
  | _, _, .nil => .nil
  | _, _, .cons r q => .cons (Rep.mono e r) (Reps.mono e q)
end
theorem Rep.same {H H' : Hp} (e : Same H H') {v : V} {t : T} (r : Rep H v t) : Rep H' v t := r.mono fun b xs h => e b _ h
theorem Reps.same {H H' : Hp} (e : Same H H') {vs : List V} {ts : List T} (r : Reps H vs ts) : Reps H' vs ts := r.mono fun b xs h => e b _ h
theorem Reps.length {H : Hp} : ∀ {vs : List V} {ts : List T}, Reps H vs ts → vs.length = ts.length
  | _, _, .nil => rfl
  | _, _, .cons _ q => congrArg (· + 1) q.length
theorem Reps.append {H : Hp} : ∀ {vs ws : List V} {ts us : List T}, Reps H vs ts → Reps H ws us → Reps H (vs ++ ws) (ts ++ us)
  | _, _, _, _, .nil, q => q
  | _, _, _, _, .cons r p, q => .cons r (Reps.append p q)
theorem Same.tups {H H' : Hp} (e : Same H H') : ∀ b xs, H b = some (.tup xs) → H' b = some (.tup xs) := fun b xs h => e b _ h
theorem same_new {H : Hp} {p : Addr} (h : H p = none) (o : HO) : Same H (upd H p o) := fun b u q => by rw [upd_ne (ne_of_none q h)]; exact q
/-! ### things that fit, by what stands within them -/
section
variable (kids : T → Option (List T))
inductive Good : T → Prop where
  | mk {t : T} {l : List T} (h : kids t = some l) (q : ∀ k ∈ l, Good k) : Good t
inductive Bad : T → Prop where
  | none {t : T} (h : kids t = none) : Bad t
  | kid {t : T} {l : List T} {k : T} (h : kids t = some l) (m : k ∈ l) (q : Bad k) : Bad t
end
/-! ### the sorts of words, of things -/
def onStr (f : Str → Bool) : T → Bool
  | .str z => f z
  | _ => false
def kidsK : T → Option (List T)
  | .int _ => none
  | .str z => if leafB z = true then some [] else none
  | .tup [] => none
  | .tup (h :: r) => if r.length = 2 ∧ onStr (fun z => decide (z = "->")) h = true then some r else if (1 ≤ r.length ∧ r.length ≤ 3) ∧ onStr headB h = true then some r else none
/-! ### a def of the text that is there, with its promise -/
def Has (P : Program) (w : World) (K : PySem.W.Frag) (mg : Str → Option Value) (base : Heap) (k : Nat) (x : Str) (ps : List Str) (sp : Sp) : Prop :=
  ∃ f fd, FnOk P w K mg base CX0 k f fd ps sp ∧ Binds K fd ps [] ∧ PySem.W.keepIn K (.ref f) = true ∧ mg x = some (.ref f)
theorem Has.mono {P : Program} {w : World} {K : PySem.W.Frag} {mg : Str → Option Value} {base : Heap} {j k : Nat} {x : Str} {ps : List Str} {sp : Sp} (h : Has P w K mg base j x ps sp) (q : j ≤ k) : Has P w K mg base k x ps sp := by
  obtain ⟨f, fd, h1, h2⟩ := h
  exact ⟨f, fd, h1.mono q, h2⟩
theorem pcall {X : Cx} {k j : Nat} {x : Str} {ps : List Str} {sp : Sp} {p pos : Pos} {e : Expr} {es : List Expr} {t : TA} (h : Has X.prog X.w X.K X.mg X.base k x ps sp) (hr : Room j X.A) (hkj : k ≤ j) (hg : Gl X x) (ha : PA X (e :: es) t)
    (hdb : (x == ("__debug__" : Str)) = false := by decide) (he : starEach (e :: es) X.env = (false, eval e X.env) :: starEach es X.env := by rfl) (hpl : (backTo pos (starEach es X.env)).any (·.1) = false := by rfl) :
    PE X (.Call (.Name x p) (e :: es) [] pos) (tCall sp [] E0 t) := by
  obtain ⟨f, fd, h1, h2, h3, h4⟩ := h
  exact pe_call h1 (hr.mono hkj) hg h4 h3 h2 .nil pass0 ha hdb he hpl
def spT (f : T → Bool) : Sp := fun vs H Q _ => ∃ v t, vs = [v] ∧ Rep H v t ∧ ∀ H', Same H H' → Q (.bl (f t)) H'
def spWithin (kids : T → Option (List T)) : Sp := fun vs H Q _ => ∃ v t, vs = [v] ∧ Rep H v t ∧ (kids t = none → ∀ H', Same H H' → Q .non H') ∧
  ∀ l, kids t = some l → ∀ H' p ws, Same H H' → H p = none → H' p = some (.lst ws) → Reps H' ws l → Q (.ref p) H'
def spFits (kids : T → Option (List T)) : Sp := fun vs H Q _ => ∃ v t b, vs = [v] ∧ Rep H v t ∧ t.sz ≤ 100000 ∧ ((b = true ∧ Good kids t) ∨ (b = false ∧ Bad kids t)) ∧ ∀ H', Same H H' → Q (.bl b) H'
def spAllFit (kids : T → Option (List T)) (g : Addr) : Sp := fun vs H Q _ => ∃ v t b, vs = [v, .ref g] ∧ Rep H v t ∧ t.sz ≤ 100000 ∧ ((b = true ∧ Good kids t) ∨ (b = false ∧ Bad kids t)) ∧ ∀ H', Same H H' → Q (.bl b) H'
def spAllOf : Sp := fun vs H Q _ => ∃ x y, vs = [.str x, .str y] ∧ x.length ≤ 100000 ∧ ∀ H', Same H H' → Q (.bl (allS x y)) H'
end Fw
namespace Fw
open PySem PySem.Spec PyProof.Rows L2
def tyT : T → Value
  | .int _ => .type "int"
  | .str _ => .type "str"
  | .tup _ => .type "tuple"
def isStrT : T → Bool
  | .str _ => true
  | _ => false
def isTupT : T → Bool
  | .tup _ => true
  | _ => false
/-- what of the text's names the defs ask -/
structure Gb (K : PySem.W.Frag) (mg : Str → Option Value) : Prop where
  len : mg "len" = none
  all : mg "all" = none
  isi : mg "isinstance" = none
  str : mg "str" = none
  tuple : mg "tuple" = none
  list : mg "list" = none
  range : mg "range" = none
  small : ∃ t, mg "SMALL_LETTERS" = some (.str smallS t)
  great : ∃ t, mg "GREAT_LETTERS" = some (.str greatS t)
  most : ∃ t, mg "MOST_LETTERS" = some (.int 8 t)
  kept : ∃ a, mg "KEPT" = some (.ref a) ∧ ∀ H, SqT K H a (keptL.map V.str)
theorem tt1 {σ : L2.St} {H : Hp} {Q : Bool → Hp → Prop} (h : Q true H) : tTrue σ H Q := h
theorem small {n : Nat} (h : n ≤ 1000000) : n ≤ sizeLine := Nat.le_trans h (by decide)
theorem small' {n : Nat} (h : n ≤ 1000000) : n < sizeLine := Nat.lt_of_le_of_lt h (by decide)
theorem eqV_str (a b : Str) : eqV (.str a) (.str b) = decide (a = b) := by
  show (a == b) = _
  rw [Bool.eq_iff_iff]
  simp
theorem inV_str (z : Str) : ∀ l : List Str, inV (.str z) (l.map V.str) = decide (z ∈ l)
  | [] => by simp [inV]
  | a :: r => by
    have ih := inV_str z r
    unfold inV at ih ⊢
    rw [List.map_cons, List.any_cons, ih, eqV_str, Bool.eq_iff_iff]
    simp only [Bool.or_eq_true, decide_eq_true_eq, List.mem_cons]
    constructor
    · rintro (h | h)
      · exact .inl h.symm
      · exact .inr h
    · rintro (h | h)
      · exact .inl h.symm
      · exact .inr h
theorem flat_strs : ∀ l : List Str, (l.map V.str).all flatV = true
  | [] => rfl
  | a :: r => by rw [List.map_cons, List.all_cons, flat_strs r]; rfl
end Fw

set_option Elab.async false
set_option linter.all false
set_option maxRecDepth 100000
namespace Fw
open PySem PySem.Spec PyProof.Rows L2
end Fw

set_option Elab.async false
set_option linter.all false
set_option maxRecDepth 100000
namespace Fw
open PySem PySem.Spec PyProof.Rows L2
/-! ### readings that come to one value, the heap but growing -/
def Ev (t : TE) (σ : L2.St) (H : Hp) (v : V) : Prop := ∀ Q : VK, (∀ H', Same H H' → Q v H') → t σ H Q
def Tst (t : TT) (σ : L2.St) (H : Hp) (c : Bool) : Prop := ∀ Q : Bool → Hp → Prop, (∀ H', Same H H' → Q c H') → t σ H Q
section
variable {ta tb tc : TE} {t u : TT} {σ : L2.St} {H : Hp} {v x y z : V} {c c1 c2 : Bool} {K : PySem.W.Frag}
theorem Same.both {H H1 H2 : Hp} (a : Same H H1) (b : Same H1 H2) : Same H H2 := a.trans b
end
end Fw

set_option Elab.async false
set_option linter.all false
set_option maxRecDepth 100000
namespace Fw
open PySem PySem.Spec PyProof.Rows L2
def top (i : Nat) : Stmt := PySem.Challenge.pw_facework_k14_schemes_of_sorts.main.body.getD i (.Pass ⟨0, 0, 0, 0⟩)
abbrev s_next : Stmt := top 8
abbrev s_drawn : Stmt := top 9
/-! ### the law's own draws: a list of ints that is used up -/
def StOk (H : Hp) (st : Addr) : Prop := ∃ ns : List Int, ns ≠ [] ∧ ns.length ≤ 100 ∧ H st = some (.lst (ns.map V.int))
def Grow (st : Addr) (H H' : Hp) : Prop := (∀ b o, b ≠ st → H b = some o → H' b = some o) ∧ StOk H' st
theorem Grow.refl {st : Addr} {H : Hp} (h : StOk H st) : Grow st H H := ⟨fun _ _ _ e => e, h⟩
theorem Grow.trans {st : Addr} {H H1 H2 : Hp} (a : Grow st H H1) (b : Grow st H1 H2) : Grow st H H2 := ⟨fun c o hc e => b.1 c o hc (a.1 c o hc e), b.2⟩
theorem Grow.ok {st : Addr} {H H' : Hp} (a : Grow st H H') : StOk H' st := a.2
theorem StOk.same {st : Addr} {H H' : Hp} (h : StOk H st) (e : Same H H') : StOk H' st := by
  obtain ⟨ns, h1, h2, h3⟩ := h
  exact ⟨ns, h1, h2, e _ _ h3⟩
theorem grow_same {st : Addr} {H H' : Hp} (h : StOk H st) (e : Same H H') : Grow st H H' := ⟨fun b o _ q => e b o q, h.same e⟩
theorem grow_new {st p : Addr} {H : Hp} {o : HO} (h : StOk H st) (hp : H p = none) : Grow st H (upd H p o) := grow_same h (same_new hp o)
theorem grow_set {st : Addr} {H : Hp} {ns : List Int} (h1 : ns ≠ []) (h2 : ns.length ≤ 100) : Grow st H (upd H st (.lst (ns.map V.int))) := ⟨fun b o hb e => by rw [upd_ne hb]; exact e, ns, h1, h2, upd_same⟩
theorem StOk.ne_tup {st b : Addr} {H : Hp} {xs : List V} (h : StOk H st) (e : H b = some (.tup xs)) : b ≠ st := by
  obtain ⟨ns, _, _, h3⟩ := h
  exact ne_of e h3 (by intro z; cases z)
theorem Grow.tups {st : Addr} {H H' : Hp} (a : Grow st H H') (h : StOk H st) : ∀ b xs, H b = some (.tup xs) → H' b = some (.tup xs) := fun b xs e => a.1 b _ (h.ne_tup e) e
theorem Rep.grow {st : Addr} {H H' : Hp} {v : V} {t : T} (r : Rep H v t) (a : Grow st H H') (h : StOk H st) : Rep H' v t := r.mono (a.tups h)
theorem Reps.grow {st : Addr} {H H' : Hp} {vs : List V} {ts : List T} (r : Reps H vs ts) (a : Grow st H H') (h : StOk H st) : Reps H' vs ts := r.mono (a.tups h)
theorem ix0 (k : Nat) : ixN (k + 1) 0 = some 0 := by
  unfold ixN
  rw [if_pos (by omega), if_pos (by omega)]
  rfl
theorem sq0 (k : Nat) : seqIndex? 0 (k + 1) = some 0 := (ixN_seq (ix0 k)).1
def spNext : Sp := fun vs H Q _ => ∃ (st : Addr) (m : Int), vs = [.ref st, .int m] ∧ StOk H st ∧ 0 < m ∧ m < 1000000 ∧ ∀ (d : Int) H', 0 ≤ d → d < m → Grow st H H' → Q (.int d) H'
section
variable {P : Program} {w : World} {K : PySem.W.Frag} {mg : Str → Option Value} {base : Heap} {f : Addr} {fd : FuncData}
theorem sc_next : FnScope ["_law_state", "_law_many", "_law_digit"] ["_law_state", "_law_many"] (defScope s_next) := ⟨rfl, rfl, rfl, by decide +kernel, rfl, by decide +kernel, by decide +kernel⟩
theorem ok_next (F : Fun K "_law_next" "_law_next" s_next f fd) (ml : mg "len" = none) : FnOk P w K mg base CX0 1 f fd ["_law_state", "_law_many"] spNext := by
  refine F.ok sc_next (fun vs H Q E h => ?_) (fun cdv A outer s H vs Q E hr h => ?_)
  · obtain ⟨st, m, rfl, _⟩ := h
    rfl
  obtain ⟨st, m, rfl, hs, m0, m1, q⟩ := h
  obtain ⟨ns, hne, hle, hst⟩ := id hs
  refine ⟨_, pss_cons (ps_if (pt_cmpR op_gt (pe_callB call_len_seq rfl ml PySem.boot_len (pa_cons (pv 0) pa_nil)) pe_int (nomark _))
      (pss_cons (ps_set (i := 2) sc_next.nd rfl (Or.inl rfl) (pe_op op_mod (pe_ix ix_list (pv 0) pe_int (fun _ _ => rfl)) (pv 1)))
      (pss_cons (ps_asg (pe_op op_fdiv (pe_ix ix_list (pv 0) pe_int (fun _ _ => rfl)) (pv 1)) (pg_sub (pv 0) pe_int set_list))
      (pss_cons (ps_if (pt_cmpR op_in_seq (pe_ix ix_list (pv 0) pe_int (fun _ _ => rfl)) (pe_tup (pa_cons pe_int (pa_cons (pe_un un_neg pe_int) pa_nil))) (by with_unfolding_all rfl))
        (pss_one (ps_expr (pe_bm PySem.F.plainAttrs_list PySem.F.slot_list_pop PySem.F.type_list_pop mt_popAt (pv 0) (pa_cons pe_int pa_nil)))) pss_nil)
      (pss_one (ps_ret (pv 2)))))) pss_nil)
    (pss_cons (ps_asg (pe_op op_mod (pe_op op_add (pe_op op_mul (pe_ix ix_list (pv 0) pe_int (fun _ _ => rfl)) pe_int) pe_int) (pe_op op_sub (pe_op op_pow pe_int pe_int) pe_int)) (pg_sub (pv 0) pe_int set_list))
    (pss_one (ps_ret (pe_op op_mod (pe_op op_fdiv (pe_ix ix_list (pv 0) pe_int (fun _ _ => rfl)) pe_int) (pv 1))))), ?_⟩
  cases ns with
  | nil => exact absurd rfl hne
  | cons n r =>
    refine ⟨_, rfl, st, _, rfl, .inl (SqL.of hst), _, _, rfl, rfl, _, rfl, ?_⟩
    refine ite2 (fun c => ?_) (fun c => ?_)
    · have c1 : (1 : Int) < (((n :: r).map V.int).length : Nat) := of_decide_eq_true c
      have hr0 : r ≠ [] := fun e => by rw [e] at c1; simp at c1
      refine ⟨_, rfl, st, _, 0, .int n, rfl, rfl, SqL.of hst, atI_nat (j := 0) rfl, _, rfl, n, m, rfl, rfl, m0, ?_⟩
      refine ⟨_, rfl, st, _, 0, .int n, rfl, rfl, SqL.of hst, atI_nat (j := 0) rfl, _, rfl, n, m, rfl, rfl, ⟨m0, by omega⟩, ?_⟩
      refine ⟨_, rfl, st, _, 0, 0, rfl, rfl, hst, by rw [List.length_map]; exact ix0 _, ?_⟩
      have g1 : Grow st H (upd H st (.lst ((n / m :: r).map V.int))) := grow_set (by simp) (by simpa using hle)
      refine ⟨_, rfl, st, _, 0, .int (n / m), rfl, rfl, SqL.of upd_same, atI_nat (j := 0) rfl, 1, rfl, small (by show 2 ≤ 1000000; decide), fun p hp => ?_⟩
      have g2 : Grow st _ (upd (upd H st (.lst ((n / m :: r).map V.int))) p (.tup [.int 0, .int (-1)])) := grow_new g1.ok hp
      refine ⟨p, [.int 0, .int (-1)], rfl, .inr (SqT.of upd_same), rfl, rfl, _, rfl, ?_⟩
      have hd0 : 0 ≤ n % m := Int.emod_nonneg _ (by omega)
      have hd1 : n % m < m := Int.emod_lt_of_pos _ m0
      have hst2 : (upd (upd H st (.lst ((n / m :: r).map V.int))) p (.tup [.int 0, .int (-1)])) st = some (.lst ((n / m :: r).map V.int)) := (same_new hp _) _ _ upd_same
      refine ite2 (fun c2 => ?_) (fun c2 => ?_)
      · refine ⟨_, rfl, .inl ⟨rfl, _, SqL.of hst2⟩, st, _, 0, 0, .int (n / m), rfl, rfl, hst2, by decide, by decide, ?_, rfl, ?_⟩
        · rw [List.length_map]
          exact sq0 _
        · refine ⟨_, rfl, q _ _ hd0 hd1 ((g1.trans g2).trans ?_)⟩
          exact grow_set (ns := r) hr0 (by simp at hle; omega)
      · exact ⟨_, rfl, q _ _ hd0 hd1 (g1.trans g2)⟩
    · refine ⟨_, rfl, st, _, 0, .int n, rfl, rfl, SqL.of hst, atI_nat (j := 0) rfl, _, _, rfl, rfl, .inr ⟨by decide, by decide⟩, _, _, rfl, rfl, _, _, rfl, rfl, ⟨by decide, by decide, by decide⟩, _, _, rfl, rfl, _, _, rfl, rfl, (by show (0 : Int) < 2 ^ 61 - 1; decide), ?_⟩
      refine ⟨_, rfl, st, _, 0, 0, rfl, rfl, hst, by rw [List.length_map]; exact ix0 _, ?_⟩
      have g1 : ∀ x, Grow st H (upd H st (.lst ((x :: r).map V.int))) := fun x => grow_set (by simp) (by simpa using hle)
      refine ⟨_, rfl, st, _, 0, .int _, rfl, rfl, SqL.of upd_same, atI_nat (j := 0) rfl, _, _, rfl, rfl, ⟨by decide, by decide⟩, _, rfl, _, _, rfl, rfl, m0, ?_⟩
      exact q _ _ (Int.emod_nonneg _ (by omega)) (Int.emod_lt_of_pos _ m0) (g1 _)
end
def spDrawn (K : PySem.W.Frag) : Sp := fun vs H Q _ => ∃ (a : Addr) (ns : List Int), vs = [.ref a] ∧ SqL K H a (ns.map V.int) ∧ ns.length ≤ 63 ∧ ∀ p H', Same H H' → H p = none → StOk H' p → Q (.ref p) H'
/-- an item of a list at a drawn place -/
theorem at_any {α : Type} {xs : List α} {d : Int} (h0 : 0 ≤ d) (h1 : d < xs.length) : ∃ v, atI xs d = some v ∧ v ∈ xs := by
  have hd : d.toNat < xs.length := by omega
  refine ⟨xs[d.toNat], ?_, List.getElem_mem hd⟩
  have e : ((d.toNat : Nat) : Int) = d := by omega
  have q := atI_nat (xs := xs) (j := d.toNat) (v := xs[d.toNat]) (List.getElem?_eq_getElem hd)
  rw [e] at q
  exact q
theorem at_small {d : Int} (h0 : 0 ≤ d) (h1 : d < 26) : ∃ c, atI smallS.cps.toList d = some c ∧ c ∈ smallS.cps.toList :=
  at_any h0 (by rw [len_toList, smallS_len]; exact h1)
theorem Grow.at_ {st p : Addr} {H H' : Hp} {o : HO} (a : Grow st H H') (h : StOk H st) (hp : ∀ ns, o ≠ .lst (List.map V.int ns)) (e : H p = some o) : H' p = some o := by
  obtain ⟨ns, _, _, h3⟩ := h
  exact a.1 p o (ne_of e h3 (hp ns)) e
section
variable {P : Program} {w : World} {K : PySem.W.Frag} {mg : Str → Option Value} {base : Heap} {f : Addr} {fd : FuncData}
theorem sc_drawn : FnScope ["_law_script", "_law_seed", "_law_cell"] ["_law_script"] (defScope s_drawn) := ⟨rfl, rfl, rfl, by decide +kernel, rfl, by decide +kernel, by decide +kernel⟩
theorem ok_drawn (F : Fun K "_law_drawn" "_law_drawn" s_drawn f fd) (ml : mg "len" = none) : FnOk P w K mg base CX0 1 f fd ["_law_script"] (spDrawn K) := by
  refine F.ok sc_drawn (fun vs H Q E h => ?_) (fun cdv A outer s H vs Q E hr h => ?_)
  · obtain ⟨a, ns, rfl, _⟩ := h
    rfl
  obtain ⟨a, ns, rfl, hS, h63, q⟩ := h
  refine ⟨_, pss_cons (ps_set (i := 1) sc_drawn.nd rfl (Or.inl rfl) pe_int)
    (pss_cons (ps_for PassesOwn.never rfl (pi_list (pv 0)) (pg_name (i := 2) sc_drawn.nd rfl (Or.inl rfl)) (pss_one (ps_set (i := 1) sc_drawn.nd rfl (Or.inl rfl)
      (pe_op op_mod (pe_op op_add (pe_op op_add (pe_op op_mul (pv 1) pe_int) (pe_op op_mod (pv 2) (pe_op op_pow pe_int pe_int))) pe_int) (pe_op op_sub (pe_op op_pow pe_int pe_int) pe_int)))))
    (pss_cons (ps_if (PW.pt (pw_and (pt_cmpR op_gt (pe_callB call_len_seq rfl ml PySem.boot_len (pa_cons (pv 0) pa_nil)) pe_int (nomark _)) (pw_and1 (pt_cmpR op_eq (pe_op op_mod (pe_ix ix_list (pv 0) pe_int (fun _ _ => rfl)) pe_int) pe_int (nomark _)))))
      (pss_one (ps_ret (pe_op op_cat (pe_op op_cat (pe_lst (pa_cons (pe_op op_fdiv (pe_ix ix_list (pv 0) pe_int (fun _ _ => rfl)) pe_int) pa_nil)) (pe_slice sl_list (pv 0) (po_some pe_int) (po_some pe_int))) (pe_lst (pa_cons (pv 1) pa_nil))))) pss_nil)
    (pss_one (ps_ret (pe_lst (pa_cons (pv 1) pa_nil)))))), ?_⟩
  refine ⟨_, rfl, a, rfl, ⟨_, hS⟩, for_list (xs := ns.map V.int) (fun i σ H' => H' = H ∧ ∃ (x : Int) (o : Option V), σ = [some (.ref a), some (.int x), o]) ⟨rfl, 1000003, none, rfl⟩ ?_ ?_ ?_⟩
  · rintro i σ H' _ ⟨rfl, _⟩
    exact hS
  · rintro i x σ H' hx ⟨rfl, y, o, rfl⟩
    rw [List.getElem?_map] at hx
    cases hn : ns[i]? with
    | none => rw [hn] at hx; cases hx
    | some n =>
      rw [hn] at hx
      cases hx
      refine ⟨_, rfl, _, _, rfl, rfl, .inr ⟨by decide, by decide⟩, _, rfl, _, _, rfl, rfl, ⟨by decide, by decide, by decide⟩, _, _, rfl, rfl, (by show (0 : Int) < 10 ^ 30; decide), _, _, rfl, rfl, _, _, rfl, rfl, _, _, rfl, rfl, ⟨by decide, by decide, by decide⟩, _, _, rfl, rfl, _, _, rfl, rfl, (by show (0 : Int) < 2 ^ 61 - 1; decide), ?_⟩
      exact ⟨rfl, _, _, rfl⟩
  · rintro σ H' ⟨rfl, x, o, rfl⟩
    have last : ∀ H1 D, Same H' H1 → D.rt = Q → tRet (tLst (tCons (tVar 1) tNil)) D [some (.ref a), some (.int x), o] H1 := fun H1 D e hD => by
      refine ⟨_, rfl, small (by show 1 ≤ 1000000; decide), fun p hp => ?_⟩
      rw [hD]
      exact q p _ (e.trans (same_new hp _)) (e.free hp) ⟨[x], by simp, by simp, upd_same⟩
    refine ⟨_, rfl, a, _, rfl, .inl hS, _, _, rfl, rfl, _, rfl, ?_⟩
    refine ite2 (fun c => ?_) (fun c => ?_)
    · have c1 : (0 : Int) < ((ns.map V.int).length : Nat) := of_decide_eq_true c
      cases ns with
      | nil => simp at c1
      | cons n r =>
        refine ⟨_, rfl, a, _, 0, .int n, rfl, rfl, hS, atI_nat (j := 0) rfl, _, _, rfl, rfl, (by show (0 : Int) < 2; decide), rfl, _, rfl, ?_⟩
        refine ite2 (fun c2 => ?_) (fun c2 => ?_)
        · refine ⟨_, rfl, a, _, 0, .int n, rfl, rfl, hS, atI_nat (j := 0) rfl, _, _, rfl, rfl, ⟨by decide, by decide⟩, small (by show 1 ≤ 1000000; decide), fun p1 hp1 => ?_⟩
          have e1 := same_new hp1 (.lst [V.int (n / 2)])
          refine ⟨_, rfl, 1, rfl, 63, rfl, a, _, rfl, e1.seq hS, fun p2 hp2 => ?_⟩
          have e2 := same_new hp2 (.lst (cutV ((n :: r).map V.int) (some 1) (some 63)))
          obtain ⟨ms, hms⟩ : ∃ ms : List Int, cutV ((n :: r).map V.int) (some 1) (some 63) = ms.map V.int := by
            unfold cutV
            rw [← List.map_drop, ← List.map_take]
            exact ⟨_, rfl⟩
          have hml : ms.length ≤ 63 := by
            have := cutV_length ((n :: r).map V.int) (some 1) (some 63)
            rw [hms, List.length_map, List.length_map] at this
            omega
          refine ⟨p1, p2, _, _, rfl, rfl, e2 _ _ upd_same, upd_same, ?_, fun p3 hp3 => ?_⟩
          · rw [hms, List.length_map]
            exact small (by simp; omega)
          have e3 := same_new hp3 (.lst ([V.int (n / 2)] ++ cutV ((n :: r).map V.int) (some 1) (some 63)))
          refine ⟨_, rfl, small (by show 1 ≤ 1000000; decide), fun p4 hp4 => ?_⟩
          have e4 := same_new hp4 (.lst [V.int x])
          refine ⟨p3, p4, _, _, rfl, rfl, e4 _ _ upd_same, upd_same, ?_, fun p5 hp5 => ?_⟩
          · rw [hms]
            exact small (by simp; omega)
          refine q p5 _ (e1.trans (e2.trans (e3.trans (e4.trans (same_new hp5 _))))) ((e1.trans (e2.trans (e3.trans e4))).free hp5) ⟨n / 2 :: (ms ++ [x]), by simp, by simp; omega, ?_⟩
          rw [upd_same, hms]
          simp
        · exact last _ _ (Same.refl _) rfl
    · exact last _ _ (Same.refl _) rfl
end
end Fw

set_option Elab.async false
set_option linter.all false
set_option maxRecDepth 100000
namespace Fw
open PySem PySem.Spec PyProof.Rows L2
/-- a thing, at most n deep -/
inductive DpT : Nat → T → Prop where
  | int {n : Nat} {i : Int} : DpT n (.int i)
  | str {n : Nat} {z : Str} : DpT n (.str z)
  | tup {n : Nat} {l : List T} (h : ∀ k ∈ l, DpT n k) : DpT (n + 1) (.tup l)
theorem DpT.up {n m : Nat} {t : T} (h : DpT n t) (q : n ≤ m) : DpT m t := by
  induction h generalizing m with
  | int => exact .int
  | str => exact .str
  | @tup n l h ih =>
    obtain ⟨k, rfl⟩ : ∃ k, m = k + 1 := ⟨m - 1, by omega⟩
    exact .tup fun x hx => ih x hx (by omega)
theorem units_in1' (A : Around) : A.in1.units ≤ A.units + 1 := by first | exact Nat.le_succ _ | exact Nat.le_refl _
theorem Reps.at3 {H : Hp} : ∀ {vs : List V} {ts : List T} {i : Nat} {v : V}, Reps H vs ts → vs[i]? = some v → ∃ t, ts[i]? = some t ∧ Rep H v t
  | _, _, _, _, .nil, h => by simp at h
  | _, _, 0, _, .cons r _, h => by
    simp only [List.getElem?_cons_zero, Option.some.injEq] at h
    subst h
    exact ⟨_, rfl, r⟩
  | _, _, i + 1, v, .cons _ q, h => by
    obtain ⟨t, h1, h2⟩ := q.at3 (i := i) (by simpa using h)
    exact ⟨t, by simpa using h1, h2⟩
theorem eq_same {P : Program} {w : World} {H : Hp} {s : Shared} (ok : HOk P w H s.heap) : ∀ (n : Nat) {t : T}, DpT n t → ∀ {A : Around} {x y : V} {u v : Value}, Rep H x t → Rep H y t → RelV x u → RelV y v → A.units + n < cLine → SeqAt.EqAt A s u v true := by
  intro n t k
  induction k with
  | @int n i =>
    intro A x y u v rx ry ru rv _
    cases rx
    cases ry
    obtain ⟨t1, rfl⟩ := ru
    obtain ⟨t2, rfl⟩ := rv
    have := SeqAt.EqAt.int_int (A := A) (s := s) i t1 i t2
    rw [beq_self_eq_true] at this
    exact this
  | @str n z =>
    intro A x y u v rx ry ru rv _
    cases rx
    cases ry
    obtain ⟨t1, rfl⟩ := ru
    obtain ⟨t2, rfl⟩ := rv
    have := SeqAt.EqAt.str_str (A := A) (s := s) z t1 z t2
    rw [beq_self_eq_true] at this
    exact this
  | @tup n l hk ih =>
    intro A x y u v rx ry ru rv hu
    cases rx with
    | @tup a xs _ ha ra =>
      cases ry with
      | @tup b ys _ hb rb =>
        cases ru
        cases rv
        by_cases e : a = b
        · subst e
          exact SeqAt.EqAt.same _
        · obtain ⟨z1, its1, v1, p1⟩ := ok a _ ha
          obtain ⟨z2, its2, v2, p2⟩ := ok b _ hb
          have l1 := ra.length
          have l2 := rb.length
          have l3 := v1.length
          have l4 := v2.length
          have hu1 := units_in1' A
          refine SeqAt.EqAt.of_refs e ?_
          have q := SeqAt.RcAt.tuples (A := A) (s := s) (e := fun _ => true) (show s.heap.IsTuple a its1.toArray from p1) (show s.heap.IsTuple b its2.toArray from p2) (by omega) fun j h1 h2 => ?_
          · have hs : its1.toArray.size = its2.toArray.size := by simp; omega
            rw [hs, beq_self_eq_true, Bool.and_true] at q
            have ha' : (List.range (min its2.toArray.size its2.toArray.size)).all (fun _ => true) = true := by simp
            rw [ha'] at q
            exact q
          · have h1' : j < its1.length := by simpa using h1
            have h2' : j < its2.length := by simpa using h2
            obtain ⟨x', hx'⟩ : ∃ x', xs[j]? = some x' := ⟨xs[j]'(by omega), List.getElem?_eq_getElem _⟩
            obtain ⟨y', hy'⟩ : ∃ y', ys[j]? = some y' := ⟨ys[j]'(by omega), List.getElem?_eq_getElem _⟩
            obtain ⟨t1, ht1, rx'⟩ := ra.at3 hx'
            obtain ⟨t2, ht2, ry'⟩ := rb.at3 hy'
            rw [ht1] at ht2
            cases ht2
            obtain ⟨u1, hu1', ru1⟩ := v1.get hx'
            obtain ⟨u2, hu2', ru2⟩ := v2.get hy'
            have e1 : its1.toArray[j] = u1 := by simpa using (List.getElem?_eq_some_iff.mp hu1').2
            have e2 : its2.toArray[j] = u2 := by simpa using (List.getElem?_eq_some_iff.mp hu2').2
            rw [e1, e2]
            exact ih t1 (List.mem_of_getElem? ht1) (A := A.in1) rx' ry' ru1 ru2 (by omega)
/-- x != y, x == y: one tuple of things and the same -/
theorem op_neS {X : Cx} (hu : X.A.units + 64 < cLine) : OpR X (compareOp .NotEq) (fun x y H Q => ∃ l n, n ≤ 60 ∧ Rep H x (.tup l) ∧ Rep H y (.tup l) ∧ DpT n (.tup l) ∧ Q (.bl false) H) := by
  intro pins s σ H x y v u Q I rx ry h
  obtain ⟨l, n, hn, r1, r2, k, q⟩ := h
  cases k with
  | @tup n _ hk =>
    cases r1 with
    | @tup a xs _ ha ra =>
      cases r2 with
      | @tup b ys _ hb rb =>
        cases rx
        cases ry
        obtain ⟨z1, its1, v1, p1⟩ := I.hok a _ ha
        obtain ⟨z2, its2, v2, p2⟩ := I.hok b _ hb
        have l1 := ra.length
        have l2 := rb.length
        have l3 := v1.length
        have l4 := v2.length
        have hu1 := units_in1' X.A
        have qq := SeqAt.RcNeAt.tuples (A := X.A) (s := s) (e := fun _ => true) (show s.heap.IsTuple a its1.toArray from p1) (show s.heap.IsTuple b its2.toArray from p2) (by omega) fun j h1 h2 => ?_
        · have hs : its1.toArray.size = its2.toArray.size := by simp; omega
          rw [hs, beq_self_eq_true, Bool.and_true] at qq
          have ha' : (List.range (min its2.toArray.size its2.toArray.size)).all (fun _ => true) = true := by simp
          rw [ha'] at qq
          exact qq X.prog X.w _ _ ⟨.bl false, H, I, rfl, q⟩
        · have h1' : j < its1.length := by simpa using h1
          have h2' : j < its2.length := by simpa using h2
          obtain ⟨x', hx'⟩ : ∃ x', xs[j]? = some x' := ⟨xs[j]'(by omega), List.getElem?_eq_getElem _⟩
          obtain ⟨y', hy'⟩ : ∃ y', ys[j]? = some y' := ⟨ys[j]'(by omega), List.getElem?_eq_getElem _⟩
          obtain ⟨t1, ht1, rx'⟩ := ra.at3 hx'
          obtain ⟨t2, ht2, ry'⟩ := rb.at3 hy'
          rw [ht1] at ht2
          cases ht2
          obtain ⟨u1, hu1', ru1⟩ := v1.get hx'
          obtain ⟨u2, hu2', ru2⟩ := v2.get hy'
          have e1 : its1.toArray[j] = u1 := by simpa using (List.getElem?_eq_some_iff.mp hu1').2
          have e2 : its2.toArray[j] = u2 := by simpa using (List.getElem?_eq_some_iff.mp hu2').2
          rw [e1, e2]
          exact eq_same I.hok n (hk t1 (List.mem_of_getElem? ht1)) rx' ry' ru1 ru2 (by omega)
theorem op_eqS {X : Cx} (hu : X.A.units + 64 < cLine) : OpR X (compareOp .Eq) (fun x y H Q => ∃ l n, n ≤ 60 ∧ Rep H x (.tup l) ∧ Rep H y (.tup l) ∧ DpT n (.tup l) ∧ Q (.bl true) H) := by
  intro pins s σ H x y v u Q I rx ry h
  obtain ⟨l, n, hn, r1, r2, k, q⟩ := h
  cases k with
  | @tup n _ hk =>
    cases r1 with
    | @tup a xs _ ha ra =>
      cases r2 with
      | @tup b ys _ hb rb =>
        cases rx
        cases ry
        obtain ⟨z1, its1, v1, p1⟩ := I.hok a _ ha
        obtain ⟨z2, its2, v2, p2⟩ := I.hok b _ hb
        have l1 := ra.length
        have l2 := rb.length
        have l3 := v1.length
        have l4 := v2.length
        have hu1 := units_in1' X.A
        have qq := SeqAt.RcAt.tuples (A := X.A) (s := s) (e := fun _ => true) (show s.heap.IsTuple a its1.toArray from p1) (show s.heap.IsTuple b its2.toArray from p2) (by omega) fun j h1 h2 => ?_
        · have hs : its1.toArray.size = its2.toArray.size := by simp; omega
          rw [hs, beq_self_eq_true, Bool.and_true] at qq
          have ha' : (List.range (min its2.toArray.size its2.toArray.size)).all (fun _ => true) = true := by simp
          rw [ha'] at qq
          exact qq X.prog X.w _ _ ⟨.bl true, H, I, rfl, q⟩
        · have h1' : j < its1.length := by simpa using h1
          have h2' : j < its2.length := by simpa using h2
          obtain ⟨x', hx'⟩ : ∃ x', xs[j]? = some x' := ⟨xs[j]'(by omega), List.getElem?_eq_getElem _⟩
          obtain ⟨y', hy'⟩ : ∃ y', ys[j]? = some y' := ⟨ys[j]'(by omega), List.getElem?_eq_getElem _⟩
          obtain ⟨t1, ht1, rx'⟩ := ra.at3 hx'
          obtain ⟨t2, ht2, ry'⟩ := rb.at3 hy'
          rw [ht1] at ht2
          cases ht2
          obtain ⟨u1, hu1', ru1⟩ := v1.get hx'
          obtain ⟨u2, hu2', ru2⟩ := v2.get hy'
          have e1 : its1.toArray[j] = u1 := by simpa using (List.getElem?_eq_some_iff.mp hu1').2
          have e2 : its2.toArray[j] = u2 := by simpa using (List.getElem?_eq_some_iff.mp hu2').2
          rw [e1, e2]
          exact eq_same I.hok n (hk t1 (List.mem_of_getElem? ht1)) rx' ry' ru1 ru2 (by omega)
end Fw

set_option Elab.async false
set_option linter.all false
set_option maxRecDepth 100000
namespace L2
open PySem PySem.Spec PyProof.Rows
theorem sl_or {X : Cx} {r1 r2 : V → Option Int → Option Int → Hp → VK → Prop} (h1 : SlR X r1) (h2 : SlR X r2) : SlR X (fun x l u H Q => r1 x l u H Q ∨ r2 x l u H Q) := by
  intro pins s σ H x v vl vu lo hi sl Q I rx hs pl pu h
  rcases h with h | h
  · exact h1 pins s σ H x v vl vu lo hi sl Q I rx hs pl pu h
  · exact h2 pins s σ H x v vl vu lo hi sl Q I rx hs pl pu h
end L2
namespace Fw
open PySem PySem.Spec PyProof.Rows L2
theorem cutq (vs : List V) (n : Nat) : cutV vs (some (n : Int)) none = vs.drop n := by
  unfold cutV
  rw [HT.sIx_none, HT.sIx_nat]
  by_cases h : n ≤ vs.length
  · rw [Nat.min_eq_left h, List.take_of_length_le (by rw [List.length_drop]; omega)]
  · rw [Nat.min_eq_right (by omega), List.drop_eq_nil_of_le (Nat.le_refl _), List.drop_eq_nil_of_le (by omega)]
    simp
theorem cutq_not {vs : List V} {n : Nat} (h : vs ≠ []) (hn : 1 ≤ n) : ¬ (HT.sIx vs.length 0 (some (n : Int)) = 0 ∧ HT.sIx vs.length vs.length none = vs.length) := by
  rw [HT.sIx_nat]
  have : 0 < vs.length := List.length_pos_iff.mpr h
  rintro ⟨e, _⟩
  rcases Nat.le_total n vs.length with z | z
  · rw [Nat.min_eq_left z] at e; omega
  · rw [Nat.min_eq_right z] at e; omega
def arrT : List T → T → T
  | [], t => t
  | k :: r, t => .tup [.str "->", k, arrT r t]
def formT (z : Str) : List T → T
  | [] => .str z
  | v :: r => .tup (.str z :: v :: r)
theorem DpT.arr {n : Nat} {t : T} (ht : DpT n t) : ∀ {ks : List T}, (∀ k ∈ ks, DpT n k) → DpT (n + ks.length) (arrT ks t)
  | [], _ => ht
  | k :: r, h => by
    have ih := DpT.arr ht (ks := r) fun x hx => h x (List.mem_cons_of_mem _ hx)
    show DpT (n + (r.length + 1)) (.tup [.str "->", k, arrT r t])
    refine .tup (n := n + r.length) fun x hx => ?_
    rcases List.mem_cons.mp hx with rfl | hx
    · exact .str
    · rcases List.mem_cons.mp hx with rfl | hx
      · exact (h x List.mem_cons_self).up (by omega)
      · rw [List.mem_singleton.mp hx]; exact ih
theorem DpT.form {z : Str} {vs : List Str} : DpT 1 (formT z (vs.map T.str)) := by
  cases vs with
  | nil => exact .str
  | cons v r =>
    refine .tup fun x hx => ?_
    rcases List.mem_cons.mp hx with rfl | hx
    · exact .str
    · obtain ⟨y, _, rfl⟩ := List.mem_map.mp (show x ∈ (v :: r).map T.str from hx)
      exact .str
theorem arr_drop {ks : List T} {t k : T} {i : Nat} (h : ks[i]? = some k) : arrT (ks.drop i) t = .tup [.str "->", k, arrT (ks.drop (i + 1)) t] := by
  have hl := List.getElem?_eq_some_iff.mp h
  rw [List.drop_eq_getElem_cons hl.1, hl.2]
  rfl
def Sq (H : Hp) (a : Addr) (xs : List V) : Prop := H a = some (.lst xs) ∨ H a = some (.tup xs)
theorem Sq.same {H H' : Hp} {a : Addr} {xs : List V} (h : Sq H a xs) (e : Same H H') : Sq H' a xs := h.elim (fun h => .inl (e _ _ h)) fun h => .inr (e _ _ h)
def spFormed : Sp := fun vs H Q _ => ∃ (z : Str) (a : Addr) (xs : List V) (ts : List T), vs = [.str z, .ref a] ∧ z.length ≤ 100000 ∧ H a = some (.tup xs) ∧ Reps H xs ts ∧ xs.length ≤ 1000 ∧ ∀ v H', Same H H' → Rep H' v (formT z ts) → Q v H'
def spEach : Sp := fun vs H Q _ => ∃ (a : Addr) (xs : List V) (ks : List T) (vk : V) (t : T), vs = [.ref a, vk] ∧ Sq H a xs ∧ Reps H xs ks ∧ Rep H vk t ∧ ∀ v H', Same H H' → Rep H' v (arrT ks t) → Q v H'
def spArrow (n : Nat) : Sp := fun vs H Q _ => ∃ (a : Addr) (xs : List V) (ks : List T) (vk : V) (t : T), vs = [.ref a, vk] ∧ Sq H a xs ∧ Reps H xs ks ∧ ks.length ≤ n ∧ Rep H vk t ∧ ∀ v H', Same H H' → Rep H' v (arrT ks t) → Q v H'
def spArrowN : Nat → Sp
  | 0 => fun _ _ _ _ => False
  | n + 1 => spArrow n
theorem arrow_len : ("->" : Str).length ≤ 1000 := by decide +kernel
section
variable {P : Program} {w : World} {K : PySem.W.Frag} {mg : Str → Option Value} {base : Heap} {f : Addr} {fd : FuncData}
abbrev s_formed : Stmt := top 1
abbrev s_each : Stmt := top 4
abbrev s_arrow : Stmt := top 15
theorem sc_formed : FnScope ["head", "inner"] ["head", "inner"] (defScope s_formed) := ⟨rfl, rfl, rfl, by decide +kernel, rfl, by decide +kernel, by decide +kernel⟩
theorem ok_formed (F : Fun K "formed" "formed" s_formed f fd) (ml : mg "len" = none) (mt : mg "tuple" = none) : FnOk P w K mg base CX0 1 f fd ["head", "inner"] spFormed := by
  refine F.ok sc_formed (fun vs H Q E h => ?_) (fun cdv A outer s H vs Q E hr h => ?_)
  · obtain ⟨z, a, xs, ts, rfl, _⟩ := h
    rfl
  obtain ⟨z, a, xs, ts, rfl, hz, ha, ra, hl, q⟩ := h
  refine ⟨_, pss_one (ps_ret (pe_ifExp (pt_cmpR op_gt (pe_callB call_len_seq rfl ml PySem.boot_len (pa_cons (pv 1) pa_nil)) pe_int (nomark _))
    (pe_op op_catT (pe_tup (pa_cons (pv 0) pa_nil)) (pe_callTy call_tuple_of rfl mt boot_tuple (pa_cons (pv 1) pa_nil))) (pv 0))), ?_⟩
  refine ⟨_, rfl, a, xs, rfl, .inr (SqT.of ha), _, _, rfl, rfl, _, rfl, ite2 (fun c => ?_) (fun c => ?_)⟩
  · have c1 : (0 : Int) < xs.length := of_decide_eq_true c
    refine ⟨_, rfl, small (by show 1 ≤ 1000000; decide), fun p hp => ?_⟩
    have e1 := same_new hp (.tup [V.str z])
    refine ⟨_, rfl, a, xs, rfl, .inr ⟨SqT.of (e1 _ _ ha), ?_⟩⟩
    refine ⟨p, a, _, xs, rfl, rfl, SqT.of upd_same, SqT.of (e1 _ _ ha), by simp, small (by simp; omega), (fun e => by rw [e] at c1; simp at c1), fun _ p2 hp2 => ?_⟩
    have e2 := same_new hp2 (.tup ([V.str z] ++ xs))
    cases ra with
    | nil => simp at c1
    | @cons v0 t0 vr tr r0 rr => exact q _ _ (e1.trans e2) (.tup upd_same (.cons (.str z (by omega)) (.cons (r0.same (e1.trans e2)) (rr.same (e1.trans e2)))))
  · cases ra with
    | nil => exact ⟨_, rfl, q _ H (Same.refl _) (.str z (by omega))⟩
    | cons r0 rr => exact absurd (decide_eq_true (by simp)) c
theorem sc_each : FnScope ["froms", "kind", "one"] ["froms", "kind"] (defScope s_each) := ⟨rfl, rfl, rfl, by decide +kernel, rfl, by decide +kernel, by decide +kernel⟩
theorem ok_each (F : Fun K "from_each" "from_each" s_each f fd) (mr : mg "reversed" = none) {tk : Tok} (mA : mg "ARROW" = some (.str "->" tk)) : FnOk P w K mg base CX0 1 f fd ["froms", "kind"] spEach := by
  refine F.ok sc_each (fun vs H Q E h => ?_) (fun cdv A outer s H vs Q E hr h => ?_)
  · obtain ⟨a, xs, ks, vk, t, rfl, _⟩ := h
    rfl
  obtain ⟨a, xs, ks, vk, t, rfl, ha, ra, rk, q⟩ := h
  refine ⟨_, pss_cons (ps_for PassesOwn.never rfl (pi_rev2 rfl mr (pv 0)) (pg_name (i := 2) sc_each.nd rfl (Or.inl rfl))
      (pss_one (ps_set (i := 1) sc_each.nd rfl (Or.inl rfl) (pe_tup (pa_cons (pe_glob (v := .str "->") rfl mA ⟨_, rfl⟩) (pa_cons (pv 2) (pa_cons (pv 1) pa_nil)))))))
    (pss_one (ps_ret (pv 1))), ?_⟩
  have lk := ra.length
  have step : ∀ (i : Nat) (x v' : V) (H' : Hp), i < xs.length → xs[xs.length - 1 - i]? = some x → Same H H' → Rep H' v' (arrT (ks.drop (xs.length - i)) t) → ∀ p, H' p = none → Same H (upd H' p (.tup [.str "->", x, v'])) ∧ Rep (upd H' p (.tup [.str "->", x, v'])) (.ref p) (arrT (ks.drop (xs.length - (i + 1))) t) := by
    intro i x v' H' hi hx e rv p hp
    obtain ⟨k, hk, rx⟩ := ra.at3 hx
    have e2 := same_new hp (.tup [.str "->", x, v'])
    refine ⟨e.trans e2, ?_⟩
    have en : xs.length - (i + 1) = xs.length - 1 - i := by omega
    rw [en, arr_drop hk]
    have en2 : xs.length - 1 - i + 1 = xs.length - i := by omega
    rw [en2]
    exact .tup upd_same (.cons (.str _ (by have := arrow_len; omega)) (.cons (rx.same (e.trans e2)) (.cons (rv.same e2) .nil)))
  have fin : ∀ (v' : V) (H' : Hp), Same H H' → Rep H' v' (arrT (ks.drop (xs.length - xs.length)) t) → Q v' H' := fun v' H' e r => q v' H' e (by rw [Nat.sub_self, List.drop_zero] at r; exact r)
  have st0 : Rep H vk (arrT (ks.drop (xs.length - 0)) t) := by rw [Nat.sub_zero, lk, List.drop_eq_nil_of_le (Nat.le_refl _)]; exact rk
  rcases ha with ha | ha
  · refine ⟨_, rfl, a, xs, rfl, .inl ⟨SqL.of ha, for_rev (xs := xs) (fun i σ H' => ∃ v' o2, σ = [some (.ref a), some v', o2] ∧ Same H H' ∧ Rep H' v' (arrT (ks.drop (xs.length - i)) t)) ⟨vk, none, rfl, Same.refl _, st0⟩ ?_ ?_ ?_⟩⟩
    · rintro i σ H' hi ⟨v', o2, rfl, e, _⟩
      exact SqL.of (e _ _ ha)
    · rintro i x σ H' hi hx ⟨v', o2, rfl, e, rv⟩
      refine ⟨_, rfl, _, rfl, small (by show 3 ≤ 1000000; decide), fun p hp => ?_⟩
      obtain ⟨e', r'⟩ := step i x v' H' hi hx e rv p hp
      exact ⟨_, _, rfl, e', r'⟩
    · rintro σ H' ⟨v', o2, rfl, e, rv⟩
      exact ⟨_, rfl, fin v' H' e rv⟩
  · refine ⟨_, rfl, a, xs, rfl, .inr ⟨SqT.of ha, for_rvt (xs := xs) (fun i σ H' => ∃ v' o2, σ = [some (.ref a), some v', o2] ∧ Same H H' ∧ Rep H' v' (arrT (ks.drop (xs.length - i)) t)) ⟨vk, none, rfl, Same.refl _, st0⟩ ?_ ?_ ?_⟩⟩
    · rintro i σ H' hi ⟨v', o2, rfl, e, _⟩
      exact SqT.of (e _ _ ha)
    · rintro i x σ H' hi hx ⟨v', o2, rfl, e, rv⟩
      refine ⟨_, rfl, _, rfl, small (by show 3 ≤ 1000000; decide), fun p hp => ?_⟩
      obtain ⟨e', r'⟩ := step i x v' H' hi hx e rv p hp
      exact ⟨_, _, rfl, e', r'⟩
    · rintro σ H' ⟨v', o2, rfl, e, rv⟩
      exact ⟨_, rfl, fin v' H' e rv⟩
theorem sc_arrow : FnScope ["_law_kinds", "_law_last"] ["_law_kinds", "_law_last"] (defScope s_arrow) := ⟨rfl, rfl, rfl, by decide +kernel, rfl, by decide +kernel, by decide +kernel⟩
theorem ok_arrow {n : Nat} (F : Fun K "_law_arrow" "_law_arrow" s_arrow f fd) (ml : mg "len" = none) (h2 : Has P w K mg base n "_law_arrow" ["_law_kinds", "_law_last"] (spArrowN n)) : FnOk P w K mg base CX0 (n + 1) f fd ["_law_kinds", "_law_last"] (spArrow n) := by
  refine F.ok sc_arrow (fun vs H Q E h => ?_) (fun cdv A outer s H vs Q E hr h => ?_)
  · obtain ⟨a, xs, ks, vk, t, rfl, _⟩ := h
    rfl
  obtain ⟨a, xs, ks, vk, t, rfl, ha, ra, hn, rk, q⟩ := h
  refine ⟨_, pss_one (ps_ret (pe_ifExp (pt_cmpR op_eq (pe_callB call_len_seq rfl ml PySem.boot_len (pa_cons (pv 0) pa_nil)) pe_int (nomark _)) (pv 1)
    (pe_tup (pa_cons pe_str (pa_cons (pe_ix ix_seq (pv 0) pe_int (fun _ _ => rfl)) (pa_cons (pcall h2 hr (Nat.le_refl _) rfl (pa_cons (pe_slice (sl_or sl_list sl_tup) (pv 0) (po_some pe_int) po_none) (pa_cons (pv 1) pa_nil))) pa_nil)))))), ?_⟩
  refine ⟨_, rfl, a, xs, rfl, ha.elim (fun h => .inl (SqL.of h)) (fun h => .inr (SqT.of h)), rfl, _, rfl, ?_⟩
  cases ra with
  | nil => exact iteT ⟨_, rfl, q vk H (Same.refl _) rk⟩
  | @cons x0 k0 xr kr r0 rr =>
    rw [decide_eq_false (by intro e; injection e with e; simp at e; omega)]
    refine iteF ?_
    have a0 : atI (x0 :: xr) (0 : Int) = some x0 := atI_nat (j := 0) rfl
    obtain ⟨m, rfl⟩ : ∃ m, n = m + 1 := ⟨n - 1, by simp at hn; omega⟩
    rcases ha with ha | ha
    · refine ⟨_, rfl, .inl ⟨a, _, 0, x0, rfl, rfl, SqL.of ha, a0, ?_⟩⟩
      refine ⟨_, rfl, 1, rfl, .inl ⟨a, _, rfl, SqL.of ha, fun b hb => ?_⟩⟩
      rw [show cutV (x0 :: xr) (some 1) none = xr from cutq (x0 :: xr) 1]
      have e1 := same_new hb (.lst xr)
      refine ⟨_, rfl, b, xr, kr, vk, t, rfl, .inl upd_same, rr.same e1, by simp at hn; omega, rk.same e1, fun v H2 e2 rv => ⟨small (by show 3 ≤ 1000000; decide), fun p hp => ?_⟩⟩
      have e3 := same_new hp (.tup [.str "->", x0, v])
      exact q _ _ ((e1.trans e2).trans e3) (.tup upd_same (.cons (.str _ (by have := arrow_len; omega)) (.cons (r0.same ((e1.trans e2).trans e3)) (.cons (rv.same e3) .nil))))
    · refine ⟨_, rfl, .inr (.inl ⟨a, _, 0, x0, rfl, rfl, SqT.of ha, a0, ?_⟩)⟩
      refine ⟨_, rfl, 1, rfl, .inr ⟨a, _, rfl, SqT.of ha, cutq_not (vs := x0 :: xr) (n := 1) (by simp) (Nat.le_refl _), fun b hb => ?_⟩⟩
      rw [show cutV (x0 :: xr) (some 1) none = xr from cutq (x0 :: xr) 1]
      have e1 := same_new hb (.tup xr)
      refine ⟨_, rfl, b, xr, kr, vk, t, rfl, .inr upd_same, rr.same e1, by simp at hn; omega, rk.same e1, fun v H2 e2 rv => ⟨small (by show 3 ≤ 1000000; decide), fun p hp => ?_⟩⟩
      have e3 := same_new hp (.tup [.str "->", x0, v])
      exact q _ _ ((e1.trans e2).trans e3) (.tup upd_same (.cons (.str _ (by have := arrow_len; omega)) (.cons (r0.same ((e1.trans e2).trans e3)) (.cons (rv.same e3) .nil))))
theorem arrow_all (F : Fun K "_law_arrow" "_law_arrow" s_arrow f fd) (bF : Binds K fd ["_law_kinds", "_law_last"] []) (mF : mg "_law_arrow" = some (.ref f)) (ml : mg "len" = none) :
    ∀ n : Nat, Has P w K mg base n "_law_arrow" ["_law_kinds", "_law_last"] (spArrowN n)
  | 0 => ⟨f, fd, ⟨fun vs H Q E h => h.elim, fun A outer s H args us vs Q E _ _ _ _ h => h.elim⟩, bF, F.kp, mF⟩
  | n + 1 => ⟨f, fd, ok_arrow F ml (arrow_all F bF mF ml n), bF, F.kp, mF⟩
end
end Fw

set_option Elab.async false
set_option linter.all false
set_option maxRecDepth 100000
namespace Fw
open PySem PySem.Spec PyProof.Rows L2
inductive DReps (H : Hp) : List (Key × V) → List (Str × T) → Prop where
  | nil : DReps H [] []
  | cons {z : Str} {v : V} {t : T} {kvs : List (Key × V)} {m : List (Str × T)} (r : Rep H v t) (q : DReps H kvs m) : DReps H ((Sum.inr z, v) :: kvs) ((z, t) :: m)
theorem DReps.mono {H H' : Hp} (e : ∀ b xs, H b = some (.tup xs) → H' b = some (.tup xs)) : ∀ {kvs : List (Key × V)} {m : List (Str × T)}, DReps H kvs m → DReps H' kvs m
  | _, _, .nil => .nil
  | _, _, .cons r q => .cons (r.mono e) (q.mono e)
theorem DReps.get {H : Hp} (z : Str) : ∀ {kvs : List (Key × V)} {m : List (Str × T)}, DReps H kvs m → (valV kvs (Sum.inr z) = none ∧ m.lookup z = none) ∨ ∃ v t, valV kvs (Sum.inr z) = some v ∧ m.lookup z = some t ∧ Rep H v t
  | _, _, .nil => .inl ⟨rfl, rfl⟩
  | _, _, .cons (z := y) (v := v) (t := t) (kvs := kvs) (m := m) r q => by
    by_cases h : y = z
    · subst h
      refine .inr ⟨v, t, by simp [valV], by simp [List.lookup_cons], r⟩
    · have e1 : valV ((Sum.inr y, v) :: kvs) (Sum.inr z) = valV kvs (Sum.inr z) := by
        unfold valV
        rw [List.find?_cons]
        have : decide ((Sum.inr y : Key) = Sum.inr z) = false := decide_eq_false fun e => h (Sum.inr.inj e)
        simp only [this]
      have e2 : ((y, t) :: m).lookup z = m.lookup z := by
        rw [List.lookup_cons]
        have : (z == y) = false := beq_false_of_ne (Ne.symm h)
        rw [this]
      rw [e1, e2]
      exact q.get z
theorem DReps.snoc {H : Hp} {z : Str} {v : V} {t : T} (r : Rep H v t) : ∀ {kvs : List (Key × V)} {m : List (Str × T)}, DReps H kvs m → DReps H (kvs ++ [(Sum.inr z, v)]) (m ++ [(z, t)])
  | _, _, .nil => .cons r .nil
  | _, _, .cons r' q => .cons r' (q.snoc r)
theorem DReps.length {H : Hp} : ∀ {kvs : List (Key × V)} {m : List (Str × T)}, DReps H kvs m → kvs.length = m.length
  | _, _, .nil => rfl
  | _, _, .cons _ q => congrArg (· + 1) q.length
theorem lookup_mem {α : Type} {m : List (Str × α)} {z : Str} {t : α} (h : m.lookup z = some t) : (z, t) ∈ m := mem_of_lookup' h
theorem lookup_nd {α : Type} : ∀ {m : List (Str × α)}, (m.map (·.1)).Nodup → ∀ x ∈ m, m.lookup x.1 = some x.2
  | [], _, _, h => by cases h
  | p :: r, nd, x, h => by
    rw [List.map_cons, List.nodup_cons] at nd
    obtain ⟨a, b⟩ := p
    rw [List.lookup_cons]
    rcases List.mem_cons.mp h with e | h
    · subst e
      rw [beq_self_eq_true]
    · rw [beq_false_of_ne (fun e => nd.1 (List.mem_map.mpr ⟨x, h, e⟩))]
      exact lookup_nd nd.2 x h
theorem DReps.none {H : Hp} {kvs : List (Key × V)} {m : List (Str × T)} {z : Str} (h : DReps H kvs m) (hz : z ∉ m.map (·.1)) : valV kvs (Sum.inr z) = none := by
  rcases h.get z with ⟨h1, _⟩ | ⟨v, t, _, h2, _⟩
  · exact h1
  · exact absurd (List.mem_map.mpr ⟨_, lookup_mem h2, rfl⟩) hz
/-- a dict of lists of names -/
inductive LReps (H : Hp) : List (Key × V) → List (Str × List Str) → Prop where
  | nil : LReps H [] []
  | cons {z : Str} {a : Addr} {t : List Str} {kvs : List (Key × V)} {m : List (Str × List Str)} (r : H a = some (.lst (t.map V.str))) (q : LReps H kvs m) : LReps H ((Sum.inr z, .ref a) :: kvs) ((z, t) :: m)
theorem LReps.mono {H H' : Hp} (e : ∀ b xs, H b = some (.lst xs) → H' b = some (.lst xs)) : ∀ {kvs : List (Key × V)} {m : List (Str × List Str)}, LReps H kvs m → LReps H' kvs m
  | _, _, .nil => .nil
  | _, _, .cons r q => .cons (e _ _ r) (q.mono e)
theorem LReps.get {H : Hp} (z : Str) : ∀ {kvs : List (Key × V)} {m : List (Str × List Str)}, LReps H kvs m → (valV kvs (Sum.inr z) = none ∧ m.lookup z = none) ∨ ∃ a t, valV kvs (Sum.inr z) = some (.ref a) ∧ m.lookup z = some t ∧ H a = some (.lst (t.map V.str))
  | _, _, .nil => .inl ⟨rfl, rfl⟩
  | _, _, .cons (z := y) (a := a) (t := t) (kvs := kvs) (m := m) r q => by
    by_cases h : y = z
    · subst h
      exact .inr ⟨a, t, by simp [valV], by simp [List.lookup_cons], r⟩
    · have e1 : valV ((Sum.inr y, V.ref a) :: kvs) (Sum.inr z) = valV kvs (Sum.inr z) := valV_neg fun e => h (Sum.inr.inj e)
      have e2 : ((y, t) :: m).lookup z = m.lookup z := by
        rw [List.lookup_cons]
        have : (z == y) = false := beq_false_of_ne (Ne.symm h)
        rw [this]
      rw [e1, e2]
      exact q.get z
theorem LReps.snoc {H : Hp} {z : Str} {a : Addr} {t : List Str} (r : H a = some (.lst (t.map V.str))) : ∀ {kvs : List (Key × V)} {m : List (Str × List Str)}, LReps H kvs m → LReps H (kvs ++ [(Sum.inr z, .ref a)]) (m ++ [(z, t)])
  | _, _, .nil => .cons r .nil
  | _, _, .cons r' q => .cons r' (q.snoc r)
theorem LReps.length {H : Hp} : ∀ {kvs : List (Key × V)} {m : List (Str × List Str)}, LReps H kvs m → kvs.length = m.length
  | _, _, .nil => rfl
  | _, _, .cons _ q => congrArg (· + 1) q.length
theorem LReps.none {H : Hp} {kvs : List (Key × V)} {m : List (Str × List Str)} {z : Str} (h : LReps H kvs m) (hz : z ∉ m.map (·.1)) : valV kvs (Sum.inr z) = none := by
  rcases h.get z with ⟨h1, _⟩ | ⟨v, t, _, h2, _⟩
  · exact h1
  · exact absurd (List.mem_map.mpr ⟨_, lookup_mem h2, rfl⟩) hz
/-! ### declarations -/
inductive Dc where
  | other (h : Str) (r : List T)
  | kind (n : Str) (vs : List Str) (rows : List (Str × List T))
  | record (n : Str) (vs : List Str) (fs : List (Str × T))
def Dc.t : Dc → T
  | .other h r => .tup (.str h :: r)
  | .kind n vs rows => .tup (.str "kind" :: .str n :: .tup (vs.map T.str) :: rows.map fun r => .tup (.str r.1 :: r.2))
  | .record n vs fs => .tup (.str "record" :: .str n :: .tup (vs.map T.str) :: fs.map fun f => .tup [.str f.1, f.2])
def ownT (n : Str) (vs : List Str) : T := formT n (vs.map T.str)
def schT (vs : List Str) (t : T) : T := .tup [.tup (vs.map T.str), t]
def tagM : Dc → List (Str × T)
  | .kind n vs rows => rows.map fun r => (r.1, schT vs (arrT r.2 (ownT n vs)))
  | _ => []
def kofM : Dc → List (Str × T)
  | .kind n _ rows => rows.map fun r => (r.1, .str n)
  | _ => []
def tofM : Dc → List (Str × List Str)
  | .kind n _ rows => [(n, rows.map (·.1))]
  | _ => []
def recM : Dc → List (Str × T)
  | .record n vs fs => [(n, schT vs (arrT (fs.map (·.2)) (ownT n vs)))]
  | _ => []
def fldM : Dc → List (Str × T)
  | .record n vs fs => fs.map fun f => (f.1, schT vs (.tup [.str "->", ownT n vs, f.2]))
  | _ => []
/-! ### the object -/
def fl (d1 d2 d3 d4 d5 : Addr) : List (Str × V) := [("tag_schemes", .ref d1), ("kinds_of_tags", .ref d2), ("tags_of_kinds", .ref d3), ("record_schemes", .ref d4), ("field_schemes", .ref d5)]
structure SO (C : Addr) (H : Hp) (p dx d1 d2 d3 d4 d5 : Addr) (m1 m2 : List (Str × T)) (m3 : List (Str × List Str)) (m4 m5 : List (Str × T)) : Prop where
  ob : H p = some (.ins C dx (fl d1 d2 d3 d4 d5))
  nd : [d1, d2, d3, d4, d5].Nodup
  e1 : ∃ k, H d1 = some (.dK k) ∧ DReps H k m1
  e2 : ∃ k, H d2 = some (.dK k) ∧ DReps H k m2
  e3 : ∃ k, H d3 = some (.dK k) ∧ LReps H k m3
  e4 : ∃ k, H d4 = some (.dK k) ∧ DReps H k m4
  e5 : ∃ k, H d5 = some (.dK k) ∧ DReps H k m5
section
variable {C p dx d1 d2 d3 d4 d5 : Addr} {H H' : Hp} {m1 m2 m4 m5 : List (Str × T)} {m3 : List (Str × List Str)}
theorem SO.same (h : SO C H p dx d1 d2 d3 d4 d5 m1 m2 m3 m4 m5) (e : Same H H') : SO C H' p dx d1 d2 d3 d4 d5 m1 m2 m3 m4 m5 := by
  obtain ⟨ob, nd, ⟨k1, a1, b1⟩, ⟨k2, a2, b2⟩, ⟨k3, a3, b3⟩, ⟨k4, a4, b4⟩, k5, a5, b5⟩ := h
  exact ⟨e _ _ ob, nd, ⟨k1, e _ _ a1, b1.mono (Same.tups e)⟩, ⟨k2, e _ _ a2, b2.mono (Same.tups e)⟩, ⟨k3, e _ _ a3, b3.mono fun b xs q => e b _ q⟩, ⟨k4, e _ _ a4, b4.mono (Same.tups e)⟩, k5, e _ _ a5, b5.mono (Same.tups e)⟩
theorem up_tup {d b : Addr} {k k' : List (Key × V)} {xs : List V} (h : H d = some (.dK k)) (q : H b = some (.tup xs)) : (upd H d (.dK k')) b = some (.tup xs) := by
  rw [upd_ne (ne_of q h (by intro z; cases z))]; exact q
theorem up_lst {d b : Addr} {k k' : List (Key × V)} {xs : List V} (h : H d = some (.dK k)) (q : H b = some (.lst xs)) : (upd H d (.dK k')) b = some (.lst xs) := by
  rw [upd_ne (ne_of q h (by intro z; cases z))]; exact q
theorem SO.put1 (h : SO C H p dx d1 d2 d3 d4 d5 m1 m2 m3 m4 m5) {z : Str} {v : V} {t : T} (rv : Rep H v t) {k : List (Key × V)} (a1 : H d1 = some (.dK k)) (b1 : DReps H k m1) :
    SO C (upd H d1 (.dK (k ++ [(Sum.inr z, v)]))) p dx d1 d2 d3 d4 d5 (m1 ++ [(z, t)]) m2 m3 m4 m5 := by
  have nd := h.nd
  simp only [List.nodup_cons, List.mem_cons, List.not_mem_nil, or_false, not_or, List.nodup_nil, and_true, not_false_eq_true] at nd
  obtain ⟨⟨n12, n13, n14, n15⟩, ⟨n23, n24, n25⟩, ⟨n34, n35⟩, n45⟩ := nd
  obtain ⟨k2, a2, b2⟩ := h.e2
  obtain ⟨k3, a3, b3⟩ := h.e3
  obtain ⟨k4, a4, b4⟩ := h.e4
  obtain ⟨k5, a5, b5⟩ := h.e5
  exact ⟨by rw [upd_ne (ne_of h.ob a1 (by intro z; cases z))]; exact h.ob, h.nd, ⟨_, upd_same, (b1.mono fun b xs q => up_tup a1 q).snoc (rv.mono fun b xs q => up_tup a1 q)⟩, ⟨k2, by rw [upd_ne (Ne.symm n12)]; exact a2, b2.mono fun b xs q => up_tup a1 q⟩, ⟨k3, by rw [upd_ne (Ne.symm n13)]; exact a3, b3.mono fun b xs q => up_lst a1 q⟩, ⟨k4, by rw [upd_ne (Ne.symm n14)]; exact a4, b4.mono fun b xs q => up_tup a1 q⟩, ⟨k5, by rw [upd_ne (Ne.symm n15)]; exact a5, b5.mono fun b xs q => up_tup a1 q⟩⟩
theorem SO.put2 (h : SO C H p dx d1 d2 d3 d4 d5 m1 m2 m3 m4 m5) {z : Str} {v : V} {t : T} (rv : Rep H v t) {k : List (Key × V)} (a2 : H d2 = some (.dK k)) (b2 : DReps H k m2) :
    SO C (upd H d2 (.dK (k ++ [(Sum.inr z, v)]))) p dx d1 d2 d3 d4 d5 m1 (m2 ++ [(z, t)]) m3 m4 m5 := by
  have nd := h.nd
  simp only [List.nodup_cons, List.mem_cons, List.not_mem_nil, or_false, not_or, List.nodup_nil, and_true, not_false_eq_true] at nd
  obtain ⟨⟨n12, n13, n14, n15⟩, ⟨n23, n24, n25⟩, ⟨n34, n35⟩, n45⟩ := nd
  obtain ⟨k1, a1, b1⟩ := h.e1
  obtain ⟨k3, a3, b3⟩ := h.e3
  obtain ⟨k4, a4, b4⟩ := h.e4
  obtain ⟨k5, a5, b5⟩ := h.e5
  exact ⟨by rw [upd_ne (ne_of h.ob a2 (by intro z; cases z))]; exact h.ob, h.nd, ⟨k1, by rw [upd_ne n12]; exact a1, b1.mono fun b xs q => up_tup a2 q⟩, ⟨_, upd_same, (b2.mono fun b xs q => up_tup a2 q).snoc (rv.mono fun b xs q => up_tup a2 q)⟩, ⟨k3, by rw [upd_ne (Ne.symm n23)]; exact a3, b3.mono fun b xs q => up_lst a2 q⟩, ⟨k4, by rw [upd_ne (Ne.symm n24)]; exact a4, b4.mono fun b xs q => up_tup a2 q⟩, ⟨k5, by rw [upd_ne (Ne.symm n25)]; exact a5, b5.mono fun b xs q => up_tup a2 q⟩⟩
theorem SO.put3 (h : SO C H p dx d1 d2 d3 d4 d5 m1 m2 m3 m4 m5) {z : Str} {a : Addr} {t : List Str} (rv : H a = some (.lst (t.map V.str))) {k : List (Key × V)} (a3 : H d3 = some (.dK k)) (b3 : LReps H k m3) :
    SO C (upd H d3 (.dK (k ++ [(Sum.inr z, V.ref a)]))) p dx d1 d2 d3 d4 d5 m1 m2 (m3 ++ [(z, t)]) m4 m5 := by
  have nd := h.nd
  simp only [List.nodup_cons, List.mem_cons, List.not_mem_nil, or_false, not_or, List.nodup_nil, and_true, not_false_eq_true] at nd
  obtain ⟨⟨n12, n13, n14, n15⟩, ⟨n23, n24, n25⟩, ⟨n34, n35⟩, n45⟩ := nd
  obtain ⟨k1, a1, b1⟩ := h.e1
  obtain ⟨k2, a2, b2⟩ := h.e2
  obtain ⟨k4, a4, b4⟩ := h.e4
  obtain ⟨k5, a5, b5⟩ := h.e5
  exact ⟨by rw [upd_ne (ne_of h.ob a3 (by intro z; cases z))]; exact h.ob, h.nd, ⟨k1, by rw [upd_ne n13]; exact a1, b1.mono fun b xs q => up_tup a3 q⟩, ⟨k2, by rw [upd_ne n23]; exact a2, b2.mono fun b xs q => up_tup a3 q⟩, ⟨_, upd_same, (b3.mono fun b xs q => up_lst a3 q).snoc (up_lst a3 rv)⟩, ⟨k4, by rw [upd_ne (Ne.symm n34)]; exact a4, b4.mono fun b xs q => up_tup a3 q⟩, ⟨k5, by rw [upd_ne (Ne.symm n35)]; exact a5, b5.mono fun b xs q => up_tup a3 q⟩⟩
theorem SO.put4 (h : SO C H p dx d1 d2 d3 d4 d5 m1 m2 m3 m4 m5) {z : Str} {v : V} {t : T} (rv : Rep H v t) {k : List (Key × V)} (a4 : H d4 = some (.dK k)) (b4 : DReps H k m4) :
    SO C (upd H d4 (.dK (k ++ [(Sum.inr z, v)]))) p dx d1 d2 d3 d4 d5 m1 m2 m3 (m4 ++ [(z, t)]) m5 := by
  have nd := h.nd
  simp only [List.nodup_cons, List.mem_cons, List.not_mem_nil, or_false, not_or, List.nodup_nil, and_true, not_false_eq_true] at nd
  obtain ⟨⟨n12, n13, n14, n15⟩, ⟨n23, n24, n25⟩, ⟨n34, n35⟩, n45⟩ := nd
  obtain ⟨k1, a1, b1⟩ := h.e1
  obtain ⟨k2, a2, b2⟩ := h.e2
  obtain ⟨k3, a3, b3⟩ := h.e3
  obtain ⟨k5, a5, b5⟩ := h.e5
  exact ⟨by rw [upd_ne (ne_of h.ob a4 (by intro z; cases z))]; exact h.ob, h.nd, ⟨k1, by rw [upd_ne n14]; exact a1, b1.mono fun b xs q => up_tup a4 q⟩, ⟨k2, by rw [upd_ne n24]; exact a2, b2.mono fun b xs q => up_tup a4 q⟩, ⟨k3, by rw [upd_ne n34]; exact a3, b3.mono fun b xs q => up_lst a4 q⟩, ⟨_, upd_same, (b4.mono fun b xs q => up_tup a4 q).snoc (rv.mono fun b xs q => up_tup a4 q)⟩, ⟨k5, by rw [upd_ne (Ne.symm n45)]; exact a5, b5.mono fun b xs q => up_tup a4 q⟩⟩
theorem SO.put5 (h : SO C H p dx d1 d2 d3 d4 d5 m1 m2 m3 m4 m5) {z : Str} {v : V} {t : T} (rv : Rep H v t) {k : List (Key × V)} (a5 : H d5 = some (.dK k)) (b5 : DReps H k m5) :
    SO C (upd H d5 (.dK (k ++ [(Sum.inr z, v)]))) p dx d1 d2 d3 d4 d5 m1 m2 m3 m4 (m5 ++ [(z, t)]) := by
  have nd := h.nd
  simp only [List.nodup_cons, List.mem_cons, List.not_mem_nil, or_false, not_or, List.nodup_nil, and_true, not_false_eq_true] at nd
  obtain ⟨⟨n12, n13, n14, n15⟩, ⟨n23, n24, n25⟩, ⟨n34, n35⟩, n45⟩ := nd
  obtain ⟨k1, a1, b1⟩ := h.e1
  obtain ⟨k2, a2, b2⟩ := h.e2
  obtain ⟨k3, a3, b3⟩ := h.e3
  obtain ⟨k4, a4, b4⟩ := h.e4
  exact ⟨by rw [upd_ne (ne_of h.ob a5 (by intro z; cases z))]; exact h.ob, h.nd, ⟨k1, by rw [upd_ne n15]; exact a1, b1.mono fun b xs q => up_tup a5 q⟩, ⟨k2, by rw [upd_ne n25]; exact a2, b2.mono fun b xs q => up_tup a5 q⟩, ⟨k3, by rw [upd_ne n35]; exact a3, b3.mono fun b xs q => up_lst a5 q⟩, ⟨k4, by rw [upd_ne n45]; exact a4, b4.mono fun b xs q => up_tup a5 q⟩, ⟨_, upd_same, (b5.mono fun b xs q => up_tup a5 q).snoc (rv.mono fun b xs q => up_tup a5 q)⟩⟩
end
end Fw

set_option Elab.async false
set_option linter.all false
set_option maxRecDepth 100000
namespace Fw
open PySem PySem.Spec PyProof.Rows L2
section
variable {K : PySem.W.Frag} {H : Hp}
theorem Reps.drop {H : Hp} : ∀ {vs : List V} {ts : List T} (n : Nat), Reps H vs ts → Reps H (vs.drop n) (ts.drop n)
  | _, _, 0, r => r
  | _, _, _ + 1, .nil => .nil
  | _, _, n + 1, .cons _ q => Reps.drop n q
theorem comp_tup {a : Addr} {xs : List V} {tt : TT} {te : TE} {σ' : L2.St} {Q : VK} (Pv : Nat → List V → Hp → Prop) (h0 : Pv 0 [] H) (hl : ∀ i vs H, i ≤ xs.length → Pv i vs H → SqT K H a xs ∧ vs.length < sizeLine)
    (hs : ∀ i x vs H2, i < xs.length → xs[i]? = some x → Pv i vs H2 → tt (some x :: σ') H2 fun b H4 => if b = true then te (some x :: σ') H4 fun v H5 => Nx xs.length i (Pv (i + 1) (vs ++ [v]) H5) else Nx xs.length i (Pv (i + 1) vs H4))
    (hd : ∀ vs H2, Pv xs.length vs H2 → ∀ l, H2 l = none → Q (.ref l) (upd H2 l (.lst vs))) : CompW (Itt K a) tt te σ' Q H := by
  refine ⟨fun i m vs H => m = xs.length - i ∧ i ≤ xs.length ∧ Pv i vs H, ⟨xs.length, by simp, Nat.zero_le _, h0⟩, ?_⟩
  rintro i m vs H2 ⟨rfl, hi, p⟩
  obtain ⟨q1, q2⟩ := hl i vs H2 hi p
  refine ⟨q2, ?_⟩
  by_cases hlt : i < xs.length
  · refine .inr ⟨⟨xs, xs[i], q1, by simp [hlt]⟩, ?_⟩
    rintro x H3 ⟨e, y⟩
    subst e
    exact hs i x vs _ hlt (y xs q1) p
  · have e : i = xs.length := by omega
    subst e
    exact .inl ⟨⟨xs, q1, Nat.le_refl _⟩, hd vs H2 p⟩
end
theorem comp_lst {K : PySem.W.Frag} {H : Hp} {a : Addr} {xs : List V} {tt : TT} {te : TE} {σ' : L2.St} {Q : VK} (Pv : Nat → List V → Hp → Prop) (h0 : Pv 0 [] H) (hl : ∀ i vs H, i ≤ xs.length → Pv i vs H → SqL K H a xs ∧ vs.length < sizeLine)
    (hs : ∀ i x vs H2, i < xs.length → xs[i]? = some x → Pv i vs H2 → tt (some x :: σ') H2 fun b H4 => if b = true then te (some x :: σ') H4 fun v H5 => Nx xs.length i (Pv (i + 1) (vs ++ [v]) H5) else Nx xs.length i (Pv (i + 1) vs H4))
    (hd : ∀ vs H2, Pv xs.length vs H2 → ∀ l, H2 l = none → Q (.ref l) (upd H2 l (.lst vs))) : CompW (Itl K a) tt te σ' Q H := by
  refine ⟨fun i m vs H => m = xs.length - i ∧ i ≤ xs.length ∧ Pv i vs H, ⟨xs.length, by simp, Nat.zero_le _, h0⟩, ?_⟩
  rintro i m vs H2 ⟨rfl, hi, p⟩
  obtain ⟨q1, q2⟩ := hl i vs H2 hi p
  refine ⟨q2, ?_⟩
  by_cases hlt : i < xs.length
  · refine .inr ⟨⟨xs, xs[i], q1, by simp [hlt]⟩, ?_⟩
    rintro x H3 ⟨e, y⟩
    subst e
    exact hs i x vs _ hlt (y xs q1) p
  · have e : i = xs.length := by omega
    subst e
    exact .inl ⟨⟨xs, q1, Nat.le_refl _⟩, hd vs H2 p⟩
abbrev sm (j : Nat) : Stmt := inClass (top 6) j
structure TxS (K : PySem.W.Frag) (mg : Str → Option Value) (C : Addr) : Prop where
  cl : Cls K C
  n1 : NoAttr K C "tag_schemes"
  n2 : NoAttr K C "kinds_of_tags"
  n3 : NoAttr K C "tags_of_kinds"
  n4 : NoAttr K C "record_schemes"
  n5 : NoAttr K C "field_schemes"
  mgC : mg "Sorts" = some (.ref C)
section
variable (d1 d2 d3 d4 d5 : Addr)
theorem fl1 : (fl d1 d2 d3 d4 d5).lookup ("tag_schemes" : Str) = some (V.ref d1) := by first | rfl | (with_unfolding_all rfl) | kernel_rfl
theorem fl2 : (fl d1 d2 d3 d4 d5).lookup ("kinds_of_tags" : Str) = some (V.ref d2) := by first | rfl | (with_unfolding_all rfl) | kernel_rfl
theorem fl3 : (fl d1 d2 d3 d4 d5).lookup ("tags_of_kinds" : Str) = some (V.ref d3) := by first | rfl | (with_unfolding_all rfl) | kernel_rfl
theorem fl4 : (fl d1 d2 d3 d4 d5).lookup ("record_schemes" : Str) = some (V.ref d4) := by first | rfl | (with_unfolding_all rfl) | kernel_rfl
theorem fl5 : (fl d1 d2 d3 d4 d5).lookup ("field_schemes" : Str) = some (V.ref d5) := by first | rfl | (with_unfolding_all rfl) | kernel_rfl
theorem fl_take_kind : (fl d1 d2 d3 d4 d5).lookup ("take_kind" : Str) = none := by first | rfl | (with_unfolding_all rfl) | kernel_rfl
theorem fl_take_record : (fl d1 d2 d3 d4 d5).lookup ("take_record" : Str) = none := by first | rfl | (with_unfolding_all rfl) | kernel_rfl
theorem fl_tag : (fl d1 d2 d3 d4 d5).lookup ("tag" : Str) = none := by first | rfl | (with_unfolding_all rfl) | kernel_rfl
theorem fl_field : (fl d1 d2 d3 d4 d5).lookup ("field" : Str) = none := by first | rfl | (with_unfolding_all rfl) | kernel_rfl
theorem fl_record : (fl d1 d2 d3 d4 d5).lookup ("record" : Str) = none := by first | rfl | (with_unfolding_all rfl) | kernel_rfl
theorem fl_kind_of : (fl d1 d2 d3 d4 d5).lookup ("kind_of" : Str) = none := by first | rfl | (with_unfolding_all rfl) | kernel_rfl
theorem fl_tags : (fl d1 d2 d3 d4 d5).lookup ("tags" : Str) = none := by first | rfl | (with_unfolding_all rfl) | kernel_rfl
end
def Kp (L : List Addr) (H H' : Hp) : Prop := ∀ b o, H b = some o → b ∉ L → H' b = some o
theorem Kp.trans {L : List Addr} {H H1 H2 : Hp} (a : Kp L H H1) (b : Kp L H1 H2) : Kp L H H2 := fun c o h n => b c o (a c o h n) n
theorem Same.kp {L : List Addr} {H H' : Hp} (e : Same H H') : Kp L H H' := fun b o h _ => e b o h
theorem kp_upd {L : List Addr} {H : Hp} {d : Addr} {o : HO} (h : d ∈ L) : Kp L H (upd H d o) := fun b u q n => by rw [upd_ne (fun e : b = d => n (by rw [e]; exact h))]; exact q
theorem SO.ndict {C p dx d1 d2 d3 d4 d5 : Addr} {H : Hp} {m1 m2 m4 m5 : List (Str × T)} {m3 : List (Str × List Str)} (h : SO C H p dx d1 d2 d3 d4 d5 m1 m2 m3 m4 m5) {b : Addr} {o : HO} (q : H b = some o) (ho : ∀ k, o ≠ .dK k) : b ∉ [d1, d2, d3, d4, d5] := by
  obtain ⟨k1, a1, _⟩ := h.e1
  obtain ⟨k2, a2, _⟩ := h.e2
  obtain ⟨k3, a3, _⟩ := h.e3
  obtain ⟨k4, a4, _⟩ := h.e4
  obtain ⟨k5, a5, _⟩ := h.e5
  have hn : ∀ d k, H d = some (.dK k) → b ≠ d := fun d k e => ne_of q e (ho k)
  simp only [List.mem_cons, List.not_mem_nil, or_false, not_or]
  exact ⟨hn _ _ a1, hn _ _ a2, hn _ _ a3, hn _ _ a4, hn _ _ a5⟩
theorem SO.tup {C p dx d1 d2 d3 d4 d5 : Addr} {H H' : Hp} {m1 m2 m4 m5 : List (Str × T)} {m3 : List (Str × List Str)} (h : SO C H p dx d1 d2 d3 d4 d5 m1 m2 m3 m4 m5) (k : Kp [d1, d2, d3, d4, d5] H H') : ∀ b xs, H b = some (.tup xs) → H' b = some (.tup xs) :=
  fun b xs q => k b _ q (h.ndict q (by intro k z; cases z))
def spGet (C : Addr) (j : Nat) : Sp := fun vs H Q _ => ∃ (p dx d1 d2 d3 d4 d5 : Addr) (m1 m2 : List (Str × T)) (m3 : List (Str × List Str)) (m4 m5 : List (Str × T)) (z : Str) (t : T), vs = [.ref p, .str z] ∧ SO C H p dx d1 d2 d3 d4 d5 m1 m2 m3 m4 m5 ∧
  (match j with | 1 => m1 | 2 => m2 | 4 => m4 | _ => m5).lookup z = some t ∧ ∀ v, Rep H v t → Q v H
def spTags (C : Addr) : Sp := fun vs H Q _ => ∃ (p dx d1 d2 d3 d4 d5 : Addr) (m1 m2 : List (Str × T)) (m3 : List (Str × List Str)) (m4 m5 : List (Str × T)) (z : Str) (t : List Str), vs = [.ref p, .str z] ∧ SO C H p dx d1 d2 d3 d4 d5 m1 m2 m3 m4 m5 ∧
  m3.lookup z = some t ∧ ∀ (l : Addr) H', Same H H' → H l = none → H' l = some (.lst (t.map V.str)) → Q (.ref l) H'
def spTakeK (C : Addr) : Sp := fun vs H Q _ => ∃ (p dx d1 d2 d3 d4 d5 : Addr) (m1 m2 : List (Str × T)) (m3 : List (Str × List Str)) (m4 m5 : List (Str × T)) (vd : V) (n : Str) (us : List Str) (rows : List (Str × List T)), vs = [.ref p, vd] ∧ SO C H p dx d1 d2 d3 d4 d5 m1 m2 m3 m4 m5 ∧
  Rep H vd (Dc.kind n us rows).t ∧ us.length ≤ 100 ∧ rows.length ≤ 100 ∧ m1.length ≤ 1000 ∧ m2.length ≤ 1000 ∧ m3.length ≤ 1000 ∧ (rows.map (·.1)).Nodup ∧ (∀ r ∈ rows, r.1 ∉ m1.map (·.1) ∧ r.1 ∉ m2.map (·.1)) ∧ n ∉ m3.map (·.1) ∧
  ∀ H', SO C H' p dx d1 d2 d3 d4 d5 (m1 ++ tagM (.kind n us rows)) (m2 ++ kofM (.kind n us rows)) (m3 ++ tofM (.kind n us rows)) m4 m5 → Kp [d1, d2, d3, d4, d5] H H' → Q .non H'
def spTakeR (C : Addr) : Sp := fun vs H Q _ => ∃ (p dx d1 d2 d3 d4 d5 : Addr) (m1 m2 : List (Str × T)) (m3 : List (Str × List Str)) (m4 m5 : List (Str × T)) (vd : V) (n : Str) (us : List Str) (fs : List (Str × T)), vs = [.ref p, vd] ∧ SO C H p dx d1 d2 d3 d4 d5 m1 m2 m3 m4 m5 ∧
  Rep H vd (Dc.record n us fs).t ∧ us.length ≤ 100 ∧ fs.length ≤ 100 ∧ m4.length ≤ 1000 ∧ m5.length ≤ 1000 ∧ (fs.map (·.1)).Nodup ∧ (∀ r ∈ fs, r.1 ∉ m5.map (·.1)) ∧ n ∉ m4.map (·.1) ∧
  ∀ H', SO C H' p dx d1 d2 d3 d4 d5 m1 m2 m3 (m4 ++ recM (.record n us fs)) (m5 ++ fldM (.record n us fs)) → Kp [d1, d2, d3, d4, d5] H H' → Q .non H'
section
variable {P : Program} {w : World} {K : PySem.W.Frag} {mg : Str → Option Value} {base : Heap} {f : Addr} {fd : FuncData} {C : Addr}
theorem sc_g1 : FnScope ["self", "name"] ["self", "name"] (defScope (sm 3)) := ⟨rfl, rfl, rfl, by decide +kernel, rfl, by decide +kernel, by decide +kernel⟩
theorem ok_g1 (F : Fun K "tag" "Sorts.tag" (sm 3) f fd) (Tx : TxS K mg C) : FnOk P w K mg base CX0 1 f fd ["self", "name"] (spGet C 1) := by
  refine F.ok sc_g1 (fun vs H Q E h => ?_) (fun cdv A outer s H vs Q E hr h => ?_)
  · obtain ⟨p, dx, d1, d2, d3, d4, d5, m1, m2, m3, m4, m5, z, t, rfl, _⟩ := h
    rfl
  obtain ⟨p, dx, d1, d2, d3, d4, d5, m1, m2, m3, m4, m5, z, t, rfl, S, hl, q⟩ := h
  have hl : m1.lookup z = some t := hl
  obtain ⟨k, a, b⟩ := S.e1
  refine ⟨_, pss_one (ps_ret (pe_dget (hu_of hr) (pe_fld (pv 0) rfl) (pv 1) (fun _ _ => rfl))), ?_⟩
  rcases b.get z with ⟨_, h2⟩ | ⟨v, t', h1, h2, rv⟩
  · rw [h2] at hl; cases hl
  rw [hl] at h2
  cases h2
  have g : DGet H d1 (.str z) (some v) := by have := DGet.k (k := Sum.inr z) a; rw [h1] at this; exact this
  exact ⟨_, rfl, p, C, dx, _, _, rfl, S.ob, Tx.cl, Tx.n1, fl1 _ _ _ _ _, _, rfl, d1, _, rfl, g, q v rv⟩
theorem sc_g5 : FnScope ["self", "name"] ["self", "name"] (defScope (sm 4)) := ⟨rfl, rfl, rfl, by decide +kernel, rfl, by decide +kernel, by decide +kernel⟩
theorem ok_g5 (F : Fun K "field" "Sorts.field" (sm 4) f fd) (Tx : TxS K mg C) : FnOk P w K mg base CX0 1 f fd ["self", "name"] (spGet C 5) := by
  refine F.ok sc_g5 (fun vs H Q E h => ?_) (fun cdv A outer s H vs Q E hr h => ?_)
  · obtain ⟨p, dx, d1, d2, d3, d4, d5, m1, m2, m3, m4, m5, z, t, rfl, _⟩ := h
    rfl
  obtain ⟨p, dx, d1, d2, d3, d4, d5, m1, m2, m3, m4, m5, z, t, rfl, S, hl, q⟩ := h
  have hl : m5.lookup z = some t := hl
  obtain ⟨k, a, b⟩ := S.e5
  refine ⟨_, pss_one (ps_ret (pe_dget (hu_of hr) (pe_fld (pv 0) rfl) (pv 1) (fun _ _ => rfl))), ?_⟩
  rcases b.get z with ⟨_, h2⟩ | ⟨v, t', h1, h2, rv⟩
  · rw [h2] at hl; cases hl
  rw [hl] at h2
  cases h2
  have g : DGet H d5 (.str z) (some v) := by have := DGet.k (k := Sum.inr z) a; rw [h1] at this; exact this
  exact ⟨_, rfl, p, C, dx, _, _, rfl, S.ob, Tx.cl, Tx.n5, fl5 _ _ _ _ _, _, rfl, d5, _, rfl, g, q v rv⟩
theorem sc_g4 : FnScope ["self", "name"] ["self", "name"] (defScope (sm 5)) := ⟨rfl, rfl, rfl, by decide +kernel, rfl, by decide +kernel, by decide +kernel⟩
theorem ok_g4 (F : Fun K "record" "Sorts.record" (sm 5) f fd) (Tx : TxS K mg C) : FnOk P w K mg base CX0 1 f fd ["self", "name"] (spGet C 4) := by
  refine F.ok sc_g4 (fun vs H Q E h => ?_) (fun cdv A outer s H vs Q E hr h => ?_)
  · obtain ⟨p, dx, d1, d2, d3, d4, d5, m1, m2, m3, m4, m5, z, t, rfl, _⟩ := h
    rfl
  obtain ⟨p, dx, d1, d2, d3, d4, d5, m1, m2, m3, m4, m5, z, t, rfl, S, hl, q⟩ := h
  have hl : m4.lookup z = some t := hl
  obtain ⟨k, a, b⟩ := S.e4
  refine ⟨_, pss_one (ps_ret (pe_dget (hu_of hr) (pe_fld (pv 0) rfl) (pv 1) (fun _ _ => rfl))), ?_⟩
  rcases b.get z with ⟨_, h2⟩ | ⟨v, t', h1, h2, rv⟩
  · rw [h2] at hl; cases hl
  rw [hl] at h2
  cases h2
  have g : DGet H d4 (.str z) (some v) := by have := DGet.k (k := Sum.inr z) a; rw [h1] at this; exact this
  exact ⟨_, rfl, p, C, dx, _, _, rfl, S.ob, Tx.cl, Tx.n4, fl4 _ _ _ _ _, _, rfl, d4, _, rfl, g, q v rv⟩
theorem sc_g2 : FnScope ["self", "name"] ["self", "name"] (defScope (sm 6)) := ⟨rfl, rfl, rfl, by decide +kernel, rfl, by decide +kernel, by decide +kernel⟩
theorem ok_g2 (F : Fun K "kind_of" "Sorts.kind_of" (sm 6) f fd) (Tx : TxS K mg C) : FnOk P w K mg base CX0 1 f fd ["self", "name"] (spGet C 2) := by
  refine F.ok sc_g2 (fun vs H Q E h => ?_) (fun cdv A outer s H vs Q E hr h => ?_)
  · obtain ⟨p, dx, d1, d2, d3, d4, d5, m1, m2, m3, m4, m5, z, t, rfl, _⟩ := h
    rfl
  obtain ⟨p, dx, d1, d2, d3, d4, d5, m1, m2, m3, m4, m5, z, t, rfl, S, hl, q⟩ := h
  have hl : m2.lookup z = some t := hl
  obtain ⟨k, a, b⟩ := S.e2
  refine ⟨_, pss_one (ps_ret (pe_dget (hu_of hr) (pe_fld (pv 0) rfl) (pv 1) (fun _ _ => rfl))), ?_⟩
  rcases b.get z with ⟨_, h2⟩ | ⟨v, t', h1, h2, rv⟩
  · rw [h2] at hl; cases hl
  rw [hl] at h2
  cases h2
  have g : DGet H d2 (.str z) (some v) := by have := DGet.k (k := Sum.inr z) a; rw [h1] at this; exact this
  exact ⟨_, rfl, p, C, dx, _, _, rfl, S.ob, Tx.cl, Tx.n2, fl2 _ _ _ _ _, _, rfl, d2, _, rfl, g, q v rv⟩
theorem sc_tags : FnScope ["self", "name"] ["self", "name"] (defScope (sm 7)) := ⟨rfl, rfl, rfl, by decide +kernel, rfl, by decide +kernel, by decide +kernel⟩
theorem ok_tags (F : Fun K "tags" "Sorts.tags" (sm 7) f fd) (Tx : TxS K mg C) (mL : mg "list" = none) : FnOk P w K mg base CX0 1 f fd ["self", "name"] (spTags C) := by
  refine F.ok sc_tags (fun vs H Q E h => ?_) (fun cdv A outer s H vs Q E hr h => ?_)
  · obtain ⟨p, dx, d1, d2, d3, d4, d5, m1, m2, m3, m4, m5, z, t, rfl, _⟩ := h
    rfl
  obtain ⟨p, dx, d1, d2, d3, d4, d5, m1, m2, m3, m4, m5, z, t, rfl, S, hl, q⟩ := h
  obtain ⟨k, a, b⟩ := S.e3
  refine ⟨_, pss_one (ps_ret (pe_callTy call_list_of rfl mL boot_list (pa_cons (pe_dget (hu_of hr) (pe_fld (pv 0) rfl) (pv 1) (fun _ _ => rfl)) pa_nil))), ?_⟩
  rcases b.get z with ⟨_, h2⟩ | ⟨l0, t', h1, h2, rv⟩
  · rw [h2] at hl; cases hl
  rw [hl] at h2
  cases h2
  have g : DGet H d3 (.str z) (some (.ref l0)) := by have := DGet.k (k := Sum.inr z) a; rw [h1] at this; exact this
  exact ⟨_, rfl, p, C, dx, _, _, rfl, S.ob, Tx.cl, Tx.n3, fl3 _ _ _ _ _, _, rfl, d3, _, rfl, g, l0, _, rfl, .inl (SqL.of rv), fun l hl => q l _ (same_new hl _) hl upd_same⟩
theorem sc_tk : FnScope ["self", "declaration", "kind", "row"] ["self", "declaration"] (defScope (sm 1)) := ⟨rfl, rfl, rfl, by decide +kernel, rfl, by decide +kernel, by decide +kernel⟩
set_option maxHeartbeats 2000000 in
theorem ok_tk (F : Fun K "take_kind" "Sorts.take_kind" (sm 1) f fd) (Tx : TxS K mg C) (hF : Has P w K mg base 1 "formed" ["head", "inner"] spFormed) (hE : Has P w K mg base 1 "from_each" ["froms", "kind"] spEach) : FnOk P w K mg base CX0 2 f fd ["self", "declaration"] (spTakeK C) := by
  refine F.ok sc_tk (fun vs H Q E h => ?_) (fun cdv A outer s H vs Q E hr h => ?_)
  · obtain ⟨p, dx, d1, d2, d3, d4, d5, m1, m2, m3, m4, m5, vd, n, us, rows, rfl, _⟩ := h
    rfl
  obtain ⟨p, dx, d1, d2, d3, d4, d5, m1, m2, m3, m4, m5, vd, n, us, rows, rfl, S, rd, lu, lr, l1, l2, l3, ndr, new, newn, q⟩ := h
  have hu := hu_of hr
  refine ⟨_, pss_cons (ps_set (i := 2) sc_tk.nd rfl (Or.inl rfl) (pcall hF hr (by decide) rfl (pa_cons (pe_ix ix_tup (pv 1) pe_int (fun _ _ => rfl)) (pa_cons (pe_ix ix_tup (pv 1) pe_int (fun _ _ => rfl)) pa_nil))))
    (pss_cons (ps_for PassesOwn.never rfl (pi_tup (pe_slice sl_tup (pv 1) (po_some pe_int) po_none)) (pg_name (i := 3) sc_tk.nd rfl (Or.inl rfl))
      (pss_cons (ps_dput hu (pe_fld (pv 0) rfl) (pe_ix ix_tup (pv 3) pe_int (fun _ _ => rfl)) (pe_tup (pa_cons (pe_ix ix_tup (pv 1) pe_int (fun _ _ => rfl)) (pa_cons (pcall hE hr (by decide) rfl (pa_cons (pe_slice sl_tup (pv 3) (po_some pe_int) po_none) (pa_cons (pv 2) pa_nil))) pa_nil))) rfl)
      (pss_one (ps_dput hu (pe_fld (pv 0) rfl) (pe_ix ix_tup (pv 3) pe_int (fun _ _ => rfl)) (pe_ix ix_tup (pv 1) pe_int (fun _ _ => rfl)) rfl))))
    (pss_one (ps_dput hu (pe_fld (pv 0) rfl) (pe_ix ix_tup (pv 1) pe_int (fun _ _ => rfl))
      (pe_lc (defScope (sm 1)) ["self", "declaration", "kind", "row"] [] [] (by decide +kernel) (pi_tup (pe_slice sl_tup (pv 1) (po_some pe_int) po_none)) (fun C s₀ H₀ ex => pts_nil) (fun C s₀ H₀ ex => pe_ix (r := rIxT K) ix_tup (pv 0) pe_int (fun _ _ => rfl))) (by first | rfl | (with_unfolding_all rfl))))), ?_⟩
  cases rd with
  | @tup a xs _ ha ra =>
  cases ra with
  | @cons x0 _ xs1 _ r0 ra =>
  cases ra with
  | @cons x1 _ xs2 _ r1 ra =>
  cases ra with
  | @cons x2 _ xr _ r2 rxr =>
  cases r0
  cases r1
  rename_i hn
  cases r2 with
  | @tup va vvs _ hva rva =>
  have i1 : atI (V.str "kind" :: V.str n :: V.ref va :: xr) (1 : Int) = some (.str n) := atI_nat (j := 1) rfl
  have i2 : atI (V.str "kind" :: V.str n :: V.ref va :: xr) (2 : Int) = some (.ref va) := atI_nat (j := 2) rfl
  have lva := rva.length
  rw [List.length_map] at lva
  have lxr := rxr.length
  rw [List.length_map] at lxr
  refine ⟨_, rfl, a, _, 1, _, rfl, rfl, SqT.of ha, i1, _, rfl, a, _, 2, _, rfl, rfl, SqT.of ha, i2, n, va, vvs, us.map T.str, rfl, by omega, hva, rva, by omega, fun vk H1 e1 rk => ?_⟩
  have S1 := S.same e1
  refine ⟨_, rfl, 3, rfl, a, _, rfl, SqT.of (e1 _ _ ha), cutq_not (vs := V.str "kind" :: V.str n :: V.ref va :: xr) (n := 3) (by simp) (by decide), fun p2 hp2 => ?_⟩
  rw [show cutV (V.str "kind" :: V.str n :: V.ref va :: xr) (some 3) none = xr from cutq (V.str "kind" :: V.str n :: V.ref va :: xr) 3]
  have e2 := same_new hp2 (.tup xr)
  have e12 := e1.trans e2
  have S2 := S.same e12
  have kp2 : Kp [d1, d2, d3, d4, d5] H (upd H1 p2 (.tup xr)) := Same.kp e12
  have hp22 : (upd H1 p2 (.tup xr)) p2 = some (.tup xr) := upd_same
  have rk2 := rk.same e2
  revert S2 kp2 hp22 rk2
  generalize upd H1 p2 (.tup xr) = H2
  intro S2 kp2 hp22 rk2
  have tu2 := S.tup kp2
  refine ⟨p2, rfl, ⟨_, SqT.of hp22⟩, for_tup (xs := xr) (fun i σ H' => ∃ o3, σ = [some (.ref p), some (.ref a), some vk, o3] ∧ SO C H' p dx d1 d2 d3 d4 d5 (m1 ++ (tagM (.kind n us rows)).take i) (m2 ++ (kofM (.kind n us rows)).take i) m3 m4 m5 ∧ Kp [d1, d2, d3, d4, d5] H2 H')
    ⟨none, rfl, by simpa using S2, fun b o q _ => q⟩ ?_ ?_ ?_⟩
  · rintro i σ H' hi ⟨o3, rfl, S', k'⟩
    exact SqT.of (S2.tup k' _ _ hp22)
  · rintro i x σ H3 hx ⟨o3, rfl, S3, k3⟩
    have tu3 := S2.tup k3
    obtain ⟨tr, htr, rx⟩ := rxr.at3 hx
    rw [List.getElem?_map] at htr
    cases er : rows[i]? with
    | none => rw [er] at htr; cases htr
    | some r =>
    rw [er] at htr
    cases htr
    have hil : i < rows.length := (List.getElem?_eq_some_iff.mp er).1
    have rm := List.mem_of_getElem? er
    have rx3 := (rx.mono tu2).mono tu3
    cases rx3 with
    | @tup ra_ vs_ _ hra rra =>
    cases rra with
    | @cons y0 _ yr _ q0 ryr =>
    cases q0
    have ha3 := tu3 _ _ (tu2 _ _ ha)
    have j0 : atI (V.str r.1 :: yr) (0 : Int) = some (.str r.1) := atI_nat (j := 0) rfl
    obtain ⟨k1, a1, b1⟩ := S3.e1
    have hnot1 : r.1 ∉ (m1 ++ (tagM (.kind n us rows)).take i).map (·.1) := by
      rw [List.map_append, List.mem_append]
      rintro (h | h)
      · exact (new r rm).1 h
      · have e : ((tagM (.kind n us rows)).take i).map (·.1) = (rows.map (·.1)).take i := by
          show ((rows.map fun r => (r.1, schT us (arrT r.2 (ownT n us)))).take i).map (·.1) = _
          rw [← List.map_take, List.map_map, ← List.map_take]
          rfl
        rw [e] at h
        have nd1 : ((rows.map (·.1)).take (i + 1)).Nodup := ndr.sublist (List.take_sublist _ _)
        have et : (rows.map (·.1)).take (i + 1) = (rows.map (·.1)).take i ++ [r.1] := by rw [List.take_add_one, List.getElem?_map, er]; rfl
        rw [et, List.nodup_append] at nd1
        exact nd1.2.2 _ h _ (by simp) rfl
    have hnot2 : r.1 ∉ (m2 ++ (kofM (.kind n us rows)).take i).map (·.1) := by
      rw [List.map_append, List.mem_append]
      rintro (h | h)
      · exact (new r rm).2 h
      · have e : ((kofM (.kind n us rows)).take i).map (·.1) = (rows.map (·.1)).take i := by
          show ((rows.map fun r => (r.1, T.str n)).take i).map (·.1) = _
          rw [← List.map_take, List.map_map, ← List.map_take]
          rfl
        rw [e] at h
        have nd1 : ((rows.map (·.1)).take (i + 1)).Nodup := ndr.sublist (List.take_sublist _ _)
        have et : (rows.map (·.1)).take (i + 1) = (rows.map (·.1)).take i ++ [r.1] := by rw [List.take_add_one, List.getElem?_map, er]; rfl
        rw [et, List.nodup_append] at nd1
        exact nd1.2.2 _ h _ (by simp) rfl
    have et1 : m1 ++ (tagM (.kind n us rows)).take (i + 1) = (m1 ++ (tagM (.kind n us rows)).take i) ++ [(r.1, schT us (arrT r.2 (ownT n us)))] := by
      rw [List.append_assoc]
      congr 1
      show (rows.map fun r => (r.1, schT us (arrT r.2 (ownT n us)))).take (i + 1) = _
      rw [List.take_add_one, List.getElem?_map, er]
      rfl
    have et2 : m2 ++ (kofM (.kind n us rows)).take (i + 1) = (m2 ++ (kofM (.kind n us rows)).take i) ++ [(r.1, .str n)] := by
      rw [List.append_assoc]
      congr 1
      show (rows.map fun r => (r.1, T.str n)).take (i + 1) = _
      rw [List.take_add_one, List.getElem?_map, er]
      rfl
    refine ⟨_, rfl, a, _, 2, _, rfl, rfl, SqT.of ha3, i2, _, rfl, 1, rfl, ra_, _, rfl, SqT.of hra, cutq_not (vs := V.str r.1 :: yr) (n := 1) (by simp) (Nat.le_refl _), fun p5 hp5 => ?_⟩
    rw [show cutV (V.str r.1 :: yr) (some 1) none = yr from cutq (V.str r.1 :: yr) 1]
    have e5 := same_new hp5 (.tup yr)
    refine ⟨_, rfl, p5, yr, r.2, vk, ownT n us, rfl, .inr upd_same, ryr.same e5, (rk2.mono tu3).same e5, fun v H6 e6 rv => ?_⟩
    refine ⟨small (by show 2 ≤ 1000000; decide), fun pt hpt => ?_⟩
    have e7 := same_new hpt (.tup [.ref va, v])
    have e57 := (e5.trans e6).trans e7
    have rsch : Rep (upd H6 pt (.tup [.ref va, v])) (.ref pt) (schT us (arrT r.2 (ownT n us))) := .tup upd_same (.cons ((Rep.tup (tu3 _ _ (tu2 _ _ hva)) ((rva.mono tu2).mono tu3)).same e57) (.cons (rv.same e7) .nil))
    have S7 := S3.same e57
    have a17 := e57 _ _ a1
    have b17 := b1.mono (Same.tups e57)
    have hra7 := e57 _ _ hra
    have ha7 := e57 _ _ ha3
    have kp7 : Kp [d1, d2, d3, d4, d5] H2 (upd H6 pt (.tup [.ref va, v])) := k3.trans (Same.kp e57)
    revert rsch S7 a17 b17 hra7 ha7 kp7
    generalize upd H6 pt (.tup [.ref va, v]) = H7
    intro rsch S7 a17 b17 hra7 ha7 kp7
    have lk1 := b17.length
    refine ⟨_, rfl, p, C, dx, _, _, rfl, S7.ob, Tx.cl, Tx.n1, fl1 _ _ _ _ _, _, rfl, ra_, _, 0, _, rfl, rfl, SqT.of hra7, j0, d1, _, rfl, DPut.k (k := Sum.inr r.1) (v := .ref pt) a17 (small' (by rw [lk1, List.length_append, List.length_take]; omega)), ?_⟩
    rw [putK_new _ (b17.none hnot1)]
    have S8 := S7.put1 (z := r.1) rsch a17 b17
    have ha8 : (upd H7 d1 (.dK (k1 ++ [(Sum.inr r.1, .ref pt)]))) a = some _ := up_tup a17 ha7
    have hra8 : (upd H7 d1 (.dK (k1 ++ [(Sum.inr r.1, .ref pt)]))) ra_ = some _ := up_tup a17 hra7
    have kp8 := kp7.trans (kp_upd (H := H7) (d := d1) (o := .dK (k1 ++ [(Sum.inr r.1, .ref pt)])) (L := [d1, d2, d3, d4, d5]) (by simp))
    revert S8 ha8 hra8 kp8
    generalize upd H7 d1 (.dK (k1 ++ [(Sum.inr r.1, .ref pt)])) = H8
    intro S8 ha8 hra8 kp8
    obtain ⟨k2, a2, b2⟩ := S8.e2
    have lk2 := b2.length
    refine ⟨_, rfl, a, _, 1, _, rfl, rfl, SqT.of ha8, i1, _, rfl, p, C, dx, _, _, rfl, S8.ob, Tx.cl, Tx.n2, fl2 _ _ _ _ _, _, rfl, ra_, _, 0, _, rfl, rfl, SqT.of hra8, j0, d2, _, rfl, DPut.k (k := Sum.inr r.1) (v := .str n) a2 (small' (by rw [lk2, List.length_append, List.length_take]; omega)), ?_⟩
    rw [putK_new _ (b2.none hnot2)]
    refine ⟨_, rfl, ?_, kp8.trans (kp_upd (by simp))⟩
    rw [et1, et2]
    exact S8.put2 (z := r.1) (.str n hn) a2 b2
  · rintro σ H3 ⟨o3, rfl, S3, k3⟩
    have tu3 := S2.tup k3
    have ha3 := tu3 _ _ (tu2 _ _ ha)
    have e1' : (tagM (.kind n us rows)).take xr.length = tagM (.kind n us rows) := List.take_of_length_le (by show (rows.map _).length ≤ _; rw [List.length_map]; omega)
    have e2' : (kofM (.kind n us rows)).take xr.length = kofM (.kind n us rows) := List.take_of_length_le (by show (rows.map _).length ≤ _; rw [List.length_map]; omega)
    rw [e1', e2'] at S3
    refine ⟨_, rfl, 3, rfl, a, _, rfl, SqT.of ha3, cutq_not (vs := V.str "kind" :: V.str n :: V.ref va :: xr) (n := 3) (by simp) (by decide), fun p4 hp4 => ?_⟩
    rw [show cutV (V.str "kind" :: V.str n :: V.ref va :: xr) (some 3) none = xr from cutq (V.str "kind" :: V.str n :: V.ref va :: xr) 3]
    have e4 := same_new hp4 (.tup xr)
    refine ⟨p4, rfl, ⟨_, SqT.of upd_same⟩, comp_tup (xs := xr) (fun i vs H' => H' = upd H3 p4 (.tup xr) ∧ vs = ((rows.map (·.1)).take i).map V.str) ⟨rfl, rfl⟩ ?_ ?_ ?_⟩
    · rintro i vs H' hi ⟨rfl, rfl⟩
      exact ⟨SqT.of upd_same, small' (by rw [List.length_map, List.length_take, List.length_map]; omega)⟩
    · rintro i x vs H' hi hx ⟨rfl, rfl⟩
      obtain ⟨tr, htr, rx⟩ := rxr.at3 hx
      rw [List.getElem?_map] at htr
      cases er : rows[i]? with
      | none => rw [er] at htr; cases htr
      | some r =>
      rw [er] at htr
      cases htr
      have rx3 := ((rx.mono tu2).mono tu3).same e4
      cases rx3 with
      | @tup ra_ vs_ _ hra rra =>
      cases rra with
      | @cons y0 _ yr _ q0 ryr =>
      cases q0
      refine tt1 (iteT ⟨_, rfl, ra_, _, 0, _, rfl, rfl, SqT.of hra, atI_nat (j := 0) rfl, nx hi ⟨rfl, ?_⟩⟩)
      have et : (rows.map (·.1)).take (i + 1) = (rows.map (·.1)).take i ++ [r.1] := by rw [List.take_add_one, List.getElem?_map, er]; rfl
      rw [et, List.map_append]
      rfl
    · rintro vs H' ⟨rfl, rfl⟩ l hl
      have ef : (rows.map (·.1)).take xr.length = rows.map (·.1) := List.take_of_length_le (by rw [List.length_map]; omega)
      rw [ef]
      have e5 := same_new hl (.lst ((rows.map (·.1)).map V.str))
      have S5 := (S3.same e4).same e5
      have ha5 := e5 _ _ (e4 _ _ ha3)
      have hl5 : (upd (upd H3 p4 (.tup xr)) l (.lst ((rows.map (·.1)).map V.str))) l = some (.lst ((rows.map (·.1)).map V.str)) := upd_same
      have kp5 : Kp [d1, d2, d3, d4, d5] H (upd (upd H3 p4 (.tup xr)) l (.lst ((rows.map (·.1)).map V.str))) := (kp2.trans k3).trans (Same.kp (e4.trans e5))
      revert S5 ha5 hl5 kp5
      generalize upd (upd H3 p4 (.tup xr)) l (.lst ((rows.map (·.1)).map V.str)) = H5
      intro S5 ha5 hl5 kp5
      obtain ⟨k3', a3, b3⟩ := S5.e3
      have lk3 := b3.length
      refine ⟨_, rfl, p, C, dx, _, _, rfl, S5.ob, Tx.cl, Tx.n3, fl3 _ _ _ _ _, _, rfl, a, _, 1, _, rfl, rfl, SqT.of ha5, i1, d3, _, rfl, DPut.k (k := Sum.inr n) (v := .ref l) a3 (small' (by omega)), ?_⟩
      rw [putK_new _ (b3.none newn)]
      exact q _ (S5.put3 (z := n) hl5 a3 b3) (kp5.trans (kp_upd (by simp)))
end
end Fw

set_option Elab.async false
set_option linter.all false
set_option maxRecDepth 100000
namespace Fw
open PySem PySem.Spec PyProof.Rows L2
section
variable {P : Program} {w : World} {K : PySem.W.Frag} {mg : Str → Option Value} {base : Heap} {f : Addr} {fd : FuncData} {C : Addr}
theorem sc_tr : FnScope ["self", "declaration", "kind", "kinds", "field"] ["self", "declaration"] (defScope (sm 2)) := ⟨rfl, rfl, rfl, by decide +kernel, rfl, by decide +kernel, by decide +kernel⟩
set_option maxHeartbeats 2000000 in
theorem ok_tr (F : Fun K "take_record" "Sorts.take_record" (sm 2) f fd) (Tx : TxS K mg C) {tk : Tok} (mA : mg "ARROW" = some (.str "->" tk)) (hF : Has P w K mg base 1 "formed" ["head", "inner"] spFormed) (hE : Has P w K mg base 1 "from_each" ["froms", "kind"] spEach) : FnOk P w K mg base CX0 2 f fd ["self", "declaration"] (spTakeR C) := by
  refine F.ok sc_tr (fun vs H Q E h => ?_) (fun cdv A outer s H vs Q E hr h => ?_)
  · obtain ⟨p, dx, d1, d2, d3, d4, d5, m1, m2, m3, m4, m5, vd, n, us, fs, rfl, _⟩ := h
    rfl
  obtain ⟨p, dx, d1, d2, d3, d4, d5, m1, m2, m3, m4, m5, vd, n, us, fs, rfl, S, rd, lu, lr, l4, l5, ndr, new, newn, q⟩ := h
  have hu := hu_of hr
  refine ⟨_, pss_cons (ps_set (i := 2) sc_tr.nd rfl (Or.inl rfl) (pcall hF hr (by decide) rfl (pa_cons (pe_ix ix_tup (pv 1) pe_int (fun _ _ => rfl)) (pa_cons (pe_ix ix_tup (pv 1) pe_int (fun _ _ => rfl)) pa_nil))))
    (pss_cons (ps_lc (defScope (sm 2)) ["self", "declaration", "kind", "kinds", "field"] [] [] (by decide +kernel) (pi_tup (pe_slice sl_tup (pv 1) (po_some pe_int) po_none)) (pg_name (i := 3) sc_tr.nd rfl (Or.inl rfl)) (fun C s₀ H₀ ex => pts_nil) (fun C s₀ H₀ ex => pe_ix (r := rIxT K) ix_tup (pv 0) pe_int (fun _ _ => rfl)) (by with_unfolding_all rfl))
    (pss_cons (ps_dput hu (pe_fld (pv 0) rfl) (pe_ix ix_tup (pv 1) pe_int (fun _ _ => rfl)) (pe_tup (pa_cons (pe_ix ix_tup (pv 1) pe_int (fun _ _ => rfl)) (pa_cons (pcall hE hr (by decide) rfl (pa_cons (pv 3) (pa_cons (pv 2) pa_nil))) pa_nil))) rfl)
    (pss_one (ps_for PassesOwn.never rfl (pi_tup (pe_slice sl_tup (pv 1) (po_some pe_int) po_none)) (pg_name (i := 4) sc_tr.nd rfl (Or.inl rfl))
      (pss_one (ps_dput hu (pe_fld (pv 0) rfl) (pe_ix ix_tup (pv 4) pe_int (fun _ _ => rfl)) (pe_tup (pa_cons (pe_ix ix_tup (pv 1) pe_int (fun _ _ => rfl)) (pa_cons (pe_tup (pa_cons (pe_glob (v := .str "->") rfl mA ⟨_, rfl⟩) (pa_cons (pv 2) (pa_cons (pe_ix ix_tup (pv 4) pe_int (fun _ _ => rfl)) pa_nil)))) pa_nil))) rfl)))))), ?_⟩
  cases rd with
  | @tup a xs _ ha ra =>
  cases ra with
  | @cons x0 _ xs1 _ r0 ra =>
  cases ra with
  | @cons x1 _ xs2 _ r1 ra =>
  cases ra with
  | @cons x2 _ xr _ r2 rxr =>
  cases r0
  cases r1
  rename_i hn
  cases r2 with
  | @tup va vvs _ hva rva =>
  have i1 : atI (V.str "record" :: V.str n :: V.ref va :: xr) (1 : Int) = some (.str n) := atI_nat (j := 1) rfl
  have i2 : atI (V.str "record" :: V.str n :: V.ref va :: xr) (2 : Int) = some (.ref va) := atI_nat (j := 2) rfl
  have c3 : cutV (V.str "record" :: V.str n :: V.ref va :: xr) (some 3) none = xr := cutq (V.str "record" :: V.str n :: V.ref va :: xr) 3
  have c3n := cutq_not (vs := V.str "record" :: V.str n :: V.ref va :: xr) (n := 3) (by simp) (by decide)
  have lva := rva.length
  rw [List.length_map] at lva
  have lxr := rxr.length
  rw [List.length_map] at lxr
  refine ⟨_, rfl, a, _, 1, _, rfl, rfl, SqT.of ha, i1, _, rfl, a, _, 2, _, rfl, rfl, SqT.of ha, i2, n, va, vvs, us.map T.str, rfl, by omega, hva, rva, by omega, fun vk H1 e1 rk => ?_⟩
  refine ⟨_, rfl, 3, rfl, a, _, rfl, SqT.of (e1 _ _ ha), c3n, fun p2 hp2 => ?_⟩
  rw [c3]
  have e2 := same_new hp2 (.tup xr)
  have e12 := e1.trans e2
  refine ⟨p2, rfl, ⟨_, SqT.of upd_same⟩, comp_tup (xs := xr) (fun i vs H' => H' = upd H1 p2 (.tup xr) ∧ Reps H' vs ((fs.map (·.2)).take i)) ⟨rfl, .nil⟩ ?_ ?_ ?_⟩
  · rintro i vs H' hi ⟨rfl, rv⟩
    have := rv.length
    rw [List.length_take, List.length_map] at this
    exact ⟨SqT.of upd_same, small' (by omega)⟩
  · rintro i x vs H' hi hx ⟨rfl, rv⟩
    obtain ⟨tr, htr, rx⟩ := rxr.at3 hx
    rw [List.getElem?_map] at htr
    cases er : fs[i]? with
    | none => rw [er] at htr; cases htr
    | some r =>
    rw [er] at htr
    cases htr
    have rx3 := rx.same e12
    cases rx3 with
    | @tup ra_ vs_ _ hra rra =>
    cases rra with
    | @cons y0 _ yr _ q0 ryr =>
    cases ryr with
    | @cons y1 _ yr2 _ q1 ryr2 =>
    cases q0
    cases ryr2
    refine tt1 (iteT ⟨_, rfl, ra_, _, 1, y1, rfl, rfl, SqT.of hra, atI_nat (j := 1) rfl, nx hi ⟨rfl, ?_⟩⟩)
    have et : (fs.map (·.2)).take (i + 1) = (fs.map (·.2)).take i ++ [r.2] := by rw [List.take_add_one, List.getElem?_map, er]; rfl
    rw [et]
    exact rv.append (.cons q1 .nil)
  · rintro vks H' ⟨rfl, rvk⟩ lk hlk
    have ef : (fs.map (·.2)).take xr.length = fs.map (·.2) := List.take_of_length_le (by rw [List.length_map]; omega)
    rw [ef] at rvk
    have e3 := same_new hlk (.lst vks)
    have e13 := e12.trans e3
    have S3 := S.same e13
    have ha3 := e13 _ _ ha
    have hlk3 : (upd (upd H1 p2 (.tup xr)) lk (.lst vks)) lk = some (.lst vks) := upd_same
    have rvk3 := rvk.same e3
    have rk3 := rk.same (e2.trans e3)
    revert e13 S3 ha3 hlk3 rvk3 rk3
    generalize upd (upd H1 p2 (.tup xr)) lk (.lst vks) = H3
    intro e13 S3 ha3 hlk3 rvk3 rk3
    show tSeq _ _ _ [some (.ref p), some (.ref a), some vk, some (.ref lk), none] H3
    refine ⟨_, rfl, a, _, 2, _, rfl, rfl, SqT.of ha3, i2, _, rfl, _, rfl, lk, vks, _, vk, ownT n us, rfl, .inl hlk3, rvk3, rk3, fun v H4 e4 rv => ?_⟩
    refine ⟨small (by show 2 ≤ 1000000; decide), fun pt hpt => ?_⟩
    have e5 := same_new hpt (.tup [.ref va, v])
    have e15 := (e13.trans e4).trans e5
    have rsch : Rep (upd H4 pt (.tup [.ref va, v])) (.ref pt) (schT us (arrT (fs.map (·.2)) (ownT n us))) := .tup upd_same (.cons ((Rep.tup hva rva).same e15) (.cons (rv.same e5) .nil))
    have S5 := S.same e15
    have ha5 := e15 _ _ ha
    have kp5 : Kp [d1, d2, d3, d4, d5] H (upd H4 pt (.tup [.ref va, v])) := Same.kp e15
    have rk5 := rk3.same (e4.trans e5)
    revert rsch S5 ha5 kp5 rk5
    generalize upd H4 pt (.tup [.ref va, v]) = H5
    intro rsch S5 ha5 kp5 rk5
    obtain ⟨k4, a4, b4⟩ := S5.e4
    have lk4 := b4.length
    refine ⟨_, rfl, p, C, dx, _, _, rfl, S5.ob, Tx.cl, Tx.n4, fl4 _ _ _ _ _, _, rfl, a, _, 1, _, rfl, rfl, SqT.of ha5, i1, d4, _, rfl, DPut.k (k := Sum.inr n) (v := .ref pt) a4 (small' (by omega)), ?_⟩
    rw [putK_new _ (b4.none newn)]
    have S6 := S5.put4 (z := n) rsch a4 b4
    have ha6 : (upd H5 d4 (.dK (k4 ++ [(Sum.inr n, .ref pt)]))) a = some _ := up_tup a4 ha5
    have kp6 := kp5.trans (kp_upd (H := H5) (d := d4) (o := .dK (k4 ++ [(Sum.inr n, .ref pt)])) (L := [d1, d2, d3, d4, d5]) (by simp))
    have rk6 := rk5.mono (S5.tup (kp_upd (H := H5) (d := d4) (o := .dK (k4 ++ [(Sum.inr n, .ref pt)])) (by simp)))
    revert S6 ha6 kp6 rk6
    generalize upd H5 d4 (.dK (k4 ++ [(Sum.inr n, .ref pt)])) = H6
    intro S6 ha6 kp6 rk6
    refine ⟨_, rfl, 3, rfl, a, _, rfl, SqT.of ha6, c3n, fun p7 hp7 => ?_⟩
    rw [c3]
    have e7 := same_new hp7 (.tup xr)
    have S7 := S6.same e7
    have kp7 : Kp [d1, d2, d3, d4, d5] H (upd H6 p7 (.tup xr)) := kp6.trans (Same.kp e7)
    have hp77 : (upd H6 p7 (.tup xr)) p7 = some (.tup xr) := upd_same
    have rk7 := rk6.same e7
    revert S7 kp7 hp77 rk7
    generalize upd H6 p7 (.tup xr) = H7
    intro S7 kp7 hp77 rk7
    have tu7 := S.tup kp7
    refine ⟨p7, rfl, ⟨_, SqT.of hp77⟩, for_tup (xs := xr) (fun i σ H' => ∃ o4, σ = [some (.ref p), some (.ref a), some vk, some (.ref lk), o4] ∧ SO C H' p dx d1 d2 d3 d4 d5 m1 m2 m3 (m4 ++ recM (.record n us fs)) (m5 ++ (fldM (.record n us fs)).take i) ∧ Kp [d1, d2, d3, d4, d5] H7 H')
      ⟨none, rfl, by rw [List.take_zero, List.append_nil]; exact S7, fun b o q _ => q⟩ ?_ ?_ ?_⟩
    · rintro i σ H' hi ⟨o3, rfl, S', k'⟩
      exact SqT.of (S7.tup k' _ _ hp77)
    · rintro i x σ H8 hx ⟨o3, rfl, S8, k8⟩
      have tu8 := S7.tup k8
      obtain ⟨tr, htr, rx⟩ := rxr.at3 hx
      rw [List.getElem?_map] at htr
      cases er : fs[i]? with
      | none => rw [er] at htr; cases htr
      | some r =>
      rw [er] at htr
      cases htr
      have hil : i < fs.length := (List.getElem?_eq_some_iff.mp er).1
      have rm := List.mem_of_getElem? er
      have rx3 := (rx.mono tu7).mono tu8
      cases rx3 with
      | @tup ra_ vs_ _ hra rra =>
      cases rra with
      | @cons y0 _ yr _ q0 ryr =>
      cases ryr with
      | @cons y1 _ yr2 _ q1 ryr2 =>
      cases q0
      cases ryr2
      have ha8 := tu8 _ _ (tu7 _ _ ha)
      have j0 : atI [V.str r.1, y1] (0 : Int) = some (.str r.1) := atI_nat (j := 0) rfl
      have j1 : atI [V.str r.1, y1] (1 : Int) = some y1 := atI_nat (j := 1) rfl
      have hnot : r.1 ∉ (m5 ++ (fldM (.record n us fs)).take i).map (·.1) := by
        rw [List.map_append, List.mem_append]
        rintro (h | h)
        · exact new r rm h
        · have e : ((fldM (.record n us fs)).take i).map (·.1) = (fs.map (·.1)).take i := by
            show ((fs.map fun f => (f.1, schT us (.tup [.str "->", ownT n us, f.2]))).take i).map (·.1) = _
            rw [← List.map_take, List.map_map, ← List.map_take]
            rfl
          rw [e] at h
          have nd1 : ((fs.map (·.1)).take (i + 1)).Nodup := ndr.sublist (List.take_sublist _ _)
          have et : (fs.map (·.1)).take (i + 1) = (fs.map (·.1)).take i ++ [r.1] := by rw [List.take_add_one, List.getElem?_map, er]; rfl
          rw [et, List.nodup_append] at nd1
          exact nd1.2.2 _ h _ (by simp) rfl
      have et5 : m5 ++ (fldM (.record n us fs)).take (i + 1) = (m5 ++ (fldM (.record n us fs)).take i) ++ [(r.1, schT us (.tup [.str "->", ownT n us, r.2]))] := by
        rw [List.append_assoc]
        congr 1
        show (fs.map fun f => (f.1, schT us (.tup [.str "->", ownT n us, f.2]))).take (i + 1) = _
        rw [List.take_add_one, List.getElem?_map, er]
        rfl
      refine ⟨_, rfl, a, _, 2, _, rfl, rfl, SqT.of ha8, i2, _, rfl, _, rfl, ra_, _, 1, y1, rfl, rfl, SqT.of hra, j1, small (by show 3 ≤ 1000000; decide), fun pa hpa => ⟨small (by show 2 ≤ 1000000; decide), fun pt hpt => ?_⟩⟩
      have e9 := same_new hpa (.tup [.str "->", vk, y1])
      have e10 := same_new hpt (.tup [.ref va, .ref pa])
      have e910 := e9.trans e10
      have rsch : Rep (upd (upd H8 pa (.tup [.str "->", vk, y1])) pt (.tup [.ref va, .ref pa])) (.ref pt) (schT us (.tup [.str "->", ownT n us, r.2])) :=
        .tup upd_same (.cons ((Rep.tup (tu8 _ _ (tu7 _ _ hva)) ((rva.mono tu7).mono tu8)).same e910) (.cons (.tup (e10 _ _ upd_same) (.cons (.str _ (by have := arrow_len; omega)) (.cons ((rk7.mono tu8).same e910) (.cons (q1.same e910) .nil)))) .nil))
      have S10 := S8.same e910
      have hra10 := e910 _ _ hra
      have kp10 : Kp [d1, d2, d3, d4, d5] H7 (upd (upd H8 pa (.tup [.str "->", vk, y1])) pt (.tup [.ref va, .ref pa])) := k8.trans (Same.kp e910)
      revert rsch S10 hra10 kp10
      generalize upd (upd H8 pa (.tup [.str "->", vk, y1])) pt (.tup [.ref va, .ref pa]) = H10
      intro rsch S10 hra10 kp10
      obtain ⟨k5, a5, b5⟩ := S10.e5
      have lk5 := b5.length
      refine ⟨_, rfl, p, C, dx, _, _, rfl, S10.ob, Tx.cl, Tx.n5, fl5 _ _ _ _ _, _, rfl, ra_, _, 0, _, rfl, rfl, SqT.of hra10, j0, d5, _, rfl, DPut.k (k := Sum.inr r.1) (v := .ref pt) a5 (small' (by rw [lk5, List.length_append, List.length_take]; omega)), ?_⟩
      rw [putK_new _ (b5.none hnot)]
      refine ⟨_, rfl, ?_, kp10.trans (kp_upd (by simp))⟩
      rw [et5]
      exact S10.put5 (z := r.1) rsch a5 b5
    · rintro σ H8 ⟨o4, rfl, S8, k8⟩
      have e5' : (fldM (.record n us fs)).take xr.length = fldM (.record n us fs) := List.take_of_length_le (by show (fs.map _).length ≤ _; rw [List.length_map]; omega)
      rw [e5'] at S8
      exact q _ S8 (kp7.trans k8)
/-! ### the class's __init__ -/
theorem pf_len (f : Str) (v : V) : ∀ fs : List (Str × V), (putF f v fs).length ≤ fs.length + 1
  | [] => Nat.le_refl _
  | (g, x) :: r => by
    have := pf_len f v r
    unfold putF
    split
    · simp
    · simp; omega
structure OkDs (ds : List Dc) : Prop where
  oth : ∀ h r, Dc.other h r ∈ ds → h ≠ "kind" ∧ h ≠ "record"
  kin : ∀ n us rows, Dc.kind n us rows ∈ ds → us.length ≤ 100 ∧ rows.length ≤ 100
  rec_ : ∀ n us fs, Dc.record n us fs ∈ ds → us.length ≤ 100 ∧ fs.length ≤ 100
  n1 : ((ds.flatMap tagM).map (·.1)).Nodup
  n3 : ((ds.flatMap tofM).map (·.1)).Nodup
  n4 : ((ds.flatMap recM).map (·.1)).Nodup
  n5 : ((ds.flatMap fldM).map (·.1)).Nodup
  b1 : (ds.flatMap tagM).length ≤ 1000
  b3 : (ds.flatMap tofM).length ≤ 1000
  b4 : (ds.flatMap recM).length ≤ 1000
  b5 : (ds.flatMap fldM).length ≤ 1000
theorem flat_step {α : Type} {f : Dc → List (Str × α)} {ds : List Dc} {i : Nat} {d : Dc} (h : ds[i]? = some d) : (ds.take (i + 1)).flatMap f = (ds.take i).flatMap f ++ f d := by
  rw [List.take_add_one, h]
  simp
theorem flat_len {α : Type} {f : Dc → List (Str × α)} (ds : List Dc) (i : Nat) : ((ds.take i).flatMap f).length ≤ (ds.flatMap f).length := by
  conv => rhs; rw [← List.take_append_drop i ds, List.flatMap_append, List.length_append]
  omega
theorem flat_nd {α : Type} {f : Dc → List (Str × α)} {ds : List Dc} {i : Nat} {d : Dc} (h : ds[i]? = some d) (nd : ((ds.flatMap f).map (·.1)).Nodup) : ((f d).map (·.1)).Nodup ∧ ∀ x ∈ (f d).map (·.1), x ∉ ((ds.take i).flatMap f).map (·.1) := by
  have e : ds.flatMap f = ((ds.take i).flatMap f ++ f d) ++ (ds.drop (i + 1)).flatMap f := by
    rw [← flat_step h, ← List.flatMap_append, List.take_append_drop]
  rw [e, List.map_append, List.map_append, List.nodup_append] at nd
  have n2 := nd.1
  rw [List.nodup_append] at n2
  exact ⟨n2.2.1, fun x hx hy => n2.2.2 x hy x hx rfl⟩
theorem kof_keys (ds : List Dc) : (ds.flatMap kofM).map (·.1) = (ds.flatMap tagM).map (·.1) := by
  induction ds with
  | nil => rfl
  | cons d r ih =>
    rw [List.flatMap_cons, List.flatMap_cons, List.map_append, List.map_append, ih]
    congr 1
    cases d with
    | kind n us rows =>
      show (rows.map _).map _ = (rows.map _).map _
      rw [List.map_map, List.map_map]
      rfl
    | other h r => rfl
    | record n us fs => rfl
def spInit (C : Addr) : Sp := fun vs H Q _ => ∃ (p dx : Addr) (vp : V) (ds : List Dc), vs = [.ref p, vp] ∧ H p = some (.ins C dx []) ∧ Rep H vp (.tup (ds.map Dc.t)) ∧ OkDs ds ∧
  ∀ (d1 d2 d3 d4 d5 : Addr) H', SO C H' p dx d1 d2 d3 d4 d5 (ds.flatMap tagM) (ds.flatMap kofM) (ds.flatMap tofM) (ds.flatMap recM) (ds.flatMap fldM) → (∀ b o, H b = some o → b ≠ p → H' b = some o) → Q .non H'
theorem sc_init : FnScope ["self", "program", "declaration"] ["self", "program"] (defScope (sm 0)) := ⟨rfl, rfl, rfl, by decide +kernel, rfl, by decide +kernel, by decide +kernel⟩
theorem kr_ne : ("record" : Str) ≠ "kind" := by decide +kernel
theorem pf1 (d1 d2 d3 d4 d5 : Addr) : putF "field_schemes" (.ref d5) (putF "record_schemes" (.ref d4) (putF "tags_of_kinds" (.ref d3) (putF "kinds_of_tags" (.ref d2) (putF "tag_schemes" (.ref d1) [])))) = fl d1 d2 d3 d4 d5 := by first | rfl | (with_unfolding_all rfl) | kernel_rfl
set_option maxHeartbeats 2000000 in
theorem ok_init (F : Fun K "__init__" "Sorts.__init__" (sm 0) f fd) (Tx : TxS K mg C) {fK fR : Addr} {gK gR : FuncData} (GK : FnOk P w K mg base CX0 2 fK gK ["self", "declaration"] (spTakeK C)) (bK : Binds K gK ["self", "declaration"] []) (mK : Meth K C "take_kind" fK)
    (GR : FnOk P w K mg base CX0 2 fR gR ["self", "declaration"] (spTakeR C)) (bR : Binds K gR ["self", "declaration"] []) (mR : Meth K C "take_record" fR) : FnOk P w K mg base CX0 3 f fd ["self", "program"] (spInit C) := by
  refine F.ok sc_init (fun vs H Q E h => ?_) (fun cdv A outer s H vs Q E hr h => ?_)
  · obtain ⟨p, dx, vp, ds, rfl, _⟩ := h
    rfl
  obtain ⟨p, dx, vp, ds, rfl, hp, rp, ok, q⟩ := h
  have hr1 : Room 2 _ := hr.mono (by decide)
  refine ⟨_, pss_cons (ps_fld (pv 0) pe_dnewK rfl) (pss_cons (ps_fld (pv 0) pe_dnewK rfl) (pss_cons (ps_fld (pv 0) pe_dnewK rfl) (pss_cons (ps_fld (pv 0) pe_dnewK rfl) (pss_cons (ps_fld (pv 0) pe_dnewK rfl)
    (pss_one (ps_for PassesOwn.never rfl (pi_tup (pv 1)) (pg_name (i := 2) sc_init.nd rfl (Or.inl rfl))
      (pss_one (ps_if (pt_cmpR op_eq (pe_ix ix_tup (pv 2) pe_int (fun _ _ => rfl)) pe_str (nomark _))
        (pss_one (ps_expr (pe_meth (pv 0) Tx.cl mK GK hr1 bK .nil pass0 (pa_cons (pv 2) pa_nil))))
        (pss_one (ps_if (pt_cmpR op_eq (pe_ix ix_tup (pv 2) pe_int (fun _ _ => rfl)) pe_str (nomark _)) (pss_one (ps_expr (pe_meth (pv 0) Tx.cl mR GR hr1 bR .nil pass0 (pa_cons (pv 2) pa_nil)))) pss_nil)))))))))), ?_⟩
  have st : ∀ {H : Hp} {d : Addr} {fs fs' : List (Str × V)} (hp : H p = some (.ins C dx fs)) (hd : H d = none), (upd H d (.dK [])) p = some (.ins C dx fs) ∧ (upd (upd H d (.dK [])) p (.ins C dx fs')) p = some (.ins C dx fs') ∧ (upd (upd H d (.dK [])) p (.ins C dx fs')) d = some (.dK []) ∧ (∀ b o, H b = some o → b ≠ p → (upd (upd H d (.dK [])) p (.ins C dx fs')) b = some o) := by
    intro H d fs fs' hp hd
    have n : p ≠ d := ne_of_none hp hd
    refine ⟨by rw [upd_ne n]; exact hp, upd_same, by rw [upd_ne (Ne.symm n), upd_same], fun b o h hb => ?_⟩
    rw [upd_ne hb, upd_ne (ne_of_none h hd)]
    exact h
  intro d1 h1
  obtain ⟨a1, b1, c1, k1⟩ := st (fs' := putF "tag_schemes" (.ref d1) []) hp h1
  have np1 : d1 ≠ p := Ne.symm (ne_of_none hp h1)
  refine ⟨_, rfl, p, C, dx, [], rfl, a1, Tx.cl, Tx.n1, (by show 0 < 1000; decide), ?_⟩
  revert b1 c1 k1
  generalize upd (upd H d1 (.dK [])) p (.ins C dx (putF "tag_schemes" (.ref d1) [])) = H1
  intro b1 c1 k1
  intro d2 h2
  obtain ⟨a2, b2, c2, k2⟩ := st (fs' := putF "kinds_of_tags" (.ref d2) (putF "tag_schemes" (.ref d1) [])) b1 h2
  have np2 : d2 ≠ p := Ne.symm (ne_of_none b1 h2)
  have n12 : d1 ≠ d2 := ne_of_none c1 h2
  have c12 := k2 _ _ c1 np1
  refine ⟨_, rfl, p, C, dx, _, rfl, a2, Tx.cl, Tx.n2, (by have := pf_len "tag_schemes" (.ref d1) []; simp at this; omega), ?_⟩
  revert b2 c2 k2 c12
  generalize upd (upd H1 d2 (.dK [])) p (.ins C dx (putF "kinds_of_tags" (.ref d2) (putF "tag_schemes" (.ref d1) []))) = H2
  intro b2 c2 k2 c12
  intro d3 h3
  obtain ⟨a3, b3, c3, k3⟩ := st (fs' := putF "tags_of_kinds" (.ref d3) (putF "kinds_of_tags" (.ref d2) (putF "tag_schemes" (.ref d1) []))) b2 h3
  have np3 : d3 ≠ p := Ne.symm (ne_of_none b2 h3)
  have n13 : d1 ≠ d3 := ne_of_none c12 h3
  have n23 : d2 ≠ d3 := ne_of_none c2 h3
  have c13 := k3 _ _ c12 np1
  have c23 := k3 _ _ c2 np2
  refine ⟨_, rfl, p, C, dx, _, rfl, a3, Tx.cl, Tx.n3, (by have := pf_len "tag_schemes" (.ref d1) []; have := pf_len "kinds_of_tags" (.ref d2) (putF "tag_schemes" (.ref d1) []); simp at *; omega), ?_⟩
  revert b3 c3 k3 c13 c23
  generalize upd (upd H2 d3 (.dK [])) p (.ins C dx (putF "tags_of_kinds" (.ref d3) (putF "kinds_of_tags" (.ref d2) (putF "tag_schemes" (.ref d1) [])))) = H3
  intro b3 c3 k3 c13 c23
  intro d4 h4
  obtain ⟨a4, b4, c4, k4⟩ := st (fs' := putF "record_schemes" (.ref d4) (putF "tags_of_kinds" (.ref d3) (putF "kinds_of_tags" (.ref d2) (putF "tag_schemes" (.ref d1) [])))) b3 h4
  have np4 : d4 ≠ p := Ne.symm (ne_of_none b3 h4)
  have n14 : d1 ≠ d4 := ne_of_none c13 h4
  have n24 : d2 ≠ d4 := ne_of_none c23 h4
  have n34 : d3 ≠ d4 := ne_of_none c3 h4
  have c14 := k4 _ _ c13 np1
  have c24 := k4 _ _ c23 np2
  have c34 := k4 _ _ c3 np3
  refine ⟨_, rfl, p, C, dx, _, rfl, a4, Tx.cl, Tx.n4, (by have := pf_len "tag_schemes" (.ref d1) []; have := pf_len "kinds_of_tags" (.ref d2) (putF "tag_schemes" (.ref d1) []); have := pf_len "tags_of_kinds" (.ref d3) (putF "kinds_of_tags" (.ref d2) (putF "tag_schemes" (.ref d1) [])); simp at *; omega), ?_⟩
  revert b4 c4 k4 c14 c24 c34
  generalize upd (upd H3 d4 (.dK [])) p (.ins C dx (putF "record_schemes" (.ref d4) (putF "tags_of_kinds" (.ref d3) (putF "kinds_of_tags" (.ref d2) (putF "tag_schemes" (.ref d1) []))))) = H4
  intro b4 c4 k4 c14 c24 c34
  intro d5 h5
  obtain ⟨a5, b5, c5, k5⟩ := st (fs' := putF "field_schemes" (.ref d5) (putF "record_schemes" (.ref d4) (putF "tags_of_kinds" (.ref d3) (putF "kinds_of_tags" (.ref d2) (putF "tag_schemes" (.ref d1) []))))) b4 h5
  have n15 : d1 ≠ d5 := ne_of_none c14 h5
  have n25 : d2 ≠ d5 := ne_of_none c24 h5
  have n35 : d3 ≠ d5 := ne_of_none c34 h5
  have n45 : d4 ≠ d5 := ne_of_none c4 h5
  have c15 := k5 _ _ c14 np1
  have c25 := k5 _ _ c24 np2
  have c35 := k5 _ _ c34 np3
  have c45 := k5 _ _ c4 np4
  refine ⟨_, rfl, p, C, dx, _, rfl, a5, Tx.cl, Tx.n5, (by have := pf_len "tag_schemes" (.ref d1) []; have := pf_len "kinds_of_tags" (.ref d2) (putF "tag_schemes" (.ref d1) []); have := pf_len "tags_of_kinds" (.ref d3) (putF "kinds_of_tags" (.ref d2) (putF "tag_schemes" (.ref d1) [])); have := pf_len "record_schemes" (.ref d4) (putF "tags_of_kinds" (.ref d3) (putF "kinds_of_tags" (.ref d2) (putF "tag_schemes" (.ref d1) []))); simp at *; omega), ?_⟩
  revert b5 c5 k5 c15 c25 c35 c45
  generalize upd (upd H4 d5 (.dK [])) p (.ins C dx (putF "field_schemes" (.ref d5) (putF "record_schemes" (.ref d4) (putF "tags_of_kinds" (.ref d3) (putF "kinds_of_tags" (.ref d2) (putF "tag_schemes" (.ref d1) [])))))) = H5
  intro b5 c5 k5 c15 c25 c35 c45
  rw [pf1] at b5
  have S0 : SO C H5 p dx d1 d2 d3 d4 d5 [] [] [] [] [] := ⟨b5, by simp [n12, n13, n14, n15, n23, n24, n25, n34, n35, n45], ⟨[], c15, .nil⟩, ⟨[], c25, .nil⟩, ⟨[], c35, .nil⟩, ⟨[], c45, .nil⟩, [], c5, .nil⟩
  have keep : ∀ b o, H b = some o → b ≠ p → H5 b = some o := fun b o h hb => k5 b o (k4 b o (k3 b o (k2 b o (k1 b o h hb) hb) hb) hb) hb
  have tu0 : ∀ b xs, H b = some (.tup xs) → H5 b = some (.tup xs) := fun b xs h => keep b _ h (ne_of h hp (by intro z; cases z))
  cases rp with
  | @tup a xs _ ha ra =>
  have lx := ra.length
  rw [List.length_map] at lx
  have ha5 := tu0 _ _ ha
  refine ⟨_, rfl, a, rfl, ⟨_, SqT.of ha5⟩, for_tup (xs := xs) (fun i σ H' => ∃ o2, σ = [some (.ref p), some (.ref a), o2] ∧ SO C H' p dx d1 d2 d3 d4 d5 ((ds.take i).flatMap tagM) ((ds.take i).flatMap kofM) ((ds.take i).flatMap tofM) ((ds.take i).flatMap recM) ((ds.take i).flatMap fldM) ∧ Kp [d1, d2, d3, d4, d5] H5 H')
    ⟨none, rfl, by simpa using S0, fun b o q _ => q⟩ ?_ ?_ ?_⟩
  · rintro i σ H' hi ⟨o2, rfl, S', k'⟩
    exact SqT.of (S0.tup k' _ _ ha5)
  · rintro i x σ H6 hx ⟨o2, rfl, S6, k6⟩
    obtain ⟨td, htd, rx⟩ := ra.at3 hx
    rw [List.getElem?_map] at htd
    cases ed : ds[i]? with
    | none => rw [ed] at htd; cases htd
    | some d =>
    rw [ed] at htd
    cases htd
    have dm := List.mem_of_getElem? ed
    have rx6 := (rx.mono tu0).mono (S0.tup k6)
    have e1 := flat_step (f := tagM) ed
    have e2 := flat_step (f := kofM) ed
    have e3 := flat_step (f := tofM) ed
    have e4 := flat_step (f := recM) ed
    have e5 := flat_step (f := fldM) ed
    have w1 := flat_len (f := tagM) ds i
    have w2 := flat_len (f := kofM) ds i
    have w3 := flat_len (f := tofM) ds i
    have w4 := flat_len (f := recM) ds i
    have w5 := flat_len (f := fldM) ds i
    have lkt : (ds.flatMap kofM).length = (ds.flatMap tagM).length := by have := congrArg List.length (kof_keys ds); simpa using this
    have := ok.b1
    have := ok.b3
    have := ok.b4
    have := ok.b5
    rw [e1, e2, e3, e4, e5]
    cases d with
    | other h r =>
      obtain ⟨g1, g2⟩ := ok.oth h r dm
      cases rx6 with
      | @tup da dvs _ hda rda =>
      cases rda with
      | @cons y0 _ yr _ q0 ryr =>
      cases q0
      have j0 : atI (V.str h :: yr) (0 : Int) = some (.str h) := atI_nat (j := 0) rfl
      refine ⟨_, rfl, da, _, 0, _, rfl, rfl, SqT.of hda, j0, rfl, _, rfl, ?_⟩
      rw [decide_eq_false (fun e => g1 (by injection e))]
      refine iteF ⟨_, rfl, da, _, 0, _, rfl, rfl, SqT.of hda, j0, rfl, _, rfl, ?_⟩
      rw [decide_eq_false (fun e => g2 (by injection e))]
      refine iteF ⟨_, rfl, ?_, k6⟩
      show SO C H6 p dx d1 d2 d3 d4 d5 (_ ++ []) (_ ++ []) (_ ++ []) (_ ++ []) (_ ++ [])
      rw [List.append_nil, List.append_nil, List.append_nil, List.append_nil, List.append_nil]
      exact S6
    | kind n us rows =>
      obtain ⟨g1, g2⟩ := ok.kin n us rows dm
      obtain ⟨f1, f2⟩ := flat_nd ed ok.n1
      obtain ⟨_, f4⟩ := flat_nd ed ok.n3
      have ek : (tagM (.kind n us rows)).map (·.1) = rows.map (·.1) := by
        show (rows.map _).map _ = _
        rw [List.map_map]
        rfl
      rw [ek] at f1 f2
      have rx7 := rx6
      cases rx7 with
      | @tup da dvs _ hda rda =>
      cases rda with
      | @cons y0 _ yr _ q0 ryr =>
      cases q0
      refine ⟨_, rfl, da, _, 0, _, rfl, rfl, SqT.of hda, atI_nat (j := 0) rfl, rfl, _, rfl, ?_⟩
      rw [decide_eq_true rfl]
      refine iteT ⟨_, rfl, p, dx, _, rfl, S6.ob, fl_take_kind _ _ _ _ _, _, rfl, p, dx, d1, d2, d3, d4, d5, _, _, _, _, _, .ref da, n, us, rows, rfl, S6, rx6, g1, g2, by omega, by omega, by omega, f1, fun r hr => ⟨f2 _ (List.mem_map_of_mem hr), ?_⟩, f4 n (by simp [tofM]), fun H7 S7 k7 => ⟨_, rfl, ?_, k6.trans k7⟩⟩
      · rw [kof_keys]
        exact f2 _ (List.mem_map_of_mem hr)
      · show SO C H7 p dx d1 d2 d3 d4 d5 _ _ _ (_ ++ []) (_ ++ [])
        rw [List.append_nil, List.append_nil]
        exact S7
    | record n us fs =>
      obtain ⟨g1, g2⟩ := ok.rec_ n us fs dm
      obtain ⟨f1, f2⟩ := flat_nd ed ok.n5
      obtain ⟨_, f4⟩ := flat_nd ed ok.n4
      have ek : (fldM (.record n us fs)).map (·.1) = fs.map (·.1) := by
        show (fs.map _).map _ = _
        rw [List.map_map]
        rfl
      rw [ek] at f1 f2
      have rx7 := rx6
      cases rx7 with
      | @tup da dvs _ hda rda =>
      cases rda with
      | @cons y0 _ yr _ q0 ryr =>
      cases q0
      have j0 : atI (V.str "record" :: yr) (0 : Int) = some (.str "record") := atI_nat (j := 0) rfl
      refine ⟨_, rfl, da, _, 0, _, rfl, rfl, SqT.of hda, j0, rfl, _, rfl, ?_⟩
      rw [decide_eq_false (fun e => kr_ne (by injection e))]
      refine iteF ⟨_, rfl, da, _, 0, _, rfl, rfl, SqT.of hda, j0, rfl, _, rfl, ?_⟩
      rw [decide_eq_true rfl]
      refine iteT ⟨_, rfl, p, dx, _, rfl, S6.ob, fl_take_record _ _ _ _ _, _, rfl, p, dx, d1, d2, d3, d4, d5, _, _, _, _, _, .ref da, n, us, fs, rfl, S6, rx6, g1, g2, by omega, by omega, f1, fun r hr => f2 _ (List.mem_map_of_mem hr), f4 n (by simp [recM]), fun H7 S7 k7 => ⟨_, rfl, ?_, k6.trans k7⟩⟩
      show SO C H7 p dx d1 d2 d3 d4 d5 (_ ++ []) (_ ++ []) (_ ++ []) _ _
      rw [List.append_nil, List.append_nil, List.append_nil]
      exact S7
  · rintro σ H6 ⟨o2, rfl, S6, k6⟩
    rw [lx, List.take_length] at S6
    refine q d1 d2 d3 d4 d5 H6 S6 fun b o h hb => k6 b o (keep b o h hb) ?_
    simp only [List.mem_cons, List.not_mem_nil, or_false, not_or]
    exact ⟨ne_of_none h h1, ne_of_none (k1 _ _ h hb) h2, ne_of_none (k2 _ _ (k1 _ _ h hb) hb) h3, ne_of_none (k3 _ _ (k2 _ _ (k1 _ _ h hb) hb) hb) h4, ne_of_none (k4 _ _ (k3 _ _ (k2 _ _ (k1 _ _ h hb) hb) hb) hb) h5⟩
end
end Fw

set_option Elab.async false
set_option linter.all false
set_option maxRecDepth 100000
namespace Fw
open PySem PySem.Spec PyProof.Rows L2
theorem comp_tupM {K : PySem.W.Frag} {H : Hp} {n : Nat} {a : Addr} {xs : List V} {g : TG} {tt : TT} {te : TE} {σ' : L2.St} {Q : VK} (Pv : Nat → List V → Hp → Prop) (h0 : Pv 0 [] H) (hl : ∀ i vs H, i ≤ xs.length → Pv i vs H → SqT K H a xs ∧ vs.length < sizeLine)
    (hs : ∀ i x vs H2 (τ : L2.St), τ.length = n → i < xs.length → xs[i]? = some x → Pv i vs H2 → g x (τ ++ σ') H2 fun σ1 H3 => (∃ τ' : L2.St, σ1 = τ' ++ σ' ∧ τ'.length = n) ∧ tt σ1 H3 fun b H4 => if b = true then te σ1 H4 fun v H5 => Nx xs.length i (Pv (i + 1) (vs ++ [v]) H5) else Nx xs.length i (Pv (i + 1) vs H4))
    (hd : ∀ vs H2, Pv xs.length vs H2 → ∀ l, H2 l = none → Q (.ref l) (upd H2 l (.lst vs))) : CompWM n (Itt K a) g tt te σ' Q H := by
  refine ⟨fun i m vs H => m = xs.length - i ∧ i ≤ xs.length ∧ Pv i vs H, ⟨xs.length, by simp, Nat.zero_le _, h0⟩, ?_⟩
  rintro i m vs H2 ⟨rfl, hi, p⟩
  obtain ⟨q1, q2⟩ := hl i vs H2 hi p
  refine ⟨q2, ?_⟩
  by_cases hlt : i < xs.length
  · refine .inr ⟨⟨xs, xs[i], q1, by simp [hlt]⟩, ?_⟩
    rintro τ x H3 lτ ⟨e, y⟩
    subst e
    exact hs i x vs _ τ lτ hlt (y xs q1) p
  · have e : i = xs.length := by omega
    subst e
    exact .inl ⟨⟨xs, q1, Nat.le_refl _⟩, hd vs H2 p⟩
/-- two lists of the same names -/
theorem lists_at {X : Cx} {pins : List (Addr × Obj)} {σ : L2.St} {H : Hp} {s : Shared} (I : Inv X pins σ H s) {a b : Addr} {zs : List Str} (ha : H a = some (.lst (zs.map V.str))) (hb : H b = some (.lst (zs.map V.str))) :
    ∃ i1 i2 : List Value, s.heap.IsList a i1.toArray ∧ s.heap.IsList b i2.toArray ∧ i1.toArray.size = i2.toArray.size ∧ ∀ (A : Around) (j : Nat) (h1 : j < i1.toArray.size) (h2 : j < i2.toArray.size), SeqAt.EqAt A s i1.toArray[j] i2.toArray[j] true := by
  obtain ⟨z1, its1, n1, v1, p1⟩ := I.hok a _ ha
  obtain ⟨z2, its2, n2, v2, p2⟩ := I.hok b _ hb
  have l3 := v1.length
  have l4 := v2.length
  refine ⟨its1, its2, ⟨_, p1, rfl, _, rfl⟩, ⟨_, p2, rfl, _, rfl⟩, by simp; omega, fun A j h1 h2 => ?_⟩
  have h1' : j < its1.length := by simpa using h1
  obtain ⟨x', hx'⟩ : ∃ x', (zs.map V.str)[j]? = some x' := ⟨(zs.map V.str)[j]'(by omega), List.getElem?_eq_getElem _⟩
  obtain ⟨u1, hu1', ru1⟩ := v1.get hx'
  obtain ⟨u2, hu2', ru2⟩ := v2.get hx'
  have e1 : its1.toArray[j] = u1 := by simpa using (List.getElem?_eq_some_iff.mp hu1').2
  have e2 : its2.toArray[j] = u2 := by simpa using (List.getElem?_eq_some_iff.mp hu2').2
  rw [e1, e2]
  rw [List.getElem?_map] at hx'
  cases ez : zs[j]? with
  | none => rw [ez] at hx'; cases hx'
  | some z =>
    rw [ez] at hx'
    cases hx'
    obtain ⟨t1, rfl⟩ := ru1
    obtain ⟨t2, rfl⟩ := ru2
    have := SeqAt.EqAt.str_str (A := A) (s := s) z t1 z t2
    rw [beq_self_eq_true] at this
    exact this
theorem op_eqLs {X : Cx} (hu : X.A.units + 64 < cLine) : OpR X (compareOp .Eq) (fun x y H Q => ∃ (a b : Addr) (zs : List Str), x = .ref a ∧ y = .ref b ∧ H a = some (.lst (zs.map V.str)) ∧ H b = some (.lst (zs.map V.str)) ∧ Q (.bl true) H) := by
  intro pins s σ H x y v u Q I rx ry h
  obtain ⟨a, b, zs, rfl, rfl, ha, hb, q⟩ := h
  cases rx
  cases ry
  obtain ⟨i1, i2, p1, p2, hs, he⟩ := lists_at I ha hb
  have qq := SeqAt.RcAt.lists (A := X.A) (s := s) (e := fun _ => true) p1 p2 hs (by omega) fun j h1 h2 => he X.A.in1 j h1 h2
  have ha' : (List.range i1.toArray.size).all (fun _ => true) = true := by simp
  rw [ha'] at qq
  exact qq X.prog X.w _ _ ⟨.bl true, H, I, rfl, q⟩
theorem op_neLs {X : Cx} (hu : X.A.units + 64 < cLine) : OpR X (compareOp .NotEq) (fun x y H Q => ∃ (a b : Addr) (zs : List Str), x = .ref a ∧ y = .ref b ∧ H a = some (.lst (zs.map V.str)) ∧ H b = some (.lst (zs.map V.str)) ∧ Q (.bl false) H) := by
  intro pins s σ H x y v u Q I rx ry h
  obtain ⟨a, b, zs, rfl, rfl, ha, hb, q⟩ := h
  cases rx
  cases ry
  obtain ⟨i1, i2, p1, p2, hs, he⟩ := lists_at I ha hb
  have qq := SeqAt.RcNeAt.lists (A := X.A) (s := s) (e := fun _ => true) p1 p2 hs (by omega) fun j h1 h2 => he X.A.in1 j h1 h2
  have ha' : (List.range i1.toArray.size).all (fun _ => true) = true := by simp
  rw [ha'] at qq
  exact qq X.prog X.w _ _ ⟨.bl false, H, I, rfl, q⟩
def Dc.ok : Dc → Prop
  | .other _ _ => False
  | .kind _ us rows => us.length ≤ 100 ∧ rows.length ≤ 100 ∧ ∀ r ∈ rows, r.2.length ≤ 4 ∧ ∀ k ∈ r.2, DpT 10 k
  | .record _ us fs => us.length ≤ 100 ∧ fs.length ≤ 4 ∧ ∀ r ∈ fs, DpT 10 r.2
def spRight (C : Addr) : Sp := fun vs H Q _ => ∃ (p dx d1 d2 d3 d4 d5 : Addr) (vr : V) (ds : List Dc) (d : Dc), vs = [.ref p, vr] ∧ SO C H p dx d1 d2 d3 d4 d5 (ds.flatMap tagM) (ds.flatMap kofM) (ds.flatMap tofM) (ds.flatMap recM) (ds.flatMap fldM) ∧
  OkDs ds ∧ d ∈ ds ∧ d.ok ∧ Rep H vr d.t ∧ ∀ H', Same H H' → Q (.bl true) H'
def Dc.last : Dc → T
  | .other h _ => .str h
  | .kind n us _ => ownT n us
  | .record n us _ => ownT n us
theorem pss_weak {X : Cx} {sts : List Stmt} {t t' : TS} (h : PSs X sts t) (q : ∀ D σ H, t' D σ H → t D σ H) : PSs X sts t' := fun a b c d e f g => h a b c d e f (q _ _ _ g)
def tR (C : Addr) : TS := fun D σ H => ∃ (p dx d1 d2 d3 d4 d5 : Addr) (vr vl : V) (ds : List Dc) (d : Dc), σ = [some (.ref p), some vr, some vl, none, none, none] ∧ SO C H p dx d1 d2 d3 d4 d5 (ds.flatMap tagM) (ds.flatMap kofM) (ds.flatMap tofM) (ds.flatMap recM) (ds.flatMap fldM) ∧
  OkDs ds ∧ d ∈ ds ∧ d.ok ∧ Rep H vr d.t ∧ Rep H vl d.last ∧ ∀ H', Same H H' → D.rt (.bl true) H'
theorem flat_look {α : Type} {f : Dc → List (Str × α)} {ds : List Dc} {d : Dc} {x : Str × α} (hd : d ∈ ds) (hx : x ∈ f d) (nd : ((ds.flatMap f).map (·.1)).Nodup) : (ds.flatMap f).lookup x.1 = some x.2 := lookup_nd nd x (List.mem_flatMap.mpr ⟨d, hd, hx⟩)
theorem dp_us (us : List Str) : DpT 20 (.tup (us.map T.str)) := .tup (n := 19) fun k hk => by
  obtain ⟨y, _, rfl⟩ := List.mem_map.mp hk
  exact .str
theorem dp_sch {us : List Str} {t : T} (h : DpT 20 t) : DpT 21 (schT us t) := .tup fun k hk => by
  rcases List.mem_cons.mp hk with rfl | hk
  · exact dp_us us
  · rw [List.mem_singleton.mp hk]; exact h
theorem dp_own (n : Str) (us : List Str) : DpT 10 (ownT n us) := DpT.form.up (by decide)
section
variable {P : Program} {w : World} {K : PySem.W.Frag} {mg : Str → Option Value} {base : Heap} {f : Addr} {fd : FuncData} {C : Addr}
abbrev s_right : Stmt := top 16
theorem sc_right : FnScope ["_law_sorts", "_law_row", "_law_last", "_law_tag", "_law_told", "_law_due"] ["_law_sorts", "_law_row"] (defScope s_right) := ⟨rfl, rfl, rfl, by decide +kernel, rfl, by decide +kernel, by decide +kernel⟩
theorem rt_nd : ((["_law_name", "_law_kind_here"] : List Str) ++ ([] : List Str)).Nodup := by decide +kernel
theorem rt_nd3 : ((["_law_name", "_law_kind_here"] : List Str) ++ (["_law_sorts", "_law_row", "_law_last"] : List Str)).Nodup := by decide +kernel
set_option maxHeartbeats 4000000 in
theorem ok_right (F : Fun K "_law_row_right" "_law_row_right" s_right f fd) (Tx : TxS K mg C) (ml : mg "len" = none) (ma : mg "all" = none) (mi : mg "isinstance" = none) (mL : mg "list" = none) (hA : Has P w K mg base 5 "_law_arrow" ["_law_kinds", "_law_last"] (spArrowN 5))
    {f1 f2 f3 f4 f5 : Addr} {g1 g2 g3 g4 g5 : FuncData} (G1 : FnOk P w K mg base CX0 1 f1 g1 ["self", "name"] (spGet C 1)) (b1 : Binds K g1 ["self", "name"] []) (M1 : Meth K C "tag" f1) (G5 : FnOk P w K mg base CX0 1 f5 g5 ["self", "name"] (spGet C 5)) (b5 : Binds K g5 ["self", "name"] []) (M5 : Meth K C "field" f5)
    (G4 : FnOk P w K mg base CX0 1 f4 g4 ["self", "name"] (spGet C 4)) (b4 : Binds K g4 ["self", "name"] []) (M4 : Meth K C "record" f4) (G2 : FnOk P w K mg base CX0 1 f2 g2 ["self", "name"] (spGet C 2)) (b2 : Binds K g2 ["self", "name"] []) (M2 : Meth K C "kind_of" f2)
    (G3 : FnOk P w K mg base CX0 1 f3 g3 ["self", "name"] (spTags C)) (b3 : Binds K g3 ["self", "name"] []) (M3 : Meth K C "tags" f3) : FnOk P w K mg base CX0 6 f fd ["_law_sorts", "_law_row"] (spRight C) := by
  refine F.ok sc_right (fun vs H Q E h => ?_) (fun cdv A outer s H vs Q E hr h => ?_)
  · obtain ⟨p, dx, d1, d2, d3, d4, d5, vr, ds, d, rfl, _⟩ := h
    rfl
  obtain ⟨p, dx, d1, d2, d3, d4, d5, vr, ds, d, rfl, S, ok, hd, dok, rd, q⟩ := h
  have hu64 := hr.units
  have hr1 : Room 1 _ := hr.mono (by decide)
  refine ⟨_, pss_cons (ps_set (i := 2) sc_right.nd rfl (Or.inr rfl) (pe_ifExp (pt_cmpR op_eq (pe_callB call_len_seq rfl ml PySem.boot_len (pa_cons (pe_ix ix_tup (pv 1) pe_int (fun _ _ => rfl)) pa_nil)) pe_int (nomark _)) (pe_ix ix_tup (pv 1) pe_int (fun _ _ => rfl))
      (pe_op op_catT (pe_tup (pa_cons (pe_ix ix_tup (pv 1) pe_int (fun _ _ => rfl)) pa_nil)) (pe_ix ix_tup (pv 1) pe_int (fun _ _ => rfl)))))
    (pss_weak (t' := tR C) (pss_cons (ps_if (pt_cmpR op_eq (pe_ix ix_tup (pv 1) pe_int (fun _ _ => rfl)) pe_str (nomark _))
      (pss_cons (ps_if (pt_cmpR (op_neS hu64) (pe_meth (pv 0) Tx.cl M4 G4 hr1 b4 .nil pass0 (pa_cons (pe_ix ix_tup (pv 1) pe_int (fun _ _ => rfl)) pa_nil))
          (pe_tup (pa_cons (pe_ix ix_tup (pv 1) pe_int (fun _ _ => rfl)) (pa_cons (pcall hA hr (by decide) rfl (pa_cons
            (pe_lcM (g := gTup K 2 (gCons (gName 0) (gCons (gName 1) gNil))) (defScope s_right) ["_law_sorts", "_law_row", "_law_last", "_law_tag", "_law_told", "_law_due"] ["_law_name", "_law_kind_here"] [] [] (by decide +kernel) (pi_tup (pe_slice sl_tup (pv 1) (po_some pe_int) po_none))
              (fun C s₀ H₀ ex => pg_tup (n := 2) rfl (pgs_cons (pg_name (i := 0) rt_nd rfl (Or.inl rfl) (Or.inr rfl)) (pgs_cons (pg_name (i := 1) rt_nd rfl (Or.inl rfl) (Or.inr rfl)) pgs_nil))) (fun C s₀ H₀ ex => pts_nil) (fun C s₀ H₀ ex => pv 1))
            (pa_cons (pv 2) pa_nil))) pa_nil))) (nomark _)) (pss_one (ps_ret pe_bl)) pss_nil)
      (pss_one (ps_ret (pe_callB (call_all rfl) rfl ma boot_all (pa_cons
        (pe_lcM (g := gTup K 2 (gCons (gName 0) (gCons (gName 1) gNil))) (defScope s_right) ["_law_sorts", "_law_row", "_law_last", "_law_tag", "_law_told", "_law_due"] ["_law_name", "_law_kind_here"] ["_law_sorts", "_law_row", "_law_last"] [0, 1, 2] (by decide +kernel) (pi_tup (pe_slice sl_tup (pv 1) (po_some pe_int) po_none))
          (fun C s₀ H₀ ex => pg_tup (n := 2) rfl (pgs_cons (pg_name (i := 0) rt_nd3 rfl (Or.inl rfl) (Or.inr rfl)) (pgs_cons (pg_name (i := 1) rt_nd3 rfl (Or.inl rfl) (Or.inr rfl)) pgs_nil))) (fun C s₀ H₀ ex => pts_nil)
          (fun C' s₀ H₀ ex => pe_cmpR (op_eqS hu64) (pe_meth (C := C) (pv 2) Tx.cl M5 G5 hr1 b5 .nil pass0 (pa_cons (pv 0) pa_nil)) (pe_tup (pa_cons (pe_ix (r := rIxT K) ix_tup (pv 3) pe_int (fun _ _ => rfl)) (pa_cons (pe_tup (pa_cons pe_str (pa_cons (pv 4) (pa_cons (pv 1) pa_nil)))) pa_nil))) (nomark _))) pa_nil))))) pss_nil)
    (pss_cons (ps_for PassesOwn.never rfl (pi_tup (pe_slice sl_tup (pv 1) (po_some pe_int) po_none)) (pg_name (i := 3) sc_right.nd rfl (Or.inl rfl))
      (pss_one (ps_if (PW.pt (pw_or (pt_cmpR (op_neS hu64) (pe_meth (pv 0) Tx.cl M1 G1 hr1 b1 .nil pass0 (pa_cons (pe_ix ix_tup (pv 3) pe_int (fun _ _ => rfl)) pa_nil))
            (pe_tup (pa_cons (pe_ix ix_tup (pv 1) pe_int (fun _ _ => rfl)) (pa_cons (pcall hA hr (by decide) rfl (pa_cons (pe_slice sl_tup (pv 3) (po_some pe_int) po_none) (pa_cons (pv 2) pa_nil))) pa_nil))) (nomark _))
          (pw_or1 (pt_cmpR op_ne (pe_meth (pv 0) Tx.cl M2 G2 hr1 b2 .nil pass0 (pa_cons (pe_ix ix_tup (pv 3) pe_int (fun _ _ => rfl)) pa_nil)) (pe_ix ix_tup (pv 1) pe_int (fun _ _ => rfl)) (nomark _))))) (pss_one (ps_ret pe_bl)) pss_nil)))
    (pss_cons (ps_set (i := 4) sc_right.nd rfl (Or.inl rfl) (pe_meth (pv 0) Tx.cl M3 G3 hr1 b3 .nil pass0 (pa_cons (pe_ix ix_tup (pv 1) pe_int (fun _ _ => rfl)) pa_nil)))
    (pss_cons (ps_lc (defScope s_right) ["_law_sorts", "_law_row", "_law_last", "_law_tag", "_law_told", "_law_due"] [] [] (by decide +kernel) (pi_tup (pe_slice sl_tup (pv 1) (po_some pe_int) po_none)) (pg_name (i := 5) sc_right.nd rfl (Or.inl rfl)) (fun C s₀ H₀ ex => pts_nil) (fun C s₀ H₀ ex => pe_ix (r := rIxT K) ix_tup (pv 0) pe_int (fun _ _ => rfl)) (by with_unfolding_all rfl))
    (pss_cons (ps_if (PW.pt (pw_or (pt_not (pt_val (pe_callB call_isi rfl mi boot_isinstance (pa_cons (pv 4) (pa_cons (pe_bltn (v := .ty "list") rfl mL boot_list rfl) pa_nil))))) (pw_or1 (pt_cmpR (op_neLs hu64) (pv 4) (pv 5) (nomark _))))) (pss_one (ps_ret pe_bl)) pss_nil)
    (pss_cons (ps_expr (pe_bm PySem.F.plainAttrs_list PySem.F.slot_list_append PySem.F.type_list_append mt_append (pv 4) (pa_cons (pe_ix ix_tup (pv 1) pe_int (fun _ _ => rfl)) pa_nil)))
    (pss_one (ps_ret (pe_cmpR (op_eqLs hu64) (pe_meth (pv 0) Tx.cl M3 G3 hr1 b3 .nil pass0 (pa_cons (pe_ix ix_tup (pv 1) pe_int (fun _ _ => rfl)) pa_nil)) (pv 5) (nomark _)))))))))) ?qr), ?_⟩
  case qr =>
    rintro D σ H ⟨p, dx, d1, d2, d3, d4, d5, vr, vl, ds, d, rfl, S, ok, hd, dok, rd, rl, fin⟩
    cases d with
    | other h r => exact dok.elim
    | record n us fs =>
      obtain ⟨lu, lf, dfs⟩ := dok
      have rd0 := rd
      cases rd with
      | @tup a xs _ ha ra =>
      cases ra with
      | @cons x0 _ xs1 _ r0 ra =>
      cases ra with
      | @cons x1 _ xs2 _ r1 ra =>
      cases ra with
      | @cons x2 _ xr _ r2 rxr =>
      cases r0
      cases r1
      rename_i hn
      cases r2 with
      | @tup va vvs _ hva rva =>
      have i0 : atI (V.str "record" :: V.str n :: V.ref va :: xr) (0 : Int) = some (.str "record") := atI_nat (j := 0) rfl
      have i1 : atI (V.str "record" :: V.str n :: V.ref va :: xr) (1 : Int) = some (.str n) := atI_nat (j := 1) rfl
      have i2 : atI (V.str "record" :: V.str n :: V.ref va :: xr) (2 : Int) = some (.ref va) := atI_nat (j := 2) rfl
      have c3 : cutV (V.str "record" :: V.str n :: V.ref va :: xr) (some 3) none = xr := cutq (V.str "record" :: V.str n :: V.ref va :: xr) 3
      have c3n := cutq_not (vs := V.str "record" :: V.str n :: V.ref va :: xr) (n := 3) (by simp) (by decide)
      have lxr := rxr.length
      rw [List.length_map] at lxr
      have lk4 : (ds.flatMap recM).lookup n = some (schT us (arrT (fs.map (·.2)) (ownT n us))) := flat_look (x := (n, schT us (arrT (fs.map (·.2)) (ownT n us)))) hd List.mem_cons_self ok.n4
      have lk5 : ∀ r ∈ fs, (ds.flatMap fldM).lookup r.1 = some (schT us (.tup [.str "->", ownT n us, r.2])) := fun r hr => flat_look (x := (r.1, schT us (.tup [.str "->", ownT n us, r.2]))) hd (List.mem_map.mpr ⟨r, hr, rfl⟩) ok.n5
      have dpa : DpT 20 (arrT (fs.map (·.2)) (ownT n us)) := (DpT.arr (n := 10) (dp_own n us) fun k hk => by
        obtain ⟨r, hr, rfl⟩ := List.mem_map.mp hk
        exact dfs r hr).up (by rw [List.length_map]; omega)
      have row : ∀ {H' : Hp} {i : Nat} {x : V}, Same H H' → xr[i]? = some x → ∃ (r : Str × T) (ra_ : Addr) (y : V), fs[i]? = some r ∧ x = .ref ra_ ∧ H' ra_ = some (.tup [.str r.1, y]) ∧ Rep H' y r.2 := by
        intro H' i x e hx
        obtain ⟨tr, htr, rx⟩ := rxr.at3 hx
        rw [List.getElem?_map] at htr
        cases er : fs[i]? with
        | none => rw [er] at htr; cases htr
        | some r =>
        rw [er] at htr
        cases htr
        cases rx.same e with
        | @tup ra_ vs_ _ hra rra =>
        cases rra with
        | @cons y0 _ yr _ q0 ryr =>
        cases ryr with
        | @cons y1 _ yr2 _ q1 ryr2 =>
        cases q0
        cases ryr2
        exact ⟨r, ra_, y1, rfl, rfl, hra, q1⟩
      refine ⟨_, rfl, a, _, 0, _, rfl, rfl, SqT.of ha, i0, rfl, _, rfl, ?_⟩
      rw [decide_eq_true rfl]
      refine iteT ⟨_, rfl, p, dx, _, rfl, S.ob, fl_record _ _ _ _ _, _, rfl, a, _, 1, _, rfl, rfl, SqT.of ha, i1, p, dx, d1, d2, d3, d4, d5, _, _, _, _, _, n, _, rfl, S, lk4, fun v rv => ?_⟩
      refine ⟨_, rfl, a, _, 2, _, rfl, rfl, SqT.of ha, i2, _, rfl, 3, rfl, a, _, rfl, SqT.of ha, c3n, fun p2 hp2 => ?_⟩
      rw [c3]
      have e2 := same_new hp2 (.tup xr)
      refine ⟨p2, rfl, ⟨_, SqT.of upd_same⟩, comp_tupM (xs := xr) (fun i vs H' => H' = upd H p2 (.tup xr) ∧ Reps H' vs ((fs.map (·.2)).take i)) ⟨rfl, .nil⟩ ?_ ?_ ?_⟩
      · rintro i vs H' hi ⟨rfl, rv⟩
        have := rv.length
        rw [List.length_take, List.length_map] at this
        exact ⟨SqT.of upd_same, small' (by omega)⟩
      · rintro i x vs H' τ lτ hi hx ⟨rfl, rvs⟩
        obtain ⟨r, ra_, y, er, rfl, hra, ry⟩ := row e2 hx
        match τ, lτ with
        | [t1, t2], _ =>
          refine ⟨ra_, [.str r.1, y], rfl, SqT.of hra, rfl, .str r.1, [y], rfl, y, [], rfl, rfl, ⟨[some (.str r.1), some y], rfl, rfl⟩, ?_⟩
          refine tt1 (iteT ⟨_, rfl, nx hi ⟨rfl, ?_⟩⟩)
          have et : (fs.map (·.2)).take (i + 1) = (fs.map (·.2)).take i ++ [r.2] := by rw [List.take_add_one, List.getElem?_map, er]; rfl
          rw [et]
          exact rvs.append (.cons ry .nil)
      · rintro vks H' ⟨rfl, rvk⟩ lk hlk
        have ef : (fs.map (·.2)).take xr.length = fs.map (·.2) := List.take_of_length_le (by rw [List.length_map]; omega)
        rw [ef] at rvk
        have e3 := same_new hlk (.lst vks)
        have e13 := e2.trans e3
        refine ⟨_, rfl, lk, vks, _, vl, ownT n us, rfl, .inl upd_same, rvk.same e3, by rw [List.length_map]; omega, rl.same e13, fun va' H4 e4 rva' => ⟨small (by show 2 ≤ 1000000; decide), fun pt hpt => ?_⟩⟩
        have e5 := same_new hpt (.tup [.ref va, va'])
        have e15 := (e13.trans e4).trans e5
        refine ⟨_, 21, by decide, rv.same e15, .tup upd_same (.cons ((Rep.tup hva rva).same e15) (.cons (rva'.same e5) .nil)), dp_sch dpa, false, rfl, iteF ?_⟩
        revert e15
        generalize upd H4 pt (.tup [.ref va, va']) = H5
        intro e15
        refine ⟨_, rfl, 3, rfl, a, _, rfl, SqT.of (e15 _ _ ha), c3n, fun p6 hp6 => ?_⟩
        rw [c3]
        have e6 := e15.trans (same_new hp6 (.tup xr))
        have hp66 : (upd H5 p6 (.tup xr)) p6 = some (.tup xr) := upd_same
        revert e6 hp66
        generalize upd H5 p6 (.tup xr) = H6
        intro e6 hp66
        refine ⟨p6, rfl, ⟨_, SqT.of hp66⟩, comp_tupM (xs := xr) (fun i vs H' => Same H6 H' ∧ vs = List.replicate i (V.bl true)) ⟨Same.refl _, rfl⟩ ?_ ?_ ?_⟩
        · rintro i vs H' hi ⟨e, rfl⟩
          exact ⟨SqT.of (e _ _ hp66), small' (by rw [List.length_replicate]; omega)⟩
        · rintro i x vs H7 τ lτ hi hx ⟨e7, rfl⟩
          have e07 := e6.trans e7
          obtain ⟨r, ra_, y, er, rfl, hra, ry⟩ := row e07 hx
          have rm := List.mem_of_getElem? er
          match τ, lτ with
          | [t1, t2], _ =>
            refine ⟨ra_, [.str r.1, y], rfl, SqT.of hra, rfl, .str r.1, [y], rfl, y, [], rfl, rfl, ⟨[some (.str r.1), some y], rfl, rfl⟩, ?_⟩
            have S7 := S.same e07
            refine tt1 (iteT ⟨_, rfl, p, dx, _, rfl, S7.ob, fl_field _ _ _ _ _, _, rfl, p, dx, d1, d2, d3, d4, d5, _, _, _, _, _, r.1, _, rfl, S7, lk5 r rm, fun v rv => ?_⟩)
            refine ⟨_, rfl, a, _, 2, _, rfl, rfl, SqT.of (e07 _ _ ha), i2, _, rfl, _, rfl, small (by show 3 ≤ 1000000; decide), fun pa hpa => ⟨small (by show 2 ≤ 1000000; decide), fun pt' hpt' => ?_⟩⟩
            have e8 := same_new hpa (.tup [.str "->", vl, y])
            have e9 := same_new hpt' (.tup [.ref va, .ref pa])
            have e89 := e8.trans e9
            refine ⟨_, 21, by decide, rv.same e89, .tup upd_same (.cons ((Rep.tup hva rva).same (e07.trans e89)) (.cons (.tup (e9 _ _ upd_same) (.cons (.str _ (by have := arrow_len; omega)) (.cons (rl.same (e07.trans e89)) (.cons (ry.same e89) .nil)))) .nil)), dp_sch ?_, nx hi ⟨e7.trans e89, ?_⟩⟩
            · refine .tup (n := 19) fun k hk => ?_
              rcases List.mem_cons.mp hk with rfl | hk
              · exact .str
              · rcases List.mem_cons.mp hk with rfl | hk
                · exact (dp_own n us).up (by decide)
                · rw [List.mem_singleton.mp hk]; exact (dfs r rm).up (by decide)
            · rw [List.replicate_succ']
        · rintro vs H7 ⟨e7, rfl⟩ l hl
          refine ⟨l, List.replicate xr.length true, rfl, ?_, ?_⟩
          · rw [List.map_replicate]
            exact SqL.of upd_same
          · have : (List.replicate xr.length true).all id = true := by
              rw [List.all_eq_true]
              intro b hb
              rw [(List.mem_replicate.mp hb).2]
              rfl
            rw [this]
            exact fin _ ((e6.trans e7).trans (same_new hl _))
    | kind n us rows =>
      obtain ⟨lu, lrw, drs⟩ := dok
      cases rd with
      | @tup a xs _ ha ra =>
      cases ra with
      | @cons x0 _ xs1 _ r0 ra =>
      cases ra with
      | @cons x1 _ xs2 _ r1 ra =>
      cases ra with
      | @cons x2 _ xr _ r2 rxr =>
      cases r0
      cases r1
      rename_i hn
      cases r2 with
      | @tup va vvs _ hva rva =>
      have i0 : atI (V.str "kind" :: V.str n :: V.ref va :: xr) (0 : Int) = some (.str "kind") := atI_nat (j := 0) rfl
      have i1 : atI (V.str "kind" :: V.str n :: V.ref va :: xr) (1 : Int) = some (.str n) := atI_nat (j := 1) rfl
      have i2 : atI (V.str "kind" :: V.str n :: V.ref va :: xr) (2 : Int) = some (.ref va) := atI_nat (j := 2) rfl
      have c3 : cutV (V.str "kind" :: V.str n :: V.ref va :: xr) (some 3) none = xr := cutq (V.str "kind" :: V.str n :: V.ref va :: xr) 3
      have c3n := cutq_not (vs := V.str "kind" :: V.str n :: V.ref va :: xr) (n := 3) (by simp) (by decide)
      have lxr := rxr.length
      rw [List.length_map] at lxr
      have lk1 : ∀ r ∈ rows, (ds.flatMap tagM).lookup r.1 = some (schT us (arrT r.2 (ownT n us))) := fun r hr => flat_look (x := (r.1, schT us (arrT r.2 (ownT n us)))) hd (List.mem_map.mpr ⟨r, hr, rfl⟩) ok.n1
      have lk2 : ∀ r ∈ rows, (ds.flatMap kofM).lookup r.1 = some (.str n) := fun r hr => flat_look (x := (r.1, T.str n)) hd (List.mem_map.mpr ⟨r, hr, rfl⟩) (by rw [kof_keys]; exact ok.n1)
      have lk3 : (ds.flatMap tofM).lookup n = some (rows.map (·.1)) := flat_look (x := (n, rows.map (·.1))) hd List.mem_cons_self ok.n3
      have row : ∀ {H' : Hp} {i : Nat} {x : V}, Same H H' → xr[i]? = some x → ∃ (r : Str × List T) (ra_ : Addr) (ys : List V), rows[i]? = some r ∧ x = .ref ra_ ∧ H' ra_ = some (.tup (.str r.1 :: ys)) ∧ Reps H' ys r.2 := by
        intro H' i x e hx
        obtain ⟨tr, htr, rx⟩ := rxr.at3 hx
        rw [List.getElem?_map] at htr
        cases er : rows[i]? with
        | none => rw [er] at htr; cases htr
        | some r =>
        rw [er] at htr
        cases htr
        cases rx.same e with
        | @tup ra_ vs_ _ hra rra =>
        cases rra with
        | @cons y0 _ yr _ q0 ryr =>
        cases q0
        exact ⟨r, ra_, yr, rfl, rfl, hra, ryr⟩
      refine ⟨_, rfl, a, _, 0, _, rfl, rfl, SqT.of ha, i0, rfl, _, rfl, ?_⟩
      rw [decide_eq_false (fun e => kr_ne (by injection e with e; exact e.symm))]
      refine iteF ⟨_, rfl, 3, rfl, a, _, rfl, SqT.of ha, c3n, fun p2 hp2 => ?_⟩
      rw [c3]
      have e2 := same_new hp2 (.tup xr)
      have hp22 : (upd H p2 (.tup xr)) p2 = some (.tup xr) := upd_same
      revert e2 hp22
      generalize upd H p2 (.tup xr) = H2
      intro e2 hp22
      refine ⟨p2, rfl, ⟨_, SqT.of hp22⟩, for_tup (xs := xr) (fun i σ H' => ∃ o3, σ = [some (.ref p), some (.ref a), some vl, o3, none, none] ∧ Same H2 H') ⟨none, rfl, Same.refl _⟩ ?_ ?_ ?_⟩
      · rintro i σ H' hi ⟨o3, rfl, e⟩
        exact SqT.of (e _ _ hp22)
      · rintro i x σ H3 hx ⟨o3, rfl, e3⟩
        have e03 := e2.trans e3
        obtain ⟨r, ra_, ys, er, rfl, hra, rys⟩ := row e03 hx
        have rm := List.mem_of_getElem? er
        obtain ⟨lr4, dk⟩ := drs r rm
        have S3 := S.same e03
        have ha3 := e03 _ _ ha
        have j0 : atI (V.str r.1 :: ys) (0 : Int) = some (.str r.1) := atI_nat (j := 0) rfl
        refine ⟨_, rfl, p, dx, _, rfl, S3.ob, fl_tag _ _ _ _ _, _, rfl, ra_, _, 0, _, rfl, rfl, SqT.of hra, j0, p, dx, d1, d2, d3, d4, d5, _, _, _, _, _, r.1, _, rfl, S3, lk1 r rm, fun v rv => ?_⟩
        refine ⟨_, rfl, a, _, 2, _, rfl, rfl, SqT.of ha3, i2, _, rfl, 1, rfl, ra_, _, rfl, SqT.of hra, cutq_not (vs := V.str r.1 :: ys) (n := 1) (by simp) (Nat.le_refl _), fun p5 hp5 => ?_⟩
        rw [show cutV (V.str r.1 :: ys) (some 1) none = ys from cutq (V.str r.1 :: ys) 1]
        have e5 := same_new hp5 (.tup ys)
        refine ⟨_, rfl, p5, ys, r.2, vl, ownT n us, rfl, .inr upd_same, rys.same e5, lr4, (rl.same e03).same e5, fun v6 H6 e6 rv6 => ⟨small (by show 2 ≤ 1000000; decide), fun pt hpt => ?_⟩⟩
        have e7 := same_new hpt (.tup [.ref va, v6])
        have e37 := (e5.trans e6).trans e7
        refine ⟨_, 21, by decide, rv.same e37, .tup upd_same (.cons ((Rep.tup hva rva).same (e03.trans e37)) (.cons (rv6.same e7) .nil)), dp_sch ((DpT.arr (n := 10) (dp_own n us) dk).up (by omega)), false, rfl, iteF ?_⟩
        revert e37
        generalize upd H6 pt (.tup [.ref va, v6]) = H7
        intro e37
        have S7 := S3.same e37
        refine ⟨_, rfl, p, dx, _, rfl, S7.ob, fl_kind_of _ _ _ _ _, _, rfl, ra_, _, 0, _, rfl, rfl, SqT.of (e37 _ _ hra), j0, p, dx, d1, d2, d3, d4, d5, _, _, _, _, _, r.1, _, rfl, S7, lk2 r rm, fun v8 rv8 => ?_⟩
        cases rv8
        refine ⟨_, rfl, a, _, 1, _, rfl, rfl, SqT.of (e37 _ _ ha3), i1, rfl, _, rfl, ?_⟩
        rw [decide_eq_true rfl]
        exact iteF ⟨_, rfl, e3.trans e37⟩
      · rintro σ H3 ⟨o3, rfl, e3⟩
        have e03 := e2.trans e3
        have S3 := S.same e03
        refine ⟨_, rfl, p, dx, _, rfl, S3.ob, fl_tags _ _ _ _ _, _, rfl, a, _, 1, _, rfl, rfl, SqT.of (e03 _ _ ha), i1, p, dx, d1, d2, d3, d4, d5, _, _, _, _, _, n, _, rfl, S3, lk3, fun lt H4 e4 hlt0 hlt4 => ?_⟩
        have e04 := e03.trans e4
        refine ⟨_, rfl, 3, rfl, a, _, rfl, SqT.of (e04 _ _ ha), c3n, fun p5 hp5 => ?_⟩
        rw [c3]
        have e5 := same_new hp5 (.tup xr)
        have e05 := e04.trans e5
        refine ⟨p5, rfl, ⟨_, SqT.of upd_same⟩, comp_tup (xs := xr) (fun i vs H' => H' = upd H4 p5 (.tup xr) ∧ vs = ((rows.map (·.1)).take i).map V.str) ⟨rfl, rfl⟩ ?_ ?_ ?_⟩
        · rintro i vs H' hi ⟨rfl, rfl⟩
          exact ⟨SqT.of upd_same, small' (by rw [List.length_map, List.length_take, List.length_map]; omega)⟩
        · rintro i x vs H' hi hx ⟨rfl, rfl⟩
          obtain ⟨r, ra_, ys, er, rfl, hra, rys⟩ := row e05 hx
          refine tt1 (iteT ⟨_, rfl, ra_, _, 0, _, rfl, rfl, SqT.of hra, atI_nat (j := 0) rfl, nx hi ⟨rfl, ?_⟩⟩)
          have et : (rows.map (·.1)).take (i + 1) = (rows.map (·.1)).take i ++ [r.1] := by rw [List.take_add_one, List.getElem?_map, er]; rfl
          rw [et, List.map_append]
          rfl
        · rintro vs H' ⟨rfl, rfl⟩ ld hld
          have ef : (rows.map (·.1)).take xr.length = rows.map (·.1) := List.take_of_length_le (by rw [List.length_map]; omega)
          rw [ef]
          have e6 := same_new hld (.lst ((rows.map (·.1)).map V.str))
          have e06 := e05.trans e6
          have hld6 : (upd (upd H4 p5 (.tup xr)) ld (.lst ((rows.map (·.1)).map V.str))) ld = some (.lst ((rows.map (·.1)).map V.str)) := upd_same
          have hlt6 := (e5.trans e6) _ _ hlt4
          have nl : lt ≠ ld := fun e => by rw [← e, e5 _ _ hlt4] at hld; cases hld
          revert e06 hld6 hlt6
          generalize upd (upd H4 p5 (.tup xr)) ld (.lst ((rows.map (·.1)).map V.str)) = H6
          intro e06 hld6 hlt6
          show tSeq _ _ _ [some (.ref p), some (.ref a), some vl, o3, some (.ref lt), some (.ref ld)] H6
          refine ⟨_, rfl, _, _, _, _, rfl, .lst hlt6, (by first | rfl | (with_unfolding_all rfl) | kernel_rfl), true, rfl, iteF ⟨_, rfl, _, rfl, lt, ld, _, rfl, rfl, hlt6, hld6, false, rfl, iteF ?_⟩⟩
          refine ⟨_, rfl, .inl ⟨rfl, _, SqL.of hlt6⟩, _, rfl, a, _, 1, _, rfl, rfl, SqT.of (e06 _ _ ha), i1, lt, _, _, rfl, rfl, hlt6, small' (by rw [List.length_map, List.length_map]; omega), ?_⟩
          have hlt00 : H lt = none := e03.free hlt0
          have e07 : Same H (upd H6 lt (.lst ((rows.map (·.1)).map V.str ++ [V.str n]))) := fun c u h => by rw [upd_ne (ne_of_none h hlt00)]; exact e06 c u h
          have hld7 : (upd H6 lt (.lst ((rows.map (·.1)).map V.str ++ [V.str n]))) ld = some (.lst ((rows.map (·.1)).map V.str)) := by rw [upd_ne (Ne.symm nl)]; exact hld6
          revert e07 hld7
          generalize upd H6 lt (.lst ((rows.map (·.1)).map V.str ++ [V.str n])) = H7
          intro e07 hld7
          have S7 := S.same e07
          refine ⟨_, rfl, p, dx, _, rfl, S7.ob, fl_tags _ _ _ _ _, _, rfl, a, _, 1, _, rfl, rfl, SqT.of (e07 _ _ ha), i1, p, dx, d1, d2, d3, d4, d5, _, _, _, _, _, n, _, rfl, S7, lk3, fun l8 H8 e8 hl80 hl88 => ?_⟩
          exact ⟨_, rfl, l8, ld, _, rfl, rfl, hl88, e8 _ _ hld7, fin _ (e07.trans e8)⟩
  obtain ⟨h, n, us, r, et, el, lu⟩ : ∃ h n us r, d.t = .tup (.str h :: .str n :: .tup (us.map T.str) :: r) ∧ d.last = ownT n us ∧ us.length ≤ 100 := by
    cases d with
    | other h r => exact dok.elim
    | kind n us rows => exact ⟨_, n, us, _, rfl, rfl, dok.1⟩
    | record n us fs => exact ⟨_, n, us, _, rfl, rfl, dok.1⟩
  have rd0 := rd
  rw [et] at rd0
  cases rd0 with
  | @tup a xs _ ha ra =>
  cases ra with
  | @cons x0 _ xs1 _ r0 ra =>
  cases ra with
  | @cons x1 _ xs2 _ r1 ra =>
  cases ra with
  | @cons x2 _ xr _ r2 rxr =>
  cases r0
  cases r1
  rename_i hh hn
  cases r2 with
  | @tup va vvs _ hva rva =>
  have i1 : atI (V.str h :: V.str n :: V.ref va :: xr) (1 : Int) = some (.str n) := atI_nat (j := 1) rfl
  have i2 : atI (V.str h :: V.str n :: V.ref va :: xr) (2 : Int) = some (.ref va) := atI_nat (j := 2) rfl
  have lva := rva.length
  rw [List.length_map] at lva
  refine ⟨_, rfl, a, _, 2, _, rfl, rfl, SqT.of ha, i2, va, vvs, rfl, .inr (SqT.of hva), rfl, _, rfl, ?_⟩
  cases us with
  | nil =>
    cases rva
    refine iteT ⟨_, rfl, a, _, 1, _, rfl, rfl, SqT.of ha, i1, ?_⟩
    exact ⟨p, dx, d1, d2, d3, d4, d5, .ref a, .str n, ds, d, rfl, S, ok, hd, dok, rd, by rw [el]; exact .str n hn, q⟩
  | cons u us =>
    rw [decide_eq_false (by intro e; injection e with e; rw [List.length_cons] at lva; omega)]
    refine iteF ⟨_, rfl, a, _, 1, _, rfl, rfl, SqT.of ha, i1, small (by show 1 ≤ 1000000; decide), fun p1 hp1 => ?_⟩
    have e1 := same_new hp1 (.tup [V.str n])
    refine ⟨_, rfl, a, _, 2, _, rfl, rfl, SqT.of (e1 _ _ ha), i2, p1, va, _, vvs, rfl, rfl, SqT.of upd_same, SqT.of (e1 _ _ hva), by simp, small (by simp at lva lu ⊢; omega), (fun e => by rw [e] at lva; simp at lva), fun _ p2 hp2 => ?_⟩
    have e2 := same_new hp2 (.tup ([V.str n] ++ vvs))
    have e12 := e1.trans e2
    refine ⟨p, dx, d1, d2, d3, d4, d5, .ref a, .ref p2, ds, d, rfl, S.same e12, ok, hd, dok, rd.same e12, ?_, fun H' e' => q H' (e12.trans e')⟩
    rw [el]
    exact .tup upd_same (.cons (.str n hn) (rva.same e12))
end
end Fw

set_option Elab.async false
set_option linter.all false
set_option maxRecDepth 100000
namespace L2
open PySem PySem.Spec PyProof.Rows
def rUp : V → List V → Hp → VK → Prop := fun x xs H Q => ∃ z, x = .str z ∧ xs = [] ∧ (Txt.upper z).length ≤ 1000 ∧ Q (.str (Txt.upper z)) H
theorem mt_upper {X : Cx} : MtR X "str.upper" rUp := by
  intro pins s σ H x xs v us Q I rx rs h
  obtain ⟨z, rfl, rfl, hl, q⟩ := h
  obtain ⟨t, rfl⟩ := rx
  cases rs
  exact SC.upper (by unfold Builtin.Str.tooLong; exact decide_eq_false (by have := sizeLine_eq; omega)) ⟨.str _, H, I.tok _, ⟨_, rfl⟩, q⟩
theorem strsAre_of : ∀ {zs : List Str} {us : List Value}, Vals (zs.map V.str) us → StrsAre us zs
  | [], _, .nil => .nil
  | _ :: _, _, .cons r q => by
    obtain ⟨t, rfl⟩ := r
    exact .cons _ t (strsAre_of q)
theorem mt_join {X : Cx} : MtR X "str.join" (fun x xs H Q => ∃ (y : Str) (l : Addr) (zs : List Str), x = .str y ∧ xs = [.ref l] ∧ H l = some (.lst (zs.map V.str)) ∧ (zs.map (·.length)).sum + zs.length * y.length ≤ 1000 ∧ Q (.str (Txt.join y zs)) H) := by
  intro pins s σ H x xs v us Q I rx rs h
  obtain ⟨y, l, zs, rfl, rfl, hl, hb, q⟩ := h
  obtain ⟨t, rfl⟩ := rx
  obtain ⟨u, rfl, ru⟩ := vals1 rs
  cases ru
  obtain ⟨z1, its1, n1, v1, p1⟩ := I.hok l _ hl
  exact join_list ⟨_, p1, rfl, _, rfl⟩ (strsAre_of v1) (by omega) fun t' k => ⟨.str _, H, I.tok _, ⟨_, rfl⟩, q⟩
end L2
namespace Fw
open PySem PySem.Spec PyProof.Rows L2
theorem slice_mem {x : Str} {l u : Option Int} {c : Nat} (h : c ∈ (Txt.slice x l u).cps.toList) : c ∈ x.cps.toList := by
  unfold Txt.slice at h
  split at h
  · exact h
  · simp only [List.mem_filterMap] at h
    obtain ⟨i, _, hi⟩ := h
    exact Array.mem_toList_iff.mpr (Array.mem_of_getElem? hi)
def Lets (z : Str) : Prop := ∀ c ∈ z.cps.toList, 97 ≤ c ∧ c ≤ 122
theorem Lets.app {a b : Str} (ha : Lets a) (hb : Lets b) : Lets (a ++ b) := fun c hc => by
  rw [cps_app] at hc
  rcases List.mem_append.mp hc with h | h
  · exact ha c h
  · exact hb c h
theorem Lets.one {c : Nat} (h : c ∈ smallS.cps.toList) : Lets ⟨#[c]⟩ := fun d hd => by
  have e : d = c := by simpa using hd
  subst e
  exact small_range (decide_eq_true h)
theorem one_len (c : Nat) : (⟨#[c]⟩ : Str).length = 1 := rfl
theorem upper_len : ∀ (l : List Nat), (∀ c ∈ l, c < 128) → (Txt.upper ⟨l.toArray⟩).length = l.length
  | [], _ => by decide +kernel
  | c :: r, h => by
    have e : (⟨(c :: r).toArray⟩ : Str) = ⟨#[c]⟩ ++ ⟨r.toArray⟩ := str_ext (by rw [cps_app]; simp)
    rw [e, PySem.W.KOpn.upper_app, len_app, PySem.W.KOpn.upper_one (h c List.mem_cons_self), upper_len r fun d hd => h d (List.mem_cons_of_mem _ hd)]
    show 1 + r.length = r.length + 1
    omega
theorem Lets.upper {z : Str} (h : Lets z) : (Txt.upper z).length = z.length := by
  have e : z = ⟨z.cps.toList.toArray⟩ := by simp
  rw [e, upper_len z.cps.toList fun c hc => by have := h c hc; omega]
  simp [Str.length]
/-! ### pools of words -/
theorem small_nd : smallS.cps.toList.Nodup := by decide +kernel
theorem upS : Txt.upper smallS = greatS := by decide +kernel
theorem great_nd : greatS.cps.toList.Nodup := by decide +kernel
theorem map_nd {α β : Type} {g : α → β} : ∀ {l : List α}, l.Nodup → (∀ a ∈ l, ∀ b ∈ l, g a = g b → a = b) → (l.map g).Nodup
  | [], _, _ => List.nodup_nil
  | a :: r, nd, h => by
    rw [List.nodup_cons] at nd
    rw [List.map_cons, List.nodup_cons]
    refine ⟨fun hm => ?_, map_nd nd.2 fun x hx y hy e => h x (List.mem_cons_of_mem _ hx) y (List.mem_cons_of_mem _ hy) e⟩
    obtain ⟨b, hb, e⟩ := List.mem_map.mp hm
    have := h a List.mem_cons_self b (List.mem_cons_of_mem _ hb) e.symm
    exact nd.1 (this ▸ hb)
theorem app_l {a b b' : Str} (h : a ++ b = a ++ b') : b = b' := by
  have := congrArg (fun z : Str => z.cps.toList) h
  simp only [cps_app] at this
  exact str_ext (List.append_cancel_left this)
theorem app_r {a a' b : Str} (h : a ++ b = a' ++ b) : a = a' := by
  have := congrArg (fun z : Str => z.cps.toList) h
  simp only [cps_app] at this
  exact str_ext (List.append_cancel_right this)
theorem one_inj {c d : Nat} (h : (⟨#[c]⟩ : Str) = ⟨#[d]⟩) : c = d := by
  injection h with h
  simpa using h
theorem head_one {c d : Nat} {a b : Str} (h : (⟨#[c]⟩ : Str) ++ a = ⟨#[d]⟩ ++ b) : c = d := by
  have := congrArg (fun z : Str => z.cps.toList) h
  simp only [cps_app] at this
  simpa using (List.cons.inj (show c :: a.cps.toList = d :: b.cps.toList from this)).1
theorem app_assoc (a b c : Str) : a ++ b ++ c = a ++ (b ++ c) := str_ext (by simp only [cps_app, List.append_assoc])
structure Pool (H : Hp) (st l : Addr) (zs : List Str) (lo hi : Nat) : Prop where
  at_ : H l = some (.lst (zs.map V.str))
  ne : l ≠ st
  nd : zs.Nodup
  lo : lo ≤ zs.length
  hi : zs.length ≤ hi
  len : ∀ z ∈ zs, z.length ≤ 20
theorem Pool.grow {H H' : Hp} {st l : Addr} {zs : List Str} {lo hi : Nat} (p : Pool H st l zs lo hi) (g : Grow st H H') : Pool H' st l zs lo hi := ⟨g.1 _ _ p.ne p.at_, p.ne, p.nd, p.lo, p.hi, p.len⟩
theorem Pool.same {H H' : Hp} {st l : Addr} {zs : List Str} {lo hi : Nat} (p : Pool H st l zs lo hi) (g : Same H H') : Pool H' st l zs lo hi := ⟨g _ _ p.at_, p.ne, p.nd, p.lo, p.hi, p.len⟩
theorem StOk.fresh {H : Hp} {st l : Addr} (h : StOk H st) (hl : H l = none) : l ≠ st := by
  obtain ⟨ns, _, _, h3⟩ := h
  intro e
  rw [e, h3] at hl
  cases hl
def letter (k : Nat) : Nat := smallS.cps.toList.getD k 0
theorem letter_at {k : Nat} (h : k < 26) : smallS.cps.toList[k]? = some (letter k) := by
  have : k < smallS.cps.toList.length := by rw [len_toList, smallS_len]; exact h
  unfold letter
  rw [List.getD_eq_getElem?_getD, List.getElem?_eq_getElem this]
  rfl
theorem letter_inj {a b : Nat} (ha : a < 26) (hb : b < 26) (h : letter a = letter b) : a = b := by
  have : ∀ a < 26, ∀ b < 26, letter a = letter b → a = b := by decide +kernel
  exact this a ha b hb h
theorem letter_lo {a : Nat} (ha : a < 26) : letter a ∈ smallS.cps.toList ∧ 97 ≤ letter a ∧ letter a ≤ 122 := by
  have : ∀ a < 26, letter a ∈ smallS.cps.toList ∧ 97 ≤ letter a ∧ letter a ≤ 122 := by decide +kernel
  exact this a ha
/-- the words, and those with a q behind that are not among them -/
def qs (zs : List Str) : List Str := (zs.filter fun z => !decide ((z ++ ("q" : Str) : Str) ∈ zs)).map fun z => (z ++ ("q" : Str) : Str)
theorem qs_nd {zs : List Str} (h : zs.Nodup) : (zs ++ qs zs).Nodup := by
  rw [List.nodup_append]
  refine ⟨h, map_nd (h.sublist List.filter_sublist) fun a _ b _ e => app_r e, fun a ha b hb e => ?_⟩
  obtain ⟨c, hc, rfl⟩ := List.mem_map.mp hb
  have := (List.mem_filter.mp hc).2
  rw [e] at ha
  simp [ha] at this
theorem qs_len (zs : List Str) : (qs zs).length ≤ zs.length := by unfold qs; rw [List.length_map]; exact List.length_filter_le _ _
structure WordsAt (H : Hp) (st : Addr) (wv : V) (ss gs as : List Str) : Prop where
  has : ∃ wa ls lg la : Addr, wv = .ref wa ∧ wa ≠ st ∧ H wa = some (.dK [(Sum.inr "small", .ref ls), (Sum.inr "great", .ref lg), (Sum.inr "any", .ref la)]) ∧ Pool H st ls ss 26 52 ∧ Pool H st lg gs 26 52 ∧ Pool H st la as 26 26
theorem q_len : ("q" : Str).length = 1 := by decide +kernel
end Fw

set_option Elab.async false
set_option linter.all false
set_option maxRecDepth 100000
namespace Fw
open PySem PySem.Spec PyProof.Rows L2
theorem comp_letters {x : Str} {te : TE} {σ' : L2.St} {Q : VK} {H : Hp} (g : Nat → Str) (hx : x.length ≤ 100) (he : ∀ c ∈ x.cps.toList, ∀ Q' : VK, Q' (.str (g c)) H → te (some (.str ⟨#[c]⟩) :: σ') H Q')
    (hd : ∀ l, H l = none → Q (.ref l) (upd H l (.lst ((x.cps.toList.map g).map V.str)))) : CompW (Its x) tTrue te σ' Q H := by
  have sz : x.cps.size = x.cps.toList.length := by simp
  have lx := len_toList x
  refine comp_str (fun i vs H' => H' = H ∧ vs = ((x.cps.toList.take i).map g).map V.str) ⟨rfl, rfl⟩ ?_ ?_ ?_
  · rintro i vs H' hi ⟨rfl, rfl⟩
    exact small' (by rw [List.length_map, List.length_map, List.length_take]; omega)
  · rintro i vs H' c hi hc ⟨rfl, rfl⟩
    have hc' : x.cps.toList[i]? = some c := by simpa using hc
    refine tt1 (iteT (he c (List.mem_of_getElem? hc') _ (nx hi ⟨rfl, ?_⟩)))
    rw [List.take_add_one, hc', List.map_append, List.map_append]
    rfl
  · rintro vs H' ⟨rfl, rfl⟩ l hl
    rw [sz, List.take_length]
    exact hd l hl
theorem comp_rangeP {n : Nat} {te : TE} {σ' : L2.St} {Q : VK} {H : Hp} (g : Nat → Str) (hn : n ≤ 100) (he : ∀ k : Nat, k < n → ∀ Q' : VK, Q' (.str (g k)) H → te (some (.int (0 + (k : Int))) :: σ') H Q')
    (hd : ∀ l, H l = none → Q (.ref l) (upd H l (.lst (((List.range n).map g).map V.str)))) : CompW (Itr 0 n) tTrue te σ' Q H := by
  refine comp_range (n := n) (fun i vs H' => H' = H ∧ vs = ((List.range i).map g).map V.str) ⟨rfl, rfl⟩ ?_ ?_ ?_
  · rintro i vs H' hi ⟨rfl, rfl⟩
    exact small' (by rw [List.length_map, List.length_map, List.length_range]; omega)
  · rintro i vs H' hi ⟨rfl, rfl⟩
    refine tt1 (iteT (he i hi _ (nx hi ⟨rfl, ?_⟩)))
    rw [List.range_succ, List.map_append, List.map_append]
    rfl
  · rintro vs H' ⟨rfl, rfl⟩ l hl
    exact hd l hl
def tW : TS := fun D σ H => ∃ (st : Addr) (stem : Str) (cut : Int) (ls lg : Addr) (ss gs : List Str), σ = [some (.ref st), some (.str smallS), some (.str stem), some (.int cut), some (.ref ls), some (.ref lg)] ∧ StOk H st ∧ Lets stem ∧ stem.length ≤ 5 ∧ Pool H st ls ss 26 26 ∧ Pool H st lg gs 26 26 ∧ (∀ z ∈ ss, z.length ≤ 15) ∧ (∀ z ∈ gs, z.length ≤ 15) ∧
  ∀ wv ss' gs' as' H', WordsAt H' st wv ss' gs' as' → Grow st H H' → D.rt wv H'
def spWords : Sp := fun vs H Q _ => ∃ (st : Addr), vs = [.ref st] ∧ StOk H st ∧ ∀ wv ss gs as H', WordsAt H' st wv ss gs as → Grow st H H' → Q wv H'
theorem x_len : ("x" : Str).length = 1 := by decide +kernel
theorem a_len : ("a" : Str).length = 1 := by decide +kernel
theorem qm_len : ("?" : Str).length = 1 := by decide +kernel
theorem lets_a : Lets "a" := by
  have : ∀ c ∈ ("a" : Str).cps.toList, 97 ≤ c ∧ c ≤ 122 := by decide +kernel
  exact this
theorem pool_new {H : Hp} {st l : Addr} (h : StOk H st) (hl : H l = none) {zs : List Str} {lo hi : Nat} (nd : zs.Nodup) (h1 : lo ≤ zs.length) (h2 : zs.length ≤ hi) (h3 : ∀ z ∈ zs, z.length ≤ 20) : Pool (upd H l (.lst (zs.map V.str))) st l zs lo hi := ⟨upd_same, h.fresh hl, nd, h1, h2, h3⟩
theorem small_l : smallS.cps.toList.length = 26 := by rw [len_toList, smallS_len]
theorem great_l : greatS.cps.toList.length = 26 := by rw [len_toList, greatS_len]
theorem glue_fold : ∀ (l : List Str) (acc : Array Nat), (l.foldl (fun acc p => acc ++ ("" : Str).cps ++ p.cps) acc).toList = acc.toList ++ (l.map (·.cps.toList)).flatten
  | [], acc => by simp
  | p :: r, acc => by
    rw [List.foldl_cons, glue_fold r]
    have e : ("" : Str).cps = #[] := by decide +kernel
    simp [e]
theorem glue_list (zs : List Str) : (Txt.join "" zs).cps.toList = (zs.map (·.cps.toList)).flatten := by
  cases zs with
  | nil => decide +kernel
  | cons z r =>
    show (r.foldl (fun acc p => acc ++ ("" : Str).cps ++ p.cps) z.cps).toList = _
    rw [glue_fold]
    simp
theorem flat_one : ∀ {zs : List Str}, (∀ z ∈ zs, z.length = 1) → ((zs.map (·.cps.toList)).flatten).length = zs.length
  | [], _ => rfl
  | z :: r, h => by
    rw [List.map_cons, List.flatten_cons, List.length_append, flat_one fun x hx => h x (List.mem_cons_of_mem _ hx), len_toList, h z List.mem_cons_self]
    show 1 + r.length = r.length + 1
    omega
theorem join_lets {zs : List Str} (h : ∀ z ∈ zs, z.length = 1 ∧ Lets z) : Lets (Txt.join "" zs) ∧ (Txt.join "" zs).length = zs.length := by
  constructor
  · intro c hc
    rw [glue_list] at hc
    obtain ⟨l, hl, hm⟩ := List.mem_flatten.mp hc
    obtain ⟨z, hz, rfl⟩ := List.mem_map.mp hl
    exact (h z hz).2 c hm
  · rw [← len_toList, glue_list]
    exact flat_one fun z hz => (h z hz).1
theorem sum_one : ∀ {zs : List Str}, (∀ z ∈ zs, z.length = 1) → (zs.map (·.length)).sum = zs.length
  | [], _ => rfl
  | z :: r, h => by
    rw [List.map_cons, List.sum_cons, h z List.mem_cons_self, sum_one fun x hx => h x (List.mem_cons_of_mem _ hx)]
    show 1 + r.length = r.length + 1
    omega
theorem sl_len (z : Str) (l u : Option Int) : (Txt.slice z l u).length ≤ z.length := Txt.slice_le z l u
/-- the words with a q behind, by the comprehension -/
theorem comp_q {K : PySem.W.Frag} {H : Hp} {l : Addr} {zs : List Str} {te : TE} {tt : TT} {σ' : L2.St} {Q : VK} (hl : H l = some (.lst (zs.map V.str))) (hz : zs.length ≤ 1000)
    (ht : ∀ z ∈ zs, ∀ Q' : Bool → Hp → Prop, Q' (!decide ((z ++ ("q" : Str) : Str) ∈ zs)) H → tt (some (.str z) :: σ') H Q') (he : ∀ z ∈ zs, ∀ Q' : VK, Q' (.str (z ++ "q")) H → te (some (.str z) :: σ') H Q')
    (hd : ∀ p, H p = none → Q (.ref p) (upd H p (.lst ((qs zs).map V.str)))) : CompW (Itl K l) tt te σ' Q H := by
  refine comp_lst (xs := zs.map V.str) (fun i vs H' => H' = H ∧ vs = ((((zs.take i).filter fun z => !decide ((z ++ ("q" : Str) : Str) ∈ zs)).map fun z => (z ++ ("q" : Str) : Str))).map V.str) ⟨rfl, rfl⟩ ?_ ?_ ?_
  · rintro i vs H' hi ⟨rfl, rfl⟩
    refine ⟨SqL.of hl, small' ?_⟩
    rw [List.length_map, List.length_map]
    have := List.length_filter_le (fun z => !decide ((z ++ ("q" : Str) : Str) ∈ zs)) (zs.take i)
    rw [List.length_take] at this
    omega
  · rintro i x vs H' hi hx ⟨rfl, rfl⟩
    rw [List.getElem?_map] at hx
    cases ez : zs[i]? with
    | none => rw [ez] at hx; cases hx
    | some z =>
    rw [ez] at hx
    cases hx
    have zm := List.mem_of_getElem? ez
    have et : (zs.take (i + 1)).filter (fun z => !decide ((z ++ ("q" : Str) : Str) ∈ zs)) = (zs.take i).filter (fun z => !decide ((z ++ ("q" : Str) : Str) ∈ zs)) ++ (if (!decide ((z ++ ("q" : Str) : Str) ∈ zs)) = true then [z] else []) := by
      rw [List.take_add_one, ez, List.filter_append]
      congr 1
      show List.filter _ [z] = _
      rw [List.filter_cons, List.filter_nil]
    refine ht z zm _ ?_
    by_cases c : (!decide ((z ++ ("q" : Str) : Str) ∈ zs)) = true
    · rw [if_pos c] at et
      rw [if_pos c]
      refine he z zm _ (nx hi ⟨rfl, ?_⟩)
      rw [et, List.map_append, List.map_append]
      rfl
    · rw [if_neg c, List.append_nil] at et
      rw [if_neg c]
      exact nx hi ⟨rfl, by rw [et]⟩
  · rintro vs H' ⟨rfl, rfl⟩ p hp
    rw [List.length_map, List.take_length]
    exact hd p hp
theorem keys3 : ("small" : Str) ≠ "great" ∧ ("small" : Str) ≠ "any" ∧ ("great" : Str) ≠ "any" := by decide +kernel
theorem merge3 (a b c : V) : mergeK [] ([(Sum.inr "small", a), (Sum.inr "great", b), (Sum.inr "any", c)] : List (Key × V)) = ([(Sum.inr "small", a), (Sum.inr "great", b), (Sum.inr "any", c)] : List (Key × V)) := by
  obtain ⟨h1, h2, h3⟩ := keys3
  have e1 : ¬ ((Sum.inr ("small" : Str) : Key) = Sum.inr ("great" : Str)) := fun e => h1 (Sum.inr.inj e)
  have e2 : ¬ ((Sum.inr ("small" : Str) : Key) = Sum.inr ("any" : Str)) := fun e => h2 (Sum.inr.inj e)
  have e3 : ¬ ((Sum.inr ("great" : Str) : Key) = Sum.inr ("any" : Str)) := fun e => h3 (Sum.inr.inj e)
  simp only [mergeK, putK, List.foldl_cons, List.foldl_nil, List.any_nil, List.any_cons, Bool.false_eq_true, if_false, List.nil_append, List.cons_append, decide_eq_false e1, decide_eq_false e2, decide_eq_false e3, Bool.or_false, Bool.false_or]
section
variable {P : Program} {w : World} {K : PySem.W.Frag} {mg : Str → Option Value} {base : Heap} {f : Addr} {fd : FuncData} {C : Addr}
abbrev s_words : Stmt := top 10
abbrev nW : List Str := ["_law_state", "_law_letters", "_law_stem", "_law_cut", "_law_small", "_law_great"]
theorem sc_words : FnScope nW ["_law_state"] (defScope s_words) := ⟨rfl, rfl, rfl, by decide +kernel, rfl, by decide +kernel, by decide +kernel⟩
set_option maxHeartbeats 4000000 in
theorem ok_words (F : Fun K "_law_words" "_law_words" s_words f fd) (ml : mg "len" = none) (mr : mg "range" = none) (h1 : Has P w K mg base 1 "_law_next" ["_law_state", "_law_many"] spNext) : FnOk P w K mg base CX0 2 f fd ["_law_state"] spWords := by
  refine F.ok sc_words (fun vs H Q E h => ?_) (fun cdv A outer s H vs Q E hr h => ?_)
  · obtain ⟨st, rfl, _⟩ := h
    rfl
  obtain ⟨st, rfl, hs, q⟩ := h
  refine ⟨_, pss_cons (ps_set (i := 1) sc_words.nd rfl (Or.inr rfl) pe_str)
    (pss_cons (ps_set (i := 2) sc_words.nd rfl (Or.inr rfl) (pe_bm PySem.F.plainAttrs_str PySem.F.slot_str_join PySem.F.type_str_join mt_join pe_str (pa_cons
      (pe_lc (defScope s_words) nW ["_law_state", "_law_letters"] [0, 1] (by decide +kernel) (pi_range1 rfl mr (pa_cons (pcall h1 hr (by decide) rfl (pa_cons (pv 0) (pa_cons pe_int pa_nil))) pa_nil)) (fun C s₀ H₀ ex => pts_nil)
        (fun C s₀ H₀ ex => pe_ix ix_str (pv 2) (pcall h1 hr (by decide) rfl (pa_cons (pv 1) (pa_cons pe_int pa_nil))) (fun _ _ => rfl))) pa_nil)))
    (pss_cons (ps_set (i := 3) sc_words.nd rfl (Or.inr rfl) (pcall h1 hr (by decide) rfl (pa_cons (pv 0) (pa_cons (pe_op op_add (pe_callB call_len_str rfl ml PySem.boot_len (pa_cons (pv 2) pa_nil)) pe_int) pa_nil))))
    (pss_cons (ps_set (i := 4) sc_words.nd rfl (Or.inr rfl) (pe_lc (defScope s_words) nW ["_law_stem", "_law_cut"] [2, 3] (by decide +kernel) (pi_str (pv 1)) (fun C s₀ H₀ ex => pts_nil)
        (fun C s₀ H₀ ex => pe_op op_add_str (pe_op op_add_str (pe_op op_add_str (pe_slice sl_str (pv 1) po_none (po_some (pv 2))) pe_str) (pv 0)) (pe_slice sl_str (pv 1) (po_some (pv 2)) po_none))))
    (pss_cons (ps_set (i := 5) sc_words.nd rfl (Or.inr rfl) (pe_lc (defScope s_words) nW ["_law_stem"] [2] (by decide +kernel) (pi_str (pe_bm0 PySem.F.plainAttrs_str PySem.F.slot_str_upper PySem.F.type_str_upper mt_upper (pv 1))) (fun C s₀ H₀ ex => pts_nil)
        (fun C s₀ H₀ ex => pe_op op_add_str (pv 0) (pv 1))))
    (pss_cons (ps_if (pt_cmpR op_eq (pcall h1 hr (by decide) rfl (pa_cons (pv 0) (pa_cons pe_int pa_nil))) pe_int (nomark _))
      (pss_one (ps_set (i := 5) sc_words.nd rfl (Or.inr rfl) (pe_lc (defScope s_words) nW ["_law_stem"] [2] (by decide +kernel) (pi_str (pv 1)) (fun C s₀ H₀ ex => pts_nil)
        (fun C s₀ H₀ ex => pe_op op_add_str (pe_op op_add_str (show PE _ _ (tBM0 K "str" rUp _) from pe_bm0 PySem.F.plainAttrs_str PySem.F.slot_str_upper PySem.F.type_str_upper mt_upper (pe_slice sl_str (pe_op op_add_str (pv 1) pe_str) po_none (po_some pe_int))) (pv 0)) (pe_slice sl_str (pv 1) (po_some pe_int) po_none))))) pss_nil)
    (pss_weak (t' := tW) (pss_cons (ps_if (pt_cmpR op_eq (pcall h1 hr (by decide) rfl (pa_cons (pv 0) (pa_cons pe_int pa_nil))) pe_int (nomark _))
      (pss_cons (ps_set (i := 4) sc_words.nd rfl (Or.inr rfl) (pe_lc (defScope s_words) nW ["_law_letters", "_law_stem"] [1, 2] (by decide +kernel) (pi_range1 rfl mr (pa_cons pe_int pa_nil)) (fun C s₀ H₀ ex => pts_nil)
        (fun C s₀ H₀ ex => pe_op op_add_str (pe_op op_add_str (pe_ix ix_str (pv 1) (pe_op op_sub pe_int (pv 0)) (fun _ _ => rfl)) pe_str) (pe_slice sl_str (pv 2) po_none (po_some (pe_op op_mod (pe_op op_mul (pv 0) pe_int) pe_int))))))
      (pss_one (ps_set (i := 5) sc_words.nd rfl (Or.inr rfl) (pe_lc (defScope s_words) nW ["_law_letters", "_law_stem"] [1, 2] (by decide +kernel) (pi_range1 rfl mr (pa_cons pe_int pa_nil)) (fun C s₀ H₀ ex => pts_nil)
        (fun C s₀ H₀ ex => pe_op op_add_str (show PE _ _ (tBM0 K "str" rUp _) from pe_bm0 PySem.F.plainAttrs_str PySem.F.slot_str_upper PySem.F.type_str_upper mt_upper (pe_ix ix_str (pv 1) (pe_op op_sub pe_int (pv 0)) (fun _ _ => rfl))) (pe_slice sl_str (pv 2) po_none (po_some (pe_op op_mod (pe_op op_mul (pv 0) pe_int) pe_int)))))))) pss_nil)
    (pss_weak (t' := tW) (pss_cons (ps_set (i := 4) sc_words.nd rfl (Or.inr rfl) (pe_op op_cat (pv 4) (pe_lc (defScope s_words) nW ["_law_small"] [4] (by decide +kernel) (pi_list (pv 4))
        (fun C s₀ H₀ ex => pts_one (pt_cmpR (r := rIn K true) op_notIn_seq (pe_op op_add_str (pv 0) pe_str) (pv 1) (by with_unfolding_all rfl))) (fun C s₀ H₀ ex => pe_op op_add_str (pv 0) pe_str))))
    (pss_cons (ps_set (i := 5) sc_words.nd rfl (Or.inr rfl) (pe_op op_cat (pv 5) (pe_lc (defScope s_words) nW ["_law_great"] [5] (by decide +kernel) (pi_list (pv 5))
        (fun C s₀ H₀ ex => pts_one (pt_cmpR (r := rIn K true) op_notIn_seq (pe_op op_add_str (pv 0) pe_str) (pv 1) (by with_unfolding_all rfl))) (fun C s₀ H₀ ex => pe_op op_add_str (pv 0) pe_str))))
    (pss_one (ps_ret (pe_disp (pps_cons pe_str (pv 4) (pps_cons pe_str (pv 5) (pps_cons pe_str (pe_lc (defScope s_words) nW ["_law_stem"] [2] (by decide +kernel) (pi_str (pv 1)) (fun C s₀ H₀ ex => pts_nil) (fun C s₀ H₀ ex => pe_op op_add_str (pe_op op_add_str pe_str (pv 0)) (pv 1))) pps_nil))) rfl rfl (by simp) (by decide)))))) ?q3)) ?q2))))))
    , ?_⟩
  case q3 =>
    rintro D σ H ⟨st, stem, cut, ls, lg, ss, gs, rfl, hs, lets, l5, ps, pg, h15, g15, fin⟩
    have s26 := ps.hi
    have g26 := pg.hi
    have ad : ∀ z ∈ ss, ∀ Q' : VK, Q' (.str (z ++ "q")) H → tOp (fun x y H Q => ∃ i j, x = .str i ∧ y = .str j ∧ i.length + j.length ≤ sizeLine ∧ Q (.str (i ++ j)) H) (tVar 0) (tC (.str "q")) (some (.str z) :: [some (.ref ls)]) H Q' := fun z hz Q' q' =>
      ⟨_, rfl, z, "q", rfl, rfl, small (by have := h15 z hz; rw [q_len]; omega), q'⟩
    refine ⟨_, rfl, _, rfl, ls, rfl, ⟨_, SqL.of ps.at_⟩, comp_q ps.at_ (by omega) (fun z hz Q' q' => ?_) (fun z hz Q' q' => ⟨_, rfl, z, "q", rfl, rfl, small (by have := h15 z hz; rw [q_len]; omega), q'⟩) fun p1 hp1 => ?_⟩
    · refine ⟨_, rfl, z, "q", rfl, rfl, small (by have := h15 z hz; rw [q_len]; omega), _, rfl, ls, ss.map V.str, rfl, .inl (SqL.of ps.at_), rfl, flat_strs ss, _, rfl, ?_⟩
      rw [inV_str]
      exact q'
    have e1 := same_new hp1 (.lst ((qs ss).map V.str))
    have lq := qs_len ss
    refine ⟨ls, p1, _, _, rfl, rfl, e1 _ _ ps.at_, upd_same, small (by rw [List.length_map, List.length_map]; omega), fun p2 hp2 => ?_⟩
    rw [← List.map_append]
    have e2 := same_new hp2 (.lst ((ss ++ qs ss).map V.str))
    have e12 := e1.trans e2
    have hs2 := hs.same e12
    have pg2 := pg.same e12
    have ps2 : Pool (upd (upd H p1 (.lst ((qs ss).map V.str))) p2 (.lst ((ss ++ qs ss).map V.str))) st p2 (ss ++ qs ss) 26 52 := pool_new (hs.same e1) hp2 (qs_nd ps.nd) (by rw [List.length_append]; have := ps.lo; omega) (by rw [List.length_append]; omega) fun z hz => by
      rcases List.mem_append.mp hz with hz | hz
      · have := h15 z hz; omega
      · obtain ⟨y, hy, rfl⟩ := List.mem_map.mp hz
        have := h15 y (List.mem_filter.mp hy).1
        rw [len_app, q_len]; omega
    revert e12 hs2 pg2 ps2
    generalize upd (upd H p1 (.lst ((qs ss).map V.str))) p2 (.lst ((ss ++ qs ss).map V.str)) = H2
    intro e12 hs2 pg2 ps2
    show tSeq _ _ _ [some (.ref st), some (.str smallS), some (.str stem), some (.int cut), some (.ref p2), some (.ref lg)] H2
    refine ⟨_, rfl, _, rfl, lg, rfl, ⟨_, SqL.of pg2.at_⟩, comp_q pg2.at_ (by omega) (fun z hz Q' q' => ?_) (fun z hz Q' q' => ⟨_, rfl, z, "q", rfl, rfl, small (by have := g15 z hz; rw [q_len]; omega), q'⟩) fun p3 hp3 => ?_⟩
    · refine ⟨_, rfl, z, "q", rfl, rfl, small (by have := g15 z hz; rw [q_len]; omega), _, rfl, lg, gs.map V.str, rfl, .inl (SqL.of pg2.at_), rfl, flat_strs gs, _, rfl, ?_⟩
      rw [inV_str]
      exact q'
    have e3 := same_new hp3 (.lst ((qs gs).map V.str))
    have lq' := qs_len gs
    refine ⟨lg, p3, _, _, rfl, rfl, e3 _ _ pg2.at_, upd_same, small (by rw [List.length_map, List.length_map]; omega), fun p4 hp4 => ?_⟩
    rw [← List.map_append]
    have e4 := same_new hp4 (.lst ((gs ++ qs gs).map V.str))
    have e34 := e3.trans e4
    have hs4 := hs2.same e34
    have ps4 := ps2.same e34
    have pg4 : Pool (upd (upd H2 p3 (.lst ((qs gs).map V.str))) p4 (.lst ((gs ++ qs gs).map V.str))) st p4 (gs ++ qs gs) 26 52 := pool_new (hs2.same e3) hp4 (qs_nd pg.nd) (by rw [List.length_append]; have := pg.lo; omega) (by rw [List.length_append]; omega) fun z hz => by
      rcases List.mem_append.mp hz with hz | hz
      · have := g15 z hz; omega
      · obtain ⟨y, hy, rfl⟩ := List.mem_map.mp hz
        have := g15 y (List.mem_filter.mp hy).1
        rw [len_app, q_len]; omega
    revert e34 hs4 ps4 pg4
    generalize upd (upd H2 p3 (.lst ((qs gs).map V.str))) p4 (.lst ((gs ++ qs gs).map V.str)) = H4
    intro e34 hs4 ps4 pg4
    refine fun wa hwa => ?_
    have e5 := same_new hwa (.dK [])
    refine ⟨_, rfl, _, rfl, _, rfl, smallS, rfl, comp_letters (fun c => "?" ++ ⟨#[c]⟩ ++ stem) (by rw [smallS_len]; decide) (fun c hc Q' q' => ⟨_, rfl, _, _, rfl, rfl, small (by rw [qm_len, one_len]; decide), _, rfl, _, _, rfl, rfl, small (by rw [len_app, qm_len, one_len]; omega), q'⟩) fun la hla => ?_⟩
    have e6 := same_new hla (.lst ((smallS.cps.toList.map (fun c => ("?" : Str) ++ ⟨#[c]⟩ ++ stem)).map V.str))
    refine ⟨e6 _ _ upd_same, [(Sum.inr "small", .ref p2), (Sum.inr "great", .ref p4), (Sum.inr "any", .ref la)], rfl, (by show 3 ≤ 15; decide), ?_⟩
    rw [merge3]
    have nwl : la ≠ wa := fun e => by rw [e, upd_same] at hla; cases hla
    have nws : wa ≠ st := hs4.fresh hwa
    have hla4 : H4 la = none := e5.free hla
    have pa : Pool (upd (upd H4 wa (.dK [])) la (.lst ((smallS.cps.toList.map (fun c => ("?" : Str) ++ ⟨#[c]⟩ ++ stem)).map V.str))) st la (smallS.cps.toList.map (fun c => ("?" : Str) ++ ⟨#[c]⟩ ++ stem)) 26 26 := pool_new (hs4.same e5) hla (map_nd small_nd fun a _ b _ e => one_inj (app_l (app_r e))) (by rw [List.length_map, small_l]; decide) (by rw [List.length_map, small_l]; decide) fun z hz => by
      obtain ⟨c, _, rfl⟩ := List.mem_map.mp hz
      rw [len_app, len_app, qm_len, one_len]; omega
    have up : ∀ {l zs lo hi}, Pool (upd (upd H4 wa (.dK [])) la (.lst ((smallS.cps.toList.map (fun c => ("?" : Str) ++ ⟨#[c]⟩ ++ stem)).map V.str))) st l zs lo hi → Pool (upd (upd (upd H4 wa (.dK [])) la (.lst ((smallS.cps.toList.map (fun c => ("?" : Str) ++ ⟨#[c]⟩ ++ stem)).map V.str))) wa (.dK [(Sum.inr "small", .ref p2), (Sum.inr "great", .ref p4), (Sum.inr "any", .ref la)])) st l zs lo hi := fun p =>
      ⟨by rw [upd_ne (ne_of p.at_ (e6 _ _ upd_same) (by intro z; cases z))]; exact p.at_, p.ne, p.nd, p.lo, p.hi, p.len⟩
    refine fin _ _ _ _ _ ⟨wa, p2, p4, la, rfl, nws, upd_same, up ((ps4.same e5).same e6), up ((pg4.same e5).same e6), up pa⟩ ⟨fun b o hb h => ?_, ?_⟩
    · have hb4 := e34 _ _ (e12 _ _ h)
      rw [upd_ne (ne_of_none hb4 hwa)]
      exact e6 _ _ (e5 _ _ hb4)
    · obtain ⟨ns, n1, n2, n3⟩ := (hs4.same e5).same e6
      exact ⟨ns, n1, n2, by rw [upd_ne (Ne.symm nws)]; exact n3⟩
  case q2 =>
    rintro D σ H ⟨st, stem, cut, ls, lg, ss, gs, rfl, hs, lets, l5, ps, pg, h15, g15, fin⟩
    refine ⟨_, rfl, st, 3, rfl, hs, by decide, by decide, fun d H1 d0 d1 g1 => ?_⟩
    have sl : smallS.length ≤ 1000000 := by rw [smallS_len]; decide
    have atk : ∀ k : Nat, k < 26 → atI smallS.cps.toList (25 - (0 + (k : Int))) = some (letter (25 - k)) := fun k hk => by
      rw [show (25 - (0 + (k : Int))) = ((25 - k : Nat) : Int) by omega]
      exact atI_nat (letter_at (by omega))
    refine ⟨rfl, _, rfl, ite2 (fun c => ?_) (fun c => ?_)⟩
    · refine ⟨26, rfl, by decide, by decide, comp_rangeP (n := 26) (fun k => ⟨#[letter (25 - k)]⟩ ++ "x" ++ Txt.slice stem none (some ((0 + (k : Int)) * 5 % 6))) (by decide) (fun k hk Q' q' => ?_) fun p1 hp1 => ?_⟩
      · have := sl_len stem none (some ((0 + (k : Int)) * 5 % 6))
        exact ⟨_, rfl, _, rfl, _, _, rfl, rfl, smallS, _, _, rfl, rfl, small sl, atk k hk, _, _, rfl, rfl, small (by rw [one_len, x_len]; decide), _, rfl, _, rfl, _, _, rfl, rfl, .inr ⟨by decide, by decide⟩, _, _, rfl, rfl, (by show (0 : Int) < 6; decide), _, rfl, stem, rfl, small (by omega), _, _, rfl, rfl, small (by rw [len_app, one_len, x_len]; omega), q'⟩
      have e1 := same_new hp1 (.lst (((List.range 26).map (fun k => (⟨#[letter (25 - k)]⟩ : Str) ++ "x" ++ Txt.slice stem none (some ((0 + (k : Int)) * 5 % 6)))).map V.str))
      have lens : ∀ z ∈ (List.range 26).map (fun k => (⟨#[letter (25 - k)]⟩ : Str) ++ "x" ++ Txt.slice stem none (some ((0 + (k : Int)) * 5 % 6))), z.length ≤ 15 := fun z hz => by
        obtain ⟨k, _, rfl⟩ := List.mem_map.mp hz
        have := sl_len stem none (some ((0 + (k : Int)) * 5 % 6))
        rw [len_app, len_app, one_len, x_len]; omega
      have ps1 := pool_new (lo := 26) (hi := 26) g1.ok hp1 (map_nd (l := List.range 26) (g := fun k => (⟨#[letter (25 - k)]⟩ : Str) ++ "x" ++ Txt.slice stem none (some ((0 + (k : Int)) * 5 % 6))) List.nodup_range fun a ha b hb e => by
        rw [List.mem_range] at ha hb
        rw [app_assoc, app_assoc] at e
        have := letter_inj (a := 25 - a) (b := 25 - b) (by omega) (by omega) (head_one e)
        omega) (by simp) (by simp) fun z hz => by have := lens z hz; omega
      have hs1 := g1.ok.same e1
      revert e1 ps1 hs1 lens
      generalize (List.range 26).map (fun k => (⟨#[letter (25 - k)]⟩ : Str) ++ "x" ++ Txt.slice stem none (some ((0 + (k : Int)) * 5 % 6))) = ss1
      intro e1 lens ps1 hs1
      revert e1 ps1 hs1
      generalize upd H1 p1 (.lst (ss1.map V.str)) = H2
      intro e1 ps1 hs1
      refine ⟨26, rfl, by decide, by decide, comp_rangeP (n := 26) (fun k => Txt.upper ⟨#[letter (25 - k)]⟩ ++ Txt.slice stem none (some ((0 + (k : Int)) * 5 % 6))) (by decide) (fun k hk Q' q' => ?_) fun p2 hp2 => ?_⟩
      · have := sl_len stem none (some ((0 + (k : Int)) * 5 % 6))
        have ul : (Txt.upper ⟨#[letter (25 - k)]⟩).length = 1 := (Lets.one (letter_lo (by omega)).1).upper
        exact ⟨_, rfl, _, rfl, _, _, rfl, rfl, smallS, _, _, rfl, rfl, small sl, atk k hk, rfl, _, rfl, rfl, by rw [ul]; decide, _, rfl, _, rfl, _, _, rfl, rfl, .inr ⟨by decide, by decide⟩, _, _, rfl, rfl, (by show (0 : Int) < 6; decide), _, rfl, stem, rfl, small (by omega), _, _, rfl, rfl, small (by rw [ul]; omega), q'⟩
      have e2 := same_new hp2 (.lst (((List.range 26).map (fun k => Txt.upper ⟨#[letter (25 - k)]⟩ ++ Txt.slice stem none (some ((0 + (k : Int)) * 5 % 6)))).map V.str))
      have lens2 : ∀ z ∈ (List.range 26).map (fun k => Txt.upper ⟨#[letter (25 - k)]⟩ ++ Txt.slice stem none (some ((0 + (k : Int)) * 5 % 6))), z.length ≤ 15 := fun z hz => by
        obtain ⟨k, hk, rfl⟩ := List.mem_map.mp hz
        rw [List.mem_range] at hk
        have := sl_len stem none (some ((0 + (k : Int)) * 5 % 6))
        have ul : (Txt.upper ⟨#[letter (25 - k)]⟩).length = 1 := (Lets.one (letter_lo (by omega)).1).upper
        rw [len_app, ul]; omega
      have pg2 := pool_new (lo := 26) (hi := 26) hs1 hp2 (map_nd (l := List.range 26) (g := fun k => Txt.upper ⟨#[letter (25 - k)]⟩ ++ Txt.slice stem none (some ((0 + (k : Int)) * 5 % 6))) List.nodup_range fun a ha b hb e => by
        rw [List.mem_range] at ha hb
        have la := (letter_lo (a := 25 - a) (by omega)).2
        have lb := (letter_lo (a := 25 - b) (by omega)).2
        rw [PySem.W.KOpn.upper_one (by omega), PySem.W.KOpn.upper_one (by omega), if_pos la, if_pos lb] at e
        have := head_one e
        have := letter_inj (a := 25 - a) (b := 25 - b) (by omega) (by omega) (by omega)
        omega) (by simp) (by simp) fun z hz => by have := lens2 z hz; omega
      have g12 : Grow st H (upd H2 p2 (.lst (((List.range 26).map (fun k => Txt.upper ⟨#[letter (25 - k)]⟩ ++ Txt.slice stem none (some ((0 + (k : Int)) * 5 % 6)))).map V.str))) := g1.trans (grow_same g1.ok (e1.trans e2))
      exact ⟨st, stem, cut, p1, p2, _, _, rfl, hs1.same e2, lets, l5, ps1.same e2, pg2, lens, lens2, fun wv ss' gs' as' H' W g => fin wv ss' gs' as' H' W (g12.trans g)⟩
    · exact ⟨st, stem, cut, ls, lg, ss, gs, rfl, g1.ok, lets, l5, ps.grow g1, pg.grow g1, h15, g15, fun wv ss' gs' as' H' W g => fin wv ss' gs' as' H' W (g1.trans g)⟩
  have sl : smallS.length ≤ 1000000 := by rw [smallS_len]; decide
  refine ⟨rfl, _, rfl, st, 6, rfl, hs, by decide, by decide, fun d H1 d0 d1 g1 => ⟨_, rfl, by omega, by omega, ?_⟩⟩
  refine comp_range (n := d.toNat) (fun i vs H' => ∃ zs : List Str, vs = zs.map V.str ∧ zs.length = i ∧ (∀ z ∈ zs, z.length = 1 ∧ Lets z) ∧ Grow st H1 H') ⟨[], rfl, rfl, (fun _ h => by cases h), Grow.refl g1.ok⟩ ?_ ?_ ?_
  · rintro i vs H' hi ⟨zs, rfl, lz, _⟩
    exact small' (by rw [List.length_map]; omega)
  · rintro i vs H2 hi ⟨zs, rfl, lz, hz, g2⟩
    refine tt1 (iteT ⟨_, rfl, _, rfl, st, 26, rfl, g2.ok, by decide, by decide, fun e H3 e0 e1 g3 => ?_⟩)
    obtain ⟨c, hc, hm⟩ := at_small e0 e1
    refine ⟨smallS, e, c, rfl, rfl, small sl, hc, nx hi ⟨zs ++ [⟨#[c]⟩], by simp, by simp [lz], fun z hz' => ?_, g2.trans g3⟩⟩
    rcases List.mem_append.mp hz' with h | h
    · exact hz z h
    · rw [List.mem_singleton.mp h]; exact ⟨rfl, Lets.one hm⟩
  rintro vs H2 ⟨zs, rfl, lz, hz, g2⟩ l hl
  have e3 := same_new hl (.lst (zs.map V.str))
  obtain ⟨lets, lj⟩ := join_lets hz
  refine ⟨"", l, zs, rfl, rfl, upd_same, by rw [sum_one fun z h => (hz z h).1, show ("" : Str).length = 0 by decide +kernel]; omega, ?_⟩
  have l5 : (Txt.join "" zs).length ≤ 5 := by omega
  have g3 : Grow st H (upd H2 l (.lst (zs.map V.str))) := (g1.trans g2).trans (grow_same g2.ok e3)
  revert lets l5 g3
  generalize Txt.join "" zs = stem
  generalize upd H2 l (.lst (zs.map V.str)) = H3
  intro lets l5 g3
  refine ⟨_, rfl, _, rfl, stem, rfl, small (by omega), _, _, rfl, rfl, st, (stem.length : Int) + 1, rfl, g3.ok, by omega, by omega, fun cut H4 c0 c1 g4 => ?_⟩
  have g04 := g3.trans g4
  have s1 := sl_len stem none (some cut)
  have s2 := sl_len stem (some cut) none
  refine ⟨_, rfl, smallS, rfl, comp_letters (fun c => Txt.slice stem none (some cut) ++ "x" ++ ⟨#[c]⟩ ++ Txt.slice stem (some cut) none) (by rw [smallS_len]; decide) (fun c hc Q' q' => ⟨_, rfl, _, rfl, cut, rfl, stem, rfl, small (by omega), _, _, rfl, rfl, small (by rw [x_len]; omega), _, rfl, _, _, rfl, rfl, small (by rw [len_app, x_len, one_len]; omega), _, rfl, _, rfl, cut, rfl, stem, rfl, small (by omega), _, _, rfl, rfl, small (by rw [len_app, len_app, x_len, one_len]; omega), q'⟩) fun p5 hp5 => ?_⟩
  have e5 := same_new hp5 (.lst ((smallS.cps.toList.map (fun c => Txt.slice stem none (some cut) ++ "x" ++ ⟨#[c]⟩ ++ Txt.slice stem (some cut) none)).map V.str))
  have lens5 : ∀ z ∈ smallS.cps.toList.map (fun c => Txt.slice stem none (some cut) ++ "x" ++ (⟨#[c]⟩ : Str) ++ Txt.slice stem (some cut) none), z.length ≤ 15 := fun z hz => by
    obtain ⟨c, _, rfl⟩ := List.mem_map.mp hz
    rw [len_app, len_app, len_app, x_len, one_len]; omega
  have ps5 := pool_new (lo := 26) (hi := 26) g04.ok hp5 (map_nd (g := fun c => Txt.slice stem none (some cut) ++ "x" ++ (⟨#[c]⟩ : Str) ++ Txt.slice stem (some cut) none) small_nd fun a _ b _ e => one_inj (app_l (app_r e))) (by rw [List.length_map, small_l]; decide) (by rw [List.length_map, small_l]; decide) fun z hz => by have := lens5 z hz; omega
  revert e5 ps5 lens5
  generalize smallS.cps.toList.map (fun c => Txt.slice stem none (some cut) ++ "x" ++ (⟨#[c]⟩ : Str) ++ Txt.slice stem (some cut) none) = ss
  intro e5 lens5 ps5
  have g05 : Grow st H (upd H4 p5 (.lst (ss.map V.str))) := g04.trans (grow_same g04.ok e5)
  revert e5 ps5 g05
  generalize upd H4 p5 (.lst (ss.map V.str)) = H5
  intro e5 ps5 g05
  show tSeq _ _ _ [some (.ref st), some (.str smallS), some (.str stem), some (.int cut), some (.ref p5), none] H5
  refine ⟨_, rfl, rfl, smallS, rfl, rfl, by rw [upS, greatS_len]; decide, _, rfl, ?_⟩
  rw [upS]
  refine comp_letters (fun c => ⟨#[c]⟩ ++ stem) (by rw [greatS_len]; decide) (fun c hc Q' q' => ⟨_, rfl, _, rfl, _, _, rfl, rfl, small (by rw [one_len]; omega), q'⟩) fun p6 hp6 => ?_
  have e6 := same_new hp6 (.lst ((greatS.cps.toList.map (fun c => (⟨#[c]⟩ : Str) ++ stem)).map V.str))
  have lens6 : ∀ z ∈ greatS.cps.toList.map (fun c => (⟨#[c]⟩ : Str) ++ stem), z.length ≤ 15 := fun z hz => by
    obtain ⟨c, _, rfl⟩ := List.mem_map.mp hz
    rw [len_app, one_len]; omega
  have pg6 := pool_new (lo := 26) (hi := 26) g05.ok hp6 (map_nd (g := fun c => (⟨#[c]⟩ : Str) ++ stem) great_nd fun a _ b _ e => one_inj (app_r e)) (by rw [List.length_map, great_l]; decide) (by rw [List.length_map, great_l]; decide) fun z hz => by have := lens6 z hz; omega
  revert e6 pg6 lens6
  generalize greatS.cps.toList.map (fun c => (⟨#[c]⟩ : Str) ++ stem) = gs
  intro e6 lens6 pg6
  have g06 : Grow st H (upd H5 p6 (.lst (gs.map V.str))) := g05.trans (grow_same g05.ok e6)
  have ps6 := ps5.same e6
  revert e6 pg6 g06 ps6
  generalize upd H5 p6 (.lst (gs.map V.str)) = H6
  intro e6 pg6 g06 ps6
  show tSeq _ _ _ [some (.ref st), some (.str smallS), some (.str stem), some (.int cut), some (.ref p5), some (.ref p6)] H6
  refine ⟨_, rfl, st, 2, rfl, g06.ok, by decide, by decide, fun d7 H7 d70 d71 g7 => ⟨rfl, _, rfl, ite2 (fun c => ?_) (fun c => ?_)⟩⟩
  · have la := lets.app lets_a
    have lu : (Txt.upper (Txt.slice (stem ++ "a") none (some 1))).length ≤ 6 := by
      have e : Lets (Txt.slice (stem ++ "a") none (some 1)) := fun c hc => la c (slice_mem hc)
      rw [e.upper]
      have := sl_len (stem ++ "a") none (some 1)
      rw [len_app, a_len] at this
      omega
    have s3 := sl_len stem (some 1) none
    refine ⟨_, rfl, smallS, rfl, comp_letters (fun c => Txt.upper (Txt.slice (stem ++ "a") none (some 1)) ++ ⟨#[c]⟩ ++ Txt.slice stem (some 1) none) (by rw [smallS_len]; decide) (fun c hc Q' q' => ?_) fun p8 hp8 => ?_⟩
    · refine ⟨_, rfl, stem, "a", rfl, rfl, small (by rw [a_len]; omega), 1, rfl, stem ++ "a", rfl, small (by rw [len_app, a_len]; omega), rfl, Txt.slice (stem ++ "a") none (some 1), rfl, rfl, by omega, ?_⟩
      refine ⟨_, rfl, Txt.upper (Txt.slice (stem ++ "a") none (some 1)), ⟨#[c]⟩, rfl, rfl, small (by rw [one_len]; omega), ?_⟩
      exact ⟨_, rfl, 1, rfl, stem, rfl, small (by omega), _, _, rfl, rfl, small (by rw [len_app, one_len]; omega), q'⟩
    have e8 := same_new hp8 (.lst ((smallS.cps.toList.map (fun c => Txt.upper (Txt.slice (stem ++ "a") none (some 1)) ++ ⟨#[c]⟩ ++ Txt.slice stem (some 1) none)).map V.str))
    have lens8 : ∀ z ∈ smallS.cps.toList.map (fun c => Txt.upper (Txt.slice (stem ++ "a") none (some 1)) ++ (⟨#[c]⟩ : Str) ++ Txt.slice stem (some 1) none), z.length ≤ 15 := fun z hz => by
      obtain ⟨c, _, rfl⟩ := List.mem_map.mp hz
      rw [len_app, len_app, one_len]; omega
    have pg8 := pool_new (lo := 26) (hi := 26) g7.ok hp8 (map_nd (g := fun c => Txt.upper (Txt.slice (stem ++ "a") none (some 1)) ++ (⟨#[c]⟩ : Str) ++ Txt.slice stem (some 1) none) small_nd fun a _ b _ e => one_inj (app_l (app_r e))) (by rw [List.length_map, small_l]; decide) (by rw [List.length_map, small_l]; decide) fun z hz => by have := lens8 z hz; omega
    exact ⟨st, stem, cut, p5, p8, _, _, rfl, g7.ok.same e8, lets, l5, (ps6.grow g7).same e8, pg8, lens5, lens8, fun wv ss' gs' as' H' W g => q wv ss' gs' as' H' W (((g06.trans g7).trans (grow_same g7.ok e8)).trans g)⟩
  · exact ⟨st, stem, cut, p5, p6, _, _, rfl, g7.ok, lets, l5, ps6.grow g7, pg6.grow g7, lens5, lens6, fun wv ss' gs' as' H' W g => q wv ss' gs' as' H' W ((g06.trans g7).trans g)⟩
end
end Fw

set_option Elab.async false
set_option linter.all false
set_option maxRecDepth 100000
namespace L2
open PySem PySem.Spec PyProof.Rows
theorem isSeq_iadd : isSeqSlotId "list.__iadd__" = true := by decide +kernel
/-- xs += ys, two lists -/
theorem ip_list {X : Cx} : PIp X .Add (fun x y H Q => ∃ l b xs zs, x = .ref l ∧ y = .ref b ∧ H l = some (.lst xs) ∧ H b = some (.lst zs) ∧ xs.length + zs.length ≤ sizeLine ∧ Q (.ref l) (upd H l (.lst (xs ++ zs)))) := by
  intro pins s σ H x y v u Q I rx ry h
  obtain ⟨l, b, xs, zs, rfl, rfl, hH, hB, hz, q⟩ := h
  cases rx
  cases ry
  obtain ⟨z, its, n, r, hl, e⟩ := I.lstM hH
  obtain ⟨z2, its2, n2, r2, hl2, e2⟩ := I.lstM hB
  have hsz : its.toArray.size + its2.toArray.size ≤ sizeLine := by rw [List.size_toArray, List.size_toArray]; omega
  have hlong : ¬ (!its.toArray.isEmpty && Builtin.List.listTooLong (its.toArray.size + its2.toArray.size)) = true := by
    rw [notLongL hsz, Bool.and_false]
    exact Bool.false_ne_true
  have ta : s.TypeIs (.ref l) "list" := ⟨_, e, rfl⟩
  have tb : s.TypeIs (.ref b) "list" := ⟨_, e2, rfl⟩
  have lk : typeLookup (.type "list") (dunderI "add") = pure (some (.builtin "list.__iadd__")) := PySem.F.slot_list_iadd.lookup
  have hfi : fillsInplaceSlot (.type "list") "add" (Operator.Add == .Add) = pure false := by
    unfold fillsInplaceSlot
    show (typeLookup (.type "list") (dunderI "add") >>= fun fi => pure (fi.isSome && !isSeqSlot fi)) = pure false
    rw [lk]
    show (pure (true && !isSeqSlotId "list.__iadd__") : Sem Bool) = pure false
    rw [isSeq_iadd]
    rfl
  have hsi : seqSlot? (.type "list") (dunderI "add") = pure (some (.builtin "list.__iadd__")) := by
    unfold seqSlot?
    rw [lk]
    show (if (!isSeqSlotId "list.__iadd__") = true then (pure none : Sem (Option Value)) else pure (some (.builtin "list.__iadd__"))) = _
    rw [isSeq_iadd]
    rfl
  unfold inplaceOp
  refine wpAny_holding ?_
  refine wpAny_bind (wpAny_typeOf ta (wpAny_bind (wpAny_of_eq hfi ?_)))
  show wpAny _ _ (if false = true then _ else _) _ _ s
  rw [if_neg Bool.false_ne_true]
  refine wpAny_bind (wpAny_binaryOp1_none (nm := "add") ta tb noFill_list_add ?_)
  refine wpAny_bind (wpAny_of_eq hsi ?_)
  refine wpAny_bind (wpAny_rule ?_)
  refine call_meets PySem.F.slot_list_iadd ta PySem.F.entry_list_iadd (PySem.F.args_list_iadd_2 _ _)
    (AutoSeq1.list___iadd___list_list_0 l its.toArray n b its2.toArray n2 hlong (by rw [List.size_toArray]; omega) (by omega)) ⟨e, e2, ?_⟩
  refine ⟨.ref l, _, I.lset (its' := its ++ its2) hH e (by simp) (r.append r2) ?_, rfl, q⟩
  rw [List.length_append]
  omega
end L2
namespace Fw
open PySem PySem.Spec PyProof.Rows L2
def hT (h : Str × Int) : T := .tup [.str h.1, .int h.2]
theorem nd_len {α : Type} [DecidableEq α] : ∀ {a b : List α}, a.Nodup → (∀ x ∈ a, x ∈ b) → a.length ≤ b.length
  | [], _, _, _ => Nat.zero_le _
  | x :: a, b, nd, h => by
    rw [List.nodup_cons] at nd
    have hx := h x List.mem_cons_self
    have ih := nd_len (a := a) (b := b.erase x) nd.2 fun y hy => by
      have hy' := h y (List.mem_cons_of_mem _ hy)
      have ne : y ≠ x := fun e => nd.1 (e ▸ hy)
      exact (List.mem_erase_of_ne ne).mpr hy'
    rw [List.length_erase_of_mem hx] at ih
    have : 0 < b.length := List.length_pos_of_mem hx
    show a.length + 1 ≤ b.length
    omega
/-- the items of a list of names that are not among others -/
theorem comp_not {K : PySem.W.Frag} {H : Hp} {l : Addr} {zs ts : List Str} {tt : TT} {te : TE} {σ' : L2.St} {Q : VK} (hl : H l = some (.lst (zs.map V.str))) (hz : zs.length ≤ 1000)
    (ht : ∀ z ∈ zs, ∀ Q' : Bool → Hp → Prop, Q' (!decide (z ∈ ts)) H → tt (some (.str z) :: σ') H Q') (he : ∀ z ∈ zs, ∀ Q' : VK, Q' (.str z) H → te (some (.str z) :: σ') H Q')
    (hd : ∀ p, H p = none → Q (.ref p) (upd H p (.lst ((zs.filter fun z => !decide (z ∈ ts)).map V.str)))) : CompW (Itl K l) tt te σ' Q H := by
  refine comp_lst (xs := zs.map V.str) (fun i vs H' => H' = H ∧ vs = ((zs.take i).filter fun z => !decide (z ∈ ts)).map V.str) ⟨rfl, rfl⟩ ?_ ?_ ?_
  · rintro i vs H' hi ⟨rfl, rfl⟩
    refine ⟨SqL.of hl, small' ?_⟩
    rw [List.length_map]
    have := List.length_filter_le (fun z => !decide (z ∈ ts)) (zs.take i)
    rw [List.length_take] at this
    omega
  · rintro i x vs H' hi hx ⟨rfl, rfl⟩
    rw [List.getElem?_map] at hx
    cases ez : zs[i]? with
    | none => rw [ez] at hx; cases hx
    | some z =>
    rw [ez] at hx
    cases hx
    have zm := List.mem_of_getElem? ez
    have et : (zs.take (i + 1)).filter (fun z => !decide (z ∈ ts)) = (zs.take i).filter (fun z => !decide (z ∈ ts)) ++ (if (!decide (z ∈ ts)) = true then [z] else []) := by
      rw [List.take_add_one, ez, List.filter_append]
      congr 1
      show List.filter _ [z] = _
      rw [List.filter_cons, List.filter_nil]
    refine ht z zm _ ?_
    by_cases c : (!decide (z ∈ ts)) = true
    · rw [if_pos c] at et
      rw [if_pos c]
      refine he z zm _ (nx hi ⟨rfl, ?_⟩)
      rw [et, List.map_append]
      rfl
    · rw [if_neg c, List.append_nil] at et
      rw [if_neg c]
      exact nx hi ⟨rfl, by rw [et]⟩
  · rintro vs H' ⟨rfl, rfl⟩ p hp
    rw [List.length_map, List.take_length]
    exact hd p hp
theorem val_hd {k : Str} {v : V} {r : List (Key × V)} : valV ((Sum.inr k, v) :: r) (Sum.inr k) = some v := valV_pos (p := ((Sum.inr k : Key), v)) rfl
theorem val_tl {k j : Str} {v : V} {r : List (Key × V)} (h : k ≠ j) : valV ((Sum.inr k, v) :: r) (Sum.inr j) = valV r (Sum.inr j) := valV_neg (p := ((Sum.inr k : Key), v)) fun e => h (Sum.inr.inj e)
theorem dget_of {H : Hp} {a : Addr} {kvs : List (Key × V)} {k : Str} {v : V} (e : H a = some (.dK kvs)) (h : valV kvs (Sum.inr k) = some v) : DGet H a (.str k) (some v) := by
  have := DGet.k (k := Sum.inr k) e
  rw [h] at this
  exact this
def spNew : Sp := fun vs H Q _ => ∃ (st : Addr) (wv : V) (ss gs as ts : List Str) (lt : Addr), vs = [wv, .str "small", .ref lt] ∧ WordsAt H st wv ss gs as ∧ H lt = some (.lst (ts.map V.str)) ∧ ts.length < 26 ∧ ∀ z H', z ∈ ss → z ∉ ts → Same H H' → Q (.str z) H'
/-- what the rows are drawn of -/
structure TH (H : Hp) (st ta lsr lk lr : Addr) (srt : List (Str × Int)) (kn rc : List Str) : Prop where
  has : ∃ (fa pa pp fd hl q1 q2 : Addr) (svs : List V) (gp gf h1 h2 : Str), H ta = some (.dK [(Sum.inr "sorts", .ref lsr), (Sum.inr "kind", .ref lk), (Sum.inr "record", .ref lr), (Sum.inr "faces", .ref fa), (Sum.inr "parts", .ref pa)]) ∧
    H lsr = some (.lst svs) ∧ Reps H svs (srt.map hT) ∧ H fa = some (.dK [(Sum.inr gf, .ref fd)]) ∧ H fd = some (.dK [(Sum.inr "hides", .ref hl)]) ∧ H hl = some (.lst [.ref q1, .ref q2]) ∧ H q1 = some (.tup [.str h1, .int 0]) ∧ H q2 = some (.tup [.str h2, .int 2]) ∧
    H pa = some (.lst [.ref pp]) ∧ H pp = some (.tup [.str gp, .str gf]) ∧ gp.length ≤ 20 ∧ h1.length ≤ 20 ∧ h2.length ≤ 20 ∧ (hl ≠ lsr ∧ hl ≠ lk ∧ hl ≠ lr ∧ hl ≠ st) ∧ (pa ≠ lsr ∧ pa ≠ lk ∧ pa ≠ lr ∧ pa ≠ st)
  hk : H lk = some (.lst (kn.map V.str))
  hr : H lr = some (.lst (rc.map V.str))
  n1 : lsr ≠ lk ∧ lsr ≠ lr ∧ lk ≠ lr
  n2 : lsr ≠ st ∧ lk ≠ st ∧ lr ≠ st
  hs : ∀ h ∈ srt, h.1.length ≤ 20 ∧ 0 ≤ h.2 ∧ h.2 < 4
  ls : srt.length ≤ 20
  lkn : kn.length ≤ 200
  lrc : rc.length ≤ 200
theorem ThKeys : ("sorts" : Str) ≠ "kind" ∧ ("sorts" : Str) ≠ "record" ∧ ("sorts" : Str) ≠ "faces" ∧ ("sorts" : Str) ≠ "parts" ∧ ("kind" : Str) ≠ "record" ∧ ("kind" : Str) ≠ "faces" ∧ ("kind" : Str) ≠ "parts" ∧ ("record" : Str) ≠ "faces" ∧ ("record" : Str) ≠ "parts" ∧ ("faces" : Str) ≠ "parts" := by decide +kernel
theorem TH.grow {H H' : Hp} {st ta lsr lk lr : Addr} {srt : List (Str × Int)} {kn rc : List Str} (t : TH H st ta lsr lk lr srt kn rc) (g : Grow st H H') (ok : StOk H st) : TH H' st ta lsr lk lr srt kn rc := by
  obtain ⟨fa, pa, pp, fd, hl, q1, q2, svs, gp, gf, h1, h2, a1, a2, a3, a4, a5, a6, a7, a8, a9, a10, a11, a12, a13, a14, a15⟩ := t.has
  obtain ⟨ns, z1, z2, z3⟩ := id ok
  have nd : ∀ {b k}, H b = some (.dK k) → H' b = some (.dK k) := fun h => g.1 _ _ (ne_of h z3 (by intro z; cases z)) h
  exact ⟨⟨fa, pa, pp, fd, hl, q1, q2, svs, gp, gf, h1, h2, nd a1, g.1 _ _ t.n2.1 a2, a3.grow g ok, nd a4, nd a5, g.1 _ _ a14.2.2.2 a6, g.tups ok _ _ a7, g.tups ok _ _ a8, g.1 _ _ a15.2.2.2 a9, g.tups ok _ _ a10, a11, a12, a13, a14, a15⟩, g.1 _ _ t.n2.2.1 t.hk, g.1 _ _ t.n2.2.2 t.hr, t.n1, t.n2, t.hs, t.ls, t.lkn, t.lrc⟩
def spPaths : Sp := fun vs H Q _ => ∃ (st ta lsr lk lr : Addr) (srt : List (Str × Int)) (kn rc : List Str), vs = [.ref ta, .str "hides"] ∧ TH H st ta lsr lk lr srt kn rc ∧ ∀ (l : Addr) (us : List V) (y1 y2 : Str) H', y1.length ≤ 50 → y2.length ≤ 50 → Same H H' → H l = none → H' l = some (.lst us) → Reps H' us [hT (y1, 0), hT (y2, 2)] → Q (.ref l) H'
section
variable {P : Program} {w : World} {K : PySem.W.Frag} {mg : Str → Option Value} {base : Heap} {f : Addr} {fd : FuncData} {C : Addr}
abbrev s_new : Stmt := top 11
abbrev s_paths : Stmt := top 12
theorem sc_new : FnScope ["_law_words_here", "_law_sort_here", "_law_taken"] ["_law_words_here", "_law_sort_here", "_law_taken"] (defScope s_new) := ⟨rfl, rfl, rfl, by decide +kernel, rfl, by decide +kernel, by decide +kernel⟩
theorem ok_new (F : Fun K "_law_new" "_law_new" s_new f fd) : FnOk P w K mg base CX0 1 f fd ["_law_words_here", "_law_sort_here", "_law_taken"] spNew := by
  refine F.ok sc_new (fun vs H Q E h => ?_) (fun cdv A outer s H vs Q E hr h => ?_)
  · obtain ⟨st, wv, ss, gs, as, ts, lt, rfl, _⟩ := h
    rfl
  obtain ⟨st, wv, ss, gs, as, ts, lt, rfl, W, hlt, l26, q⟩ := h
  obtain ⟨wa, ls, lg, la, rfl, nw, hwa, ps, pg, pa⟩ := W.has
  have hu := hu_of hr
  refine ⟨_, pss_one (ps_ret (pe_ix ix_list (pe_lc (defScope s_new) ["_law_words_here", "_law_sort_here", "_law_taken"] ["_law_taken"] [2] (by decide +kernel) (pi_list (pe_dget hu (pv 0) (pv 1) (fun _ _ => rfl)))
    (fun C s₀ H₀ ex => pts_one (pt_cmpR (r := rIn K true) op_notIn_seq (pv 0) (pv 1) (by with_unfolding_all rfl))) (fun C s₀ H₀ ex => pv 0)) pe_int (fun _ _ => rfl))), ?_⟩
  have h52 := ps.hi
  have h26 := ps.lo
  refine ⟨_, rfl, _, rfl, wa, _, rfl, dget_of hwa val_hd, ls, rfl, ⟨_, SqL.of ps.at_⟩, comp_not (ts := ts) ps.at_ (by omega) (fun z hz Q' q' => ?_) (fun z hz Q' q' => ⟨_, rfl, q'⟩) fun p hp => ?_⟩
  · refine ⟨_, rfl, _, rfl, lt, ts.map V.str, rfl, .inl (SqL.of hlt), rfl, flat_strs ts, _, rfl, ?_⟩
    rw [inV_str]
    exact q'
  have e1 := same_new hp (.lst ((ss.filter fun z => !decide (z ∈ ts)).map V.str))
  obtain ⟨z0, hz0⟩ : ∃ z0 r, ss.filter (fun z => !decide (z ∈ ts)) = z0 :: r := by
    cases e : ss.filter (fun z => !decide (z ∈ ts)) with
    | cons a r => exact ⟨a, r, rfl⟩
    | nil =>
      have : ss.length ≤ ts.length := nd_len ps.nd fun x hx => by
        by_cases c : x ∈ ts
        · exact c
        · have : x ∈ ss.filter (fun z => !decide (z ∈ ts)) := List.mem_filter.mpr ⟨hx, by simp [c]⟩
          rw [e] at this
          cases this
      omega
  obtain ⟨r, hr0⟩ := hz0
  have zm : z0 ∈ ss.filter (fun z => !decide (z ∈ ts)) := by rw [hr0]; exact List.mem_cons_self
  have zm' := List.mem_filter.mp zm
  refine ⟨p, _, 0, .str z0, rfl, rfl, SqL.of upd_same, by rw [hr0]; exact atI_nat (j := 0) rfl, q z0 _ zm'.1 (fun h => by have := zm'.2; simp [h] at this) e1⟩
end
end Fw

set_option Elab.async false
set_option linter.all false
set_option maxRecDepth 100000
namespace Fw
open PySem PySem.Spec PyProof.Rows L2
section
variable {P : Program} {w : World} {K : PySem.W.Frag} {mg : Str → Option Value} {base : Heap} {f : Addr} {fd : FuncData} {C : Addr}
theorem sc_paths : FnScope ["_law_there", "_law_what", "_law_rows", "_law_part", "_law_face"] ["_law_there", "_law_what"] (defScope s_paths) := ⟨rfl, rfl, rfl, by decide +kernel, rfl, by decide +kernel, by decide +kernel⟩
theorem dot_len : ("." : Str).length = 1 := by decide +kernel
set_option maxHeartbeats 1000000 in
theorem ok_paths (F : Fun K "_law_paths" "_law_paths" s_paths f fd) : FnOk P w K mg base CX0 1 f fd ["_law_there", "_law_what"] spPaths := by
  refine F.ok sc_paths (fun vs H Q E h => ?_) (fun cdv A outer s H vs Q E hr h => ?_)
  · obtain ⟨st, ta, lsr, lk, lr, srt, kn, rc, rfl, _⟩ := h
    rfl
  obtain ⟨st, ta, lsr, lk, lr, srt, kn, rc, rfl, t, q⟩ := h
  have hu := hu_of hr
  refine ⟨_, pss_cons (ps_set (i := 2) sc_paths.nd rfl (Or.inl rfl) (pe_lst pa_nil))
    (pss_cons (ps_for PassesOwn.never rfl (pi_list (pe_dget hu (pv 0) pe_str (fun _ _ => rfl))) (pg_tup rfl (pgs_cons (pg_name (i := 3) sc_paths.nd rfl (Or.inr rfl)) (pgs_cons (pg_name (i := 4) sc_paths.nd rfl (Or.inl rfl)) pgs_nil)))
      (pss_one (ps_aug (i := 2) sc_paths.nd rfl (Or.inl rfl) (pe_lc (defScope s_paths) ["_law_there", "_law_what", "_law_rows", "_law_part", "_law_face"] ["_law_part"] [3] (by decide +kernel) (pi_list (pe_dget hu (pe_dget hu (pe_dget hu (pv 0) pe_str (fun _ _ => rfl)) (pv 4) (fun _ _ => rfl)) (pv 1) (fun _ _ => rfl)))
        (fun C s₀ H₀ ex => pts_nil) (fun C s₀ H₀ ex => pe_op (r := rCatT K) op_catT (pe_tup (pa_cons (pe_op op_add_str (pe_op op_add_str (pv 1) pe_str) (pe_ix (r := rIxT K) ix_tup (pv 0) pe_int (fun _ _ => rfl))) pa_nil)) (pe_slice (r := rSlT K) sl_tup (pv 0) (po_some pe_int) po_none))) ip_list)))
    (pss_one (ps_ret (pv 2)))), ?_⟩
  obtain ⟨fa, pa, pp, fx, hl, q1, q2, svs, gp, gf, h1, h2, a1, a2, a3, a4, a5, a6, a7, a8, a9, a10, a11, a12, a13, a14, a15⟩ := t.has
  obtain ⟨k1, k2, k3, k4, k5, k6, k7, k8, k9, k10⟩ := ThKeys
  have hz := sizeLine_eq
  have dl := dot_len
  have gP : valV [((Sum.inr "sorts" : Key), V.ref lsr), (Sum.inr "kind", .ref lk), (Sum.inr "record", .ref lr), (Sum.inr "faces", .ref fa), (Sum.inr "parts", .ref pa)] (Sum.inr "parts") = some (.ref pa) := by
    rw [val_tl k4, val_tl k7, val_tl k9, val_tl k10, val_hd]
  have gF : valV [((Sum.inr "sorts" : Key), V.ref lsr), (Sum.inr "kind", .ref lk), (Sum.inr "record", .ref lr), (Sum.inr "faces", .ref fa), (Sum.inr "parts", .ref pa)] (Sum.inr "faces") = some (.ref fa) := by
    rw [val_tl k3, val_tl k6, val_tl k8, val_hd]
  refine ⟨Nat.zero_le _, fun l hl0 => ?_⟩
  have s1 := same_new hl0 (.lst [])
  have hl1 : (upd H l (.lst [])) l = some (.lst []) := upd_same
  revert s1 hl1
  generalize upd H l (.lst []) = H1
  intro s1 hl1
  refine ⟨_, rfl, ta, _, rfl, dget_of (s1 _ _ a1) gP, pa, rfl, ⟨_, SqL.of (s1 _ _ a9)⟩, for_list (xs := [V.ref pp]) (fun i σ H' => ∃ o3 o4, σ = [some (.ref ta), some (.str "hides"), some (.ref l), o3, o4] ∧ Same H H' ∧ (i = 0 → H' l = some (.lst [])) ∧ (i = 1 → ∃ us y1 y2, y1.length ≤ 50 ∧ y2.length ≤ 50 ∧ H' l = some (.lst us) ∧ Reps H' us [hT (y1, 0), hT (y2, 2)])) ⟨none, none, rfl, s1, fun _ => hl1, fun h => absurd h (by decide)⟩ ?_ ?_ ?_⟩
  · rintro i σ H' hi ⟨o3, o4, rfl, s2, _, _⟩
    exact SqL.of (s2 _ _ a9)
  · rintro i x σ H' hx ⟨o3, o4, rfl, s2, i0, _⟩
    have ei : i = 0 := by
      have := (List.getElem?_eq_some_iff.mp hx).1
      simp at this
      omega
    subst ei
    cases hx
    have hl2 := i0 rfl
    refine ⟨pp, _, rfl, SqT.of (s2 _ _ a10), rfl, _, _, rfl, _, _, rfl, rfl, ?_⟩
    have tgt : ∀ {i : Nat} {x : V}, [V.ref q1, V.ref q2][i]? = some x → ∃ (q' : Addr) (h : Str) (n : Int), x = .ref q' ∧ H' q' = some (.tup [.str h, .int n]) ∧ h.length ≤ 20 ∧ [hT (gp ++ "." ++ h1, 0), hT (gp ++ "." ++ h2, 2)][i]? = some (hT (gp ++ "." ++ h, n)) := by
      intro i x hx
      match i, hx with
      | 0, hx => cases hx; exact ⟨q1, h1, 0, rfl, s2 _ _ a7, a12, rfl⟩
      | 1, hx => cases hx; exact ⟨q2, h2, 2, rfl, s2 _ _ a8, a13, rfl⟩
    refine ⟨_, rfl, ?_⟩
    refine ⟨_, rfl, ta, _, rfl, dget_of (s2 _ _ a1) gF, _, rfl, fa, _, rfl, dget_of (s2 _ _ a4) val_hd, _, rfl, fx, _, rfl, dget_of (s2 _ _ a5) val_hd, hl, rfl, ⟨_, SqL.of (s2 _ _ a6)⟩, ?_⟩
    refine comp_lst (xs := [V.ref q1, V.ref q2]) (fun i vs H'' => Same H' H'' ∧ Reps H'' vs ([hT (gp ++ "." ++ h1, 0), hT (gp ++ "." ++ h2, 2)].take i)) ⟨Same.refl _, .nil⟩ ?_ ?_ ?_
    · rintro i vs H'' hi ⟨s3, r3⟩
      refine ⟨SqL.of (s3 _ _ (s2 _ _ a6)), ?_⟩
      have := r3.length
      rw [List.length_take] at this
      simp at this
      omega
    · rintro i x vs H'' hi hx ⟨s3, r3⟩
      obtain ⟨q', h, n, rfl, hq, hh, htg⟩ := tgt hx
      have l1 : (gp ++ "." : Str).length = gp.length + 1 := by rw [len_app, dl]
      refine ⟨_, rfl, gp, ".", rfl, rfl, by omega, _, rfl, q', _, 0, .str h, rfl, rfl, SqT.of (s3 _ _ hq), atI_nat (j := 0) rfl, gp ++ ".", h, rfl, rfl, by omega, by simp [hz], fun p1 hp1 => ?_⟩
      have e1 := same_new hp1 (.tup [V.str (gp ++ "." ++ h)])
      have hp11 : (upd H'' p1 (.tup [V.str (gp ++ "." ++ h)])) p1 = some (.tup [V.str (gp ++ "." ++ h)]) := upd_same
      revert e1 hp11
      generalize upd H'' p1 (.tup [V.str (gp ++ "." ++ h)]) = G1
      intro e1 hp11
      refine ⟨_, rfl, 1, rfl, q', _, rfl, SqT.of (e1 _ _ (s3 _ _ hq)), cutq_not (n := 1) (by simp) (by decide), fun p2 hp2 => ?_⟩
      have ec : cutV [V.str h, V.int n] (some 1) none = [V.int n] := cutq [V.str h, V.int n] 1
      rw [ec]
      have e2 := same_new hp2 (.tup [V.int n])
      have hp22 : (upd G1 p2 (.tup [V.int n])) p2 = some (.tup [V.int n]) := upd_same
      revert e2 hp22
      generalize upd G1 p2 (.tup [V.int n]) = G2
      intro e2 hp22
      refine ⟨p1, p2, _, _, rfl, rfl, SqT.of (e2 _ _ hp11), SqT.of hp22, by simp, by simp [hz], fun h0 => absurd h0 (by simp), fun _ p3 hp3 => ?_⟩
      have e3 := same_new hp3 (.tup ([V.str (gp ++ "." ++ h)] ++ [V.int n]))
      have s4 := ((s3.trans e1).trans e2).trans e3
      refine nx hi ⟨s4, ?_⟩
      rw [List.take_add_one, htg]
      exact (r3.same ((e1.trans e2).trans e3)).append (.cons (.tup upd_same (.cons (.str _ (by rw [len_app]; omega)) (.cons (.int _) .nil))) .nil)
    · rintro vs H'' ⟨s3, r3⟩ p hp
      have s4 := same_new hp (.lst vs)
      have lv := r3.length
      have lv2 : vs.length ≤ 2 := by rw [lv, List.length_take]; simp
      refine ⟨l, p, [], vs, rfl, rfl, s4 _ _ (s3 _ _ hl2), upd_same, by simp; omega, ⟨_, _, rfl, ?_, fun h0 => absurd h0 (by decide), fun _ => ⟨vs, gp ++ "." ++ h1, gp ++ "." ++ h2, ?_, ?_, ?_, ?_⟩⟩⟩
      · intro b ho hb
        rw [upd_ne (fun e => by rw [e, hl0] at hb; cases hb)]
        exact s4 _ _ (s3 _ _ (s2 _ _ hb))
      · rw [len_app, len_app, dl]; omega
      · rw [len_app, len_app, dl]; omega
      · exact upd_same
      · refine r3.mono fun b xs hb => ?_
        rw [upd_ne (fun e => by rw [e, s3 _ _ hl2] at hb; cases hb)]
        exact s4 _ _ hb
  · rintro σ H' ⟨o3, o4, rfl, s2, _, i1⟩
    obtain ⟨us, y1, y2, l1, l2, e1, r1⟩ := i1 rfl
    exact ⟨_, rfl, q l us y1 y2 H' l1 l2 s2 hl0 e1 r1⟩
end
end Fw

set_option Elab.async false
set_option linter.all false
set_option maxRecDepth 100000
namespace Fw
open PySem PySem.Spec PyProof.Rows L2
/-- what a drawn kind is made of -/
structure KIn (H : Hp) (st ta lsr lk lr : Addr) (srt : List (Str × Int)) (kn rc : List Str) (lo : Addr) (own : List Str) (lh : Addr) : Prop where
  ok : StOk H st
  th : TH H st ta lsr lk lr srt kn rc
  ho : H lo = some (.lst (own.map V.str))
  no : lo ≠ st
  lw : own.length ≤ 10
  hw : ∀ z ∈ own, z.length ≤ 1000
  hh : H lh = some (.lst [])
  nh : lh ≠ st
theorem KIn.grow {H H' : Hp} {st ta lsr lk lr : Addr} {srt : List (Str × Int)} {kn rc : List Str} {lo : Addr} {own : List Str} {lh : Addr} (k : KIn H st ta lsr lk lr srt kn rc lo own lh) (g : Grow st H H') : KIn H' st ta lsr lk lr srt kn rc lo own lh :=
  ⟨g.ok, k.th.grow g k.ok, g.1 _ _ k.no k.ho, k.no, k.lw, k.hw, g.1 _ _ k.nh k.hh, k.nh⟩
theorem KIn.same {H H' : Hp} {st ta lsr lk lr : Addr} {srt : List (Str × Int)} {kn rc : List Str} {lo : Addr} {own : List Str} {lh : Addr} (k : KIn H st ta lsr lk lr srt kn rc lo own lh) (g : Same H H') : KIn H' st ta lsr lk lr srt kn rc lo own lh := k.grow (grow_same k.ok g)
def spKind (n : Nat) : Sp := fun vs H Q _ => ∃ (st ta lsr lk lr : Addr) (srt : List (Str × Int)) (kn rc : List Str) (lo : Addr) (own : List Str) (lh : Addr) (d : Int), vs = [.ref st, .ref ta, .ref lo, .ref lh, .int d] ∧ KIn H st ta lsr lk lr srt kn rc lo own lh ∧ 0 ≤ d ∧ d < n ∧ ∀ v t H', Grow st H H' → Rep H' v t → DpT n t → Q v H'
def tK (n : Nat) : TS := fun D σ H => ∃ (st ta lsr lk lr : Addr) (srt : List (Str × Int)) (kn rc : List Str) (lo : Addr) (own : List Str) (lh : Addr) (d : Int) (way : Int) (p : Addr) (hs : List V), σ = [some (.ref st), some (.ref ta), some (.ref lo), some (.ref lh), some (.int d), some (.int way), some (.ref p), none, none, none] ∧
  KIn H st ta lsr lk lr srt kn rc lo own lh ∧ 0 ≤ d ∧ d < (n + 1 : Nat) ∧ H p = some (.lst hs) ∧ p ≠ st ∧ 0 < hs.length ∧ hs.length ≤ 100 ∧ (∀ v ∈ hs, ∃ h : Str × Int, Rep H v (hT h) ∧ h.1.length ≤ 50 ∧ 0 ≤ h.2 ∧ h.2 < 4) ∧ ∀ v t H', Grow st H H' → Rep H' v t → DpT (n + 1) t → D.rt v H'
def tB (n : Nat) : TS := fun D σ H => ∃ (st ta lsr lk lr : Addr) (srt : List (Str × Int)) (kn rc : List Str) (lo : Addr) (own : List Str) (lh : Addr) (d : Int) (way : Int) (p : Addr) (z : Str) (m : Int), σ = [some (.ref st), some (.ref ta), some (.ref lo), some (.ref lh), some (.int d), some (.int way), some (.ref p), some (.str z), some (.int m), none] ∧
  KIn H st ta lsr lk lr srt kn rc lo own lh ∧ 0 ≤ d ∧ d < (n + 1 : Nat) ∧ (0 < d ∨ m = 0) ∧ z.length ≤ 50 ∧ 0 ≤ m ∧ m < 4 ∧ ∀ v t H', Grow st H H' → Rep H' v t → DpT (n + 1) t → D.rt v H'
section
variable {P : Program} {w : World} {K : PySem.W.Frag} {mg : Str → Option Value} {base : Heap} {f : Addr} {fd : FuncData} {C : Addr}
abbrev s_kind : Stmt := top 13
abbrev nK : List Str := ["_law_state", "_law_there", "_law_own", "_law_hides", "_law_deep", "_law_way", "_law_heads", "_law_name", "_law_many", "_law_parts"]
abbrev pK : List Str := ["_law_state", "_law_there", "_law_own", "_law_hides", "_law_deep"]
theorem sc_kind : FnScope nK pK (defScope s_kind) := ⟨rfl, rfl, rfl, by decide +kernel, rfl, by decide +kernel, by decide +kernel⟩
theorem num_len : ("num" : Str).length = 3 := by decide +kernel
set_option maxHeartbeats 2000000 in
theorem ok_kind {n : Nat} (F : Fun K "_law_kind" "_law_kind" s_kind f fd) (ml : mg "len" = none) (mr : mg "range" = none) (mt : mg "tuple" = none) (h1 : Has P w K mg base 1 "_law_next" ["_law_state", "_law_many"] spNext) (h2 : Has P w K mg base 1 "_law_paths" ["_law_there", "_law_what"] spPaths)
    (h3 : Has P w K mg base (n + 1) "_law_kind" pK (spKind n)) : FnOk P w K mg base CX0 (n + 2) f fd pK (spKind (n + 1)) := by
  refine F.ok sc_kind (fun vs H Q E h => ?_) (fun cdv A outer s H vs Q E hr h => ?_)
  · obtain ⟨st, ta, lsr, lk, lr, srt, kn, rc, lo, own, lh, d, rfl, _⟩ := h
    rfl
  obtain ⟨st, ta, lsr, lk, lr, srt, kn, rc, lo, own, lh, d, rfl, k, d0, d1, q⟩ := h
  have hu := hu_of hr
  refine ⟨_, pss_cons (ps_set (i := 5) sc_kind.nd rfl (Or.inl rfl) (pcall h1 hr (by omega) rfl (pa_cons (pv 0) (pa_cons pe_int pa_nil))))
    (pss_cons (ps_set (i := 6) sc_kind.nd rfl (Or.inl rfl) (pe_op op_cat (pe_op op_cat (pe_dget hu (pv 1) pe_str (fun _ _ => rfl)) (pv 3)) (pcall h2 hr (by omega) rfl (pa_cons (pv 1) (pa_cons pe_str pa_nil)))))
    (pss_cons (ps_if (PW.pt (pw_and (pt_cmpR op_eq (pv 5) pe_int (nomark _)) (pw_and1 (pt_cmpR op_gt (pv 4) pe_int (nomark _)))))
      (pss_one (ps_ret (pe_tup (pa_cons pe_str (pa_cons (pcall h3 hr (by omega) rfl (pa_cons (pv 0) (pa_cons (pv 1) (pa_cons (pv 2) (pa_cons (pv 3) (pa_cons (pe_op op_sub (pv 4) pe_int) pa_nil))))))
        (pa_cons (pcall h3 hr (by omega) rfl (pa_cons (pv 0) (pa_cons (pv 1) (pa_cons (pv 2) (pa_cons (pv 3) (pa_cons (pe_op op_sub (pv 4) pe_int) pa_nil)))))) pa_nil)))))) pss_nil)
    (pss_weak (t' := tK n) (pss_cons (ps_if (PW.pt (pw_and (pt_cmpR op_eq (pv 5) pe_int (nomark _)) (pw_and1 (pt_cmpR op_gt (pe_callB call_len_seq rfl ml PySem.boot_len (pa_cons (pv 2) pa_nil)) pe_int (nomark _)))))
      (pss_one (ps_ret (pe_ix ix_list (pv 2) (pcall h1 hr (by omega) rfl (pa_cons (pv 0) (pa_cons (pe_callB call_len_seq rfl ml PySem.boot_len (pa_cons (pv 2) pa_nil)) pa_nil))) (fun _ _ => rfl)))) pss_nil)
    (pss_weak (t' := tK n) (pss_cons (ps_if (PW.pt (pw_and (pt_cmpR op_gt (pv 5) pe_int (nomark _)) (pw_and1 (pt_cmpR op_gt (pe_callB call_len_seq rfl ml PySem.boot_len (pa_cons (pv 6) pa_nil)) pe_int (nomark _)))))
      (pss_cons (ps_asg (pe_ix ix_list (pv 6) (pcall h1 hr (by omega) rfl (pa_cons (pv 0) (pa_cons (pe_callB call_len_seq rfl ml PySem.boot_len (pa_cons (pv 6) pa_nil)) pa_nil))) (fun _ _ => rfl)) (pg_tup rfl (pgs_cons (pg_name (i := 7) sc_kind.nd rfl (Or.inl rfl)) (pgs_cons (pg_name (i := 8) sc_kind.nd rfl (Or.inl rfl)) pgs_nil))))
      (pss_one (ps_if (PW.pt (pw_or (pt_cmpR op_gt (pv 4) pe_int (nomark _)) (pw_or1 (pt_cmpR op_eq (pv 8) pe_int (nomark _)))))
        (pss_weak (t' := tB n) (pss_cons (ps_lc (defScope s_kind) nK ["_law_state", "_law_there", "_law_own", "_law_hides", "_law_deep"] [0, 1, 2, 3, 4] (by decide +kernel) (pi_range1 rfl mr (pa_cons (pv 8) pa_nil)) (pg_name (i := 9) sc_kind.nd rfl (Or.inl rfl)) (fun C s₀ H₀ ex => pts_nil)
            (fun C s₀ H₀ ex => pcall h3 hr (by omega) rfl (pa_cons (pv 1) (pa_cons (pv 2) (pa_cons (pv 3) (pa_cons (pv 4) (pa_cons (pe_op op_sub (pv 5) pe_int) pa_nil)))))) (by with_unfolding_all rfl))
        (pss_one (ps_ret (pe_ifExp (pt_cmpR op_gt (pv 8) pe_int (nomark _)) (pe_op op_catT (pe_tup (pa_cons (pv 7) pa_nil)) (pe_callTy call_tuple_of rfl mt boot_tuple (pa_cons (pv 9) pa_nil))) (pv 7))))) ?qb) pss_nil))) pss_nil)
    (pss_one (ps_ret pe_str))) ?q5)) ?q4))), ?_⟩
  case q4 =>
    rintro D σ H ⟨st, ta, lsr, lk, lr, srt, kn, rc, lo, own, lh, d, way, p, hs, rfl, k, d0, d1, hp, pn, l0, l1, hv, q⟩
    have n0 : 0 < own.length ∨ own.length = 0 := by omega
    have nxt : ∀ D' : Ends, D'.rt = D.rt → tK n D' [some (.ref st), some (.ref ta), some (.ref lo), some (.ref lh), some (.int d), some (.int way), some (.ref p), none, none, none] H := fun D' e => ⟨st, ta, lsr, lk, lr, srt, kn, rc, lo, own, lh, d, way, p, hs, rfl, k, d0, d1, hp, pn, l0, l1, hv, e ▸ q⟩
    refine ⟨_, rfl, rfl, _, rfl, ite2 (fun c => ?_) (fun c => ?_)⟩
    · refine ⟨_, rfl, lo, _, rfl, .inl (SqL.of k.ho), _, _, rfl, rfl, _, rfl, ite2 (fun c2 => ?_) (fun c2 => ?_)⟩
      · have c3 : (0 : Int) < ((own.map V.str).length : Nat) := of_decide_eq_true c2
        rw [List.length_map] at c3
        have lw := k.lw
        refine ⟨_, rfl, _, rfl, _, rfl, lo, _, rfl, .inl (SqL.of k.ho), st, ((own.map V.str).length : Nat), rfl, k.ok, by rw [List.length_map]; omega, by rw [List.length_map]; omega, fun e H1 e0 e1 g1 => ?_⟩
        obtain ⟨zv, hz', zm⟩ := at_any (xs := own.map V.str) e0 e1
        obtain ⟨z, zm', rfl⟩ := List.mem_map.mp zm
        exact ⟨lo, _, e, .str z, rfl, rfl, SqL.of (g1.1 _ _ k.no k.ho), hz', q _ _ _ g1 (.str _ (by have := k.hw z zm'; omega)) .str⟩
      · exact nxt _ rfl
    · exact nxt _ rfl
  case qb =>
    rintro D σ H ⟨st, ta, lsr, lk, lr, srt, kn, rc, lo, own, lh, d, way, p, z, m, rfl, k, d0, d1, dm, lz, m0, m4, q⟩
    have hz := sizeLine_eq
    refine ⟨_, rfl, m, rfl, by omega, by omega, comp_range (fun i vs H' => Grow st H H' ∧ vs.length = i ∧ ∃ ts, Reps H' vs ts ∧ ∀ t ∈ ts, DpT n t) ⟨Grow.refl k.ok, rfl, [], .nil, fun t h => absurd h (List.not_mem_nil)⟩ ?_ ?_ ?_⟩
    · rintro i vs H' hi ⟨g, l, _⟩
      omega
    · rintro i vs H' hi ⟨g, l, ts, rt, dp⟩
      have k1 := k.grow g
      have m1 : ¬ m = 0 := by omega
      refine ⟨_, rfl, _, rfl, _, rfl, _, rfl, _, rfl, _, _, rfl, rfl, st, ta, lsr, lk, lr, srt, kn, rc, lo, own, lh, d - 1, rfl, k1, by omega, by omega, fun v t H2 g2 r2 dp2 => nx hi ⟨g.trans g2, by simp [l], ts ++ [t], (rt.grow g2 k1.ok).append (.cons r2 .nil), ?_⟩⟩
      intro t' ht
      rcases List.mem_append.mp ht with ht | ht
      · exact dp t' ht
      · rw [List.mem_singleton] at ht
        subst ht
        exact dp2
    · rintro vs H' ⟨g, l, ts, rt, dp⟩ lp hlp
      have k1 := k.grow g
      have e1 := same_new hlp (.lst vs)
      have hl1 : (upd H' lp (.lst vs)) lp = some (.lst vs) := upd_same
      revert e1 hl1
      generalize upd H' lp (.lst vs) = H1
      intro e1 hl1
      refine ⟨_, rfl, _, _, rfl, rfl, _, rfl, ite2 (fun c => ?_) (fun c => ?_)⟩
      · have c1 : 0 < m := of_decide_eq_true c
        refine ⟨_, rfl, by simp [hz], fun p1 hp1 => ?_⟩
        have e2 := same_new hp1 (.tup [V.str z])
        refine ⟨_, rfl, lp, vs, rfl, .inl ⟨SqL.of (e2 _ _ hl1), fun p2 hp2 => ?_⟩⟩
        have e3 := same_new hp2 (.tup vs)
        refine ⟨p1, p2, _, _, rfl, rfl, SqT.of (e3 _ _ upd_same), SqT.of upd_same, by simp, by simp; omega, fun h0 => absurd h0 (fun h0 => by rw [h0] at l; simp at l; omega), fun _ p3 hp3 => ?_⟩
        have e4 := same_new hp3 (.tup ([V.str z] ++ vs))
        have e := ((e1.trans e2).trans e3).trans e4
        refine q _ (.tup ([.str z] ++ ts)) _ (g.trans (grow_same g.ok e)) (.tup upd_same ((Reps.cons (.str _ (by omega)) .nil).append (rt.same e))) (.tup fun t' ht => ?_)
        rcases List.mem_append.mp ht with ht | ht
        · rw [List.mem_singleton] at ht
          subst ht
          exact .str
        · exact dp t' ht
      · exact ⟨_, rfl, q _ _ _ (g.trans (grow_same g.ok e1)) (.str _ (by omega)) .str⟩
  case q5 =>
    rintro D σ H ⟨st, ta, lsr, lk, lr, srt, kn, rc, lo, own, lh, d, way, p, hs, rfl, k, d0, d1, hp, pn, l0, l1, hv, q⟩
    refine ⟨_, rfl, _, _, rfl, rfl, _, rfl, ite2 (fun c => ?_) (fun c => ?_)⟩
    · refine ⟨_, rfl, p, _, rfl, .inl (SqL.of hp), _, _, rfl, rfl, _, rfl, ite2 (fun c2 => ?_) (fun c2 => ?_)⟩
      · refine ⟨_, rfl, _, rfl, _, rfl, p, _, rfl, .inl (SqL.of hp), st, (hs.length : Nat), rfl, k.ok, by omega, by omega, fun e H1 e0 e1 g1 => ?_⟩
        obtain ⟨v, hz, vm⟩ := at_any (xs := hs) e0 e1
        obtain ⟨⟨z, m⟩, rv, lz, m0, m4⟩ := hv v vm
        refine ⟨p, _, e, v, rfl, rfl, SqL.of (g1.1 _ _ pn hp), hz, ?_⟩
        have rv1 := rv.grow g1 k.ok
        cases rv1 with
        | @tup a vs _ ha rvs =>
        cases rvs with
        | @cons x0 _ xs1 _ r0 rvs =>
        cases rvs with
        | @cons x1 _ xs2 _ r1 rvs =>
        cases rvs
        cases r0
        cases r1
        have k1 := k.grow g1
        refine ⟨a, _, rfl, SqT.of ha, rfl, _, _, rfl, _, _, rfl, rfl, ?_⟩
        have q1 : ∀ v t H', Grow st H1 H' → Rep H' v t → DpT (n + 1) t → D.rt v H' := fun v t H' g r dp => q v t H' (g1.trans g) r dp
        refine ⟨_, rfl, _, _, rfl, rfl, _, rfl, ite2 (fun c3 => ?_) (fun c3 => ?_)⟩
        · exact iteT ⟨st, ta, lsr, lk, lr, srt, kn, rc, lo, own, lh, d, way, p, z, m, rfl, k1, d0, d1, .inl (of_decide_eq_true c3), lz, m0, m4, q1⟩
        · refine ⟨_, rfl, rfl, _, rfl, ite2 (fun c4 => ?_) (fun c4 => ?_)⟩
          · exact ⟨st, ta, lsr, lk, lr, srt, kn, rc, lo, own, lh, d, way, p, z, m, rfl, k1, d0, d1, .inr (V.int.inj (of_decide_eq_true c4)), lz, m0, m4, q1⟩
          · exact q1 _ _ _ (Grow.refl k1.ok) (.str _ (by rw [num_len]; decide)) .str
      · exact q _ _ _ (Grow.refl k.ok) (.str _ (by rw [num_len]; decide)) .str
    · exact q _ _ _ (Grow.refl k.ok) (.str _ (by rw [num_len]; decide)) .str
  refine ⟨_, rfl, st, 4, rfl, k.ok, by decide, by decide, fun way H1 w0 w4 g1 => ?_⟩
  have k1 := k.grow g1
  obtain ⟨fa, pa, pp, fx, hl, q1, q2, svs, gp, gf, x1, x2, a1, a2, a3, _⟩ := k1.th.has
  have hz := sizeLine_eq
  have lsv := a3.length
  rw [List.length_map] at lsv
  have lss := k1.th.ls
  refine ⟨_, rfl, ta, _, rfl, dget_of a1 val_hd, _, rfl, lsr, lh, svs, [], rfl, rfl, a2, k1.hh, by simp; omega, fun p1 hp1 => ?_⟩
  have e1 := same_new hp1 (.lst (svs ++ []))
  have hp11 : (upd H1 p1 (.lst (svs ++ []))) p1 = some (.lst (svs ++ [])) := upd_same
  revert e1 hp11
  generalize upd H1 p1 (.lst (svs ++ [])) = H2
  intro e1 hp11
  rw [List.append_nil] at hp11
  have k2 := k1.same e1
  refine ⟨_, rfl, st, ta, lsr, lk, lr, srt, kn, rc, rfl, k2.th, fun l us y1 y2 H3 ly1 ly2 e2 hl0 hl3 r3 => ?_⟩
  have k3 := k2.same e2
  have lu := r3.length
  refine ⟨p1, l, svs, us, rfl, rfl, e2 _ _ hp11, hl3, by rw [lu]; simp; omega, fun p hp => ?_⟩
  have e3 := same_new hp (.lst (svs ++ us))
  have hpp : (upd H3 p (.lst (svs ++ us))) p = some (.lst (svs ++ us)) := upd_same
  have npst : p ≠ st := fun e => by obtain ⟨ns, _, _, z⟩ := k3.ok; rw [← e, hp] at z; cases z
  have k4 := k3.same e3
  have rr : Reps (upd H3 p (.lst (svs ++ us))) (svs ++ us) (srt.map hT ++ [hT (y1, 0), hT (y2, 2)]) := ((a3.same (e1.trans e2)).append r3).same e3
  have g4 : Grow st H (upd H3 p (.lst (svs ++ us))) := g1.trans (grow_same g1.ok ((e1.trans e2).trans e3))
  revert hpp k4 rr g4
  generalize upd H3 p (.lst (svs ++ us)) = H4
  intro hpp k4 rr g4
  have q4 : ∀ v t H', Grow st H4 H' → Rep H' v t → DpT (n + 1) t → Q v H' := fun v t H' g r dp => q v t H' (g4.trans g) r dp
  have hv : ∀ v ∈ svs ++ us, ∃ h : Str × Int, Rep H4 v (hT h) ∧ h.1.length ≤ 50 ∧ 0 ≤ h.2 ∧ h.2 < 4 := by
    intro v hv
    obtain ⟨i, hi⟩ := List.getElem?_of_mem hv
    obtain ⟨t, ht, rt⟩ := rr.at3 hi
    rcases List.mem_append.mp (List.mem_of_getElem? ht) with h | h
    · obtain ⟨x, hx, rfl⟩ := List.mem_map.mp h
      have := k4.th.hs x hx
      exact ⟨x, rt, by omega, this.2.1, this.2.2⟩
    · simp only [List.mem_cons, List.not_mem_nil, or_false] at h
      rcases h with rfl | rfl
      · exact ⟨_, rt, ly1, (by show (0 : Int) ≤ 0; decide), (by show (0 : Int) < 4; decide)⟩
      · exact ⟨_, rt, ly2, (by show (0 : Int) ≤ 2; decide), (by show (2 : Int) < 4; decide)⟩
  have l0 : 0 < (svs ++ us).length := by rw [List.length_append, lu]; simp
  have l1 : (svs ++ us).length ≤ 100 := by rw [List.length_append, lu]; simp; omega
  refine ⟨_, rfl, rfl, _, rfl, ite2 (fun c => ?_) (fun c => ?_)⟩
  · refine ⟨_, rfl, _, _, rfl, rfl, _, rfl, ite2 (fun c2 => ?_) (fun c2 => ?_)⟩
    · have c3 : 0 < d := of_decide_eq_true c2
      refine ⟨_, rfl, _, rfl, _, rfl, _, rfl, _, rfl, _, _, rfl, rfl, st, ta, lsr, lk, lr, srt, kn, rc, lo, own, lh, d - 1, rfl, k4, by omega, by omega, fun v t H5 g5 r5 dp5 => ?_⟩
      have k5 := k4.grow g5
      refine ⟨_, rfl, _, rfl, _, rfl, _, rfl, _, rfl, _, _, rfl, rfl, st, ta, lsr, lk, lr, srt, kn, rc, lo, own, lh, d - 1, rfl, k5, by omega, by omega, fun v2 t2 H6 g6 r6 dp6 => ⟨by simp [hz], fun p6 hp6 => ?_⟩⟩
      have e7 := same_new hp6 (.tup [.str "->", v, v2])
      have g7 := grow_same g6.ok e7
      refine q4 _ (.tup [.str "->", t, t2]) _ ((g5.trans g6).trans g7) (.tup upd_same (.cons (.str _ (by have := arrow_len; omega)) (.cons ((r5.grow g6 k5.ok).same e7) (.cons (r6.same e7) .nil)))) (.tup fun t' ht => ?_)
      simp only [List.mem_cons, List.not_mem_nil, or_false] at ht
      rcases ht with rfl | rfl | rfl
      · exact .str
      · exact dp5
      · exact dp6
    · exact ⟨st, ta, lsr, lk, lr, srt, kn, rc, lo, own, lh, d, way, p, _, rfl, k4, d0, d1, hpp, npst, l0, l1, hv, q4⟩
  · exact ⟨st, ta, lsr, lk, lr, srt, kn, rc, lo, own, lh, d, way, p, _, rfl, k4, d0, d1, hpp, npst, l0, l1, hv, q4⟩
theorem kind_all (F : Fun K "_law_kind" "_law_kind" s_kind f fd) (bF : Binds K fd pK []) (mF : mg "_law_kind" = some (.ref f)) (ml : mg "len" = none) (mr : mg "range" = none) (mt : mg "tuple" = none) (h1 : Has P w K mg base 1 "_law_next" ["_law_state", "_law_many"] spNext) (h2 : Has P w K mg base 1 "_law_paths" ["_law_there", "_law_what"] spPaths) :
    ∀ n : Nat, Has P w K mg base (n + 1) "_law_kind" pK (spKind n)
  | 0 => ⟨f, fd, ⟨fun vs H Q E h => by obtain ⟨st, ta, lsr, lk, lr, srt, kn, rc, lo, own, lh, d, rfl, k, d0, d1, q⟩ := h; exact absurd d1 (by simpa using d0), fun A outer s H args us vs Q E _ _ _ _ h => by obtain ⟨st, ta, lsr, lk, lr, srt, kn, rc, lo, own, lh, d, rfl, k, d0, d1, q⟩ := h; exact absurd d1 (by simpa using d0)⟩, bF, F.kp, mF⟩
  | n + 1 => ⟨f, fd, ok_kind F ml mr mt h1 h2 (kind_all F bF mF ml mr mt h1 h2 n), bF, F.kp, mF⟩
end
end Fw

set_option Elab.async false
set_option linter.all false
set_option maxRecDepth 100000
namespace Fw
open PySem PySem.Spec PyProof.Rows L2
theorem pe_weak {X : Cx} {e : Expr} {t t' : TE} (h : PE X e t) (q : ∀ σ H Q, t' σ H Q → t σ H Q) : PE X e t' := fun pins s σ H Q I h' => h pins s σ H Q I (q _ _ _ h')
def sh (b : Bool) : Str := if b then "record" else "kind"
theorem TH.move {H H' : Hp} {st ta lsr lk lr : Addr} {srt srt' : List (Str × Int)} {kn rc kn' rc' : List Str} {svs' : List V} (t : TH H st ta lsr lk lr srt kn rc) (m : ∀ b o, b ≠ lsr → b ≠ lk → b ≠ lr → H b = some o → H' b = some o)
    (h1 : H' lsr = some (.lst svs')) (h2 : Reps H' svs' (srt'.map hT)) (h3 : H' lk = some (.lst (kn'.map V.str))) (h4 : H' lr = some (.lst (rc'.map V.str))) (h5 : ∀ h ∈ srt', h.1.length ≤ 20 ∧ 0 ≤ h.2 ∧ h.2 < 4) (h6 : srt'.length ≤ 20) (h7 : kn'.length ≤ 200) (h8 : rc'.length ≤ 200) : TH H' st ta lsr lk lr srt' kn' rc' := by
  obtain ⟨fa, pa, pp, fd, hl, q1, q2, svs, gp, gf, x1, x2, a1, a2, a3, a4, a5, a6, a7, a8, a9, a10, a11, a12, a13, a14, a15⟩ := t.has
  have nd : ∀ {b k}, H b = some (.dK k) → H' b = some (.dK k) := fun h => m _ _ (ne_of h a2 (by intro z; cases z)) (ne_of h t.hk (by intro z; cases z)) (ne_of h t.hr (by intro z; cases z)) h
  have nt : ∀ {b k}, H b = some (.tup k) → H' b = some (.tup k) := fun h => m _ _ (ne_of h a2 (by intro z; cases z)) (ne_of h t.hk (by intro z; cases z)) (ne_of h t.hr (by intro z; cases z)) h
  exact ⟨⟨fa, pa, pp, fd, hl, q1, q2, svs', gp, gf, x1, x2, nd a1, h1, h2, nd a4, nd a5, m _ _ a14.1 a14.2.1 a14.2.2.1 a6, nt a7, nt a8, m _ _ a15.1 a15.2.1 a15.2.2.1 a9, nt a10, a11, a12, a13, a14, a15⟩, h3, h4, t.n1, t.n2, h5, h6, h7, h8⟩
def Off (l st lsr lk lr : Addr) : Prop := l ≠ st ∧ l ≠ lsr ∧ l ≠ lk ∧ l ≠ lr
def Gr4 (st lsr lk lr : Addr) (H H' : Hp) : Prop := ∀ b o, Off b st lsr lk lr → H b = some o → H' b = some o
theorem Gr4.trans {st lsr lk lr : Addr} {H H1 H2 : Hp} (a : Gr4 st lsr lk lr H H1) (b : Gr4 st lsr lk lr H1 H2) : Gr4 st lsr lk lr H H2 := fun c o h e => b c o h (a c o h e)
theorem Gr4.grow {st lsr lk lr : Addr} {H H' : Hp} (g : Grow st H H') : Gr4 st lsr lk lr H H' := fun c o h e => g.1 c o h.1 e
theorem Gr4.same {st lsr lk lr : Addr} {H H' : Hp} (g : Same H H') : Gr4 st lsr lk lr H H' := fun c o h e => g c o e
/-- all that the rows are drawn of -/
structure SIn (H : Hp) (st wa ta ls lg la lsr lk lr : Addr) (ss gs as : List Str) (srt : List (Str × Int)) (kn rc : List Str) : Prop where
  ok : StOk H st
  hwa : H wa = some (.dK [(Sum.inr "small", .ref ls), (Sum.inr "great", .ref lg), (Sum.inr "any", .ref la)])
  ps : Pool H st ls ss 26 52
  pg : Pool H st lg gs 26 52
  pa : Pool H st la as 26 26
  o1 : Off ls st lsr lk lr
  o2 : Off lg st lsr lk lr
  o3 : Off la st lsr lk lr
  th : TH H st ta lsr lk lr srt kn rc
section
variable {H H' : Hp} {st wa ta ls lg la lsr lk lr : Addr} {ss gs as : List Str} {srt srt' : List (Str × Int)} {kn rc kn' rc' : List Str}
theorem SIn.grow (k : SIn H st wa ta ls lg la lsr lk lr ss gs as srt kn rc) (g : Grow st H H') : SIn H' st wa ta ls lg la lsr lk lr ss gs as srt kn rc := by
  obtain ⟨ns, _, _, z⟩ := k.ok
  exact ⟨g.ok, g.1 _ _ (ne_of k.hwa z (by intro z; cases z)) k.hwa, k.ps.grow g, k.pg.grow g, k.pa.grow g, k.o1, k.o2, k.o3, k.th.grow g k.ok⟩
theorem SIn.same (k : SIn H st wa ta ls lg la lsr lk lr ss gs as srt kn rc) (g : Same H H') : SIn H' st wa ta ls lg la lsr lk lr ss gs as srt kn rc := k.grow (grow_same k.ok g)
theorem SIn.words (k : SIn H st wa ta ls lg la lsr lk lr ss gs as srt kn rc) : WordsAt H st (.ref wa) ss gs as := by
  obtain ⟨ns, _, _, z⟩ := k.ok
  exact ⟨wa, ls, lg, la, rfl, ne_of k.hwa z (by intro z; cases z), k.hwa, k.ps, k.pg, k.pa⟩
theorem SIn.off (k : SIn H st wa ta ls lg la lsr lk lr ss gs as srt kn rc) {l : Addr} (h : H l = none) : Off l st lsr lk lr := by
  obtain ⟨fa, pa, pp, fd, hl, q1, q2, svs, gp, gf, x1, x2, a1, a2, _⟩ := k.th.has
  obtain ⟨ns, _, _, z⟩ := k.ok
  exact ⟨fun e => (by rw [e, z] at h; cases h), fun e => (by rw [e, a2] at h; cases h), fun e => (by rw [e, k.th.hk] at h; cases h), fun e => (by rw [e, k.th.hr] at h; cases h)⟩
theorem SIn.offT (k : SIn H st wa ta ls lg la lsr lk lr ss gs as srt kn rc) {l : Addr} {xs : List V} (h : H l = some (.tup xs)) : Off l st lsr lk lr := by
  obtain ⟨fa, pa, pp, fd, hl, q1, q2, svs, gp, gf, x1, x2, a1, a2, _⟩ := k.th.has
  obtain ⟨ns, _, _, z⟩ := k.ok
  exact ⟨ne_of h z (by intro z; cases z), ne_of h a2 (by intro z; cases z), ne_of h k.th.hk (by intro z; cases z), ne_of h k.th.hr (by intro z; cases z)⟩
theorem SIn.move {svs' : List V} (k : SIn H st wa ta ls lg la lsr lk lr ss gs as srt kn rc) (m : ∀ b o, b ≠ lsr → b ≠ lk → b ≠ lr → H b = some o → H' b = some o)
    (h1 : H' lsr = some (.lst svs')) (h2 : Reps H' svs' (srt'.map hT)) (h3 : H' lk = some (.lst (kn'.map V.str))) (h4 : H' lr = some (.lst (rc'.map V.str))) (h5 : ∀ h ∈ srt', h.1.length ≤ 20 ∧ 0 ≤ h.2 ∧ h.2 < 4) (h6 : srt'.length ≤ 20) (h7 : kn'.length ≤ 200) (h8 : rc'.length ≤ 200) :
    SIn H' st wa ta ls lg la lsr lk lr ss gs as srt' kn' rc' := by
  obtain ⟨fa, pa, pp, fd, hl, q1, q2, svs, gp, gf, x1, x2, a1, a2, _⟩ := k.th.has
  obtain ⟨ns, n1, n2, z⟩ := id k.ok
  have mo : ∀ {l zs a b}, Off l st lsr lk lr → Pool H st l zs a b → Pool H' st l zs a b := fun o p => ⟨m _ _ o.2.1 o.2.2.1 o.2.2.2 p.at_, p.ne, p.nd, p.lo, p.hi, p.len⟩
  exact ⟨⟨ns, n1, n2, m _ _ (Ne.symm k.th.n2.1) (Ne.symm k.th.n2.2.1) (Ne.symm k.th.n2.2.2) z⟩, m _ _ (ne_of k.hwa a2 (by intro z; cases z)) (ne_of k.hwa k.th.hk (by intro z; cases z)) (ne_of k.hwa k.th.hr (by intro z; cases z)) k.hwa, mo k.o1 k.ps, mo k.o2 k.pg, mo k.o3 k.pa, k.o1, k.o2, k.o3, k.th.move m h1 h2 h3 h4 h5 h6 h7 h8⟩
/-- one more sort -/
theorem SIn.sort (k : SIn H st wa ta ls lg la lsr lk lr ss gs as srt kn rc) {v : V} {z : Str} {n : Int} (rv : Rep H v (hT (z, n))) (hz : z.length ≤ 20) (n0 : 0 ≤ n) (n4 : n < 4) (hl : srt.length < 20) :
    ∃ svs, H lsr = some (.lst svs) ∧ svs.length = srt.length ∧ SIn (upd H lsr (.lst (svs ++ [v]))) st wa ta ls lg la lsr lk lr ss gs as (srt ++ [(z, n)]) kn rc ∧ Gr4 st lsr lk lr H (upd H lsr (.lst (svs ++ [v]))) := by
  obtain ⟨fa, pa, pp, fd, hl', q1, q2, svs, gp, gf, x1, x2, a1, a2, a3, _⟩ := k.th.has
  have tu : ∀ b xs, H b = some (.tup xs) → (upd H lsr (.lst (svs ++ [v]))) b = some (.tup xs) := fun b xs h => by rw [upd_ne (k.offT h).2.1]; exact h
  refine ⟨svs, a2, by rw [a3.length, List.length_map], k.move (fun b o h1 _ _ h => by rw [upd_ne h1]; exact h) upd_same ?_ (by rw [upd_ne (Ne.symm k.th.n1.1)]; exact k.th.hk) (by rw [upd_ne (Ne.symm k.th.n1.2.1)]; exact k.th.hr) ?_ (by rw [List.length_append]; exact hl) k.th.lkn k.th.lrc, fun b o h e => by rw [upd_ne h.2.1]; exact e⟩
  · rw [List.map_append]
    exact (a3.mono tu).append (.cons (rv.mono tu) .nil)
  · intro h hh
    rcases List.mem_append.mp hh with hh | hh
    · exact k.th.hs h hh
    · rw [List.mem_singleton] at hh
      subst hh
      exact ⟨hz, n0, n4⟩
def cl (b : Bool) (lk lr : Addr) : Addr := if b then lr else lk
def cur (b : Bool) (kn rc : List Str) : List Str := if b then rc else kn
/-- one more tag or field -/
theorem SIn.word (b : Bool) (k : SIn H st wa ta ls lg la lsr lk lr ss gs as srt kn rc) (z : Str) (l1 : kn.length < 200) (l2 : rc.length < 200) :
    H (cl b lk lr) = some (.lst ((cur b kn rc).map V.str)) ∧ SIn (upd H (cl b lk lr) (.lst ((cur b kn rc ++ [z]).map V.str))) st wa ta ls lg la lsr lk lr ss gs as srt (if b then kn else kn ++ [z]) (if b then rc ++ [z] else rc) ∧ Gr4 st lsr lk lr H (upd H (cl b lk lr) (.lst ((cur b kn rc ++ [z]).map V.str))) := by
  obtain ⟨fa, pa, pp, fd, hl', q1, q2, svs, gp, gf, x1, x2, a1, a2, a3, _⟩ := k.th.has
  cases b with
  | false =>
    have tu : ∀ b xs, H b = some (.tup xs) → (upd H lk (.lst ((kn ++ [z]).map V.str))) b = some (.tup xs) := fun b xs h => by rw [upd_ne (k.offT h).2.2.1]; exact h
    exact ⟨k.th.hk, k.move (fun b o _ h1 _ h => by show upd _ lk _ b = _; rw [upd_ne h1]; exact h) (by show upd _ lk _ lsr = _; rw [upd_ne k.th.n1.1]; exact a2) (a3.mono tu) upd_same (by show upd _ lk _ lr = _; rw [upd_ne (Ne.symm k.th.n1.2.2)]; exact k.th.hr) k.th.hs k.th.ls (by show (kn ++ [z]).length ≤ 200; rw [List.length_append]; exact l1) k.th.lrc, fun b o h e => by show upd _ lk _ b = _; rw [upd_ne h.2.2.1]; exact e⟩
  | true =>
    have tu : ∀ b xs, H b = some (.tup xs) → (upd H lr (.lst ((rc ++ [z]).map V.str))) b = some (.tup xs) := fun b xs h => by rw [upd_ne (k.offT h).2.2.2]; exact h
    exact ⟨k.th.hr, k.move (fun b o _ _ h1 h => by show upd _ lr _ b = _; rw [upd_ne h1]; exact h) (by show upd _ lr _ lsr = _; rw [upd_ne k.th.n1.2.1]; exact a2) (a3.mono tu) (by show upd _ lr _ lk = _; rw [upd_ne k.th.n1.2.2]; exact k.th.hk) upd_same k.th.hs k.th.ls k.th.lkn (by show (rc ++ [z]).length ≤ 200; rw [List.length_append]; exact l2), fun b o h e => by show upd _ lr _ b = _; rw [upd_ne h.2.2.2]; exact e⟩
end
end Fw

set_option Elab.async false
set_option linter.all false
set_option maxRecDepth 100000
namespace Fw
open PySem PySem.Spec PyProof.Rows L2
theorem cutt (vs : List V) (n : Nat) : cutV vs none (some (n : Int)) = vs.take n := by
  unfold cutV
  rw [HT.sIx_none, HT.sIx_nat]
  by_cases h : n ≤ vs.length
  · rw [Nat.min_eq_left h]
    simp
  · rw [Nat.min_eq_right (by omega)]
    simp
    exact (List.take_of_length_le (by omega)).symm
theorem TH.re {H H' : Hp} {st ta lsr lk lr : Addr} {srt srt' : List (Str × Int)} {kn rc kn' rc' : List Str} {svs' : List V} (t : TH H st ta lsr lk lr srt kn rc) (ok : StOk H st) (m : Gr4 st lsr lk lr H H')
    (h1 : H' lsr = some (.lst svs')) (h2 : Reps H' svs' (srt'.map hT)) (h3 : H' lk = some (.lst (kn'.map V.str))) (h4 : H' lr = some (.lst (rc'.map V.str))) (h5 : ∀ h ∈ srt', h.1.length ≤ 20 ∧ 0 ≤ h.2 ∧ h.2 < 4) (h6 : srt'.length ≤ 20) (h7 : kn'.length ≤ 200) (h8 : rc'.length ≤ 200) : TH H' st ta lsr lk lr srt' kn' rc' := by
  obtain ⟨fa, pa, pp, fd, hl, q1, q2, svs, gp, gf, x1, x2, a1, a2, a3, a4, a5, a6, a7, a8, a9, a10, a11, a12, a13, a14, a15⟩ := t.has
  obtain ⟨ns, _, _, z3⟩ := ok
  have nd : ∀ {b k}, H b = some (.dK k) → H' b = some (.dK k) := fun h => m _ _ ⟨ne_of h z3 (by intro z; cases z), ne_of h a2 (by intro z; cases z), ne_of h t.hk (by intro z; cases z), ne_of h t.hr (by intro z; cases z)⟩ h
  have nt : ∀ {b k}, H b = some (.tup k) → H' b = some (.tup k) := fun h => m _ _ ⟨ne_of h z3 (by intro z; cases z), ne_of h a2 (by intro z; cases z), ne_of h t.hk (by intro z; cases z), ne_of h t.hr (by intro z; cases z)⟩ h
  exact ⟨⟨fa, pa, pp, fd, hl, q1, q2, svs', gp, gf, x1, x2, nd a1, h1, h2, nd a4, nd a5, m _ _ ⟨a14.2.2.2, a14.1, a14.2.1, a14.2.2.1⟩ a6, nt a7, nt a8, m _ _ ⟨a15.2.2.2, a15.1, a15.2.1, a15.2.2.1⟩ a9, nt a10, a11, a12, a13, a14, a15⟩, h3, h4, t.n1, t.n2, h5, h6, h7, h8⟩
section
variable {H H0 H' : Hp} {st wa ta ls lg la lsr lk lr : Addr} {ss gs as : List Str} {srt srt' srt0 : List (Str × Int)} {kn rc kn' rc' kn0 rc0 : List Str}
/-- a list of one's own is set anew -/
theorem SIn.aside (k0 : SIn H0 st wa ta ls lg la lsr lk lr ss gs as srt0 kn0 rc0) (g : Gr4 st lsr lk lr H0 H') (k : SIn H' st wa ta ls lg la lsr lk lr ss gs as srt kn rc) {l : Addr} {xs ys : List V} (h0 : H0 l = none) (hl : H' l = some (.lst xs)) :
    SIn (upd H' l (.lst ys)) st wa ta ls lg la lsr lk lr ss gs as srt kn rc ∧ Gr4 st lsr lk lr H0 (upd H' l (.lst ys)) := by
  have of := k0.off h0
  have g' : Gr4 st lsr lk lr H0 (upd H' l (.lst ys)) := fun b o ob h => by
    rw [upd_ne (fun e => by rw [e, h0] at h; cases h)]
    exact g b o ob h
  obtain ⟨fa, pa, pp, fd, hl', q1, q2, svs, gp, gf, x1, x2, a1, a2, a3, _⟩ := k.th.has
  obtain ⟨ns, n1, n2, z3⟩ := id k.ok
  obtain ⟨_, _, _, z0⟩ := id k0.ok
  obtain ⟨_, _, _, _, _, _, _, sv0, _, _, _, _, _, w2, _⟩ := k0.th.has
  have tu : ∀ b xs, H' b = some (.tup xs) → (upd H' l (.lst ys)) b = some (.tup xs) := fun b xs h => by rw [upd_ne (ne_of h hl (by intro z; cases z))]; exact h
  have mo : ∀ {p zs a b}, Off p st lsr lk lr → Pool H0 st p zs a b → Pool (upd H' l (.lst ys)) st p zs a b := fun o p => ⟨g' _ _ o p.at_, p.ne, p.nd, p.lo, p.hi, p.len⟩
  refine ⟨⟨⟨ns, n1, n2, by rw [upd_ne (Ne.symm of.1)]; exact z3⟩, g' _ _ ⟨ne_of k0.hwa z0 (by intro z; cases z), ne_of k0.hwa w2 (by intro z; cases z), ne_of k0.hwa k0.th.hk (by intro z; cases z), ne_of k0.hwa k0.th.hr (by intro z; cases z)⟩ k0.hwa, mo k0.o1 k0.ps, mo k0.o2 k0.pg, mo k0.o3 k0.pa, k0.o1, k0.o2, k0.o3, ?_⟩, g'⟩
  exact k0.th.re k0.ok g' (svs' := svs) (by rw [upd_ne (Ne.symm of.2.1)]; exact a2) (a3.mono tu) (by rw [upd_ne (Ne.symm of.2.2.1)]; exact k.th.hk) (by rw [upd_ne (Ne.symm of.2.2.2)]; exact k.th.hr) k.th.hs k.th.ls k.th.lkn k.th.lrc
theorem SIn.dget (k : SIn H st wa ta ls lg la lsr lk lr ss gs as srt kn rc) (b : Bool) : DGet H ta (.str (sh b)) (some (.ref (cl b lk lr))) := by
  obtain ⟨k1, k2, k3, k4, k5, k6, k7, k8, k9, k10⟩ := ThKeys
  obtain ⟨fa, pa, pp, fd, hl', q1, q2, svs, gp, gf, x1, x2, a1, a2, a3, _⟩ := k.th.has
  cases b with
  | true => exact dget_of (k := "record") a1 (by rw [val_tl k2, val_tl k5, val_hd]; rfl)
  | false => exact dget_of (k := "kind") a1 (by rw [val_tl k1, val_hd]; rfl)
theorem SIn.clAt (k : SIn H st wa ta ls lg la lsr lk lr ss gs as srt kn rc) (b : Bool) : H (cl b lk lr) = some (.lst ((cur b kn rc).map V.str)) := by
  cases b with
  | true => exact k.th.hr
  | false => exact k.th.hk
theorem SIn.pool (k : SIn H st wa ta ls lg la lsr lk lr ss gs as srt kn rc) (b : Bool) : Pool H st (if b then ls else lg) (if b then ss else gs) 26 52 := by
  cases b with
  | true => exact k.ps
  | false => exact k.pg
end
def rowT (r : Str × List T) : T := .tup (.str r.1 :: r.2)
/-- the loop of a sort's rows -/
def SLoop (H0 : Hp) (st wa ta ls lg la lsr lk lr : Addr) (ss gs as : List Str) (srt : List (Str × Int)) (kn rc : List Str) (z : Str) (lo rw_ pw : Addr) (own ws : List Str) (b : Bool) (vp : V) (i : Nat) (σ : L2.St) (H' : Hp) : Prop :=
  ∃ (rowsD : List (Str × List T)) (vs : List V) (o8 o9 : Option V), σ = [some (.ref st), some (.ref wa), some (.ref ta), some (.str z), some (.ref lo), some (.str (sh b)), some vp, some (.ref rw_), o8, o9] ∧
    SIn H' st wa ta ls lg la lsr lk lr ss gs as srt (if b then kn else kn ++ ws.take i) (if b then rc ++ ws.take i else rc) ∧ H' rw_ = some (.lst vs) ∧ Reps H' vs (rowsD.map rowT) ∧ rowsD.map (·.1) = ws.take i ∧
    (∀ r ∈ rowsD, (r.2.length ≤ 4 ∧ (b = true → r.2.length = 1)) ∧ ∀ t ∈ r.2, DpT 10 t) ∧ H' lo = some (.lst (own.map V.str)) ∧ H' pw = some (.lst (ws.map V.str)) ∧ Gr4 st lsr lk lr H0 H'
theorem reps_strs {H : Hp} : ∀ {zs : List Str}, (∀ y ∈ zs, y.length ≤ 100000) → Reps H (zs.map V.str) (zs.map T.str)
  | [], _ => .nil
  | z :: r, h => .cons (.str _ (h z List.mem_cons_self)) (reps_strs fun y hy => h y (List.mem_cons_of_mem _ hy))
theorem rows1 : ∀ {rs : List (Str × List T)}, (∀ r ∈ rs, r.2.length = 1) → ∃ fs : List (Str × T), rs = fs.map fun f => (f.1, [f.2])
  | [], _ => ⟨[], rfl⟩
  | r :: rs, h => by
    obtain ⟨fs, e⟩ := rows1 fun x hx => h x (List.mem_cons_of_mem _ hx)
    obtain ⟨n, l⟩ := r
    have hl : l.length = 1 := h (n, l) List.mem_cons_self
    match l, hl with
    | [t], _ => exact ⟨(n, t) :: fs, by rw [e]; rfl⟩
def nmD : Dc → Option Str
  | .other _ _ => none
  | .kind n _ _ => some n
  | .record n _ _ => some n
def tgD (d : Dc) : List Str := (tagM d).map (·.1)
def fdD (d : Dc) : List Str := (fldM d).map (·.1)
def spSort : Sp := fun vs H Q _ => ∃ (st wa ta ls lg la lsr lk lr : Addr) (ss gs as : List Str) (srt : List (Str × Int)) (kn rc : List Str), vs = [.ref st, .ref wa, .ref ta] ∧ SIn H st wa ta ls lg la lsr lk lr ss gs as srt kn rc ∧ srt.length < 20 ∧ kn.length + 6 ≤ 200 ∧ rc.length + 4 ≤ 200 ∧ kn.Nodup ∧ rc.Nodup ∧
  ∀ v d z m H', SIn H' st wa ta ls lg la lsr lk lr ss gs as (srt ++ [(z, m)]) (kn ++ tgD d) (rc ++ fdD d) → d.ok → Rep H' v d.t → nmD d = some z → z ∉ srt.map (·.1) → (kn ++ tgD d).Nodup → (rc ++ fdD d).Nodup → (tgD d).length ≤ 6 → (fdD d).length ≤ 4 → Gr4 st lsr lk lr H H' → Q v H'
/-- the drawn word: kind or record -/
def tSh : TE := fun σ H Q => ∃ st, σ[0]? = some (some (.ref st)) ∧ StOk H st ∧ ∀ b H', Grow st H H' → Q (.str (sh b)) H'
def tPool : TE := fun σ H Q => ∃ (wa ls lg la : Addr) (b : Bool), σ[1]? = some (some (.ref wa)) ∧ σ[5]? = some (some (.str (sh b))) ∧ H wa = some (.dK [(Sum.inr "small", .ref ls), (Sum.inr "great", .ref lg), (Sum.inr "any", .ref la)]) ∧ ∀ H', Same H H' → Q (.ref (if b then ls else lg)) H'
def tSix : TE := fun σ H Q => ∃ b : Bool, σ[5]? = some (some (.str (sh b))) ∧ ∀ H', Same H H' → Q (.int (if b then 4 else 6)) H'
def tMany : TE := fun σ H Q => ∃ (st : Addr) (b : Bool), σ[0]? = some (some (.ref st)) ∧ σ[5]? = some (some (.str (sh b))) ∧ StOk H st ∧ ∀ m H', Grow st H H' → 0 ≤ m → m ≤ 4 → (b = true → m = 1) → Q (.int m) H'
theorem sh_rec (b : Bool) : decide (V.str (sh b) = V.str "record") = b := by
  cases b with
  | true => exact decide_eq_true rfl
  | false => exact decide_eq_false fun e => kr_ne (V.str.inj e).symm
theorem sh_kin (b : Bool) : decide (V.str (sh b) = V.str "kind") = !b := by
  cases b with
  | true => exact decide_eq_false fun e => kr_ne (V.str.inj e)
  | false => exact decide_eq_true rfl
theorem gsk : ("small" : Str) ≠ "great" ∧ ("small" : Str) ≠ "any" ∧ ("great" : Str) ≠ "any" := by decide +kernel
section
variable {P : Program} {w : World} {K : PySem.W.Frag} {mg : Str → Option Value} {base : Heap} {f : Addr} {fd : FuncData} {C : Addr}
abbrev s_sort : Stmt := top 14
abbrev nS : List Str := ["_law_state", "_law_words_here", "_law_there", "_law_name", "_law_own", "_law_sort_here", "_law_pool", "_law_rows", "_law_word", "_law_many"]
theorem sc_sort : FnScope nS ["_law_state", "_law_words_here", "_law_there"] (defScope s_sort) := ⟨rfl, rfl, rfl, by decide +kernel, rfl, by decide +kernel, by decide +kernel⟩
set_option maxHeartbeats 4000000 in
theorem ok_sort (F : Fun K "_law_sort" "_law_sort" s_sort f fd) (ml : mg "len" = none) (mr : mg "range" = none) (mt : mg "tuple" = none) (mI : mg "int" = none) (h1 : Has P w K mg base 1 "_law_next" ["_law_state", "_law_many"] spNext) (h2 : Has P w K mg base 1 "_law_new" ["_law_words_here", "_law_sort_here", "_law_taken"] spNew)
    (h3 : Has P w K mg base 4 "_law_kind" pK (spKind 3)) : FnOk P w K mg base CX0 5 f fd ["_law_state", "_law_words_here", "_law_there"] spSort := by
  refine F.ok sc_sort (fun vs H Q E h => ?_) (fun cdv A outer s H vs Q E hr h => ?_)
  · obtain ⟨st, wa, ta, ls, lg, la, lsr, lk, lr, ss, gs, as, srt, kn, rc, rfl, _⟩ := h
    rfl
  obtain ⟨st, wa, ta, ls, lg, la, lsr, lk, lr, ss, gs, as, srt, kn, rc, rfl, k, l1, l2, l3, nd1, nd2, q⟩ := h
  have hu := hu_of hr
  refine ⟨_, pss_cons (ps_set (i := 3) sc_sort.nd rfl (Or.inl rfl) (pcall h2 hr (by decide) rfl (pa_cons (pv 1) (pa_cons pe_str (pa_cons (pe_lc (defScope s_sort) nS [] [] (by decide +kernel) (pi_list (pe_dget hu (pv 2) pe_str (fun _ _ => rfl))) (fun C s₀ H₀ ex => pts_nil) (fun C s₀ H₀ ex => pe_ix (r := rIxT K) ix_tup (pv 0) pe_int (fun _ _ => rfl))) pa_nil)))))
    (pss_cons (ps_set (i := 4) sc_sort.nd rfl (Or.inr rfl) (pe_slice sl_list (pe_dget hu (pv 1) pe_str (fun _ _ => rfl)) po_none (po_some (pcall h1 hr (by decide) rfl (pa_cons (pv 0) (pa_cons pe_int pa_nil))))))
    (pss_cons (ps_expr (pe_bm PySem.F.plainAttrs_list PySem.F.slot_list_append PySem.F.type_list_append mt_append (pe_dget hu (pv 2) pe_str (fun _ _ => rfl)) (pa_cons (pe_tup (pa_cons (pv 3) (pa_cons (pe_callB call_len_seq rfl ml PySem.boot_len (pa_cons (pv 4) pa_nil)) pa_nil))) pa_nil)))
    (pss_cons (ps_set (i := 5) sc_sort.nd rfl (Or.inr rfl) (pe_weak (t' := tSh) (pe_ix ix_list (pe_lst (pa_cons pe_str (pa_cons pe_str pa_nil))) (pcall h1 hr (by decide) rfl (pa_cons (pv 0) (pa_cons pe_int pa_nil))) (fun _ _ => rfl)) ?w1))
    (pss_cons (ps_set (i := 6) sc_sort.nd rfl (Or.inl rfl) (pe_weak (t' := tPool) (pe_dget hu (pv 1) (pe_ix ix_list (pe_lst (pa_cons pe_str (pa_cons pe_str pa_nil))) (pe_callTy call_int1 rfl mI boot_int (pa_cons (pe_cmpR op_eq (pv 5) pe_str (nomark _)) pa_nil)) (fun _ _ => rfl)) (fun _ _ => rfl)) ?w2))
    (pss_cons (ps_set (i := 7) sc_sort.nd rfl (Or.inl rfl) (pe_lst pa_nil))
    (pss_cons (ps_for PassesOwn.never rfl (pi_list (pe_slice sl_list (pe_lc (defScope s_sort) nS ["_law_sort_here", "_law_there"] [5, 2] (by decide +kernel) (pi_list (pv 6)) (fun C s₀ H₀ ex => pts_one (pt_cmpR (r := rIn K true) op_notIn_seq (pv 0) (pe_dget hu (pv 2) (pv 1) (fun _ _ => rfl)) (by with_unfolding_all rfl))) (fun C s₀ H₀ ex => pv 0))
        po_none (po_some (pe_op op_add pe_int (pcall h1 hr (by decide) rfl (pa_cons (pv 0) (pa_cons (pe_weak (t' := tSix) (pe_ix ix_list (pe_lst (pa_cons pe_int (pa_cons pe_int pa_nil))) (pe_callTy call_int1 rfl mI boot_int (pa_cons (pe_cmpR op_eq (pv 5) pe_str (nomark _)) pa_nil)) (fun _ _ => rfl)) ?w3) pa_nil)))))))
      (pg_name (i := 8) sc_sort.nd rfl (Or.inl rfl))
      (pss_cons (ps_expr (pe_bm PySem.F.plainAttrs_list PySem.F.slot_list_append PySem.F.type_list_append mt_append (pe_dget hu (pv 2) (pv 5) (fun _ _ => rfl)) (pa_cons (pv 8) pa_nil)))
      (pss_cons (ps_set (i := 9) sc_sort.nd rfl (Or.inl rfl) (pe_weak (t' := tMany) (pe_ifExp (pt_cmpR op_eq (pv 5) pe_str (nomark _)) (pcall h1 hr (by decide) rfl (pa_cons (pv 0) (pa_cons pe_int pa_nil))) pe_int) ?w4))
      (pss_one (ps_expr (pe_bm PySem.F.plainAttrs_list PySem.F.slot_list_append PySem.F.type_list_append mt_append (pv 7) (pa_cons (pe_op op_catT (pe_tup (pa_cons (pv 8) pa_nil)) (pe_callTy call_tuple_of rfl mt boot_tuple (pa_cons (pe_lc (defScope s_sort) nS ["_law_state", "_law_there", "_law_own"] [0, 2, 4] (by decide +kernel) (pi_range1 rfl mr (pa_cons (pv 9) pa_nil)) (fun C s₀ H₀ ex => pts_nil)
          (fun C s₀ H₀ ex => pcall h3 hr (by decide) rfl (pa_cons (pv 1) (pa_cons (pv 2) (pa_cons (pv 3) (pa_cons (pe_lst pa_nil) (pa_cons pe_int pa_nil))))))) pa_nil))) pa_nil)))))))
    (pss_one (ps_ret (pe_op op_catT (pe_tup (pa_cons (pv 5) (pa_cons (pv 3) (pa_cons (pe_callTy call_tuple_of rfl mt boot_tuple (pa_cons (pv 4) pa_nil)) pa_nil)))) (pe_callTy call_tuple_of rfl mt boot_tuple (pa_cons (pv 7) pa_nil))))))))))), ?_⟩
  case w1 =>
    rintro σ H Q ⟨st, e0, ok, q⟩
    refine ⟨small (by show 2 ≤ 1000000; decide), fun p1 hp1 => ?_⟩
    have g1 := grow_new (o := .lst [V.str "kind", V.str "record"]) ok hp1
    have np : p1 ≠ st := ok.fresh hp1
    refine ⟨_, e0, st, 2, rfl, g1.ok, by decide, by decide, fun d H2 d0 d2 g2 => ?_⟩
    have hp2 := g2.1 _ _ np upd_same
    have : d = 0 ∨ d = 1 := by omega
    rcases this with rfl | rfl
    · exact ⟨p1, _, 0, .str "kind", rfl, rfl, SqL.of hp2, atI_nat (j := 0) rfl, q false _ (g1.trans g2)⟩
    · exact ⟨p1, _, 1, .str "record", rfl, rfl, SqL.of hp2, atI_nat (j := 1) rfl, q true _ (g1.trans g2)⟩
  case w2 =>
    rintro σ H Q ⟨wa, ls, lg, la, b, e1, e5, hw, q⟩
    refine ⟨_, e1, small (by show 2 ≤ 1000000; decide), fun p1 hp1 => ⟨_, e5, rfl, .inr ⟨_, rfl, ?_⟩⟩⟩
    have s1 := same_new hp1 (.lst [V.str "great", V.str "small"])
    obtain ⟨g1, g2, g3⟩ := gsk
    rw [sh_rec]
    cases b with
    | true => exact ⟨p1, _, 1, .str "small", rfl, rfl, SqL.of upd_same, atI_nat (j := 1) rfl, wa, _, rfl, dget_of (s1 _ _ hw) val_hd, q _ s1⟩
    | false => exact ⟨p1, _, 0, .str "great", rfl, rfl, SqL.of upd_same, atI_nat (j := 0) rfl, wa, .ref lg, rfl, dget_of (s1 _ _ hw) (by rw [val_tl g1, val_hd]), q _ s1⟩
  case w3 =>
    rintro σ H Q ⟨b, e5, q⟩
    refine ⟨small (by show 2 ≤ 1000000; decide), fun p1 hp1 => ⟨_, e5, rfl, .inr ⟨_, rfl, ?_⟩⟩⟩
    have s1 := same_new hp1 (.lst [V.int 6, V.int 4])
    rw [sh_rec]
    cases b with
    | true => exact ⟨p1, _, 1, .int 4, rfl, rfl, SqL.of upd_same, atI_nat (j := 1) rfl, q _ s1⟩
    | false => exact ⟨p1, _, 0, .int 6, rfl, rfl, SqL.of upd_same, atI_nat (j := 0) rfl, q _ s1⟩
  case w4 =>
    rintro σ H Q ⟨st, b, e0, e5, ok, q⟩
    refine ⟨_, e5, rfl, _, rfl, ?_⟩
    rw [sh_kin]
    cases b with
    | true => exact iteF (q 1 H (Grow.refl ok) (by decide) (by decide) fun _ => rfl)
    | false => exact iteT ⟨_, e0, st, 5, rfl, ok, by decide, by decide, fun d H' d0 d5 g => q d H' g d0 (by omega) fun h => nomatch h⟩
  have hz := sizeLine_eq
  obtain ⟨k1, k2, k3, k4, k5, k6, k7, k8, k9, k10⟩ := ThKeys
  obtain ⟨y1, y2, y3⟩ := gsk
  obtain ⟨fa, pa, pp, fx, hl, q1, q2, svs, gp, gf, x1, x2, a1, a2, a3, _⟩ := k.th.has
  have lsv := a3.length
  rw [List.length_map] at lsv
  refine ⟨_, rfl, _, rfl, ta, _, rfl, dget_of a1 val_hd, lsr, rfl, ⟨_, SqL.of a2⟩, comp_lst (xs := svs) (fun i vs H' => H' = H ∧ vs = ((srt.map (·.1)).take i).map V.str) ⟨rfl, rfl⟩ ?_ ?_ ?_⟩
  · rintro i vs H' hi ⟨rfl, rfl⟩
    refine ⟨SqL.of a2, ?_⟩
    rw [List.length_map, List.length_take]
    omega
  · rintro i x vs H' hi hx ⟨rfl, rfl⟩
    obtain ⟨t, ht, rt⟩ := a3.at3 hx
    rw [List.getElem?_map] at ht
    cases es : srt[i]? with
    | none => rw [es] at ht; cases ht
    | some sr =>
    rw [es] at ht
    cases ht
    cases rt with
    | @tup a vs _ ha rvs =>
    cases rvs with
    | @cons x0 _ xs1 _ r0 rvs =>
    cases r0
    refine ⟨_, rfl, a, _, 0, .str sr.1, rfl, rfl, SqT.of ha, atI_nat (j := 0) rfl, nx hi ⟨rfl, ?_⟩⟩
    rw [List.take_add_one, List.getElem?_map, es, List.map_append]
    rfl
  rintro vs H' ⟨rfl, rfl⟩ pn hpn
  rw [lsv, ← List.length_map (f := fun x : Str × Int => x.1), List.take_length]
  have s1 := same_new hpn (.lst ((srt.map (·.1)).map V.str))
  have hpn1 : (upd H' pn (.lst ((srt.map (·.1)).map V.str))) pn = some (.lst ((srt.map (·.1)).map V.str)) := upd_same
  revert s1 hpn1
  generalize upd H' pn (.lst ((srt.map (·.1)).map V.str)) = H1
  intro s1 hpn1
  refine ⟨st, .ref wa, ss, gs, as, srt.map (·.1), pn, rfl, (k.same s1).words, hpn1, by rw [List.length_map]; omega, fun z H2 zs zn s2 => ?_⟩
  have kb := k.same (s1.trans s2)
  have gb : Gr4 st lsr lk lr H' H2 := Gr4.same (s1.trans s2)
  refine ⟨_, rfl, wa, _, rfl, dget_of kb.hwa (by rw [val_tl y2, val_tl y3, val_hd]), _, rfl, st, 4, rfl, kb.ok, by decide, by decide, fun d H3 d0 d4 g3 => ⟨d, rfl, la, _, rfl, SqL.of (kb.grow g3).pa.at_, fun lo hlo => ?_⟩⟩
  have nlo := (kb.grow g3).off hlo
  have kc := kb.grow g3
  obtain ⟨dn, rfl⟩ : ∃ dn : Nat, d = dn := ⟨d.toNat, by omega⟩
  have ecut : cutV (as.map V.str) none (some (dn : Int)) = (as.take dn).map V.str := by rw [cutt, List.map_take]
  rw [ecut]
  have pal := kc.pa.hi
  have pao := kc.pa.lo
  have lown : (as.take dn).length = dn := by rw [List.length_take]; omega
  have hown : ∀ y ∈ as.take dn, y.length ≤ 1000 := fun y hy => by have := kc.pa.len y (List.mem_of_mem_take hy); omega
  revert lown hown
  generalize as.take dn = own
  intro lown hown
  have s4 := same_new hlo (.lst (own.map V.str))
  have hlo4 : (upd H3 lo (.lst (own.map V.str))) lo = some (.lst (own.map V.str)) := upd_same
  revert s4 hlo4
  generalize upd H3 lo (.lst (own.map V.str)) = H4
  intro s4 hlo4
  have kd := kc.same s4
  have gd : Gr4 st lsr lk lr H' H4 := gb.trans ((Gr4.grow g3).trans (Gr4.same s4))
  obtain ⟨fa, pa, pp, fx, hl, q1, q2, svd, gp, gf, x1, x2, b1, b2, b3, _⟩ := kd.th.has
  refine ⟨_, rfl, ta, _, rfl, dget_of b1 val_hd, .inl ⟨rfl, _, SqL.of b2⟩, _, rfl, _, rfl, lo, _, rfl, .inl (SqL.of hlo4), small (by show 2 ≤ 1000000; decide), fun pt hpt => ?_⟩
  have zl := kd.ps.len z zs
  have s5 := same_new hpt (.tup [V.str z, V.int ((own.map V.str).length : Nat)])
  have hpt5 : (upd H4 pt (.tup [V.str z, V.int ((own.map V.str).length : Nat)])) pt = some (.tup [V.str z, V.int ((own.map V.str).length : Nat)]) := upd_same
  revert s5 hpt5
  generalize upd H4 pt (.tup [V.str z, V.int ((own.map V.str).length : Nat)]) = H5
  intro s5 hpt5
  have lom : (own.map V.str).length = own.length := List.length_map _
  obtain ⟨sve, c2, c3, ke, ge⟩ := (kd.same s5).sort (v := .ref pt) (z := z) (n := ((own.map V.str).length : Nat)) (.tup hpt5 (.cons (.str _ (by omega)) (.cons (.int _) .nil))) zl (by omega) (by omega) l1
  refine ⟨lsr, sve, .ref pt, rfl, rfl, c2, by omega, ?_⟩
  have hlo6 : (upd H5 lsr (.lst (sve ++ [.ref pt]))) lo = some (.lst (own.map V.str)) := ge _ _ nlo (s5 _ _ hlo4)
  have gf6 : Gr4 st lsr lk lr H' (upd H5 lsr (.lst (sve ++ [.ref pt]))) := gd.trans ((Gr4.same s5).trans ge)
  revert ke hlo6 gf6
  generalize upd H5 lsr (.lst (sve ++ [.ref pt])) = H6
  intro ke hlo6 gf6
  refine ⟨st, rfl, ke.ok, fun b H7 g7 => ?_⟩
  have kf := ke.grow g7
  refine ⟨wa, ls, lg, la, b, rfl, rfl, kf.hwa, fun H8 s8 => ?_⟩
  have kg := kf.same s8
  refine ⟨Nat.zero_le _, fun rw_ hrw => ?_⟩
  have k0 := kg
  have hlo8 : H8 lo = some (.lst (own.map V.str)) := s8 _ _ (g7.1 _ _ nlo.1 hlo6)
  have g8 : Gr4 st lsr lk lr H' H8 := gf6.trans ((Gr4.grow g7).trans (Gr4.same s8))
  have orw := k0.off hrw
  have s9 := same_new hrw (.lst [])
  have hrw9 : (upd H8 rw_ (.lst [])) rw_ = some (.lst []) := upd_same
  revert s9 hrw9
  generalize upd H8 rw_ (.lst []) = H9
  intro s9 hrw9
  have k9 := k0.same s9
  have pool9 := k9.pool b
  refine ⟨_, rfl, _, rfl, ⟨_, SqL.of pool9.at_⟩, comp_not (ts := cur b kn rc) pool9.at_ (by have := pool9.hi; omega) (fun y hy Q' q' => ?_) (fun y hy Q' q' => ⟨_, rfl, q'⟩) fun pc hpc => ?_⟩
  · refine ⟨_, rfl, _, rfl, _, rfl, ta, _, rfl, k9.dget b, _, (cur b kn rc).map V.str, rfl, .inl (SqL.of (k9.clAt b)), rfl, flat_strs _, _, rfl, ?_⟩
    rw [inV_str]
    exact q'
  have ws0nd := pool9.nd.filter (fun y => !decide (y ∈ cur b kn rc))
  have ws0m : ∀ y ∈ (if b then ss else gs).filter (fun y => !decide (y ∈ cur b kn rc)), y ∉ cur b kn rc ∧ y.length ≤ 20 := fun y hy => by
    have h := List.mem_filter.mp hy
    exact ⟨fun hh => by have := h.2; simp [hh] at this, pool9.len y h.1⟩
  have ws0l : ((if b then ss else gs).filter (fun y => !decide (y ∈ cur b kn rc))).length ≤ 52 := Nat.le_trans (List.length_filter_le _ _) pool9.hi
  revert ws0nd ws0m ws0l
  generalize (if b then ss else gs).filter (fun y => !decide (y ∈ cur b kn rc)) = ws0
  intro ws0nd ws0m ws0l
  have s10 := same_new hpc (.lst (ws0.map V.str))
  have hpc10 : (upd H9 pc (.lst (ws0.map V.str))) pc = some (.lst (ws0.map V.str)) := upd_same
  revert s10 hpc10
  generalize upd H9 pc (.lst (ws0.map V.str)) = H10
  intro s10 hpc10
  refine ⟨_, rfl, b, rfl, fun H11 s11 => ⟨st, _, rfl, (k9.same (s10.trans s11)).ok, by cases b <;> decide, by cases b <;> decide, fun d H12 d0 d1 g12 => ⟨_, _, rfl, rfl, _, rfl, pc, _, rfl, SqL.of (g12.1 _ _ ((k9.off hpc).1) (s11 _ _ hpc10)), fun pw hpw => ?_⟩⟩⟩
  obtain ⟨en, hen⟩ : ∃ en : Nat, (1 : Int) + d = en := ⟨(1 + d).toNat, by omega⟩
  have ecut2 : cutV (ws0.map V.str) none (some ((1 : Int) + d)) = (ws0.take en).map V.str := by rw [hen, cutt, List.map_take]
  rw [ecut2]
  have wsnd : (ws0.take en).Nodup := ws0nd.sublist (List.take_sublist _ _)
  have wsm : ∀ y ∈ ws0.take en, y ∉ cur b kn rc ∧ y.length ≤ 20 := fun y hy => ws0m y (List.mem_of_mem_take hy)
  have wsl : (ws0.take en).length ≤ if b then 4 else 6 := by
    rw [List.length_take]
    cases b with
    | true => have : d < 4 := d1; show min en ws0.length ≤ 4; omega
    | false => have : d < 6 := d1; show min en ws0.length ≤ 6; omega
  revert wsnd wsm wsl
  generalize ws0.take en = ws
  intro wsnd wsm wsl
  have ws6 : ws.length ≤ 6 := by cases b <;> simp at wsl <;> omega
  have k11 := k9.same (s10.trans s11)
  have k12 := k11.grow g12
  have s13 := same_new hpw (.lst (ws.map V.str))
  have hpw13 : (upd H12 pw (.lst (ws.map V.str))) pw = some (.lst (ws.map V.str)) := upd_same
  have opw := k12.off hpw
  have nrp : rw_ ≠ pw := fun e => by
    have := g12.1 _ _ orw.1 (s11 _ _ (s10 _ _ hrw9))
    rw [e, hpw] at this
    cases this
  revert s13 hpw13
  generalize upd H12 pw (.lst (ws.map V.str)) = H13
  intro s13 hpw13
  have k13 := k12.same s13
  have g13 : Gr4 st lsr lk lr H8 H13 := (Gr4.same (s9.trans (s10.trans s11))).trans ((Gr4.grow g12).trans (Gr4.same s13))
  have hrw13 : H13 rw_ = some (.lst []) := s13 _ _ (g12.1 _ _ orw.1 (s11 _ _ (s10 _ _ hrw9)))
  have nrl : rw_ ≠ lo := fun e => by rw [e, hlo8] at hrw; cases hrw
  have ek0 : (if b = true then kn else kn ++ ws.take 0) = kn := by cases b <;> simp
  have er0 : (if b = true then rc ++ ws.take 0 else rc) = rc := by cases b <;> simp
  refine ⟨pw, rfl, ⟨_, SqL.of hpw13⟩, for_list (xs := ws.map V.str) (SLoop H8 st wa ta ls lg la lsr lk lr ss gs as (srt ++ [(z, (((own.map V.str).length : Nat) : Int))]) kn rc z lo rw_ pw own ws b (.ref (if b = true then ls else lg))) ⟨[], [], none, none, rfl, by rw [ek0, er0]; exact k13, hrw13, .nil, rfl, fun r h => absurd h List.not_mem_nil, g13 _ _ nlo hlo8, hpw13, g13⟩ ?_ ?_ ?_⟩
  · rintro i σ Hx hi ⟨rowsD, vs, o8, o9, rfl, _, _, _, _, _, _, hp, _⟩
    exact SqL.of hp
  · rintro i x σ Hx hx ⟨rowsD, vs, o8, o9, rfl, kx, hrwx, rrx, ewx, rox, hlx, hpx, gx⟩
    rw [List.getElem?_map] at hx
    cases ey : ws[i]? with
    | none => rw [ey] at hx; cases hx
    | some y =>
    rw [ey] at hx
    cases hx
    have ilt : i < ws.length := (List.getElem?_eq_some_iff.mp ey).1
    have ewi : ws.take (i + 1) = ws.take i ++ [y] := by rw [List.take_add_one, ey]; rfl
    have tkl : (ws.take i).length ≤ i := by rw [List.length_take]; omega
    have lkx : (if b = true then kn else kn ++ ws.take i).length < 200 := by cases b <;> simp <;> omega
    have lrx : (if b = true then rc ++ ws.take i else rc).length < 200 := by cases b <;> simp at wsl ⊢ <;> omega
    obtain ⟨hc1, ky, gy⟩ := kx.word b y lkx lrx
    have ekn : (if b = true then (if b = true then kn else kn ++ ws.take i) else (if b = true then kn else kn ++ ws.take i) ++ [y]) = if b = true then kn else kn ++ ws.take (i + 1) := by cases b <;> simp [ewi]
    have erc : (if b = true then (if b = true then rc ++ ws.take i else rc) ++ [y] else (if b = true then rc ++ ws.take i else rc)) = if b = true then rc ++ ws.take (i + 1) else rc := by cases b <;> simp [ewi]
    rw [ekn, erc] at ky
    have ema : (cur b (if b = true then kn else kn ++ ws.take i) (if b = true then rc ++ ws.take i else rc) ++ [y]).map V.str = (cur b (if b = true then kn else kn ++ ws.take i) (if b = true then rc ++ ws.take i else rc)).map V.str ++ [.str y] := by rw [List.map_append]; rfl
    rw [ema] at ky gy
    have lcx : ((cur b (if b = true then kn else kn ++ ws.take i) (if b = true then rc ++ ws.take i else rc)).map V.str).length < sizeLine := by rw [List.length_map]; have e1 := lkx; have e2 := lrx; revert e1 e2; cases b <;> simp [cur] <;> omega
    refine ⟨_, rfl, _, rfl, ta, _, rfl, kx.dget b, .inl ⟨rfl, _, SqL.of hc1⟩, _, rfl, cl b lk lr, _, .str y, rfl, rfl, hc1, lcx, ?_⟩
    have hrwy := gy _ _ orw hrwx
    have hly := gy _ _ nlo hlx
    have hpy := gy _ _ opw hpx
    have rry := rrx.mono fun c xs h => gy _ _ (kx.offT h) h
    have gxy := gx.trans gy
    revert ky hrwy hly hpy rry gxy
    generalize upd Hx (cl b lk lr) _ = Hy
    intro ky hrwy hly hpy rry gxy
    refine ⟨st, b, rfl, rfl, ky.ok, fun m Hz gz m0 m4 mb => ?_⟩
    have kz := ky.grow gz
    refine ⟨_, rfl, .inl ⟨rfl, _, SqL.of (gz.1 _ _ orw.1 hrwy)⟩, _, rfl, small (by show 1 ≤ 1000000; decide), fun p1 hp1 => ?_⟩
    have sa := same_new hp1 (.tup [V.str y])
    have hpa : (upd Hz p1 (.tup [V.str y])) p1 = some (.tup [V.str y]) := upd_same
    revert sa hpa
    generalize upd Hz p1 (.tup [V.str y]) = Ha
    intro sa hpa
    have ka := kz.same sa
    refine ⟨_, rfl, m, rfl, by omega, by omega, comp_range (fun j us H'' => Grow st Ha H'' ∧ us.length = j ∧ ∃ ts, Reps H'' us ts ∧ ∀ t ∈ ts, DpT 3 t) ⟨Grow.refl ka.ok, rfl, [], .nil, fun t h => absurd h List.not_mem_nil⟩ ?_ ?_ ?_⟩
    · rintro j us H'' hj ⟨g, l, _⟩
      omega
    · rintro j us H'' hj ⟨g, l, ts, rt, dp⟩
      have kj := ka.grow g
      refine ⟨_, rfl, _, rfl, _, rfl, Nat.zero_le _, fun ph hph => ?_⟩
      have sj := same_new hph (.lst [])
      have kjj := kj.same sj
      have hl2 := sj _ _ (g.1 _ _ nlo.1 (sa _ _ (gz.1 _ _ nlo.1 hly)))
      refine ⟨st, ta, lsr, lk, lr, _, _, _, lo, own, ph, 2, rfl, ⟨kjj.ok, kjj.th, hl2, nlo.1, by omega, hown, upd_same, (kj.off hph).1⟩, by decide, by decide, fun v t H3 g3' r3 dp3 => nx hj ⟨(g.trans (grow_same g.ok sj)).trans g3', by simp [l], ts ++ [t], ((rt.same sj).grow g3' kjj.ok).append (.cons r3 .nil), ?_⟩⟩
      intro t' ht
      rcases List.mem_append.mp ht with ht | ht
      · exact dp t' ht
      · rw [List.mem_singleton] at ht
        subst ht
        exact dp3
    · rintro us H'' ⟨g, l, ts, rt, dp⟩ pq hpq
      have kb2 := ka.grow g
      have lts := rt.length
      have sb := same_new hpq (.lst us)
      -- the row stands at pr: on to the next word
      have fin : ∀ (pr : Addr) (Hv : Hp), Same H'' Hv → Hv pr = some (.tup (V.str y :: us)) → SLoop H8 st wa ta ls lg la lsr lk lr ss gs as (srt ++ [(z, (((own.map V.str).length : Nat) : Int))]) kn rc z lo rw_ pw own ws b (.ref (if b = true then ls else lg)) (i + 1) [some (.ref st), some (.ref wa), some (.ref ta), some (.str z), some (.ref lo), some (.str (sh b)), some (.ref (if b = true then ls else lg)), some (.ref rw_), some (.str y), some (.int m)] (upd Hv rw_ (.lst (vs ++ [.ref pr]))) ∧ Hv rw_ = some (.lst vs) := by
        intro pr Hv sv hpr
        have gv : Gr4 st lsr lk lr H8 Hv := gxy.trans ((Gr4.grow gz).trans ((Gr4.same sa).trans ((Gr4.grow g).trans (Gr4.same sv))))
        have kv := kb2.same sv
        have hrv : Hv rw_ = some (.lst vs) := sv _ _ (g.1 _ _ orw.1 (sa _ _ (gz.1 _ _ orw.1 hrwy)))
        obtain ⟨kw, gw⟩ := k0.aside (ys := vs ++ [.ref pr]) gv kv hrw hrv
        have tu : ∀ c xs, Hv c = some (.tup xs) → (upd Hv rw_ (.lst (vs ++ [.ref pr]))) c = some (.tup xs) := fun c xs h => by rw [upd_ne (ne_of h hrv (by intro z; cases z))]; exact h
        refine ⟨⟨rowsD ++ [(y, ts)], vs ++ [.ref pr], _, _, rfl, kw, upd_same, ?_, ?_, ?_, ?_, ?_, gw⟩, hrv⟩
        · rw [List.map_append]
          refine ((((rry.grow gz ky.ok).same sa).grow g ka.ok).same sv |>.mono tu).append (.cons (.tup (tu _ _ hpr) (.cons (.str _ (by have := (wsm y (List.mem_of_getElem? ey)).2; omega)) ((rt.same sv).mono tu))) .nil)
        · rw [List.map_append, ewx, ewi]
          rfl
        · intro r hr'
          rcases List.mem_append.mp hr' with h | h
          · exact rox r h
          · rw [List.mem_singleton] at h
            subst h
            exact ⟨⟨by show ts.length ≤ 4; omega, fun hb => by have := mb hb; show ts.length = 1; omega⟩, fun t ht => (dp t ht).up (by decide)⟩
        · rw [upd_ne (Ne.symm nrl)]
          exact sv _ _ (g.1 _ _ nlo.1 (sa _ _ (gz.1 _ _ nlo.1 hly)))
        · rw [upd_ne (Ne.symm nrp)]
          exact sv _ _ (g.1 _ _ opw.1 (sa _ _ (gz.1 _ _ opw.1 hpy)))
      have lvs : vs.length < sizeLine := by
        have e1 := rrx.length
        rw [List.length_map, ← List.length_map (f := fun x : Str × List T => x.1), ewx] at e1
        omega
      refine ⟨pq, us, rfl, .inl ⟨SqL.of upd_same, fun pt2 hpt2 => ?_⟩⟩
      have sc := same_new hpt2 (.tup us)
      refine ⟨p1, pt2, [.str y], us, rfl, rfl, SqT.of (sc _ _ (sb _ _ (g.tups ka.ok _ _ hpa))), SqT.of upd_same, by simp, by simp; omega, fun h0 => ?_, fun hne p3 hp3 => ?_⟩
      · subst h0
        obtain ⟨f1, f2⟩ := fin p1 _ (sb.trans sc) (sc _ _ (sb _ _ (g.tups ka.ok _ _ hpa)))
        exact ⟨rw_, vs, .ref p1, rfl, rfl, f2, lvs, f1⟩
      · have sd := same_new hp3 (.tup ([V.str y] ++ us))
        obtain ⟨f1, f2⟩ := fin p3 _ ((sb.trans sc).trans sd) upd_same
        exact ⟨rw_, vs, .ref p3, rfl, rfl, f2, lvs, f1⟩
  · rintro σ Hx ⟨rowsD, vs, o8, o9, rfl, kx, hrwx, rrx, ewx, rox, hlx, hpx, gx⟩
    have ewl : (ws.map V.str).length = ws.length := List.length_map _
    rw [ewl, List.take_length] at kx ewx
    have lvs : vs.length = ws.length := by
      rw [rrx.length, List.length_map, ← ewx, List.length_map]
    refine ⟨_, rfl, _, rfl, _, rfl, lo, _, rfl, .inl ⟨SqL.of hlx, fun po hpo => ⟨small (by show 3 ≤ 1000000; decide), fun p1 hp1 => ⟨_, rfl, rw_, vs, rfl, .inl ⟨?_, fun p2 hp2 => ?_⟩⟩⟩⟩⟩
    · exact SqL.of (same_new hp1 _ _ _ (same_new hpo _ _ _ hrwx))
    have sa := same_new hpo (.tup (own.map V.str))
    have sb := same_new hp1 (.tup [V.str (sh b), .str z, .ref po])
    have sc := same_new hp2 (.tup vs)
    have rown : ∀ {Hv : Hp}, Hv po = some (.tup (own.map V.str)) → Rep Hv (.ref po) (.tup (own.map T.str)) := fun h => .tup h (reps_strs fun y hy => by have := hown y hy; omega)
    have fin : ∀ (pr : Addr) (Hv : Hp), Same Hx Hv → Hv pr = some (.tup (.str (sh b) :: .str z :: .ref po :: vs)) → Hv po = some (.tup (own.map V.str)) → Q (.ref pr) Hv := by
      intro pr Hv sv hpr hpo'
      have kv := kx.same sv
      have gv : Gr4 st lsr lk lr H' Hv := g8.trans (gx.trans (Gr4.same sv))
      have lrd : rowsD.length = ws.length := by rw [← ewx, List.length_map]
      have rt : Reps Hv (.str (sh b) :: .str z :: .ref po :: vs) (.str (sh b) :: .str z :: .tup (own.map T.str) :: rowsD.map rowT) := .cons (.str _ (by cases b <;> decide +kernel)) (.cons (.str _ (by omega)) (.cons (rown hpo') (rrx.same sv)))
      cases b with
      | false =>
        have etg : tgD (.kind z own rowsD) = ws := by
          show (rowsD.map _).map _ = ws
          rw [List.map_map]
          exact ewx
        have efd : fdD (.kind z own rowsD) = [] := rfl
        refine q _ (.kind z own rowsD) z (((own.map V.str).length : Nat) : Int) Hv ?_ ⟨by omega, by omega, fun r hr' => ⟨(rox r hr').1.1, (rox r hr').2⟩⟩ (.tup hpr rt) rfl zn ?_ ?_ ?_ ?_ gv
        · rw [etg, efd, List.append_nil]
          exact kv
        · rw [etg]
          exact List.nodup_append.mpr ⟨nd1, wsnd, fun a ha c hc e => (wsm c hc).1 (e ▸ ha)⟩
        · rw [efd, List.append_nil]
          exact nd2
        · rw [etg]
          exact ws6
        · rw [efd]
          exact Nat.zero_le _
      | true =>
        obtain ⟨fs, rfl⟩ := rows1 fun r hr' => (rox r hr').1.2 rfl
        have etg : tgD (.record z own fs) = [] := rfl
        have efd : fdD (.record z own fs) = ws := by
          rw [← ewx]
          show (fs.map _).map _ = (fs.map _).map _
          rw [List.map_map, List.map_map]
          rfl
        have lfs : fs.length ≤ 4 := by rw [List.length_map] at lrd; simp at wsl; omega
        have ert : (fs.map fun f => ((f.1, [f.2]) : Str × List T)).map rowT = fs.map fun f => T.tup [.str f.1, f.2] := by
          rw [List.map_map]
          rfl
        rw [ert] at rt
        refine q _ (.record z own fs) z (((own.map V.str).length : Nat) : Int) Hv ?_ ⟨by omega, lfs, fun r hr' => (rox _ (List.mem_map.mpr ⟨r, hr', rfl⟩)).2 r.2 (List.mem_singleton.mpr rfl)⟩ (.tup hpr rt) rfl zn ?_ ?_ ?_ ?_ gv
        · rw [etg, efd, List.append_nil]
          exact kv
        · rw [etg, List.append_nil]
          exact nd1
        · rw [efd]
          exact List.nodup_append.mpr ⟨nd2, wsnd, fun a ha c hc e => (wsm c hc).1 (e ▸ ha)⟩
        · rw [etg]
          exact Nat.zero_le _
        · rw [efd]
          simpa using wsl
    refine ⟨p1, p2, _, _, rfl, rfl, SqT.of (sc _ _ upd_same), SqT.of upd_same, by simp, by simp; omega, fun h0 => ?_, fun hne p3 hp3 => ?_⟩
    · subst h0
      exact fin p1 _ ((sa.trans sb).trans sc) (sc _ _ upd_same) (sc _ _ (sb _ _ upd_same))
    · have sd := same_new hp3 (.tup ([V.str (sh b), .str z, .ref po] ++ vs))
      exact fin p3 _ (((sa.trans sb).trans sc).trans sd) upd_same (sd _ _ (sc _ _ (sb _ _ upd_same)))
end
end Fw

set_option Elab.async false
set_option linter.all false
set_option maxRecDepth 100000
namespace L2
open PySem PySem.Spec PyProof.Rows
section
variable {X : Cx} {pos : Pos}
/-- a, b, c = x, y, z with plain local names -/
def tPar3 (i j l : Nat) (ta : TA) : TS := fun D σ H => ta σ H fun vs H1 => ∃ v w z, vs = [v, w, z] ∧ D.nx (((σ.set i (some v)).set j (some w)).set l (some z)) H1
theorem ps_par3 {i j l : Nat} {x y n : Str} {a b c : Expr} {ta : TA} {px py pn pt : Pos} {kt k2 pt2} (hc : X.calm = true) (hN : X.N.Nodup) (hi : X.N[i]? = some x) (hj : X.N[j]? = some y) (hl : X.N[l]? = some n) (hij : i ≠ j) (hil : i ≠ l) (hjl : j ≠ l)
    (hx : X.env.scope.names.lookup x = some .local) (hy : X.env.scope.names.lookup y = some .local) (hz : X.env.scope.names.lookup n = some .local) (ha : PA X [a, b, c] ta)
    (hw : swappedStores [.Tuple [.Name x px, .Name y py, .Name n pn] kt pt] (.Tuple [a, b, c] k2 pt2) X.env = pure (some [x, y, n]))
    (hs : swapsWithSole [.Tuple [.Name x px, .Name y py, .Name n pn] kt pt] (.Tuple [a, b, c] k2 pt2) pos.line X.env = pure false := by rfl) :
    PS X (.Assign [.Tuple [.Name x px, .Name y py, .Name n pn] kt pt] (.Tuple [a, b, c] k2 pt2) pos) (tPar3 i j l ta) := by
  intro pins s σ H D I h
  rw [exec_Assign_arm]
  refine wpAny_bind (wpAny_standAt ?_)
  rw [hs]
  refine wpAny_bind (wpAny_pure ?_)
  rw [if_neg (by decide)]
  refine wpAny_bind (Tuple_ (thn (ha _ pins s σ H _ I h) fun us s1 ⟨vs, H1, I1, r1, q1⟩ => ?_))
  obtain ⟨v, w, z, e1, q1⟩ := q1
  subst e1
  obtain ⟨u1, u2, u3, rfl, rv, rw', rz⟩ : ∃ u1 u2 u3, us = [u1, u2, u3] ∧ RelV v u1 ∧ RelV w u2 ∧ RelV z u3 := by
    cases r1 with
    | cons p q =>
      cases q with
      | cons p' q' =>
        cases q' with
        | cons p'' q'' =>
          cases q''
          exact ⟨_, _, _, rfl, p, p', p''⟩
  refine wpAny_newObj_type ?_ (by show 3 ≤ sizeLine; decide)
  have I2 : Inv X pins σ H1 { s1 with heap := s1.heap.push { cls := .type "tuple", data := .seq [u1, u2, u3].toArray } } := I1.kept (t' := s1.toks) fun b o e => Heap.get?_push_of_some _ e
  rw [hw]
  refine wpAny_bind (wpAny_pure ?_)
  show wpAny (model X.prog X.w) X.A (do rule "assign.swapped-stores"; let items ← unpackItems (.ref s1.heap.objs.size) 3 none; assignInOrder [fun v => bindName X.env n v, fun v => bindName X.env y v, fun v => bindName X.env x v] items.reverse; pure Flow.next) _ _ _
  refine wpAny_bind (wpAny_rule (wpAny_bind (unpackItems_tuple (items := #[u1, u2, u3]) (I.ok.hd hc) (IsTup.new s1.heap _) fun h' hx' => ?_)))
  have I3 := I2.kept (h' := h') (t' := s1.toks) fun b o e => hx' b o (Nat.ne_of_lt (Heap.lt_size e)) e
  show wpAny _ _ (assignInOrder [fun v => bindName X.env n v, fun v => bindName X.env y v, fun v => bindName X.env x v] [u3, u2, u1] >>= fun _ => pure Flow.next) _ _ _
  refine wpAny_bind (assignInOrder_cons (wpAny_bindName (store_ok I3 hN hl (.inl hz) rz (fun s2 I4 => ?_) (.inr hz))))
  refine assignInOrder_cons (wpAny_bindName (store_ok I4 hN hj (.inl hy) rw' (fun s3 I5 => ?_) (.inr hy)))
  refine assignInOrder_cons (wpAny_bindName (store_ok I5 hN hi (.inl hx) rv (fun s4 I6 => assignInOrder_nil (wpAny_pure ?_)) (.inr hx)))
  rw [List.set_comm _ _ (Ne.symm hjl), List.set_comm _ _ (Ne.symm hil), List.set_comm _ _ (Ne.symm hij)] at I6
  exact ⟨_, H1, I6, q1⟩
end
end L2

set_option Elab.async false
set_option linter.all false
set_option maxRecDepth 100000
namespace Fw
open PySem PySem.Spec PyProof.Rows L2
def spLaw (K : PySem.W.Frag) : Sp := fun vs H Q _ => ∃ (a : Addr) (ns : List Int), vs = [.ref a] ∧ SqL K H a (ns.map V.int) ∧ ns.length ≤ 63 ∧ ∀ H', Q (.bl true) H'
abbrev s_law : Stmt := top 17
abbrev nL : List Str := ["_law_script", "_law_state", "_law_words_here", "_law_s", "_law_g", "_law_a", "_law_there", "_law_face", "_law_part", "_law_rows", "_law_sorts", "_law_other", "_law_row"]
theorem sc_law : FnScope nL ["_law_script"] (defScope s_law) := ⟨rfl, rfl, rfl, by decide +kernel, rfl, by decide +kernel, by decide +kernel⟩
/-- the statements of the law, one by one -/
@[irreducible] def lst (i : Nat) : Stmt := (defBody s_law).getD i (.Pass ⟨0, 0, 0, 0⟩)
abbrev LX (P : Program) (w : World) (K : PySem.W.Frag) (mg : Str → Option Value) (base : Heap) (f : Addr) (cdv : Value) (A : Around) (outer : List Env) (s : Shared) (H : Hp) (E : XK) : Cx := (cxOf CX0 P w K mg base nL "law" (defScope s_law) f cdv A outer s H E).nox
def tStep (I J : L2.St → Hp → Prop) : TS := fun D σ H => I σ H ∧ ∀ σ' H', J σ' H' → D.nx σ' H'
theorem ps_weak {X : Cx} {st : Stmt} {t t' : TS} (h : PS X st t) (q : ∀ D σ H, t' D σ H → t D σ H) : PS X st t' := fun a b c d e f g => h a b c d e f (q _ _ _ g)
def I0 (K : PySem.W.Frag) : L2.St → Hp → Prop := fun σ H => ∃ (a : Addr) (ns : List Int), σ = [some (.ref a), none, none, none, none, none, none, none, none, none, none, none, none] ∧ SqL K H a (ns.map V.int) ∧ ns.length ≤ 63
def I1 : L2.St → Hp → Prop := fun σ H => ∃ (o : Option V) (st : Addr), σ = [o, some (.ref st), none, none, none, none, none, none, none, none, none, none, none] ∧ StOk H st
def I2 : L2.St → Hp → Prop := fun σ H => ∃ (o : Option V) (st : Addr) (wv : V) (ss gs as : List Str), σ = [o, some (.ref st), some wv, none, none, none, none, none, none, none, none, none, none] ∧ StOk H st ∧ WordsAt H st wv ss gs as
def I3 : L2.St → Hp → Prop := fun σ H => ∃ (o : Option V) (st wa ls lg la : Addr) (ss gs as : List Str), σ = [o, some (.ref st), some (.ref wa), some (.ref ls), some (.ref lg), some (.ref la), none, none, none, none, none, none, none] ∧ StOk H st ∧
  H wa = some (.dK [(Sum.inr "small", .ref ls), (Sum.inr "great", .ref lg), (Sum.inr "any", .ref la)]) ∧ Pool H st ls ss 26 52 ∧ Pool H st lg gs 26 52 ∧ Pool H st la as 26 26
section
variable {P : Program} {w : World} {K : PySem.W.Frag} {mg : Str → Option Value} {base : Heap} {f : Addr} {cdv : Value} {A : Around} {outer : List Env} {s : Shared} {H : Hp} {E : XK}
abbrev LR (f : Addr) (cdv : Value) (A : Around) (s : Shared) : Prop := Room 6 (A.deeper (envOfC "law" (defScope s_law) s.heap.objs.size f cdv))
set_option maxHeartbeats 1000000 in
theorem ps_l0 (hr : LR f cdv A s) (h2 : Has P w K mg base 1 "_law_drawn" ["_law_script"] (spDrawn K)) : PS (LX P w K mg base f cdv A outer s H E) (lst 0) (tStep (I0 K) I1) := by
  unfold lst
  refine ps_weak (ps_set (i := 1) sc_law.nd rfl (Or.inr rfl) (pcall h2 hr (by decide) rfl (pa_cons (pv 0) pa_nil))) ?_
  rintro D σ H ⟨⟨a, ns, rfl, hS, h63⟩, q⟩
  exact ⟨_, rfl, a, ns, rfl, hS, h63, fun p H' sm hp ok => q _ _ ⟨_, p, rfl, ok⟩⟩
set_option maxHeartbeats 1000000 in
theorem ps_l1 (hr : LR f cdv A s) (h3 : Has P w K mg base 2 "_law_words" ["_law_state"] spWords) : PS (LX P w K mg base f cdv A outer s H E) (lst 1) (tStep I1 I2) := by
  unfold lst
  refine ps_weak (ps_set (i := 2) sc_law.nd rfl (Or.inr rfl) (pcall h3 hr (by decide) rfl (pa_cons (pv 1) pa_nil))) ?_
  rintro D σ H ⟨⟨o, st, rfl, ok⟩, q⟩
  exact ⟨_, rfl, st, rfl, ok, fun wv ss gs as H' W g => q _ _ ⟨_, st, wv, ss, gs, as, rfl, g.ok, W⟩⟩
set_option maxHeartbeats 1000000 in
theorem ps_l2 (hr : LR f cdv A s) : PS (LX P w K mg base f cdv A outer s H E) (lst 2) (tStep I2 I3) := by
  have hu := hu_of hr
  unfold lst
  refine ps_weak (ps_par3 (i := 3) (j := 4) (l := 5) rfl sc_law.nd rfl rfl rfl (by decide) (by decide) (by decide) rfl rfl rfl (pa_cons (pe_dget hu (pv 2) pe_str (fun _ _ => rfl)) (pa_cons (pe_dget hu (pv 2) pe_str (fun _ _ => rfl)) (pa_cons (pe_dget hu (pv 2) pe_str (fun _ _ => rfl)) pa_nil))) (by with_unfolding_all rfl) (by with_unfolding_all rfl)) ?_
  rintro D σ H ⟨⟨o, st, wv, ss, gs, as, rfl, ok, W⟩, q⟩
  obtain ⟨wa, ls, lg, la, rfl, nw, hwa, ps, pg, pa⟩ := W.has
  have k := gsk
  refine ⟨_, rfl, wa, _, rfl, dget_of hwa val_hd, _, rfl, wa, _, rfl, dget_of hwa ?_, _, rfl, wa, _, rfl, dget_of hwa ?_, _, _, _, rfl, q _ _ ⟨_, st, wa, ls, lg, la, ss, gs, as, rfl, ok, hwa, ps, pg, pa⟩⟩
  · rw [val_tl k.1]; exact val_hd
  · rw [val_tl k.2.1, val_tl k.2.2]; exact val_hd
end
end Fw

set_option Elab.async false
set_option linter.all false
set_option maxRecDepth 100000
namespace Fw
open PySem PySem.Spec PyProof.Rows L2
theorem atI_neg {α : Type} {xs : List α} {k : Nat} {v : α} (hk : 0 < k) (hl : k ≤ xs.length) (h : xs[xs.length - k]? = some v) : atI xs (-(k : Int)) = some v := by
  have e : ixN xs.length (-(k : Int)) = some (xs.length - k) := by
    unfold ixN
    rw [if_neg (by omega), if_pos (by omega)]
    congr 1
    omega
  unfold atI; rw [e]; exact h
theorem Pool.neg {H : Hp} {st l : Addr} {zs : List Str} {hi : Nat} (p : Pool H st l zs 26 hi) {k : Nat} (hk : 0 < k) (k26 : k ≤ 26) : ∃ z, atI (zs.map V.str) (-(k : Int)) = some (.str z) ∧ z.length ≤ 20 := by
  have lo := p.lo
  have hj : zs.length - k < zs.length := by omega
  refine ⟨zs[zs.length - k], atI_neg hk (by rw [List.length_map]; omega) ?_, p.len _ (List.getElem_mem hj)⟩
  rw [List.length_map, List.getElem?_map, List.getElem?_eq_getElem hj]
  rfl
theorem Pool.pos {H : Hp} {st l : Addr} {zs : List Str} {hi : Nat} (p : Pool H st l zs 26 hi) {k : Nat} (k26 : k < 26) : ∃ z, atI (zs.map V.str) (k : Int) = some (.str z) ∧ z.length ≤ 20 := by
  have lo := p.lo
  have hj : k < zs.length := by omega
  refine ⟨zs[k], atI_nat ?_, p.len _ (List.getElem_mem hj)⟩
  rw [List.getElem?_map, List.getElem?_eq_getElem hj]
  rfl
/-- xs[-k] of a list in a slot -/
theorem rd_neg {K : PySem.W.Frag} {i : Nat} {σ : L2.St} {H : Hp} {Q : VK} {l : Addr} {xs : List V} {k : Int} {v : V} (e : σ[i]? = some (some (.ref l))) (h : H l = some (.lst xs)) (a : atI xs (-k) = some v) (q : Q v H) :
    tOp (rIxL K) (tVar i) (tUn (rU fun i => .int (-i)) (tC (.int k))) σ H Q := ⟨_, e, k, rfl, l, _, _, _, rfl, rfl, SqL.of h, a, q⟩
theorem rd_pos {K : PySem.W.Frag} {i : Nat} {σ : L2.St} {H : Hp} {Q : VK} {l : Addr} {xs : List V} {k : Int} {v : V} (e : σ[i]? = some (some (.ref l))) (h : H l = some (.lst xs)) (a : atI xs k = some v) (q : Q v H) :
    tOp (rIxL K) (tVar i) (tC (.int k)) σ H Q := ⟨_, e, l, _, _, _, rfl, rfl, SqL.of h, a, q⟩
theorem merge5 (a b c d e : V) : mergeK [] ([(Sum.inr "sorts", a), (Sum.inr "kind", b), (Sum.inr "record", c), (Sum.inr "faces", d), (Sum.inr "parts", e)] : List (Key × V)) = ([(Sum.inr "sorts", a), (Sum.inr "kind", b), (Sum.inr "record", c), (Sum.inr "faces", d), (Sum.inr "parts", e)] : List (Key × V)) := by
  have nn : ∀ {x y : Str}, x ≠ y → decide ((Sum.inr x : Key) = Sum.inr y) = false := fun h => decide_eq_false fun e => h (Sum.inr.inj e)
  obtain ⟨h1, h2, h3, h4, h5, h6, h7, h8, h9, h10⟩ := ThKeys
  simp only [mergeK, putK, List.foldl_cons, List.foldl_nil, List.any_nil, List.any_cons, Bool.false_eq_true, if_false, List.nil_append, List.cons_append, nn h1, nn h2, nn h3, nn h4, nn h5, nn h6, nn h7, nn h8, nn h9, nn h10, Bool.or_false, Bool.false_or]
theorem merge1 (k : Str) (a : V) : mergeK [] ([(Sum.inr k, a)] : List (Key × V)) = ([(Sum.inr k, a)] : List (Key × V)) := by
  simp only [mergeK, putK, List.foldl_cons, List.foldl_nil, List.any_nil, List.any_cons, Bool.false_eq_true, if_false, List.nil_append, List.cons_append, Bool.or_false, Bool.false_or]
theorem put1 (k : Str) (a : V) : putK ([] : List (Key × V)) (Sum.inr k) a = ([(Sum.inr k, a)] : List (Key × V)) := by
  simp only [putK, List.any_nil, Bool.false_eq_true, if_false, List.nil_append]
/-- behind the making of there -/
def J4 : L2.St → Hp → Prop := fun σ H => ∃ (o : Option V) (st wa ls lg la ta lsr lk lr fa pp pa : Addr) (ss gs as : List Str) (gf gp : Str), σ = [o, some (.ref st), some (.ref wa), some (.ref ls), some (.ref lg), some (.ref la), some (.ref ta), none, none, none, none, none, none] ∧ StOk H st ∧
  H wa = some (.dK [(Sum.inr "small", .ref ls), (Sum.inr "great", .ref lg), (Sum.inr "any", .ref la)]) ∧ Pool H st ls ss 26 52 ∧ Pool H st lg gs 26 52 ∧ Pool H st la as 26 26 ∧
  H ta = some (.dK [(Sum.inr "sorts", .ref lsr), (Sum.inr "kind", .ref lk), (Sum.inr "record", .ref lr), (Sum.inr "faces", .ref fa), (Sum.inr "parts", .ref pa)]) ∧ H lsr = some (.lst []) ∧ H lk = some (.lst []) ∧ H lr = some (.lst []) ∧ H fa = some (.dK []) ∧
  H pp = some (.tup [.str gp, .str gf]) ∧ H pa = some (.lst [.ref pp]) ∧ gp.length ≤ 20 ∧ atI (gs.map V.str) (-1) = some (.str gf) ∧ (lsr ≠ lk ∧ lsr ≠ lr ∧ lk ≠ lr) ∧ (lsr ≠ st ∧ lk ≠ st ∧ lr ≠ st) ∧ (pa ≠ lsr ∧ pa ≠ lk ∧ pa ≠ lr ∧ pa ≠ st) ∧
  Off ls st lsr lk lr ∧ Off lg st lsr lk lr ∧ Off la st lsr lk lr ∧ ta ≠ fa ∧ fa ≠ wa ∧ ta ≠ wa
def I4 : L2.St → Hp → Prop := fun σ H => ∃ (o : Option V) (st wa ls lg la ta lsr lk lr : Addr) (ss gs as : List Str), σ = [o, some (.ref st), some (.ref wa), some (.ref ls), some (.ref lg), some (.ref la), some (.ref ta), none, none, none, none, none, none] ∧
  SIn H st wa ta ls lg la lsr lk lr ss gs as [] [] []
/-! the making of there, in pieces (Lean unfolds a display of five within a statement without end) -/
@[irreducible] def exE (st : Stmt) : Expr := match st with
  | .Assign _ e _ => e
  | _ => .List [] ⟨0, 0, 0, 0⟩
def exP (st : Stmt) : Pos := match st with
  | .Assign _ _ p => p
  | _ => ⟨0, 0, 0, 0⟩
def exT (st : Stmt) : Pos := match st with
  | .Assign [.Name _ p] _ _ => p
  | _ => ⟨0, 0, 0, 0⟩
def pos1 (i : Nat) : Pos := exT ((defBody s_law).getD i (.Pass ⟨0, 0, 0, 0⟩))
def pos2 (i : Nat) : Pos := exP ((defBody s_law).getD i (.Pass ⟨0, 0, 0, 0⟩))
@[irreducible] def eThere : Expr := exE (lst 3)
@[irreducible] def dKey (i : Nat) : Expr := match exE (lst 3) with
  | .Dict ks _ _ => (ks.getD i none).getD (.List [] ⟨0, 0, 0, 0⟩)
  | _ => .List [] ⟨0, 0, 0, 0⟩
@[irreducible] def dVal (i : Nat) : Expr := match exE (lst 3) with
  | .Dict _ vs _ => vs.getD i (.List [] ⟨0, 0, 0, 0⟩)
  | _ => .List [] ⟨0, 0, 0, 0⟩
@[irreducible] def dPos : Pos := match exE (lst 3) with
  | .Dict _ _ p => p
  | _ => ⟨0, 0, 0, 0⟩
theorem ex_there : eThere = .Dict [some (dKey 0), some (dKey 1), some (dKey 2), some (dKey 3), some (dKey 4)] [dVal 0, dVal 1, dVal 2, dVal 3, dVal 4] dPos := by with_unfolding_all rfl
theorem st_there : lst 3 = .Assign [.Name "_law_there" (pos1 3)] eThere (pos2 3) := by with_unfolding_all rfl
theorem pe_disp5 {X : Cx} {pos : Pos} {k1 k2 k3 k4 k5 v1 v2 v3 v4 v5 : Expr} {a1 a2 a3 a4 a5 b1 b2 b3 b4 b5 : TE} (h1 : PE X k1 a1) (g1 : PE X v1 b1) (h2 : PE X k2 a2) (g2 : PE X v2 b2) (h3 : PE X k3 a3) (g3 : PE X v3 b3) (h4 : PE X k4 a4) (g4 : PE X v4 b4) (h5 : PE X k5 a5) (g5 : PE X v5 b5) :
    PE X (.Dict [some k1, some k2, some k3, some k4, some k5] [v1, v2, v3, v4, v5] pos) (tDisp [(a1, b1), (a2, b2), (a3, b3), (a4, b4), (a5, b5)]) := pe_disp (pps_cons h1 g1 (pps_cons h2 g2 (pps_cons h3 g3 (pps_cons h4 g4 (pps_cons h5 g5 pps_nil))))) rfl rfl (by simp) (by show 5 ≤ 15; decide)
abbrev tGix (K : PySem.W.Frag) (i k : Nat) : TE := tOp (rIxL K) (tVar i) (tUn (rU fun i => .int (-i)) (tC (.int (k : Int))))
section
variable {P : Program} {w : World} {K : PySem.W.Frag} {mg : Str → Option Value} {base : Heap} {f : Addr} {cdv : Value} {A : Around} {outer : List Env} {s : Shared} {H : Hp} {E : XK}
theorem dv4 : PE (LX P w K mg base f cdv A outer s H E) (dVal 4) (tLst (tCons (tTup (tCons (tGix K 4 2) (tCons (tGix K 4 1) tNil))) tNil)) := by
  unfold dVal exE lst
  exact pe_lst (pa_cons (pe_tup (pa_cons (pe_ix ix_list (pv 4) (pe_un un_neg pe_int) (fun _ _ => rfl)) (pa_cons (pe_ix ix_list (pv 4) (pe_un un_neg pe_int) (fun _ _ => rfl)) pa_nil))) pa_nil)
theorem dv0 : PE (LX P w K mg base f cdv A outer s H E) (dVal 0) (tLst tNil) := by
  unfold dVal exE lst
  exact pe_lst pa_nil
theorem dv1 : PE (LX P w K mg base f cdv A outer s H E) (dVal 1) (tLst tNil) := by
  unfold dVal exE lst
  exact pe_lst pa_nil
theorem dv2 : PE (LX P w K mg base f cdv A outer s H E) (dVal 2) (tLst tNil) := by
  unfold dVal exE lst
  exact pe_lst pa_nil
theorem dv3 : PE (LX P w K mg base f cdv A outer s H E) (dVal 3) tDNewK := by
  unfold dVal exE lst
  exact pe_dnewK
theorem dk0 : PE (LX P w K mg base f cdv A outer s H E) (dKey 0) (tC (.str "sorts")) := by
  unfold dKey exE lst
  exact pe_str
theorem dk1 : PE (LX P w K mg base f cdv A outer s H E) (dKey 1) (tC (.str "kind")) := by
  unfold dKey exE lst
  exact pe_str
theorem dk2 : PE (LX P w K mg base f cdv A outer s H E) (dKey 2) (tC (.str "record")) := by
  unfold dKey exE lst
  exact pe_str
theorem dk3 : PE (LX P w K mg base f cdv A outer s H E) (dKey 3) (tC (.str "faces")) := by
  unfold dKey exE lst
  exact pe_str
theorem dk4 : PE (LX P w K mg base f cdv A outer s H E) (dKey 4) (tC (.str "parts")) := by
  unfold dKey exE lst
  exact pe_str
theorem sw_there : swapsWith eThere (some (.Name "_law_there" (pos1 3))) (pos2 3).line (LX P w K mg base f cdv A outer s H E).env = pure false := by with_unfolding_all rfl
theorem pe_there : PE (LX P w K mg base f cdv A outer s H E) eThere (tDisp [(tC (.str "sorts"), tLst tNil), (tC (.str "kind"), tLst tNil), (tC (.str "record"), tLst tNil), (tC (.str "faces"), tDNewK), (tC (.str "parts"), tLst (tCons (tTup (tCons (tGix K 4 2) (tCons (tGix K 4 1) tNil))) tNil))]) := by
  rw [ex_there]
  exact pe_disp5 dk0 dv0 dk1 dv1 dk2 dv2 dk3 dv3 dk4 dv4
theorem set_there : PS (LX P w K mg base f cdv A outer s H E) (lst 3) (tAsg (tDisp [(tC (.str "sorts"), tLst tNil), (tC (.str "kind"), tLst tNil), (tC (.str "record"), tLst tNil), (tC (.str "faces"), tDNewK), (tC (.str "parts"), tLst (tCons (tTup (tCons (tGix K 4 2) (tCons (tGix K 4 1) tNil))) tNil))]) (gName 6)) := by
  rw [st_there]
  exact ps_set (i := 6) sc_law.nd rfl (Or.inr rfl) pe_there sw_there
end
section
variable {P : Program} {w : World} {K : PySem.W.Frag} {mg : Str → Option Value} {base : Heap} {f : Addr} {cdv : Value} {A : Around} {outer : List Env} {s : Shared} {H : Hp} {E : XK}
set_option maxHeartbeats 400000 in
theorem ps_l3 : PS (LX P w K mg base f cdv A outer s H E) (lst 3) (tStep I3 J4) := by
  refine ps_weak set_there ?_
  rintro D σ H ⟨⟨o, st, wa, ls, lg, la, ss, gs, as, rfl, ok, hwa, ps, pg, pa⟩, q⟩
  obtain ⟨gp, e2, l2⟩ := pg.neg (k := 2) (by decide) (by decide)
  obtain ⟨gf, e1, l1⟩ := pg.neg (k := 1) (by decide) (by decide)
  obtain ⟨ns, n1, n2, hst⟩ := id ok
  intro ta hta
  have s1 := same_new hta (.dK [])
  have a1 : (upd H ta (.dK [])) ta = some (.dK []) := upd_same
  revert s1 a1
  generalize upd H ta (.dK []) = H1
  intro s1 a1
  refine ⟨small (by show 0 ≤ 1000000; decide), fun lsr h2 => ?_⟩
  have s2 := same_new h2 (.lst [])
  have a2 : (upd H1 lsr (.lst [])) lsr = some (.lst []) := upd_same
  have n2t : ta ≠ lsr := ne_of_none a1 h2
  revert s2 a2
  generalize upd H1 lsr (.lst []) = H2
  intro s2 a2
  refine ⟨small (by show 0 ≤ 1000000; decide), fun lk h3 => ?_⟩
  have s3 := same_new h3 (.lst [])
  have a3 : (upd H2 lk (.lst [])) lk = some (.lst []) := upd_same
  have n3t : ta ≠ lk := ne_of_none (s2 _ _ a1) h3
  have n3a : lsr ≠ lk := ne_of_none a2 h3
  revert s3 a3
  generalize upd H2 lk (.lst []) = H3
  intro s3 a3
  refine ⟨small (by show 0 ≤ 1000000; decide), fun lr h4 => ?_⟩
  have s4 := same_new h4 (.lst [])
  have a4 : (upd H3 lr (.lst [])) lr = some (.lst []) := upd_same
  have n4t : ta ≠ lr := ne_of_none (s3 _ _ (s2 _ _ a1)) h4
  have n4a : lsr ≠ lr := ne_of_none (s3 _ _ a2) h4
  have n4b : lk ≠ lr := ne_of_none a3 h4
  revert s4 a4
  generalize upd H3 lr (.lst []) = H4
  intro s4 a4
  intro fa h5
  have s5 := same_new h5 (.dK [])
  have a5 : (upd H4 fa (.dK [])) fa = some (.dK []) := upd_same
  have s04 : Same H H4 := (s1.trans s2).trans (s3.trans s4)
  have n5t : ta ≠ fa := ne_of_none (s4 _ _ (s3 _ _ (s2 _ _ a1))) h5
  have n5w : wa ≠ fa := ne_of_none (s04 _ _ hwa) h5
  revert s5 a5
  generalize upd H4 fa (.dK []) = H5
  intro s5 a5
  have s05 : Same H H5 := s04.trans s5
  refine rd_neg rfl (s05 _ _ pg.at_) e2 (rd_neg rfl (s05 _ _ pg.at_) e1 ⟨small (by show 2 ≤ 1000000; decide), fun pp h6 => ?_⟩)
  have s6 := same_new h6 (.tup [.str gp, .str gf])
  have a6 : (upd H5 pp (.tup [.str gp, .str gf])) pp = some (.tup [.str gp, .str gf]) := upd_same
  have n6t : ta ≠ pp := ne_of_none (s5 _ _ (s4 _ _ (s3 _ _ (s2 _ _ a1)))) h6
  revert s6 a6
  generalize upd H5 pp (.tup [.str gp, .str gf]) = H6
  intro s6 a6
  refine ⟨small (by show 1 ≤ 1000000; decide), fun pa' h7 => ?_⟩
  have s7 := same_new h7 (.lst [.ref pp])
  have a7 : (upd H6 pa' (.lst [.ref pp])) pa' = some (.lst [.ref pp]) := upd_same
  have b1 : H6 ta = some (.dK []) := s6 _ _ (s5 _ _ (s4 _ _ (s3 _ _ (s2 _ _ a1))))
  have b2 : H6 lsr = some (.lst []) := s6 _ _ (s5 _ _ (s4 _ _ (s3 _ _ a2)))
  have b3 : H6 lk = some (.lst []) := s6 _ _ (s5 _ _ (s4 _ _ a3))
  have b4 : H6 lr = some (.lst []) := s6 _ _ (s5 _ _ a4)
  have b5 : H6 fa = some (.dK []) := s6 _ _ a5
  have s06 := s05.trans s6
  have n7 : pa' ≠ ta := (ne_of_none b1 h7).symm
  have n7a : pa' ≠ lsr := (ne_of_none b2 h7).symm
  have n7b : pa' ≠ lk := (ne_of_none b3 h7).symm
  have n7c : pa' ≠ lr := (ne_of_none b4 h7).symm
  have n7d : pa' ≠ st := (ne_of_none (s06 _ _ hst) h7).symm
  revert s7 a7
  generalize upd H6 pa' (.lst [.ref pp]) = H7
  intro s7 a7
  refine ⟨s7 _ _ b1, [(Sum.inr "sorts", .ref lsr), (Sum.inr "kind", .ref lk), (Sum.inr "record", .ref lr), (Sum.inr "faces", .ref fa), (Sum.inr "parts", .ref pa')], rfl, (by show 5 ≤ 15; decide), ?_⟩
  rw [merge5]
  have s07 := s06.trans s7
  have old : ∀ {b o'}, b ≠ ta → H7 b = some o' → (upd H7 ta (.dK [(Sum.inr "sorts", .ref lsr), (Sum.inr "kind", .ref lk), (Sum.inr "record", .ref lr), (Sum.inr "faces", .ref fa), (Sum.inr "parts", .ref pa')])) b = some o' := fun n h => by rw [upd_ne n]; exact h
  have ht : ∀ {b o'}, H b = some o' → b ≠ ta := fun h => ne_of_none h hta
  have hh : ∀ {b o'}, H b = some o' → (upd H7 ta (.dK [(Sum.inr "sorts", .ref lsr), (Sum.inr "kind", .ref lk), (Sum.inr "record", .ref lr), (Sum.inr "faces", .ref fa), (Sum.inr "parts", .ref pa')])) b = some o' := fun h => old (ht h) (s07 _ _ h)
  have nl : ∀ {b o'}, H b = some o' → b ≠ lsr ∧ b ≠ lk ∧ b ≠ lr := fun h => ⟨ne_of_none (s1 _ _ h) h2, ne_of_none (s2 _ _ (s1 _ _ h)) h3, ne_of_none (s3 _ _ (s2 _ _ (s1 _ _ h))) h4⟩
  have po : ∀ {l zs a b}, Pool H st l zs a b → Pool (upd H7 ta (.dK [(Sum.inr "sorts", .ref lsr), (Sum.inr "kind", .ref lk), (Sum.inr "record", .ref lr), (Sum.inr "faces", .ref fa), (Sum.inr "parts", .ref pa')])) st l zs a b := fun p => ⟨hh p.at_, p.ne, p.nd, p.lo, p.hi, p.len⟩
  have of : ∀ {l zs a b}, Pool H st l zs a b → Off l st lsr lk lr := fun p => ⟨p.ne, nl p.at_⟩
  have nst := nl hst
  exact q _ _ ⟨o, st, wa, ls, lg, la, ta, lsr, lk, lr, fa, pp, pa', ss, gs, as, gf, gp, rfl, ⟨ns, n1, n2, hh hst⟩, hh hwa, po ps, po pg, po pa, upd_same, old n2t.symm (s7 _ _ b2), old n3t.symm (s7 _ _ b3), old n4t.symm (s7 _ _ b4), old n5t.symm (s7 _ _ b5), old n6t.symm (s7 _ _ a6), old n7 a7, l2, e1,
    ⟨n3a, n4a, n4b⟩, ⟨nst.1.symm, nst.2.1.symm, nst.2.2.symm⟩, ⟨n7a, n7b, n7c, n7d⟩, of ps, of pg, of pa, n5t, n5w.symm, (ht hwa).symm⟩
set_option maxHeartbeats 2000000 in
theorem ps_l4 (hr : LR f cdv A s) : PS (LX P w K mg base f cdv A outer s H E) (lst 4) (tStep J4 I4) := by
  have hu := hu_of hr
  unfold lst
  refine ps_weak (ps_dput hu (pe_dget hu (pv 6) pe_str (fun _ _ => rfl)) (pe_ix ix_list (pv 4) (pe_un un_neg pe_int) (fun _ _ => rfl)) (pe_disp (pps_cons pe_str (pe_lst (pa_cons (pe_tup (pa_cons (pe_ix ix_list (pv 3) (pe_un un_neg pe_int) (fun _ _ => rfl)) (pa_cons pe_int pa_nil)))
        (pa_cons (pe_tup (pa_cons (pe_ix ix_list (pv 3) (pe_un un_neg pe_int) (fun _ _ => rfl)) (pa_cons pe_int pa_nil))) pa_nil))) pps_nil) rfl rfl (by simp) (by decide)) (by with_unfolding_all rfl)) ?_
  rintro D σ H ⟨⟨o, st, wa, ls, lg, la, ta, lsr, lk, lr, fa, pp, pa', ss, gs, as, gf, gp, rfl, ok, hwa, ps, pg, pa, hta, hlsr, hlk, hlr, hfa, hpp, hpa, lgp, egf, n1, n2, n3, o1, o2, o3, ntf, nfw, ntw⟩, q⟩
  obtain ⟨y2, e2, l2⟩ := ps.neg (k := 2) (by decide) (by decide)
  obtain ⟨y1, e1, l1⟩ := ps.neg (k := 1) (by decide) (by decide)
  obtain ⟨ns, m1, m2, hst⟩ := id ok
  intro fd h1
  have s1 := same_new h1 (.dK [])
  have a1 : (upd H fd (.dK [])) fd = some (.dK []) := upd_same
  revert s1 a1
  generalize upd H fd (.dK []) = H1
  intro s1 a1
  refine rd_neg rfl (s1 _ _ ps.at_) e1 ⟨small (by show 2 ≤ 1000000; decide), fun q1 h2 => ?_⟩
  have s2 := same_new h2 (.tup [.str y1, .int 0])
  have a2 : (upd H1 q1 (.tup [.str y1, .int 0])) q1 = some (.tup [.str y1, .int 0]) := upd_same
  revert s2 a2
  generalize upd H1 q1 (.tup [.str y1, .int 0]) = H2
  intro s2 a2
  refine rd_neg rfl (s2 _ _ (s1 _ _ ps.at_)) e2 ⟨small (by show 2 ≤ 1000000; decide), fun q2 h3 => ?_⟩
  have s3 := same_new h3 (.tup [.str y2, .int 2])
  have a3 : (upd H2 q2 (.tup [.str y2, .int 2])) q2 = some (.tup [.str y2, .int 2]) := upd_same
  revert s3 a3
  generalize upd H2 q2 (.tup [.str y2, .int 2]) = H3
  intro s3 a3
  refine ⟨small (by show 2 ≤ 1000000; decide), fun hl h4 => ?_⟩
  have s4 := same_new h4 (.lst [.ref q1, .ref q2])
  have a4 : (upd H3 hl (.lst [.ref q1, .ref q2])) hl = some (.lst [.ref q1, .ref q2]) := upd_same
  have s03 : Same H H3 := s1.trans (s2.trans s3)
  have nh : ∀ {b o'}, H b = some o' → hl ≠ b := fun h => (ne_of_none (s03 _ _ h) h4).symm
  have b1 : H3 fd = some (.dK []) := s3 _ _ (s2 _ _ a1)
  have nf4 : hl ≠ fd := (ne_of_none b1 h4).symm
  revert s4 a4
  generalize upd H3 hl (.lst [.ref q1, .ref q2]) = H4
  intro s4 a4
  refine ⟨s4 _ _ b1, [(Sum.inr "hides", .ref hl)], rfl, (by show 1 ≤ 15; decide), ?_⟩
  rw [merge1]
  have s04 := s03.trans s4
  have nfd : ∀ {b o'}, H b = some o' → b ≠ fd := fun h => ne_of_none h h1
  have s5 : Same H (upd H4 fd (.dK [(Sum.inr "hides", .ref hl)])) := fun b o' h => by rw [upd_ne (nfd h)]; exact s04 _ _ h
  have a5 : (upd H4 fd (.dK [(Sum.inr "hides", .ref hl)])) fd = some (.dK [(Sum.inr "hides", .ref hl)]) := upd_same
  have c4 : (upd H4 fd (.dK [(Sum.inr "hides", .ref hl)])) hl = some (.lst [.ref q1, .ref q2]) := by rw [upd_ne nf4]; exact a4
  have c2 : (upd H4 fd (.dK [(Sum.inr "hides", .ref hl)])) q1 = some (.tup [.str y1, .int 0]) := by rw [upd_ne (ne_of (s3 _ _ a2) b1 (by intro z; cases z))]; exact s4 _ _ (s3 _ _ a2)
  have c3 : (upd H4 fd (.dK [(Sum.inr "hides", .ref hl)])) q2 = some (.tup [.str y2, .int 2]) := by rw [upd_ne (ne_of a3 b1 (by intro z; cases z))]; exact s4 _ _ a3
  revert s5 a5 c4 c2 c3
  generalize upd H4 fd (.dK [(Sum.inr "hides", .ref hl)]) = H5
  intro s5 a5 c4 c2 c3
  have k5 := ThKeys
  refine ⟨_, rfl, ta, .ref fa, rfl, dget_of (s5 _ _ hta) ?_, rd_neg rfl (s5 _ _ pg.at_) egf ⟨fa, _, rfl, DPut.k (k := Sum.inr gf) (s5 _ _ hfa) (small' (by show 0 ≤ 1000000; decide)), ?_⟩⟩
  · rw [val_tl k5.2.2.1, val_tl k5.2.2.2.2.2.1, val_tl k5.2.2.2.2.2.2.2.1]; exact val_hd
  rw [put1]
  have nfa : ∀ {b o'}, H5 b = some o' → o' ≠ .dK [] → (upd H5 fa (.dK [(Sum.inr gf, .ref fd)])) b = some o' := fun h n => by rw [upd_ne (ne_of h (s5 _ _ hfa) n)]; exact h
  have hh : ∀ {b o'}, H b = some o' → o' ≠ .dK [] → (upd H5 fa (.dK [(Sum.inr gf, .ref fd)])) b = some o' := fun h n => nfa (s5 _ _ h) n
  have po : ∀ {l zs a b}, Pool H st l zs a b → Pool (upd H5 fa (.dK [(Sum.inr gf, .ref fd)])) st l zs a b := fun p => ⟨hh p.at_ (by intro z; cases z), p.ne, p.nd, p.lo, p.hi, p.len⟩
  refine q _ _ ⟨o, st, wa, ls, lg, la, ta, lsr, lk, lr, ss, gs, as, rfl, ⟨⟨ns, m1, m2, hh hst (by intro z; cases z)⟩, hh hwa (by intro z; cases z), po ps, po pg, po pa, o1, o2, o3, ?_⟩⟩
  exact ⟨⟨fa, pa', pp, fd, hl, q1, q2, [], gp, gf, y1, y2, hh hta (by intro z; cases z), hh hlsr (by intro z; cases z), .nil, upd_same, nfa a5 (by intro z; cases z), nfa c4 (by intro z; cases z), nfa c2 (by intro z; cases z), nfa c3 (by intro z; cases z),
    hh hpa (by intro z; cases z), hh hpp (by intro z; cases z), lgp, l1, l2, ⟨nh hlsr, nh hlk, nh hlr, nh hst⟩, n3⟩, hh hlk (by intro z; cases z), hh hlr (by intro z; cases z), n1, n2, (by intro h hh; cases hh), by decide, by decide, by decide⟩
end
end Fw

set_option Elab.async false
set_option linter.all false
set_option maxRecDepth 100000
namespace Fw
open PySem PySem.Spec PyProof.Rows L2
def I5 : L2.St → Hp → Prop := fun σ H => ∃ (o : Option V) (st wa ls lg la ta lsr lk lr : Addr) (ss gs as : List Str) (fc : V) (rf : List T), σ = [o, some (.ref st), some (.ref wa), some (.ref ls), some (.ref lg), some (.ref la), some (.ref ta), some fc, none, none, none, none, none] ∧
  SIn H st wa ta ls lg la lsr lk lr ss gs as [] [] [] ∧ Rep H fc (Dc.t (.other "face" rf))
def I6 : L2.St → Hp → Prop := fun σ H => ∃ (o : Option V) (st wa ls lg la ta lsr lk lr : Addr) (ss gs as : List Str) (fc : V) (rf : List T) (pt : V) (rp : List T), σ = [o, some (.ref st), some (.ref wa), some (.ref ls), some (.ref lg), some (.ref la), some (.ref ta), some fc, some pt, none, none, none, none] ∧
  SIn H st wa ta ls lg la lsr lk lr ss gs as [] [] [] ∧ Rep H fc (Dc.t (.other "face" rf)) ∧ Rep H pt (Dc.t (.other "part" rp))
theorem rs {H : Hp} {z : Str} (h : z.length ≤ 20) : Rep H (.str z) (.str z) := .str z (by omega)
theorem wlens : ("face" : Str).length ≤ 20 ∧ ("hide" : Str).length ≤ 20 ∧ ("part" : Str).length ≤ 20 ∧ ("num" : Str).length ≤ 20 ∧ ("main" : Str).length ≤ 20 := by decide +kernel
section
variable {P : Program} {w : World} {K : PySem.W.Frag} {mg : Str → Option Value} {base : Heap} {f : Addr} {cdv : Value} {A : Around} {outer : List Env} {s : Shared} {H : Hp} {E : XK}
set_option maxHeartbeats 2000000 in
theorem ps_l5 : PS (LX P w K mg base f cdv A outer s H E) (lst 5) (tStep I4 I5) := by
  unfold lst
  refine ps_weak (ps_set (i := 7) sc_law.nd rfl (Or.inl rfl) (pe_tup (pa_cons pe_str (pa_cons (pe_ix ix_list (pv 4) (pe_un un_neg pe_int) (fun _ _ => rfl)) (pa_cons (pe_tup pa_nil) (pa_cons (pe_tup (pa_cons pe_str (pa_cons (pe_ix ix_list (pv 3) (pe_un un_neg pe_int) (fun _ _ => rfl)) (pa_cons pe_int pa_nil))))
        (pa_cons (pe_tup (pa_cons pe_str (pa_cons (pe_ix ix_list (pv 3) (pe_un un_neg pe_int) (fun _ _ => rfl)) (pa_cons pe_int pa_nil)))) pa_nil))))))) ?_
  rintro D σ H ⟨⟨o, st, wa, ls, lg, la, ta, lsr, lk, lr, ss, gs, as, rfl, k⟩, q⟩
  obtain ⟨g1, e1, l1⟩ := k.pg.neg (k := 1) (by decide) (by decide)
  obtain ⟨y1, d1, m1⟩ := k.ps.neg (k := 1) (by decide) (by decide)
  obtain ⟨y2, d2, m2⟩ := k.ps.neg (k := 2) (by decide) (by decide)
  obtain ⟨w1, w2, w3, w4, w5⟩ := wlens
  refine rd_neg rfl k.pg.at_ e1 ⟨small (by show 0 ≤ 1000000; decide), fun p1 h1 => ?_⟩
  have s1 := same_new h1 (.tup [])
  have a1 : Rep (upd H p1 (.tup [])) (.ref p1) (.tup []) := .tup upd_same .nil
  revert s1 a1
  generalize upd H p1 (.tup []) = H1
  intro s1 a1
  refine rd_neg rfl (s1 _ _ k.ps.at_) d1 ⟨small (by show 3 ≤ 1000000; decide), fun p2 h2 => ?_⟩
  have s2 := same_new h2 (.tup [.str "hide", .str y1, .int 0])
  have a2 : Rep (upd H1 p2 (.tup [.str "hide", .str y1, .int 0])) (.ref p2) (.tup [.str "hide", .str y1, .int 0]) := .tup upd_same (.cons (rs w2) (.cons (rs m1) (.cons (.int _) .nil)))
  revert s2 a2
  generalize upd H1 p2 (.tup [.str "hide", .str y1, .int 0]) = H2
  intro s2 a2
  refine rd_neg rfl (s2 _ _ (s1 _ _ k.ps.at_)) d2 ⟨small (by show 3 ≤ 1000000; decide), fun p3 h3 => ?_⟩
  have s3 := same_new h3 (.tup [.str "hide", .str y2, .int 2])
  have a3 : Rep (upd H2 p3 (.tup [.str "hide", .str y2, .int 2])) (.ref p3) (.tup [.str "hide", .str y2, .int 2]) := .tup upd_same (.cons (rs w2) (.cons (rs m2) (.cons (.int _) .nil)))
  revert s3 a3
  generalize upd H2 p3 (.tup [.str "hide", .str y2, .int 2]) = H3
  intro s3 a3
  refine ⟨small (by show 5 ≤ 1000000; decide), fun p4 h4 => ?_⟩
  have s4 := same_new h4 (.tup [.str "face", .str g1, .ref p1, .ref p2, .ref p3])
  have a4 : Rep (upd H3 p4 (.tup [.str "face", .str g1, .ref p1, .ref p2, .ref p3])) (.ref p4) (Dc.t (.other "face" [.str g1, .tup [], .tup [.str "hide", .str y1, .int 0], .tup [.str "hide", .str y2, .int 2]])) :=
    .tup upd_same (.cons (rs w1) (.cons (rs l1) (.cons (a1.same (s2.trans (s3.trans s4))) (.cons (a2.same (s3.trans s4)) (.cons (a3.same s4) .nil)))))
  exact q _ _ ⟨o, st, wa, ls, lg, la, ta, lsr, lk, lr, ss, gs, as, .ref p4, _, rfl, k.same ((s1.trans s2).trans (s3.trans s4)), a4⟩
set_option maxHeartbeats 2000000 in
theorem ps_l6 : PS (LX P w K mg base f cdv A outer s H E) (lst 6) (tStep I5 I6) := by
  unfold lst
  refine ps_weak (ps_set (i := 8) sc_law.nd rfl (Or.inl rfl) (pe_tup (pa_cons pe_str (pa_cons (pe_ix ix_list (pv 4) (pe_un un_neg pe_int) (fun _ _ => rfl)) (pa_cons (pe_ix ix_list (pv 4) (pe_un un_neg pe_int) (fun _ _ => rfl))
        (pa_cons (pe_tup (pa_cons pe_str (pa_cons (pe_ix ix_list (pv 3) (pe_un un_neg pe_int) (fun _ _ => rfl)) (pa_cons (pe_tup pa_nil) (pa_cons pe_str pa_nil)))))
        (pa_cons (pe_tup (pa_cons pe_str (pa_cons (pe_ix ix_list (pv 3) (pe_un un_neg pe_int) (fun _ _ => rfl)) (pa_cons (pe_tup (pa_cons (pe_ix ix_list (pv 5) pe_int (fun _ _ => rfl)) (pa_cons (pe_ix ix_list (pv 5) pe_int (fun _ _ => rfl)) pa_nil))) (pa_cons (pe_ix ix_list (pv 5) pe_int (fun _ _ => rfl)) pa_nil))))) pa_nil))))))) ?_
  rintro D σ H ⟨⟨o, st, wa, ls, lg, la, ta, lsr, lk, lr, ss, gs, as, fc, rf, rfl, k, rfc⟩, q⟩
  obtain ⟨g1, e1, l1⟩ := k.pg.neg (k := 1) (by decide) (by decide)
  obtain ⟨g2, e2, l2⟩ := k.pg.neg (k := 2) (by decide) (by decide)
  obtain ⟨y1, d1, m1⟩ := k.ps.neg (k := 1) (by decide) (by decide)
  obtain ⟨y2, d2, m2⟩ := k.ps.neg (k := 2) (by decide) (by decide)
  obtain ⟨b0, c0, n0⟩ := k.pa.pos (k := 0) (by decide)
  obtain ⟨b1, c1, n1⟩ := k.pa.pos (k := 1) (by decide)
  obtain ⟨w1, w2, w3, w4, w5⟩ := wlens
  refine rd_neg rfl k.pg.at_ e2 (rd_neg rfl k.pg.at_ e1 (rd_neg rfl k.ps.at_ d1 ⟨small (by show 0 ≤ 1000000; decide), fun p1 h1 => ?_⟩))
  have s1 := same_new h1 (.tup [])
  have a1 : Rep (upd H p1 (.tup [])) (.ref p1) (.tup []) := .tup upd_same .nil
  revert s1 a1
  generalize upd H p1 (.tup []) = H1
  intro s1 a1
  refine ⟨small (by show 4 ≤ 1000000; decide), fun p2 h2 => ?_⟩
  have s2 := same_new h2 (.tup [.str "hide", .str y1, .ref p1, .str "num"])
  have a2 : Rep (upd H1 p2 (.tup [.str "hide", .str y1, .ref p1, .str "num"])) (.ref p2) (.tup [.str "hide", .str y1, .tup [], .str "num"]) := .tup upd_same (.cons (rs w2) (.cons (rs m1) (.cons (a1.same s2) (.cons (rs w4) .nil))))
  revert s2 a2
  generalize upd H1 p2 (.tup [.str "hide", .str y1, .ref p1, .str "num"]) = H2
  intro s2 a2
  have s02 := s1.trans s2
  refine rd_neg rfl (s02 _ _ k.ps.at_) d2 (rd_pos rfl (s02 _ _ k.pa.at_) c0 (rd_pos rfl (s02 _ _ k.pa.at_) c1 ⟨small (by show 2 ≤ 1000000; decide), fun p3 h3 => ?_⟩))
  have s3 := same_new h3 (.tup [.str b0, .str b1])
  have a3 : Rep (upd H2 p3 (.tup [.str b0, .str b1])) (.ref p3) (.tup [.str b0, .str b1]) := .tup upd_same (.cons (rs n0) (.cons (rs n1) .nil))
  revert s3 a3
  generalize upd H2 p3 (.tup [.str b0, .str b1]) = H3
  intro s3 a3
  have s03 := s02.trans s3
  refine rd_pos rfl (s03 _ _ k.pa.at_) c1 ⟨small (by show 4 ≤ 1000000; decide), fun p4 h4 => ?_⟩
  have s4 := same_new h4 (.tup [.str "hide", .str y2, .ref p3, .str b1])
  have a4 : Rep (upd H3 p4 (.tup [.str "hide", .str y2, .ref p3, .str b1])) (.ref p4) (.tup [.str "hide", .str y2, .tup [.str b0, .str b1], .str b1]) := .tup upd_same (.cons (rs w2) (.cons (rs m2) (.cons (a3.same s4) (.cons (rs n1) .nil))))
  revert s4 a4
  generalize upd H3 p4 (.tup [.str "hide", .str y2, .ref p3, .str b1]) = H4
  intro s4 a4
  refine ⟨small (by show 5 ≤ 1000000; decide), fun p5 h5 => ?_⟩
  have s5 := same_new h5 (.tup [.str "part", .str g2, .str g1, .ref p2, .ref p4])
  have s05 := s03.trans (s4.trans s5)
  have a5 : Rep (upd H4 p5 (.tup [.str "part", .str g2, .str g1, .ref p2, .ref p4])) (.ref p5) (Dc.t (.other "part" [.str g2, .str g1, .tup [.str "hide", .str y1, .tup [], .str "num"], .tup [.str "hide", .str y2, .tup [.str b0, .str b1], .str b1]])) :=
    .tup upd_same (.cons (rs w3) (.cons (rs l2) (.cons (rs l1) (.cons (a2.same (s3.trans (s4.trans s5))) (.cons (a4.same s5) .nil)))))
  exact q _ _ ⟨o, st, wa, ls, lg, la, ta, lsr, lk, lr, ss, gs, as, fc, rf, .ref p5, _, rfl, k.same s05, rfc.same s05, a5⟩
end
/-- rows as they are drawn -/
structure RowsOk (ds : List Dc) : Prop where
  ok : ∀ d ∈ ds, d.ok
  nm : (ds.filterMap nmD).Nodup
  tg : (ds.flatMap tgD).Nodup
  fd : (ds.flatMap fdD).Nodup
  l6 : ∀ d ∈ ds, (tgD d).length ≤ 6
  l4 : ∀ d ∈ ds, (fdD d).length ≤ 4
  len : ds.length ≤ 8
theorem flat_le {α : Type} {g : Dc → List α} {n : Nat} : ∀ {ds : List Dc}, (∀ d ∈ ds, (g d).length ≤ n) → (ds.flatMap g).length ≤ n * ds.length
  | [], _ => by simp
  | d :: r, h => by
    have h1 := h d List.mem_cons_self
    have h2 := flat_le (ds := r) fun x hx => h x (List.mem_cons_of_mem _ hx)
    rw [List.flatMap_cons, List.length_append, List.length_cons, Nat.mul_add]
    omega
theorem tof_sub : ∀ ds : List Dc, ((ds.flatMap tofM).map (·.1)).Sublist (ds.filterMap nmD)
  | [] => .slnil
  | .other h r :: ds => tof_sub ds
  | .kind n us rows :: ds => (tof_sub ds).cons₂ n
  | .record n us fs :: ds => (tof_sub ds).cons n
theorem rec_sub : ∀ ds : List Dc, ((ds.flatMap recM).map (·.1)).Sublist (ds.filterMap nmD)
  | [] => .slnil
  | .other h r :: ds => rec_sub ds
  | .kind n us rows :: ds => (rec_sub ds).cons n
  | .record n us fs :: ds => (rec_sub ds).cons₂ n
theorem nm_len (ds : List Dc) : (ds.filterMap nmD).length ≤ ds.length := List.length_filterMap_le _ _
theorem flat_keys {g : Dc → List (Str × T)} (ds : List Dc) : (ds.flatMap g).map (·.1) = ds.flatMap fun d => (g d).map (·.1) := List.map_flatMap
theorem heads : (("face" : Str) ≠ "kind" ∧ ("face" : Str) ≠ "record") ∧ (("part" : Str) ≠ "kind" ∧ ("part" : Str) ≠ "record") ∧ ("main" : Str) ≠ "kind" ∧ ("main" : Str) ≠ "record" := by decide +kernel
theorem RowsOk.okds {ds : List Dc} (R : RowsOk ds) (rf rp rm : List T) : OkDs (.other "face" rf :: .other "part" rp :: (ds ++ [.other "main" rm])) := by
  have fl : ∀ {α : Type} (g : Dc → List α), (∀ h r, g (.other h r) = []) → (Dc.other "face" rf :: Dc.other "part" rp :: (ds ++ [Dc.other "main" rm])).flatMap g = ds.flatMap g := by
    intro α g hg
    rw [List.flatMap_cons, List.flatMap_cons, List.flatMap_append, List.flatMap_cons, List.flatMap_nil, hg, hg, hg]
    simp
  have mem : ∀ {d : Dc}, d ∈ Dc.other "face" rf :: Dc.other "part" rp :: (ds ++ [Dc.other "main" rm]) → d = .other "face" rf ∨ d = .other "part" rp ∨ d ∈ ds ∨ d = .other "main" rm := by
    intro d h
    simpa using h
  have hl := R.len
  have e1 : (Dc.other "face" rf :: Dc.other "part" rp :: (ds ++ [Dc.other "main" rm])).flatMap tagM = ds.flatMap tagM := fl tagM fun _ _ => rfl
  have e3 : (Dc.other "face" rf :: Dc.other "part" rp :: (ds ++ [Dc.other "main" rm])).flatMap tofM = ds.flatMap tofM := fl tofM fun _ _ => rfl
  have e4 : (Dc.other "face" rf :: Dc.other "part" rp :: (ds ++ [Dc.other "main" rm])).flatMap recM = ds.flatMap recM := fl recM fun _ _ => rfl
  have e5 : (Dc.other "face" rf :: Dc.other "part" rp :: (ds ++ [Dc.other "main" rm])).flatMap fldM = ds.flatMap fldM := fl fldM fun _ _ => rfl
  have c3 := (tof_sub ds).length_le
  have c4 := (rec_sub ds).length_le
  have c0 := nm_len ds
  rw [List.length_map] at c3 c4
  refine ⟨?_, ?_, ?_, ?_, ?_, ?_, ?_, ?_, ?_, ?_, ?_⟩
  · intro h r hm
    rcases mem hm with e | e | e | e
    · cases e; exact heads.1
    · cases e; exact heads.2.1
    · exact (R.ok _ e).elim
    · cases e; exact heads.2.2
  · intro n us rows hm
    rcases mem hm with e | e | e | e
    · cases e
    · cases e
    · exact ⟨(R.ok _ e).1, (R.ok _ e).2.1⟩
    · cases e
  · intro n us fs hm
    rcases mem hm with e | e | e | e
    · cases e
    · cases e
    · exact ⟨(R.ok _ e).1, Nat.le_trans (R.ok _ e).2.1 (by decide)⟩
    · cases e
  · rw [e1, flat_keys]; exact R.tg
  · rw [e3]; exact R.nm.sublist (tof_sub ds)
  · rw [e4]; exact R.nm.sublist (rec_sub ds)
  · rw [e5, flat_keys]; exact R.fd
  · rw [e1, ← List.length_map (f := (·.1)), flat_keys]
    have := flat_le R.l6
    exact Nat.le_trans this (by omega)
  · rw [e3]; omega
  · rw [e4]; omega
  · rw [e5, ← List.length_map (f := (·.1)), flat_keys]
    have := flat_le R.l4
    exact Nat.le_trans this (by omega)
theorem RowsOk.one {ds : List Dc} (R : RowsOk ds) {d : Dc} (h : d ∈ ds) : RowsOk [d] := by
  have sub : ∀ {α : Type} (g : Dc → List α), (([d] : List Dc).flatMap g).Sublist (ds.flatMap g) := by
    intro α g
    obtain ⟨a, b, rfl⟩ := List.append_of_mem h
    rw [List.flatMap_append, List.flatMap_cons, List.flatMap_cons, List.flatMap_nil, List.append_nil]
    exact (List.sublist_append_left _ _).trans (List.sublist_append_right _ _)
  refine ⟨fun x hx => ?_, R.nm.sublist ?_, R.tg.sublist (sub _), R.fd.sublist (sub _), fun x hx => ?_, fun x hx => ?_, (by show 1 ≤ 8; decide)⟩
  · rw [List.mem_singleton.mp hx]; exact R.ok _ h
  · exact (List.singleton_sublist.mpr h).filterMap _
  · rw [List.mem_singleton.mp hx]; exact R.l6 _ h
  · rw [List.mem_singleton.mp hx]; exact R.l4 _ h
theorem RowsOk.snoc {ds : List Dc} (R : RowsOk ds) {d : Dc} {z : Str} (ok : d.ok) (hz : nmD d = some z) (nz : z ∉ ds.filterMap nmD) (t : (ds.flatMap tgD ++ tgD d).Nodup) (u : (ds.flatMap fdD ++ fdD d).Nodup) (l6 : (tgD d).length ≤ 6) (l4 : (fdD d).length ≤ 4) (hl : ds.length < 8) : RowsOk (ds ++ [d]) := by
  have m : ∀ {x}, x ∈ ds ++ [d] → x ∈ ds ∨ x = d := fun h => by simpa using h
  refine ⟨fun x hx => ?_, ?_, ?_, ?_, fun x hx => ?_, fun x hx => ?_, by rw [List.length_append]; exact hl⟩
  · rcases m hx with h | rfl
    · exact R.ok _ h
    · exact ok
  · rw [List.filterMap_append, List.filterMap_cons, hz, List.nodup_append]
    refine ⟨R.nm, by simp, fun a ha b hb e => ?_⟩
    have : b = z := by simpa using hb
    rw [e, this] at ha
    exact nz ha
  · rw [List.flatMap_append, List.flatMap_cons, List.flatMap_nil, List.append_nil]; exact t
  · rw [List.flatMap_append, List.flatMap_cons, List.flatMap_nil, List.append_nil]; exact u
  · rcases m hx with h | rfl
    · exact R.l6 _ h
    · exact l6
  · rcases m hx with h | rfl
    · exact R.l4 _ h
    · exact l4
theorem RowsOk.nil : RowsOk [] := ⟨(fun _ h => (by cases h)), List.nodup_nil, List.nodup_nil, List.nodup_nil, (fun _ h => (by cases h)), (fun _ h => (by cases h)), (by decide)⟩
end Fw

set_option Elab.async false
set_option linter.all false
set_option maxRecDepth 100000
namespace Fw
open PySem PySem.Spec PyProof.Rows L2
/-- the number of sorts -/
def tCnt : TE := fun σ H Q => ∃ st, σ[1]? = some (some (.ref st)) ∧ StOk H st ∧ ∀ (m : Int) H', Grow st H H' → 1 ≤ m → m ≤ 8 → Q (.int m) H'
def I7 : L2.St → Hp → Prop := fun σ H => ∃ (o0 o1 o2 o3 o4 o5 o6 : Option V) (fc pt : V) (lw : Addr) (vs : List V) (rf rp : List T) (ds : List Dc), σ = [o0, o1, o2, o3, o4, o5, o6, some fc, some pt, some (.ref lw), none, none, none] ∧
  Rep H fc (Dc.t (.other "face" rf)) ∧ Rep H pt (Dc.t (.other "part" rp)) ∧ H lw = some (.lst vs) ∧ Reps H vs (ds.map Dc.t) ∧ ds ≠ [] ∧ RowsOk ds
section
variable {P : Program} {w : World} {K : PySem.W.Frag} {mg : Str → Option Value} {base : Heap} {f : Addr} {cdv : Value} {A : Around} {outer : List Env} {s : Shared} {H : Hp} {E : XK}
set_option maxHeartbeats 2000000 in
theorem ps_l7 (hr : LR f cdv A s) (mr : mg "range" = none) (mI : mg "int" = none) (h1 : Has P w K mg base 1 "_law_next" ["_law_state", "_law_many"] spNext) (h4 : Has P w K mg base 5 "_law_sort" ["_law_state", "_law_words_here", "_law_there"] spSort) : PS (LX P w K mg base f cdv A outer s H E) (lst 7) (tStep I6 I7) := by
  unfold lst
  refine ps_weak (ps_lc (defScope s_law) nL ["_law_state", "_law_words_here", "_law_there"] [1, 2, 6] (by decide +kernel) (pi_range1 rfl mr (pa_cons (pe_weak (t' := tCnt) (pe_op op_add pe_int (pcall h1 hr (by decide) rfl (pa_cons (pv 1) (pa_cons (pe_ix ix_list (pe_lst (pa_cons pe_int (pa_cons pe_int pa_nil))) (pe_callTy call_int1 rfl mI boot_int (pa_cons (pe_cmpR op_eq (pcall h1 hr (by decide) rfl (pa_cons (pv 1) (pa_cons pe_int pa_nil))) pe_int (nomark _)) pa_nil)) (fun _ _ => rfl)) pa_nil)))) ?w1) pa_nil))
        (pg_name (i := 9) sc_law.nd rfl (Or.inl rfl)) (fun C s₀ H₀ ex => pts_nil) (fun C s₀ H₀ ex => pcall h4 hr (by decide) rfl (pa_cons (pv 1) (pa_cons (pv 2) (pa_cons (pv 3) pa_nil)))) (by with_unfolding_all rfl)) ?_
  case w1 =>
    rintro σ H Q ⟨st, e1, ok, q⟩
    refine ⟨_, e1, small (by show 2 ≤ 1000000; decide), fun p1 hp1 => ?_⟩
    have g1 := grow_new (o := .lst [V.int 4, V.int 8]) ok hp1
    have np : p1 ≠ st := ok.fresh hp1
    refine ⟨_, e1, st, 3, rfl, g1.ok, by decide, by decide, fun d H2 d0 d2 g2 => ⟨rfl, .inr ⟨_, rfl, ?_⟩⟩⟩
    have hp2 := g2.1 _ _ np upd_same
    by_cases c : d = 0
    · subst c
      refine ⟨p1, _, 1, .int 8, rfl, rfl, SqL.of hp2, atI_nat (j := 1) rfl, st, 8, rfl, g2.ok, by decide, by decide, fun d' H3 e0 e8 g3 => ⟨1, d', rfl, rfl, q _ _ ((g1.trans g2).trans g3) (by omega) (by omega)⟩⟩
    · have e : decide (V.int d = V.int 0) = false := decide_eq_false fun e => c (V.int.inj e)
      rw [e]
      refine ⟨p1, _, 0, .int 4, rfl, rfl, SqL.of hp2, atI_nat (j := 0) rfl, st, 4, rfl, g2.ok, by decide, by decide, fun d' H3 e0 e8 g3 => ⟨1, d', rfl, rfl, q _ _ ((g1.trans g2).trans g3) (by omega) (by omega)⟩⟩
  rintro D σ H ⟨⟨o, st, wa, ls, lg, la, ta, lsr, lk, lr, ss, gs, as, fc, rf, pt, rp, rfl, k, rfc, rpt⟩, q⟩
  refine ⟨st, rfl, k.ok, fun m H1 g1 m1 m8 => ⟨m, rfl, by omega, by omega, ?_⟩⟩
  have k1 := k.grow g1
  have n8 : m.toNat ≤ 8 := by omega
  refine comp_range (n := m.toNat) (fun i vs H2 => ∃ (ds : List Dc) (srt : List (Str × Int)), SIn H2 st wa ta ls lg la lsr lk lr ss gs as srt (ds.flatMap tgD) (ds.flatMap fdD) ∧ srt.map (·.1) = ds.filterMap nmD ∧ srt.length = ds.length ∧ ds.length = i ∧ Reps H2 vs (ds.map Dc.t) ∧ RowsOk ds ∧ Rep H2 fc (Dc.t (.other "face" rf)) ∧ Rep H2 pt (Dc.t (.other "part" rp))) ?_ ?_ ?_ ?_
  · exact ⟨[], [], k1, rfl, rfl, rfl, .nil, RowsOk.nil, rfc.grow g1 k.ok, rpt.grow g1 k.ok⟩
  · rintro i vs H2 hi ⟨ds, srt, _, _, _, e, r, _⟩
    have := r.length
    rw [List.length_map] at this
    exact small' (by omega)
  · rintro i vs H2 hi ⟨ds, srt, k2, en, el, e, r, R, r1, r2⟩
    have c1 := flat_le R.l6
    have c2 := flat_le R.l4
    refine tt1 (iteT ⟨_, rfl, _, rfl, _, rfl, st, wa, ta, ls, lg, la, lsr, lk, lr, ss, gs, as, srt, _, _, rfl, k2, by omega, by omega, by omega, R.tg, R.fd, fun v d z m' H3 k3 dok rv nz hz ndk ndr l6 l4 g => nx hi ?_⟩)
    have tu : ∀ b xs, H2 b = some (.tup xs) → H3 b = some (.tup xs) := fun b xs h => g b _ (k2.offT h) h
    refine ⟨ds ++ [d], srt ++ [(z, m')], ?_, ?_, by rw [List.length_append, List.length_append, el]; rfl, by rw [List.length_append, e]; rfl, ?_, R.snoc dok nz (by rw [← en]; exact hz) ndk ndr l6 l4 (by omega), r1.mono tu, r2.mono tu⟩
    · rw [List.flatMap_append, List.flatMap_append, List.flatMap_cons, List.flatMap_cons, List.flatMap_nil, List.flatMap_nil, List.append_nil, List.append_nil]
      exact k3
    · rw [List.map_append, List.filterMap_append, en, List.filterMap_cons, nz]
      rfl
    · rw [List.map_append]
      exact (r.mono tu).append (.cons rv .nil)
  · rintro vs H2 ⟨ds, srt, k2, en, el, e, r, R, r1, r2⟩ l hl
    have s3 := same_new hl (.lst vs)
    refine q _ _ ⟨_, _, _, _, _, _, _, fc, pt, l, vs, rf, rp, ds, rfl, r1.same s3, r2.same s3, upd_same, r.same s3, ?_, R⟩
    intro e0
    rw [e0] at e
    have : (0 : Nat) = m.toNat := e
    omega
end
end Fw

set_option Elab.async false
set_option linter.all false
set_option maxRecDepth 100000
namespace Fw
open PySem PySem.Spec PyProof.Rows L2
def dsF (rf rp : List T) (ds : List Dc) : List Dc := .other "face" rf :: .other "part" rp :: (ds ++ [.other "main" [.int 0]])
def SOd (C : Addr) (H : Hp) (p : Addr) (ds : List Dc) : Prop := ∃ dx d1 d2 d3 d4 d5 : Addr, SO C H p dx d1 d2 d3 d4 d5 (ds.flatMap tagM) (ds.flatMap kofM) (ds.flatMap tofM) (ds.flatMap recM) (ds.flatMap fldM)
theorem SOd.same {C : Addr} {H H' : Hp} {p : Addr} {ds : List Dc} (h : SOd C H p ds) (e : Same H H') : SOd C H' p ds := by
  obtain ⟨dx, d1, d2, d3, d4, d5, h⟩ := h
  exact ⟨dx, d1, d2, d3, d4, d5, h.same e⟩
/-- what the two objects are made of -/
structure RS (H : Hp) (fc pt : V) (lw : Addr) (vs : List V) (rf rp : List T) (ds : List Dc) : Prop where
  rfc : Rep H fc (Dc.t (.other "face" rf))
  rpt : Rep H pt (Dc.t (.other "part" rp))
  hl : H lw = some (.lst vs)
  r : Reps H vs (ds.map Dc.t)
  ne : ds ≠ []
  R : RowsOk ds
theorem RS.same {H H' : Hp} {fc pt : V} {lw : Addr} {vs : List V} {rf rp : List T} {ds : List Dc} (h : RS H fc pt lw vs rf rp ds) (e : Same H H') : RS H' fc pt lw vs rf rp ds := ⟨h.rfc.same e, h.rpt.same e, e _ _ h.hl, h.r.same e, h.ne, h.R⟩
def I8 (C : Addr) : L2.St → Hp → Prop := fun σ H => ∃ (o0 o1 o2 o3 o4 o5 o6 : Option V) (fc pt : V) (lw : Addr) (vs : List V) (rf rp : List T) (ds : List Dc) (p : Addr), σ = [o0, o1, o2, o3, o4, o5, o6, some fc, some pt, some (.ref lw), some (.ref p), none, none] ∧ RS H fc pt lw vs rf rp ds ∧ SOd C H p (dsF rf rp ds)
def I9 (C : Addr) : L2.St → Hp → Prop := fun σ H => ∃ (o0 o1 o2 o3 o4 o5 o6 o7 : Option V) (fc pt : V) (lw : Addr) (vs : List V) (rf rp : List T) (d : Dc) (ds : List Dc) (p p2 : Addr), σ = [o0, o1, o2, o3, o4, o5, o6, some fc, some pt, some (.ref lw), some (.ref p), some (.ref p2), o7] ∧ RS H fc pt lw vs rf rp (d :: ds) ∧ SOd C H p (dsF rf rp (d :: ds)) ∧ SOd C H p2 (dsF rf rp [d])
theorem dsF_mem {rf rp : List T} {ds : List Dc} {d : Dc} (h : d ∈ ds) : d ∈ dsF rf rp ds := List.mem_cons_of_mem _ (List.mem_cons_of_mem _ (List.mem_append_left _ h))
theorem made {C : Addr} {H : Hp} {x dx : Addr} (hx : H x = none) (hd : H dx = none) (n : dx ≠ x) : Same H (upd (upd H dx (.own x)) x (.ins C dx [])) := fun b o h => by
  rw [upd_ne (ne_of_none h hx), upd_ne (ne_of_none h hd)]; exact h
def tFin (I : L2.St → Hp → Prop) : TS := fun D σ H => I σ H ∧ ∀ H', D.rt (.bl true) H'
section
variable {P : Program} {w : World} {K : PySem.W.Frag} {mg : Str → Option Value} {base : Heap} {f : Addr} {cdv : Value} {A : Around} {outer : List Env} {s : Shared} {H : Hp} {E : XK} {C fi : Addr} {gi : FuncData}
set_option maxHeartbeats 2000000 in
theorem ps_l8 (hr : LR f cdv A s) (mt : mg "tuple" = none) (M : Mk K C fi) (Gi : FnOk P w K mg base CX0 3 fi gi ["self", "program"] (spInit C)) (bi : Binds K gi ["self", "program"] []) (mS : mg "Sorts" = some (.ref C)) : PS (LX P w K mg base f cdv A outer s H E) (lst 8) (tStep I7 (I8 C)) := by
  have hr4 : Room 4 _ := hr.mono (by decide)
  unfold lst
  refine ps_weak (ps_set (i := 10) sc_law.nd rfl (Or.inl rfl) (pe_make M Gi hr4 rfl mS bi .nil pass0 (pa_cons (pe_op op_catT (pe_op op_catT (pe_tup (pa_cons (pv 7) (pa_cons (pv 8) pa_nil))) (pe_callTy call_tuple_of rfl mt boot_tuple (pa_cons (pv 9) pa_nil))) (pe_tup (pa_cons (pe_tup (pa_cons pe_str (pa_cons pe_int pa_nil))) pa_nil))) pa_nil))) ?_
  rintro D σ H ⟨⟨o0, o1, o2, o3, o4, o5, o6, fc, pt, lw, vs, rf, rp, ds, rfl, rfc, rpt, hl, r, ne, R⟩, q⟩
  obtain ⟨w1, w2, w3, w4, w5⟩ := wlens
  have hlen := r.length
  rw [List.length_map] at hlen
  have h8 := R.len
  have h0 : vs ≠ [] := fun e => ne (List.length_eq_zero_iff.mp (by rw [← hlen, e]; rfl))
  refine ⟨_, rfl, _, rfl, small (by show 2 ≤ 1000000; decide), fun p1 h1 => ?_⟩
  have s1 := same_new h1 (.tup [fc, pt])
  have a1 : (upd H p1 (.tup [fc, pt])) p1 = some (.tup [fc, pt]) := upd_same
  revert s1 a1
  generalize upd H p1 (.tup [fc, pt]) = H1
  intro s1 a1
  refine ⟨_, rfl, lw, vs, rfl, .inl ⟨SqL.of (s1 _ _ hl), fun p2 h2 => ?_⟩⟩
  have s2 := same_new h2 (.tup vs)
  have a2 : (upd H1 p2 (.tup vs)) p2 = some (.tup vs) := upd_same
  revert s2 a2
  generalize upd H1 p2 (.tup vs) = H2
  intro s2 a2
  refine ⟨p1, p2, [fc, pt], vs, rfl, rfl, SqT.of (s2 _ _ a1), SqT.of a2, by simp, small (by show 2 + vs.length ≤ 1000000; omega), fun e => absurd e h0, fun _ p3 h3 => ?_⟩
  have s3 := same_new h3 (.tup ([fc, pt] ++ vs))
  have a3 : (upd H2 p3 (.tup ([fc, pt] ++ vs))) p3 = some (.tup ([fc, pt] ++ vs)) := upd_same
  revert s3 a3
  generalize upd H2 p3 (.tup ([fc, pt] ++ vs)) = H3
  intro s3 a3
  refine ⟨small (by show 2 ≤ 1000000; decide), fun p4 h4 => ?_⟩
  have s4 := same_new h4 (.tup [.str "main", .int 0])
  have a4 : Rep (upd H3 p4 (.tup [.str "main", .int 0])) (.ref p4) (Dc.t (.other "main" [.int 0])) := .tup upd_same (.cons (rs w5) (.cons (.int _) .nil))
  revert s4 a4
  generalize upd H3 p4 (.tup [.str "main", .int 0]) = H4
  intro s4 a4
  refine ⟨small (by show 1 ≤ 1000000; decide), fun p5 h5 => ?_⟩
  have s5 := same_new h5 (.tup [.ref p4])
  have a5 : (upd H4 p5 (.tup [.ref p4])) p5 = some (.tup [.ref p4]) := upd_same
  revert s5 a5
  generalize upd H4 p5 (.tup [.ref p4]) = H5
  intro s5 a5
  refine ⟨p3, p5, _, _, rfl, rfl, SqT.of (s5 _ _ (s4 _ _ a3)), SqT.of a5, by simp, small (by show ([fc, pt] ++ vs).length + 1 ≤ 1000000; rw [List.length_append]; show 2 + vs.length + 1 ≤ _; omega), fun e => (by cases e), fun _ p6 h6 => ?_⟩
  have s6 := same_new h6 (.tup ([fc, pt] ++ vs ++ [.ref p4]))
  have a6 : (upd H5 p6 (.tup ([fc, pt] ++ vs ++ [.ref p4]))) p6 = some (.tup ([fc, pt] ++ vs ++ [.ref p4])) := upd_same
  revert s6 a6
  generalize upd H5 p6 (.tup ([fc, pt] ++ vs ++ [.ref p4])) = H6
  intro s6 a6 x dx hx hd nxd
  have s7 := made (C := C) hx hd nxd
  have S : Same H (upd (upd H6 dx (.own x)) x (.ins C dx [])) := (((s1.trans s2).trans (s3.trans s4)).trans (s5.trans s6)).trans s7
  refine ⟨x, dx, .ref p6, dsF rf rp ds, rfl, upd_same, .tup (s7 _ _ a6) ?_, R.okds rf rp _, fun d1 d2 d3 d4 d5 H' so old => ⟨rfl, ?_⟩⟩
  · show Reps _ _ (Dc.t (.other "face" rf) :: Dc.t (.other "part" rp) :: (ds ++ [Dc.other "main" [.int 0]]).map Dc.t)
    rw [List.map_append]
    exact .cons (rfc.same S) (.cons (rpt.same S) ((r.same S).append (.cons (a4.same (s5.trans (s6.trans s7))) .nil)))
  · have S2 : Same H H' := fun b o h => old b o (S b o h) (ne_of_none ((((s1.trans s2).trans (s3.trans s4)).trans (s5.trans s6)) _ _ h) hx)
    exact q _ _ ⟨_, _, _, _, _, _, _, fc, pt, lw, vs, rf, rp, ds, x, rfl, RS.same ⟨rfc, rpt, hl, r, ne, R⟩ S2, dx, d1, d2, d3, d4, d5, so⟩
set_option maxHeartbeats 2000000 in
theorem ps_l9 (hr : LR f cdv A s) (M : Mk K C fi) (Gi : FnOk P w K mg base CX0 3 fi gi ["self", "program"] (spInit C)) (bi : Binds K gi ["self", "program"] []) (mS : mg "Sorts" = some (.ref C)) : PS (LX P w K mg base f cdv A outer s H E) (lst 9) (tStep (I8 C) (I9 C)) := by
  have hr4 : Room 4 _ := hr.mono (by decide)
  unfold lst
  refine ps_weak (ps_set (i := 11) sc_law.nd rfl (Or.inl rfl) (pe_make M Gi hr4 rfl mS bi .nil pass0 (pa_cons (pe_tup (pa_cons (pv 7) (pa_cons (pv 8) (pa_cons (pe_ix ix_list (pv 9) pe_int (fun _ _ => rfl)) (pa_cons (pe_tup (pa_cons pe_str (pa_cons pe_int pa_nil))) pa_nil))))) pa_nil))) ?_
  rintro D σ H ⟨⟨o0, o1, o2, o3, o4, o5, o6, fc, pt, lw, vs, rf, rp, ds, p, rfl, r, so⟩, q⟩
  obtain ⟨w1, w2, w3, w4, w5⟩ := wlens
  match ds, r, so with
  | [], r, so => exact absurd rfl r.ne
  | d :: ds, r, so =>
    obtain ⟨v0, vr, rfl, r0⟩ : ∃ v0 vr, vs = v0 :: vr ∧ Rep H v0 d.t := by
      have := r.r
      cases this with
      | cons a b => exact ⟨_, _, rfl, a⟩
    refine ⟨_, rfl, _, rfl, rd_pos rfl r.hl (atI_nat (j := 0) rfl) ⟨small (by show 2 ≤ 1000000; decide), fun p4 h4 => ?_⟩⟩
    have s4 := same_new h4 (.tup [.str "main", .int 0])
    have a4 : Rep (upd H p4 (.tup [.str "main", .int 0])) (.ref p4) (Dc.t (.other "main" [.int 0])) := .tup upd_same (.cons (rs w5) (.cons (.int _) .nil))
    revert s4 a4
    generalize upd H p4 (.tup [.str "main", .int 0]) = H4
    intro s4 a4
    refine ⟨small (by show 4 ≤ 1000000; decide), fun p6 h6 => ?_⟩
    have s6 := same_new h6 (.tup [fc, pt, v0, .ref p4])
    have a6 : (upd H4 p6 (.tup [fc, pt, v0, .ref p4])) p6 = some (.tup [fc, pt, v0, .ref p4]) := upd_same
    revert s6 a6
    generalize upd H4 p6 (.tup [fc, pt, v0, .ref p4]) = H6
    intro s6 a6 x dx hx hd nxd
    have s7 := made (C := C) hx hd nxd
    have S : Same H (upd (upd H6 dx (.own x)) x (.ins C dx [])) := (s4.trans s6).trans s7
    refine ⟨x, dx, .ref p6, dsF rf rp [d], rfl, upd_same, .tup (s7 _ _ a6) ?_, (r.R.one List.mem_cons_self).okds rf rp _, fun d1 d2 d3 d4 d5 H' so' old => ⟨rfl, ?_⟩⟩
    · exact .cons (r.rfc.same S) (.cons (r.rpt.same S) (.cons (r0.same S) (.cons (a4.same (s6.trans s7)) .nil)))
    · have S2 : Same H H' := fun b o h => old b o (S b o h) (ne_of_none ((s4.trans s6) _ _ h) hx)
      exact q _ _ ⟨_, _, _, _, _, _, _, _, fc, pt, lw, v0 :: vr, rf, rp, d, ds, p, x, rfl, r.same S2, so.same S2, dx, d1, d2, d3, d4, d5, so'⟩
set_option maxHeartbeats 2000000 in
theorem ps_l10 (hr : LR f cdv A s) (h5 : Has P w K mg base 6 "_law_row_right" ["_law_sorts", "_law_row"] (spRight C)) : PS (LX P w K mg base f cdv A outer s H E) (lst 10) (tStep (I9 C) (I9 C)) := by
  unfold lst
  refine ps_weak (ps_for PassesOwn.never rfl (pi_list (pv 9)) (pg_name (i := 12) sc_law.nd rfl (Or.inl rfl)) (pss_one (ps_if (pt_not (pt_val (pcall h5 hr (by decide) rfl (pa_cons (pv 10) (pa_cons (pv 12) pa_nil))))) (pss_one (ps_ret pe_bl)) pss_nil))) ?_
  rintro D σ H ⟨⟨o0, o1, o2, o3, o4, o5, o6, o7, fc, pt, lw, vs, rf, rp, d, ds, p, p2, rfl, r, so, so2⟩, q⟩
  refine ⟨_, rfl, lw, rfl, ⟨vs, SqL.of r.hl⟩, for_list (xs := vs) (fun i σ H => ∃ o7, σ = [o0, o1, o2, o3, o4, o5, o6, some fc, some pt, some (.ref lw), some (.ref p), some (.ref p2), o7] ∧ RS H fc pt lw vs rf rp (d :: ds) ∧ SOd C H p (dsF rf rp (d :: ds)) ∧ SOd C H p2 (dsF rf rp [d])) ⟨o7, rfl, r, so, so2⟩ ?_ ?_ ?_⟩
  · rintro i σ H _ ⟨o7, rfl, r, _⟩
    exact SqL.of r.hl
  · rintro i x σ H hx ⟨o7, rfl, r, so, so2⟩
    obtain ⟨t, ht, rt⟩ := r.r.at3 hx
    obtain ⟨e, he, rfl⟩ : ∃ e, (d :: ds)[i]? = some e ∧ t = e.t := by
      rw [List.getElem?_map] at ht
      cases he : (d :: ds)[i]? with
      | none => rw [he] at ht; cases ht
      | some e => rw [he] at ht; exact ⟨e, rfl, (Option.some.inj ht).symm⟩
    have me : e ∈ d :: ds := List.mem_of_getElem? he
    obtain ⟨dx, d1, d2, d3, d4, d5, so'⟩ := id so
    refine ⟨_, rfl, _, rfl, p, dx, d1, d2, d3, d4, d5, x, dsF rf rp (d :: ds), e, rfl, so', r.R.okds rf rp _, dsF_mem me, r.R.ok _ me, rt, fun H' sm => ?_⟩
    exact ⟨true, rfl, iteF ⟨_, rfl, r.same sm, so.same sm, so2.same sm⟩⟩
  · rintro σ H ⟨o7, rfl, r, so, so2⟩
    exact q _ _ ⟨o0, o1, o2, o3, o4, o5, o6, o7, fc, pt, lw, vs, rf, rp, d, ds, p, p2, rfl, r, so, so2⟩
set_option maxHeartbeats 2000000 in
theorem ps_l11 (hr : LR f cdv A s) (h5 : Has P w K mg base 6 "_law_row_right" ["_law_sorts", "_law_row"] (spRight C)) : PS (LX P w K mg base f cdv A outer s H E) (lst 11) (tFin (I9 C)) := by
  unfold lst
  refine ps_weak (ps_ret (pcall h5 hr (by decide) rfl (pa_cons (pv 11) (pa_cons (pe_ix ix_list (pv 9) pe_int (fun _ _ => rfl)) pa_nil)))) ?_
  rintro D σ H ⟨⟨o0, o1, o2, o3, o4, o5, o6, o7, fc, pt, lw, vs, rf, rp, d, ds, p, p2, rfl, r, so, so2⟩, q⟩
  obtain ⟨v0, vr, rfl, r0⟩ : ∃ v0 vr, vs = v0 :: vr ∧ Rep H v0 d.t := by
    have := r.r
    cases this with
    | cons a b => exact ⟨_, _, rfl, a⟩
  obtain ⟨dx, d1, d2, d3, d4, d5, so'⟩ := so2
  have R1 := r.R.one List.mem_cons_self
  exact ⟨_, rfl, rd_pos rfl r.hl (atI_nat (j := 0) rfl) ⟨p2, dx, d1, d2, d3, d4, d5, v0, dsF rf rp [d], d, rfl, so', R1.okds rf rp _, dsF_mem List.mem_cons_self, R1.ok _ List.mem_cons_self, r0, fun H' _ => q H'⟩⟩
theorem body_law : defBody s_law = [lst 0, lst 1, lst 2, lst 3, lst 4, lst 5, lst 6, lst 7, lst 8, lst 9, lst 10, lst 11] := by with_unfolding_all rfl
theorem pss12 {X : Cx} {a0 a1 a2 a3 a4 a5 a6 a7 a8 a9 a10 a11 : Stmt} {t0 t1 t2 t3 t4 t5 t6 t7 t8 t9 t10 t11 : TS} (h0 : PS X a0 t0) (h1 : PS X a1 t1) (h2 : PS X a2 t2) (h3 : PS X a3 t3) (h4 : PS X a4 t4) (h5 : PS X a5 t5) (h6 : PS X a6 t6) (h7 : PS X a7 t7) (h8 : PS X a8 t8) (h9 : PS X a9 t9) (h10 : PS X a10 t10) (h11 : PS X a11 t11) :
    PSs X [a0, a1, a2, a3, a4, a5, a6, a7, a8, a9, a10, a11] (tSeq t0 (tSeq t1 (tSeq t2 (tSeq t3 (tSeq t4 (tSeq t5 (tSeq t6 (tSeq t7 (tSeq t8 (tSeq t9 (tSeq t10 t11))))))))))) :=
  pss_cons h0 (pss_cons h1 (pss_cons h2 (pss_cons h3 (pss_cons h4 (pss_cons h5 (pss_cons h6 (pss_cons h7 (pss_cons h8 (pss_cons h9 (pss_cons h10 (pss_one h11)))))))))))
end
section
variable {P : Program} {w : World} {K : PySem.W.Frag} {mg : Str → Option Value} {base : Heap} {f : Addr} {fd : FuncData} {C fi : Addr} {gi : FuncData}
set_option maxHeartbeats 2000000 in
theorem ok_law (F : Fun K "law" "law" s_law f fd) (mr : mg "range" = none) (mt : mg "tuple" = none) (mI : mg "int" = none) (h1 : Has P w K mg base 1 "_law_next" ["_law_state", "_law_many"] spNext) (h2 : Has P w K mg base 1 "_law_drawn" ["_law_script"] (spDrawn K))
    (h3 : Has P w K mg base 2 "_law_words" ["_law_state"] spWords) (h4 : Has P w K mg base 5 "_law_sort" ["_law_state", "_law_words_here", "_law_there"] spSort) (h5 : Has P w K mg base 6 "_law_row_right" ["_law_sorts", "_law_row"] (spRight C))
    (M : Mk K C fi) (Gi : FnOk P w K mg base CX0 3 fi gi ["self", "program"] (spInit C)) (bi : Binds K gi ["self", "program"] []) (mS : mg "Sorts" = some (.ref C)) : FnOk P w K mg base CX0 7 f fd ["_law_script"] (spLaw K) := by
  refine F.ok sc_law (fun vs H Q E h => ?_) (fun cdv A outer s H vs Q E hr h => ?_)
  · obtain ⟨a, ns, rfl, _⟩ := h
    rfl
  obtain ⟨a, ns, rfl, hS, h63, q⟩ := h
  rw [body_law]
  refine ⟨_, pss12 (ps_l0 hr h2) (ps_l1 hr h3) (ps_l2 hr) ps_l3 (ps_l4 hr) ps_l5 ps_l6 (ps_l7 hr mr mI h1 h4) (ps_l8 hr mt M Gi bi mS) (ps_l9 hr M Gi bi mS) (ps_l10 hr h5) (ps_l11 hr h5), ?_⟩
  exact ⟨⟨a, ns, rfl, hS, h63⟩, fun _ _ k1 => ⟨k1, fun _ _ k2 => ⟨k2, fun _ _ k3 => ⟨k3, fun _ _ k4 => ⟨k4, fun _ _ k5 => ⟨k5, fun _ _ k6 => ⟨k6, fun _ _ k7 => ⟨k7, fun _ _ k8 => ⟨k8, fun _ _ k9 => ⟨k9, fun _ _ k10 => ⟨k10, fun _ _ k11 => ⟨k11, fun H' => q H'⟩⟩⟩⟩⟩⟩⟩⟩⟩⟩⟩⟩
end
end Fw

set_option Elab.async false
set_option linter.all false
set_option maxRecDepth 100000
namespace Fw
open PySem PySem.Spec PyProof.Rows L2
def DefIs (K : PySem.W.Frag) (x : Str) (st : Stmt) : Prop := ∃ f fd, PySem.W.nsIn K mainGlobals x = some (some (.ref f)) ∧ Fun K x x st f fd
theorem def_mk {K : PySem.W.Frag} {x : Str} {st : Stmt} {f : Addr} {oc : Value} {od an : Option Addr} {osl : Array (Option Value)} {kV doc pm cdv ct : Value} (a : PySem.W.nsIn K mainGlobals x = some (some (.ref f)))
    (l : K.lookup f = some ⟨oc, od, .func (PySem.W.fnOf x x (defArgs st) (defBody st) (defScope st) .none kV doc pm an cdv ct), osl⟩) (c : PySem.W.codeIn K cdv x = true) (k : PySem.W.keepIn K (.ref f) = true) : DefIs K x st := ⟨f, _, a, fun_mk l c k⟩
theorem val_str {K : PySem.W.Frag} {x z y : Str} {t : Tok} (a : PySem.W.nsIn K mainGlobals x = some (some (.str z t))) (e : z = y) : ∃ t, PySem.W.nsIn K mainGlobals x = some (some (.str y t)) := ⟨t, by rw [← e]; exact a⟩
theorem law_binds {K : PySem.W.Frag} {x : Str} {st : Stmt} {f : Addr} {fd : FuncData} {p : Str} (F : Fun K x x st f fd) (h : ∀ (kV doc pm : Value) (an : Option Addr) (cdv ct : Value) (s : Shared) (v : Value), BindsTo s (PySem.W.fnOf x x (defArgs st) (defBody st) (defScope st) .none kV doc pm an cdv ct) ⟨[v], []⟩ [(p, v)]) :
    ∀ (s : Shared) (v : Value), BindsTo s fd ⟨[v], []⟩ [(p, v)] := by
  obtain ⟨oc, od, kV, doc, pm, an, cdv, ct, osl, rfl, lk, hcd⟩ := F.ex
  exact h kV doc pm an cdv ct
def MethIs (K : PySem.W.Frag) (C : Addr) (x q : Str) (st : Stmt) : Prop := ∃ f fd, Meth K C x f ∧ Fun K x q st f fd
theorem meth_mk {K : PySem.W.Frag} {C : Addr} {x q : Str} {st : Stmt} {f : Addr} {oc : Value} {od an : Option Addr} {osl : Array (Option Value)} {kV doc pm cdv ct : Value} (a : PySem.W.findIn K (.ref C) x = some (some (.ref f))) (i : PySem.W.isFn K (.ref f) = true)
    (l : K.lookup f = some ⟨oc, od, .func (PySem.W.fnOf x q (defArgs st) (defBody st) (defScope st) .none kV doc pm an cdv ct), osl⟩) (c : PySem.W.codeIn K cdv q = true) (k : PySem.W.keepIn K (.ref f) = true) : MethIs K C x q st := ⟨f, _, ⟨a, i, k⟩, fun_mk l c k⟩
theorem cls_mk {K : PySem.W.Frag} {C : Addr} (pg : PySem.W.plainGet K C Str.empty = true) (hd : PySem.W.hasDictIn K C = true) (po : PySem.W.plainOver K C = true) (sa : PySem.W.findIn K (.ref C) "__setattr__" = some (some (.builtin "object.__setattr__"))) : Cls K C := ⟨pg, hd, po, sa⟩
theorem noat_mk {K : PySem.W.Frag} {C : Addr} {x : Str} (n : PySem.W.findIn K (.ref C) x = some none) : NoAttr K C x := n
theorem all_mk {l : PySem.W.OpenLaw} {w : World} {K : PySem.W.Frag} {h : Heap} {mg : Str → Option Value} {fa C : Addr} (X : K.In h) (G : h.Ns mainGlobals mg) (hfa : mg "law" = some (.ref fa))
    (z_len : PySem.W.nsIn K mainGlobals "len" = some none)
    (z_isinstance : PySem.W.nsIn K mainGlobals "isinstance" = some none)
    (z_tuple : PySem.W.nsIn K mainGlobals "tuple" = some none)
    (z_list : PySem.W.nsIn K mainGlobals "list" = some none)
    (z_reversed : PySem.W.nsIn K mainGlobals "reversed" = some none)
    (z_range : PySem.W.nsIn K mainGlobals "range" = some none)
    (z_int : PySem.W.nsIn K mainGlobals "int" = some none)
    (z_all : PySem.W.nsIn K mainGlobals "all" = some none)
    (aC : PySem.W.nsIn K mainGlobals "Sorts" = some (some (.ref C))) (cC : Cls K C) (mkC : PySem.W.makesIn K C = true) (kcC : PySem.W.keepIn K (.ref C) = true) (nC0 : NoAttr K C "tag_schemes") (nC1 : NoAttr K C "kinds_of_tags") (nC2 : NoAttr K C "tags_of_kinds") (nC3 : NoAttr K C "record_schemes") (nC4 : NoAttr K C "field_schemes")
    (mC0 : MethIs K C "__init__" "Sorts.__init__" (sm 0))
    (mC1 : MethIs K C "take_kind" "Sorts.take_kind" (sm 1))
    (mC2 : MethIs K C "take_record" "Sorts.take_record" (sm 2))
    (mC3 : MethIs K C "tag" "Sorts.tag" (sm 3))
    (mC4 : MethIs K C "field" "Sorts.field" (sm 4))
    (mC5 : MethIs K C "record" "Sorts.record" (sm 5))
    (mC6 : MethIs K C "kind_of" "Sorts.kind_of" (sm 6))
    (mC7 : MethIs K C "tags" "Sorts.tags" (sm 7))
    (v_ARROW : ∃ t, PySem.W.nsIn K mainGlobals "ARROW" = some (some (.str "->" t)))
    (d1 : DefIs K "formed" s_formed)
    (d4 : DefIs K "from_each" s_each)
    (d8 : DefIs K "_law_next" s_next)
    (d9 : DefIs K "_law_drawn" s_drawn)
    (d10 : DefIs K "_law_words" s_words)
    (d11 : DefIs K "_law_new" s_new)
    (d12 : DefIs K "_law_paths" s_paths)
    (d13 : DefIs K "_law_kind" s_kind)
    (d14 : DefIs K "_law_sort" s_sort)
    (d15 : DefIs K "_law_arrow" s_arrow)
    (d16 : DefIs K "_law_row_right" s_right)
    (d17 : DefIs K "law" s_law) :
    ∃ fd : FuncData, (∀ (s : Shared) (v : Value), BindsTo s fd ⟨[v], []⟩ [("_law_script", v)]) ∧ ∀ base : Heap, K.In base → base.Ns mainGlobals mg → FnOk l.prog w K mg base CX0 7 fa fd ["_law_script"] (spLaw K) := by
  obtain ⟨f1, g1, a1, F1⟩ := d1
  obtain ⟨f4, g4, a4, F4⟩ := d4
  obtain ⟨f8, g8, a8, F8⟩ := d8
  obtain ⟨f9, g9, a9, F9⟩ := d9
  obtain ⟨f10, g10, a10, F10⟩ := d10
  obtain ⟨f11, g11, a11, F11⟩ := d11
  obtain ⟨f12, g12, a12, F12⟩ := d12
  obtain ⟨f13, g13, a13, F13⟩ := d13
  obtain ⟨f14, g14, a14, F14⟩ := d14
  obtain ⟨f15, g15, a15, F15⟩ := d15
  obtain ⟨f16, g16, a16, F16⟩ := d16
  obtain ⟨f17, g17, a17, F17⟩ := d17
  have e := hfa.symm.trans (PySem.W.mg_of X G a17)
  cases e
  refine ⟨g17, law_binds F17 fun _ _ _ _ _ _ _ _ => .of_eq rfl, fun base _ _ => ?_⟩
  have m_len := PySem.W.mg_none_of X G z_len
  have m_isinstance := PySem.W.mg_none_of X G z_isinstance
  have m_tuple := PySem.W.mg_none_of X G z_tuple
  have m_list := PySem.W.mg_none_of X G z_list
  have m_reversed := PySem.W.mg_none_of X G z_reversed
  have m_range := PySem.W.mg_none_of X G z_range
  have m_int := PySem.W.mg_none_of X G z_int
  have m_all := PySem.W.mg_none_of X G z_all
  obtain ⟨t_ARROW, v_ARROW⟩ := v_ARROW
  have m_ARROW := PySem.W.mg_of X G v_ARROW
  have mgC := PySem.W.mg_of X G aC
  obtain ⟨fC0, gC0, MC0, FC0⟩ := mC0
  have bC0 := FC0.binds (ps := ["self", "program"]) fun _ _ _ _ _ _ us hl => match us, hl with | [_, _], _ => rfl
  obtain ⟨fC1, gC1, MC1, FC1⟩ := mC1
  have bC1 := FC1.binds (ps := ["self", "declaration"]) fun _ _ _ _ _ _ us hl => match us, hl with | [_, _], _ => rfl
  obtain ⟨fC2, gC2, MC2, FC2⟩ := mC2
  have bC2 := FC2.binds (ps := ["self", "declaration"]) fun _ _ _ _ _ _ us hl => match us, hl with | [_, _], _ => rfl
  obtain ⟨fC3, gC3, MC3, FC3⟩ := mC3
  have bC3 := FC3.binds (ps := ["self", "name"]) fun _ _ _ _ _ _ us hl => match us, hl with | [_, _], _ => rfl
  obtain ⟨fC4, gC4, MC4, FC4⟩ := mC4
  have bC4 := FC4.binds (ps := ["self", "name"]) fun _ _ _ _ _ _ us hl => match us, hl with | [_, _], _ => rfl
  obtain ⟨fC5, gC5, MC5, FC5⟩ := mC5
  have bC5 := FC5.binds (ps := ["self", "name"]) fun _ _ _ _ _ _ us hl => match us, hl with | [_, _], _ => rfl
  obtain ⟨fC6, gC6, MC6, FC6⟩ := mC6
  have bC6 := FC6.binds (ps := ["self", "name"]) fun _ _ _ _ _ _ us hl => match us, hl with | [_, _], _ => rfl
  obtain ⟨fC7, gC7, MC7, FC7⟩ := mC7
  have bC7 := FC7.binds (ps := ["self", "name"]) fun _ _ _ _ _ _ us hl => match us, hl with | [_, _], _ => rfl
  have b1 := F1.binds (ps := ["head", "inner"]) fun _ _ _ _ _ _ us hl => match us, hl with | [_, _], _ => rfl
  have b4 := F4.binds (ps := ["froms", "kind"]) fun _ _ _ _ _ _ us hl => match us, hl with | [_, _], _ => rfl
  have b8 := F8.binds (ps := ["_law_state", "_law_many"]) fun _ _ _ _ _ _ us hl => match us, hl with | [_, _], _ => rfl
  have b9 := F9.binds (ps := ["_law_script"]) fun _ _ _ _ _ _ us hl => match us, hl with | [_], _ => rfl
  have b10 := F10.binds (ps := ["_law_state"]) fun _ _ _ _ _ _ us hl => match us, hl with | [_], _ => rfl
  have b11 := F11.binds (ps := ["_law_words_here", "_law_sort_here", "_law_taken"]) fun _ _ _ _ _ _ us hl => match us, hl with | [_, _, _], _ => rfl
  have b12 := F12.binds (ps := ["_law_there", "_law_what"]) fun _ _ _ _ _ _ us hl => match us, hl with | [_, _], _ => rfl
  have b13 := F13.binds (ps := ["_law_state", "_law_there", "_law_own", "_law_hides", "_law_deep"]) fun _ _ _ _ _ _ us hl => match us, hl with | [_, _, _, _, _], _ => rfl
  have b14 := F14.binds (ps := ["_law_state", "_law_words_here", "_law_there"]) fun _ _ _ _ _ _ us hl => match us, hl with | [_, _, _], _ => rfl
  have b15 := F15.binds (ps := ["_law_kinds", "_law_last"]) fun _ _ _ _ _ _ us hl => match us, hl with | [_, _], _ => rfl
  have b16 := F16.binds (ps := ["_law_sorts", "_law_row"]) fun _ _ _ _ _ _ us hl => match us, hl with | [_, _], _ => rfl
  have Tx : TxS K mg C := ⟨cC, nC0, nC1, nC2, nC3, nC4, mgC⟩
  have H1 : Has l.prog w K mg base 1 "formed" ["head", "inner"] spFormed := ⟨f1, g1, ok_formed F1 m_len m_tuple, b1, F1.kp, PySem.W.mg_of X G a1⟩
  have H4 : Has l.prog w K mg base 1 "from_each" ["froms", "kind"] spEach := ⟨f4, g4, ok_each F4 m_reversed m_ARROW, b4, F4.kp, PySem.W.mg_of X G a4⟩
  have H8 : Has l.prog w K mg base 1 "_law_next" ["_law_state", "_law_many"] spNext := ⟨f8, g8, ok_next F8 m_len, b8, F8.kp, PySem.W.mg_of X G a8⟩
  have H9 : Has l.prog w K mg base 1 "_law_drawn" ["_law_script"] (spDrawn K) := ⟨f9, g9, ok_drawn F9 m_len, b9, F9.kp, PySem.W.mg_of X G a9⟩
  have H10 : Has l.prog w K mg base 2 "_law_words" ["_law_state"] spWords := ⟨f10, g10, ok_words F10 m_len m_range H8, b10, F10.kp, PySem.W.mg_of X G a10⟩
  have H11 : Has l.prog w K mg base 1 "_law_new" ["_law_words_here", "_law_sort_here", "_law_taken"] spNew := ⟨f11, g11, ok_new F11, b11, F11.kp, PySem.W.mg_of X G a11⟩
  have H12 : Has l.prog w K mg base 1 "_law_paths" ["_law_there", "_law_what"] spPaths := ⟨f12, g12, ok_paths F12, b12, F12.kp, PySem.W.mg_of X G a12⟩
  have H13 := kind_all (P := l.prog) (w := w) (base := base) F13 b13 (PySem.W.mg_of X G a13) m_len m_range m_tuple H8 H12 3
  have H14 : Has l.prog w K mg base 5 "_law_sort" ["_law_state", "_law_words_here", "_law_there"] spSort := ⟨f14, g14, ok_sort F14 m_len m_range m_tuple m_int H8 H11 H13, b14, F14.kp, PySem.W.mg_of X G a14⟩
  have H15 := arrow_all (P := l.prog) (w := w) (base := base) F15 b15 (PySem.W.mg_of X G a15) m_len 5
  have G1 := ok_g1 (P := l.prog) (w := w) (base := base) FC3 Tx
  have G5 := ok_g5 (P := l.prog) (w := w) (base := base) FC4 Tx
  have G4 := ok_g4 (P := l.prog) (w := w) (base := base) FC5 Tx
  have G2 := ok_g2 (P := l.prog) (w := w) (base := base) FC6 Tx
  have G3 := ok_tags (P := l.prog) (w := w) (base := base) FC7 Tx m_list
  have GK := ok_tk (P := l.prog) (w := w) (base := base) FC1 Tx H1 H4
  have GR := ok_tr (P := l.prog) (w := w) (base := base) FC2 Tx m_ARROW H1 H4
  have Gi := ok_init (P := l.prog) (w := w) (base := base) FC0 Tx GK bC1 MC1 GR bC2 MC2
  have H16 : Has l.prog w K mg base 6 "_law_row_right" ["_law_sorts", "_law_row"] (spRight C) := ⟨f16, g16, ok_right F16 Tx m_len m_all m_isinstance m_list H15 G1 bC3 MC3 G5 bC4 MC4 G4 bC5 MC5 G2 bC6 MC6 G3 bC7 MC7, b16, F16.kp, PySem.W.mg_of X G a16⟩
  exact ok_law F17 m_range m_tuple m_int H8 H9 H10 H14 H16 ⟨mkC, MC0.at_, MC0.fn, kcC⟩ Gi bC0 mgC
theorem walk {l : PySem.W.OpenLaw} {q : Program} {loose : List Str} {XP : (Str → Option Value) → Heap → Prop} {YP : World → Heap → Prop} {d : DefRec} {K : Params → PySem.W.Frag} (hn : l.most = some 63) (hdf : d.params.defaults = [])
    (hY : ∀ (w : World) (h : Heap), YP w h → (K w.params).In h)
    (F : ∀ (w : World) (mg : Str → Option Value) (fa : Addr) (h : Heap), (K w.params).In h → h.Ns mainGlobals mg → mg d.name = some (.ref fa) →
      ∃ fd : FuncData, (∀ (s : Shared) (u : Value), BindsTo s fd ⟨[u], []⟩ [("_law_script", u)]) ∧ ∀ base : Heap, (K w.params).In base → base.Ns mainGlobals mg → FnOk l.prog w (K w.params) mg base CX0 7 fa fd ["_law_script"] (spLaw (K w.params))) :
    PySem.W.WalkO q loose XP YP l.row.toRowW d [] (fun f vs => PySem.call f vs) :=
  L2.walk_of (n := 63) (k := 7) (x := "_law_script") (CX := fun _ => CX0) (sp := fun w => spLaw (K w.params)) hn (by decide) hdf ⟨rfl, by decide, by decide⟩ hY F (fun _ _ a ns hl _ hS => ⟨a, ns, rfl, hS, hl, fun _ => rfl⟩) fun _ _ _ _ _ z => z
end Fw

set_option Elab.async false
open PySem PySem.W PyProof.Rows
set_option maxRecDepth 100000 in
set_option maxHeartbeats 0 in
theorem PySem.Challenge.cw_facework_k14_schemes_of_sorts_holds : PySem.Challenge.rw_facework_k14_schemes_of_sorts.Holds := by
  w_on; o_law; k_head; (case hw => w_witness2)
  k_fill
  refine Fw.walk (l := PySem.Challenge.rw_facework_k14_schemes_of_sorts) rfl rfl (fun w h Y => PySem.W.kIn_of Y) ?F
  case F =>
    intro w mg fa h KX G hmg
    refine' Fw.all_mk KX G hmg ?z_len ?z_isinstance ?z_tuple ?z_list ?z_reversed ?z_range ?z_int ?z_all ?aC ?cC ?mkC ?kcC ?nC0 ?nC1 ?nC2 ?nC3 ?nC4 ?mC0 ?mC1 ?mC2 ?mC3 ?mC4 ?mC5 ?mC6 ?mC7 ?v_ARROW ?d1 ?d4 ?d8 ?d9 ?d10 ?d11 ?d12 ?d13 ?d14 ?d15 ?d16 ?d17
    (case z_len => k_is)
    (case z_isinstance => k_is)
    (case z_tuple => k_is)
    (case z_list => k_is)
    (case z_reversed => k_is)
    (case z_range => k_is)
    (case z_int => k_is)
    (case z_all => k_is)
    (case aC => k_is)
    (case cC => refine' Fw.cls_mk ?pg ?hd ?po ?sa; (case pg => k_is); (case hd => k_is); (case po => k_is); (case sa => k_is))
    (case mkC => k_is)
    (case kcC => k_is)
    (case nC0 => refine' Fw.noat_mk ?n; (case n => k_is))
    (case nC1 => refine' Fw.noat_mk ?n; (case n => k_is))
    (case nC2 => refine' Fw.noat_mk ?n; (case n => k_is))
    (case nC3 => refine' Fw.noat_mk ?n; (case n => k_is))
    (case nC4 => refine' Fw.noat_mk ?n; (case n => k_is))
    (case mC0 => refine' Fw.meth_mk ?a ?i ?l ?c ?k; (case a => k_is); (case i => k_is); (case l => k_is); (case c => k_is); (case k => k_is))
    (case mC1 => refine' Fw.meth_mk ?a ?i ?l ?c ?k; (case a => k_is); (case i => k_is); (case l => k_is); (case c => k_is); (case k => k_is))
    (case mC2 => refine' Fw.meth_mk ?a ?i ?l ?c ?k; (case a => k_is); (case i => k_is); (case l => k_is); (case c => k_is); (case k => k_is))
    (case mC3 => refine' Fw.meth_mk ?a ?i ?l ?c ?k; (case a => k_is); (case i => k_is); (case l => k_is); (case c => k_is); (case k => k_is))
    (case mC4 => refine' Fw.meth_mk ?a ?i ?l ?c ?k; (case a => k_is); (case i => k_is); (case l => k_is); (case c => k_is); (case k => k_is))
    (case mC5 => refine' Fw.meth_mk ?a ?i ?l ?c ?k; (case a => k_is); (case i => k_is); (case l => k_is); (case c => k_is); (case k => k_is))
    (case mC6 => refine' Fw.meth_mk ?a ?i ?l ?c ?k; (case a => k_is); (case i => k_is); (case l => k_is); (case c => k_is); (case k => k_is))
    (case mC7 => refine' Fw.meth_mk ?a ?i ?l ?c ?k; (case a => k_is); (case i => k_is); (case l => k_is); (case c => k_is); (case k => k_is))
    (case v_ARROW => refine' Fw.val_str ?a ?e; (case a => k_is); (case e => decide +kernel))
    (case d1 => refine' Fw.def_mk ?a ?l ?c ?k; (case a => k_is); (case l => k_is); (case c => k_is); (case k => k_is))
    (case d4 => refine' Fw.def_mk ?a ?l ?c ?k; (case a => k_is); (case l => k_is); (case c => k_is); (case k => k_is))
    (case d8 => refine' Fw.def_mk ?a ?l ?c ?k; (case a => k_is); (case l => k_is); (case c => k_is); (case k => k_is))
    (case d9 => refine' Fw.def_mk ?a ?l ?c ?k; (case a => k_is); (case l => k_is); (case c => k_is); (case k => k_is))
    (case d10 => refine' Fw.def_mk ?a ?l ?c ?k; (case a => k_is); (case l => k_is); (case c => k_is); (case k => k_is))
    (case d11 => refine' Fw.def_mk ?a ?l ?c ?k; (case a => k_is); (case l => k_is); (case c => k_is); (case k => k_is))
    (case d12 => refine' Fw.def_mk ?a ?l ?c ?k; (case a => k_is); (case l => k_is); (case c => k_is); (case k => k_is))
    (case d13 => refine' Fw.def_mk ?a ?l ?c ?k; (case a => k_is); (case l => k_is); (case c => k_is); (case k => k_is))
    (case d14 => refine' Fw.def_mk ?a ?l ?c ?k; (case a => k_is); (case l => k_is); (case c => k_is); (case k => k_is))
    (case d15 => refine' Fw.def_mk ?a ?l ?c ?k; (case a => k_is); (case l => k_is); (case c => k_is); (case k => k_is))
    (case d16 => refine' Fw.def_mk ?a ?l ?c ?k; (case a => k_is); (case l => k_is); (case c => k_is); (case k => k_is))
    (case d17 => refine' Fw.def_mk ?a ?l ?c ?k; (case a => k_is); (case l => k_is); (case c => k_is); (case k => k_is))
#print axioms PySem.Challenge.cw_facework_k14_schemes_of_sorts_holds
