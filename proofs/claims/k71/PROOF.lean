import PyProof.Rows.All
import Wide.All
import OpenK.AllK
import Wide.FinOn
import Lean
import PyProof.EqAt
import PyProof.EqKinds
import PyProof.TupleCall
import PyProof.ZipIter
import PyProof.Rows.Range3
import PyProof.EnumFor
import PyProof.SumWalk
import PyProof.EnumMake
import PyProof.EnumStmt
import OpenK.KOwn
import KE.KIsAll
import PyProof.NsDelKeeps
import KE.KSortTup
import KE.KSortAsk
import PySem.Challenge.RW_fractionroads_k71_told_by_forms
set_option Elab.async false
set_option linter.all false
set_option maxRecDepth 100000
/-! THE HAND LAYER, for ints, bools, texts, own classes, LISTS and tuples (index, slices, in, append, pop ..), calls, loops. Paste it whole ahead of your own text; what your proof does not reach may be deleted. -/
namespace L2
open PySem PySem.Spec PyProof.Rows

/-- a key: an int or a str -/
abbrev Key := Sum Int Str
def keyIs : Key → Value → Bool
  | .inl k, v => Value.isInt k v
  | .inr x, v => Value.isStrOf x v
def keyH (w : World) : Key → Int
  | .inl k => hashInt k
  | .inr x => hashStr w x
theorem keyIs_shape : ∀ {k : Key} {v : Value}, keyIs k v = true → (∃ i t, k = Sum.inl i ∧ v = Value.int i t) ∨ (∃ x t, k = Sum.inr x ∧ v = Value.str x t)
  | .inl i, v, h => by
    obtain ⟨t, e⟩ := Value.isInt_shape (k := i) (v := v) h
    exact .inl ⟨i, t, rfl, e⟩
  | .inr x, v, h => by
    obtain ⟨t, e⟩ := Value.isStrOf_shape (x := x) (v := v) h
    exact .inr ⟨x, t, rfl, e⟩
theorem keyIs_int (i : Int) (t : Tok) : keyIs (.inl i) (.int i t) = true := by simp [keyIs, Value.isInt]
theorem keyIs_str (x : Str) (t : Tok) : keyIs (.inr x) (.str x t) = true := by simp [keyIs, Value.isStrOf]
theorem key_ll (a b : Int) : decide ((Sum.inl a : Key) = Sum.inl b) = (a == b) := by
  by_cases e : a = b
  · subst e; simp
  · have h : ¬ (Sum.inl a : Key) = Sum.inl b := fun q => e (Sum.inl.inj q)
    rw [decide_eq_false h]
    exact (beq_eq_false_iff_ne.mpr e).symm
theorem key_rr (a b : Str) : decide ((Sum.inr a : Key) = Sum.inr b) = decide (a = b) := by
  by_cases e : a = b
  · subst e; simp
  · have h : ¬ (Sum.inr a : Key) = Sum.inr b := fun q => e (Sum.inr.inj q)
    rw [decide_eq_false h, decide_eq_false e]
theorem key_lr (a : Int) (b : Str) : decide ((Sum.inl a : Key) = Sum.inr b) = false := decide_eq_false (fun q => nomatch q)
theorem key_rl (a : Str) (b : Int) : decide ((Sum.inr a : Key) = Sum.inl b) = false := decide_eq_false (fun q => nomatch q)

def mixKind (prog : Program) (w : World) : PySem.KeyKind prog w Key where
  is := keyIs
  hash := keyH w
  inj := fun v a b ha hb => by
    rcases keyIs_shape ha with ⟨i, t, rfl, rfl⟩ | ⟨x, t, rfl, rfl⟩
    · rcases keyIs_shape hb with ⟨j, u, rfl, e⟩ | ⟨y, u, rfl, e⟩
      · injection e with e1 _; rw [e1]
      · exact nomatch e
    · rcases keyIs_shape hb with ⟨j, u, rfl, e⟩ | ⟨y, u, rfl, e⟩
      · exact nomatch e
      · injection e with e1 _; rw [e1]
  byValue := fun k v h => by
    rcases keyIs_shape h with ⟨i, t, rfl, rfl⟩ | ⟨x, t, rfl, rfl⟩ <;> rfl
  pyHash := fun hv h => by
    rcases keyIs_shape hv with ⟨i, t, rfl, rfl⟩ | ⟨x, t, rfl, rfl⟩
    · exact wpAny_pyHash_int h
    · exact wpAny_pyHash_str h
  eqBool := fun hu hv h => by
    rcases keyIs_shape hu with ⟨i, t, rfl, rfl⟩ | ⟨x, t, rfl, rfl⟩
    · rcases keyIs_shape hv with ⟨j, u, rfl, rfl⟩ | ⟨y, u, rfl, rfl⟩
      · rw [key_ll] at h; exact wpAny_eqBool_int h
      · rw [key_lr] at h; exact SeqAt.EqAt.int_str i t y u _ _ _ _ h
    · rcases keyIs_shape hv with ⟨j, u, rfl, rfl⟩ | ⟨y, u, rfl, rfl⟩
      · rw [key_rl] at h; exact SeqAt.EqAt.str_int x t j u _ _ _ _ h
      · rw [key_rr] at h; exact wpAny_eqBool_str h
  «strs» := fun k x t v h => by
    rcases keyIs_shape h with ⟨i, u, rfl, e⟩ | ⟨y, u, rfl, e⟩
    · exact nomatch e
    · injection e with e1 _
      subst e1
      cases v <;> rfl

theorem mixKind_int (prog : Program) (w : World) (i : Int) (t : Tok) : (mixKind prog w).is (.inl i) (.int i t) = true := keyIs_int i t
theorem mixKind_str (prog : Program) (w : World) (x : Str) (t : Tok) : (mixKind prog w).is (.inr x) (.str x t) = true := keyIs_str x t
end L2

namespace L2
open PySem PySem.Spec PyProof.Rows

/-- a value, without the heap -/
inductive V where
  | non | bl (b : Bool) | int (i : Int) | str (x : Str) | byt (b : Array UInt8) | flt (b : UInt64) | ref (a : Addr) | ty (n : String)
  deriving DecidableEq

def RelV : V → Value → Prop
  | .non, u => u = Value.none
  | .bl b, u => u = Value.bool b
  | .int i, u => ∃ t, u = Value.int i t
  | .str x, u => ∃ t, u = Value.str x t
  | .byt b, u => ∃ t, u = Value.bytes b t
  | .flt b, u => ∃ t, u = Value.float b t
  | .ref a, u => u = Value.ref a
  | .ty n, u => u = Value.type n

abbrev Vals : List V → List Value → Prop := Paired RelV
theorem Vals.length {xs : List V} {us : List Value} (r : Vals xs us) : xs.length = us.length := Paired.length r
theorem Vals.get : ∀ {xs : List V} {us : List Value} {i : Nat} {x : V}, Vals xs us → xs[i]? = some x → ∃ u, us[i]? = some u ∧ RelV x u
  | _, _, _, _, .nil, e => by simp at e
  | _, _, 0, _, .cons r _, e => by simp at e; subst e; exact ⟨_, rfl, r⟩
  | _, _, i + 1, x, .cons _ t, e => by
    obtain ⟨u, h1, h2⟩ := Vals.get (i := i) (x := x) t (by simpa using e)
    exact ⟨u, by simpa using h1, h2⟩
theorem Vals.set {x : V} {u : Value} (r : RelV x u) : ∀ {xs : List V} {us : List Value} (i : Nat), Vals xs us → Vals (xs.set i x) (us.set i u)
  | _, _, _, .nil => .nil
  | _, _, 0, .cons _ t => .cons r t
  | _, _, i + 1, .cons q t => .cons q (Vals.set r i t)
theorem Vals.append : ∀ {xs ys : List V} {us ws : List Value}, Vals xs us → Vals ys ws → Vals (xs ++ ys) (us ++ ws)
  | _, _, _, _, .nil, s => s
  | _, _, _, _, .cons r t, s => .cons r (Vals.append t s)
theorem Vals.take : ∀ {xs : List V} {us : List Value} (n : Nat), Vals xs us → Vals (xs.take n) (us.take n)
  | _, _, 0, _ => .nil
  | _, _, _ + 1, .nil => .nil
  | _, _, n + 1, .cons r t => .cons r (Vals.take n t)
theorem Vals.drop : ∀ {xs : List V} {us : List Value} (n : Nat), Vals xs us → Vals (xs.drop n) (us.drop n)
  | _, _, 0, r => r
  | _, _, _ + 1, .nil => .nil
  | _, _, n + 1, .cons _ t => Vals.drop n t
theorem Vals.none_of : ∀ {xs : List V} {us : List Value} {i : Nat}, Vals xs us → xs[i]? = none → us[i]? = none := fun {xs us i} r e => by
  have h1 := r.length
  have h2 : xs.length ≤ i := List.getElem?_eq_none_iff.mp e
  exact List.getElem?_eq_none_iff.mpr (by omega)

def RelO : Option V → Option Value → Prop
  | some v, some u => RelV v u
  | none, none => True
  | _, _ => False
def KV {κ : Type} : List (κ × V) → List (κ × Value) → Prop := Paired fun (p : κ × V) (q : κ × Value) => p.1 = q.1 ∧ RelV p.2 q.2

/-- a key of a dict (00_mix): an int or a text -/
def kV : Key → V
  | .inl i => .int i
  | .inr x => .str x

/-- what stands at a tracked address -/
inductive HO where
  /-- a list -/
  | lst (xs : List V)
  /-- a tuple (never changes) -/
  | tup (xs : List V)
  /-- a dict whose keys are ints and texts; one whose keys are tuples of ints and texts (the empty one is both) -/
  | dK (kvs : List (Key × V)) | dT (kvs : List (List Key × V))
  /-- a set of ints: its members, its size -/
  | set (S : Int → Bool) (n : Nat)
  /-- an instance of the class at C, its dict at dx, its attributes -/
  | ins (C dx : Addr) (fs : List (Str × V))
  /-- the dict of the instance at x -/
  | own (x : Addr)
  /-- the dict of an exception -/
  | xd (fs : List (Str × V))
  /-- a bound method, f of x -/
  | met (f x : Addr)
  /-- a range object lo, lo + 1, .. below hi -/
  | rng (lo hi : Int)
  /-- a thing that is known to the object (the script; a dict while a loop walks it): read, never written while it is so -/
  | frz (o : Obj) (u : HO)
  /-- a code object's table -/
  | tbl (ps : Array Value)
  /-- any other thing, by what is true of its one object (a def of one's own: SetO a S n := HO.ext fun h => ..) -/
  | ext (φ : Heap → Prop)

abbrev Hp := Addr → Option HO
def upd (H : Hp) (a : Addr) (o : HO) : Hp := fun b => if b = a then some o else H b
theorem upd_same {H : Hp} {a : Addr} {o : HO} : upd H a o a = some o := by unfold upd; rw [if_pos rfl]
theorem upd_ne {H : Hp} {a b : Addr} {o : HO} (h : b ≠ a) : upd H a o b = H b := by unfold upd; rw [if_neg h]
theorem upd_upd {H : Hp} {a : Addr} {o u : HO} : upd (upd H a o) a u = upd H a u := by
  funext b; unfold upd; split <;> rfl
/-- two objects of different content stand apart -/
theorem ne_of {H : Hp} {a b : Addr} {o u : HO} (h : H a = some o) (h' : H b = some u) (d : o ≠ u) : a ≠ b := by
  intro e; subst e; rw [h] at h'; exact d (Option.some.inj h')
theorem ne_of_none {H : Hp} {a b : Addr} {o : HO} (h : H a = some o) (h' : H b = none) : a ≠ b := by
  intro e; subst e; rw [h] at h'; cases h'

section
variable (P : Program) (w : World)
def ObjOk (H : Hp) (h : Heap) (a : Addr) : HO → Prop
  | .lst xs => xs.length ≤ sizeLine ∧ ∃ (its : List Value) (n : Nat), Vals xs its ∧ h.get? a = some { cls := .type "list", data := .seq its.toArray n }
  | .tup xs => xs.length ≤ sizeLine ∧ ∃ its : List Value, Vals xs its ∧ IsTup h a its.toArray
  | .dK kvs => kvs.length ≤ sizeLine ∧ (a == sysModules) = false ∧ ∃ vs, KV kvs vs ∧ h.DictOf (mixKind P w) a vs
  | .dT kvs => kvs.length ≤ sizeLine ∧ (a == sysModules) = false ∧ ∃ xs : List (List Key × Addr × Value),
      Paired (fun (p : List Key × V) (q : List Key × Addr × Value) => p.1 = q.1 ∧ H q.2.1 = some (.tup (p.1.map kV)) ∧ RelV p.2 q.2.2) kvs xs ∧
      ∃ o es ep, h.get? a = some o ∧ o.ExactDict ∧ o.data = .dict es ep ∧ es.toList = xs.map (entryOfKey (tupleKind (mixKind P w))) ∧ (xs.map (·.1)).Nodup
  | .set S n => h.SetOf (intKind P w) a S n
  | .ins C dx fs => H dx = some (.own a) ∧ fs.length ≤ 1000 ∧ dx ≠ a ∧ h.get? a = some (PySem.W.instObj C dx) ∧
      ∃ mA, h.Ns1 dx mA ∧ (∀ f, RelO (fs.lookup f) (mA f)) ∧ PySem.Within mA (fs.map (·.1))
  | .own _ => ∃ o, h.get? a = some o
  | .xd fs => ∃ mA, h.Ns1 a mA ∧ ∀ f, RelO (fs.lookup f) (mA f)
  | .rng lo hi => ∃ t u v, h.get? a = some { cls := .type "range", data := .fields #[.int lo t, .int hi u, .int 1 v] }
  | .frz o u => h.get? a = some o ∧ ObjOk H h a u
  | .tbl ps => h.get? a = some { cls := .none, data := .fields ps }
  | .met f x => h.get? a = some (PySem.W.methodObj (.ref f) (.ref x))
  | .ext φ => φ h ∧ (∃ o, h.get? a = some o) ∧ ∀ h1 h2 : Heap, φ h1 → (∀ o, h1.get? a = some o → h2.get? a = some o) → φ h2
/-- the abstract heap is held -/
def HOk (H : Hp) (h : Heap) : Prop := ∀ a o, H a = some o → ObjOk P w H h a o
end

section
variable {P : Program} {w : World} {H H' : Hp} {h h' : Heap} {a : Addr} {o : HO}
theorem ObjOk.lt (x : ObjOk P w H h a o) : a < h.objs.size := by
  cases o with
  | lst xs => obtain ⟨_, _, _, _, e⟩ := x; exact Heap.lt_size e
  | tup xs => obtain ⟨_, _, _, p⟩ := x; exact p.lt
  | dK kvs => obtain ⟨_, _, _, _, o, _, _, e, _⟩ := x; exact Heap.lt_size e
  | dT kvs => obtain ⟨_, _, _, _, o, _, _, e, _⟩ := x; exact Heap.lt_size e
  | set S n => obtain ⟨o, _, _, _, e, _⟩ := x; exact Heap.lt_size e
  | ins C dx fs => obtain ⟨_, _, _, e, _⟩ := x; exact Heap.lt_size e
  | own y => obtain ⟨_, e⟩ := x; exact Heap.lt_size e
  | xd fs => obtain ⟨_, ⟨_, _, _, e, _⟩, _⟩ := x; exact Heap.lt_size e
  | rng lo hi => obtain ⟨_, _, _, e⟩ := x; exact Heap.lt_size e
  | frz ob u => obtain ⟨e, _⟩ := x; exact Heap.lt_size e
  | tbl ps => exact Heap.lt_size (show h.get? a = some _ from x)
  | met f y => exact Heap.lt_size (show h.get? a = some _ from x)
  | ext φ => obtain ⟨_, ⟨_, e⟩, _⟩ := x; exact Heap.lt_size e
theorem Paired.mapP {α β : Type} {F G : α → β → Prop} : ∀ {l₁ : List α} {l₂ : List β}, Paired F l₁ l₂ → (∀ a b, F a b → G a b) → Paired G l₁ l₂
  | _, _, .nil, _ => .nil
  | _, _, .cons r t, f => .cons (f _ _ r) (Paired.mapP t f)
/-- what an object's description leans on: its own object, its own dict, the tuples -/
theorem ObjOk.stay (x : ObjOk P w H h a o) (k : ∀ b u, (b = a ∨ H b = some (.own a)) → h.get? b = some u → h'.get? b = some u)
    (ho : ∀ b, H b = some (.own a) → H' b = some (.own a)) (ht : ∀ b xs, H b = some (.tup xs) → H' b = some (.tup xs)) : ObjOk P w H' h' a o := by
  induction o with
  | lst xs => obtain ⟨z, its, n, r, e⟩ := x; exact ⟨z, its, n, r, k _ _ (.inl rfl) e⟩
  | tup xs => obtain ⟨z, its, r, ob, e, c⟩ := x; exact ⟨z, its, r, ob, k _ _ (.inl rfl) e, c⟩
  | dK kvs => obtain ⟨z, y, vs, r, ob, es, ep, e, c⟩ := x; exact ⟨z, y, vs, r, ob, es, ep, k _ _ (.inl rfl) e, c⟩
  | dT kvs =>
    obtain ⟨z, y, xs, r, ob, es, ep, e, c⟩ := x
    exact ⟨z, y, xs, Paired.mapP r fun p q z => ⟨z.1, ht _ _ z.2.1, z.2.2⟩, ob, es, ep, k _ _ (.inl rfl) e, c⟩
  | set S n => obtain ⟨ob, es, ep, t, e, c⟩ := x; exact ⟨ob, es, ep, t, k _ _ (.inl rfl) e, c⟩
  | ins C dx fs =>
    obtain ⟨d, z, ne, e, mA, ⟨od, es, ep, e2, c⟩, r⟩ := x
    exact ⟨ho _ d, z, ne, k _ _ (.inl rfl) e, mA, ⟨od, es, ep, k _ _ (.inr d) e2, c⟩, r⟩
  | own y => obtain ⟨ob, e⟩ := x; exact ⟨ob, k _ _ (.inl rfl) e⟩
  | xd fs => obtain ⟨mA, ⟨od, es, ep, e, c⟩, r⟩ := x; exact ⟨mA, ⟨od, es, ep, k _ _ (.inl rfl) e, c⟩, r⟩
  | rng lo hi => obtain ⟨t, u, v, e⟩ := x; exact ⟨t, u, v, k _ _ (.inl rfl) e⟩
  | frz ob u ih => obtain ⟨e, q⟩ := x; exact ⟨k _ _ (.inl rfl) e, ih q⟩
  | tbl ps =>
    have e : h.get? a = some { cls := .none, data := .fields ps } := x
    show h'.get? a = some { cls := .none, data := .fields ps }
    exact k a _ (.inl rfl) e
  | met f y =>
    have e : h.get? a = some (PySem.W.methodObj (.ref f) (.ref y)) := x
    show h'.get? a = some (PySem.W.methodObj (.ref f) (.ref y))
    exact k a _ (.inl rfl) e
  | ext φ => obtain ⟨p, ⟨o, e⟩, st⟩ := x; exact ⟨st _ _ p fun o q => k _ _ (.inl rfl) q, ⟨o, k _ _ (.inl rfl) e⟩, st⟩
theorem HOk.lt (x : HOk P w H h) (e : H a = some o) : a < h.objs.size := (x a o e).lt
theorem HOk.fresh (x : HOk P w H h) (e : h.objs.size ≤ a) : H a = none := by
  cases q : H a with
  | none => rfl
  | some u => exact absurd (Nat.lt_of_lt_of_le (x.lt q) e) (Nat.lt_irrefl _)
/-- every object of the heap is kept -/
theorem HOk.kept (x : HOk P w H h) (k : ∀ b u, h.get? b = some u → h'.get? b = some u) : HOk P w H h' := fun a o e =>
  (x a o e).stay (fun b u _ q => k b u q) (fun _ q => q) fun _ _ q => q
/-- a new object is laid and tracked -/
theorem HOk.laid (x : HOk P w H h) (k : ∀ b u, h.get? b = some u → h'.get? b = some u) (hp : h.objs.size ≤ a) (new : ObjOk P w (upd H a o) h' a o) : HOk P w (upd H a o) h' := fun b u e => by
  have hn := x.fresh hp
  by_cases hb : b = a
  · subst hb; rw [upd_same] at e; cases e; exact new
  · rw [upd_ne hb] at e
    exact (x b u e).stay (fun c v _ q => k c v q) (fun c q => by rw [upd_ne (ne_of_none q hn)]; exact q) fun c xs q => by rw [upd_ne (ne_of_none q hn)]; exact q
end

/-- what may be read as u: it is u, or a known u -/
def Rd (H : Hp) (a : Addr) (u : HO) : Prop := H a = some u ∨ ∃ o, H a = some (.frz o u)
theorem Rd.of {H : Hp} {a : Addr} {u : HO} (h : H a = some u) : Rd H a u := .inl h
theorem Rd.ok {P : Program} {w : World} {H : Hp} {h : Heap} {a : Addr} {u : HO} (r : Rd H a u) (x : HOk P w H h) : ObjOk P w H h a u := by
  rcases r with r | ⟨o, r⟩
  · exact x a u r
  · obtain ⟨_, q⟩ := x a _ r
    exact q
/-- what may be written -/
def Mut : Option HO → Prop
  | some (.lst _) => True
  | some (.dK _) => True
  | some (.dT _) => True
  | some (.set _ _) => True
  | some (.ins _ _ _) => True
  | some (.ext _) => True
  | _ => False
section
variable {P : Program} {w : World} {H : Hp} {h h' : Heap} {x e : Addr} {o' : HO}
/-- the object at e is changed: x itself, or the dict of the instance x -/
theorem HOk.write (ok : HOk P w H h) (mu : Mut (H x)) (he : e = x ∨ H e = some (.own x)) (k : ∀ b u, b ≠ e → h.get? b = some u → h'.get? b = some u) (heo : ∃ u, h'.get? e = some u)
    (new : ObjOk P w (upd H x o') h' x o') : HOk P w (upd H x o') h' := fun b u q => by
  have nown : ∀ c y, H c = some (.own y) → c ≠ x := fun c y r z => by subst z; rw [r] at mu; exact mu
  have ntup : ∀ c xs, H c = some (.tup xs) → c ≠ x := fun c xs r z => by subst z; rw [r] at mu; exact mu
  by_cases hb : b = x
  · subst hb; rw [upd_same] at q; cases q; exact new
  · rw [upd_ne hb] at q
    by_cases hbe : b = e
    · have q' : H b = some (.own x) := by
        rcases he with z | z
        · exact absurd (hbe.trans z) hb
        · rw [hbe]; exact z
      rw [q] at q'; cases q'
      obtain ⟨v, hv⟩ := heo
      exact ⟨v, by rw [hbe]; exact hv⟩
    · refine (ok b u q).stay (fun c v hc r => k c v ?_ r) (fun c r => by rw [upd_ne (nown c b r)]; exact r) fun c xs r => by rw [upd_ne (ntup c xs r)]; exact r
      rcases hc with rfl | hc
      · exact hbe
      · rintro rfl
        rcases he with z | z
        · exact nown c b hc z
        · rw [hc] at z; cases z; exact hb rfl
end

/-! ### kept unless tracked; of the frames at fs (the callers') the slots may change (an exception that passes writes there); of the records at ex (iterators) nothing is said -/
structure Un (fs ex : List Addr) (H H' : Hp) (h h' : Heap) : Prop where
  keep : ∀ b o, h.get? b = some o → H b = none → b ∉ fs → b ∉ ex → h'.get? b = some o
  slot : ∀ b o, h.get? b = some o → H b = none → b ∈ fs → b ∉ ex → ∃ sl, h'.get? b = some { o with slots := sl }
  free : ∀ b o, h.get? b = some o → H b = none → b ∉ ex → H' b = none
  there : ∀ b o, h.get? b = some o → b ∉ ex → ∃ o', h'.get? b = some o'
  tups : ∀ b xs, H b = some (.tup xs) → H' b = some (.tup xs)
  frzs : ∀ b o u, H b = some (.frz o u) → H' b = some (.frz o u)
  tbls : ∀ b ps, H b = some (.tbl ps) → ∃ more, H' b = some (.tbl (ps ++ more))
section
variable {fs fs' ex ex' : List Addr} {H H1 H2 : Hp} {h h1 h2 h' : Heap} {a x e : Addr} {o : HO}
theorem Un.any (u : Un fs ex H H1 h h1) {b : Addr} {ob : Obj} (q : h.get? b = some ob) (n : H b = none) (hx : b ∉ ex) : ∃ sl, h1.get? b = some { ob with slots := sl } := by
  by_cases hb : b ∈ fs
  · exact u.slot b ob q n hb hx
  · exact ⟨ob.slots, u.keep b ob q n hb hx⟩
theorem Un.trans (a : Un fs ex H H1 h h1) (b : Un fs ex H1 H2 h1 h2) : Un fs ex H H2 h h2 where
  keep := fun c ob q n hc hx => b.keep c ob (a.keep c ob q n hc hx) (a.free c ob q n hx) hc hx
  slot := fun c ob q n hc hx => by
    obtain ⟨sl, e1⟩ := a.slot c ob q n hc hx
    obtain ⟨sl', e2⟩ := b.slot c _ e1 (a.free c ob q n hx) hc hx
    exact ⟨sl', e2⟩
  free := fun c ob q n hx => by
    obtain ⟨o', e1⟩ := a.there c ob q hx
    exact b.free c o' e1 (a.free c ob q n hx) hx
  there := fun c ob q hx => by
    obtain ⟨o', e1⟩ := a.there c ob q hx
    exact b.there c o' e1 hx
  tups := fun c xs q => b.tups c xs (a.tups c xs q)
  frzs := fun c ob xs q => b.frzs c ob xs (a.frzs c ob xs q)
  tbls := fun c ps q => by
    obtain ⟨m1, e1⟩ := a.tbls c ps q
    obtain ⟨m2, e2⟩ := b.tbls c _ e1
    exact ⟨m1 ++ m2, by rw [e2, Array.append_assoc]⟩
theorem Un.kept (k : ∀ b u, h.get? b = some u → h'.get? b = some u) : Un fs ex H H h h' :=
  ⟨fun b ob q _ _ _ => k b ob q, fun b ob q _ _ _ => ⟨ob.slots, k b ob q⟩, fun _ _ _ n _ => n, fun b ob q _ => ⟨ob, k b ob q⟩, fun _ _ q => q, fun _ _ _ q => q, fun _ ps q => ⟨#[], by rw [q]; simp⟩⟩
theorem Un.refl : Un fs ex H H h h := Un.kept fun _ _ q => q
theorem Un.laid (k : ∀ b u, h.get? b = some u → h'.get? b = some u) (hp : h.objs.size ≤ a) (hn : H a = none) : Un fs ex H (upd H a o) h h' where
  keep := fun b u q _ _ _ => k b u q
  slot := fun b u q _ _ _ => ⟨u.slots, k b u q⟩
  free := fun b u q n _ => by rw [upd_ne (Nat.ne_of_lt (Nat.lt_of_lt_of_le (Heap.lt_size q) hp))]; exact n
  there := fun b u q _ => ⟨u, k b u q⟩
  tups := fun b xs q => by rw [upd_ne (ne_of_none q hn)]; exact q
  frzs := fun b u xs q => by rw [upd_ne (ne_of_none q hn)]; exact q
  tbls := fun b ps q => ⟨#[], by rw [upd_ne (ne_of_none q hn), q]; simp⟩
theorem Un.write (mu : Mut (H x)) (he : e = x ∨ H e = some (.own x)) (k : ∀ b u, b ≠ e → h.get? b = some u → h'.get? b = some u) (heo : ∃ u, h'.get? e = some u) : Un fs ex H (upd H x o) h h' := by
  have hx : ∀ b, H b = none → b ≠ x := fun b n z => by subst z; rw [n] at mu; exact mu
  have hb : ∀ b, H b = none → b ≠ e := fun b n z => by
    subst z
    rcases he with r | r
    · exact hx b n r
    · rw [n] at r; cases r
  have hm : ∀ b u, H b = some u → ¬ Mut (some u) → b ≠ x := fun b u q nm z => by subst z; rw [q] at mu; exact nm mu
  refine ⟨fun b u q n _ _ => k b u (hb b n) q, fun b u q n _ _ => ⟨u.slots, k b u (hb b n) q⟩, fun b u q n _ => by rw [upd_ne (hx b n)]; exact n, fun b u q _ => ?_,
    fun b xs q => by rw [upd_ne (hm b _ q fun z => z)]; exact q, fun b u xs q => by rw [upd_ne (hm b _ q fun z => z)]; exact q, fun b ps q => ⟨#[], by rw [upd_ne (hm b _ q fun z => z), q]; simp⟩⟩
  by_cases hbe : b = e
  · subst hbe; exact heo
  · exact ⟨u, k b u hbe q⟩
theorem Un.mono (u : Un fs ex H H1 h h1) (hs : ∀ b ∈ fs, b ∈ fs') (hx : ∀ b ∈ ex, b ∈ ex') : Un fs' ex' H H1 h h1 :=
  ⟨fun b ob q n hb he => u.keep b ob q n (fun z => hb (hs b z)) fun z => he (hx b z), fun _ _ q n _ he => u.any q n fun z => he (hx _ z), fun b ob q n he => u.free b ob q n fun z => he (hx b z), fun b ob q he => u.there b ob q fun z => he (hx b z), u.tups, u.frzs, u.tbls⟩
end

/-! ### the heap without what is tracked -/
def trk (h : Heap) (H : Hp) : List Addr := (List.range h.objs.size).filter fun a => (H a).isSome
def hidT (h : Heap) (H : Hp) : Heap := PySem.W.hideAll h (trk h H)
theorem hidT_size (h : Heap) (H : Hp) : (hidT h H).objs.size = h.objs.size := PySem.W.hideAll_size _ _
theorem hidT_get {h : Heap} {H : Hp} {b : Addr} {o : Obj} (e : h.get? b = some o) (n : H b = none) : (hidT h H).get? b = some o :=
  PySem.W.hideAll_get _ e fun hm => by
    have q : (H b).isSome = true := (List.mem_filter.mp hm).2
    rw [n] at q; simp at q
theorem of_hidT {h : Heap} {H : Hp} {b : Addr} {o : Obj} (e : (hidT h H).get? b = some o) : h.get? b = some o ∧ H b = none := by
  have e' : h.get? b = some o := PySem.W.of_hideAll (trk h H) e
  refine ⟨e', ?_⟩
  cases q : H b with
  | none => rfl
  | some x =>
    have hm : b ∈ trk h H := List.mem_filter.mpr ⟨List.mem_range.mpr (Heap.lt_size e'), by simp [q]⟩
    have z : (hidT h H).get? b = none := PySem.W.hideAll_none (trk h H) hm
    rw [z] at e; cases e

/-! ### OpenK's ledger, filled with every new object but one -/
def allNews (g h : Heap) (L : Addr) : List (Addr × Obj) := (List.range h.objs.size).filterMap fun a => if a = L ∨ (g.get? a).isSome = true then none else (h.get? a).map fun o => (a, o)
theorem mem_allNews {g h : Heap} {L a : Addr} {o : Obj} (h1 : a ≠ L) (h2 : g.get? a = none) (h3 : h.get? a = some o) : (a, o) ∈ allNews g h L :=
  List.mem_filterMap.mpr ⟨a, List.mem_range.mpr (Heap.lt_size h3), by simp [h1, h2, h3]⟩
theorem of_mem_allNews {g h : Heap} {L : Addr} {p : Addr × Obj} (hp : p ∈ allNews g h L) : p.1 ≠ L ∧ g.get? p.1 = none ∧ h.get? p.1 = some p.2 := by
  obtain ⟨b, _, e⟩ := List.mem_filterMap.mp hp
  split at e
  · cases e
  · rename_i hn
    cases q : h.get? b with
    | none => rw [q] at e; simp at e
    | some u =>
      rw [q] at e
      simp only [Option.map_some, Option.some.injEq] at e
      subst e
      refine ⟨fun z => hn (.inl z), ?_, q⟩
      show g.get? b = none
      cases r : g.get? b with
      | none => rfl
      | some v => exact (hn (.inr (by simp [r]))).elim
def rest (g h : Heap) (L d : Addr) : List (Addr × Obj) := (allNews g h L).filter fun p => decide (p.1 ≠ d)
theorem news_all {g h : Heap} {L : Addr} : News g L h (allNews g h L) := fun p hp => let ⟨a, b, c⟩ := of_mem_allNews hp; ⟨c, a, b⟩
end L2

namespace L2
open PySem PySem.Spec PyProof.Rows

/-- the module's facts, over the base: the heap at the law's entry without what is tracked there -/
structure Mod (K : PySem.W.Frag) (mg : Str → Option Value) (base : Heap) : Prop where
  kin : K.In base
  glob : base.Ns mainGlobals mg
  blt : ∃ mb, base.Ns builtinsNs mb ∧ ∀ x : Str, x ≠ "__name__" → mb x = bootBuiltins x
  nolimit : base.NoLimit

/-- the context: a def's body (or a comprehension's block) running. base: fixed through the whole law; s₀, H₀: the entry; outer: the frames whose slots others may change (a def's callers); stack: all frames that run;
   ex: iterators that were made ahead of the entry and are walked here (a comprehension's); fn: the names whose cells were made at the entry (a def: all; a comprehension's block: its own); calm: not within an except suite; pn: pins that every state bears; xe: what is wanted of an exception that leaves the code -/
structure Cx where
  prog : Program
  w : World
  K : PySem.W.Frag
  mg : Str → Option Value
  base : Heap
  A : Around
  N : List Str
  s₀ : Shared
  H₀ : Hp
  env : Env
  outer : List Env
  stack : List Env
  ex : List Addr
  fn : Str → Bool
  calm : Bool
  pn : List (Addr × Obj)
  xe : Value → Shared → Prop
/-- the callers' frames -/
def frs (l : List Env) : List Addr := l.filterMap (·.frame)
abbrev Cx.fs (X : Cx) : List Addr := frs X.outer

def Vis (sc : Scope) (x : Str) : Prop := sc.names.lookup x = some .local ∨ sc.names.lookup x = some .cell ∨ sc.names.lookup x = some .free
def Loc (sc : Scope) (x : Str) : Prop := sc.names.lookup x = some .local ∨ sc.names.lookup x = some .cell
def Look (env : Env) (h : Heap) (m : Str → Option Value) (x : Str) (u : Value) : Prop :=
  (env.kindOf x = some .local ∧ m x = some u) ∨ ((env.kindOf x = some .cell ∨ env.kindOf x = some .free) ∧ ∃ c, env.cells.lookup x = some c ∧ h.IsCell c (some u))

structure Cx.Ok (X : Cx) : Prop where
  mod : Mod X.K X.mg X.base
  kind : X.env.scope.kind = .function
  glob : X.env.globals = mainGlobals
  blt : X.env.builtins = builtinsNs
  above : X.s₀.heap.objs.size ≤ X.env.locals
  inj : ∀ x y c, X.env.cells.lookup x = some c → X.env.cells.lookup y = some c → x = y
  has : ∀ x, (X.env.kindOf x = some .cell ∨ X.env.kindOf x = some .free) → ∃ c, X.env.cells.lookup x = some c
  cab : ∀ x c, X.fn x = true → X.env.cells.lookup x = some c → X.s₀.heap.objs.size ≤ c
  hd : X.calm = true → X.A.handled = none
  frames : X.A.frames = some X.stack
  stk : X.stack = X.outer ∨ (X.stack = X.env :: X.outer ∧ X.env.frame = some X.env.locals)
  exf : ∀ b ∈ X.ex, b ≠ X.env.locals ∧ ∀ x c, X.env.cells.lookup x = some c → c ≠ b
  bs : ∀ b o, X.base.get? b = some o → X.s₀.heap.get? b = some o ∧ X.H₀ b = none
  bsz : X.base.objs.size ≤ X.s₀.heap.objs.size
  noex : ∀ b o, X.base.get? b = some o → b ∉ X.ex
  exfs : ∀ b ∈ X.ex, b ∉ X.fs
  funs : X.s₀.heap.FunFrames X.base X.outer
  frf : ∀ b ∈ X.fs, X.H₀ b = none

structure Inv (X : Cx) (pins : List (Addr × Obj)) (σ : List (Option V)) (H : Hp) (s : Shared) : Prop where
  ok : X.Ok
  os : s.os = X.s₀.os
  bare : AllBare s.gens
  base : Un X.fs X.ex X.H₀ H X.s₀.heap s.heap
  loc : ∃ m, s.heap.Ns X.env.locals m ∧ ∀ (i : Nat) (x : Str) (v : V), X.N[i]? = some x → σ[i]? = some (some v) → Vis X.env.scope x → ∃ u, RelV v u ∧ Look X.env s.heap m x u
  cell : ∀ x c, X.env.cells.lookup x = some c → ∃ v, s.heap.IsCell c v
  free : H X.env.locals = none
  freeC : ∀ x c, X.env.cells.lookup x = some c → H c = none
  pin : ∀ p ∈ X.pn ++ pins, s.heap.get? p.1 = some p.2 ∧ H p.1 = none ∧ p.1 ≠ X.env.locals ∧ p.1 ∉ X.fs ∧ ∀ v, p.2.data ≠ .cell v
  hok : HOk X.prog X.w H s.heap
  len : σ.length = X.N.length

section
variable {X : Cx} {pins : List (Addr × Obj)} {σ : List (Option V)} {H H' : Hp} {s : Shared} {h' : Heap}

theorem Cx.Ok.nofr (ok : X.Ok) {b : Addr} {o : Obj} (e : X.base.get? b = some o) : b ∉ X.fs := fun hb => by
  have := (ok.funs.mem hb).1
  rw [e] at this; cases this
theorem Inv.bs (I : Inv X pins σ H s) : ∀ b o, X.base.get? b = some o → s.heap.get? b = some o ∧ H b = none := fun b o e =>
  ⟨I.base.keep b o (I.ok.bs b o e).1 (I.ok.bs b o e).2 (I.ok.nofr e) (I.ok.noex b o e), I.base.free b o (I.ok.bs b o e).1 (I.ok.bs b o e).2 (I.ok.noex b o e)⟩
theorem Inv.bk (I : Inv X pins σ H s) : ∀ b o, X.base.get? b = some o → s.heap.get? b = some o := fun b o e => (I.bs b o e).1
theorem Inv.mod (I : Inv X pins σ H s) : Mod X.K X.mg X.base := I.ok.mod
theorem Inv.kIn (I : Inv X pins σ H s) : X.K.In s.heap := I.ok.mod.kin.keeps I.bk
theorem Inv.nolimit (I : Inv X pins σ H s) : s.heap.NoLimit := I.ok.mod.nolimit.keeps I.bk
/-- the frame over the base: for OpenK's rules (K.In X.base is I.mod.kin) -/
theorem Inv.fr (I : Inv X pins σ H s) : ∃ m, Fr X.base X.env.locals s.heap m :=
  let ⟨m, hn, _⟩ := I.loc
  ⟨m, hn, I.bk, Nat.le_trans I.ok.bsz I.ok.above⟩
theorem Inv.lt (I : Inv X pins σ H s) : X.env.locals < s.heap.objs.size := let ⟨_, hn, _⟩ := I.loc; hn.lt
theorem Inv.sz (I : Inv X pins σ H s) : X.s₀.heap.objs.size ≤ s.heap.objs.size := Nat.le_trans I.ok.above (Nat.le_of_lt I.lt)
theorem Inv.nofs (I : Inv X pins σ H s) {a : Addr} (h : s.heap.objs.size ≤ a) : a ∉ X.fs := fun hb => by
  obtain ⟨_, o, ho, _⟩ := I.ok.funs.mem hb
  exact absurd (Nat.lt_of_lt_of_le (Heap.lt_size ho) (Nat.le_trans I.sz h)) (Nat.lt_irrefl _)
theorem Inv.cne (I : Inv X pins σ H s) : ∀ x c, X.env.cells.lookup x = some c → c ≠ X.env.locals := fun x c e z => by
  obtain ⟨v, o, ho, hd⟩ := I.cell x c e
  obtain ⟨m, ⟨o', es, ep, ho', hd', _⟩, _⟩ := I.loc
  rw [z, ho'] at ho; cases ho; rw [hd'] at hd; cases hd
theorem Inv.funs (I : Inv X pins σ H s) : s.heap.FunFrames X.base X.outer := by
  have all : ∀ (l : List Env), (∀ b ∈ frs l, b ∈ X.fs) → X.s₀.heap.FunFrames X.base l → s.heap.FunFrames X.base l := by
    intro l
    induction l with
    | nil => intro _ _; trivial
    | cons env r ih =>
      intro hs hl
      obtain ⟨hk, ⟨L, o, hf, hn, ho, hd⟩, hr⟩ := hl
      have hL : L ∈ X.fs := hs L (by unfold frs; rw [List.filterMap_cons, hf]; exact List.mem_cons_self)
      obtain ⟨sl, e⟩ := I.base.slot L o ho (I.ok.frf L hL) hL fun z => I.ok.exfs L z hL
      exact ⟨hk, ⟨L, _, hf, hn, e, hd⟩, ih (fun b hb => hs b (by unfold frs; rw [List.filterMap_cons, hf]; exact List.mem_cons_of_mem _ hb)) hr⟩
  exact all X.outer (fun _ hb => hb) I.ok.funs

/-- the frames that run, for a call -/
theorem Inv.stack (I : Inv X pins σ H s) : s.heap.FunFrames X.base X.stack := by
  rcases I.ok.stk with e | ⟨e, hf⟩
  · rw [e]; exact I.funs
  · rw [e]
    obtain ⟨m, hn, _⟩ := I.loc
    refine .cons (by rw [I.ok.kind]; decide) hf hn ?_ I.funs
    exact Heap.get?_none_of_le (Nat.le_trans I.ok.bsz I.ok.above)
theorem Inv.stkSub (I : Inv X pins σ H s) : ∀ b ∈ frs X.stack, b ∈ X.env.locals :: X.fs := fun b hb => by
  rcases I.ok.stk with e | ⟨e, hf⟩
  · rw [e] at hb; exact List.mem_cons_of_mem _ hb
  · rw [e] at hb
    unfold frs at hb
    rw [List.filterMap_cons, hf] at hb
    exact hb
theorem Inv.stkFree (I : Inv X pins σ H s) : ∀ b ∈ frs X.stack, H b = none := fun b hb => by
  rcases List.mem_cons.mp (I.stkSub b hb) with e | hb
  · rw [e]; exact I.free
  · obtain ⟨_, o, ho, _⟩ := I.ok.funs.mem hb
    exact I.base.free b o ho (I.ok.frf b hb) fun z => I.ok.exfs b z hb

/-- THE STEP: the untracked objects but the frame and the records at ch are kept (the callers' frames up to slots), the frame's map is kept, the new abstract heap is held -/
theorem Inv.step {g' : Array GenState} {t' : Nat} {d' : Drawn} {ch : List Addr} (I : Inv X pins σ H s)
    (hch : ∀ b ∈ ch, (b ∈ X.ex ∨ X.s₀.heap.objs.size ≤ b) ∧ b ≠ X.env.locals ∧ (∀ x c, X.env.cells.lookup x = some c → c ≠ b) ∧ ∀ p ∈ X.pn ++ pins, p.1 ≠ b)
    (keep : ∀ b o, b ≠ X.env.locals → b ∉ X.fs → b ∉ ch → s.heap.get? b = some o → H b = none → h'.get? b = some o)
    (slot : ∀ b o, b ≠ X.env.locals → b ∈ X.fs → b ∉ ch → s.heap.get? b = some o → H b = none → ∃ sl, h'.get? b = some { o with slots := sl }) (free : ∀ b o, b ∉ ch → s.heap.get? b = some o → H b = none → H' b = none)
    (there : ∀ b o, b ∉ ch → s.heap.get? b = some o → ∃ o', h'.get? b = some o')
    (tups : ∀ b xs, H b = some (.tup xs) → H' b = some (.tup xs)) (frzs : ∀ b o u, H b = some (.frz o u) → H' b = some (.frz o u)) (tbls : ∀ b ps, H b = some (.tbl ps) → ∃ more, H' b = some (.tbl (ps ++ more)))
    (ns : ∀ m, s.heap.Ns X.env.locals m → h'.Ns X.env.locals m) (hok : HOk X.prog X.w H' h') (hg : AllBare g') :
    Inv X pins σ H' { s with heap := h', gens := g', drawn := d', toks := t' } := by
  have neL : ∀ b o, X.s₀.heap.get? b = some o → b ≠ X.env.locals := fun b o e => Nat.ne_of_lt (Nat.lt_of_lt_of_le (Heap.lt_size e) I.ok.above)
  have neC : ∀ b o, X.s₀.heap.get? b = some o → b ∉ X.ex → b ∉ ch := fun b o e hx hb => by
    rcases (hch b hb).1 with z | z
    · exact hx z
    · exact absurd (Nat.lt_of_lt_of_le (Heap.lt_size e) z) (Nat.lt_irrefl _)
  have cellK : ∀ x c, X.env.cells.lookup x = some c → ∀ v, s.heap.IsCell c v → h'.IsCell c v := fun x c e v ⟨o, ho, hd⟩ => by
    have nch : c ∉ ch := fun z => (hch c z).2.2.1 x c e rfl
    by_cases hc : c ∈ X.fs
    · obtain ⟨sl, q⟩ := slot c o (I.cne x c e) hc nch ho (I.freeC x c e)
      exact ⟨_, q, hd⟩
    · exact ⟨o, keep c o (I.cne x c e) hc nch ho (I.freeC x c e), hd⟩
  refine ⟨I.ok, I.os, hg, ⟨fun b o e n hb hx => ?_, fun b o e n hb hx => ?_, fun b o e n hx => ?_, fun b o e hx => ?_, fun b xs e => tups b xs (I.base.tups b xs e), fun b o xs e => frzs b o xs (I.base.frzs b o xs e), fun b ps e => ?_⟩, ?_, fun x c e => ?_, ?_, fun x c e => ?_, fun p hp => ?_, hok, I.len⟩
  · exact keep b o (neL b o e) hb (neC b o e hx) (I.base.keep b o e n hb hx) (I.base.free b o e n hx)
  · obtain ⟨sl, e1⟩ := I.base.slot b o e n hb hx
    obtain ⟨sl', e2⟩ := slot b _ (neL b o e) hb (neC b o e hx) e1 (I.base.free b o e n hx)
    exact ⟨sl', e2⟩
  · obtain ⟨o', e1⟩ := I.base.there b o e hx
    exact free b o' (neC b o e hx) e1 (I.base.free b o e n hx)
  · obtain ⟨o', e1⟩ := I.base.there b o e hx
    exact there b o' (neC b o e hx) e1
  · obtain ⟨m1, e1⟩ := I.base.tbls b ps e
    obtain ⟨m2, e2⟩ := tbls b _ e1
    exact ⟨m1 ++ m2, by rw [e2, Array.append_assoc]⟩
  · obtain ⟨m, hn, hl⟩ := I.loc
    refine ⟨m, ns m hn, fun i x v e1 e2 e3 => ?_⟩
    obtain ⟨u, r, l⟩ := hl i x v e1 e2 e3
    refine ⟨u, r, ?_⟩
    rcases l with l | ⟨k, c, e, z⟩
    · exact .inl l
    · exact .inr ⟨k, c, e, cellK x c e _ z⟩
  · obtain ⟨v, z⟩ := I.cell x c e
    exact ⟨v, cellK x c e v z⟩
  · obtain ⟨m, ⟨o, _, _, ho, _⟩, _⟩ := I.loc
    exact free _ o (fun z => (hch _ z).2.1 rfl) ho I.free
  · obtain ⟨v, o, ho, hd⟩ := I.cell x c e
    exact free c o (fun z => (hch c z).2.2.1 x c e rfl) ho (I.freeC x c e)
  · obtain ⟨e, n, ne, nf, d⟩ := I.pin p hp
    have nch : p.1 ∉ ch := fun z => (hch p.1 z).2.2.2 p hp rfl
    exact ⟨keep p.1 p.2 ne nf nch e n, free p.1 p.2 nch e n, ne, nf, d⟩
/-- .. where the frame's own object is kept too -/
theorem Inv.un {t' : Nat} (I : Inv X pins σ H s) (u : Un X.fs [] H H' s.heap h') (hok : HOk X.prog X.w H' h') : Inv X pins σ H' { s with heap := h', toks := t' } := by
  obtain ⟨m, ⟨o, es, ep, ho, r⟩, _⟩ := id I.loc
  obtain ⟨sl, hL⟩ := u.any ho I.free (by simp)
  exact I.step (g' := s.gens) (d' := s.drawn) (ch := []) (fun _ z => nomatch z) (fun b o _ hb _ e n => u.keep b o e n hb (by simp)) (fun b o _ hb _ e n => u.slot b o e n hb (by simp)) (fun b o _ e n => u.free b o e n (by simp)) (fun b o _ e => u.there b o e (by simp)) u.tups u.frzs u.tbls (fun m' hm => by
    obtain ⟨o', es', ep', ho', r'⟩ := hm
    rw [ho] at ho'; cases ho'
    exact ⟨_, es', ep', hL, r'⟩) hok I.bare
/-- behind a call (or a comprehension's block): the slots of this frame may have changed too, the records at ch may have turned -/
theorem Inv.call {g' : Array GenState} {t' : Nat} {d' : Drawn} {ch : List Addr} (I : Inv X pins σ H s) (u : Un (frs X.stack) ch H H' s.heap h') (hok : HOk X.prog X.w H' h') (hg : AllBare g')
    (hch : ∀ b ∈ ch, (b ∈ X.ex ∨ X.s₀.heap.objs.size ≤ b) ∧ b ≠ X.env.locals ∧ (∀ x c, X.env.cells.lookup x = some c → c ≠ b) ∧ ∀ p ∈ X.pn ++ pins, p.1 ≠ b) :
    Inv X pins σ H' { s with heap := h', gens := g', drawn := d', toks := t' } := by
  obtain ⟨m, ⟨o, es, ep, ho, r⟩, _⟩ := id I.loc
  obtain ⟨sl, hL⟩ := u.any ho I.free fun z => (hch _ z).2.1 rfl
  exact I.step (ch := ch) hch (fun b o hL hb hc e n => u.keep b o e n (fun z => (List.mem_cons.mp (I.stkSub b z)).elim hL hb) hc) (fun b o _ _ hc e n => u.any e n hc) (fun b o hc e n => u.free b o e n hc) (fun b o hc e => u.there b o e hc) u.tups u.frzs u.tbls (fun m' hm => by
    obtain ⟨o', es', ep', ho', r'⟩ := hm
    rw [ho] at ho'; cases ho'
    exact ⟨_, es', ep', hL, r'⟩) hok hg
/-- an untracked record of ours (an iterator) has turned -/
theorem Inv.turned {t' : Nat} {it : Addr} (I : Inv X pins σ H s) (k : ∀ b o, b ≠ it → s.heap.get? b = some o → h'.get? b = some o) (hn : H it = none) (hL : it ≠ X.env.locals)
    (h1 : it ∈ X.ex ∨ X.s₀.heap.objs.size ≤ it) (h2 : ∀ x c, X.env.cells.lookup x = some c → c ≠ it) (h3 : ∀ p ∈ X.pn ++ pins, p.1 ≠ it) : Inv X pins σ H { s with heap := h', toks := t' } := by
  have nit : ∀ b u, H b = some u → b ≠ it := fun b u e z => by rw [z, hn] at e; cases e
  refine I.step (g' := s.gens) (d' := s.drawn) (ch := [it]) (fun b hb => ?_) (fun b o _ _ hc e _ => k b o (fun z => hc (by simp [z])) e) (fun b o _ _ hc e _ => ⟨o.slots, k b o (fun z => hc (by simp [z])) e⟩) (fun _ _ _ _ n => n)
    (fun b o hc e => ⟨o, k b o (fun z => hc (by simp [z])) e⟩) (fun _ _ e => e) (fun _ _ _ e => e) (fun b ps e => ⟨#[], by rw [e]; simp⟩) (fun m hm => ?_) (fun b u e => ?_) I.bare
  · have e : b = it := by simpa using hb
    subst e
    exact ⟨h1, hL, h2, h3⟩
  · obtain ⟨o, es, ep, ho, r⟩ := hm
    exact ⟨o, es, ep, k _ o (Ne.symm hL) ho, r⟩
  · refine (I.hok b u e).stay (fun c v hc q => k c v ?_ q) (fun _ q => q) fun _ _ q => q
    rcases hc with z | z
    · rw [z]; exact nit b u e
    · exact nit c _ z
theorem Inv.tok (I : Inv X pins σ H s) (t : Nat) : Inv X pins σ H { s with toks := t } := I.un (h' := s.heap) (t' := t) Un.refl I.hok
/-- all objects kept -/
theorem Inv.kept {t' : Nat} (I : Inv X pins σ H s) (k : ∀ b u, s.heap.get? b = some u → h'.get? b = some u) : Inv X pins σ H { s with heap := h', toks := t' } := I.un (Un.kept k) (I.hok.kept k)
/-- a new object laid and tracked -/
theorem Inv.laid {a : Addr} {o : HO} {t' : Nat} (I : Inv X pins σ H s) (k : ∀ b u, s.heap.get? b = some u → h'.get? b = some u) (hp : s.heap.objs.size ≤ a) (new : ObjOk X.prog X.w (upd H a o) h' a o) :
    Inv X pins σ (upd H a o) { s with heap := h', toks := t' } := I.un (Un.laid k hp (I.hok.fresh hp)) (I.hok.laid k hp new)
/-- an object written -/
theorem Inv.write {x e : Addr} {o : HO} {t' : Nat} (I : Inv X pins σ H s) (mu : Mut (H x)) (he : e = x ∨ H e = some (.own x)) (k : ∀ b u, b ≠ e → s.heap.get? b = some u → h'.get? b = some u) (heo : ∃ u, h'.get? e = some u)
    (new : ObjOk X.prog X.w (upd H x o) h' x o) : Inv X pins σ (upd H x o) { s with heap := h', toks := t' } := I.un (Un.write mu he k heo) (I.hok.write mu he k heo new)
theorem Inv.pins_of {pins' : List (Addr × Obj)} (I : Inv X pins σ H s) (h : ∀ p ∈ pins', s.heap.get? p.1 = some p.2 ∧ H p.1 = none ∧ p.1 ≠ X.env.locals ∧ p.1 ∉ X.fs ∧ ∀ v, p.2.data ≠ .cell v) : Inv X pins' σ H s :=
  ⟨I.ok, I.os, I.bare, I.base, I.loc, I.cell, I.free, I.freeC, fun p hp => (List.mem_append.mp hp).elim (fun z => I.pin p (List.mem_append_left _ z)) (h p), I.hok, I.len⟩

theorem nodup_ix {N : List Str} (hN : N.Nodup) {i j : Nat} {x : Str} (a : N[i]? = some x) (b : N[j]? = some x) : i = j := by
  obtain ⟨h1, e1⟩ := List.getElem?_eq_some_iff.mp a
  obtain ⟨h2, e2⟩ := List.getElem?_eq_some_iff.mp b
  exact (List.getElem_inj hN).mp (e1.trans e2.symm)

/-- a name is stored; what changed -/
theorem store_ok2 {M : Model} {A : Around} {E : Value → Shared → Prop} {i : Nat} {x : Str} {v : V} {u : Value} {Q : Unit → Shared → Prop} (I : Inv X pins σ H s) (hN : X.N.Nodup) (hi : X.N[i]? = some x) (hx : Loc X.env.scope x) (r : RelV v u)
    (h : ∀ s', Inv X pins (σ.set i (some v)) H s' → (∃ a, Heap.SameBut a s.heap s'.heap ∧ (a = X.env.locals ∨ X.env.cells.lookup x = some a)) → Q () s') (hf : X.fn x = true ∨ X.env.scope.names.lookup x = some .local := by first | exact .inl rfl | exact .inr rfl | assumption) : wpAny M A (storeName X.env x u) Q E s := by
  obtain ⟨m, hn, hl⟩ := id I.loc
  have hcls : (X.env.scope.kind == .class || (X.env.scope.kind == .module && X.env.locals != X.env.globals)) = false := by rw [I.ok.kind]; rfl
  have hiσ : i < σ.length := by rw [I.len]; exact (List.getElem?_eq_some_iff.mp hi).1
  have cne := I.cne
  have tracked : ∀ {a : Addr} {h' : Heap}, (∃ o, s.heap.get? a = some o ∧ H a = none) → Heap.SameBut a s.heap h' → HOk X.prog X.w H h' := fun {a h'} ha hs b ob e => by
    obtain ⟨_, _, hfree⟩ := ha
    refine (I.hok b ob e).stay (fun c w' hc q => (hs.2 c ?_).trans q) (fun _ q => q) fun _ _ q => q
    rintro rfl
    rcases hc with rfl | hc
    · rw [hfree] at e; cases e
    · rw [hfree] at hc; cases hc
  rcases hx with hk | hk
  · refine wpAny_storeName_local hk hn (fun h' hn' hs => ?_) hcls
    obtain ⟨oL, _, _, hoL, _⟩ := id hn
    refine h _ ⟨I.ok, I.os, I.bare, ⟨fun b o e n hb hx => ?_, fun b o e n hb hx => ?_, I.base.free, fun b o e hx => ?_, I.base.tups, I.base.frzs, I.base.tbls⟩, ⟨_, hn', fun j y v' e1 e2 e3 => ?_⟩, fun y c e => ?_, I.free, I.freeC, fun p hp => ?_, tracked ⟨oL, hoL, I.free⟩ hs, by simpa using I.len⟩ ⟨_, hs, .inl rfl⟩
    · exact (hs.2 b (Nat.ne_of_lt (Nat.lt_of_lt_of_le (Heap.lt_size e) I.ok.above))).trans (I.base.keep b o e n hb hx)
    · obtain ⟨sl, e1⟩ := I.base.slot b o e n hb hx
      exact ⟨sl, (hs.2 b (Nat.ne_of_lt (Nat.lt_of_lt_of_le (Heap.lt_size e) I.ok.above))).trans e1⟩
    · obtain ⟨o', e1⟩ := I.base.there b o e hx
      exact ⟨o', (hs.2 b (Nat.ne_of_lt (Nat.lt_of_lt_of_le (Heap.lt_size e) I.ok.above))).trans e1⟩
    · by_cases hj : j = i
      · subst hj
        rw [hi] at e1; cases e1
        rw [List.getElem?_set_self hiσ] at e2
        cases e2
        exact ⟨u, r, .inl ⟨hk, by simp⟩⟩
      · rw [List.getElem?_set_ne (Ne.symm hj)] at e2
        obtain ⟨u', r', q⟩ := hl j y v' e1 e2 e3
        refine ⟨u', r', ?_⟩
        rcases q with ⟨k, e⟩ | ⟨k, c, e, z⟩
        · refine .inl ⟨k, ?_⟩
          have : y ≠ x := fun e => hj (nodup_ix hN e1 (e ▸ hi))
          simp [this, e]
        · exact .inr ⟨k, c, e, z.sameBut hs (cne y c e)⟩
    · obtain ⟨w', z⟩ := I.cell y c e
      exact ⟨w', z.sameBut hs (cne y c e)⟩
    · obtain ⟨e, n, ne, nf, d⟩ := I.pin p hp
      exact ⟨(hs.2 p.1 ne).trans e, n, ne, nf, d⟩
  · have hfn : X.fn x = true := by
      rcases hf with z | z
      · exact z
      · rw [z] at hk; cases hk
    obtain ⟨c, hc⟩ := I.ok.has x (.inl hk)
    obtain ⟨w', z⟩ := I.cell x c hc
    refine wpAny_storeName_cell I.ok.kind hk hc z (fun h' hc' hs => ?_)
    obtain ⟨oc, hoc, hocd⟩ := id z
    refine h { s with heap := h' } ⟨I.ok, I.os, I.bare, ⟨fun b o e n hb hx => ?_, fun b o e n hb hx => ?_, I.base.free, fun b o e hx => ?_, I.base.tups, I.base.frzs, I.base.tbls⟩, ⟨m, hn.sameBut hs (Ne.symm (cne x c hc)), fun j y v' e1 e2 e3 => ?_⟩, fun y c' e => ?_, I.free, I.freeC, fun p hp => ?_, tracked ⟨oc, hoc, I.freeC x c hc⟩ hs, by simpa using I.len⟩ ⟨c, hs, .inr hc⟩
    · exact (hs.2 b (Nat.ne_of_lt (Nat.lt_of_lt_of_le (Heap.lt_size e) (I.ok.cab x c hfn hc)))).trans (I.base.keep b o e n hb hx)
    · obtain ⟨sl, e1⟩ := I.base.slot b o e n hb hx
      exact ⟨sl, (hs.2 b (Nat.ne_of_lt (Nat.lt_of_lt_of_le (Heap.lt_size e) (I.ok.cab x c hfn hc)))).trans e1⟩
    · obtain ⟨o', e1⟩ := I.base.there b o e hx
      exact ⟨o', (hs.2 b (Nat.ne_of_lt (Nat.lt_of_lt_of_le (Heap.lt_size e) (I.ok.cab x c hfn hc)))).trans e1⟩
    · by_cases hj : j = i
      · subst hj
        rw [hi] at e1; cases e1
        rw [List.getElem?_set_self hiσ] at e2
        cases e2
        exact ⟨u, r, .inr ⟨.inl hk, c, hc, hc'⟩⟩
      · rw [List.getElem?_set_ne (Ne.symm hj)] at e2
        obtain ⟨u', r', q⟩ := hl j y v' e1 e2 e3
        refine ⟨u', r', ?_⟩
        rcases q with q | ⟨k, c', e, z'⟩
        · exact .inl q
        · refine .inr ⟨k, c', e, z'.sameBut hs ?_⟩
          rintro rfl
          exact hj (nodup_ix hN e1 (I.ok.inj _ _ _ e hc ▸ hi))
    · by_cases hcc : c' = c
      · subst hcc; exact ⟨_, hc'⟩
      · obtain ⟨w2, z2⟩ := I.cell y c' e
        exact ⟨w2, z2.sameBut hs hcc⟩
    · obtain ⟨e, n, ne, nf, d⟩ := I.pin p hp
      refine ⟨(hs.2 p.1 ?_).trans e, n, ne, nf, d⟩
      intro q
      rw [q, hoc] at e
      have q' : oc = p.2 := Option.some.inj e
      exact d w' (by rw [← q']; exact hocd)
theorem store_ok {M : Model} {A : Around} {E : Value → Shared → Prop} {i : Nat} {x : Str} {v : V} {u : Value} {Q : Unit → Shared → Prop} (I : Inv X pins σ H s) (hN : X.N.Nodup) (hi : X.N[i]? = some x) (hx : Loc X.env.scope x) (r : RelV v u)
    (h : ∀ s', Inv X pins (σ.set i (some v)) H s' → Q () s') (hf : X.fn x = true ∨ X.env.scope.names.lookup x = some .local := by first | exact .inl rfl | exact .inr rfl | assumption) : wpAny M A (storeName X.env x u) Q E s :=
  store_ok2 I hN hi hx r (fun s' I' _ => h s' I') hf
/-- behind a call or a block, the state as it is -/
theorem Inv.call' {s' : Shared} {ch : List Addr} (I : Inv X pins σ H s) (ho : s'.os = s.os) (u : Un (frs X.stack) ch H H' s.heap s'.heap) (hok : HOk X.prog X.w H' s'.heap) (hg : AllBare s'.gens)
    (hch : ∀ b ∈ ch, (b ∈ X.ex ∨ X.s₀.heap.objs.size ≤ b) ∧ b ≠ X.env.locals ∧ (∀ x c, X.env.cells.lookup x = some c → c ≠ b) ∧ ∀ p ∈ X.pn ++ pins, p.1 ≠ b) : Inv X pins σ H' s' := by
  obtain ⟨h', g', d', t', o'⟩ := s'
  have e : o' = s.os := ho
  subst e
  exact I.call (g' := g') (t' := t') (d' := d') u hok hg hch
end

/-! ### the judgements -/
/-- an exception: its class, its own dict's address (where it has one), the abstract heap behind it -/
abbrev XK := Value → Option Addr → Hp → Prop
abbrev St := List (Option V)
abbrev VK := V → Hp → Prop
/-- an expression's reading; a test's; an argument list's -/
abbrev TE := St → Hp → VK → Prop
abbrev TT := St → Hp → (Bool → Hp → Prop) → Prop
abbrev TA := St → Hp → (List V → Hp → Prop) → Prop
/-- what is wanted behind a statement -/
structure Ends where
  nx : St → Hp → Prop
  rt : VK
  bk : St → Hp → Prop := fun _ _ => False
  ct : St → Hp → Prop := fun _ _ => False
abbrev TS := Ends → St → Hp → Prop

def EP (X : Cx) (pins : List (Addr × Obj)) (σ : St) (Q : VK) (u : Value) (s' : Shared) : Prop := ∃ v H', Inv X pins σ H' s' ∧ RelV v u ∧ Q v H'
def TP (X : Cx) (pins : List (Addr × Obj)) (σ : St) (Q : Bool → Hp → Prop) (b : Bool) (s' : Shared) : Prop := ∃ H', Inv X pins σ H' s' ∧ Q b H'
def AP (X : Cx) (pins : List (Addr × Obj)) (σ : St) (Q : List V → Hp → Prop) (us : List Value) (s' : Shared) : Prop := ∃ vs H', Inv X pins σ H' s' ∧ Vals vs us ∧ Q vs H'
def SP (X : Cx) (pins : List (Addr × Obj)) (D : Ends) (f : Flow) (s' : Shared) : Prop :=
  match f with
  | .next => ∃ σ' H', Inv X pins σ' H' s' ∧ D.nx σ' H'
  | .brk => ∃ σ' H', Inv X pins σ' H' s' ∧ D.bk σ' H'
  | .cont => ∃ σ' H', Inv X pins σ' H' s' ∧ D.ct σ' H'
  | .ret u => ∃ v σ' H', Inv X pins σ' H' s' ∧ RelV v u ∧ D.rt v H'

def PE (X : Cx) (e : Expr) (t : TE) : Prop :=
  ∀ (pins : List (Addr × Obj)) (s : Shared) (σ : St) (H : Hp) (Q : VK), Inv X pins σ H s → t σ H Q → wpAny (model X.prog X.w) X.A (eval e X.env) (EP X pins σ Q) X.xe s
def PT (X : Cx) (e : Expr) (t : TT) : Prop :=
  ∀ (pins : List (Addr × Obj)) (s : Shared) (σ : St) (H : Hp) (Q : Bool → Hp → Prop), Inv X pins σ H s → t σ H Q → wpAny (model X.prog X.w) X.A (isTrue e X.env (eval e X.env)) (TP X pins σ Q) X.xe s
/-- a test whatever its 'whole' is (and, or) -/
def PW (X : Cx) (e : Expr) (t : TT) : Prop :=
  ∀ (whole : Sem Value) (pins : List (Addr × Obj)) (s : Shared) (σ : St) (H : Hp) (Q : Bool → Hp → Prop), Inv X pins σ H s → t σ H Q → wpAny (model X.prog X.w) X.A (isTrue e X.env whole) (TP X pins σ Q) X.xe s
theorem PW.pt {X : Cx} {e : Expr} {t : TT} (h : PW X e t) : PT X e t := h _
/-- an argument list (no star), from the left -/
def PA (X : Cx) (es : List Expr) (t : TA) : Prop :=
  ∀ (pos : Pos) (pins : List (Addr × Obj)) (s : Shared) (σ : St) (H : Hp) (Q : List V → Hp → Prop), Inv X pins σ H s → t σ H Q → wpAny (model X.prog X.w) X.A (spliced (backTo pos (starEach es X.env))) (AP X pins σ Q) X.xe s
def PS (X : Cx) (st : Stmt) (t : TS) : Prop :=
  ∀ (pins : List (Addr × Obj)) (s : Shared) (σ : St) (H : Hp) (D : Ends), Inv X pins σ H s → t D σ H → wpAny (model X.prog X.w) X.A (exec st X.env) (SP X pins D) X.xe s
def PSs (X : Cx) (st : List Stmt) (t : TS) : Prop :=
  ∀ (pins : List (Addr × Obj)) (s : Shared) (σ : St) (H : Hp) (D : Ends), Inv X pins σ H s → t D σ H → wpAny (model X.prog X.w) X.A (execs st X.env) (SP X pins D) X.xe s
/-- weaken the end -/
theorem thn {α : Type} {t : Sem α} {Q Q' : α → Shared → Prop} {M : Model} {A : Around} {E : Value → Shared → Prop} {s : Shared} (h : wpAny M A t Q E s) (hQ : ∀ a s, Q a s → Q' a s) : wpAny M A t Q' E s := wpAny_mono h hQ fun _ _ x => x
end L2

namespace L2
open PySem PySem.Spec PyProof.Rows
section
variable {X : Cx}

/-! ### names and constants -/
def tVar (i : Nat) : TE := fun σ H Q => ∃ v, σ[i]? = some (some v) ∧ Q v H
def tC (v : V) : TE := fun _ H Q => Q v H
theorem pe_var {i : Nat} {x : Str} {pos : Pos} (hN : X.N[i]? = some x) (hv : Vis X.env.scope x) (hd : (x == ("__debug__" : Str)) = false := by decide) (hcd : (x == ("__classdict__" : Str)) = false := by decide) : PE X (.Name x pos) (tVar i) := by
  intro pins s σ H Q I h
  obtain ⟨v, e, h⟩ := h
  obtain ⟨m, hn, hl⟩ := I.loc
  obtain ⟨u, r, l⟩ := hl i x v hN e hv
  have fin : EP X pins σ Q u s := ⟨v, H, I, r, h⟩
  rcases l with ⟨hk, hm⟩ | ⟨hk, c, hc, hcell⟩
  · exact wpAny_Name (wpAny_loadName_local I.ok.kind hk hn hm fin) hd
  · rcases hk with hk | hk
    · exact wpAny_Name (wpAny_loadName_cell I.ok.kind hk hc hcell fin) hd
    · exact wpAny_Name (wpAny_loadName_free I.ok.kind hk hc hcell fin hcd) hd
theorem pe_int {i j pos} : PE X (.Constant (.int i) j pos) (tC (.int i)) := fun _ _ _ H _ I h => wpAny_Constant_int ⟨.int i, H, I.tok _, ⟨_, rfl⟩, h⟩
theorem pe_bl {b j pos} : PE X (.Constant (.bool b) j pos) (tC (.bl b)) := fun _ _ _ H _ I h => Constant_bool ⟨.bl b, H, I, rfl, h⟩
theorem pe_str {x j pos} : PE X (.Constant (.str x) j pos) (tC (.str x)) := fun _ _ _ H _ I h => Calls.Constant_str ⟨.str x, H, I.tok _, ⟨_, rfl⟩, h⟩

/-- a global name of the def -/
def Gl (X : Cx) (x : Str) : Prop := X.env.kindOf x = some .globalImplicit
theorem ld_glob {E : Value → Shared → Prop} {pins : List (Addr × Obj)} {s : Shared} {σ : St} {H : Hp} {x : Str} {u : Value} {pos : Pos} {Q : Value → Shared → Prop} (I : Inv X pins σ H s) (hg : Gl X x) (hm : X.mg x = some u) (h : Q u s)
    (hd : (x == ("__debug__" : Str)) = false := by decide) : wpAny (model X.prog X.w) X.A (eval (.Name x pos) X.env) Q E s :=
  Calls.Name_function_global I.ok.kind hg (Calls.loadGlobal_global (by rw [I.ok.glob]; exact I.mod.glob.keeps I.bk) hm h) hd
theorem ld_blt {E : Value → Shared → Prop} {pins : List (Addr × Obj)} {s : Shared} {σ : St} {H : Hp} {x : Str} {u : Value} {pos : Pos} {Q : Value → Shared → Prop} (I : Inv X pins σ H s) (hg : Gl X x) (hm : X.mg x = none) (hv : bootBuiltins x = some u) (h : Q u s)
    (hn : x ≠ "__name__" := by decide) (hd : (x == ("__debug__" : Str)) = false := by decide) : wpAny (model X.prog X.w) X.A (eval (.Name x pos) X.env) Q E s := by
  obtain ⟨mb, h1, h2⟩ := I.mod.blt
  exact Calls.Name_function_global I.ok.kind hg (Calls.loadGlobal_builtin (by rw [I.ok.glob]; exact I.mod.glob.keeps I.bk) hm (by rw [I.ok.blt]; exact h1.keeps I.bk) ((h2 x hn).trans hv) h) hd
/-- a module's constant, a class, a function, as a value -/
theorem pe_glob {x : Str} {v : V} {u : Value} {pos : Pos} (hg : Gl X x) (hm : X.mg x = some u) (r : RelV v u) (hd : (x == ("__debug__" : Str)) = false := by decide) : PE X (.Name x pos) (tC v) :=
  fun _ _ _ H _ I h => ld_glob I hg hm ⟨v, H, I, r, h⟩ hd
theorem pe_bltn {x : Str} {v : V} {u : Value} {pos : Pos} (hg : Gl X x) (hm : X.mg x = none) (hv : bootBuiltins x = some u) (r : RelV v u) (hn : x ≠ "__name__" := by decide) (hd : (x == ("__debug__" : Str)) = false := by decide) : PE X (.Name x pos) (tC v) :=
  fun _ _ _ H _ I h => ld_blt I hg hm hv ⟨v, H, I, r, h⟩ hn hd

/-! ### arithmetic -/
variable {a b : Expr} {ta tb : TE} {pos : Pos}
/-! ### comparisons -/
def PC (X : Cx) (op : CmpOp) (a b : Expr) (t : TE) : Prop :=
  ∀ (pins : List (Addr × Obj)) (s : Shared) (σ : St) (H : Hp) (Q : VK), Inv X pins σ H s → t σ H Q →
    wpAny (model X.prog X.w) X.A (eval a X.env) (fun v s₁ => wpAny (model X.prog X.w) X.A (eval b X.env) (fun u s₂ => wpAny (model X.prog X.w) X.A (compareOp op v u) (EP X pins σ Q) X.xe s₂) X.xe s₁) X.xe s
theorem nobehind (b : Expr) {op : CmpOp} (h : op ≠ .In) (h2 : op ≠ .NotIn) : behindInMarks op b = false := by
  have e1 : (op == CmpOp.In) = false := by cases op <;> first | rfl | exact absurd rfl h
  have e2 : (op == CmpOp.NotIn) = false := by cases op <;> first | rfl | exact absurd rfl h2
  cases b <;> simp [behindInMarks, e1, e2]
/-- is None -/
def tIsN (ta : TE) : TE := fun σ H Q => ta σ H fun x H1 => Q (.bl (decide (x = .non))) H1
/-- a comparison as a value, as a test -/
def tB (t : TE) : TT := fun σ H Q => t σ H fun x H1 => ∃ c, x = .bl c ∧ Q c H1
theorem pe_cmp {op : CmpOp} {t : TE} (h : PC X op a b t) (h1 : behindInMarks op b = false := by first | exact nobehind _ (by decide) (by decide) | rfl) : PE X (.Compare a [op] [b] pos) t := fun pins s σ H Q I hw => wpAny_Compare1 (h pins s σ H Q I hw) h1
theorem pt_cmp {op : CmpOp} {t : TE} (h : PC X op a b t) (h1 : behindInMarks op b = false := by first | exact nobehind _ (by decide) (by decide) | rfl) : PT X (.Compare a [op] [b] pos) (tB t) := by
  intro pins s σ H Q I hw
  refine wpAny_isTrue_Compare1 (thn (h pins s σ H _ I hw) fun v s1 h1 => thn h1 fun u s2 h2 => thn h2 fun c s3 ⟨x, H1, I1, r1, q1⟩ => ?_) h1
  obtain ⟨d, rfl, q⟩ := q1
  cases r1
  exact wpAny_truthy_bool ⟨H1, I1, q⟩
/-- an expression whose value is a bool, as a test -/
theorem pt_val {e : Expr} {t : TE} (h : PE X e t) (he : ∀ whole, isTrue e X.env whole = (do let v ← whole; standAt e.pos; holding [v] (truthy v)) := by intro _; rfl) : PT X e (tB t) := by
  intro pins s σ H Q I hw
  refine isTrue_plain (thn (h pins s σ H _ I hw) fun v s1 ⟨x, H1, I1, r1, q1⟩ => ?_) (he _)
  obtain ⟨d, rfl, q⟩ := q1
  cases r1
  exact wpAny_truthy_bool ⟨H1, I1, q⟩

/-! ### and, or, not -/
variable {tA tB' : TT} {rest : List Expr}
def tAnd (t u : TT) : TT := fun σ H Q => t σ H fun c H1 => if c = true then u σ H1 Q else Q false H1
def tOr (t u : TT) : TT := fun σ H Q => t σ H fun c H1 => if c = true then Q true H1 else u σ H1 Q
def tNot (t : TT) : TT := fun σ H Q => t σ H fun c H1 => Q (!c) H1
theorem pw_and1 (ha : PT X a tA) : PW X (.BoolOp .And [a] pos) tA := by
  intro wh pins s σ H Q I h
  refine isTrue_and (thn (ha pins s σ H Q I h) fun c s1 e => ?_)
  cases c with
  | true => exact isTrue_and_nil e
  | false => exact e
theorem pw_or1 (ha : PT X a tA) : PW X (.BoolOp .Or [a] pos) tA := by
  intro wh pins s σ H Q I h
  refine isTrue_or (thn (ha pins s σ H Q I h) fun c s1 e => ?_)
  cases c with
  | false => exact isTrue_or_nil e
  | true => exact e
theorem pw_and (ha : PT X a tA) (hb : PW X (.BoolOp .And (b :: rest) pos) tB') : PW X (.BoolOp .And (a :: b :: rest) pos) (tAnd tA tB') := by
  intro wh pins s σ H Q I h
  refine isTrue_and (thn (ha pins s σ H _ I h) fun c s1 ⟨H1, I1, q1⟩ => ?_)
  cases c with
  | true => exact hb wh pins s1 σ H1 Q I1 q1
  | false => exact ⟨H1, I1, q1⟩
theorem pw_or (ha : PT X a tA) (hb : PW X (.BoolOp .Or (b :: rest) pos) tB') : PW X (.BoolOp .Or (a :: b :: rest) pos) (tOr tA tB') := by
  intro wh pins s σ H Q I h
  refine isTrue_or (thn (ha pins s σ H _ I h) fun c s1 ⟨H1, I1, q1⟩ => ?_)
  cases c with
  | true => exact ⟨H1, I1, q1⟩
  | false => exact hb wh pins s1 σ H1 Q I1 q1
theorem pt_not (ha : PT X a tA) : PT X (.UnaryOp .Not a pos) (tNot tA) := by
  intro pins s σ H Q I h
  exact isTrue_not (ha pins s σ H (fun c H1 => Q (!c) H1) I h)
/-- .. as values (bools) -/
def tAndV (ta tb : TE) : TE := fun σ H Q => ta σ H fun x H1 => ∃ c, x = .bl c ∧ if c = true then tb σ H1 Q else Q (.bl false) H1
def tOrV (ta tb : TE) : TE := fun σ H Q => ta σ H fun x H1 => ∃ c, x = .bl c ∧ if c = true then Q (.bl true) H1 else tb σ H1 Q
def tNotV (ta : TE) : TE := fun σ H Q => ta σ H fun x H1 => ∃ c, x = .bl c ∧ Q (.bl (!c)) H1
theorem pe_one {op} {t : TE} (h : PE X a t) : PE X (.BoolOp op [a] pos) t := fun pins s σ H Q I hw => BoolOp_one (h pins s σ H Q I hw)
theorem pe_and (ha : PE X a ta) (hb : PE X (.BoolOp .And (b :: rest) pos) tb) : PE X (.BoolOp .And (a :: b :: rest) pos) (tAndV ta tb) := by
  intro pins s σ H Q I h
  refine BoolOp_and (thn (ha pins s σ H _ I h) fun v s1 ⟨x, H1, I1, r1, q1⟩ => ?_)
  obtain ⟨c, rfl, q1⟩ := q1
  cases r1
  refine wpAny_truthy_bool ?_
  cases c with
  | true => exact hb pins s1 σ H1 Q I1 q1
  | false => exact ⟨.bl false, H1, I1, rfl, q1⟩
theorem pe_or (ha : PE X a ta) (hb : PE X (.BoolOp .Or (b :: rest) pos) tb) : PE X (.BoolOp .Or (a :: b :: rest) pos) (tOrV ta tb) := by
  intro pins s σ H Q I h
  refine BoolOp_or (thn (ha pins s σ H _ I h) fun v s1 ⟨x, H1, I1, r1, q1⟩ => ?_)
  obtain ⟨c, rfl, q1⟩ := q1
  cases r1
  refine wpAny_truthy_bool ?_
  cases c with
  | false => exact hb pins s1 σ H1 Q I1 q1
  | true => exact ⟨.bl true, H1, I1, rfl, q1⟩
theorem pe_not (ha : PE X a ta) : PE X (.UnaryOp .Not a pos) (tNotV ta) := by
  intro pins s σ H Q I h
  refine UnaryOp_ (thn (ha pins s σ H _ I h) fun v s1 ⟨x, H1, I1, r1, q1⟩ => ?_)
  obtain ⟨c, rfl, q1⟩ := q1
  cases r1
  exact not_of (wpAny_truthy_bool ⟨.bl (!c), H1, I1, rfl, q1⟩)
end
end L2

namespace L2
open PySem PySem.Spec PyProof.Rows

/-! ### a list, a tuple that is read: tracked, frozen, or an object of the module -/
def SqL (K : PySem.W.Frag) (H : Hp) (a : Addr) (xs : List V) : Prop :=
  Rd H a (.lst xs) ∨
    ∃ (o : Obj) (its : Array Value) (n : Nat), K.lookup a = some o ∧ o.cls = .type "list" ∧ o.dict = none ∧ o.data = .seq its n ∧ its.size ≤ sizeLine ∧ Vals xs its.toList
def SqT (K : PySem.W.Frag) (H : Hp) (a : Addr) (xs : List V) : Prop :=
  Rd H a (.tup xs) ∨
    ∃ (o : Obj) (its : Array Value) (n : Nat), K.lookup a = some o ∧ o.cls = .type "tuple" ∧ o.data = .seq its n ∧ its.size ≤ sizeLine ∧ Vals xs its.toList
def absV : Value → Option V
  | .none => some .non
  | .bool b => some (.bl b)
  | .int i _ => some (.int i)
  | .str x _ => some (.str x)
  | .bytes b _ => some (.byt b)
  | .float b _ => some (.flt b)
  | .ref a => some (.ref a)
  | .type n => some (.ty n)
  | _ => none
theorem RelV.abs {x : V} {u : Value} (r : RelV x u) : absV u = some x := by
  cases x with
  | non => cases r; rfl
  | bl _ => cases r; rfl
  | int _ => obtain ⟨t, rfl⟩ := r; rfl
  | str _ => obtain ⟨t, rfl⟩ := r; rfl
  | byt _ => obtain ⟨t, rfl⟩ := r; rfl
  | flt _ => obtain ⟨t, rfl⟩ := r; rfl
  | ref _ => cases r; rfl
  | ty _ => cases r; rfl
theorem RelV.inj {x y : V} {u : Value} (r : RelV x u) (q : RelV y u) : x = y := Option.some.inj (r.abs.symm.trans q.abs)
theorem Vals.inj : ∀ {xs ys : List V} {us : List Value}, Vals xs us → Vals ys us → xs = ys
  | _, _, _, .nil, .nil => rfl
  | _, _, _, .cons r t, .cons r' t' => by rw [r.inj r', Vals.inj t t']
section
variable {X : Cx} {pins : List (Addr × Obj)} {σ : St} {H : Hp} {s : Shared} {a : Addr} {xs ys : List V}
theorem SqL.of {K : PySem.W.Frag} (h : H a = some (.lst xs)) : SqL K H a xs := .inl (.inl h)
theorem SqT.of {K : PySem.W.Frag} (h : H a = some (.tup xs)) : SqT K H a xs := .inl (.inl h)
theorem Inv.list (I : Inv X pins σ H s) (h : SqL X.K H a xs) : ∃ its : List Value, Vals xs its ∧ PlainL s.heap a its.toArray ∧ xs.length ≤ sizeLine := by
  rcases h with h | ⟨o, its, n, hk, hc, hd, hs, hz, r⟩
  · obtain ⟨z, its, n, r, e⟩ := h.ok I.hok
    exact ⟨its, r, ⟨_, n, e, rfl, rfl, rfl⟩, z⟩
  · refine ⟨its.toList, r, ⟨o, n, I.kIn a o hk, hc, hd, by simpa using hs⟩, ?_⟩
    have e := r.length
    simp only [Array.length_toList] at e
    omega
theorem Inv.tuple (I : Inv X pins σ H s) (h : SqT X.K H a xs) : ∃ its : List Value, Vals xs its ∧ IsTup s.heap a its.toArray ∧ xs.length ≤ sizeLine := by
  rcases h with h | ⟨o, its, n, hk, hc, hs, hz, r⟩
  · obtain ⟨z, its, r, p⟩ := h.ok I.hok
    exact ⟨its, r, p, z⟩
  · refine ⟨its.toList, r, ⟨o, I.kIn a o hk, hc, n, by simpa using hs⟩, ?_⟩
    have e := r.length
    simp only [Array.length_toList] at e
    omega
theorem Inv.list_inj (I : Inv X pins σ H s) (h : SqL X.K H a xs) (h' : SqL X.K H a ys) : xs = ys := by
  obtain ⟨its, r, ⟨o, n, e, _, _, d⟩, _⟩ := I.list h
  obtain ⟨its', r', ⟨o', n', e', _, _, d'⟩, _⟩ := I.list h'
  rw [e] at e'; cases e'
  rw [d] at d'
  injection d' with d1 _
  have : its = its' := by simpa using congrArg Array.toList d1
  subst this
  exact r.inj r'
theorem Inv.tuple_inj (I : Inv X pins σ H s) (h : SqT X.K H a xs) (h' : SqT X.K H a ys) : xs = ys := by
  obtain ⟨its, r, ⟨o, e, _, n, d⟩, _⟩ := I.tuple h
  obtain ⟨its', r', ⟨o', e', _, n', d'⟩, _⟩ := I.tuple h'
  rw [e] at e'; cases e'
  rw [d] at d'
  injection d' with d1 _
  have : its = its' := by simpa using congrArg Array.toList d1
  subst this
  exact r.inj r'
end

/-! ### another wish about exceptions -/
abbrev Cx.wish (X : Cx) (E : Value → Shared → Prop) : Cx := { X with xe := E }
/-- no exception leaves -/
abbrev Cx.nox (X : Cx) : Cx := X.wish fun _ _ => False
theorem Cx.Ok.wish {X : Cx} (ok : X.Ok) (E : Value → Shared → Prop) : (X.wish E).Ok :=
  ⟨ok.mod, ok.kind, ok.glob, ok.blt, ok.above, ok.inj, ok.has, ok.cab, ok.hd, ok.frames, ok.stk, ok.exf, ok.bs, ok.bsz, ok.noex, ok.exfs, ok.funs, ok.frf⟩
theorem Cx.Ok.unwish {X : Cx} {E : Value → Shared → Prop} (ok : (X.wish E).Ok) : X.Ok :=
  ⟨ok.mod, ok.kind, ok.glob, ok.blt, ok.above, ok.inj, ok.has, ok.cab, ok.hd, ok.frames, ok.stk, ok.exf, ok.bs, ok.bsz, ok.noex, ok.exfs, ok.funs, ok.frf⟩
section
variable {X : Cx} {pins : List (Addr × Obj)} {σ : St} {H : Hp} {s : Shared} {E : Value → Shared → Prop}
theorem Inv.wish (I : Inv X pins σ H s) (E : Value → Shared → Prop) : Inv (X.wish E) pins σ H s := ⟨I.ok.wish E, I.os, I.bare, I.base, I.loc, I.cell, I.free, I.freeC, I.pin, I.hok, I.len⟩
theorem Inv.unwish (I : Inv (X.wish E) pins σ H s) : Inv X pins σ H s := ⟨I.ok.unwish, I.os, I.bare, I.base, I.loc, I.cell, I.free, I.freeC, I.pin, I.hok, I.len⟩
theorem SP.unwish {D : Ends} {f : Flow} {s' : Shared} (h : SP (X.wish E) pins D f s') : SP X pins D f s' := by
  cases f with
  | next => obtain ⟨σ', H', I, q⟩ := h; exact ⟨σ', H', I.unwish, q⟩
  | brk => obtain ⟨σ', H', I, q⟩ := h; exact ⟨σ', H', I.unwish, q⟩
  | cont => obtain ⟨σ', H', I, q⟩ := h; exact ⟨σ', H', I.unwish, q⟩
  | ret u => obtain ⟨v, σ', H', I, r, q⟩ := h; exact ⟨v, σ', H', I.unwish, r, q⟩
theorem PE.nox {e : Expr} {t : TE} (h : PE X.nox e t) : PE X e t := fun pins s σ H Q I hw =>
  wpAny_mono (h pins s σ H Q (I.wish _) hw) (fun _ _ ⟨v, H', I', r, q⟩ => ⟨v, H', I'.unwish, r, q⟩) fun _ _ z => False.elim z
theorem PT.nox {e : Expr} {t : TT} (h : PT X.nox e t) : PT X e t := fun pins s σ H Q I hw =>
  wpAny_mono (h pins s σ H Q (I.wish _) hw) (fun _ _ ⟨H', I', q⟩ => ⟨H', I'.unwish, q⟩) fun _ _ z => False.elim z
theorem PSs.nox {st : List Stmt} {t : TS} (h : PSs X.nox st t) : PSs X st t := fun pins s σ H D I hw =>
  wpAny_mono (h pins s σ H D (I.wish _) hw) (fun _ _ q => q.unwish) fun _ _ z => False.elim z
end

/-! ### blocks and small statements -/
section
variable {X : Cx} {st : Stmt} {rest : List Stmt} {t u : TS} {e : Expr} {te : TE} {pos : Pos}
def tNext : TS := fun D σ H => D.nx σ H
def tSeq (t u : TS) : TS := fun D σ H => t { D with nx := u D } σ H
theorem pss_nil : PSs X [] tNext := fun _ _ σ H _ I h => wpAny_execs_nil ⟨σ, H, I, h⟩
theorem pss_cons (h1 : PS X st t) (h2 : PSs X rest u) : PSs X (st :: rest) (tSeq t u) := by
  intro pins s σ H D I h
  refine wpAny_execs_cons (thn (h1 pins s σ H { D with nx := u D } I h) fun f s1 q => ?_)
  cases f with
  | next =>
    obtain ⟨σ', H', I', q⟩ := q
    exact h2 pins s1 σ' H' D I' q
  | ret v => exact q
  | brk => exact q
  | cont => exact q
theorem pss_one (h1 : PS X st t) : PSs X [st] t := by
  intro pins s σ H D I h
  refine wpAny_execs_cons (thn (h1 pins s σ H D I h) fun f s1 q => ?_)
  cases f with
  | next => exact wpAny_execs_nil q
  | ret v => exact q
  | brk => exact q
  | cont => exact q
/-- in a def's body nothing is shown -/
theorem Inv.quiet {pins : List (Addr × Obj)} {σ : St} {H : Hp} {s : Shared} (I : Inv X pins σ H s) : interactive X.env = false := by simp [interactive, I.ok.kind]
/-- an expression whose value is dropped -/
def tDrop (te : TE) : TS := fun D σ H => te σ H fun _ H1 => D.nx σ H1
theorem ps_expr (he : PE X e te) (hs : swapsWith e none pos.line X.env = pure false := by rfl) : PS X (.Expr e pos) (tDrop te) := by
  intro pins s σ H D I h
  exact wpAny_Expr_any (thn (he pins s σ H _ I h) fun v s1 ⟨x, H1, I1, r1, q1⟩ => ⟨σ, H1, I1, q1⟩) I.quiet hs
def tRet (te : TE) : TS := fun D σ H => te σ H D.rt
theorem ps_ret (he : PE X e te) : PS X (.Return (some e) pos) (tRet te) := by
  intro pins s σ H D I h
  exact wpAny_Return_some (thn (he pins s σ H _ I h) fun v s1 ⟨x, H1, I1, r1, q1⟩ => ⟨x, σ, H1, I1, r1, q1⟩)
def tIfS (c : TT) (t u : TS) : TS := fun D σ H => c σ H fun b H1 => if b = true then t D σ H1 else u D σ H1
theorem ps_if {c : Expr} {a b : List Stmt} {tc : TT} (hc : PT X c tc) (ha : PSs X a t) (hb : PSs X b u) : PS X (.If c a b pos) (tIfS tc t u) := by
  intro pins s σ H D I h
  refine wpAny_If (thn (hc pins s σ H _ I h) fun d s1 ⟨H1, I1, q1⟩ => ?_)
  cases d with
  | true => exact ha pins s1 σ H1 D I1 q1
  | false => exact hb pins s1 σ H1 D I1 q1
end

/-! ### targets -/
abbrev TG := V → St → Hp → (St → Hp → Prop) → Prop
abbrev TGs := List V → St → Hp → (St → Hp → Prop) → Prop
def PG (X : Cx) (target : Expr) (t : TG) : Prop :=
  ∀ (pins : List (Addr × Obj)) (s : Shared) (σ : St) (H : Hp) (v : V) (u : Value) (Q : St → Hp → Prop), Inv X pins σ H s → RelV v u → t v σ H Q →
    wpAny (model X.prog X.w) X.A (assign target X.env u) (fun _ s' => ∃ σ' H', Inv X pins σ' H' s' ∧ Q σ' H') X.xe s
/-- several targets, one after another -/
def PGs (X : Cx) (ts : List Expr) (t : TGs) : Prop :=
  ∀ (pins : List (Addr × Obj)) (s : Shared) (σ : St) (H : Hp) (vs : List V) (us : List Value) (Q : St → Hp → Prop), Inv X pins σ H s → Vals vs us → t vs σ H Q →
    wpAny (model X.prog X.w) X.A (assignInOrder ((assignEach ts X.env).map (·.2)) us) (fun _ s' => ∃ σ' H', Inv X pins σ' H' s' ∧ Q σ' H') X.xe s
/-- a op= b, by values -/
abbrev TIp := V → V → Hp → VK → Prop
def PIp (X : Cx) (op : Operator) (t : TIp) : Prop :=
  ∀ (pins : List (Addr × Obj)) (s : Shared) (σ : St) (H : Hp) (x y : V) (v u : Value) (Q : VK), Inv X pins σ H s → RelV x v → RelV y u → t x y H Q →
    wpAny (model X.prog X.w) X.A (inplaceOp op v u) (EP X pins σ Q) X.xe s
section
variable {X : Cx} {pos : Pos}
def gName (i : Nat) : TG := fun v σ H Q => Q (σ.set i (some v)) H
theorem pg_name {i : Nat} {x : Str} (hN : X.N.Nodup) (hi : X.N[i]? = some x) (hx : Loc X.env.scope x) (hf : X.fn x = true ∨ X.env.scope.names.lookup x = some .local := by first | exact .inl rfl | exact .inr rfl | assumption) : PG X (.Name x pos) (gName i) := by
  intro pins s σ H v u Q I r h
  exact wpAny_assign_Name (store_ok I hN hi hx r (fun s' I' => ⟨_, H, I', h⟩) hf)
def gNil : TGs := fun vs σ H Q => vs = [] ∧ Q σ H
def gCons (t : TG) (u : TGs) : TGs := fun vs σ H Q => ∃ v r, vs = v :: r ∧ t v σ H fun σ' H' => u r σ' H' Q
theorem pgs_nil : PGs X [] gNil := by
  intro pins s σ H vs us Q I r h
  obtain ⟨e, h⟩ := h
  subst e
  cases r
  exact assignInOrder_nil ⟨σ, H, I, h⟩
theorem pgs_cons {e : Expr} {es : List Expr} {t : TG} {u : TGs} (h1 : PG X e t) (h2 : PGs X es u)
    (hs : (assignEach (e :: es) X.env).map (·.2) = assign e X.env :: (assignEach es X.env).map (·.2) := by rfl) : PGs X (e :: es) (gCons t u) := by
  intro pins s σ H vs us Q I r h
  obtain ⟨v, vr, e1, h⟩ := h
  subst e1
  cases r with
  | cons r rr =>
    rw [hs]
    refine assignInOrder_cons (thn (h1 pins s σ H _ _ _ I r h) fun _ s1 ⟨σ1, H1, I1, q1⟩ => ?_)
    exact h2 pins s1 σ1 H1 _ _ Q I1 rr q1
/-- (a, b, ..) = a tuple of that length -/
def gTup (K : PySem.W.Frag) (n : Nat) (t : TGs) : TG := fun v σ H Q => ∃ a xs, v = .ref a ∧ SqT K H a xs ∧ xs.length = n ∧ t xs σ H Q
theorem pg_tup {es : List Expr} {k : Nat} {t : TGs} {n : Nat} (hc : X.calm = true) (h : PGs X es t)
    (hn : (assignEach es X.env).length = n := by rfl) (hst : (assignEach es X.env).findIdx? (·.1) = none := by rfl) : PG X (.Tuple es k pos) (gTup X.K n t) := by
  intro pins s σ H v u Q I r hw
  obtain ⟨a, xs, e1, hq, hl, hw⟩ := hw
  subst e1
  cases r
  obtain ⟨its, rv, ht, hz⟩ := I.tuple hq
  refine assign_Tuple_tuple (I.ok.hd hc) ht (by simp [hn, ← hl, rv.length]) hst fun h' hx => ?_
  have I1 : Inv X pins σ H { s with heap := h' } := I.kept (t' := s.toks) fun b o e => hx b o (Nat.ne_of_lt (Heap.lt_size e)) e
  exact h pins _ σ H xs _ Q I1 (by simpa using rv) hw
/-- target = value -/
def tAsg (te : TE) (g : TG) : TS := fun D σ H => te σ H fun x H1 => g x σ H1 D.nx
theorem ps_asg {tg e : Expr} {te : TE} {g : TG} (he : PE X e te) (hg : PG X tg g) (hs : swapsWithSole [tg] e pos.line X.env = pure false := by rfl) (hw : swappedStores [tg] e X.env = pure none := by rfl)
    (h1 : (assignEach [tg] X.env).map (·.2) = [assign tg X.env] := by rfl) : PS X (.Assign [tg] e pos) (tAsg te g) := by
  intro pins s σ H D I h
  refine wpAny_Assign_stores (thn (he pins s σ H _ I h) fun v s1 ⟨x, H1, I1, r1, q1⟩ => ?_) hs hw
  rw [h1]
  exact thn (hg pins s1 σ H1 x v _ I1 r1 q1) fun _ s2 q => q
/-- name = value -/
theorem ps_set {i : Nat} {x : Str} {e : Expr} {te : TE} {pos' : Pos} (hN : X.N.Nodup) (hi : X.N[i]? = some x) (hx : Loc X.env.scope x) (he : PE X e te) (hs : swapsWith e (some (.Name x pos')) pos.line X.env = pure false := by rfl) (hf : X.fn x = true ∨ X.env.scope.names.lookup x = some .local := by first | exact .inl rfl | exact .inr rfl | assumption) :
    PS X (.Assign [.Name x pos'] e pos) (tAsg te (gName i)) := by
  intro pins s σ H D I h
  refine wpAny_Assign_Name (thn (he pins s σ H _ I h) fun v s1 ⟨y, H1, I1, r1, q1⟩ => ?_) hs
  exact store_ok I1 hN hi hx r1 (fun s2 I2 => ⟨_, H1, I2, q1⟩) hf
/-- a, b = x, y with plain local names: stored from the right; the pair itself is not tracked (the opening rows as in PyProof/Rows/TupAssign.lean:23) -/
def tPar (i j : Nat) (ta : TA) : TS := fun D σ H => ta σ H fun vs H1 => ∃ v w, vs = [v, w] ∧ D.nx ((σ.set i (some v)).set j (some w)) H1
theorem ps_par {i j : Nat} {x y : Str} {a b : Expr} {ta : TA} {px py pt : Pos} {kt k2 pt2} (hc : X.calm = true) (hN : X.N.Nodup) (hi : X.N[i]? = some x) (hj : X.N[j]? = some y) (hij : i ≠ j)
    (hx : X.env.scope.names.lookup x = some .local) (hy : X.env.scope.names.lookup y = some .local) (ha : PA X [a, b] ta)
    (hw : swappedStores [.Tuple [.Name x px, .Name y py] kt pt] (.Tuple [a, b] k2 pt2) X.env = pure (some [x, y]))
    (hs : swapsWithSole [.Tuple [.Name x px, .Name y py] kt pt] (.Tuple [a, b] k2 pt2) pos.line X.env = pure false := by rfl) :
    PS X (.Assign [.Tuple [.Name x px, .Name y py] kt pt] (.Tuple [a, b] k2 pt2) pos) (tPar i j ta) := by
  intro pins s σ H D I h
  rw [exec_Assign_arm]
  refine wpAny_bind (wpAny_standAt ?_)
  rw [hs]
  refine wpAny_bind (wpAny_pure ?_)
  rw [if_neg (by decide)]
  refine wpAny_bind (Tuple_ (thn (ha _ pins s σ H _ I h) fun us s1 ⟨vs, H1, I1, r1, q1⟩ => ?_))
  obtain ⟨v, w, e1, q1⟩ := q1
  subst e1
  obtain ⟨u1, u2, rfl, rv, rw'⟩ : ∃ u1 u2, us = [u1, u2] ∧ RelV v u1 ∧ RelV w u2 := by
    cases r1 with
    | cons p q =>
      cases q with
      | cons p' q' =>
        cases q'
        exact ⟨_, _, rfl, p, p'⟩
  refine wpAny_newObj_type ?_ (by show 2 ≤ sizeLine; decide)
  have I2 : Inv X pins σ H1 { s1 with heap := s1.heap.push { cls := .type "tuple", data := .seq [u1, u2].toArray } } := I1.kept (t' := s1.toks) fun b o e => Heap.get?_push_of_some _ e
  rw [hw]
  refine wpAny_bind (wpAny_pure ?_)
  show wpAny (model X.prog X.w) X.A (do rule "assign.swapped-stores"; let items ← unpackItems (.ref s1.heap.objs.size) 2 none; assignInOrder [fun v => bindName X.env y v, fun v => bindName X.env x v] items.reverse; pure Flow.next) _ _ _
  refine wpAny_bind (wpAny_rule (wpAny_bind (unpackItems_tuple (items := #[u1, u2]) (I.ok.hd hc) (IsTup.new s1.heap _) fun h' hx' => ?_)))
  have I3 := I2.kept (h' := h') (t' := s1.toks) fun b o e => hx' b o (Nat.ne_of_lt (Heap.lt_size e)) e
  show wpAny _ _ (assignInOrder [fun v => bindName X.env y v, fun v => bindName X.env x v] [u2, u1] >>= fun _ => pure Flow.next) _ _ _
  refine wpAny_bind (assignInOrder_cons (wpAny_bindName (store_ok I3 hN hj (.inl hy) rw' (fun s2 I4 => ?_) (.inr hy))))
  refine assignInOrder_cons (wpAny_bindName (store_ok I4 hN hi (.inl hx) rv (fun s3 I5 => assignInOrder_nil (wpAny_pure ?_)) (.inr hx)))
  rw [List.set_comm _ _ (Ne.symm hij)] at I5
  exact ⟨_, H1, I5, q1⟩
/-- name op= e -/
def tAug (i : Nat) (te : TE) (ti : TIp) : TS := fun D σ H => ∃ x, σ[i]? = some (some x) ∧ te σ H fun y H1 => ti x y H1 fun z H2 => D.nx (σ.set i (some z)) H2
theorem ps_aug {i : Nat} {x : Str} {e : Expr} {te : TE} {op : Operator} {ti : TIp} {pos' : Pos} (hN : X.N.Nodup) (hi : X.N[i]? = some x) (hx : Loc X.env.scope x) (he : PE X e te) (ho : PIp X op ti) (hf : X.fn x = true ∨ X.env.scope.names.lookup x = some .local := by first | exact .inl rfl | exact .inr rfl | assumption) :
    PS X (.AugAssign (.Name x pos') op e pos) (tAug i te ti) := by
  intro pins s σ H D I h
  obtain ⟨v, e1, h⟩ := h
  obtain ⟨m, hn, hl⟩ := I.loc
  have vis : Vis X.env.scope x := by rcases hx with k | k; exact .inl k; exact .inr (.inl k)
  obtain ⟨u, r, l⟩ := hl i x v hi e1 vis
  refine wpAny_AugAssign_Name ?_
  have go : wpAny (model X.prog X.w) X.A (eval e X.env) (fun w s₂ => wpAny (model X.prog X.w) X.A (inplaceOp op u w) (fun r s₃ => wpAny (model X.prog X.w) X.A (storeName X.env x r) (fun _ => SP X pins D .next) X.xe s₃) X.xe s₂) X.xe s := by
    refine thn (he pins s σ H _ I h) fun w s1 ⟨y, H1, I1, r1, q1⟩ => ?_
    refine thn (ho pins s1 σ H1 v y u w _ I1 r r1 q1) fun z s2 ⟨zv, H2, I2, r2, q2⟩ => ?_
    exact store_ok I2 hN hi hx r2 (fun s3 I3 => ⟨_, H2, I3, q2⟩) hf
  rcases l with ⟨hk, hm⟩ | ⟨hk, c, hc, hcell⟩
  · exact wpAny_loadName_local I.ok.kind hk hn hm go
  · rcases hk with hk | hk
    · exact wpAny_loadName_cell I.ok.kind hk hc hcell go
    · rcases hx with k | k
      · have : X.env.scope.names.lookup x = some .free := hk
        rw [k] at this; cases this
      · have : X.env.scope.names.lookup x = some .free := hk
        rw [k] at this; cases this
/-- ints -/
def ipI (f : Int → Int → Int) : TIp := fun x y H Q => ∃ i j, x = .int i ∧ y = .int j ∧ Q (.int (f i j)) H
theorem ip_add : PIp X .Add (ipI fun i j => i + j) := by
  intro pins s σ H x y v u Q I r1 r2 h
  obtain ⟨i, j, e1, e2, q⟩ := h
  subst e1; subst e2
  obtain ⟨t, rfl⟩ := r1
  obtain ⟨t', rfl⟩ := r2
  exact iadd_int ⟨.int _, H, I.tok _, ⟨_, rfl⟩, q⟩
end

/-! ### while -/
section
variable {X : Cx} {pos : Pos}
/-- the invariant W with its measure -/
def tWhile (c : TT) (tb : TS) : TS := fun D σ H => ∃ W : Nat → St → Hp → Prop, (∃ m, W m σ H) ∧ ∀ m σ H, W m σ H →
  c σ H fun b H1 => if b = true then ∃ N : St → Hp → Prop, (∀ σ' H', N σ' H' → ∃ m', m' < m ∧ W m' σ' H') ∧ tb { D with nx := N, ct := N, bk := D.nx } σ H1 else D.nx σ H1
theorem ps_while {c : Expr} {body : List Stmt} {tc : TT} {tb : TS} (hp : PassesOwn (model X.prog X.w) X.A X.env X.xe) (hc : PT X c tc) (hb : PSs X body tb) : PS X (.While c body [] pos) (tWhile tc tb) := by
  intro pins s σ H D I h
  obtain ⟨W, ⟨m0, w0⟩, turn⟩ := h
  refine wpAny_While (codeAny_whileLoop (fun n s' => ∃ σ' H', Inv X pins σ' H' s' ∧ W n σ' H') ?_ m0 ⟨σ, H, I, w0⟩)
  rintro n s1 ⟨σ1, H1, I1, w1⟩
  refine wpAny_passesOwn hp (thn (hc pins s1 σ1 H1 _ I1 (turn n σ1 H1 w1)) fun b s2 ⟨H2, I2, q2⟩ => ?_)
  cases b with
  | true =>
    obtain ⟨N, hN, q2⟩ := q2
    rw [if_pos rfl]
    refine wpAny_passesOwn hp (thn (hb pins s2 σ1 H2 _ I2 q2) fun f s3 q3 => ?_)
    cases f with
    | next =>
      obtain ⟨σ3, H3, I3, n3⟩ := q3
      obtain ⟨m', hm, w3⟩ := hN σ3 H3 n3
      exact ⟨m', hm, σ3, H3, I3, w3⟩
    | cont =>
      obtain ⟨σ3, H3, I3, n3⟩ := q3
      obtain ⟨m', hm, w3⟩ := hN σ3 H3 n3
      exact ⟨m', hm, σ3, H3, I3, w3⟩
    | brk => exact q3
    | ret v => exact q3
  | false =>
    rw [if_neg Bool.false_ne_true]
    exact wpAny_execs_nil ⟨σ1, H2, I2, q2⟩
end

/-! ### what a loop or a comprehension walks -/
/-- at turn i: it yields x (the heap may grow), or it stops -/
structure It where
  go : Nat → Hp → Prop
  yld : Nat → Hp → V → Hp → Prop
  stop : Nat → Hp → Prop
/-- the iterator's own objects may turn: they are not the frame's, not pinned, younger than the entry (or a comprehension's own) -/
def FpOk (X : Cx) (pins : List (Addr × Obj)) (H : Hp) (b : Addr) : Prop :=
  H b = none ∧ b ≠ X.env.locals ∧ b ∉ X.fs ∧ (b ∈ X.ex ∨ X.s₀.heap.objs.size ≤ b) ∧ (∀ x c, X.env.cells.lookup x = some c → c ≠ b) ∧ ∀ p ∈ X.pn ++ pins, p.1 ≠ b
theorem Inv.fpOk {X : Cx} {pins : List (Addr × Obj)} {σ : St} {H H' : Hp} {s : Shared} {b : Addr} (I : Inv X pins σ H s) (hb : s.heap.objs.size ≤ b) (hn : H' b = none) : FpOk X pins H' b := by
  refine ⟨hn, Nat.ne_of_gt (Nat.lt_of_lt_of_le I.lt hb), I.nofs hb, .inr (Nat.le_trans I.sz hb), fun x c e z => ?_, fun p hp z => ?_⟩
  · obtain ⟨v, q⟩ := I.cell x c e
    exact absurd (Nat.lt_of_lt_of_le q.lt (by rw [z]; exact hb)) (Nat.lt_irrefl _)
  · exact absurd (Nat.lt_of_lt_of_le (Heap.lt_size (I.pin p hp).1) (by rw [z]; exact hb)) (Nat.lt_irrefl _)
structure Turn (P : Program) (w : World) (K : PySem.W.Frag) (tg : Expr) (J : It) (fp : List Addr) (it : Addr) (tn : Nat → Heap → Prop) : Prop where
  mem : it ∈ fp
  obj : ∀ i h, tn i h → ∀ b ∈ fp, ∃ o, h.get? b = some o ∧ ∀ v, o.data ≠ .cell v
  keep : ∀ i h h', tn i h → (∀ b ∈ fp, ∀ o, h.get? b = some o → h'.get? b = some o) → tn i h'
  item : ∀ (X : Cx), X.prog = P → X.w = w → X.K = K → X.calm = true → ∀ (i : Nat) (pins : List (Addr × Obj)) (s : Shared) (σ : St) (H : Hp) (E : Value → Shared → Prop), Inv X pins σ H s → (∀ b ∈ fp, FpOk X pins H b) → tn i s.heap → J.go i H →
    wpAny (model P w) X.A (pyNext (.ref it)) (fun r s1 => ∃ u, r = some u ∧
      wpAny (model P w) X.A (letOwnedTupleGo tg (.ref it) u) (fun _ s2 => ∃ x H', Inv X pins σ H' s2 ∧ RelV x u ∧ J.yld i H x H' ∧ tn (i + 1) s2.heap ∧ ∀ b ∈ fp, H' b = none) E s1) E s
  done : ∀ (X : Cx), X.prog = P → X.w = w → X.K = K → X.calm = true → ∀ (i : Nat) (pins : List (Addr × Obj)) (s : Shared) (σ : St) (H : Hp) (E : Value → Shared → Prop), Inv X pins σ H s → (∀ b ∈ fp, FpOk X pins H b) → tn i s.heap → J.stop i H →
    wpAny (model P w) X.A (pyNext (.ref it)) (fun r s1 => r = none ∧ Inv X pins σ H s1) E s
  self : ∀ (A : Around) (i : Nat) (s : Shared) (Q : Value → Shared → Prop) (E : Value → Shared → Prop), tn i s.heap → Q (.ref it) s → wpAny (model P w) A (pyIter (.ref it)) Q E s
abbrev TI := St → Hp → (It → Hp → Prop) → Prop
/-- an iterator has come -/
def PIE (X : Cx) (pins : List (Addr × Obj)) (σ : St) (tg : Expr) (R : It → Hp → Prop) (itv : Value) (s2 : Shared) : Prop :=
  ∃ (it : Addr) (fp : List Addr) (tn : Nat → Heap → Prop) (J : It) (H' : Hp), itv = .ref it ∧ Inv X pins σ H' s2 ∧ Turn X.prog X.w X.K tg J fp it tn ∧ tn 0 s2.heap ∧ (∀ b ∈ fp, FpOk X pins H' b) ∧ R J H'
def PI (X : Cx) (tg iter : Expr) (wi : TI) : Prop :=
  ∀ (pins : List (Addr × Obj)) (s : Shared) (σ : St) (H : Hp) (R : It → Hp → Prop), Inv X pins σ H s → wi σ H R →
    wpAny (model X.prog X.w) X.A (eval iter X.env) (fun v s1 => wpAny (model X.prog X.w) X.A (pyIter v) (PIE X pins σ tg R) X.xe s1) X.xe s

/-- the step ahead of the store is nothing for an iterator that keeps no tuple -/
theorem go_of {M : Model} {A : Around} {E : Value → Shared → Prop} {s : Shared} {tg : Expr} {it : Addr} {u : Value} {o : Obj} {n : String} {vs : Array Value} {Q : Unit → Shared → Prop} (ho : s.heap.get? it = some o) (hc : o.cls = .type n) (hd : o.data = .fields vs)
    (hn : ["enumerate", "zip", "dict_itemiterator", "dict_reverseitemiterator", "odict_iterator", "itertools.zip_longest", "itertools.pairwise"].contains n = false) (hQ : Q () s) : wpAny M A (letOwnedTupleGo tg (.ref it) u) Q E s := by
  unfold letOwnedTupleGo
  cases tg <;> first
    | exact wpAny_pure hQ
    | (cases u <;> first
        | exact wpAny_pure hQ
        | (refine wpAny_bind (wpAny_load ho ?_)
           rw [hc, hd]
           show wpAny M A (if (["enumerate", "zip", "dict_itemiterator", "dict_reverseitemiterator", "odict_iterator", "itertools.zip_longest", "itertools.pairwise"].contains n && vs[0]? == some (rawInt _)) = true then _ else _) Q E s
           rw [if_neg (by intro h; rw [hn, Bool.false_and] at h; cases h)]
           exact wpAny_pure hQ))

/-- the list at a, as it stands at each turn (a loop may append to it) -/
def Itl (K : PySem.W.Frag) (a : Addr) : It :=
  ⟨fun i H => ∃ xs x, SqL K H a xs ∧ xs[i]? = some x, fun i H x H' => H' = H ∧ ∀ xs, SqL K H a xs → xs[i]? = some x, fun i H => ∃ xs, SqL K H a xs ∧ xs.length ≤ i⟩
def Itt (K : PySem.W.Frag) (a : Addr) : It :=
  ⟨fun i H => ∃ xs x, SqT K H a xs ∧ xs[i]? = some x, fun i H x H' => H' = H ∧ ∀ xs, SqT K H a xs → xs[i]? = some x, fun i H => ∃ xs, SqT K H a xs ∧ xs.length ≤ i⟩
/-- lo, lo + 1, .. (n of them) -/
def Itr (lo : Int) (n : Nat) : It := ⟨fun i _ => i < n, fun i H x H' => H' = H ∧ x = .int (lo + i), fun i _ => n ≤ i⟩
theorem turn_list {P : Program} {w : World} {K : PySem.W.Frag} {tg : Expr} (a it : Addr) : Turn P w K tg (Itl K a) [it] it (fun i h => h.IsListIter it a i) where
  mem := by simp
  obj := fun i h st b hb => by
    have e : b = it := by simpa using hb
    subst e
    obtain ⟨o, e, c, d⟩ := st
    exact ⟨o, e, fun v z => by rw [d] at z; cases z⟩
  keep := fun i h h' st k => st.at fun o e => k it (by simp) o e
  item := by
    intro X hP hw hK hc i pins s σ H E I hf st hg
    subst hP hw hK
    obtain ⟨xs, x, hq, hx⟩ := hg
    obtain ⟨its, rv, p, hz⟩ := I.list hq
    obtain ⟨u, hu, ru⟩ := rv.get hx
    obtain ⟨f0, f1, f2, f3, f4, f5⟩ := hf it (by simp)
    refine wpAny_pyNext_list_item st p.isList (x := u) (by simpa using hu) fun h' st' sb => ?_
    have I1 : Inv X pins σ H { s with heap := h' } := I.turned (t' := s.toks) (fun b o hb e => (sb.2 b hb).trans e) f0 f1 f3 f4 f5
    obtain ⟨o, e, c, d⟩ := id st'
    exact ⟨u, rfl, go_of (s := { s with heap := h' }) e c d (by decide) ⟨x, H, I1, ru, ⟨rfl, fun ys hy => by rw [I.list_inj hy hq]; exact hx⟩, st', fun b hb => (hf b hb).1⟩⟩
  done := by
    intro X hP hw hK hc i pins s σ H E I hf st hg
    subst hP hw hK
    obtain ⟨xs, hq, hx⟩ := hg
    obtain ⟨its, rv, p, hz⟩ := I.list hq
    obtain ⟨f0, f1, f2, f3, f4, f5⟩ := hf it (by simp)
    have hl := rv.length
    exact wpAny_pyNext_list_end (I.ok.hd hc) st p.isList (by simp; omega) fun h' eb => ⟨rfl, I.turned (t' := s.toks) (fun b o hb e => eb b o hb e) f0 f1 f3 f4 f5⟩
  self := fun _ _ _ _ _ st h => wpAny_pyIter_listiter st h
theorem turn_tuple {P : Program} {w : World} {K : PySem.W.Frag} {tg : Expr} (a it : Addr) : Turn P w K tg (Itt K a) [it] it (fun i h => h.IsTupleIter it a i) where
  mem := by simp
  obj := fun i h st b hb => by
    have e : b = it := by simpa using hb
    subst e
    obtain ⟨o, e, c, d⟩ := st
    exact ⟨o, e, fun v z => by rw [d] at z; cases z⟩
  keep := fun i h h' st k => st.at fun o e => k it (by simp) o e
  item := by
    intro X hP hw hK hc i pins s σ H E I hf st hg
    subst hP hw hK
    obtain ⟨xs, x, hq, hx⟩ := hg
    obtain ⟨its, rv, p, hz⟩ := I.tuple hq
    obtain ⟨u, hu, ru⟩ := rv.get hx
    obtain ⟨f0, f1, f2, f3, f4, f5⟩ := hf it (by simp)
    refine wpAny_pyNext_tuple_item st (show s.heap.IsTuple a its.toArray from p) (x := u) (by simpa using hu) fun h' st' sb => ?_
    have I1 : Inv X pins σ H { s with heap := h' } := I.turned (t' := s.toks) (fun b o hb e => (sb.2 b hb).trans e) f0 f1 f3 f4 f5
    obtain ⟨o, e, c, d⟩ := id st'
    exact ⟨u, rfl, go_of (s := { s with heap := h' }) e c d (by decide) ⟨x, H, I1, ru, ⟨rfl, fun ys hy => by rw [I.tuple_inj hy hq]; exact hx⟩, st', fun b hb => (hf b hb).1⟩⟩
  done := by
    intro X hP hw hK hc i pins s σ H E I hf st hg
    subst hP hw hK
    obtain ⟨xs, hq, hx⟩ := hg
    obtain ⟨its, rv, p, hz⟩ := I.tuple hq
    obtain ⟨f0, f1, f2, f3, f4, f5⟩ := hf it (by simp)
    have hl := rv.length
    exact wpAny_pyNext_tuple_end (I.ok.hd hc) st (show s.heap.IsTuple a its.toArray from p) (by simp; omega) fun h' eb => ⟨rfl, I.turned (t' := s.toks) (fun b o hb e => eb b o hb e) f0 f1 f3 f4 f5⟩
  self := fun _ _ _ _ _ st h => wpAny_pyIter_tupleiter st h
theorem turn_range {P : Program} {w : World} {K : PySem.W.Frag} {tg : Expr} (it : Addr) (lo : Int) (n : Nat) : Turn P w K tg (Itr lo n) [it] it (fun i h => IsRangeIter h it (lo + (i : Nat) * 1) ((n : Int) - (i : Nat)) 1) where
  mem := by simp
  obj := fun i h st b hb => by
    have e : b = it := by simpa using hb
    subst e
    exact ⟨_, st, fun v z => by
      have z' : Data.fields _ = Data.cell v := z
      cases z'⟩
  keep := fun i h h' st k => k it (by simp) _ st
  item := by
    intro X hP hw hK hc i pins s σ H E I hf st hg
    subst hP hw hK
    obtain ⟨f0, f1, f2, f3, f4, f5⟩ := hf it (by simp)
    have W := Walks.range (prog := X.prog) (w := X.w) (I.ok.hd hc) it lo 1 n
    refine W.item i s _ _ hg st fun v h' tk hv st' kk => ?_
    obtain ⟨t, rfl⟩ := hv
    have I1 : Inv X pins σ H { s with heap := h', toks := tk } := I.turned (fun b o hb e => kk b o (by simpa using hb) e) f0 f1 f3 f4 f5
    refine ⟨_, rfl, go_of (s := { s with heap := h', toks := tk }) (n := "range_iterator") st' rfl rfl (by decide) ⟨.int (lo + i), H, I1, ⟨t, ?_⟩, ⟨rfl, rfl⟩, st', fun b hb => (hf b hb).1⟩⟩
    rw [Int.mul_one]
  done := by
    intro X hP hw hK hc i pins s σ H E I hf st hg
    subst hP hw hK
    obtain ⟨f0, f1, f2, f3, f4, f5⟩ := hf it (by simp)
    exact wpAny_pyNext_range_end (I.ok.hd hc) st (by have : n ≤ i := hg; omega) fun h' eb => ⟨rfl, I.turned (t' := s.toks) (fun b o hb e => eb b o hb e) f0 f1 f3 f4 f5⟩
  self := fun _ _ _ _ _ st h => wpAny_pyIter_rangeiter st h
end L2

namespace L2
open PySem PySem.Spec PyProof.Rows
section
variable {X : Cx} {tg : Expr}
def iList (K : PySem.W.Frag) (tl : TE) : TI := fun σ H R => tl σ H fun x H1 => ∃ a, x = .ref a ∧ (∃ xs, SqL K H1 a xs) ∧ R (Itl K a) H1
def iTup (K : PySem.W.Frag) (tl : TE) : TI := fun σ H R => tl σ H fun x H1 => ∃ a, x = .ref a ∧ (∃ xs, SqT K H1 a xs) ∧ R (Itt K a) H1
theorem pi_list {l : Expr} {tl : TE} (hl : PE X l tl) : PI X tg l (iList X.K tl) := by
  intro pins s σ H R I h
  refine thn (hl pins s σ H _ I h) fun v s1 ⟨x, H1, I1, r1, q1⟩ => ?_
  obtain ⟨a, e, ⟨xs, hq⟩, q⟩ := q1
  subst e
  cases r1
  obtain ⟨its, rv, p, hz⟩ := I1.list hq
  refine wpAny_pyIter_list p.isList ?_
  refine ⟨s1.heap.objs.size, [s1.heap.objs.size], _, _, H1, rfl, I1.kept (t' := s1.toks) fun b o e => Heap.get?_push_of_some _ e, turn_list a _, ⟨_, Heap.get?_push_size _ rfl, rfl, rfl⟩, fun b hb => ?_, q⟩
  have e : b = s1.heap.objs.size := by simpa using hb
  subst e
  exact I1.fpOk (Nat.le_refl _) (I1.hok.fresh (Nat.le_refl _))
theorem pi_tup {l : Expr} {tl : TE} (hl : PE X l tl) : PI X tg l (iTup X.K tl) := by
  intro pins s σ H R I h
  refine thn (hl pins s σ H _ I h) fun v s1 ⟨x, H1, I1, r1, q1⟩ => ?_
  obtain ⟨a, e, ⟨xs, hq⟩, q⟩ := q1
  subst e
  cases r1
  obtain ⟨its, rv, p, hz⟩ := I1.tuple hq
  refine wpAny_pyIter_tuple (show s1.heap.IsTuple a its.toArray from p) ?_
  refine ⟨s1.heap.objs.size, [s1.heap.objs.size], _, _, H1, rfl, I1.kept (t' := s1.toks) fun b o e => Heap.get?_push_of_some _ e, turn_tuple a _, ⟨_, Heap.get?_push_size _ rfl, rfl, rfl⟩, fun b hb => ?_, q⟩
  have e : b = s1.heap.objs.size := by simpa using hb
  subst e
  exact I1.fpOk (Nat.le_refl _) (I1.hok.fresh (Nat.le_refl _))
/-- a range object just made, walked -/
theorem range_it {pins : List (Addr × Obj)} {σ : St} {H : Hp} {s : Shared} {R : It → Hp → Prop} {E : Value → Shared → Prop} {lo hi : Int} {t u v : Tok} {tk : Nat} (I : Inv X pins σ H s) (h1 : -(2 ^ 62) ≤ lo) (h2 : lo < 2 ^ 62) (h3 : -(2 ^ 62) ≤ hi) (h4 : hi < 2 ^ 62)
    (q : R (Itr lo (hi - lo).toNat) H) : wpAny (model X.prog X.w) X.A (pyIter (.ref s.heap.objs.size)) (PIE X pins σ tg R) E { s with heap := s.heap.push { cls := .type "range", data := .fields #[.int lo t, .int hi u, .int 1 v] }, toks := tk } := by
  refine wpAny_pyIter_range (IsRange.new ..) (small_one h1 h2 h3 h4) ?_
  have I1 : Inv X pins σ H { s with heap := s.heap.push { cls := .type "range", data := .fields #[.int lo t, .int hi u, .int 1 v] }, toks := tk } := I.kept fun b o e => Heap.get?_push_of_some _ e
  refine ⟨(s.heap.push { cls := .type "range", data := .fields #[.int lo t, .int hi u, .int 1 v] }).objs.size, [(s.heap.push { cls := .type "range", data := .fields #[.int lo t, .int hi u, .int 1 v] }).objs.size], _, _, H, rfl,
    I1.kept (t' := tk) fun b o e => Heap.get?_push_of_some _ e, turn_range _ lo (hi - lo).toNat, ?_, fun b hb => ?_, q⟩
  · have e1 : lo + ((0 : Nat) : Int) * 1 = lo := by simp
    have e2 : (((hi - lo).toNat : Nat) : Int) - ((0 : Nat) : Int) = Builtin.Range.rangeSize lo hi 1 := by rw [rangeSize_one]; split <;> omega
    show IsRangeIter _ _ (lo + ((0 : Nat) : Int) * 1) ((((hi - lo).toNat : Nat) : Int) - ((0 : Nat) : Int)) 1
    rw [e1, e2]
    exact Heap.get?_push_size _ rfl
  · have e : b = (s.heap.push { cls := .type "range", data := .fields #[.int lo t, .int hi u, .int 1 v] }).objs.size := by simpa using hb
    subst e
    exact I1.fpOk (Nat.le_refl _) (I1.hok.fresh (Nat.le_refl _))
def iRng1 (ta : TA) : TI := fun σ H R => ta σ H fun vs H1 => ∃ j : Int, vs = [.int j] ∧ -(2 ^ 62) ≤ j ∧ j < 2 ^ 62 ∧ R (Itr 0 j.toNat) H1
def iRng2 (ta : TA) : TI := fun σ H R => ta σ H fun vs H1 => ∃ i j : Int, vs = [.int i, .int j] ∧ (-(2 ^ 62) ≤ i ∧ i < 2 ^ 62 ∧ -(2 ^ 62) ≤ j ∧ j < 2 ^ 62) ∧ R (Itr i (j - i).toNat) H1
theorem pi_range1 {a : Expr} {ta : TA} {p pos : Pos} (hg : Gl X "range") (hm : X.mg "range" = none) (ha : PA X [a] ta) (hs : starEach [a] X.env = [(false, eval a X.env)] := by rfl) : PI X tg (.Call (.Name "range" p) [a] [] pos) (iRng1 ta) := by
  intro pins s σ H R I h
  refine Call_ (ld_blt I hg hm boot_range (PyProof.Rows.callWith_type1 (thn (ha pos pins s σ H _ I h) fun us s1 ⟨vs, H1, I1, r1, q1⟩ => ?_) hs rfl))
  obtain ⟨j, e, q1, q2, q⟩ := q1
  subst e
  cases r1 with
  | cons r rr =>
    cases rr
    obtain ⟨t, rfl⟩ := r
    exact call_range_1 (range_it I1 (by omega) (by omega) q1 q2 (by simpa using q))
theorem pi_range2 {a b : Expr} {ta : TA} {p pos : Pos} (hg : Gl X "range") (hm : X.mg "range" = none) (ha : PA X [a, b] ta) (hs : starEach [a, b] X.env = [(false, eval a X.env), (false, eval b X.env)] := by rfl) (hs2 : starEach [b] X.env = [(false, eval b X.env)] := by rfl) :
    PI X tg (.Call (.Name "range" p) [a, b] [] pos) (iRng2 ta) := by
  intro pins s σ H R I h
  refine Call_ (ld_blt I hg hm boot_range (PyProof.Rows.callWith_type1 (thn (ha pos pins s σ H _ I h) fun us s1 ⟨vs, H1, I1, r1, q1⟩ => ?_) (by rw [hs, hs2]) (by rw [hs2]; rfl)))
  obtain ⟨i, j, e, ⟨q1, q2, q3, q4⟩, q⟩ := q1
  subst e
  cases r1 with
  | cons r rr =>
    cases rr with
    | cons r' rr =>
      cases rr
      obtain ⟨t, rfl⟩ := r
      obtain ⟨t', rfl⟩ := r'
      exact call_range_2 (range_it I1 q1 q2 q3 q4 q)

/-! ### for -/
/-- W: the invariant by the turn and a measure; N: what the body is to reach -/
def tFor (wi : TI) (g : TG) (tb : TS) : TS := fun D σ H => wi σ H fun J H1 => ∃ W : Nat → Nat → St → Hp → Prop, (∃ m, W 0 m σ H1) ∧ ∀ i m σ H, W i m σ H →
  (J.stop i H ∧ D.nx σ H) ∨ (J.go i H ∧ ∃ N : St → Hp → Prop, (∀ σ' H', N σ' H' → ∃ m', m' < m ∧ W (i + 1) m' σ' H') ∧ ∀ x H', J.yld i H x H' → g x σ H' fun σ2 H2 => tb { D with nx := N, ct := N, bk := D.nx } σ2 H2)
/-- the records at fp as they stand -/
def pinsAt (fp : List Addr) (h : Heap) : List (Addr × Obj) := fp.filterMap fun b => (h.get? b).map fun o => (b, o)
theorem mem_pinsAt {fp : List Addr} {h : Heap} {b : Addr} {o : Obj} (hb : b ∈ fp) (e : h.get? b = some o) : (b, o) ∈ pinsAt fp h := List.mem_filterMap.mpr ⟨b, hb, by rw [e]; rfl⟩
theorem of_pinsAt {fp : List Addr} {h : Heap} {p : Addr × Obj} (hp : p ∈ pinsAt fp h) : p.1 ∈ fp ∧ h.get? p.1 = some p.2 := by
  obtain ⟨b, hb, e⟩ := List.mem_filterMap.mp hp
  cases q : h.get? b with
  | none => rw [q] at e; cases e
  | some o =>
    rw [q] at e
    have e' : (b, o) = p := Option.some.inj e
    subst e'
    exact ⟨hb, q⟩
theorem Inv.pinned {pins : List (Addr × Obj)} {σ : St} {H : Hp} {s : Shared} {fp : List Addr} (I : Inv X pins σ H s) (hf : ∀ b ∈ fp, FpOk X pins H b) (ho : ∀ b ∈ fp, ∃ o, s.heap.get? b = some o ∧ ∀ v, o.data ≠ .cell v) : Inv X (pins ++ pinsAt fp s.heap) σ H s :=
  I.pins_of fun p hp => (List.mem_append.mp hp).elim (fun z => I.pin p (List.mem_append_right _ z)) fun z => by
    obtain ⟨hb, e⟩ := of_pinsAt z
    obtain ⟨f0, f1, f2, _⟩ := hf p.1 hb
    obtain ⟨o, e', d⟩ := ho p.1 hb
    rw [e] at e'; cases e'
    exact ⟨e, f0, f1, f2, d⟩
theorem Inv.unpinned {pins pl : List (Addr × Obj)} {σ : St} {H : Hp} {s : Shared} (I : Inv X (pins ++ pl) σ H s) : Inv X pins σ H s := I.pins_of fun p hp => I.pin p (List.mem_append_right _ (List.mem_append_left _ hp))
theorem ps_for {iter : Expr} {body : List Stmt} {wi : TI} {g : TG} {tb : TS} {pos : Pos} (hp : PassesOwn (model X.prog X.w) X.A X.env X.xe) (hc : X.calm = true) (hi : PI X tg iter wi) (hg : PG X tg g) (hb : PSs X body tb)
    (hs : ∀ x, foldedSetIterable iter X.env x = pure x := by intro _; rfl) : PS X (.For tg iter body [] pos) (tFor wi g tb) := by
  intro pins s σ H D I h
  refine wpAny_For (thn (hi pins s σ H _ I h) fun v s1 h1 => thn h1 fun itv s2 h2 => ?_) hs
  obtain ⟨it, fp, tn, J, H2, e, I2, T, st2, f2, W, ⟨m0, w0⟩, turn⟩ := h2
  subst e
  -- what stays true of the iterator's objects through the loop
  have stat : ∀ {H' : Hp}, (∀ b ∈ fp, H' b = none) → ∀ b ∈ fp, FpOk X pins H' b := fun hn b hb => ⟨hn b hb, (f2 b hb).2⟩
  refine codeAny_forLoop_any (fun n s' => ∃ i σ' H', Inv X pins σ' H' s' ∧ tn i s'.heap ∧ (∀ b ∈ fp, H' b = none) ∧ W i n σ' H') ?_ m0 ⟨0, σ, H2, I2, st2, fun b hb => (f2 b hb).1, w0⟩
  rintro n s3 ⟨i, σ3, H3, I3, st3, fr3, w3⟩
  rcases turn i n σ3 H3 w3 with ⟨stop, qn⟩ | ⟨go, N, hN, step⟩
  · refine wpAny_passesOwn hp (thn (T.done X rfl rfl rfl hc i pins s3 σ3 H3 X.xe I3 (stat fr3) st3 stop) fun r s4 ⟨hr, I4⟩ => ?_)
    subst hr
    exact wpAny_execs_nil ⟨σ3, H3, I4, qn⟩
  · refine wpAny_passesOwn hp (thn (T.item X rfl rfl rfl hc i pins s3 σ3 H3 X.xe I3 (stat fr3) st3 go) fun r s4 ⟨u, hr, h4⟩ => ?_)
    subst hr
    refine wpAny_passesOwn hp (thn h4 fun _ s5 ⟨x, H5, I5, r5, y5, st5, fr5⟩ => ?_)
    have I5' := I5.pinned (stat fr5) (T.obj _ _ st5)
    refine wpAny_passesOwn hp (thn (hg _ s5 σ3 H5 x u _ I5' r5 (step x H5 y5)) fun _ s6 ⟨σ6, H6, I6, q6⟩ => ?_)
    refine wpAny_passesOwn hp (thn (hb _ s6 σ6 H6 _ I6 q6) fun f s7 q7 => ?_)
    have again : ∀ {σ7 : St} {H7 : Hp}, Inv X (pins ++ pinsAt fp s5.heap) σ7 H7 s7 → N σ7 H7 → ∃ m, m < n ∧ ∃ i σ' H', Inv X pins σ' H' s7 ∧ tn i s7.heap ∧ (∀ b ∈ fp, H' b = none) ∧ W i m σ' H' := fun {σ7 H7} I7 n7 => by
      obtain ⟨m', hm, w7⟩ := hN σ7 H7 n7
      refine ⟨m', hm, i + 1, σ7, H7, I7.unpinned, T.keep _ _ _ st5 fun b hb o e => (I7.pin (b, o) (List.mem_append_right _ (List.mem_append_right _ (mem_pinsAt hb e)))).1, fun b hb => ?_, w7⟩
      obtain ⟨o, e, d⟩ := T.obj _ _ st5 b hb
      exact (I7.pin (b, o) (List.mem_append_right _ (List.mem_append_right _ (mem_pinsAt hb e)))).2.1
    cases f with
    | next => obtain ⟨σ7, H7, I7, n7⟩ := q7; exact again I7 n7
    | cont => obtain ⟨σ7, H7, I7, n7⟩ := q7; exact again I7 n7
    | brk => obtain ⟨σ7, H7, I7, q7⟩ := q7; exact ⟨σ7, H7, I7.unpinned, q7⟩
    | ret v => obtain ⟨x7, σ7, H7, I7, r7, q7⟩ := q7; exact ⟨x7, σ7, H7, I7.unpinned, r7, q7⟩
end

/-! ### the forms one uses -/
end L2

namespace L2
open PySem PySem.Spec PyProof.Rows

abbrev R2 := V → V → Hp → VK → Prop
/-- a two-place operation on values: f is binaryOp op, inplaceOp op or compareOp op -/
def OpR (X : Cx) (f : Value → Value → Sem Value) (r : R2) : Prop :=
  ∀ (pins : List (Addr × Obj)) (s : Shared) (σ : St) (H : Hp) (x y : V) (v u : Value) (Q : VK), Inv X pins σ H s → RelV x v → RelV y u → r x y H Q →
    wpAny (model X.prog X.w) X.A (f v u) (EP X pins σ Q) X.xe s
/-- a one-place operation -/
def UnR (X : Cx) (f : Value → Sem Value) (r : V → Hp → VK → Prop) : Prop :=
  ∀ (pins : List (Addr × Obj)) (s : Shared) (σ : St) (H : Hp) (x : V) (v : Value) (Q : VK), Inv X pins σ H s → RelV x v → r x H Q →
    wpAny (model X.prog X.w) X.A (f v) (EP X pins σ Q) X.xe s
/-- a call of a value that is known (a builtin, a type) with values -/
def CallR (X : Cx) (f : Value) (r : List V → Hp → VK → Prop) : Prop :=
  ∀ (pins : List (Addr × Obj)) (s : Shared) (σ : St) (H : Hp) (xs : List V) (us : List Value) (Q : VK), Inv X pins σ H s → Vals xs us → r xs H Q →
    wpAny (model X.prog X.w) X.A (call f us) (EP X pins σ Q) X.xe s
def tOp (r : R2) (ta tb : TE) : TE := fun σ H Q => ta σ H fun x H1 => tb σ H1 fun y H2 => r x y H2 Q
def tUn (r : V → Hp → VK → Prop) (ta : TE) : TE := fun σ H Q => ta σ H fun x H1 => r x H1 Q
/-- ints in, under C, and a value out -/
def rI (C : Int → Int → Prop) (g : Int → Int → V) : R2 := fun x y H Q => ∃ i j, x = .int i ∧ y = .int j ∧ C i j ∧ Q (g i j) H
def rI0 (g : Int → Int → V) : R2 := fun x y H Q => ∃ i j, x = .int i ∧ y = .int j ∧ Q (g i j) H
def rU (g : Int → V) : V → Hp → VK → Prop := fun x H Q => ∃ i, x = .int i ∧ Q (g i) H

section
variable {X : Cx} {a b c : Expr} {ta tb tc : TE} {pos : Pos}

theorem binT (ha : PE X a ta) (hb : PE X b tb) {pins : List (Addr × Obj)} {s : Shared} {σ : St} {H : Hp} {R : V → V → Hp → Prop} (I : Inv X pins σ H s)
    (h : ta σ H fun x H1 => tb σ H1 fun y H2 => R x y H2) {Q : Value → Shared → Prop} {f : Value → Value → Sem Value}
    (hf : ∀ v u s2 x y H2, Inv X pins σ H2 s2 → RelV x v → RelV y u → R x y H2 → wpAny (model X.prog X.w) X.A (f v u) Q X.xe s2) :
    wpAny (model X.prog X.w) X.A (eval a X.env) (fun v s₁ => wpAny (model X.prog X.w) X.A (eval b X.env) (fun u s₂ => wpAny (model X.prog X.w) X.A (f v u) Q X.xe s₂) X.xe s₁) X.xe s := by
  refine thn (ha pins s σ H _ I h) fun v s1 ⟨x, H1, I1, r1, q1⟩ => ?_
  refine thn (hb pins s1 σ H1 _ I1 q1) fun u s2 ⟨y, H2, I2, r2, q2⟩ => ?_
  exact hf v u s2 x y H2 I2 r1 r2 q2

theorem pe_op {op : Operator} {r : R2} (ho : OpR X (binaryOp op) r) (ha : PE X a ta) (hb : PE X b tb) : PE X (.BinOp a op b pos) (tOp r ta tb) := by
  intro pins s σ H Q I h
  exact wpAny_BinOp (binT ha hb I h fun v u s2 x y H2 I2 rx ry q => ho pins s2 σ H2 x y v u Q I2 rx ry q)
theorem pe_un {op : UnaryOp} {r : V → Hp → VK → Prop} (ho : UnR X (unaryOp op) r) (ha : PE X a ta) : PE X (.UnaryOp op a pos) (tUn r ta) := by
  intro pins s σ H Q I h
  exact UnaryOp_ (thn (ha pins s σ H _ I h) fun v s1 ⟨x, H1, I1, r1, q1⟩ => ho pins s1 σ H1 x v Q I1 r1 q1)
/-! ### ints -/
theorem opI {f : Value → Value → Sem Value} {C : Int → Int → Prop} {g : Int → Int → Int}
    (rule : ∀ (i j : Int) (t u : Tok) (s : Shared) (Q : Value → Shared → Prop) (E : Value → Shared → Prop), C i j → Q (.int (g i j) s.toks) { s with toks := s.toks + 1 } → wpAny (model X.prog X.w) X.A (f (.int i t) (.int j u)) Q E s) :
    OpR X f (rI C fun i j => .int (g i j)) := by
  intro pins s σ H x y v u Q I rx ry h
  obtain ⟨i, j, rfl, rfl, hc, q⟩ := h
  obtain ⟨t, rfl⟩ := rx
  obtain ⟨t', rfl⟩ := ry
  exact rule i j t t' s _ _ hc ⟨.int (g i j), H, I.tok _, ⟨_, rfl⟩, q⟩
theorem opI0 {f : Value → Value → Sem Value} {g : Int → Int → Int}
    (rule : ∀ (i j : Int) (t u : Tok) (s : Shared) (Q : Value → Shared → Prop) (E : Value → Shared → Prop), Q (.int (g i j) s.toks) { s with toks := s.toks + 1 } → wpAny (model X.prog X.w) X.A (f (.int i t) (.int j u)) Q E s) :
    OpR X f (rI0 fun i j => .int (g i j)) := by
  intro pins s σ H x y v u Q I rx ry h
  obtain ⟨i, j, rfl, rfl, q⟩ := h
  obtain ⟨t, rfl⟩ := rx
  obtain ⟨t', rfl⟩ := ry
  exact rule i j t t' s _ _ ⟨.int (g i j), H, I.tok _, ⟨_, rfl⟩, q⟩
theorem opB0 {f : Value → Value → Sem Value} {g : Int → Int → Bool}
    (rule : ∀ (i j : Int) (t u : Tok) (s : Shared) (Q : Value → Shared → Prop) (E : Value → Shared → Prop), Q (.bool (g i j)) s → wpAny (model X.prog X.w) X.A (f (.int i t) (.int j u)) Q E s) :
    OpR X f (rI0 fun i j => .bl (g i j)) := by
  intro pins s σ H x y v u Q I rx ry h
  obtain ⟨i, j, rfl, rfl, q⟩ := h
  obtain ⟨t, rfl⟩ := rx
  obtain ⟨t', rfl⟩ := ry
  exact rule i j t t' s _ _ ⟨.bl (g i j), H, I, rfl, q⟩

def CPow (i j : Int) : Prop := 0 ≤ j ∧ j ≤ 1000000 ∧ i.natAbs < 2 ^ 64
def CMul (i j : Int) : Prop := (-(2 ^ 64) < i ∧ i < 2 ^ 64) ∨ (-(2 ^ 64) < j ∧ j < 2 ^ 64)
theorem CMul.ok {i j : Int} (h : CMul i j) : IntMulOk i j := by
  rcases h with ⟨h1, h2⟩ | ⟨h1, h2⟩
  · exact .of_left (intBits_le_64 h1 h2)
  · exact .of_right (intBits_le_64 h1 h2)
theorem op_add : OpR X (binaryOp .Add) (rI0 fun i j => .int (i + j)) := opI0 fun _ _ _ _ _ _ _ q => add_int q
theorem op_sub : OpR X (binaryOp .Sub) (rI0 fun i j => .int (i - j)) := opI0 fun _ _ _ _ _ _ _ q => sub_int q
/-- % by a positive divisor of any size -/
theorem op_mod : OpR X (binaryOp .Mod) (rI (fun _ j => 0 < j) fun i j => .int (i % j)) := opI fun i j _ _ _ _ _ hc q => by
  have h1 : (0 : Int) < j := hc
  exact mod_int' (by omega) (by rw [Int.fmod_eq_emod_of_nonneg i (by omega)]; exact q)
theorem op_modN : OpR X (binaryOp .Mod) (rI (fun _ j => j ≠ 0) fun i j => .int (i.fmod j)) := opI fun _ _ _ _ _ _ _ hc q => mod_int' hc q
theorem op_pow : OpR X (binaryOp .Pow) (rI CPow fun i j => .int (i ^ j.toNat)) := opI fun _ _ _ _ _ _ _ hc q => pow_int_small hc.1 hc.2.1 hc.2.2 q
theorem unI {f : Value → Sem Value} {g : Int → Int}
    (rule : ∀ (i : Int) (t : Tok) (s : Shared) (Q : Value → Shared → Prop) (E : Value → Shared → Prop), Q (.int (g i) s.toks) { s with toks := s.toks + 1 } → wpAny (model X.prog X.w) X.A (f (.int i t)) Q E s) :
    UnR X f (rU fun i => .int (g i)) := by
  intro pins s σ H x v Q I rx h
  obtain ⟨i, rfl, q⟩ := h
  obtain ⟨t, rfl⟩ := rx
  exact rule i t s _ _ ⟨.int (g i), H, I.tok _, ⟨_, rfl⟩, q⟩
theorem un_neg : UnR X (unaryOp .USub) (rU fun i => .int (-i)) := unI fun _ _ _ _ _ q => neg_int q
/-! ### bools among ints: n += (a < b) -/
end

/-! ### comparisons -/
/-- the scalars that == tells apart as data does -/
def scal : V → V → Bool
  | .non, .non => true | .non, .int _ => true | .int _, .non => true | .non, .bl _ => true | .bl _, .non => true | .non, .str _ => true | .str _, .non => true
  | .int _, .int _ => true | .bl _, .bl _ => true | .str _, .str _ => true | .byt _, .byt _ => true
  | .int _, .str _ => true | .str _, .int _ => true | .bl _, .str _ => true | .str _, .bl _ => true
  | _, _ => false
def rEq : R2 := fun x y H Q => scal x y = true ∧ Q (.bl (decide (x = y))) H
def rNe : R2 := fun x y H Q => scal x y = true ∧ Q (.bl (!decide (x = y))) H

theorem dec_int {i j : Int} : decide (V.int i = V.int j) = (i == j) := by
  rw [Bool.eq_iff_iff]
  simp
theorem dec_bl {i j : Bool} : decide (V.bl i = V.bl j) = (i == j) := by
  rw [Bool.eq_iff_iff]
  simp
theorem dec_str {i j : Str} : decide (V.str i = V.str j) = (i == j) := by
  rw [Bool.eq_iff_iff]
  simp
theorem dec_byt {i j : Array UInt8} : decide (V.byt i = V.byt j) = (i.toList == j.toList) := by
  rw [Bool.eq_iff_iff]
  cases i
  cases j
  simp

section
variable {X : Cx} {a b c : Expr} {ta tb tc : TE} {pos : Pos}
theorem fin_bl {pins : List (Addr × Obj)} {σ : St} {H : Hp} {s : Shared} {Q : VK} {k k' : Bool} (I : Inv X pins σ H s) (q : Q (.bl k) H) (e : k = k') : EP X pins σ Q (.bool k') s := by
  subst e
  exact ⟨.bl k, H, I, rfl, q⟩
theorem op_eq : OpR X (compareOp .Eq) rEq := by
  intro pins s σ H x y v u Q I rx ry h
  obtain ⟨hs, q⟩ := h
  cases x with
  | non =>
    cases rx
    cases y with
    | non => cases ry; exact PySem.EqNone.eq_none_none (fin_bl I q (by simp))
    | bl j => cases ry; exact PySem.EqNone.eq_none_bool (fin_bl I q (by simp))
    | int j => obtain ⟨t', rfl⟩ := ry; exact PySem.EqNone.eq_none_int (fin_bl I q (by simp))
    | str j => obtain ⟨t', rfl⟩ := ry; exact PySem.EqNone.eq_none_str (fin_bl I q (by simp))
    | _ => exact absurd (show false = true from hs) Bool.false_ne_true
  | bl i =>
    cases rx
    cases y with
    | non => cases ry; exact PySem.EqNone.eq_bool_none (fin_bl I q (by simp))
    | bl j => cases ry; exact eq_bool (fin_bl I q dec_bl)
    | str j => obtain ⟨t', rfl⟩ := ry; exact PySem.EqMixed.eq_bool_str (fin_bl I q (by simp))
    | _ => exact absurd (show false = true from hs) Bool.false_ne_true
  | int i =>
    obtain ⟨t, rfl⟩ := rx
    cases y with
    | non => cases ry; exact PySem.EqNone.eq_int_none (fin_bl I q (by simp))
    | int j => obtain ⟨t', rfl⟩ := ry; exact eq_int (fin_bl I q dec_int)
    | str j => obtain ⟨t', rfl⟩ := ry; exact PySem.EqMixed.eq_int_str (fin_bl I q (by simp))
    | _ => exact absurd (show false = true from hs) Bool.false_ne_true
  | str i =>
    obtain ⟨t, rfl⟩ := rx
    cases y with
    | non => cases ry; exact PySem.EqNone.eq_str_none (fin_bl I q (by simp))
    | bl j => cases ry; exact PySem.EqMixed.eq_str_bool (fin_bl I q (by simp))
    | int j => obtain ⟨t', rfl⟩ := ry; exact PySem.EqMixed.eq_str_int (fin_bl I q (by simp))
    | str j => obtain ⟨t', rfl⟩ := ry; exact eq_str (fin_bl I q dec_str)
    | _ => exact absurd (show false = true from hs) Bool.false_ne_true
  | byt i =>
    obtain ⟨t, rfl⟩ := rx
    cases y with
    | byt j => obtain ⟨t', rfl⟩ := ry; exact PySem.W.eq_bytes (fin_bl I q dec_byt)
    | _ => exact absurd (show false = true from hs) Bool.false_ne_true
  | _ => cases y <;> exact absurd (show false = true from hs) Bool.false_ne_true
theorem op_ne : OpR X (compareOp .NotEq) rNe := by
  intro pins s σ H x y v u Q I rx ry h
  obtain ⟨hs, q⟩ := h
  cases x with
  | non =>
    cases rx
    cases y with
    | non => cases ry; exact PySem.EqNone.ne_none_none (fin_bl I q (by simp))
    | bl j => cases ry; exact PySem.EqNone.ne_none_bool (fin_bl I q (by simp))
    | int j => obtain ⟨t', rfl⟩ := ry; exact PySem.EqNone.ne_none_int (fin_bl I q (by simp))
    | str j => obtain ⟨t', rfl⟩ := ry; exact PySem.EqNone.ne_none_str (fin_bl I q (by simp))
    | _ => exact absurd (show false = true from hs) Bool.false_ne_true
  | bl i =>
    cases rx
    cases y with
    | non => cases ry; exact PySem.EqNone.ne_bool_none (fin_bl I q (by simp))
    | bl j => cases ry; exact ne_bool (fin_bl I q (congrArg not dec_bl))
    | str j => obtain ⟨t', rfl⟩ := ry; exact PySem.EqMixed.ne_bool_str (fin_bl I q (by simp))
    | _ => exact absurd (show false = true from hs) Bool.false_ne_true
  | int i =>
    obtain ⟨t, rfl⟩ := rx
    cases y with
    | non => cases ry; exact PySem.EqNone.ne_int_none (fin_bl I q (by simp))
    | int j => obtain ⟨t', rfl⟩ := ry; exact ne_int (fin_bl I q (congrArg not dec_int))
    | str j => obtain ⟨t', rfl⟩ := ry; exact PySem.EqMixed.ne_int_str (fin_bl I q (by simp))
    | _ => exact absurd (show false = true from hs) Bool.false_ne_true
  | str i =>
    obtain ⟨t, rfl⟩ := rx
    cases y with
    | non => cases ry; exact PySem.EqNone.ne_str_none (fin_bl I q (by simp))
    | bl j => cases ry; exact PySem.EqMixed.ne_str_bool (fin_bl I q (by simp))
    | int j => obtain ⟨t', rfl⟩ := ry; exact PySem.EqMixed.ne_str_int (fin_bl I q (by simp))
    | str j => obtain ⟨t', rfl⟩ := ry; exact ne_str (fin_bl I q (congrArg not dec_str))
    | _ => exact absurd (show false = true from hs) Bool.false_ne_true
  | byt i =>
    obtain ⟨t, rfl⟩ := rx
    cases y with
    | byt j => obtain ⟨t', rfl⟩ := ry; exact PySem.W.ne_bytes (fin_bl I q (congrArg not dec_byt))
    | _ => exact absurd (show false = true from hs) Bool.false_ne_true
  | _ => cases y <;> exact absurd (show false = true from hs) Bool.false_ne_true

theorem op_lt : OpR X (compareOp .Lt) (rI0 fun i j => .bl (decide (i < j))) := opB0 fun _ _ _ _ _ _ _ q => lt_int q
theorem op_le : OpR X (compareOp .LtE) (rI0 fun i j => .bl (decide (i ≤ j))) := opB0 fun _ _ _ _ _ _ _ q => le_int q
theorem op_gt : OpR X (compareOp .Gt) (rI0 fun i j => .bl (decide (j < i))) := opB0 fun _ _ _ _ _ _ _ q => gt_int q
theorem op_ge : OpR X (compareOp .GtE) (rI0 fun i j => .bl (decide (j ≤ i))) := opB0 fun _ _ _ _ _ _ _ q => ge_int q
theorem nomark (b : Expr) {op : CmpOp} (h : op ≠ .In := by decide) (h2 : op ≠ .NotIn := by decide) : behindInMarks op b = false := by
  have e1 : (op == CmpOp.In) = false := by cases op <;> first | rfl | exact absurd rfl h
  have e2 : (op == CmpOp.NotIn) = false := by cases op <;> first | rfl | exact absurd rfl h2
  cases b <;> simp [behindInMarks, e1, e2]
/-- a comparison as a value; hm: nomark b, or (for in, not in) by with_unfolding_all rfl -/
theorem pe_cmpR {op : CmpOp} {r : R2} (ho : OpR X (compareOp op) r) (ha : PE X a ta) (hb : PE X b tb) (hm : behindInMarks op b = false) : PE X (.Compare a [op] [b] pos) (tOp r ta tb) := by
  intro pins s σ H Q I h
  exact wpAny_Compare1 (binT ha hb I h fun v u s2 x y H2 I2 rx ry q => ho pins s2 σ H2 x y v u Q I2 rx ry q) hm
/-- a reading of a value as a test -/
def tTest (t : TE) : TT := fun σ H Q => t σ H fun x H' => ∃ k, x = .bl k ∧ Q k H'
theorem pt_cmpR {op : CmpOp} {r : R2} (ho : OpR X (compareOp op) r) (ha : PE X a ta) (hb : PE X b tb) (hm : behindInMarks op b = false) : PT X (.Compare a [op] [b] pos) (tTest (tOp r ta tb)) := by
  intro pins s σ H Q I h
  refine wpAny_isTrue_Compare1 (thn (ha pins s σ H _ I h) fun v s1 ⟨x, H1, I1, r1, q1⟩ => thn (hb pins s1 σ H1 _ I1 q1) fun u s2 ⟨y, H2, I2, r2, q2⟩ =>
    thn (ho pins s2 σ H2 x y v u _ I2 r1 r2 q2) fun c s3 ⟨z, H3, I3, r3, k, e, q3⟩ => ?_) hm
  subst e
  cases r3
  exact wpAny_truthy_bool ⟨H3, I3, q3⟩
/-- a op1 b op2 c -/
def tChain (r r' : R2) (ta tb tc : TE) : TE := fun σ H Q => ta σ H fun x H1 => tb σ H1 fun y H2 => r x y H2 fun z H3 => ∃ k, z = .bl k ∧
  (if k = true then tc σ H3 fun w' H4 => r' y w' H4 Q else Q (.bl false) H3)
theorem pe_chain {op op' : CmpOp} {r r' : R2} (ho : OpR X (compareOp op) r) (ho' : OpR X (compareOp op') r') (ha : PE X a ta) (hb : PE X b tb) (hc : PE X c tc)
    (hm : lastMarks [op, op'] [b, c] = false := by with_unfolding_all rfl) : PE X (.Compare a [op, op'] [b, c] pos) (tChain r r' ta tb tc) := by
  intro pins s σ H Q I h
  refine Compare_chain (thn (ha pins s σ H _ I h) fun v s1 ⟨x, H1, I1, r1, q1⟩ => chain_link (thn (hb pins s1 σ H1 _ I1 q1) fun u s2 ⟨y, H2, I2, r2, q2⟩ =>
    thn (ho pins s2 σ H2 x y v u _ I2 r1 r2 q2) fun d s3 ⟨z, H3, I3, r3, k, e, q3⟩ => ?_)) hm
  subst e
  cases r3
  refine wpAny_truthy_bool ?_
  cases k with
  | false => exact ite_ff ⟨.bl false, H3, I3, rfl, q3⟩
  | true => exact ite_tt (chain_last (thn (hc pins s3 σ H3 _ I3 q3) fun w' s4 ⟨z', H4, I4, r4, q4⟩ => ho' pins s4 σ H4 y z' u w' Q I4 r2 r4 q4))
theorem pt_chain {op op' : CmpOp} {r r' : R2} (ho : OpR X (compareOp op) r) (ho' : OpR X (compareOp op') r') (ha : PE X a ta) (hb : PE X b tb) (hc : PE X c tc)
    (hm : lastMarks [op, op'] [b, c] = false := by with_unfolding_all rfl) : PT X (.Compare a [op, op'] [b, c] pos) (tTest (tChain r r' ta tb tc)) := by
  intro pins s σ H Q I h
  refine isTrue_chain (thn (ha pins s σ H _ I h) fun v s1 ⟨x, H1, I1, r1, q1⟩ => test_link (thn (hb pins s1 σ H1 _ I1 q1) fun u s2 ⟨y, H2, I2, r2, q2⟩ =>
    thn (ho pins s2 σ H2 x y v u _ I2 r1 r2 q2) fun d s3 ⟨z, H3, I3, r3, k, e, q3⟩ => ?_)) hm
  subst e
  cases r3
  refine wpAny_truthy_bool ?_
  cases k with
  | false =>
    obtain ⟨k', e', q'⟩ := q3
    cases e'
    exact ite_ff ⟨H3, I3, q'⟩
  | true =>
    refine ite_tt (test_last (thn (hc pins s3 σ H3 _ I3 q3) fun w' s4 ⟨z', H4, I4, r4, q4⟩ => thn (ho' pins s4 σ H4 y z' u w' _ I4 r2 r4 q4) fun d' s5 ⟨z2, H5, I5, r5, k2, e2, q5⟩ => ?_))
    subst e2
    cases r5
    exact wpAny_truthy_bool ⟨H5, I5, q5⟩

/-! ### truth -/
theorem line63 : (sizeLine : Nat) < 2 ^ 63 := by rw [sizeLine_eq]; decide
/-! ### strs and bytes -/
/-! ### scalar builtins, by CallR -/
theorem vals1 {x : V} {us : List Value} (r : Vals [x] us) : ∃ u, us = [u] ∧ RelV x u := by
  cases r with
  | cons r1 r2 => cases r2; exact ⟨_, rfl, r1⟩
theorem vals2 {x y : V} {us : List Value} (r : Vals [x, y] us) : ∃ u w', us = [u, w'] ∧ RelV x u ∧ RelV y w' := by
  cases r with
  | cons r1 r2 =>
    cases r2 with
    | cons r3 r4 => cases r4; exact ⟨_, _, rfl, r1, r3⟩
theorem call_abs : CallR X (.builtin "abs") (fun xs H Q => ∃ i, xs = [.int i] ∧ Q (.int (if i < 0 then -i else i)) H) := by
  intro pins s σ H xs us Q I r h
  obtain ⟨i, rfl, q⟩ := h
  obtain ⟨u, rfl, t, rfl⟩ := vals1 r
  exact call_abs_int fun u tk => ⟨.int (if i < 0 then -i else i), H, I.tok _, ⟨_, rfl⟩, q⟩
theorem call_max2 (hc : X.calm = true) : CallR X (.builtin "max") (fun xs H Q => ∃ i j, xs = [.int i, .int j] ∧ Q (.int (if j > i then j else i)) H) := by
  intro pins s σ H xs us Q I r h
  obtain ⟨i, j, rfl, q⟩ := h
  obtain ⟨u, w', rfl, ⟨t, rfl⟩, ⟨t', rfl⟩⟩ := vals2 r
  refine max_two_ints (I.ok.hd hc) fun h' tk k => ⟨_, H, I.kept k, ?_, q⟩
  by_cases hj : j > i
  · rw [if_pos hj, if_pos hj]; exact ⟨_, rfl⟩
  · rw [if_neg hj, if_neg hj]; exact ⟨_, rfl⟩
theorem call_min2 (hc : X.calm = true) : CallR X (.builtin "min") (fun xs H Q => ∃ i j, xs = [.int i, .int j] ∧ Q (.int (if j < i then j else i)) H) := by
  intro pins s σ H xs us Q I r h
  obtain ⟨i, j, rfl, q⟩ := h
  obtain ⟨u, w', rfl, ⟨t, rfl⟩, ⟨t', rfl⟩⟩ := vals2 r
  refine min_two_ints (I.ok.hd hc) fun h' tk k => ⟨_, H, I.kept k, ?_, q⟩
  by_cases hj : j < i
  · rw [if_pos hj, if_pos hj]; exact ⟨_, rfl⟩
  · rw [if_neg hj, if_neg hj]; exact ⟨_, rfl⟩
theorem call_int1 : CallR X (.type "int") (fun xs H Q => (∃ i, xs = [.int i] ∧ Q (.int i) H) ∨ ∃ k, xs = [.bl k] ∧ Q (.int (if k then 1 else 0)) H) := by
  intro pins s σ H xs us Q I r h
  rcases h with ⟨i, rfl, q⟩ | ⟨k, rfl, q⟩
  · obtain ⟨u, rfl, t, rfl⟩ := vals1 r
    exact call_int_int ⟨.int i, H, I, ⟨_, rfl⟩, q⟩
  · obtain ⟨u, rfl, r1⟩ := vals1 r
    cases r1
    exact call_int_bool ⟨.int (if k then 1 else 0), H, I.tok _, ⟨_, rfl⟩, q⟩
end
end L2

namespace L2
open PySem PySem.Spec PyProof.Rows

/-! ### an instance, its attributes a map -/
structure ObjM (h : Heap) (x dx C : Addr) (mA : Str → Option Value) : Prop where
  obj : h.get? x = some (PySem.W.instObj C dx)
  ns : h.Ns1 dx mA
  ne : dx ≠ x

theorem lookIn_ns {h : Heap} {dx : Addr} {mA : Str → Option Value} (n : h.Ns1 dx mA) : ∃ od, h.get? dx = some od ∧ ∀ name, PySem.W.lookIn name od = some (mA name) := by
  obtain ⟨o, es, ep, ho, hd, hk, _, hm⟩ := n
  refine ⟨o, ho, fun name => ?_⟩
  have e := hm name
  unfold nsFind findBy at e
  rw [← Array.find?_toList] at e
  unfold PySem.W.lookIn
  rw [hd]
  dsimp only
  split
  · rename_i y q
    rw [q] at e
    exact congrArg some e
  · rename_i q
    rw [q] at e
    have a : es.toList.any (·.refKey) = false := by
      rw [List.any_eq_false]
      intro y hy
      obtain ⟨z, t, hkey⟩ := hk y (Array.mem_toList_iff.mp hy)
      simp [DictEntry.refKey, hkey]
    have a' : ¬ es.toList.any (·.refKey) = true := by rw [a]; exact Bool.false_ne_true
    rw [if_neg a']
    exact congrArg some e

theorem ObjM.look {h : Heap} {x dx C : Addr} {mA : Str → Option Value} (I : ObjM h x dx C mA) : ∃ od, PySem.W.InstAt h x (PySem.W.instObj C dx) C (some od) ∧ ∀ name, PySem.W.lookIn name od = some (mA name) :=
  let ⟨od, ho, hl⟩ := lookIn_ns I.ns
  ⟨od, ⟨I.obj, rfl, rfl, ho⟩, hl⟩

section
variable {prog : Program} {w : World} {A : Around} {E : Value → Shared → Prop} {s : Shared} {K : PySem.W.Frag} {x dx C f : Addr} {mA : Str → Option Value} {name : Str} {v : Value}

theorem get_map {expr : Bool} {Q : Value → Shared → Prop} (X : K.In s.heap) (I : ObjM s.heap x dx C mA) (hg : PySem.W.plainGet K C name = true) (hh : PySem.W.hasDictIn K C = true)
    (ha : PySem.W.findIn K (.ref C) name = some none) (hv : mA name = some v) (hv' : PySem.W.handedIn v = true) (h : Q v { s with toks := s.toks + 1 }) :
    wpAny (model prog w) A (getAttr (.ref x) name expr) Q E s := by
  obtain ⟨od, J, hl⟩ := I.look
  exact PySem.W.get_value X J (PySem.W.plainGet_of hg).1 (PySem.W.findObj_own hh ha rfl (by rw [hl, hv])) hv' h

theorem get_meth {pl : Sem Bool} {Q : Value × List Value → Shared → Prop} (X : K.In s.heap) (I : ObjM s.heap x dx C mA) (hg : PySem.W.plainGet K C name = true)
    (hf : PySem.W.findIn K (.ref C) name = some (some (.ref f))) (ht : PySem.W.isFn K (.ref f) = true) (hv : mA name = none) (h : Q (.ref f, [.ref x]) s) :
    wpAny (model prog w) A (getMethod (.ref x) name pl) Q E s := by
  obtain ⟨od, J, hl⟩ := I.look
  exact PySem.W.method_fn X J (PySem.W.plainGet_of hg).1 (PySem.W.plainGet_of hg).2 hf (beq_iff_eq.mp ht) (by show (PySem.W.lookIn name od).map (·.isSome) = some false; rw [hl, hv]; rfl) h

theorem set_map {ns : List Str} {Q : Unit → Shared → Prop} (X : K.In s.heap) (I : ObjM s.heap x dx C mA)
    (hs : PySem.W.findIn K (.ref C) "__setattr__" = some (some (.builtin "object.__setattr__"))) (hp : PySem.W.plainOver K C = true) (ht : PySem.W.takerIn K C name = some none) (hh : PySem.W.hasDictIn K C = true)
    (hw : PySem.Within mA ns) (hsz : ns.length ≤ sizeLine)
    (h : ∀ h', ObjM h' x dx C (fun y => if y = name then some v else mA y) → Heap.SameBut dx s.heap h' → Q () { s with heap := h', toks := s.toks + 2 }) :
    wpAny (model prog w) A (setAttr (.ref x) name v) Q E s := by
  obtain ⟨od, J, hl⟩ := I.look
  refine PySem.W.set_plain X J hs (PySem.W.osa_open (s := { s with toks := s.toks + 1 }) (r := none) X J hp ht fun b => ?_)
  obtain ⟨cd, hc, hd'⟩ := PySem.W.any_some hh
  have hx : s.heap.get? x = some ⟨.ref C, some dx, .plain, #[]⟩ := I.obj
  refine wpAny_bind (wpAny_pure (wpAny_bind (wpAny_bind (wpAny_loadPart hx (wpAny_bind (PySem.W.Looks.here (s := { s with toks := s.toks + 1 }) (PySem.W.looks_clsIn X hc) ?_))))))
  rw [hd']
  refine wpAny_pure (a := some dx) (wpAny_bind (wpAny_pure (wpAny_bind ?_)))
  refine wpAny_nsSet1 (s := { s with toks := s.toks + 1 }) I.ns fun h' hn2 hs2 => ?_
  obtain ⟨oD, esD, epD, hoD, hdD, hcD⟩ := hn2.count (PySem.Within.cons name v hw)
  refine wpAny_bind (wpAny_lookBehind hoD (by rw [hdD]; exact pastItsLine_dict (Nat.le_trans hcD (by rw [List.length_cons]; omega))) ?_)
  exact wpAny_pure (h _ ⟨(hs2.2 _ (Ne.symm I.ne)).trans I.obj, hn2, I.ne⟩ hs2)

/-- C(..): the dict at the heap's end, the instance behind it; then its __init__ -/
theorem make_map {R : Result → Shared → Prop} {vs : List Value} {kw : List (Str × Value)} (X : K.In s.heap) (hm : PySem.W.makesIn K C = true)
    (hi : PySem.W.findIn K (.ref C) "__init__" = some (some (.ref f))) (hf : PySem.W.typeIn K (.ref f) = some (.type "function"))
    (h : codeAny (model prog w) (A.under (.builtin "type.__call__" ⟨.ref C :: vs, kw⟩)) (.call (.ref f) ⟨.ref (s.heap.objs.size + 1) :: vs, kw⟩) (PySem.W.InitBack (s.heap.objs.size + 1) R)
      { s with heap := (s.heap.push PySem.W.emptyDict).push (PySem.W.instObj C s.heap.objs.size) }) :
    codeAny (model prog w) A (.call (.ref C) ⟨vs, kw⟩) R s := by
  obtain ⟨hh, g, d, t, os⟩ := s
  exact PySem.W.make_core (PySem.W.makes_of X hm) (PySem.W.looks_findIn X hi) (fun self => PySem.W.bind_fn X self hf) (.inl rfl) h
end

/-! ### the attributes as a list of pairs -/
def putF (f : Str) (v : V) : List (Str × V) → List (Str × V)
  | [] => [(f, v)]
  | (g, x) :: r => if g = f then (g, v) :: r else (g, x) :: putF f v r
theorem lookup_putF (f g : Str) (v : V) : ∀ fs : List (Str × V), (putF f v fs).lookup g = if g = f then some v else fs.lookup g
  | [] => by
    show List.lookup g [(f, v)] = _
    by_cases h : g = f
    · have hb : (g == f) = true := beq_iff_eq.mpr h
      simp only [List.lookup, hb, if_pos h]
    · have hb : (g == f) = false := beq_eq_false_iff_ne.mpr h
      simp only [List.lookup, hb, if_neg h]
  | (k, x) :: r => by
    have ih := lookup_putF f g v r
    rw [show putF f v ((k, x) :: r) = (if k = f then (k, v) :: r else (k, x) :: putF f v r) from rfl]
    by_cases hk : k = f
    · rw [if_pos hk]
      by_cases h : g = k
      · have hb : (g == k) = true := beq_iff_eq.mpr h
        simp only [List.lookup, hb, if_pos (h.trans hk)]
      · have hb : (g == k) = false := beq_eq_false_iff_ne.mpr h
        simp only [List.lookup, hb, if_neg (fun e : g = f => h (e.trans hk.symm))]
    · rw [if_neg hk]
      by_cases h : g = k
      · have hb : (g == k) = true := beq_iff_eq.mpr h
        simp only [List.lookup, hb, if_neg (fun e : g = f => hk (h.symm.trans e))]
      · have hb : (g == k) = false := beq_eq_false_iff_ne.mpr h
        simp only [List.lookup, hb]
        exact ih
theorem keys_putF (f : Str) (v : V) : ∀ fs : List (Str × V), f ∈ (putF f v fs).map (·.1) ∧ ∀ g, g ∈ fs.map (·.1) → g ∈ (putF f v fs).map (·.1)
  | [] => ⟨by simp [putF], fun g h => by simp at h⟩
  | (k, x) :: r => by
    obtain ⟨i1, i2⟩ := keys_putF f v r
    rw [show putF f v ((k, x) :: r) = (if k = f then (k, v) :: r else (k, x) :: putF f v r) from rfl]
    by_cases hk : k = f
    · rw [if_pos hk]
      subst hk
      exact ⟨by simp, fun g h => by simpa using h⟩
    · rw [if_neg hk]
      refine ⟨?_, fun g h => ?_⟩
      · rw [List.map_cons]
        exact List.mem_cons_of_mem _ i1
      · rw [List.map_cons] at h ⊢
        rcases List.mem_cons.mp h with e | e
        · exact List.mem_cons.mpr (.inl e)
        · exact List.mem_cons_of_mem _ (i2 g e)
theorem length_putF (f : Str) (v : V) : ∀ fs : List (Str × V), (putF f v fs).length ≤ fs.length + 1
  | [] => by simp [putF]
  | (k, x) :: r => by
    have ih := length_putF f v r
    rw [show putF f v ((k, x) :: r) = (if k = f then (k, v) :: r else (k, x) :: putF f v r) from rfl]
    by_cases hk : k = f
    · rw [if_pos hk, List.length_cons, List.length_cons]; omega
    · rw [if_neg hk, List.length_cons, List.length_cons]; omega

theorem RelO.some_of {v : V} {o : Option Value} (r : RelO (some v) o) : ∃ u, o = some u ∧ RelV v u := by
  cases o with
  | none => exact (show False from r).elim
  | some u => exact ⟨u, rfl, r⟩
theorem RelO.none_of {o : Option Value} (r : RelO none o) : o = none := by
  cases o with
  | none => rfl
  | some u => exact (show False from r).elim
theorem handed_of {v : V} {u : Value} (r : RelV v u) : PySem.W.handedIn u = true := by
  cases v with
  | non => cases (show u = Value.none from r); rfl
  | bl b => cases (show u = Value.bool b from r); rfl
  | int i => obtain ⟨t, e⟩ := (show ∃ t, u = Value.int i t from r); cases e; rfl
  | str x => obtain ⟨t, e⟩ := (show ∃ t, u = Value.str x t from r); cases e; rfl
  | byt b => obtain ⟨t, e⟩ := (show ∃ t, u = Value.bytes b t from r); cases e; rfl
  | flt b => obtain ⟨t, e⟩ := (show ∃ t, u = Value.float b t from r); cases e; rfl
  | ref a => cases (show u = Value.ref a from r); rfl
  | ty n => cases (show u = Value.type n from r); rfl

section
variable {P : Program} {w : World} {H H' : Hp} {h h' : Heap} {a C dx : Addr} {fs fs' : List (Str × V)}
theorem ins_get (hok : HOk P w H h) (e : H a = some (.ins C dx fs)) : ∃ mA, ObjM h a dx C mA ∧ (∀ f, RelO (fs.lookup f) (mA f)) ∧ PySem.Within mA (fs.map (·.1)) ∧ fs.length ≤ 1000 ∧ H dx = some (.own a) := by
  obtain ⟨d, z, ne, ob, mA, n, r, q⟩ := (show ObjOk P w H h a (.ins C dx fs) from hok a _ e)
  exact ⟨mA, ⟨ob, n, ne⟩, r, q, z, d⟩
end

/-! ### what of the text a class must have -/
structure Cls (K : PySem.W.Frag) (C : Addr) : Prop where
  pg : PySem.W.plainGet K C Str.empty = true
  hd : PySem.W.hasDictIn K C = true
  po : PySem.W.plainOver K C = true
  sa : PySem.W.findIn K (.ref C) "__setattr__" = some (some (.builtin "object.__setattr__"))
theorem Cls.get {K : PySem.W.Frag} {C : Addr} (c : Cls K C) (f : Str) : PySem.W.plainGet K C f = true := c.pg
/-- no class of it has the name -/
def NoAttr (K : PySem.W.Frag) (C : Addr) (f : Str) : Prop := PySem.W.findIn K (.ref C) f = some none
theorem NoAttr.taker {K : PySem.W.Frag} {C : Addr} {f : Str} (n : NoAttr K C f) : PySem.W.takerIn K C f = some none := by
  unfold PySem.W.takerIn
  rw [show PySem.W.findIn K (.ref C) f = some none from n]
  rfl
/-- a constant of the class -/
structure Con (K : PySem.W.Frag) (C : Addr) (f : Str) (v : V) (u : Value) : Prop where
  at_ : PySem.W.findIn K (.ref C) f = some (some u)
  rel : RelV v u
  get : PySem.W.specialIn K u "__get__" = some none
  cp : PySem.W.copiedNames.contains f = false
/-- a method: a plain def of the class or of one above it -/
structure Meth (K : PySem.W.Frag) (C : Addr) (m : Str) (f : Addr) : Prop where
  at_ : PySem.W.findIn K (.ref C) m = some (some (.ref f))
  fn : PySem.W.isFn K (.ref f) = true
  kp : PySem.W.keepIn K (.ref f) = true

section
variable {X : Cx} {pins : List (Addr × Obj)} {σ : St} {H : Hp} {s : Shared} {a C dx : Addr} {fs : List (Str × V)} {f : Str} {v : V} {A : Around} {E : Value → Shared → Prop}

theorem getattr_ok {b : Bool} {Q : Value → Shared → Prop} (I : Inv X pins σ H s) (e : H a = some (.ins C dx fs)) (c : Cls X.K C) (n : NoAttr X.K C f) (l : fs.lookup f = some v)
    (h : ∀ u s', Inv X pins σ H s' → RelV v u → Q u s') : wpAny (model X.prog X.w) A (getAttr (.ref a) f b) Q E s := by
  obtain ⟨mA, O, r, _, _, _⟩ := ins_get I.hok e
  obtain ⟨u, hu, ru⟩ := RelO.some_of (v := v) (o := mA f) (by rw [← l]; exact r f)
  exact get_map I.kIn O (c.get f) c.hd n hu (handed_of ru) (h u _ (I.tok _) ru)

theorem getmeth_ok {m : Str} {g : Addr} {pl : Sem Bool} {Q : Value × List Value → Shared → Prop} (I : Inv X pins σ H s) (e : H a = some (.ins C dx fs)) (c : Cls X.K C) (k : Meth X.K C m g) (l : fs.lookup m = none)
    (h : Q (.ref g, [.ref a]) s) : wpAny (model X.prog X.w) A (getMethod (.ref a) m pl) Q E s := by
  obtain ⟨mA, O, r, _, _, _⟩ := ins_get I.hok e
  have hn : mA m = none := RelO.none_of (by rw [← l]; exact r m)
  exact get_meth I.kIn O (c.get m) k.at_ k.fn hn h

theorem setattr_ok {y : V} {u : Value} {Q : Unit → Shared → Prop} (I : Inv X pins σ H s) (e : H a = some (.ins C dx fs)) (c : Cls X.K C) (n : NoAttr X.K C f) (hl : fs.length < 1000) (ry : RelV y u)
    (h : ∀ s', Inv X pins σ (upd H a (.ins C dx (putF f y fs))) s' → Q () s') : wpAny (model X.prog X.w) A (setAttr (.ref a) f u) Q E s := by
  obtain ⟨mA, O, r, wi, _, ho⟩ := ins_get I.hok e
  have hz : (fs.map (·.1)).length ≤ sizeLine := by rw [List.length_map, sizeLine_eq]; omega
  refine set_map I.kIn O c.sa c.po n.taker c.hd wi hz fun h' O' sb => h _ ?_
  have hd : ∃ o, h'.get? dx = some o := let ⟨o, _, _, e', _⟩ := O'.ns; ⟨o, e'⟩
  refine I.write (x := a) (e := dx) (by rw [e]; exact True.intro) (.inr ho) (fun b q hb z => (sb.2 b hb).trans z) hd ?_
  refine ⟨by rw [upd_ne O.ne]; exact ho, ?_, O.ne, O'.obj, _, O'.ns, fun g => ?_, fun g hg => ?_⟩
  · have := length_putF f y fs; omega
  · show RelO ((putF f y fs).lookup g) (if g = f then some u else mA g)
    rw [lookup_putF]
    by_cases q : g = f
    · rw [if_pos q, if_pos q]; exact ry
    · rw [if_neg q, if_neg q]; exact r g
  · by_cases q : g = f
    · rw [q]; exact (keys_putF f y fs).1
    · refine (keys_putF f y fs).2 g (wi g fun z => hg ?_)
      show (if g = f then some u else mA g) = none
      rw [if_neg q]; exact z

/-- a new instance, tracked, without attributes -/
theorem Inv.made (I : Inv X pins σ H s) : Inv X pins σ (upd (upd H s.heap.objs.size (.own (s.heap.objs.size + 1))) (s.heap.objs.size + 1) (.ins C s.heap.objs.size []))
    { s with heap := (s.heap.push PySem.W.emptyDict).push (PySem.W.instObj C s.heap.objs.size) } := by
  have e1 : (s.heap.push PySem.W.emptyDict).get? s.heap.objs.size = some PySem.W.emptyDict := Heap.get?_push_size s.heap rfl
  have e2 : ((s.heap.push PySem.W.emptyDict).push (PySem.W.instObj C s.heap.objs.size)).get? (s.heap.objs.size + 1) = some (PySem.W.instObj C s.heap.objs.size) := by
    have := Heap.get?_push_size (s.heap.push PySem.W.emptyDict) (o := PySem.W.instObj C s.heap.objs.size) rfl
    rwa [Heap.size_push] at this
  have e3 : (s.heap.push PySem.W.emptyDict).Ns s.heap.objs.size (fun _ => none) := ⟨PySem.W.emptyDict, #[], _, e1, rfl, (fun e he => absurd he (by simp)), fun _ => rfl⟩
  have I1 := I.laid (a := s.heap.objs.size) (o := .own (s.heap.objs.size + 1)) (h' := s.heap.push PySem.W.emptyDict) (t' := s.toks) (fun b u q => Heap.get?_push_of_some _ q) (Nat.le_refl _) ⟨_, e1⟩
  refine I1.laid (a := s.heap.objs.size + 1) (o := .ins C s.heap.objs.size []) (t' := s.toks) (fun b u q => Heap.get?_push_of_some _ q) (Nat.le_of_eq (Heap.size_push _ _)) ?_
  have ne : s.heap.objs.size ≠ s.heap.objs.size + 1 := Nat.ne_of_lt (Nat.lt_succ_self _)
  refine ⟨by rw [upd_ne ne, upd_same], Nat.zero_le _, ne, e2, fun _ => none, (Heap.Ns1.of_empty e3).at fun o q => Heap.get?_push_of_some _ q, fun _ => True.intro, fun y hy => absurd rfl hy⟩

/-- e.f where nothing but the object is asked: through attributeBase (super) and the last hold -/
theorem attr_of {prog : Program} {w : World} {env : Env} {e : Expr} {f : Str} {pos : Pos} {s : Shared} {Q : Value → Shared → Prop} (hb : attributeBase e f env (eval e env) = eval e env)
    (h : wpAny (model prog w) A (eval e env) (fun o s₁ => wpAny (model prog w) A (getAttr o f true) Q E s₁) E s) : wpAny (model prog w) A (eval (.Attribute e f pos) env) Q E s :=
  Attribute_any_ h (by rw [arm_eval_Attribute, hb])
end

/-! ### readings and rules -/
/-- e.f, an attribute of the instance -/
def tFld (K : PySem.W.Frag) (ta : TE) (f : Str) : TE := fun σ H Q => ta σ H fun x H1 => ∃ a C dx fs v, x = .ref a ∧ H1 a = some (.ins C dx fs) ∧ Cls K C ∧ NoAttr K C f ∧ fs.lookup f = some v ∧ Q v H1
/-- e.f = value -/
def sFld (K : PySem.W.Frag) (ta tv : TE) (f : Str) : TS := fun D σ H => tv σ H fun y H1 => ta σ H1 fun x H2 => ∃ a C dx fs, x = .ref a ∧ H2 a = some (.ins C dx fs) ∧ Cls K C ∧ NoAttr K C f ∧ fs.length < 1000 ∧
  D.nx σ (upd H2 a (.ins C dx (putF f y fs)))
section
variable {X : Cx} {o e value : Expr} {f : Str} {pos pos' tpos : Pos} {ta tv : TE}
theorem pe_fld (he : PE X e ta) (hb : attributeBase e f X.env (eval e X.env) = eval e X.env) : PE X (.Attribute e f pos) (tFld X.K ta f) := by
  intro pins s σ H Q I h
  refine attr_of hb (thn (he pins s σ H _ I h) fun u s1 ⟨x, H1, I1, rx, a, C, dx, fs, v, ex, ea, c, n, l, q⟩ => ?_)
  subst ex
  obtain rfl : u = Value.ref a := rx
  exact getattr_ok I1 ea c n l fun u' s2 I2 ru => ⟨v, H1, I2, ru, q⟩
theorem ps_fld (ha : PE X o ta) (hv : PE X value tv) (hs : swapsWith value (some (.Attribute o f pos')) pos.line X.env = pure false) : PS X (.Assign [.Attribute o f pos'] value pos) (sFld X.K ta tv f) := by
  intro pins s σ H D I h
  refine plainObj_wpAny_Assign_Attribute (thn (hv pins s σ H _ I h) fun u s1 ⟨y, H1, I1, ry, q⟩ => thn (ha pins s1 σ H1 _ I1 q) fun ov s2 ⟨x, H2, I2, rx, a, C, dx, fs, ex, ea, c, n, l, q2⟩ => ?_) hs
  subst ex
  obtain rfl : ov = Value.ref a := rx
  exact setattr_ok I2 ea c n l ry fun s3 I3 => ⟨σ, _, I3, q2⟩
end

/-! ### isinstance -/
section
variable {X : Cx} {pins : List (Addr × Obj)} {σ : St} {H : Hp} {s : Shared} {A : Around} {E : Value → Shared → Prop} {Q : Value → Shared → Prop} {c : Value} {b : Bool}
/-- the type of a value, as the fragment's deciders take it; for an instance its class -/
inductive TyOf (K : PySem.W.Frag) (H : Hp) : V → Value → Prop where
  | non : TyOf K H .non (.type "NoneType")
  | bl (x : Bool) : TyOf K H (.bl x) (.type "bool")
  | int (i : Int) : TyOf K H (.int i) (.type "int")
  | str (x : Str) : TyOf K H (.str x) (.type "str")
  | flt (x : UInt64) : TyOf K H (.flt x) (.type "float")
  | lst {a : Addr} {xs : List V} (e : H a = some (.lst xs)) : TyOf K H (.ref a) (.type "list")
  | frz {a : Addr} {o : Obj} {xs : List V} (e : H a = some (.frz o (.lst xs))) : TyOf K H (.ref a) (.type "list")
  | tup {a : Addr} {xs : List V} (e : H a = some (.tup xs)) : TyOf K H (.ref a) (.type "tuple")
  | dK {a : Addr} {kvs : List (Key × V)} (e : H a = some (.dK kvs)) : TyOf K H (.ref a) (.type "dict")
  | dT {a : Addr} {kvs : List (List Key × V)} (e : H a = some (.dT kvs)) : TyOf K H (.ref a) (.type "dict")
  | ins {a C dx : Addr} {fs : List (Str × V)} (e : H a = some (.ins C dx fs)) (cl : Cls K C) (ha : PySem.W.findIn K (.ref C) "__class__" = some (some (.builtin "object.__class__")))
      (hn : PySem.W.specialIn K (.builtin "object.__class__") "__get__" = some (some (.builtin "getset_descriptor.__get__"))) (htk : PySem.W.takesIn K (.builtin "object.__class__") = some true)
      (hm : PySem.W.mroIn K C (.type "object") = some true) : TyOf K H (.ref a) (.ref C)
/-- isinstance(x, c) for one class c, a built-in or an own one: kitOne's answer -/
theorem isinst_ok {x : V} {u t : Value} (I : Inv X pins σ H s) (rx : RelV x u) (ty : TyOf X.K H x t) (e : PySem.W.kitOne X.K t c = some b) (h : ∀ tk, Q (.bool b) { s with toks := tk }) :
    wpAny (model X.prog X.w) A (call (.builtin "isinstance") [u, c]) Q E s := by
  cases ty with
  | non => cases (show u = Value.none from rx); exact PySem.W.kia_one PySem.W.kitx_none I.kIn True.intro e (fun z => nomatch z) h
  | bl y => cases (show u = Value.bool y from rx); exact PySem.W.kia_one PySem.W.kitx_bool I.kIn True.intro e (fun z => nomatch z) h
  | int i => obtain ⟨t, q⟩ := (show ∃ t, u = Value.int i t from rx); cases q; exact PySem.W.kia_one PySem.W.kitx_int I.kIn True.intro e (fun z => nomatch z) h
  | str y => obtain ⟨t, q⟩ := (show ∃ t, u = Value.str y t from rx); cases q; exact PySem.W.kia_one PySem.W.kitx_str I.kIn True.intro e (fun z => nomatch z) h
  | flt y => obtain ⟨t, q⟩ := (show ∃ t, u = Value.float y t from rx); cases q; exact PySem.W.kia_one PySem.W.kitx_float I.kIn True.intro e (fun z => nomatch z) h
  | @lst a xs ea =>
    cases (show u = Value.ref a from rx)
    obtain ⟨_, _, n, _, h1⟩ := (show ObjOk X.prog X.w H s.heap a (.lst xs) from I.hok a _ ea)
    exact PySem.W.kia_one PySem.W.kitx_list I.kIn ⟨_, h1, rfl⟩ e (fun z => nomatch z) h
  | @frz a ob xs ea =>
    cases (show u = Value.ref a from rx)
    obtain ⟨_, _, _, n, _, h1⟩ := (show ObjOk X.prog X.w H s.heap a (.frz ob (.lst xs)) from I.hok a _ ea)
    exact PySem.W.kia_one PySem.W.kitx_list I.kIn ⟨_, h1, rfl⟩ e (fun z => nomatch z) h
  | @tup a xs ea =>
    cases (show u = Value.ref a from rx)
    obtain ⟨_, _, _, p⟩ := (show ObjOk X.prog X.w H s.heap a (.tup xs) from I.hok a _ ea)
    obtain ⟨o, h1, h2, _⟩ := p
    exact PySem.W.kia_one PySem.W.kitx_tuple I.kIn ⟨o, h1, h2⟩ e (fun z => nomatch z) h
  | @dK a kvs ea =>
    cases (show u = Value.ref a from rx)
    obtain ⟨_, _, vs, _, p⟩ := (show ObjOk X.prog X.w H s.heap a (.dK kvs) from I.hok a _ ea)
    obtain ⟨o, es, ep, h1, h2, _⟩ := p
    exact PySem.W.kia_one PySem.W.kitx_dict I.kIn ⟨o, h1, h2.1⟩ e (fun z => nomatch z) h
  | @dT a kvs ea =>
    cases (show u = Value.ref a from rx)
    obtain ⟨_, _, xs, _, o, es, ep, h1, h2, _⟩ := (show ObjOk X.prog X.w H s.heap a (.dT kvs) from I.hok a _ ea)
    exact PySem.W.kia_one PySem.W.kitx_dict I.kIn ⟨o, h1, h2.1⟩ e (fun z => nomatch z) h
  | @ins a C dx fs ea cl ha hn htk hm =>
    cases (show u = Value.ref a from rx)
    obtain ⟨mA, O, _⟩ := ins_get I.hok ea
    obtain ⟨od, J, _⟩ := O.look
    exact PySem.W.kia_one (PySem.W.kitx_own (cl.get _) cl.hd ha hn htk hm) I.kIn J e (fun z => nomatch z) h
end
end L2

namespace L2
open PySem PySem.Spec PyProof.Rows

/-! ### room -/
structure Room (k : Nat) (A : Around) : Prop where
  hd : A.handled = none
  dp : A.depth + 3 * k + 5 < recursionLimit
  un : A.units + 16 * k + 200 < cLine
theorem Room.mono {j k : Nat} {A : Around} (r : Room k A) (h : j ≤ k) : Room j A := ⟨r.hd, by have := r.dp; omega, by have := r.un; omega⟩
theorem Room.deeper {k : Nat} {A : Around} (r : Room (k + 1) A) (env : Env) : Room k (A.deeper env) :=
  ⟨r.hd, by have := r.dp; show A.depth + 1 + 3 * k + 5 < _; omega, by have := r.un; show A.units + 3 + 16 * k + 200 < _; omega⟩
theorem Room.in1 {k : Nat} {A : Around} (r : Room (k + 1) A) : Room k A.in1 :=
  ⟨r.hd, by have := r.dp; show A.depth + 3 * k + 5 < _; omega, by have := r.un; show A.units + 1 + 16 * k + 200 < _; omega⟩
theorem make_depth {A : Around} {C : Addr} {us : List Value} {kw : List (Str × Value)} : (A.under (.builtin "type.__call__" ⟨.ref C :: us, kw⟩)).depth = A.depth + 1 := by
  first | rfl | simp [Around.under, Code.weight, Code.isCreation, Code.isGuard, Code.isCaller, Code.frames, Code.isFrame, guardIds]
theorem make_units {A : Around} {C : Addr} {us : List Value} {kw : List (Str × Value)} : (A.under (.builtin "type.__call__" ⟨.ref C :: us, kw⟩)).units = A.units + 1 := by
  first | rfl | simp [Around.under, Code.cUnits, Code.frames, Code.isFrame]
theorem Room.make {k : Nat} {A : Around} (r : Room (k + 1) A) (C : Addr) (us : List Value) (kw : List (Str × Value)) : Room k (A.under (.builtin "type.__call__" ⟨.ref C :: us, kw⟩)) :=
  ⟨r.hd, by have := r.dp; rw [make_depth]; omega, by have := r.un; rw [make_units]; omega⟩
theorem Room.depth {k : Nat} {A : Around} (r : Room k A) : A.depth < recursionLimit := by have := r.dp; omega
theorem Room.units {k : Nat} {A : Around} (r : Room k A) : A.units + 64 < cLine := by have := r.un; omega
/-! ### argument lists and displays -/
def tNil : TA := fun _ H Q => Q [] H
def tCons (ta : TE) (tr : TA) : TA := fun σ H Q => ta σ H fun x H1 => tr σ H1 fun xs H2 => Q (x :: xs) H2
section
variable {X : Cx} {e : Expr} {es : List Expr} {te : TE} {t : TA} {pos : Pos}
theorem pa_nil : PA X [] tNil := fun _ _ _ _ H Q I h => Calls.spliced_nil ⟨[], H, I, .nil, h⟩
theorem pa_cons (ha : PE X e te) (hr : PA X es t) (hs : starEach (e :: es) X.env = (false, eval e X.env) :: starEach es X.env := by rfl) : PA X (e :: es) (tCons te t) := by
  intro pos pins s σ H Q I h
  rw [hs]
  show wpAny _ _ (spliced ((false, eval e X.env) :: backTo pos (starEach es X.env))) _ _ s
  refine Calls.spliced_cons (thn (ha pins s σ H _ I h) fun u s1 ⟨x, H1, I1, r1, q1⟩ => ?_)
  exact thn (hr pos pins s1 σ H1 _ I1 q1) fun us s2 ⟨xs, H2, I2, r2, q2⟩ => ⟨x :: xs, H2, I2, .cons r1 r2, q2⟩

/-- a tuple, a list of written items -/
def tTup (t : TA) : TE := fun σ H Q => t σ H fun xs H1 => xs.length ≤ sizeLine ∧ ∀ p, H1 p = none → Q (.ref p) (upd H1 p (.tup xs))
def tLst (t : TA) : TE := fun σ H Q => t σ H fun xs H1 => xs.length ≤ sizeLine ∧ ∀ p, H1 p = none → Q (.ref p) (upd H1 p (.lst xs))
theorem pe_tup {x1} (h : PA X es t) : PE X (.Tuple es x1 pos) (tTup t) := by
  intro pins s σ H Q I hq
  refine wpAny_Tuple_spliced (thn (h pos pins s σ H _ I hq) fun us s1 ⟨xs, H1, I1, r, z, q⟩ => ⟨by rw [← r.length]; exact z, ?_⟩)
  have hf : H1 s1.heap.objs.size = none := I1.hok.fresh (Nat.le_refl _)
  refine ⟨.ref s1.heap.objs.size, upd H1 s1.heap.objs.size (.tup xs), I1.laid (t' := s1.toks) (fun b u e => Heap.get?_push_of_some _ e) (Nat.le_refl _) ?_, rfl, q _ hf⟩
  exact ⟨z, us, r, ⟨_, Heap.get?_push_size _ rfl, rfl, _, rfl⟩⟩
theorem pe_lst (h : PA X es t) : PE X (.List es pos) (tLst t) := by
  intro pins s σ H Q I hq
  refine wpAny_List_spliced (thn (h pos pins s σ H _ I hq) fun us s1 ⟨xs, H1, I1, r, z, q⟩ => ⟨by rw [← r.length]; exact z, ?_⟩)
  have hf : H1 s1.heap.objs.size = none := I1.hok.fresh (Nat.le_refl _)
  refine ⟨.ref s1.heap.objs.size, upd H1 s1.heap.objs.size (.lst xs), I1.laid (t' := s1.toks) (fun b u e => Heap.get?_push_of_some _ e) (Nat.le_refl _) ?_, rfl, q _ hf⟩
  exact ⟨z, us, 0, r, Heap.get?_push_size _ rfl⟩
end

/-! ### what a def promises -/
/-- a def's promise: the bound arguments in the parameters' order, the heap, the wanted end, the wanted exception -/
abbrev Sp := List V → Hp → VK → XK → Prop
/-- how an exception lies behind a call (file 08 gives it): the callers' frames, abstract heap and state ahead of the call, the wish, the exception, the state -/
abbrev CXT := List Env → Hp → Shared → XK → Value → Shared → Prop

/-- the state at a call -/
structure Env0 (P : Program) (w : World) (K : PySem.W.Frag) (mg : Str → Option Value) (base : Heap) (A : Around) (outer : List Env) (s : Shared) (H : Hp) : Prop where
  frames : A.frames = some outer
  mod : Mod K mg base
  bs : ∀ b o, base.get? b = some o → s.heap.get? b = some o ∧ H b = none
  bsz : base.objs.size ≤ s.heap.objs.size
  funs : s.heap.FunFrames base outer
  frf : ∀ b ∈ frs outer, H b = none
  hok : HOk P w H s.heap
  bare : AllBare s.gens
/-- a call's end -/
def CE (outer : List Env) (P : Program) (w : World) (H : Hp) (s : Shared) (Q : VK) (u : Value) (s' : Shared) : Prop :=
  ∃ v H', s'.os = s.os ∧ AllBare s'.gens ∧ Un (frs outer) [] H H' s.heap s'.heap ∧ HOk P w H' s'.heap ∧ RelV v u ∧ Q v H'
def CR (CX : CXT) (outer : List Env) (P : Program) (w : World) (H : Hp) (s : Shared) (Q : VK) (E : XK) (r : Result) (s' : Shared) : Prop :=
  match r with
  | .ok (.ret u) => CE outer P w H s Q u s'
  | .ok _ => False
  | .error e => CX outer H s E e s'
structure FnOk (P : Program) (w : World) (K : PySem.W.Frag) (mg : Str → Option Value) (base : Heap) (CX : CXT) (k : Nat) (f : Addr) (fd : FuncData) (ps : List Str) (sp : Sp) : Prop where
  len : ∀ vs H Q E, sp vs H Q E → vs.length = ps.length
  run : ∀ (A : Around) (outer : List Env) (s : Shared) (H : Hp) (args : Args) (us : List Value) (vs : List V) (Q : VK) (E : XK), Room k A → Env0 P w K mg base A outer s H → BindsTo s fd args (ps.zip us) → Vals vs us → sp vs H Q E →
    codeAny (model P w) A (.call (.ref f) args) (CR CX outer P w H s Q E) s
theorem FnOk.mono {P : Program} {w : World} {K : PySem.W.Frag} {mg : Str → Option Value} {base : Heap} {CX : CXT} {j k : Nat} {f : Addr} {fd : FuncData} {ps : List Str} {sp : Sp} (F : FnOk P w K mg base CX j f fd ps sp) (h : j ≤ k) :
    FnOk P w K mg base CX k f fd ps sp := ⟨F.len, fun A outer s H args us vs Q E hr => F.run A outer s H args us vs Q E (hr.mono h)⟩
/-- a weaker promise -/
theorem FnOk.imp {P : Program} {w : World} {K : PySem.W.Frag} {mg : Str → Option Value} {base : Heap} {CX : CXT} {k : Nat} {f : Addr} {fd : FuncData} {ps : List Str} {sp sp' : Sp} (F : FnOk P w K mg base CX k f fd ps sp)
    (h : ∀ vs H Q E, sp' vs H Q E → sp vs H Q E) : FnOk P w K mg base CX k f fd ps sp' :=
  ⟨fun vs H Q E q => F.len vs H Q E (h _ _ _ _ q), fun A outer s H args us vs Q E hr he hb hv hs => F.run A outer s H args us vs Q E hr he hb hv (h _ _ _ _ hs)⟩

theorem Env0.make {P : Program} {w : World} {K : PySem.W.Frag} {mg : Str → Option Value} {base : Heap} {A : Around} {outer : List Env} {s : Shared} {H : Hp} (e : Env0 P w K mg base A outer s H) (C : Addr) (us : List Value) (kw : List (Str × Value)) :
    Env0 P w K mg base (A.under (.builtin "type.__call__" ⟨.ref C :: us, kw⟩)) outer s H := ⟨by first | exact e.frames | (simpa [Around.under, Code.envs, Code.isFrame, pushEnvs] using e.frames), e.mod, e.bs, e.bsz, e.funs, e.frf, e.hok, e.bare⟩
theorem Env0.in1 {P : Program} {w : World} {K : PySem.W.Frag} {mg : Str → Option Value} {base : Heap} {A : Around} {outer : List Env} {s : Shared} {H : Hp} (e : Env0 P w K mg base A outer s H) :
    Env0 P w K mg base A.in1 outer s H := ⟨e.frames, e.mod, e.bs, e.bsz, e.funs, e.frf, e.hok, e.bare⟩

section
variable {X : Cx} {pins : List (Addr × Obj)} {σ : St} {H : Hp} {s s' : Shared}
/-- from a body: what a callee wants -/
theorem Inv.env0 (I : Inv X pins σ H s) : Env0 X.prog X.w X.K X.mg X.base X.A X.stack s H :=
  ⟨I.ok.frames, I.ok.mod, I.bs, Nat.le_trans I.ok.bsz I.sz, I.stack, I.stkFree, I.hok, I.bare⟩
/-- behind a call -/
theorem Inv.after {Q : VK} {u : Value} (I : Inv X pins σ H s) (h : CE X.stack X.prog X.w H s Q u s') : EP X pins σ Q u s' := by
  obtain ⟨v, H', os, bare, un, hok, r, q⟩ := h
  obtain ⟨hh, g, d, t, os'⟩ := s'
  obtain rfl : os' = s.os := os
  exact ⟨v, H', I.call (h' := hh) (g' := g) (d' := d) (t' := t) (ch := []) un hok bare (fun b z => absurd z (by simp)), r, q⟩
end

/-! ### calls -/
/-- f(..): the written arguments, then the defaults dvs; E: what is wanted of an exception -/
def tCall (sp : Sp) (dvs : List V) (E : XK) (t : TA) : TE := fun σ H Q => t σ H fun vs H1 => sp (vs ++ dvs) H1 Q E
/-- o.m(..) of an instance of the class at C -/
def tMeth (C : Addr) (m : Str) (sp : Sp) (dvs : List V) (E : XK) (ta : TE) (t : TA) : TE := fun σ H Q => ta σ H fun x H1 => ∃ a dx fs, x = .ref a ∧ H1 a = some (.ins C dx fs) ∧ fs.lookup m = none ∧
  t σ H1 fun vs H2 => sp (x :: (vs ++ dvs)) H2 Q E
/-- C(..): a new instance and its dict, then __init__ -/
def tMake (C : Addr) (sp : Sp) (dvs : List V) (E : XK) (t : TA) : TE := fun σ H Q => t σ H fun vs H1 => ∀ x dx, H1 x = none → H1 dx = none → dx ≠ x →
  sp (.ref x :: (vs ++ dvs)) (upd (upd H1 dx (.own x)) x (.ins C dx [])) (fun v H2 => v = .non ∧ Q (.ref x) H2) E

/-- how the parameters are bound: us the positional arguments, kw the keywords' values by name, ds the defaults that fill up -/
def Binds (K : PySem.W.Frag) (fd : FuncData) (ps : List Str) (ds : List Value) : Prop :=
  ∀ (s : Shared) (us : List Value), K.In s.heap → (us ++ ds).length = ps.length → BindsTo s fd ⟨us, []⟩ (ps.zip (us ++ ds))
/-- every parameter is given -/
theorem Binds.all {K : PySem.W.Frag} {fd : FuncData} {ps : List Str} (h : ∀ us : List Value, us.length = ps.length → bindArgs fd ⟨us, []⟩ = pure (ps.zip us)) : Binds K fd ps [] := fun s us _ hl => by
  rw [List.append_nil] at hl ⊢
  exact .of_eq (h us hl)

/-- an exception of a callee reaches what this body wants of exceptions -/
def Passes (CX : CXT) (X : Cx) (E : XK) : Prop := ∀ (pins : List (Addr × Obj)) (σ : St) (H : Hp) (s : Shared) (e : Value) (s' : Shared), Inv X pins σ H s → CX X.stack H s E e s' → X.xe e s'

section
variable {X : Cx} {CX : CXT} {k : Nat} {f C : Addr} {fd : FuncData} {ps : List Str} {sp : Sp} {dvs : List V} {ds : List Value} {E : XK} {x m : Str} {p pos apos : Pos} {e o : Expr} {es : List Expr} {ta : TE} {t : TA}

/-- the callee runs -/
theorem run_fn {pins : List (Addr × Obj)} {σ : St} {H : Hp} {s : Shared} {Q : VK} {us : List Value} {vs : List V} (F : FnOk X.prog X.w X.K X.mg X.base CX k f fd ps sp) (hr : Room k X.A) (hb : Binds X.K fd ps ds) (hd : Vals dvs ds) (hx : Passes CX X E)
    (I : Inv X pins σ H s) (r : Vals vs us) (h : sp (vs ++ dvs) H Q E) : wpAny (model X.prog X.w) X.A (call (.ref f) us) (EP X pins σ Q) X.xe s := by
  have r2 : Vals (vs ++ dvs) (us ++ ds) := r.append hd
  have hl : (us ++ ds).length = ps.length := by rw [← r2.length]; exact F.len _ _ _ _ h
  refine wpAny_call (codeAny_mono (F.run X.A X.stack s H ⟨us, []⟩ (us ++ ds) (vs ++ dvs) Q E hr I.env0 (hb s us I.kIn hl) r2 h) fun r s' hq => ?_)
  cases r with
  | error e => exact hx pins σ H s e s' I hq
  | ok fl =>
    cases fl with
    | ret u => exact I.after hq
    | next => exact False.elim hq
    | brk => exact False.elim hq
    | cont => exact False.elim hq

theorem pe_call (F : FnOk X.prog X.w X.K X.mg X.base CX k f fd ps sp) (hr : Room k X.A) (hg : Gl X x) (hm : X.mg x = some (.ref f)) (hk : PySem.W.keepIn X.K (.ref f) = true) (hb : Binds X.K fd ps ds) (hd : Vals dvs ds) (hx : Passes CX X E)
    (ha : PA X (e :: es) t) (hdb : (x == ("__debug__" : Str)) = false := by decide) (he : starEach (e :: es) X.env = (false, eval e X.env) :: starEach es X.env := by rfl) (hpl : (backTo pos (starEach es X.env)).any (·.1) = false := by rfl) :
    PE X (.Call (.Name x p) (e :: es) [] pos) (tCall sp dvs E t) := by
  intro pins s σ H Q I h
  refine wpAny_Call_Name_kw (ld_glob I hg hm ?_ hdb)
  refine PySem.W.callWith_K (h₀ := X.base) I.ok.mod.kin hk (thn (ha pos pins s σ H _ I h) fun us s1 ⟨vs, H1, I1, r, q⟩ => ⟨I1.kIn, ?_⟩) he hpl
  exact run_fn F hr hb hd hx I1 r q
/-- o.m(e, ..) -/
theorem pe_meth {pl : Sem Bool} (he : PE X o ta) (c : Cls X.K C) (hm : Meth X.K C m f) (F : FnOk X.prog X.w X.K X.mg X.base CX k f fd ps sp) (hr : Room k X.A) (hb : Binds X.K fd ps ds) (hd : Vals dvs ds) (hx : Passes CX X E) (ha : PA X (e :: es) t)
    (hst : starEach (e :: es) X.env = (false, eval e X.env) :: starEach es X.env := by rfl) (hpl : (backTo pos (starEach es X.env)).any (·.1) = false := by rfl)
    (ht : eval (.Call (.Attribute o m apos) (e :: es) [] pos) X.env = (do
      let ov ← eval o X.env
      standAt apos.atName
      let (f, first) ← holding [ov] (getMethod ov m pl)
      callWith pos f first (backTo pos (starEach (e :: es) X.env)) (backToKw pos (keywordEach [] X.env))) := by rfl) :
    PE X (.Call (.Attribute o m apos) (e :: es) [] pos) (tMeth C m sp dvs E ta t) := by
  intro pins s σ H Q I h
  refine PySem.W.methodCall_KW (pl := pl) (thn (he pins s σ H _ I h) fun u s1 ⟨x, H1, I1, rx, a, dx, fs, ex, ea, l, q⟩ => ?_) ht
  subst ex
  obtain rfl : u = Value.ref a := rx
  refine getmeth_ok I1 ea c hm l ?_
  refine PySem.W.callWith_K (first := [.ref a]) (h₀ := X.base) I.ok.mod.kin hm.kp (thn (ha pos pins s1 σ H1 _ I1 q) fun us s2 ⟨vs, H2, I2, r, q2⟩ => ⟨I2.kIn, ?_⟩) hst hpl
  exact run_fn (us := .ref a :: us) (vs := .ref a :: vs) F hr hb hd hx I2 (.cons rfl r) q2
/-- o.m() -/
theorem pe_meth0 {pl : Sem Bool} (he : PE X o ta) (c : Cls X.K C) (hm : Meth X.K C m f) (F : FnOk X.prog X.w X.K X.mg X.base CX k f fd ps sp) (hr : Room k X.A) (hb : Binds X.K fd ps ds) (hd : Vals dvs ds) (hx : Passes CX X E)
    (ht : eval (.Call (.Attribute o m apos) [] [] pos) X.env = (do
      let ov ← eval o X.env
      standAt apos.atName
      let (f, first) ← holding [ov] (getMethod ov m pl)
      callWith pos f first (backTo pos (starEach [] X.env)) (backToKw pos (keywordEach [] X.env))) := by rfl) :
    PE X (.Call (.Attribute o m apos) [] [] pos) (tMeth C m sp dvs E ta tNil) := by
  intro pins s σ H Q I h
  refine PySem.W.methodCall_KW (pl := pl) (thn (he pins s σ H _ I h) fun u s1 ⟨x, H1, I1, rx, a, dx, fs, ex, ea, l, q⟩ => ?_) ht
  subst ex
  obtain rfl : u = Value.ref a := rx
  refine getmeth_ok I1 ea c hm l ?_
  exact PySem.W.callWith_K0 (first := [.ref a]) I1.kIn hm.kp (run_fn (us := [.ref a]) (vs := [.ref a]) F hr hb hd hx I1 (.cons rfl .nil) q)

/-- what a class must have to be made -/
structure Mk (K : PySem.W.Frag) (C f : Addr) : Prop where
  makes : PySem.W.makesIn K C = true
  init : PySem.W.findIn K (.ref C) "__init__" = some (some (.ref f))
  fn : PySem.W.isFn K (.ref f) = true
  kp : PySem.W.keepIn K (.ref C) = true

theorem run_make {pins : List (Addr × Obj)} {σ : St} {H : Hp} {s : Shared} {Q : VK} {us : List Value} {vs : List V} (M : Mk X.K C f) (F : FnOk X.prog X.w X.K X.mg X.base CX k f fd ps sp) (hr : Room (k + 1) X.A) (hb : Binds X.K fd ps ds) (hd : Vals dvs ds)
    (hx : Passes CX X E) (I : Inv X pins σ H s) (r : Vals vs us)
    (h : ∀ x dx, H x = none → H dx = none → dx ≠ x → sp (.ref x :: (vs ++ dvs)) (upd (upd H dx (.own x)) x (.ins C dx [])) (fun v H2 => v = .non ∧ Q (.ref x) H2) E) :
    wpAny (model X.prog X.w) X.A (call (.ref C) us) (EP X pins σ Q) X.xe s := by
  have hq := h (s.heap.objs.size + 1) s.heap.objs.size (I.hok.fresh (Nat.le_succ _)) (I.hok.fresh (Nat.le_refl _)) (Nat.ne_of_lt (Nat.lt_succ_self _))
  have I2 := Inv.made (C := C) I
  have r2 : Vals (V.ref (s.heap.objs.size + 1) :: (vs ++ dvs)) (Value.ref (s.heap.objs.size + 1) :: (us ++ ds)) := .cons rfl (r.append hd)
  have hl : (Value.ref (s.heap.objs.size + 1) :: us ++ ds).length = ps.length := by
    have e := r2.length
    rw [F.len _ _ _ _ hq] at e
    exact e.symm
  refine wpAny_call (make_map (f := f) I.kIn M.makes M.init (beq_iff_eq.mp M.fn) (codeAny_mono (F.run _ X.stack _ _ ⟨Value.ref (s.heap.objs.size + 1) :: us, []⟩ (Value.ref (s.heap.objs.size + 1) :: (us ++ ds)) _ _ E (hr.make C us [])
    (I2.env0.make C us []) (hb _ (Value.ref (s.heap.objs.size + 1) :: us) I2.kIn hl) r2 hq) fun r s' hq' => ?_))
  cases r with
  | error e => exact hx pins σ _ _ e s' I2 hq'
  | ok fl =>
    cases fl with
    | ret u =>
      obtain ⟨v, H', I3, rv, ev, q3⟩ := I2.after hq'
      subst ev
      exact ⟨rv, ⟨V.ref (s.heap.objs.size + 1), H', I3, rfl, q3⟩⟩
    | next => exact False.elim hq'
    | brk => exact False.elim hq'
    | cont => exact False.elim hq'
theorem pe_make (M : Mk X.K C f) (F : FnOk X.prog X.w X.K X.mg X.base CX k f fd ps sp) (hr : Room (k + 1) X.A) (hg : Gl X x) (hm : X.mg x = some (.ref C)) (hb : Binds X.K fd ps ds) (hd : Vals dvs ds) (hx : Passes CX X E)
    (ha : PA X (e :: es) t) (hdb : (x == ("__debug__" : Str)) = false := by decide) (he : starEach (e :: es) X.env = (false, eval e X.env) :: starEach es X.env := by rfl) (hpl : (backTo pos (starEach es X.env)).any (·.1) = false := by rfl) :
    PE X (.Call (.Name x p) (e :: es) [] pos) (tMake C sp dvs E t) := by
  intro pins s σ H Q I h
  refine wpAny_Call_Name_kw (ld_glob I hg hm ?_ hdb)
  refine PySem.W.callWith_K (h₀ := X.base) I.ok.mod.kin M.kp (thn (ha pos pins s σ H _ I h) fun us s1 ⟨vs, H1, I1, r, q⟩ => ⟨I1.kIn, ?_⟩) he hpl
  exact run_make M F hr hb hd hx I1 r q
end

/-! ### keywords -/
section
variable {X : Cx} {CX : CXT} {k : Nat} {f C : Addr} {fd : FuncData} {ps ks : List Str} {sp : Sp} {E : XK} {x m : Str} {p pos apos kpos : Pos} {e o : Expr} {es : List Expr} {kws : List Keyword} {te ta : TE} {t tk : TA} {nm : Option Str}
/-- how a call with keywords binds: g puts the positional values us and the keywords' values ws (names ks) in the parameters' order, defaults among them -/
structure KBinds (K : PySem.W.Frag) (fd : FuncData) (ps ks : List Str) (g : List Value → List Value → List Value) (gV : List V → List V → List V) : Prop where
  to : ∀ (s : Shared) (us ws : List Value), K.In s.heap → (g us ws).length = ps.length → BindsTo s fd ⟨us, ks.zip ws⟩ (ps.zip (g us ws))
  rel : ∀ {vs : List V} {us : List Value} {zs : List V} {ws : List Value}, Vals vs us → Vals zs ws → Vals (gV vs zs) (g us ws)
variable {g : List Value → List Value → List Value} {gV : List V → List V → List V}
end

/-! ### a def's body keeps its promise -/
/-- names: the parameters first -/
structure FnScope (N P : List Str) (sc : Scope) : Prop where
  kind : sc.kind = .function
  co : sc.isCoroutine = false
  gen : sc.isGenerator = false
  nd : N.Nodup
  pre : N.take P.length = P
  par : ∀ x ∈ P, sc.names.lookup x = some .local ∨ sc.names.lookup x = some .cell
  nofree : ∀ y ∈ sc.names, y.2 ≠ .free

theorem bindL_out {kindOf : Str → Option NameKind} {x : Str} : ∀ {binds : List (Str × Value)} {m : Str → Option Value}, (∀ v, (x, v) ∉ binds) → bindL kindOf binds m x = m x
  | [], _, _ => rfl
  | (n, v) :: r, m, h => by
    unfold bindL
    rw [bindL_out fun w hw => h w (List.mem_cons_of_mem _ hw)]
    split
    · have : x ≠ n := by rintro rfl; exact h v List.mem_cons_self
      simp [this]
    · rfl
theorem bindC_out {kindOf : Str → Option NameKind} {x : Str} : ∀ {binds : List (Str × Value)} {m : Str → Option Value}, (∀ v, (x, v) ∉ binds) → bindC kindOf binds m x = m x
  | [], _, _ => rfl
  | (n, v) :: r, m, h => by
    unfold bindC
    rw [bindC_out fun w hw => h w (List.mem_cons_of_mem _ hw)]
    split
    · rfl
    · have : x ≠ n := by rintro rfl; exact h v List.mem_cons_self
      simp [this]
theorem bindL_get {kindOf : Str → Option NameKind} {x : Str} {v : Value} : ∀ {P : List Str} {vs : List Value} {i : Nat} {m : Str → Option Value}, P.Nodup → P[i]? = some x → vs[i]? = some v → kindOf x = some .local →
    bindL kindOf (P.zip vs) m x = some v
  | [], _, _, _, _, h, _, _ => by simp at h
  | _ :: _, [], _, _, _, _, h, _ => by simp at h
  | p :: P, w :: vs, 0, m, nd, h1, h2, hk => by
    simp at h1 h2; subst h1; subst h2
    show bindL kindOf ((p, w) :: P.zip vs) m p = _
    unfold bindL
    rw [bindL_out fun v hv => (List.nodup_cons.mp nd).1 (List.of_mem_zip hv).1, if_pos hk]
    simp
  | p :: P, w :: vs, i + 1, m, nd, h1, h2, hk => by
    show bindL kindOf ((p, w) :: P.zip vs) m x = _
    unfold bindL
    exact bindL_get (i := i) (List.nodup_cons.mp nd).2 (by simpa using h1) (by simpa using h2) hk
theorem bindC_get {kindOf : Str → Option NameKind} {x : Str} {v : Value} : ∀ {P : List Str} {vs : List Value} {i : Nat} {m : Str → Option Value}, P.Nodup → P[i]? = some x → vs[i]? = some v → kindOf x ≠ some .local →
    bindC kindOf (P.zip vs) m x = some v
  | [], _, _, _, _, h, _, _ => by simp at h
  | _ :: _, [], _, _, _, _, h, _ => by simp at h
  | p :: P, w :: vs, 0, m, nd, h1, h2, hk => by
    simp at h1 h2; subst h1; subst h2
    show bindC kindOf ((p, w) :: P.zip vs) m p = _
    unfold bindC
    rw [bindC_out fun v hv => (List.nodup_cons.mp nd).1 (List.of_mem_zip hv).1, if_neg hk]
    simp
  | p :: P, w :: vs, i + 1, m, nd, h1, h2, hk => by
    show bindC kindOf ((p, w) :: P.zip vs) m x = _
    unfold bindC
    exact bindC_get (i := i) (List.nodup_cons.mp nd).2 (by simpa using h1) (by simpa using h2) hk

/-- the names' values at the entry -/
def start (N : List Str) (vs : List V) : St := vs.map some ++ List.replicate (N.length - vs.length) none

/-- the context of a def's body, at its entry; an exception leaves the frame, then lies as CX says -/
def cxOf (CX : CXT) (P : Program) (w : World) (K : PySem.W.Frag) (mg : Str → Option Value) (base : Heap) (N : List Str) (qual : Str) (scope : Scope) (f : Addr) (cd : Value) (A : Around) (outer : List Env) (s : Shared) (H : Hp) (E : XK) : Cx where
  prog := P
  w := w
  K := K
  mg := mg
  base := base
  A := A.deeper (envOfC qual scope s.heap.objs.size f cd)
  N := N
  s₀ := s
  H₀ := H
  env := envOfC qual scope s.heap.objs.size f cd
  outer := outer
  stack := envOfC qual scope s.heap.objs.size f cd :: outer
  ex := []
  calm := true
  fn := fun _ => true
  pn := []
  xe := fun e s' => wpAny (model P w) (A.deeper (envOfC qual scope s.heap.objs.size f cd)) (leaving (envOfC qual scope s.heap.objs.size f cd) e) (fun _ s'' => CX outer H s E e s'') (fun e' s'' => CX outer H s E e' s'') s'

theorem cell_has {sc : Scope} {n : Nat} {x : Str} (h : sc.names.lookup x = some .cell) : ∃ c, (cellsFrom n sc.names []).lookup x = some c := by
  have q := PySem.W.cellsFrom_some sc.names n [] (.inl h)
  exact Option.isSome_iff_exists.mp q

theorem inv_start {CX : CXT} {P : Program} {w : World} {K : PySem.W.Frag} {mg : Str → Option Value} {base : Heap} {N ps : List Str} {qual : Str} {scope : Scope} {f : Addr} {cd : Value} {A : Around} {outer : List Env} {s s1 : Shared} {H : Hp} {E : XK} {us : List Value} {vs : List V}
    (S : FnScope N ps scope) (hd : A.handled = none) (e0 : Env0 P w K mg base A outer s H) (hl : vs.length = ps.length) (r : Vals vs us)
    (x : InCallC s s.heap.objs.size (bindL (envOfC qual scope s.heap.objs.size f cd).kindOf (ps.zip us) fun _ => none) (cellsFrom (s.heap.objs.size + 1) scope.names []) (bindC (envOfC qual scope s.heap.objs.size f cd).kindOf (ps.zip us) fun _ => none) s1) :
    Inv (cxOf CX P w K mg base N qual scope f cd A outer s H E) [] (start N vs) H s1 := by
  have hpl : ps.length ≤ N.length := by have := congrArg List.length S.pre; rw [List.length_take] at this; omega
  obtain ⟨h1, tk, rfl, hk⟩ := x.done
  have noA : ∀ b : Addr, b ∉ (cxOf CX P w K mg base N qual scope f cd A outer s H E).ex := fun b z => absurd (show b ∈ ([] : List Addr) from z) (by simp)
  refine ⟨⟨e0.mod, S.kind, rfl, rfl, Nat.le_refl _, fun y z c h1 h2 => ?_, fun y hy => ?_, fun y c _ h => ?_, fun _ => hd, Around.frames_deeper e0.frames, .inr ⟨rfl, rfl⟩, fun b z => absurd z (noA b), e0.bs, e0.bsz, fun b _ _ => noA b, fun b z => absurd z (noA b), e0.funs, e0.frf⟩,
    rfl, e0.bare, Un.kept hk, ⟨_, x.toInCall.ns, fun i y v h1 h2 h3 => ?_⟩, fun y c h => ⟨_, x.cell y c h⟩, e0.hok.fresh (Nat.le_refl _), fun y c h => ?_, fun p hp => absurd (show p ∈ ([] : List (Addr × Obj)) from hp) (by simp), e0.hok.kept hk, ?_⟩
  · exact name_of_addr x.apart (PySem.mem_of_lookup h1) (PySem.mem_of_lookup h2)
  · have hy : scope.names.lookup y = some .cell ∨ scope.names.lookup y = some .free := hy
    rcases hy with hy | hy
    · exact cell_has hy
    · exact absurd rfl (S.nofree _ (PySem.mem_of_lookup hy))
  · exact Nat.le_of_lt (x.above y c (PySem.mem_of_lookup h))
  · have hi : i < vs.length := by
      unfold start at h2
      by_cases hi : i < vs.length
      · exact hi
      · rw [List.getElem?_append_right (by simpa using hi)] at h2
        rw [List.getElem?_replicate] at h2
        split at h2 <;> cases h2
    have ha : vs[i]? = some v := by
      unfold start at h2
      rw [List.getElem?_append_left (by simpa using hi), List.getElem?_map] at h2
      cases e : vs[i]? with
      | none => rw [e] at h2; cases h2
      | some a => rw [e] at h2; cases h2; rfl
    obtain ⟨u, hu, rv⟩ := r.get ha
    have hp : ps[i]? = some y := by
      rw [← S.pre, List.getElem?_take_of_lt (by omega)]; exact h1
    have ndP : ps.Nodup := by rw [← S.pre]; exact S.nd.sublist (List.take_sublist _ _)
    refine ⟨u, rv, ?_⟩
    rcases S.par y (List.mem_of_getElem? hp) with k | k
    · exact .inl ⟨k, bindL_get ndP hp hu k⟩
    · obtain ⟨c, e⟩ := cell_has (n := s.heap.objs.size + 1) k
      refine .inr ⟨.inl k, c, e, ?_⟩
      have q := x.cell y c e
      rw [bindC_get ndP hp hu (by show scope.names.lookup y ≠ _; rw [k]; decide)] at q
      exact q
  · exact e0.hok.fresh (Nat.le_of_lt (x.above y c (PySem.mem_of_lookup h)))
  · unfold start
    show _ = N.length
    rw [List.length_append, List.length_map, List.length_replicate]
    omega

/-- THE RULE: a def (or a method) of the text, by its body. The body's reading t is chosen for each entry; it is run at the parameters' values -/
theorem fn_of {CX : CXT} {P : Program} {w : World} {K : PySem.W.Frag} {mg : Str → Option Value} {base : Heap} {k : Nat} {f : Addr} {name qual : Str} {params : Arguments} {body : List Stmt} {scope : Scope} {dV kV doc pm cdv ct oc : Value} {an od : Option Addr}
    {osl : Array (Option Value)} {N ps : List Str} {sp : Sp} (lk : K.lookup f = some ⟨oc, od, .func (PySem.W.fnOf name qual params body scope dV kV doc pm an cdv ct), osl⟩) (hcd : PySem.W.codeIn K cdv qual = true) (S : FnScope N ps scope)
    (len : ∀ vs H Q E, sp vs H Q E → vs.length = ps.length)
    (hbody : ∀ (A : Around) (outer : List Env) (s : Shared) (H : Hp) (vs : List V) (Q : VK) (E : XK), Room k (A.deeper (envOfC qual scope s.heap.objs.size f cdv)) → sp vs H Q E →
      ∃ t, PSs (cxOf CX P w K mg base N qual scope f cdv A outer s H E) body t ∧ t { nx := fun _ H' => Q .non H', rt := Q } (start N vs) H) :
    FnOk P w K mg base CX (k + 1) f (PySem.W.fnOf name qual params body scope dV kV doc pm an cdv ct) ps sp := by
  refine ⟨len, fun A outer s H args us vs Q E hr e0 hb r hsp => ?_⟩
  have hl := len _ _ _ _ hsp
  have KX : K.In s.heap := e0.mod.kin.keeps fun b o e => (e0.bs b o e).1
  have lim : s.heap.NoLimit := e0.mod.nolimit.keeps fun b o e => (e0.bs b o e).1
  have hkind : ∀ y ∈ ps.zip us, scope.names.lookup y.1 = some .local ∨ (scope.names.lookup y.1 = some .cell ∧ ((cellsFrom (s.heap.objs.size + 1) scope.names []).lookup y.1).isSome = true) := fun ⟨n, v⟩ hy => by
    rcases S.par n (List.of_mem_zip hy).1 with q | q
    · exact .inl q
    · exact .inr ⟨q, PySem.W.cellsFrom_some _ _ _ (.inl q)⟩
  refine codeAny_call_function hr.depth (KX _ _ lk) rfl S.co S.gen rfl (PySem.W.codeRec_of KX hcd) (hb _ _ _ _ ?_)
  refine wpAny_newFunctionEnv_cells S.kind hkind fun env he s1 x => ?_
  subst he
  refine ⟨lim.keeps x.toInCall.keep, codeAny_func ?_⟩
  obtain ⟨t, ht, hq⟩ := hbody A outer s H vs Q E (hr.deeper _) hsp
  have I : Inv (cxOf CX P w K mg base N qual scope f cdv A outer s H E) [] (start N vs) H s1 := inv_start S hr.hd e0 hl r x
  refine wpAny_mono (ht [] s1 (start N vs) H _ I hq) (fun fl s' hs => ?_) fun e s' hs => hs
  have fin : ∀ {σ' : St} {H' : Hp} {v : V} {u : Value}, Inv (cxOf CX P w K mg base N qual scope f cdv A outer s H E) [] σ' H' s' → RelV v u → Q v H' → CE outer P w H s Q u s' :=
    fun {σ' H' v u} J rv q => ⟨v, H', J.os, J.bare, J.base, J.hok, rv, q⟩
  cases fl with
  | ret u =>
    obtain ⟨v, σ', H', J, rv, q⟩ := hs
    exact fin J rv q
  | next =>
    obtain ⟨σ', H', J, q⟩ := hs
    exact fin (v := V.non) (u := Value.none) J rfl q
  | brk =>
    obtain ⟨_, _, _, q⟩ := hs
    exact False.elim q
  | cont =>
    obtain ⟨_, _, _, q⟩ := hs
    exact False.elim q
end L2

namespace L2
open PySem PySem.Spec PyProof.Rows
section
variable {X : Cx} {x : Str} {p pos : Pos} {e : Expr} {es : List Expr} {t : TA} {id T : String} {r : List V → Hp → VK → Prop}

def tCB (r : List V → Hp → VK → Prop) (t : TA) : TE := fun σ H Q => t σ H fun vs H1 => r vs H1 Q
/-- f(e, ..), f a built-in function -/
theorem pe_callB (hc : CallR X (.builtin id) r) (hg : Gl X x) (hm : X.mg x = none) (hv : bootBuiltins x = some (.builtin id)) (ha : PA X (e :: es) t) (hn : x ≠ "__name__" := by decide) (hdb : (x == ("__debug__" : Str)) = false := by decide)
    (he : starEach (e :: es) X.env = (false, eval e X.env) :: starEach es X.env := by rfl) (hpl : (backTo pos (starEach es X.env)).any (·.1) = false := by rfl) : PE X (.Call (.Name x p) (e :: es) [] pos) (tCB r t) := by
  intro pins s σ H Q I h
  refine wpAny_Call_Name_kw (ld_blt I hg hm hv ?_ hn hdb)
  exact PyProof.Rows.callWith_builtin1 (thn (ha pos pins s σ H _ I h) fun us s1 ⟨vs, H1, I1, r1, q1⟩ => hc pins s1 σ H1 vs us Q I1 r1 q1) he hpl
/-- T(e, ..), T a built-in type -/
theorem pe_callTy (hc : CallR X (.type T) r) (hg : Gl X x) (hm : X.mg x = none) (hv : bootBuiltins x = some (.type T)) (ha : PA X (e :: es) t) (hn : x ≠ "__name__" := by decide) (hdb : (x == ("__debug__" : Str)) = false := by decide)
    (he : starEach (e :: es) X.env = (false, eval e X.env) :: starEach es X.env := by rfl) (hpl : (backTo pos (starEach es X.env)).any (·.1) = false := by rfl) : PE X (.Call (.Name x p) (e :: es) [] pos) (tCB r t) := by
  intro pins s σ H Q I h
  refine wpAny_Call_Name_kw (ld_blt I hg hm hv ?_ hn hdb)
  exact PyProof.Rows.callWith_type1 (thn (ha pos pins s σ H _ I h) fun us s1 ⟨vs, H1, I1, r1, q1⟩ => hc pins s1 σ H1 vs us Q I1 r1 q1) he hpl
end
end L2

namespace HT
open PySem PyProof.Rows

section
open PySem.SeqAt
open PySem.AutoSeq1 (wpAny_loadPart')
open PySem.MeetsSeq PySem.MeetsSeq2 PySem.MeetsSeq3

end

section
variable {prog : Program} {w : World} {A : Around} {E : Value → Shared → Prop} {s : Shared}

/-! ### t[a:b], not the whole -/
end
end HT

namespace L2
open PySem PySem.Spec PyProof.Rows

/-! ### the parts of a slice -/
abbrev TO := St → Hp → (Option Int → Hp → Prop) → Prop
/-- a slice's part (left out, or an int) -/
def PO (X : Cx) (e : Option Expr) (t : TO) : Prop :=
  ∀ (pins : List (Addr × Obj)) (s : Shared) (σ : St) (H : Hp) (Q : Option Int → Hp → Prop), Inv X pins σ H s → t σ H Q →
    wpAny (model X.prog X.w) X.A (evalPart e X.env) (fun u s' => ∃ o H', Inv X pins σ H' s' ∧ IsPart u o ∧ Q o H') X.xe s
section
variable {X : Cx} {e : Expr} {te : TE} {lo hi : Option Expr} {tl th : TO} {pos p2 : Pos}

/-! ### t < u, t + u -/
end
end L2

namespace L2
open PySem PySem.Spec PyProof.Rows

/-! ### places -/
/-- the place that an index of any sign means -/
def ixN (n : Nat) (i : Int) : Option Nat := if 0 ≤ i then (if i < n then some i.toNat else none) else if -(n : Int) ≤ i then some (i + n).toNat else none
def atI {α : Type} (xs : List α) (i : Int) : Option α := (ixN xs.length i).bind fun j => xs[j]?
theorem ixN_seq {n : Nat} {i : Int} {j : Nat} (h : ixN n i = some j) : seqIndex? i n = some j ∧ j < n ∧ -(n : Int) ≤ i ∧ i < n := by
  unfold ixN at h
  by_cases h0 : 0 ≤ i
  · rw [if_pos h0] at h
    by_cases h1 : i < n
    · rw [if_pos h1] at h
      have e : i.toNat = j := Option.some.inj h
      exact ⟨by rw [seqIndex_of h0 h1, e], by omega, by omega, h1⟩
    · rw [if_neg h1] at h; cases h
  · rw [if_neg h0] at h
    by_cases h1 : -(n : Int) ≤ i
    · rw [if_pos h1] at h
      have e : (i + n).toNat = j := Option.some.inj h
      exact ⟨by rw [seqIndex_neg (by omega) h1, e], by omega, h1, by omega⟩
    · rw [if_neg h1] at h; cases h
theorem atI_get {α : Type} {xs : List α} {i : Int} {v : α} (h : atI xs i = some v) : ∃ j, seqIndex? i xs.length = some j ∧ xs[j]? = some v ∧ j < xs.length ∧ -(xs.length : Int) ≤ i ∧ i < xs.length := by
  unfold atI at h
  cases e : ixN xs.length i with
  | none => rw [e] at h; cases h
  | some j =>
    rw [e] at h
    obtain ⟨h1, h2, h3, h4⟩ := ixN_seq e
    exact ⟨j, h1, h, h2, h3, h4⟩
theorem atI_nat {α : Type} {xs : List α} {j : Nat} {v : α} (h : xs[j]? = some v) : atI xs (j : Int) = some v := by
  have hj : j < xs.length := (List.getElem?_eq_some_iff.mp h).1
  have e : ixN xs.length (j : Int) = some j := by
    unfold ixN
    rw [if_pos (by omega), if_pos (by omega)]; simp
  unfold atI; rw [e]; exact h
/-! ### what may be subscripted -/
/-- what stands as an index of a plain subscript -/
def PlainIx (b : Expr) : Prop := ∀ o i, subscripted b false o i = operate [o, i] (getItem o i)
/-- a subscript by values -/
def IxR (X : Cx) (r : R2) : Prop :=
  ∀ (value slice : Expr) (pins : List (Addr × Obj)) (s : Shared) (σ : St) (H : Hp) (x y : V) (v u : Value) (Q : VK), Inv X pins σ H s → RelV x v → RelV y u → r x y H Q →
    subscripted slice false v u = operate [v, u] (getItem v u) → wpAny (model X.prog X.w) X.A (subscriptTail value slice v u) (EP X pins σ Q) X.xe s
/-- a call of a builtin's method by values: the receiver, the arguments -/
def MtR (X : Cx) (id : String) (r : V → List V → Hp → VK → Prop) : Prop :=
  ∀ (pins : List (Addr × Obj)) (s : Shared) (σ : St) (H : Hp) (x : V) (xs : List V) (v : Value) (us : List Value) (Q : VK), Inv X pins σ H s → RelV x v → Vals xs us → r x xs H Q →
    wpAny (model X.prog X.w) X.A (call (.builtin id) (v :: us)) (EP X pins σ Q) X.xe s
section
variable {X : Cx} {a b : Expr} {ta tb : TE} {pos : Pos}
/-- a[b] -/
theorem pe_ix {r : R2} (hr : IxR X r) (ha : PE X a ta) (hb : PE X b tb) (hs : PlainIx b) : PE X (.Subscript a b pos) (tOp r ta tb) := by
  intro pins s σ H Q I h
  exact Subscript_ (binT ha hb I h fun v u s2 x y H2 I2 rx ry q => hr a b pins s2 σ H2 x y v u Q I2 rx ry q (hs _ _))

def rIxL (K : PySem.W.Frag) : R2 := fun x y H Q => ∃ p xs i v, x = .ref p ∧ y = .int i ∧ SqL K H p xs ∧ atI xs i = some v ∧ Q v H
theorem ix_list : IxR X (rIxL X.K) := by
  intro value slice pins s σ H x y v u Q I rx ry h hs
  obtain ⟨p, xs, i, z, rfl, rfl, hq, he, q⟩ := h
  cases rx
  obtain ⟨t, rfl⟩ := ry
  obtain ⟨its, r, pl, hz⟩ := I.list hq
  obtain ⟨j, h1, h2, h3, h4, h5⟩ := atI_get he
  obtain ⟨w, ew, rw'⟩ := r.get h2
  have hl := r.length
  have hn := line63
  have fin : EP X pins σ Q w s := ⟨z, H, I, rw', q⟩
  by_cases h0 : 0 ≤ i
  · have hj : i.toNat = j := by
      rw [seqIndex_of h0 h5] at h1
      exact Option.some.inj h1
    exact item_listR pl.isList h0 (by omega) (by rw [hj]; simpa using ew) fin hs
  · have hj : (i + (its.toArray.size : Int)).toNat = j := by
      rw [seqIndex_neg (by omega) h4] at h1
      rw [List.size_toArray, ← hl]
      exact Option.some.inj h1
    exact subscriptTail_builtinR (x := w) pl.isList.typeIs slot_list_getitem.lookup
      (wpAny_getItem_list_neg (Q := fun r s' => r = w ∧ EP X pins σ Q r s') pl.isList (by omega) (by rw [List.size_toArray] <;> omega) (by omega) (by rw [hj]; simpa using ew) ⟨rfl, fin⟩) hs
/-! ### xs[i] = v, any sign -/
theorem Inv.lst {pins : List (Addr × Obj)} {σ : St} {H : Hp} {s : Shared} {p : Addr} {xs : List V} (I : Inv X pins σ H s) (h : H p = some (.lst xs)) :
    ∃ (its : List Value) (n : Nat), Vals xs its ∧ s.heap.get? p = some { cls := .type "list", data := .seq its.toArray n } ∧ xs.length ≤ sizeLine := by
  obtain ⟨z, its, n, r, e⟩ := I.hok p _ h
  exact ⟨its, n, r, e, z⟩
/-! ### slices -/
/-! ### in, not in: flat items -/
def flatV : V → Bool
  | .non => true
  | .bl _ => true
  | .int _ => true
  | .str _ => true
  | _ => false
/-- == of flat values -/
def eqV : V → V → Bool
  | .non, .non => true
  | .bl a, .bl b => a == b
  | .bl a, .int b => (if a then 1 else 0) == b
  | .int a, .bl b => a == (if b then 1 else 0)
  | .int a, .int b => a == b
  | .str a, .str b => a == b
  | _, _ => false
theorem eqAt_V {A : Around} {s : Shared} {y x : V} {u v : Value} (ry : RelV y u) (rx : RelV x v) (fy : flatV y = true) (fx : flatV x = true) : SeqAt.EqAt A s u v (eqV y x) := by
  cases y with
  | non =>
    cases ry
    cases x with
    | non => cases rx; exact SeqAt.EqAt.same _
    | bl b => cases rx; exact SeqAt.EqAt.none_bool b
    | int b => obtain ⟨t, rfl⟩ := rx; exact SeqAt.EqAt.none_int b t
    | str b => obtain ⟨t, rfl⟩ := rx; exact SeqAt.EqAt.none_str b t
    | _ => exact absurd (show false = true from fx) Bool.false_ne_true
  | bl a =>
    cases ry
    cases x with
    | non => cases rx; exact SeqAt.EqAt.bool_none a
    | bl b => cases rx; exact SeqAt.EqAt.bool_bool a b
    | int b => obtain ⟨t, rfl⟩ := rx; exact SeqAt.EqAt.bool_int a b t
    | str b => obtain ⟨t, rfl⟩ := rx; exact SeqAt.EqAt.bool_str a b t
    | _ => exact absurd (show false = true from fx) Bool.false_ne_true
  | int a =>
    obtain ⟨t', rfl⟩ := ry
    cases x with
    | non => cases rx; exact SeqAt.EqAt.int_none a t'
    | bl b => cases rx; exact SeqAt.EqAt.int_bool a t' b
    | int b => obtain ⟨t, rfl⟩ := rx; exact SeqAt.EqAt.int_int a t' b t
    | str b => obtain ⟨t, rfl⟩ := rx; exact SeqAt.EqAt.int_str a t' b t
    | _ => exact absurd (show false = true from fx) Bool.false_ne_true
  | str a =>
    obtain ⟨t', rfl⟩ := ry
    cases x with
    | non => cases rx; exact SeqAt.EqAt.str_none a t'
    | bl b => cases rx; exact SeqAt.EqAt.str_bool a t' b
    | int b => obtain ⟨t, rfl⟩ := rx; exact SeqAt.EqAt.str_int a t' b t
    | str b => obtain ⟨t, rfl⟩ := rx; exact SeqAt.EqAt.str_str a t' b t
    | _ => exact absurd (show false = true from fx) Bool.false_ne_true
  | _ => exact absurd (show false = true from fy) Bool.false_ne_true
/-- the items' answers, read off the values (a value's own answer does not lean on its token) -/
def eqU (x : V) (u : Value) : Bool := match u with
  | .none => eqV .non x
  | .bool b => eqV (.bl b) x
  | .int i _ => eqV (.int i) x
  | .str z _ => eqV (.str z) x
  | _ => false
theorem eqU_of {x y : V} {u : Value} (r : RelV y u) (f : flatV y = true) : eqU x u = eqV y x := by
  cases y with
  | non => cases r; rfl
  | bl b => cases r; rfl
  | int i => obtain ⟨t, rfl⟩ := r; rfl
  | str z => obtain ⟨t, rfl⟩ := r; rfl
  | _ => exact absurd (show false = true from f) Bool.false_ne_true
theorem any_eqU {x : V} : ∀ {xs : List V} {us : List Value}, Vals xs us → xs.all flatV = true → us.any (eqU x) = xs.any fun y => eqV y x
  | _, _, .nil, _ => rfl
  | y :: xs, u :: us, .cons r t, f => by
    rw [List.all_cons, Bool.and_eq_true] at f
    rw [List.any_cons, List.any_cons, eqU_of r f.1, any_eqU t f.2]
theorem mem_eqAt {A : Around} {s : Shared} {x : V} {v : Value} (rx : RelV x v) (fx : flatV x = true) : ∀ {xs : List V} {us : List Value}, Vals xs us → xs.all flatV = true → ∀ u ∈ us, SeqAt.EqAt A s u v (eqU x u)
  | _, _, .nil, _ => fun u hu => by cases hu
  | y :: xs, u :: us, .cons r t, f => fun u' hu => by
    rw [List.all_cons, Bool.and_eq_true] at f
    rcases List.mem_cons.mp hu with rfl | hu
    · rw [eqU_of r f.1]; exact eqAt_V r rx f.1 fx
    · exact mem_eqAt rx fx t f.2 u' hu
def inV (x : V) (xs : List V) : Bool := xs.any fun y => eqV y x
/-- x in a list or tuple of flat items -/
def rIn (K : PySem.W.Frag) (neg : Bool) : R2 := fun x y H Q => ∃ p xs, y = .ref p ∧ (SqL K H p xs ∨ SqT K H p xs) ∧ flatV x = true ∧ xs.all flatV = true ∧ Q (.bl (if neg then !inV x xs else inV x xs)) H
theorem op_in_seq : OpR X (compareOp .In) (rIn X.K false) := by
  intro pins s σ H x y v u Q I rx ry h
  obtain ⟨p, xs, rfl, hq, fx, fs, q⟩ := h
  cases ry
  rcases hq with hq | hq
  · obtain ⟨its, r, pl, hz⟩ := I.list hq
    refine SeqAt.in_listAt (eqU x) pl.isList (fun w hw => mem_eqAt rx fx r fs w (by simpa using hw)) ⟨.bl _, H, I, rfl, ?_⟩
    rw [show its.toArray.any (eqU x) = its.any (eqU x) by simp, any_eqU r fs]
    exact q
  · obtain ⟨its, r, pl, hz⟩ := I.tuple hq
    refine SeqAt.in_tupleAt (eqU x) pl (fun w hw => mem_eqAt rx fx r fs w (by simpa using hw)) ⟨.bl _, H, I, rfl, ?_⟩
    rw [show its.toArray.any (eqU x) = its.any (eqU x) by simp, any_eqU r fs]
    exact q
/-! ### len, list(x), tuple(x) of any list or tuple that is read -/
theorem call_len_seq : CallR X (.builtin "len") (fun xs H Q => ∃ p ys, xs = [.ref p] ∧ (SqL X.K H p ys ∨ SqT X.K H p ys) ∧ Q (.int ys.length) H) := by
  intro pins s σ H xs us Q I r h
  obtain ⟨p, ys, rfl, hq, q⟩ := h
  obtain ⟨u, rfl, rx⟩ := vals1 r
  cases rx
  have hn := line63
  rcases hq with hq | hq
  · obtain ⟨its, r', pl, hz⟩ := I.list hq
    have hlen := r'.length
    exact Calls.call_len_list pl.isList (by simp only [List.size_toArray] <;> omega) ⟨.int ys.length, H, I.tok _, ⟨s.toks + 1, by rw [List.size_toArray, hlen]⟩, q⟩
  · obtain ⟨its, r', pl, hz⟩ := I.tuple hq
    have hlen := r'.length
    exact len_tuple pl (by simp only [List.size_toArray] <;> omega) ⟨.int ys.length, H, I.tok _, ⟨s.toks + 1, by rw [List.size_toArray, hlen]⟩, q⟩
theorem call_list_of : CallR X (.type "list") (fun xs H Q => ∃ p ys, xs = [.ref p] ∧ (SqL X.K H p ys ∨ SqT X.K H p ys) ∧ ∀ l, H l = none → Q (.ref l) (upd H l (.lst ys))) := by
  intro pins s σ H xs us Q I r h
  obtain ⟨p, ys, rfl, hq, q⟩ := h
  obtain ⟨u, rfl, rx⟩ := vals1 r
  cases rx
  have fin : ∀ (its : List Value), Vals ys its → ys.length ≤ sizeLine → ∀ (h' : Heap) (c' : Nat), (∀ b o', s.heap.get? b = some o' → h'.get? b = some o') →
      h'.get? s.heap.objs.size = some { cls := .type "list", dict := none, data := .seq its.toArray c', slots := #[] } → EP X pins σ Q (.ref s.heap.objs.size) { s with heap := h' } := fun its r' hz h' c' kp e =>
    ⟨.ref s.heap.objs.size, _, I.laid (t' := s.toks) kp (Nat.le_refl _) (show ObjOk X.prog X.w _ h' _ (.lst ys) from ⟨hz, its, c', r', e⟩), rfl, q _ (I.hok.fresh (Nat.le_refl _))⟩
  rcases hq with hq | hq
  · obtain ⟨its, r', pl, hz⟩ := I.list hq
    have hlen := r'.length
    obtain ⟨o, ho, hc, n, hd⟩ := pl.isList
    exact call_list_seq p (.inl rfl) ho hc hd (fun h' c' kp e => fin its r' hz h' c' kp e) (by simp only [List.size_toArray] <;> omega)
  · obtain ⟨its, r', pl, hz⟩ := I.tuple hq
    have hlen := r'.length
    obtain ⟨o, ho, hc, n, hd⟩ := pl
    exact call_list_seq p (.inr rfl) ho hc hd (fun h' c' kp e => fin its r' hz h' c' kp e) (by simp only [List.size_toArray] <;> omega)
/-! ### the call of a builtin's method: o.m(..) -/
/-- the value is of that builtin type -/
def tyV (K : PySem.W.Frag) (T : String) (x : V) (H : Hp) : Prop := match x with
  | .str _ => T = "str"
  | .int _ => T = "int"
  | .ref p => (T = "list" ∧ ∃ xs, SqL K H p xs) ∨ (T = "tuple" ∧ ∃ o, K.lookup p = some o ∧ o.cls = .type "tuple" ∧ o.dict = none) ∨
      (T = "dict" ∧ ((∃ kvs, H p = some (.dK kvs)) ∨ ∃ kvs, H p = some (.dT kvs))) ∨ (T = "set" ∧ ∃ S n, H p = some (.set S n))
  | _ => False
theorem tyV_is {pins : List (Addr × Obj)} {σ : St} {H : Hp} {s : Shared} {T : String} {x : V} {v : Value} (I : Inv X pins σ H s) (r : RelV x v) (ty : tyV X.K T x H) :
    s.TypeIs v T ∧ ∀ a, v = .ref a → ∃ ob, s.heap.get? a = some ob ∧ ob.dict = none := by
  cases x with
  | str z =>
    obtain ⟨t, rfl⟩ := r
    cases (show T = "str" from ty)
    exact ⟨typeIs_str s z t, fun _ e => nomatch e⟩
  | int i =>
    obtain ⟨t, rfl⟩ := r
    cases (show T = "int" from ty)
    exact ⟨typeIs_int s i t, fun _ e => nomatch e⟩
  | ref p =>
    cases r
    rcases ty with ⟨rfl, xs, hq⟩ | ⟨rfl, o, hk, hc, hd⟩ | ⟨rfl, hk⟩ | ⟨rfl, S, n, hk⟩
    · obtain ⟨its, _, pl, _⟩ := I.list hq
      refine ⟨pl.isList.typeIs, fun a e => ?_⟩
      cases e
      obtain ⟨o, n, e, c, hd, _⟩ := pl
      exact ⟨o, e, hd⟩
    · refine ⟨⟨o, I.kIn p o hk, hc⟩, fun a e => ?_⟩
      cases e
      exact ⟨o, I.kIn _ o hk, hd⟩
    · have z : ∃ o, s.heap.get? p = some o ∧ o.ExactDict := by
        rcases hk with ⟨kvs, hk⟩ | ⟨kvs, hk⟩
        · obtain ⟨_, _, _, _, o, _, _, e, ex, _⟩ := I.hok p _ hk
          exact ⟨o, e, ex⟩
        · obtain ⟨_, _, _, _, o, _, _, e, ex, _⟩ := I.hok p _ hk
          exact ⟨o, e, ex⟩
      obtain ⟨o, e, ex⟩ := z
      refine ⟨⟨o, e, ex.1⟩, fun a e2 => ?_⟩
      cases e2
      exact ⟨o, e, ex.2.1⟩
    · obtain ⟨o, _, _, _, e, ex, _⟩ := I.hok p _ hk
      refine ⟨⟨o, e, ex.1⟩, fun a e2 => ?_⟩
      cases e2
      exact ⟨o, e, ex.2.1⟩
  | _ => exact False.elim ty
def tBM (K : PySem.W.Frag) (T : String) (r : V → List V → Hp → VK → Prop) (to : TE) (t : TA) : TE := fun σ H Q => to σ H fun x H1 => tyV K T x H1 ∧ t σ H1 fun xs H2 => r x xs H2 Q
variable {o e : Expr} {es : List Expr} {to : TE} {t : TA} {name : Str} {apos cpos : Pos} {T id : String} {r : V → List V → Hp → VK → Prop}
theorem pe_bm (pa : PlainAttrs T) (slot : Slot T name id) (hty : typeOf (.builtin id) = pure (.type "method_descriptor")) (hm : MtR X id r) (ho : PE X o to) (ha : PA X (e :: es) t)
    (hbase : attributeBase o name X.env (eval o X.env) = eval o X.env := by rfl)
    (hfew : ((backTo cpos (starEach (e :: es) X.env)).all (fun x => !x.1) && (backToKw cpos (keywordEach [] X.env)).all (fun x => x.1.isSome)
      && decide ((e :: es).length + ([] : List Keyword).length + (if ([] : List Keyword).isEmpty then 0 else 1) < 30)) = true := by rfl)
    (hline : (apos.endLine == cpos.line) = true := by rfl) (hs : starEach (e :: es) X.env = (false, eval e X.env) :: starEach es X.env := by rfl) (hplain : (backTo cpos (starEach es X.env)).any (·.1) = false := by rfl) :
    PE X (.Call (.Attribute o name apos) (e :: es) [] cpos) (tBM X.K T r to t) := by
  intro pins s σ H Q I h
  refine wpAny_Call_method_late hbase hfew hline rfl (thn (ho pins s σ H _ I h) fun v s1 ⟨x, H1, I1, r1, ty, q1⟩ => ?_)
  obtain ⟨h1, h2⟩ := tyV_is I1 r1 ty
  refine ⟨T, id, pa, slot, hty, h1, h2, ?_⟩
  have hA := ha cpos pins s1 σ H1 _ I1 q1
  rw [hs] at hA ⊢
  refine Calls.callWith_builtin (by show (false || (backTo cpos (starEach es X.env)).any (·.1)) = false; rw [hplain] <;> rfl) (Calls.evalArgs_plain ?_)
  exact thn hA fun us s2 ⟨vs, H2, I2, r2, q2⟩ => hm pins s2 σ H2 x vs v us Q I2 r1 r2 q2
/- xs.append(e), list.index on a module's tuple .. are MtR facts of 06m -/
end
end L2

namespace L2
open PySem PySem.Spec PyProof.Rows

def MtM (X : Cx) (id : String) (r : V → List V → Hp → VK → Prop) : Prop :=
  ∀ (pins : List (Addr × Obj)) (s : Shared) (σ : St) (H : Hp) (x : V) (xs : List V) (v : Value) (us : List Value) (Q : VK), Inv X pins σ H s → RelV x v → Vals xs us → r x xs H Q →
    wpAny (model X.prog X.w) X.A (call (.builtin id) (v :: us)) (EP X pins σ Q) X.xe s

/-! ### lists of values -/
theorem Vals.one : ∀ {x : V} {us : List Value}, Vals [x] us → ∃ u, us = [u] ∧ RelV x u
  | _, _, .cons r .nil => ⟨_, rfl, r⟩
theorem Vals.two : ∀ {x y : V} {us : List Value}, Vals [x, y] us → ∃ u v, us = [u, v] ∧ RelV x u ∧ RelV y v
  | _, _, _, .cons r (.cons q .nil) => ⟨_, _, rfl, r, q⟩
theorem Vals.zero : ∀ {us : List Value}, Vals [] us → us = []
  | _, .nil => rfl
theorem Vals.reverse {xs : List V} {us : List Value} (h : Vals xs us) : Vals xs.reverse us.reverse := by
  induction h with
  | nil => exact .nil
  | cons r t ih => rw [List.reverse_cons, List.reverse_cons]; exact Vals.append ih (.cons r .nil)
theorem Vals.rep {xs : List V} {us : List Value} (h : Vals xs us) : ∀ k : Nat, Vals (List.replicate k xs).flatten (List.replicate k us).flatten
  | 0 => .nil
  | k + 1 => by
    rw [List.replicate_succ, List.replicate_succ, List.flatten_cons, List.flatten_cons]
    exact Vals.append h (Vals.rep h k)
section
variable {X : Cx} {pins : List (Addr × Obj)} {σ : St} {H : Hp} {s : Shared} {l b : Addr} {xs ys zs : List V}

/-! ### the two steps: a tracked list is rewritten, a new list is laid -/
theorem Inv.lset {its its' : List Value} {n : Nat} {f : Array Value → Array Value} {t' : Nat} (I : Inv X pins σ H s) (hH : H l = some (.lst xs))
    (e : s.heap.get? l = some { cls := .type "list", data := .seq its.toArray n }) (hf : f its.toArray = its'.toArray) (hv : Vals ys its') (hz : ys.length ≤ sizeLine) :
    Inv X pins σ (upd H l (.lst ys)) { s with heap := s.heap.update l (Obj.mapSeq f), toks := t' } := by
  have q := PySem.IsL.update e f
  rw [hf] at q
  refine I.write (x := l) (e := l) (by rw [hH]; exact trivial) (.inl rfl) (fun b' u hb hu => (Heap.get?_update_other s.heap (Obj.mapSeq f) (Ne.symm hb)).trans hu) ⟨_, q⟩ ?_
  exact ⟨hz, its', _, hv, q⟩
theorem Inv.lnew {its : List Value} {t' : Nat} (I : Inv X pins σ H s) (hv : Vals ys its) (hz : ys.length ≤ sizeLine) :
    Inv X pins σ (upd H s.heap.objs.size (.lst ys)) { s with heap := s.heap.push { cls := .type "list", data := .seq its.toArray }, toks := t' } :=
  I.laid (fun _ _ q => Heap.get?_push_of_some _ q) (Nat.le_refl _) ⟨hz, its, 0, hv, Heap.get?_push_size _ rfl⟩
theorem Inv.fresh (I : Inv X pins σ H s) : H s.heap.objs.size = none := I.hok.fresh (Nat.le_refl _)
theorem Inv.lstM (I : Inv X pins σ H s) (hH : H l = some (.lst xs)) : xs.length ≤ sizeLine ∧ ∃ (its : List Value) (n : Nat), Vals xs its ∧ xs.length = its.length ∧ s.heap.get? l = some { cls := .type "list", data := .seq its.toArray n } := by
  obtain ⟨z, its, n, r, e⟩ := I.hok l _ hH
  exact ⟨z, its, n, r, r.length, e⟩

theorem notLongL {n : Nat} (h : n ≤ sizeLine) : Builtin.List.listTooLong n = false := by
  unfold Builtin.List.listTooLong
  exact decide_eq_false (by omega)
end

section
variable {X : Cx}

/-! ### methods -/
def rAppend : V → List V → Hp → VK → Prop := fun x vs H Q => ∃ l xs y, x = .ref l ∧ vs = [y] ∧ H l = some (.lst xs) ∧ xs.length < sizeLine ∧ Q .non (upd H l (.lst (xs ++ [y])))
theorem mt_append : MtM X "list.append" rAppend := by
  intro pins s σ H x vs v us Q I rx rv h
  obtain ⟨l, xs, y, rfl, rfl, hH, hz, q⟩ := h
  cases rx
  obtain ⟨u, rfl, ru⟩ := rv.one
  obtain ⟨z, its, n, r, hl, e⟩ := I.lstM hH
  refine call_meets F.slot_list_append ⟨_, e, rfl⟩ F.entry_list_append (F.args_list_append_2 _ _) (PySem.list_append l its.toArray n u (by rw [List.size_toArray]; omega)) ⟨e, ?_⟩
  refine ⟨.non, _, I.lset (its' := its ++ [u]) hH e (by simp) (r.append (.cons ru .nil)) ?_, rfl, q⟩
  rw [List.length_append, List.length_singleton]
  omega

/-! ### list + list, list += list, list * int -/
/-! ### del xs[i] -/
end

/-! ### xs[a:b] = ys -/
section
variable {prog : Program} {w : World} {A : Around} {E : Value → Shared → Prop} {s : Shared}
end

section
variable {X : Cx}
end
end L2

namespace Att
open PySem PySem.W PySem.Calls PyProof.Rows

/-! ### the script -/
theorem ints_of_wellAll {P : Params} {h : Heap} : ∀ (ns : List Int) (vs : List Value), WellAll P h vs (ns.map WData.int) → IntsAre vs ns := by
  intro ns
  induction ns with
  | nil =>
    intro vs w
    rw [List.map_nil] at w
    cases w
    exact .nil
  | cons n ns ih =>
    intro vs w
    rw [List.map_cons] at w
    cases w with
    | cons a b =>
      cases a
      exact .cons _ _ (ih _ b)

theorem script_of {l : OpenLaw} {n : Nat} (hn : l.most = some n) {P : Params} {h : Heap} {args : List WData} {vals : List Value}
    (hpre : l.row.toRowW.claim.pre args = true) (hwl : WellAll P h vals args) :
    ∃ a vs ns, vals = [Value.ref a] ∧ args = [WData.list (ns.map WData.int)] ∧ h.get? a = some { cls := .type "list", data := .seq vs.toArray } ∧ IntsAre vs ns ∧ ns.length ≤ n := by
  have hsh : WShape.hasAll [] args [.list .int] = true := (pre_splitW hpre).1
  have hc : l.pre.holds [] { args := args } = true := (pre_splitW hpre).2
  obtain ⟨d, r, rfl, h1, h2⟩ := hasAllW_cons hsh
  obtain rfl := hasAllW_nil h2
  obtain ⟨xs, rfl, h3⟩ := hasW_list h1
  obtain ⟨ns, rfl⟩ := items_int h3
  have hlen : ns.length ≤ n := by
    unfold OpenLaw.pre at hc
    have h4 : (WTm.not (.lt (.lit (.int (n : Int))) (.len (.arg 0)))).holds [] { args := [.list (ns.map .int)] } = true := by
      have h4 := (holds_andW hc).1
      rw [hn] at h4
      exact h4
    have h5 := condW_of h4 (w_not (w_lt w_lit (w_len_list (w_arg rfl))))
    rw [List.length_map] at h5
    refine Nat.le_of_not_lt fun q => ?_
    have q' : (n : Int) < ((ns.length : Nat) : Int) := by omega
    first
      | (rw [decide_eq_true q'] at h5; exact absurd h5 (by decide))
      | (simp at h5; omega)
  cases hwl with
  | cons w1 w2 =>
    cases w2
    cases w1 with
    | list ho hall => exact ⟨_, _, ns, rfl, rfl, ho, ints_of_wellAll ns _ hall, hlen⟩

theorem post_true (l : OpenLaw) (args : List WData) : l.row.toRowW.claim.post args (.bool true) args = true :=
  postW_of (r := l.row.toRowW) (X := (true == true))
    (show WShape.has [] (.bool true) .bool = true by first | rfl | decide | simp [WShape.has, WShape.arms, WShape.armsAll])
    (show (WTm.eq .res (.lit (.bool true))).value [] { args := args, res := some (.bool true), after := args } = some (.bool (true == true)) from w_eq_bool (w_res rfl) w_lit) rfl

/-! ### the attachment: holds_open's last premise (the goal 'hc' behind k_head) from a wpAny of the law's body -/
/-- the same from a codeAny of the CALL (for a layer whose function contracts speak of calls) -/
theorem attach_call {l : OpenLaw} {n : Nat} {q : Program} {loose : List Str} {XP : (Str → Option Value) → Heap → Prop} {YP : World → Heap → Prop} {d : DefRec}
    (hn : l.most = some n) (hdf : d.params.defaults = [])
    (call : ∀ (w : World) (s₀ s₁ : Shared) (mg mb : Str → Option Value) (fa : Addr) (o : Obj) (pm cd doc : Value) (a : Addr) (vs : List Value) (ns : List Int),
      Ground q loose [] XP w s₀ mg mb s₁.heap → YP w s₁.heap →
      s₁.heap.get? fa = some o → o.data = .func (docDef d.name d.params d.body d.scope pm cd doc) → s₁.heap.CodeRec cd d.name → mg d.name = some (.ref fa) →
      s₁.heap.get? a = some { cls := .type "list", data := .seq vs.toArray } → IntsAre vs ns → ns.length ≤ n → s₁.gens = #[] →
      codeAny (model l.prog w) callerA (.call (.ref fa) ⟨[.ref a], []⟩) (fun r s' => r = .ok (.ret (.bool true)) ∧ OldK s₁.heap s'.heap ∧ s'.os = s₁.os ∧ AllBare s'.gens) s₁) :
    WalkO q loose XP YP l.row.toRowW d [] (fun f vs => PySem.call f vs) := by
  intro w s₀ s₁ mg mb G Y fa o pm cd doc dV kV ho hd hcd hD hmg hg args vals as hpre hlay hrd hwl hlo
  obtain rfl : dV = .none := Dflts.none hD hdf
  obtain rfl : kV = .none := Dflts.noKw hD
  obtain ⟨a, vs, ns, rfl, rfl, hobj, hints, hlen⟩ := script_of hn hpre hwl
  refine enter_call (codeAny_mono (call w s₀ s₁ mg mb fa o pm cd doc a vs ns G Y ho (fd_plain hd) hcd hmg hobj hints hlen hg) fun r s' hq => ?_)
  obtain ⟨rfl, h2, h3, h4⟩ := hq
  exact ⟨.inl ⟨.bool true, .bool true, [], rfl, fun _ => rfl, .bool true, post_true l _, fun _ => ⟨List.Pairwise.nil, fun _ hm => (nomatch hm)⟩⟩, h2, h3, h4⟩

/-! ### rules over ANY heap (no ledger) from facts about the written part K: the library's own take a ledger (News) for what they write -/
section
variable {prog : Program} {w : World} {A : Around} {E : Value → Shared → Prop} {s : Shared} {K : Frag}

/-! the whole heap as the ledger: makes every rule that writes through a ledger a rule over any heap -/
end
end Att

namespace L2
open PySem PySem.Spec PyProof.Rows

theorem vals_ints : ∀ {vs : List Value} {ns : List Int}, IntsAre vs ns → Vals (ns.map V.int) vs
  | _, _, .nil => .nil
  | _, _, .cons n t h => .cons ⟨t, rfl⟩ (vals_ints h)

/-- nothing is tracked but the script, known to the object (or it is an object of the module) -/
def Only (H : Hp) : Prop := ∀ b, H b = none ∨ ∃ o xs, H b = some (.frz o (.lst xs))

/-- THE HEAD: the law's promise, at the heap behind the top. F, the promise of the law's def, may use that base is part of the heap (so K.In base, base.Ns mainGlobals mg stand in Mod) -/
theorem law_call {P : Program} {w : World} {K : PySem.W.Frag} {mg mb : Str → Option Value} {CX : CXT} {k : Nat} {fa a : Addr} {fd : FuncData} {x : Str} {sp : Sp} {s₁ : Shared} {vs : List Value} {ns : List Int}
    (KX : K.In s₁.heap) (hns : s₁.heap.Ns mainGlobals mg) (hb : s₁.heap.Ns builtinsNs mb) (hbb : ∀ x : Str, x ≠ "__name__" → mb x = bootBuiltins x) (hlim : s₁.heap.NoLimit) (hg : s₁.gens = #[])
    (ha : s₁.heap.get? a = some { cls := .type "list", data := .seq vs.toArray }) (hi : IntsAre vs ns) (hl : ns.length ≤ sizeLine) (hr : Room k callerA)
    (F : ∀ base : Heap, K.In base → base.Ns mainGlobals mg → FnOk P w K mg base CX k fa fd [x] sp) (hbind : ∀ (s : Shared) (u : Value), BindsTo s fd ⟨[u], []⟩ [(x, u)])
    (hsp : ∀ H : Hp, Only H → SqL K H a (ns.map V.int) → sp [.ref a] H (fun v _ => v = .bl true) fun _ _ _ => False)
    (hCX : ∀ H e s', CX [] H s₁ (fun _ _ _ => False) e s' → False) :
    codeAny (model P w) callerA (.call (.ref fa) ⟨[.ref a], []⟩) (fun r s' => r = .ok (.ret (.bool true)) ∧ OldK s₁.heap s'.heap ∧ s'.os = s₁.os ∧ AllBare s'.gens) s₁ := by
  have rv := vals_ints hi
  have lenV := hi.length
  -- from an abstract heap in which nothing but the script may be tracked
  have core : ∀ H : Hp, Only H → SqL K H a (ns.map V.int) → HOk P w H s₁.heap → (∀ b, H b ≠ none → b = a) → (H a ≠ none → K.lookup a = none) →
      codeAny (model P w) callerA (.call (.ref fa) ⟨[.ref a], []⟩) (fun r s' => r = .ok (.ret (.bool true)) ∧ OldK s₁.heap s'.heap ∧ s'.os = s₁.os ∧ AllBare s'.gens) s₁ := by
    intro H hO hS hok hA hK
    have base_of : ∀ {b : Addr} {o : Obj}, s₁.heap.get? b = some o → H b = none → (hidT s₁.heap H).get? b = some o := fun e n => hidT_get e n
    have noA : ∀ {b : Addr} {o : Obj} {es : Array DictEntry} {ep : Nat}, s₁.heap.get? b = some o → o.data = .dict es ep → H b = none := fun {b o es ep} e d => by
      cases q : H b with
      | none => rfl
      | some u =>
        have e' : b = a := hA b (by rw [q]; simp)
        subst e'
        rw [ha] at e; cases e
        have d' : Data.seq vs.toArray _ = Data.dict es ep := d
        cases d'
    have nsK : ∀ {b : Addr} {m : Str → Option Value}, s₁.heap.Ns b m → (hidT s₁.heap H).Ns b m := fun {b m} ⟨o, es, ep, e, d, r⟩ => ⟨o, es, ep, base_of e (noA e d), d, r⟩
    have hKb : K.In (hidT s₁.heap H) := fun b o e => base_of (KX b o e) (by
      cases q : H b with
      | none => rfl
      | some u =>
        have e' : b = a := hA b (by rw [q]; simp)
        subst e'
        rw [hK (by rw [q]; simp)] at e; cases e)
    have hM : Mod K mg (hidT s₁.heap H) := ⟨hKb, nsK hns, ⟨mb, nsK hb, hbb⟩, let ⟨mc, h1, h2⟩ := hlim; ⟨mc, nsK h1, h2⟩⟩
    have e0 : Env0 P w K mg (hidT s₁.heap H) callerA [] s₁ H := ⟨rfl, hM, fun b o e => of_hidT e, Nat.le_of_eq (hidT_size _ _), trivial, fun b hb => absurd (show b ∈ ([] : List Addr) from hb) (by simp), hok, .of_eq hg⟩
    refine codeAny_mono ((F _ hKb (nsK hns)).run callerA [] s₁ H ⟨[.ref a], []⟩ [.ref a] [.ref a] _ _ hr e0 (hbind s₁ (.ref a)) (.cons rfl .nil) (hsp H hO hS)) fun r s' h => ?_
    cases r with
    | error e => exact (hCX H e s' h).elim
    | ok fl =>
      cases fl with
      | next => exact False.elim h
      | brk => exact False.elim h
      | cont => exact False.elim h
      | ret u =>
        obtain ⟨v, H', os, bare, un, hok', r', q⟩ := h
        have q' : v = .bl true := q
        subst q'
        obtain rfl : u = Value.bool true := r'
        refine ⟨rfl, OldK.of_keep fun b o e => ?_, os, bare⟩
        cases q : H b with
        | none => exact un.keep b o e q (by intro z; exact absurd (show b ∈ ([] : List Addr) from z) (by simp)) (by simp)
        | some u =>
          rcases hO b with z | ⟨ob, xs, z⟩
          · rw [q] at z; cases z
          · have z2 := un.frzs b ob _ z
            obtain ⟨e1, _⟩ := hok b _ z
            obtain ⟨e2, _⟩ := hok' b _ z2
            rw [e] at e1; cases e1
            exact e2
  cases hk : K.lookup a with
  | some o =>
    -- the script is one of the module's own objects
    have e := KX a o hk
    rw [ha] at e
    cases e
    refine core (fun _ => none) (fun _ => .inl rfl) (.inr ⟨_, vs.toArray, _, hk, rfl, rfl, rfl, by rw [List.size_toArray, lenV]; exact hl, by simpa using rv⟩) (fun b u z => by have z' : (none : Option HO) = some u := z; cases z') (fun b z => absurd rfl z) fun z => absurd rfl z
  | none =>
    refine core (fun b => if b = a then some (.frz { cls := .type "list", data := .seq vs.toArray } (.lst (ns.map V.int))) else none) (fun b => ?_) (.inl (.inr ⟨{ cls := .type "list", data := .seq vs.toArray }, if_pos rfl⟩)) (fun b u z => ?_) (fun b z => ?_) fun _ => hk
    · by_cases hb : b = a
      · exact .inr ⟨_, _, if_pos hb⟩
      · exact .inl (if_neg hb)
    · by_cases hb : b = a
      · have z' := (if_pos hb).symm.trans z
        cases z'
        subst hb
        exact ⟨ha, by rw [List.length_map]; exact hl, vs, _, rv, ha⟩
      · have z' := (if_neg hb).symm.trans z
        cases z'
    · by_cases hb : b = a
      · exact hb
      · exact absurd (if_neg hb) z
end L2

namespace L2
open PySem PySem.Spec PyProof.Rows

abbrev KOf {K : PySem.W.Frag} {h : Heap} (_ : K.In h) : PySem.W.Frag := K

/-- the goal that k_head leaves (case hc), from the law's promise. F gives the function object fd (K's own) once, then the promise over every base -/
theorem walk_of {l : PySem.W.OpenLaw} {n k : Nat} {q : Program} {loose : List Str} {XP : (Str → Option Value) → Heap → Prop} {YP : World → Heap → Prop} {d : DefRec} {K : Params → PySem.W.Frag} {CX : World → CXT} {sp : World → Sp} {x : Str}
    (hn : l.most = some n) (hn2 : n ≤ sizeLine) (hdf : d.params.defaults = []) (hr : Room k callerA)
    (hY : ∀ (w : World) (h : Heap), YP w h → (K w.params).In h)
    (F : ∀ (w : World) (mg : Str → Option Value) (fa : Addr) (h : Heap), (K w.params).In h → h.Ns mainGlobals mg → mg d.name = some (.ref fa) →
      ∃ fd : FuncData, (∀ (s : Shared) (u : Value), BindsTo s fd ⟨[u], []⟩ [(x, u)]) ∧
        ∀ base : Heap, (K w.params).In base → base.Ns mainGlobals mg → FnOk l.prog w (K w.params) mg base (CX w) k fa fd [x] (sp w))
    (hsp : ∀ (w : World) (H : Hp) (a : Addr) (ns : List Int), ns.length ≤ n → Only H → SqL (K w.params) H a (ns.map V.int) → sp w [.ref a] H (fun v _ => v = .bl true) fun _ _ _ => False)
    (hCX : ∀ (w : World) (H : Hp) (s : Shared) (e : Value) (s' : Shared), CX w [] H s (fun _ _ _ => False) e s' → False) :
    PySem.W.WalkO q loose XP YP l.row.toRowW d [] (fun f vs => PySem.call f vs) := by
  refine Att.attach_call hn hdf fun w s₀ s₁ mg mb fa o pm cd doc a vs ns G Y ho hd hcd hmg hobj hints hlen hg => ?_
  have KX := hY w _ Y
  obtain ⟨fd, hb, hF⟩ := F w mg fa _ KX G.T.g hmg
  exact law_call KX G.T.g G.T.b G.T.builtins G.T.nolimit hg hobj hints (Nat.le_trans hlen hn2) hr hF hb (fun H hO hS => hsp w H a ns hlen hO hS) fun H e s' => hCX w H s₁ e s'
end L2

/- THE LAST THEOREM (shape; LID, My.* are yours):
   My.Adr: a structure of the addresses that your layer names (classes, functions); My.Txt K t: a structure (Prop) of the equations over K;
   My.txt_mk : {K} {implicit addresses ..} (e1 : nsIn K mainGlobals "law" = some (some (.ref f))) (e2 : K.lookup f = some ⟨oc, od, .func (fnOf "law" "law" params body scope dV kV doc pm an cdv ct), sl⟩) (e3 : codeIn K cdv "law" = true) .. : ∃ t, My.Txt K t

set_option maxRecDepth 100000 in
set_option maxHeartbeats 0 in
theorem PySem.Challenge.cw_LID_holds : PySem.Challenge.rw_LID.Holds := by
  w_on; o_law; k_head; (case hw => w_witness2)
  k_fill
  refine L2.walk_of (l := PySem.Challenge.rw_LID) (n := 63) (k := 40) (x := "script") (CX := fun w => ..) (sp := fun _ => My.sp_law) rfl (by decide) rfl ⟨rfl, by decide, by decide⟩ (fun w h Y => PySem.W.kIn_of Y) ?F ?S ?C
  case F =>
    intro w mg fa h KX G hmg
    have T : ∃ t, My.Txt (L2.KOf KX) t := by
      dsimp only [L2.KOf]                          -- K must stand as «<heap const> w.params» for k_is
      refine' My.txt_mk ?e1 ?e2 ?e3 ..
      (case e1 => PySem.W.k_is)                    -- in the order: a name -> its address -> its object -> its parts
      (case e2 => PySem.W.k_is)
      ..
    obtain ⟨t, T⟩ := T
    have e0 := hmg.symm.trans (PySem.W.mg_of KX G T.law)
    cases e0                                       -- fa is the law's own address
    exact ⟨_, fun s u => .of_eq rfl, fun base kb nb => My.law_fn T kb nb⟩     -- if «.of_eq rfl» comes too early: refine' ⟨_, ?b, fun base kb nb => My.law_fn T kb nb⟩; exact fun s u => .of_eq rfl
  case S => exact fun w H a ns hl hO hS => ..
  case C => exact ..
(the tactic k_is has no namespace: write k_is) -/

/-! SHORT WORDS over the layer: a def of the text, its body, what a loop and a test want. -/
namespace L2
open PySem PySem.Spec PyProof.Rows

/-! ### the text by places -/
/-- the j-th statement of a class's body -/
def inClass (s : Stmt) (j : Nat) : Stmt := match s with
  | .ClassDef _ _ _ body _ _ _ _ _ _ _ => body.getD j (.Pass ⟨0, 0, 0, 0⟩)
  | _ => .Pass ⟨0, 0, 0, 0⟩
def defArgs (s : Stmt) : Arguments := match s with
  | .FunctionDef _ a _ _ _ _ _ _ _ _ => a
  | _ => { posonlyargs := [], args := [], vararg := none, kwonlyargs := [], kw_defaults := [], kwarg := none, defaults := [] }
def defBody (s : Stmt) : List Stmt := match s with
  | .FunctionDef _ _ b _ _ _ _ _ _ _ => b
  | _ => []
def defScope (s : Stmt) : Scope := match s with
  | .FunctionDef _ _ _ _ _ _ sc _ _ _ => sc
  | _ => { kind := .function, names := [], isGenerator := false, isCoroutine := false }

/-! ### no exception leaves a def -/
abbrev CX0 : CXT := fun _ _ _ _ _ _ => False
abbrev E0 : XK := fun _ _ _ => False
/-! ### a def (or method) of the text as it stands behind the top -/
structure Fun (K : PySem.W.Frag) (x qual : Str) (st : Stmt) (f : Addr) (fd : FuncData) : Prop where
  ex : ∃ (oc : Value) (od : Option Addr) (kV doc pm : Value) (an : Option Addr) (cdv ct : Value) (osl : Array (Option Value)),
    fd = PySem.W.fnOf x qual (defArgs st) (defBody st) (defScope st) .none kV doc pm an cdv ct ∧ K.lookup f = some ⟨oc, od, .func fd, osl⟩ ∧ PySem.W.codeIn K cdv qual = true
  kp : PySem.W.keepIn K (.ref f) = true
section
variable {P : Program} {w : World} {K : PySem.W.Frag} {mg : Str → Option Value} {base : Heap}
/-- THE RULE for a def: its body as a term of rules, and the reading of that term -/
theorem Fun.ok {x qual : Str} {st : Stmt} {f : Addr} {fd : FuncData} {N ps : List Str} {k : Nat} {sp : Sp} (F : Fun K x qual st f fd) (S : FnScope N ps (defScope st)) (len : ∀ vs H Q E, sp vs H Q E → vs.length = ps.length)
    (hbody : ∀ (cdv : Value) (A : Around) (outer : List Env) (s : Shared) (H : Hp) (vs : List V) (Q : VK) (E : XK), Room k (A.deeper (envOfC qual (defScope st) s.heap.objs.size f cdv)) → sp vs H Q E →
      ∃ t, PSs (cxOf CX0 P w K mg base N qual (defScope st) f cdv A outer s H E).nox (defBody st) t ∧ t { nx := fun _ H' => Q .non H', rt := Q } (start N vs) H) : FnOk P w K mg base CX0 (k + 1) f fd ps sp := by
  obtain ⟨oc, od, kV, doc, pm, an, cdv, ct, osl, rfl, lk, hcd⟩ := F.ex
  refine fn_of lk hcd S len fun A outer s H vs Q E hr hsp => ?_
  obtain ⟨t, h, q⟩ := hbody cdv A outer s H vs Q E hr hsp
  exact ⟨t, h.nox, q⟩
/-- how its arguments bind (no defaults): h is «fun _ _ _ _ _ _ us hl => match us, hl with | [_, _], _ => rfl», one _ a parameter -/
theorem Fun.binds {x qual : Str} {st : Stmt} {f : Addr} {fd : FuncData} {ps : List Str} (F : Fun K x qual st f fd)
    (h : ∀ (kV doc pm : Value) (an : Option Addr) (cdv ct : Value) (us : List Value), us.length = ps.length → bindArgs (PySem.W.fnOf x qual (defArgs st) (defBody st) (defScope st) .none kV doc pm an cdv ct) ⟨us, []⟩ = pure (ps.zip us)) : Binds K fd ps [] := by
  obtain ⟨oc, od, kV, doc, pm, an, cdv, ct, osl, rfl, lk, hcd⟩ := F.ex
  exact .all (h kV doc pm an cdv ct)
theorem fun_mk {x qual : Str} {st : Stmt} {f : Addr} {oc : Value} {od an : Option Addr} {osl : Array (Option Value)} {kV doc pm cdv ct : Value} (l : K.lookup f = some ⟨oc, od, .func (PySem.W.fnOf x qual (defArgs st) (defBody st) (defScope st) .none kV doc pm an cdv ct), osl⟩)
    (c : PySem.W.codeIn K cdv qual = true) (k : PySem.W.keepIn K (.ref f) = true) : Fun K x qual st f (PySem.W.fnOf x qual (defArgs st) (defBody st) (defScope st) .none kV doc pm an cdv ct) := ⟨⟨oc, od, kV, doc, pm, an, cdv, ct, osl, rfl, l, c⟩, k⟩
end
theorem hu_of {A : Around} {k : Nat} (hr : Room k A) : A.units + 1 < cLine := Nat.lt_of_le_of_lt (Nat.add_le_add_left (by decide : 1 ≤ 64) _) hr.units
/-! ### expressions in short: the name that stands in the i-th slot -/
section
variable {X : Cx}
theorem pv (i : Nat) {x : Str} {pos : Pos} (hN : X.N[i]? = some x := by rfl) (hv : Vis X.env.scope x := by first | exact Or.inl rfl | exact Or.inr (Or.inl rfl) | exact Or.inr (Or.inr rfl)) (hd : (x == ("__debug__" : Str)) = false := by decide)
    (hcd : (x == ("__classdict__" : Str)) = false := by decide) : PE X (.Name x pos) (tVar i) := pe_var hN hv hd hcd
end

/-! ### tests -/
/-! ### heaps -/
/-- all that was tracked is as it was -/
def Same (H H' : Hp) : Prop := ∀ b o, H b = some o → H' b = some o
theorem Same.refl (H : Hp) : Same H H := fun _ _ h => h
theorem Same.trans {H H1 H2 : Hp} (a : Same H H1) (b : Same H1 H2) : Same H H2 := fun c o h => b c o (a c o h)
theorem Same.free {H H' : Hp} (e : Same H H') {l : Addr} (h : H' l = Option.none) : H l = Option.none := by
  cases q : H l with
  | none => rfl
  | some o =>
    rw [e l o q] at h
    cases h
theorem Same.seq {K : PySem.W.Frag} {H H' : Hp} {a : Addr} {xs : List V} (e : Same H H') (h : SqL K H a xs) : SqL K H' a xs := by
  rcases h with (h | ⟨o, h⟩) | h
  · exact .inl (.inl (e _ _ h))
  · exact .inl (.inr ⟨o, e _ _ h⟩)
  · exact .inr h

end L2

set_option Elab.async false
set_option linter.all false
set_option maxRecDepth 100000
/-! More rules over the hand layer: products and quotients of wide numbers, isinstance, own defs in short. -/
namespace Fr
open PySem PySem.Spec L2
open PyProof.Rows hiding St

/-- the built-in names that the text does not bind -/
structure Bi (mg : Str → Option Value) : Prop where
  len : mg "len" = none
  abs : mg "abs" = none
  int : mg "int" = none
  max : mg "max" = none
  min : mg "min" = none
  range : mg "range" = none
  isinstance : mg "isinstance" = none
  bool : mg "bool" = none
  tuple : mg "tuple" = none
  list : mg "list" = none
  str : mg "str" = none
  zip : mg "zip" = none
  all : mg "all" = none
  divmod : mg "divmod" = none

/-- a def of the text: it stands under its name and keeps its promise -/
def Own (P : Program) (w : World) (K : PySem.W.Frag) (mg : Str → Option Value) (base : Heap) (k : Nat) (x : Str) (ps : List Str) (sp : Sp) : Prop :=
  ∃ (f : Addr) (fd : FuncData), FnOk P w K mg base CX0 k f fd ps sp ∧ mg x = some (.ref f) ∧ PySem.W.keepIn K (.ref f) = true ∧ Binds K fd ps []
theorem Own.mono {P : Program} {w : World} {K : PySem.W.Frag} {mg : Str → Option Value} {base : Heap} {j k : Nat} {x : Str} {ps : List Str} {sp : Sp} (O : Own P w K mg base j x ps sp) (h : j ≤ k) : Own P w K mg base k x ps sp := by
  obtain ⟨f, fd, a, b, c, d⟩ := O
  exact ⟨f, fd, a.mono h, b, c, d⟩

section
variable {X : Cx} {a b : Expr} {ta tb : TE} {pos p : Pos} {k : Nat} {x : Str} {ps : List Str} {sp : Sp} {e : Expr} {es : List Expr} {t : TA}
def CMB (i j : Int) : Prop := CMul i j ∨ (i.natAbs < 2 ^ 250 ∧ j.natAbs < 2 ^ 250)
theorem CMB.ok {i j : Int} (h : CMB i j) : IntMulOk i j := by
  rcases h with h | ⟨h1, h2⟩
  · exact h.ok
  · refine IntMulOk.of_bits (Nat.le_trans (intBits_le_iff.mpr h1) ?_) (Nat.le_trans (intBits_le_iff.mpr h2) ?_) <;> decide
theorem op_mulB : OpR X (binaryOp .Mult) (rI CMB fun i j => .int (i * j)) := opI fun _ _ _ _ _ _ _ hc q => mul_int q hc.ok
theorem log2_le {n : Nat} (h : n < 2 ^ 250) : n.log2 < 9000 := by
  by_cases h0 : n = 0
  · subst h0; decide
  · have := (Nat.log2_lt h0).mpr h
    omega
theorem op_fdivP : OpR X (binaryOp .FloorDiv) (rI (fun _ j => 0 < j ∧ j < 2 ^ 250) fun i j => .int (i / j)) := opI fun i j _ _ _ _ _ hc q => by
  have h1 : (0 : Int) < j := hc.1
  have h2 : j < 2 ^ 250 := hc.2
  exact floordiv_int (by omega) (by rw [Int.fdiv_eq_ediv_of_nonneg i (by omega)]; exact q) (.inl (PyProof.noPylong_of_log2 (log2_le (by omega))))
theorem pe_ty {x : Str} {n : String} {pos : Pos} (hg : Gl X x) (hm : X.mg x = none) (hv : bootBuiltins x = some (.type n)) (hn : x ≠ "__name__" := by decide) (hd : (x == ("__debug__" : Str)) = false := by decide) : PE X (.Name x pos) (tC (.ty n)) :=
  pe_bltn hg hm hv rfl hn hd
end
/-! heaps: all but one address is kept -/
def Keep (p : Addr) (H H' : Hp) : Prop := ∀ b o, H b = some o → b ≠ p → H' b = some o
theorem Keep.refl (p : Addr) (H : Hp) : Keep p H H := fun _ _ h _ => h
theorem Keep.trans {p : Addr} {H H1 H2 : Hp} (a : Keep p H H1) (b : Keep p H1 H2) : Keep p H H2 := fun c o h n => b c o (a c o h n) n
theorem Keep.upd {p : Addr} {H : Hp} {o : HO} : Keep p H (upd H p o) := fun c u h n => by rw [upd_ne n]; exact h
theorem Keep.new {p q : Addr} {H : Hp} {o : HO} (h : H q = none) : Keep p H (L2.upd H q o) := fun c u e _ => by rw [upd_ne (ne_of_none e h)]; exact e
theorem Same.new {q : Addr} {H : Hp} {o : HO} (h : H q = none) : Same H (L2.upd H q o) := fun c u e => by rw [upd_ne (ne_of_none e h)]; exact e
theorem Keep.seq {K : PySem.W.Frag} {p a : Addr} {H H' : Hp} {xs : List V} (k : Keep p H H') (n : a ≠ p) (h : SqL K H a xs) : SqL K H' a xs := by
  rcases h with (h | ⟨o, h⟩) | h
  · exact .inl (.inl (k _ _ h n))
  · exact .inl (.inr ⟨o, k _ _ h n⟩)
  · exact .inr h
theorem cmb_r {i j : Int} (h1 : -(2 ^ 64) < j) (h2 : j < 2 ^ 64) : CMB i j := .inl (.inr ⟨h1, h2⟩)
theorem len2 {a b : V} : [a, b].length ≤ sizeLine := by show 2 ≤ sizeLine; decide
end Fr

set_option linter.all false
/-! The mathematics: common divisors, lowest terms. -/
namespace Fr
theorem gcd_lin {x y q r : Int} (h : x = y * q + r) : Int.gcd y r = Int.gcd x y := by
  have h2 : r = x + (-q) * y := by rw [h, Int.neg_mul, Int.mul_comm q y]; omega
  rw [h2, Int.gcd_add_mul_right_right, Int.gcd_comm]
theorem gcd_emod' (x y : Int) : Int.gcd y (x % y) = Int.gcd x y := gcd_lin (q := x / y) (Int.mul_ediv_add_emod x y).symm
theorem gcd_fmod' (x y : Int) : Int.gcd y (x.fmod y) = Int.gcd x y := gcd_lin (q := x.fdiv y) (Int.mul_fdiv_add_fmod x y).symm
theorem gcd_abs (x y : Int) : Int.gcd (if x < 0 then -x else x) (if y < 0 then -y else y) = Int.gcd x y := by
  have h : ∀ z : Int, (if z < 0 then -z else z).natAbs = z.natAbs := fun z => by split <;> omega
  show Nat.gcd _ _ = Nat.gcd _ _
  rw [h, h]
/-- (x, y) in lowest terms -/
def IsSpot (x y : Int) : Prop := (x = 1 ∧ y = 0) ∨ (0 < y ∧ Int.gcd x y = 1)
theorem IsSpot.nn {x y : Int} (h : IsSpot x y) : 0 ≤ y := by rcases h with h | h <;> omega
theorem IsSpot.gcd {x y : Int} (h : IsSpot x y) : Int.gcd x y = 1 := by
  rcases h with ⟨rfl, rfl⟩ | h
  · rfl
  · exact h.2
theorem IsSpot.nz {x y : Int} (h : IsSpot x y) : ¬ (x = 0 ∧ y = 0) := by rcases h with h | h <;> omega
/-- neighbours on the way of a division -/
structure Conv (i : Nat) (x1 y1 x2 y2 : Int) : Prop where
  n1 : 0 ≤ y1
  n2 : 1 ≤ y2
  b1 : x1.natAbs ≤ 20 * 61 ^ i
  b2 : y1.natAbs ≤ 20 * 61 ^ i
  b3 : x2.natAbs ≤ 20 * 61 ^ i
  b4 : y2.natAbs ≤ 20 * 61 ^ i
  cr : x1 * y2 - x2 * y1 = 1 ∨ x1 * y2 - x2 * y1 = -1
theorem Conv.start {d : Int} (h0 : 0 ≤ d) (h1 : d < 41) : Conv 0 1 0 (d - 20) 1 := ⟨by decide, by decide, by decide, by decide, by omega, by decide, .inl (by omega)⟩
theorem abs_lin {m a b : Int} {n : Nat} (h0 : 1 ≤ m) (h1 : m ≤ 60) (ha : a.natAbs ≤ n) (hb : b.natAbs ≤ n) : (m * a + b).natAbs ≤ 61 * n := by
  have h1 := Int.natAbs_add_le (m * a) b
  have h2 : (m * a).natAbs ≤ 60 * n := by
    rw [Int.natAbs_mul]
    exact Nat.mul_le_mul (by omega) ha
  omega
theorem Conv.next {i : Nat} {x1 y1 x2 y2 m : Int} (c : Conv i x1 y1 x2 y2) (h0 : 1 ≤ m) (h1 : m ≤ 60) : Conv (i + 1) x2 y2 (m * x2 + x1) (m * y2 + y1) := by
  have e : 20 * 61 ^ (i + 1) = 61 * (20 * 61 ^ i) := by rw [Nat.pow_succ]; omega
  have hm : 1 ≤ m * y2 := Int.le_trans (by decide : (1 : Int) ≤ 1 * 1) (Int.mul_le_mul h0 c.n2 (by decide) (by omega))
  refine ⟨by have := c.n2; omega, by have := c.n1; omega, by have := c.b3; omega, by have := c.b4; omega, ?_, ?_, ?_⟩
  · rw [e]; exact abs_lin h0 h1 c.b3 c.b1
  · rw [e]; exact abs_lin h0 h1 c.b4 c.b2
  · have q : x2 * (m * y2 + y1) - (m * x2 + x1) * y2 = -(x1 * y2 - x2 * y1) := by
      rw [Int.mul_add, Int.add_mul, Int.mul_assoc m x2 y2, Int.mul_left_comm x2 m y2]; omega
    rw [q]
    rcases c.cr with h | h <;> rw [h]
    · exact .inr rfl
    · exact .inl rfl
end Fr

set_option Elab.async false
set_option linter.all false
set_option maxRecDepth 100000
namespace Fr
open PySem PySem.Spec L2
open PyProof.Rows hiding St
section
variable {prog : Program} {w : World} {A : Around} {E : Value → Shared → Prop} {s : Shared}
end
section
variable {X : Cx}
end
/-! isinstance of ints and bools -/
end Fr

set_option linter.all false
namespace Fr
end Fr

set_option Elab.async false
set_option linter.all false
set_option maxRecDepth 100000
/-! Values as data: == and != of numbers, truths, texts, tuples and lists within one another. -/
namespace Fr
open PySem PySem.Spec L2
open PyProof.Rows hiding St
mutual
inductive IsD (K : PySem.W.Frag) (H : Hp) : V → PyData → Prop
  | non : IsD K H .non .none
  | bl (b : Bool) : IsD K H (.bl b) (.bool b)
  | int (i : Int) : IsD K H (.int i) (.int i)
  | str (x : Str) : IsD K H (.str x) (.str x)
  | tup {a : Addr} {xs : List V} {ds : List PyData} : SqT K H a xs → IsDs K H xs ds → IsD K H (.ref a) (.tuple ds)
  | lst {a : Addr} {xs : List V} {ds : List PyData} : SqL K H a xs → IsDs K H xs ds → IsD K H (.ref a) (.list ds)
inductive IsDs (K : PySem.W.Frag) (H : Hp) : List V → List PyData → Prop
  | nil : IsDs K H [] []
  | cons {x : V} {d : PyData} {xs : List V} {ds : List PyData} : IsD K H x d → IsDs K H xs ds → IsDs K H (x :: xs) (d :: ds)
end
section
variable {X : Cx} {pins : List (Addr × Obj)} {σ : St} {H : Hp} {s : Shared}
mutual
theorem reads_of (I : Inv X pins σ H s) : ∀ {x : V} {d : PyData} {u : Value}, IsD X.K H x d → RelV x u → ∃ as, Reads s.heap u d as
  | _, _, _, .non, r => by cases r; exact ⟨_, .none⟩
  | _, _, _, .bl b, r => by cases r; exact ⟨_, .bool b⟩
  | _, _, _, .int i, r => by obtain ⟨t, rfl⟩ := r; exact ⟨_, .int i t⟩
  | _, _, _, .str y, r => by obtain ⟨t, rfl⟩ := r; exact ⟨_, .str y t⟩
  | _, _, _, .tup h hs, r => by
    cases r
    obtain ⟨its, rv, ⟨o, ho, hc, n, hd⟩, hz⟩ := I.tuple h
    obtain ⟨as, q⟩ := readsAll_of I hs rv
    exact ⟨_, .tuple ho hc hd (by simpa using q)⟩
  | _, _, _, .lst h hs, r => by
    cases r
    obtain ⟨its, rv, ⟨o, n, ho, hc, _, hd⟩, hz⟩ := I.list h
    obtain ⟨as, q⟩ := readsAll_of I hs rv
    exact ⟨_, .list ho hc hd (by simpa using q)⟩
theorem readsAll_of (I : Inv X pins σ H s) : ∀ {xs : List V} {ds : List PyData} {us : List Value}, IsDs X.K H xs ds → Vals xs us → ∃ as, ReadsAll s.heap us ds as
  | _, _, _, .nil, r => by cases r; exact ⟨_, .nil⟩
  | _, _, _, .cons h hs, r => by
    cases r with
    | cons r1 r2 =>
      obtain ⟨as, q⟩ := reads_of I h r1
      obtain ⟨bs, q'⟩ := readsAll_of I hs r2
      exact ⟨_, .cons q q'⟩
end
theorem op_eqD : OpR X (compareOp .Eq) (fun x y H Q => ∃ d d', IsD X.K H x d ∧ IsD X.K H y d' ∧ d.canLay0 = true ∧ d'.canLay0 = true ∧ X.A.units + d.depth < cLine ∧ Q (.bl (PyData.eqv d d')) H) := by
  intro pins s σ H x y v u Q I rx ry h
  obtain ⟨d, d', h1, h2, c1, c2, hu, q⟩ := h
  obtain ⟨as, r1⟩ := reads_of I h1 rx
  obtain ⟨bs, r2⟩ := reads_of I h2 ry
  exact SeqAt.compareEq_reads r1 r2 c1 c2 (by omega) (fin_bl I q rfl)
theorem op_neD : OpR X (compareOp .NotEq) (fun x y H Q => ∃ d d', IsD X.K H x d ∧ IsD X.K H y d' ∧ d.canLay0 = true ∧ d'.canLay0 = true ∧ X.A.units + d.depth < cLine ∧ Q (.bl (!PyData.eqv d d')) H) := by
  intro pins s σ H x y v u Q I rx ry h
  obtain ⟨d, d', h1, h2, c1, c2, hu, q⟩ := h
  obtain ⟨as, r1⟩ := reads_of I h1 rx
  obtain ⟨bs, r2⟩ := reads_of I h2 ry
  exact SeqAt.compareNe_reads r1 r2 c1 c2 (by omega) (fin_bl I q rfl)
end
theorem room_d {A : Around} {k n : Nat} (hr : Room k A) (h : n ≤ 64) : A.units + n < cLine := by
  have := hr.units
  omega
end Fr

set_option Elab.async false
set_option linter.all false
set_option maxRecDepth 100000
/-! Things of a known kind; making them grows the heap. -/
namespace Fr
open PySem PySem.Spec L2
open PyProof.Rows hiding St
theorem natAbs_fmod {a b : Int} (h : b ≠ 0) : (a.fmod b).natAbs < b.natAbs := by
  by_cases hb : 0 < b
  · have := Int.fmod_nonneg_of_pos a hb
    have := Int.fmod_lt_of_pos a hb
    omega
  · have hn : 0 < -b := by omega
    have h1 := Int.fmod_nonneg_of_pos (-a) hn
    have h2 := Int.fmod_lt_of_pos (-a) hn
    rw [Int.neg_fmod_neg] at h1 h2
    omega
inductive Kn (H : Hp) : V → Prop
  | non : Kn H .non
  | bl (b : Bool) : Kn H (.bl b)
  | int (i : Int) : Kn H (.int i)
  | str (x : Str) : Kn H (.str x)
  | lst {a : Addr} {xs : List V} (h : H a = some (.lst xs)) : Kn H (.ref a)
  | tup {a : Addr} {xs : List V} (h : H a = some (.tup xs)) : Kn H (.ref a)
theorem Kn.same {H H' : Hp} {v : V} (k : Kn H v) (s : Same H H') : Kn H' v := by
  cases k with
  | non => exact .non
  | bl b => exact .bl b
  | int i => exact .int i
  | str x => exact .str x
  | lst h => exact .lst (s _ _ h)
  | tup h => exact .tup (s _ _ h)
def isI : V → Bool
  | .int _ => true
  | _ => false
def isB : V → Bool
  | .bl _ => true
  | _ => false
/-- isinstance of int, of bool, of tuple -/
theorem Kn.ty {K : PySem.W.Frag} {H : Hp} {v : V} (k : Kn H v) : ∃ t, TyOf K H v t ∧ PySem.W.kitOne K t (.type "int") = some (isI v || isB v) ∧ PySem.W.kitOne K t (.type "bool") = some (isB v) := by
  cases k with
  | non => exact ⟨_, .non, rfl, rfl⟩
  | bl b => exact ⟨_, .bl b, rfl, rfl⟩
  | int i => exact ⟨_, .int i, rfl, rfl⟩
  | str x => exact ⟨_, .str x, rfl, rfl⟩
  | lst h => exact ⟨_, .lst h, rfl, rfl⟩
  | tup h => exact ⟨_, .tup h, rfl, rfl⟩
/-- a thing: of a known kind, and its parts, if it is a tuple -/
def Thing (H : Hp) (v : V) : Prop := Kn H v ∧ ∀ a xs, v = .ref a → H a = some (.tup xs) → ∀ x ∈ xs, Kn H x
theorem Thing.same {H H' : Hp} {v : V} (k : Thing H v) (s : Same H H') : Thing H' v := by
  refine ⟨k.1.same s, fun a xs e h x hx => ?_⟩
  subst e
  have : ∃ o, H a = some o := by
    cases k.1 with
    | lst h => exact ⟨_, h⟩
    | tup h => exact ⟨_, h⟩
  obtain ⟨o, ho⟩ := this
  have := s _ _ ho
  rw [h] at this
  cases this
  exact (k.2 a xs rfl ho x hx).same s
theorem Thing.sc {H : Hp} {v : V} (k : Kn H v) (n : ∀ a, v ≠ .ref a) : Thing H v := ⟨k, fun a _ e => absurd e (n a)⟩
theorem Thing.tup {H : Hp} {t : Addr} {xs : List V} (h : H t = some (.tup xs)) (k : ∀ x ∈ xs, Kn H x) : Thing H (.ref t) := ⟨.tup h, fun a ys e h' => by
  cases e
  rw [h] at h'
  cases h'
  exact k⟩
theorem Thing.lst {H : Hp} {t : Addr} {xs : List V} (h : H t = some (.lst xs)) : Thing H (.ref t) := ⟨.lst h, fun a ys e h' => by
  cases e
  rw [h] at h'
  cases h'⟩
/-! ### expressions that make things -/
section
variable {G : Hp → Prop} {R : Hp → V → Prop} {σ : St} {te : TE} {ta : TA} {n : Nat}
end
end Fr

set_option Elab.async false
set_option linter.all false
set_option maxRecDepth 100000
/-! A list comprehension with one name, without tests, whose element reads its own name and global names. -/
namespace Fr
open PySem PySem.Spec L2
open PyProof.Rows hiding St
section
variable {prog : Program} {w : World} {A : Around} {R : Result → Shared → Prop} {s : Shared}
/-- the block's loop, the iterator's own step kept -/
theorem compLoop_go {elt target iter : Expr} {scope : Scope} {pos : Pos} {it acc : Value} {env : Env} (J : Nat → Shared → Prop)
    (turn : ∀ n s, J n s → ∀ E : Value → Shared → Prop, wpAny (model prog w) A (pyNext it) (fun r s₁ => (r = none ∧ R (.ok .next) s₁) ∨ ∃ v, r = some v ∧
      wpAny (model prog w) A (letOwnedTupleGo target it v) (fun _ s₂ => wpAny (model prog w) A (assign target env v) (fun _ s₃ => wpAny (model prog w) A (eval elt env) (fun y s₄ =>
        wpAny (model prog w) A (call (.builtin "list.append") [acc, y]) (fun _ s₅ => ∃ m, m < n ∧ J m s₅) E s₄) E s₃) E s₂) E s₁) E s)
    (n : Nat) (h : J n s) : codeAny (model prog w) A (.compLoop (.ListComp elt [⟨target, iter, [], 0⟩] scope pos) 0 it acc env) R s := by
  refine codeAny_loop rfl J (fun n s hJ => ?_) n h
  refine wpAny_noted ?_
  rw [compTurn_list1]
  refine wpAny_bind (wpAny_standAt (wpAny_bind (thn (turn n s hJ _) fun r s₁ h₁ => ?_)))
  rcases h₁ with ⟨rfl, h₁⟩ | ⟨v, rfl, h₁⟩
  · exact wpAny_pure h₁
  · refine wpAny_bind (thn h₁ fun _ s₂ h₂ => wpAny_bind (thn h₂ fun _ s₃ h₃ => ?_))
    exact wpAny_bind (wpAny_bind (thn h₃ fun y s₄ h₄ => wpAny_bind (thn h₄ fun _ s₅ h₅ => wpAny_pure (wpAny_pure ⟨rfl, h₅⟩))))
end
section
variable {X : Cx} {pins : List (Addr × Obj)} {σ : St} {H : Hp} {s : Shared} {scope : Scope} {x : Str} {fp : List Addr}
/-- what the iterator's records are, seen from the block -/
structure FpIn (X : Cx) (pins : List (Addr × Obj)) (h : Heap) (fp : List Addr) : Prop where
  lt : ∀ b ∈ fp, b < h.objs.size
  loc : ∀ b ∈ fp, b ≠ X.env.locals
  fs : ∀ b ∈ fp, b ∉ X.fs
  own : ∀ b ∈ fp, b ∈ X.ex ∨ X.s₀.heap.objs.size ≤ b
  cl : ∀ b ∈ fp, ∀ x c, X.env.cells.lookup x = some c → c ≠ b
  pn : ∀ b ∈ fp, ∀ p ∈ X.pn ++ pins, p.1 ≠ b
theorem FpIn.stack (f : FpIn X pins s.heap fp) (I : Inv X pins σ H s) : ∀ b ∈ fp, b ∉ frs X.stack := fun b hb z => by
  rcases List.mem_cons.mp (I.stkSub b z) with e | e
  · exact f.loc b hb e
  · exact f.fs b hb e
theorem FpIn.base (f : FpIn X pins s.heap fp) (I : Inv X pins σ H s) : ∀ b o, X.base.get? b = some o → b ∉ fp := fun b o e hb => by
  rcases f.own b hb with z | z
  · exact I.ok.noex b o e z
  · exact absurd (Nat.lt_of_lt_of_le (Heap.lt_size (I.ok.bs b o e).1) z) (Nat.lt_irrefl _)
end
section
variable {X : Cx}
end
end Fr

set_option Elab.async false
set_option linter.all false
set_option maxRecDepth 100000
/-! for a, b in zip(one list, another): both read as they stand at each turn. -/
namespace Fr
open PySem PySem.Spec L2
open PyProof.Rows hiding St
section
variable {X : Cx} {pins : List (Addr × Obj)} {σ : St} {H : Hp} {s : Shared} {h' : Heap} {fp : List Addr}
/-- records of the iterator have turned -/
theorem turn_same {t : Nat} (I : Inv X pins σ H s) (f : ∀ b ∈ fp, FpOk X pins H b) (k : ∀ b o, b ∉ fp → s.heap.get? b = some o → h'.get? b = some o) : Inv X pins σ H { s with heap := h', toks := t } := by
  have nit : ∀ b u, H b = some u → b ∉ fp := fun b u e z => by rw [(f b z).1] at e; cases e
  refine I.step (g' := s.gens) (d' := s.drawn) (ch := fp) (fun b hb => ⟨(f b hb).2.2.2.1, (f b hb).2.1, (f b hb).2.2.2.2.1, (f b hb).2.2.2.2.2⟩) (fun b o _ _ hc e _ => k b o hc e) (fun b o _ _ hc e _ => ⟨o.slots, k b o hc e⟩) (fun _ _ _ _ n => n)
    (fun b o hc e => ⟨o, k b o hc e⟩) (fun _ _ e => e) (fun _ _ _ e => e) (fun b ps e => ⟨#[], by rw [e]; simp⟩) (fun m hm => ?_) (fun b u e => ?_) I.bare
  · obtain ⟨o, es, ep, ho, r⟩ := hm
    exact ⟨o, es, ep, k _ o (fun z => (f _ z).2.1 rfl) ho, r⟩
  · refine (I.hok b u e).stay (fun c v hc q => k c v ?_ q) (fun _ q => q) fun _ _ q => q
    rcases hc with z | z
    · rw [z]; exact nit b u e
    · exact nit c _ z
/-- .. and a new object stands at T -/
theorem turn_new {t : Nat} {T : Addr} {o : HO} (I : Inv X pins σ H s) (f : ∀ b ∈ fp, FpOk X pins H b) (hT : s.heap.objs.size ≤ T) (k : ∀ b o, b ∉ fp → s.heap.get? b = some o → h'.get? b = some o) (new : ObjOk X.prog X.w (upd H T o) h' T o) :
    Inv X pins σ (upd H T o) { s with heap := h', toks := t } := by
  have nT : H T = none := I.hok.fresh hT
  have nit : ∀ b u, H b = some u → b ∉ fp := fun b u e z => by rw [(f b z).1] at e; cases e
  have ltT : ∀ b ob, s.heap.get? b = some ob → b ≠ T := fun b ob e => Nat.ne_of_lt (Nat.lt_of_lt_of_le (Heap.lt_size e) hT)
  refine I.step (g' := s.gens) (d' := s.drawn) (ch := fp) (fun b hb => ⟨(f b hb).2.2.2.1, (f b hb).2.1, (f b hb).2.2.2.2.1, (f b hb).2.2.2.2.2⟩) (fun b o _ _ hc e _ => k b o hc e) (fun b o _ _ hc e _ => ⟨o.slots, k b o hc e⟩)
    (fun b ob _ e n => by rw [upd_ne (ltT b ob e)]; exact n) (fun b o hc e => ⟨o, k b o hc e⟩) (fun b _ e => by rw [upd_ne (ne_of_none e nT)]; exact e) (fun b _ _ e => by rw [upd_ne (ne_of_none e nT)]; exact e)
    (fun b ps e => ⟨#[], by rw [upd_ne (ne_of_none e nT), e]; simp⟩) (fun m hm => ?_) (fun b u e => ?_) I.bare
  · obtain ⟨o, es, ep, ho, r⟩ := hm
    exact ⟨o, es, ep, k _ o (fun z => (f _ z).2.1 rfl) ho, r⟩
  · by_cases hb : b = T
    · subst hb
      rw [upd_same] at e
      cases e
      exact new
    · rw [upd_ne hb] at e
      refine (I.hok b u e).stay (fun c v hc q => k c v ?_ q) (fun c q => by rw [upd_ne (ne_of_none q nT)]; exact q) fun c _ q => by rw [upd_ne (ne_of_none q nT)]; exact q
      rcases hc with z | z
      · rw [z]; exact nit b u e
      · exact nit c _ z
end
section
variable {X : Cx}
end
end Fr

set_option linter.all false
/-! The division and its steps. -/
namespace Fr
open PySem
def NextTo (p q : Int × Int) : Prop := p.1 * q.2 - p.2 * q.1 = 1 ∨ p.1 * q.2 - p.2 * q.1 = -1
theorem NextTo.step {b l : Int × Int} (k : Int) (h : NextTo b l) : NextTo l (k * l.1 + b.1, k * l.2 + b.2) := by
  unfold NextTo at *
  simp only
  have e : l.1 * (k * l.2 + b.2) - l.2 * (k * l.1 + b.1) = -(b.1 * l.2 - b.2 * l.1) := by grind
  rw [e]
  omega
end Fr

set_option Elab.async false
set_option linter.all false
set_option maxRecDepth 100000
namespace Fr
open PySem PySem.Spec L2
open PyProof.Rows hiding St
/-! ### all(a list of True) -/
section
variable {X : Cx}
/-- a product of wide numbers, by their bits -/
def CW (i j : Int) : Prop := ∃ n : Nat, i.natAbs < 2 ^ n ∧ j.natAbs < 2 ^ n ∧ n ≤ 2 ^ 20
theorem op_mulW : OpR X (binaryOp .Mult) (rI CW fun i j => .int (i * j)) := opI fun _ _ _ _ _ _ _ hc q => by
  obtain ⟨n, h1, h2, h3⟩ := hc
  exact mul_int q (IntMulOk.of_bits (Nat.le_trans (intBits_le_iff.mpr h1) h3) (Nat.le_trans (intBits_le_iff.mpr h2) h3))
end
section
variable {X : Cx}
end
/-! ### what stays as the heap grows -/
theorem sqT_same {K : PySem.W.Frag} {H H' : Hp} {a : Addr} {xs : List V} (e : Same H H') (h : SqT K H a xs) : SqT K H' a xs := by
  rcases h with (h | ⟨o, h⟩) | h
  · exact .inl (.inl (e _ _ h))
  · exact .inl (.inr ⟨o, e _ _ h⟩)
  · exact .inr h
theorem sqT_keep {K : PySem.W.Frag} {H H' : Hp} {p a : Addr} {xs : List V} {zs : List V} (hp : H p = some (.lst zs)) (k : Keep p H H') (h : SqT K H a xs) : SqT K H' a xs := by
  rcases h with (h | ⟨o, h⟩) | h
  · exact .inl (.inl (k _ _ h (ne_of h hp (by intro z; cases z))))
  · exact .inl (.inr ⟨o, k _ _ h (ne_of h hp (by intro z; cases z))⟩)
  · exact .inr h
/-- a pair of numbers as a value; many of them -/
def PairV (K : PySem.W.Frag) (H : Hp) (v : V) (p : Int × Int) : Prop := ∃ a, v = .ref a ∧ SqT K H a [.int p.1, .int p.2]
theorem PairV.sq {K : PySem.W.Frag} {H : Hp} {a : Addr} {p : Int × Int} (h : PairV K H (.ref a) p) : SqT K H a [.int p.1, .int p.2] := by
  obtain ⟨b, e, r⟩ := h
  cases e
  exact r
def Pairs (K : PySem.W.Frag) (H : Hp) (vs : List V) (ps : List (Int × Int)) : Prop := Paired (PairV K H) vs ps
theorem PairV.same {K : PySem.W.Frag} {H H' : Hp} {v : V} {p : Int × Int} (h : PairV K H v p) (e : Same H H') : PairV K H' v p := let ⟨a, q, r⟩ := h; ⟨a, q, sqT_same e r⟩
theorem PairV.keep {K : PySem.W.Frag} {H H' : Hp} {v : V} {p : Int × Int} {l : Addr} {zs : List V} (h : PairV K H v p) (hp : H l = some (.lst zs)) (e : Keep l H H') : PairV K H' v p := let ⟨a, q, r⟩ := h; ⟨a, q, sqT_keep hp e r⟩
theorem Pairs.same {K : PySem.W.Frag} {H H' : Hp} {vs : List V} {ps : List (Int × Int)} (h : Pairs K H vs ps) (e : Same H H') : Pairs K H' vs ps := Paired.mapP h fun _ _ z => z.same e
theorem Pairs.keep {K : PySem.W.Frag} {H H' : Hp} {vs : List V} {ps : List (Int × Int)} {l : Addr} {zs : List V} (h : Pairs K H vs ps) (hp : H l = some (.lst zs)) (e : Keep l H H') : Pairs K H' vs ps := Paired.mapP h fun _ _ z => z.keep hp e
theorem Pairs.snoc {K : PySem.W.Frag} {H : Hp} {vs : List V} {ps : List (Int × Int)} {v : V} {p : Int × Int} (h : Pairs K H vs ps) (q : PairV K H v p) : Pairs K H (vs ++ [v]) (ps ++ [p]) := Paired.snoc h q
theorem Pairs.len {K : PySem.W.Frag} {H : Hp} {vs : List V} {ps : List (Int × Int)} (h : Pairs K H vs ps) : vs.length = ps.length := Paired.length h
theorem Paired.at {α β : Type} {F : α → β → Prop} : ∀ {l₁ : List α} {l₂ : List β} {i : Nat} {b : β}, Paired F l₁ l₂ → l₂[i]? = some b → ∃ a, l₁[i]? = some a ∧ F a b
  | _, _, _, _, .nil, e => by simp at e
  | _, _, 0, _, .cons r _, e => by simp at e; subst e; exact ⟨_, rfl, r⟩
  | _, _, i + 1, b, .cons _ t, e => by
    obtain ⟨a, h1, h2⟩ := Paired.at (i := i) (b := b) t (by simpa using e)
    exact ⟨a, by simpa using h1, h2⟩
theorem Paired.at' {α β : Type} {F : α → β → Prop} : ∀ {l₁ : List α} {l₂ : List β} {i : Nat} {a : α}, Paired F l₁ l₂ → l₁[i]? = some a → ∃ b, l₂[i]? = some b ∧ F a b
  | _, _, _, _, .nil, e => by simp at e
  | _, _, 0, _, .cons r _, e => by simp at e; subst e; exact ⟨_, rfl, r⟩
  | _, _, i + 1, b, .cons _ t, e => by
    obtain ⟨a, h1, h2⟩ := Paired.at' (i := i) (a := b) t (by simpa using e)
    exact ⟨a, by simpa using h1, h2⟩
def dat (p : Int × Int) : PyData := .tuple [.int p.1, .int p.2]
theorem PairV.isD {K : PySem.W.Frag} {H : Hp} {v : V} {p : Int × Int} (h : PairV K H v p) : IsD K H v (dat p) := by
  obtain ⟨a, rfl, r⟩ := h
  exact .tup r (.cons (.int _) (.cons (.int _) .nil))
theorem Pairs.isDs {K : PySem.W.Frag} {H : Hp} : ∀ {vs : List V} {ps : List (Int × Int)}, Pairs K H vs ps → IsDs K H vs (ps.map dat)
  | _, _, .nil => .nil
  | _, _, .cons r t => .cons r.isD (Pairs.isDs t)
theorem Paired.split {α β : Type} {F : α → β → Prop} : ∀ {l₁ : List α} {m₁ m₂ : List β}, Paired F l₁ (m₁ ++ m₂) → ∃ a₁ a₂, l₁ = a₁ ++ a₂ ∧ Paired F a₁ m₁ ∧ Paired F a₂ m₂
  | l₁, [], m₂, h => ⟨[], l₁, rfl, .nil, h⟩
  | _, b :: m₁, m₂, .cons r t => by
    obtain ⟨a₁, a₂, rfl, h1, h2⟩ := Paired.split t
    exact ⟨_ :: a₁, a₂, rfl, .cons r h1, h2⟩
end Fr

set_option Elab.async false
set_option linter.all false
set_option maxRecDepth 100000
/-! a[::-1], insert, count. -/
namespace Fr
open PySem PySem.Spec L2
open PyProof.Rows hiding St
section
variable {X : Cx} {e : Expr} {te : TE} {pos p2 : Pos}
end
end Fr

set_option Elab.async false
set_option linter.all false
set_option maxRecDepth 100000
set_option maxHeartbeats 4000000
/-! isinstance of an exception of an own class; count and index of truths. -/
namespace Fr
open PySem PySem.Spec L2
open PyProof.Rows hiding St
open Sem (wp)

/-- what is asked of the class of an exception, over the text's fragment -/
structure ExcK (K : PySem.W.Frag) (C : Addr) : Prop where
  ga : PySem.W.findIn K (.ref C) "__getattribute__" = some (some (.builtin "BaseException.__getattribute__"))
  gt : PySem.W.findIn K (.ref C) "__getattr__" = some none
  cl : PySem.W.findIn K (.ref C) "__class__" = some (some (.builtin "object.__class__"))
  mb : PySem.W.mroIn K C (.type "BaseException") = some true
  mo : PySem.W.mroIn K C (.type "object") = some true
  is : ∃ c d cd sl, K.lookup C = some ⟨c, d, .cls cd, sl⟩

section
variable {prog : Program} {w : World} {A : Around} {E : Value → Shared → Prop} {h : Heap} {g : Array GenState} {d : Drawn} {t : Nat} {os : OsState} {a C : Addr} {o : Obj} {K : PySem.W.Frag}

end

def ExcAt (a C : Addr) (h : Heap) : Prop := ∃ o, h.get? a = some o ∧ o.cls = .ref C
/-- an exception of the class at C -/
def ExcO (a C : Addr) : HO := .ext (ExcAt a C)
section
variable {X : Cx}
/-! count and index of a truth in a list of truths -/
end
end Fr

set_option Elab.async false
set_option linter.all false
set_option maxRecDepth 100000
set_option maxHeartbeats 4000000
/-! Exceptions of own classes over the hand layer: raise, how one lies behind a call, try with one call and one clause. -/
namespace Fr
open PySem PySem.Spec L2
open PyProof.Rows hiding St

section
variable {P : Program} {w : World} {H H' : Hp} {h h' : Heap} {a : Addr} {o : HO}
theorem obj_got (x : ObjOk P w H h a o) : ∃ ob, h.get? a = some ob := by
  cases o with
  | lst xs => obtain ⟨_, _, _, _, e⟩ := x; exact ⟨_, e⟩
  | tup xs => obtain ⟨_, _, _, ob, e, _⟩ := x; exact ⟨_, e⟩
  | dK kvs => obtain ⟨_, _, _, _, o, _, _, e, _⟩ := x; exact ⟨_, e⟩
  | dT kvs => obtain ⟨_, _, _, _, o, _, _, e, _⟩ := x; exact ⟨_, e⟩
  | set S n => obtain ⟨o, _, _, _, e, _⟩ := x; exact ⟨_, e⟩
  | ins C dx fs => obtain ⟨_, _, _, e, _⟩ := x; exact ⟨_, e⟩
  | own y => exact x
  | xd fs => obtain ⟨_, ⟨_, _, _, e, _⟩, _⟩ := x; exact ⟨_, e⟩
  | rng lo hi => obtain ⟨_, _, _, e⟩ := x; exact ⟨_, e⟩
  | frz ob u => obtain ⟨e, _⟩ := x; exact ⟨_, e⟩
  | tbl ps => exact ⟨_, x⟩
  | met f y => exact ⟨_, x⟩
  | ext φ => exact x.2.1
theorem hok_none (x : HOk P w H h) (e : h.get? a = none) : H a = none := by
  cases q : H a with
  | none => rfl
  | some u =>
    obtain ⟨ob, z⟩ := obj_got (x a u q)
    rw [e] at z
    cases z
/-- all tracked objects are kept -/
theorem hok_keeps (x : HOk P w H h) (k : ∀ b u, H b ≠ none → h.get? b = some u → h'.get? b = some u) : HOk P w H h' := fun a o e =>
  (x a o e).stay (fun b u hb q => k b u (by rcases hb with rfl | hb <;> simp_all) q) (fun _ q => q) fun _ _ q => q
theorem hok_track (x : HOk P w H h) (n : H a = none) (new : ObjOk P w (upd H a o) h a o) : HOk P w (upd H a o) h := fun b u e => by
  by_cases hb : b = a
  · subst hb; rw [upd_same] at e; cases e; exact new
  · rw [upd_ne hb] at e
    exact (x b u e).stay (fun c v _ q => q) (fun c q => by rw [upd_ne (ne_of_none q n)]; exact q) fun c xs q => by rw [upd_ne (ne_of_none q n)]; exact q
end
theorem ff_move {h h' base base' : Heap} : ∀ {l : List Env}, h.FunFrames base l → (∀ b ∈ frs l, base'.get? b = none) → (∀ b ∈ frs l, ∀ o, h.get? b = some o → ∃ o', h'.get? b = some o' ∧ o'.data = o.data) → h'.FunFrames base' l
  | [], _, _, _ => trivial
  | env :: r, ⟨hk, ⟨L, o, hf, hn, ho, hd⟩, hr⟩, hb, hc => by
    have hL : L ∈ frs (env :: r) := by unfold frs; rw [List.filterMap_cons, hf]; exact List.mem_cons_self
    have sub : ∀ b ∈ frs r, b ∈ frs (env :: r) := fun b hb => by unfold frs; rw [List.filterMap_cons, hf]; exact List.mem_cons_of_mem _ hb
    obtain ⟨o', e, d⟩ := hc L hL o ho
    exact ⟨hk, ⟨L, o', hf, hb L hL, e, fun vs => d ▸ hd vs⟩, ff_move hr (fun b z => hb b (sub b z)) fun b z => hc b (sub b z)⟩

/-- an exception flies: at x, of the class at C, its record not in base -/
structure Fly (base h : Heap) (H : Hp) (x C : Addr) : Prop where
  ex : ∃ oe vs T oT ts a0, h.get? x = some oe ∧ (oe.cls = .ref C ∧ vs[0]? = some a0) ∧ oe.data = .fields vs ∧ vs[1]? = some (.ref T) ∧ base.get? T = none ∧ T ≠ x ∧ h.get? T = some oT ∧ oT.data = .fields ts ∧ ts[3]? = some .none ∧ H T = none
  xn : base.get? x = none
  xh : H x = none
/-- how an exception lies behind a call -/
def CX1 (P : Program) (w : World) : CXT := fun outer H s E e s' => ∃ x C H', e = .ref x ∧ s'.os = s.os ∧ AllBare s'.gens ∧ Un (frs outer) [] H H' s.heap s'.heap ∧ HOk P w H' s'.heap ∧ Fly s.heap s'.heap H' x C ∧ E (.ref C) none H'
theorem pass1 {P : Program} {w : World} {X : Cx} : Passes (CX1 P w) X E0 := fun _ _ _ _ _ _ _ h => by
  obtain ⟨_, _, _, _, _, _, _, _, _, h⟩ := h
  exact h.elim

section
variable {X : Cx} {pins : List (Addr × Obj)} {σ : St} {H : Hp} {s : Shared}
theorem un_out {h'' : Heap} (I : Inv X pins σ H s) (hex : X.ex = []) (kept : ∀ b o, s.heap.get? b = some o → b ∉ frs X.stack → h''.get? b = some o)
    (slots : ∀ b o, b ∈ frs X.stack → s.heap.get? b = some o → ∃ sl, h''.get? b = some { o with slots := sl }) : Un X.fs [] X.H₀ H X.s₀.heap h'' := by
  have nx : ∀ b : Addr, b ∉ X.ex := fun b => by rw [hex]; simp
  have any : ∀ b o, s.heap.get? b = some o → ∃ sl, h''.get? b = some { o with slots := sl } := fun b o e => by
    by_cases hb : b ∈ frs X.stack
    · exact slots b o hb e
    · exact ⟨o.slots, kept b o e hb⟩
  refine ⟨fun b o e n hb _ => ?_, fun b o e n hb _ => ?_, fun b o e n _ => I.base.free b o e n (nx b), fun b o e _ => ?_, I.base.tups, I.base.frzs, I.base.tbls⟩
  · refine kept b o (I.base.keep b o e n hb (nx b)) fun z => ?_
    rcases List.mem_cons.mp (I.stkSub b z) with z | z
    · have := Nat.lt_of_lt_of_le (Heap.lt_size e) I.ok.above
      rw [z] at this
      exact absurd this (Nat.lt_irrefl _)
    · exact hb z
  · obtain ⟨sl, e1⟩ := I.base.slot b o e n hb (nx b)
    obtain ⟨sl2, e2⟩ := any b _ e1
    exact ⟨sl2, e2⟩
  · obtain ⟨o', e1⟩ := I.base.there b o e (nx b)
    obtain ⟨sl, e2⟩ := any b o' e1
    exact ⟨_, e2⟩
end

section
variable {P : Program} {w : World} {K : PySem.W.Frag} {mg : Str → Option Value} {base : Heap} {N : List Str} {qual : Str} {scope : Scope} {f : Addr} {cd : Value} {A : Around} {outer : List Env} {s : Shared} {H : Hp} {E : XK}
/-- a made exception leaves its def -/
theorem leave1 {pins : List (Addr × Obj)} {σ : St} {H2 : Hp} {s2 : Shared} {h' : Heap} {e C : Addr} {us : List Value} (I : Inv (cxOf (CX1 P w) P w K mg base N qual scope f cd A outer s H E) pins σ H2 s2)
    (hm : Heap.MadeExcOf s2.heap h' e (.ref C) us) (q : E (.ref C) none H2) : (cxOf (CX1 P w) P w K mg base N qual scope f cd A outer s H E).xe (.ref e) { s2 with heap := h' } := by
  have FF0 := I.stack
  have FF : s2.heap.FunFrames (PySem.W.hideAll s2.heap (frs (cxOf (CX1 P w) P w K mg base N qual scope f cd A outer s H E).stack)) (cxOf (CX1 P w) P w K mg base N qual scope f cd A outer s H E).stack :=
    ff_move FF0 (fun b hb => PySem.W.hideAll_none _ hb) fun b _ o e => ⟨o, e, rfl⟩
  refine wpAny_leaves_madeW (base := PySem.W.hideAll s2.heap (frs (cxOf (CX1 P w) P w K mg base N qual scope f cd A outer s H E).stack)) (h := s2.heap) (outer := outer) I.ok.frames rfl (fun b o hb => PySem.W.of_hideAll _ hb) FF hm fun h'' t fl tup tn us' => ?_
  have kept : ∀ b o, s2.heap.get? b = some o → b ∉ frs (cxOf (CX1 P w) P w K mg base N qual scope f cd A outer s H E).stack → h''.get? b = some o := fun b o e n => fl.1 b o (PySem.W.hideAll_get _ e n)
  have slots : ∀ b o, b ∈ frs (cxOf (CX1 P w) P w K mg base N qual scope f cd A outer s H E).stack → s2.heap.get? b = some o → ∃ sl, h''.get? b = some { o with slots := sl } := fun b o hb e => by
    obtain ⟨_, o', e', nf⟩ := FF.mem hb
    rw [e] at e'
    cases e'
    exact us' b o (hm.keeps b o e) nf
  have back : ∀ b, s2.heap.get? b = none → s.heap.get? b = none := fun b e => by
    cases z : s.heap.get? b with
    | none => rfl
    | some o =>
      obtain ⟨o', e1⟩ := I.base.there b o z (fun y => absurd (show b ∈ ([] : List Addr) from y) (by simp))
      rw [e] at e1
      cases e1
  obtain ⟨oe, vs, T, oT, ts, he, hc, hd, h1, hnT, hTe, hT, hdT, h3⟩ := fl.2.2.2
  have Tn : s2.heap.get? T = none := by
    cases z : s2.heap.get? T with
    | none => rfl
    | some o =>
      by_cases hb : T ∈ frs (cxOf (CX1 P w) P w K mg base N qual scope f cd A outer s H E).stack
      · obtain ⟨_, o', e', nf⟩ := FF.mem hb
        rw [z] at e'
        cases e'
        obtain ⟨sl, e2⟩ := slots T o hb z
        rw [hT] at e2
        cases e2
        exact absurd hdT (nf ts)
      · rw [PySem.W.hideAll_get _ z hb] at hnT
        cases hnT
  refine ⟨e, C, H2, rfl, I.os, I.bare, un_out I rfl kept slots, hok_keeps I.hok fun b u hb e => kept b u e fun z => hb (I.stkFree b z), ⟨⟨oe, vs, T, oT, ts, _, he, hc, hd, h1, back T Tn, hTe, hT, hdT, h3, hok_none I.hok Tn⟩, back e hm.new, hok_none I.hok hm.new⟩, q⟩
end
theorem exc_obj {K : PySem.W.Frag} {h₀ : Heap} {C : Addr} {bmB : List Value} {newId : String} (X : K.In h₀) (q : PySem.W.excIn K C bmB newId = true) :
    ∃ bm N nm q bs hdct sn sub ab col dd k0 k1 k2 k3 k5 mN, h₀.get? C = some (excClassObj nm q C N bs bm hdct sn sub ab col dd k0 k1 k2 k3 k5 newId) ∧ h₀.Ns N mN ∧ mN "__init__" = none ∧ OwnTail h₀ bmB bm := by
  cases hl : K.lookup C with
  | none => simp [PySem.W.excIn, hl] at q
  | some ob =>
    obtain ⟨cl, dct, dat', slots⟩ := ob
    have hG := X _ _ hl
    cases dat' with
    | cls info =>
      simp only [PySem.W.excIn, hl] at q
      split at q
      next dct' info' slots' hob =>
        cases hob
        split at q
        next C2 tl a0 a1 a2 a3 idn a5 hmro hslots =>
          simp only [Bool.and_eq_true, Bool.not_eq_true', beq_iff_eq] at q
          obtain ⟨⟨⟨⟨⟨hC2, hid⟩, hdl⟩, htl⟩, hns⟩, hini⟩ := q
          cases info
          simp only at hmro hdl hns hini
          cases hC2
          cases hid
          cases hmro
          cases hdl
          have hsl : slots = #[a0, a1, a2, a3, some (.builtin newId), a5] := Array.ext' (by simpa using hslots)
          cases hsl
          exact ⟨_, _, _, _, _, _, _, _, _, _, _, _, _, _, _, _, _, hG, Heap.Ns.of_isNs (PySem.W.isNs_of_in X hns), PySem.W.nsMap_none_of_in X hns hini, PySem.W.tail_of_in X htl⟩
        next => exact absurd q (by decide)
      next => exact absurd q (by decide)
    | _ => simp [PySem.W.excIn, hl] at q
abbrev bmVE : List Value := [.type "ValueError", .type "Exception", .type "BaseException", .type "object"]
/-- raise C(..), C an own class under ValueError -/
def tRaise (C : Addr) (E : XK) (ta : TA) : TS := fun _ σ H => ta σ H fun vs H1 => vs.length ≤ sizeLine ∧ E (.ref C) none H1
section
variable {P : Program} {w : World} {K : PySem.W.Frag} {mg : Str → Option Value} {base : Heap} {N : List Str} {qual : Str} {scope : Scope} {f : Addr} {cd : Value} {A : Around} {outer : List Env} {s : Shared} {H : Hp} {E : XK}
  {x : Str} {C : Addr} {np cpos pos : Pos} {e₀ : Expr} {rest : List Expr} {ta : TA}
theorem ps_raise (hg : Gl (cxOf (CX1 P w) P w K mg base N qual scope f cd A outer s H E) x) (hm : mg x = some (.ref C)) (q : PySem.W.excIn K C bmVE "ValueError.__new__" = true) (ha : PA (cxOf (CX1 P w) P w K mg base N qual scope f cd A outer s H E) (e₀ :: rest) ta)
    (he : starEach (e₀ :: rest) (cxOf (CX1 P w) P w K mg base N qual scope f cd A outer s H E).env = (false, eval e₀ (cxOf (CX1 P w) P w K mg base N qual scope f cd A outer s H E).env) :: starEach rest (cxOf (CX1 P w) P w K mg base N qual scope f cd A outer s H E).env := by rfl)
    (hpl : (backTo cpos (starEach rest (cxOf (CX1 P w) P w K mg base N qual scope f cd A outer s H E).env)).any (·.1) = false := by rfl) (hdb : (x == ("__debug__" : Str)) = false := by decide) :
    PS (cxOf (CX1 P w) P w K mg base N qual scope f cd A outer s H E) (.Raise (some (.Call (.Name x np) (e₀ :: rest) [] cpos)) none pos) (tRaise C E ta) := by
  intro pins s1 σ H1 D I h
  obtain ⟨tl, N', nm, q', bs, hdct, sn, sub, ab, col, dd, k0, k1, k2, k3, k5, mN, hC, hN, hni, T⟩ := exc_obj I.ok.mod.kin q
  refine wpAny_Raise_call_subT (C := C) (nm := nm) (q := q') (N := N') (bs := bs) (bm := tl) (hdct := hdct) (sn := sn) (sub := sub) (ab := ab) (col := col) (dd := dd) (k0 := k0) (k1 := k1) (k2 := k2) (k3 := k3) (k5 := k5)
    PySem.F.excBase_ValueError (mN := mN) (T.hasType PySem.F.excBase_ValueError.hasBase) (I.ok.hd rfl) (by rw [he]; show (false || (backTo cpos (starEach rest _)).any (·.1)) = false; rw [hpl]; rfl) hni (ld_glob I hg hm ⟨rfl, ?_⟩ hdb)
  have h2 := ha cpos pins s1 σ H1 _ I h
  rw [he] at h2 ⊢
  refine Calls.evalArgs_plain (wpAny_mono h2 (fun us s2 z => ?_) fun _ _ y => y)
  obtain ⟨vs, H2, I2, r, hz, hq⟩ := z
  exact ⟨rfl, (by rw [← r.length]; exact hz), I2.bk _ _ hC, hN.keeps I2.bk, T.keeps I2.bk, fun h' e hm => leave1 I2 hm hq⟩
end
end Fr

set_option Elab.async false
set_option linter.all false
set_option maxRecDepth 100000
set_option maxHeartbeats 4000000
/-! try: one call, one clause (an own class, as a name); defs that run within an except suite. -/
namespace Fr
open PySem PySem.Spec L2
open PyProof.Rows hiding St

abbrev _root_.L2.Cx.inex (X : Cx) (z : Addr) : Cx := { X with A := X.A.mark (some (.ref z)), calm := false, xe := fun _ _ => False }
section
variable {X : Cx} {pins : List (Addr × Obj)} {σ : St} {H : Hp} {s : Shared}
end
/-- the class of an except clause -/
structure ClauseK (K : PySem.W.Frag) (D : Addr) : Prop where
  is : ∃ d cd sl, K.lookup D = some ⟨.type "type", d, .cls cd, sl⟩
  mb : PySem.W.mroIn K D (.type "BaseException") = some true
section
variable {X : Cx} {pins : List (Addr × Obj)} {σ : St} {H H1 : Hp} {s s1 s' : Shared} {i : Nat} {n R : Str} {rp hpos : Pos} {b₀ : Stmt} {suite : List Stmt} {ts : TS} {D : Addr} {Dn : Ends} {e : Value} {Ee : Value → Shared → Prop}
end
section
variable {X : Cx} {k : Nat} {f : Addr} {fd : FuncData} {ps : List Str} {sp : Sp} {x n R : Str} {p pos p1 rp hpos tp : Pos} {ex : Expr} {es : List Expr} {t : TA} {i : Nat} {D : Addr} {b₀ : Stmt} {suite : List Stmt} {ts : TS}
end

/-! ### defs that run within an except suite -/
structure RoomN (k : Nat) (A : Around) : Prop where
  dp : A.depth + 3 * k + 5 < recursionLimit
  un : A.units + 16 * k + 200 < cLine
theorem RoomN.of {k : Nat} {A : Around} (r : Room k A) : RoomN k A := ⟨r.dp, r.un⟩
theorem RoomN.deeper {k : Nat} {A : Around} (r : RoomN (k + 1) A) (env : Env) : RoomN k (A.deeper env) :=
  ⟨by have := r.dp; show A.depth + 1 + 3 * k + 5 < _; omega, by have := r.un; show A.units + 3 + 16 * k + 200 < _; omega⟩
structure FnOkN (P : Program) (w : World) (K : PySem.W.Frag) (mg : Str → Option Value) (base : Heap) (k : Nat) (f : Addr) (fd : FuncData) (ps : List Str) (sp : Sp) : Prop where
  len : ∀ vs H Q E, sp vs H Q E → vs.length = ps.length
  run : ∀ (A : Around) (outer : List Env) (s : Shared) (H : Hp) (args : Args) (us : List Value) (vs : List V) (Q : VK), RoomN k A → Env0 P w K mg base A outer s H → BindsTo s fd args (ps.zip us) → Vals vs us → sp vs H Q E0 →
    codeAny (model P w) A (.call (.ref f) args) (CR CX0 outer P w H s Q E0) s
section
variable {P : Program} {w : World} {K : PySem.W.Frag} {mg : Str → Option Value} {base : Heap}
end
section
variable {X : Cx} {pos p : Pos} {k : Nat} {x : Str} {ps : List Str} {sp : Sp} {e : Expr} {es : List Expr} {t : TA}
end
/-- a def that may raise, where it doesn't -/
def Own1 (P : Program) (w : World) (K : PySem.W.Frag) (mg : Str → Option Value) (base : Heap) (k : Nat) (x : Str) (ps : List Str) (sp : Sp) : Prop :=
  ∃ (f : Addr) (fd : FuncData), FnOk P w K mg base (CX1 P w) k f fd ps sp ∧ mg x = some (.ref f) ∧ PySem.W.keepIn K (.ref f) = true ∧ Binds K fd ps []
theorem Own1.mono {P : Program} {w : World} {K : PySem.W.Frag} {mg : Str → Option Value} {base : Heap} {j k : Nat} {x : Str} {ps : List Str} {sp : Sp} (O : Own1 P w K mg base j x ps sp) (h : j ≤ k) : Own1 P w K mg base k x ps sp := by
  obtain ⟨f, fd, a, b, c, d⟩ := O
  exact ⟨f, fd, a.mono h, b, c, d⟩
section
variable {X : Cx} {pos p : Pos} {k : Nat} {x : Str} {ps : List Str} {sp : Sp} {e : Expr} {es : List Expr} {t : TA}
end
/-- a def that may raise -/
theorem ok1 {P : Program} {w : World} {K : PySem.W.Frag} {mg : Str → Option Value} {base : Heap} {x qual : Str} {st : Stmt} {f : Addr} {fd : FuncData} {N ps : List Str} {k : Nat} {sp : Sp} (F : Fun K x qual st f fd) (S : FnScope N ps (defScope st)) (len : ∀ vs H Q E, sp vs H Q E → vs.length = ps.length)
    (hbody : ∀ (cdv : Value) (A : Around) (outer : List Env) (s : Shared) (H : Hp) (vs : List V) (Q : VK) (E : XK), Room k (A.deeper (envOfC qual (defScope st) s.heap.objs.size f cdv)) → sp vs H Q E →
      ∃ t, PSs (cxOf (CX1 P w) P w K mg base N qual (defScope st) f cdv A outer s H E) (defBody st) t ∧ t { nx := fun _ H' => Q .non H', rt := Q } (start N vs) H) : FnOk P w K mg base (CX1 P w) (k + 1) f fd ps sp := by
  obtain ⟨oc, od, kV, doc, pm, an, cdv, ct, osl, rfl, lk, hcd⟩ := F.ex
  exact fn_of lk hcd S len fun A outer s H vs Q E hr hsp => hbody cdv A outer s H vs Q E hr hsp
end Fr

set_option Elab.async false
set_option linter.all false
set_option maxRecDepth 100000
set_option maxHeartbeats 4000000
/-! An exception of a callee passes through a def; try with one statement that calls: f(..), x = f(..), return f(..). -/
namespace Fr
open PySem PySem.Spec L2
open PyProof.Rows hiding St

section
variable {P : Program} {w : World} {K : PySem.W.Frag} {mg : Str → Option Value} {base : Heap} {N : List Str} {qual : Str} {scope : Scope} {f : Addr} {cd : Value} {A : Around} {outer : List Env} {s : Shared} {H : Hp} {E : XK}
/-- what a callee raises, this def raises -/
theorem pass_on : Passes (CX1 P w) (cxOf (CX1 P w) P w K mg base N qual scope f cd A outer s H E) E := by
  intro pins σ H1 s1 e s' I c
  obtain ⟨x, C, H', rfl, os, bare, un, hok, fly, q⟩ := c
  obtain ⟨oe, vs, T, oT, ts', a0, he, hc, hd, h1, hnT, hTe, hT, hdT, h3, hHT⟩ := fly.ex
  have FF : s'.heap.FunFrames (PySem.W.hideAll s'.heap (x :: T :: frs (cxOf (CX1 P w) P w K mg base N qual scope f cd A outer s H E).stack)) (cxOf (CX1 P w) P w K mg base N qual scope f cd A outer s H E).stack :=
    ff_move I.stack (fun b hb => PySem.W.hideAll_none _ (List.mem_cons_of_mem _ (List.mem_cons_of_mem _ hb))) fun b hb o e => by
      obtain ⟨sl, e2⟩ := un.any e (I.stkFree b hb) (by simp)
      exact ⟨_, e2, rfl⟩
  have fl : Heap.FlyingW (PySem.W.hideAll s'.heap (x :: T :: frs (cxOf (CX1 P w) P w K mg base N qual scope f cd A outer s H E).stack)) (cxOf (CX1 P w) P w K mg base N qual scope f cd A outer s H E).stack x (.ref C) a0 s'.heap :=
    ⟨fun b o hb => PySem.W.of_hideAll _ hb, PySem.W.hideAll_none _ List.mem_cons_self, FF, oe, vs, T, oT, ts', he, hc, hd, h1, PySem.W.hideAll_none _ (List.mem_cons_of_mem _ List.mem_cons_self), hTe, hT, hdT, h3⟩
  have I' : Inv (cxOf (CX1 P w) P w K mg base N qual scope f cd A outer s H E) pins σ H' s' := I.call' os un hok bare (fun _ z => nomatch z)
  refine wpAny_leaves_onW (outer := outer) (L := (cxOf (CX1 P w) P w K mg base N qual scope f cd A outer s H E).env.locals) I.ok.frames rfl fl fun h'' fl2 sm => ?_
  have nf : ∀ b o, b ∈ frs (cxOf (CX1 P w) P w K mg base N qual scope f cd A outer s H E).stack → s'.heap.get? b = some o → ∀ vs, o.data ≠ .fields vs := fun b o hb e => by
    obtain ⟨_, o', e', nf⟩ := FF.mem hb
    rw [e] at e'
    cases e'
    exact nf
  have back1 : ∀ b, s1.heap.get? b = none → s.heap.get? b = none := fun b e => by
    cases z : s.heap.get? b with
    | none => rfl
    | some o =>
      obtain ⟨o', e1⟩ := I.base.there b o z (fun y => absurd (show b ∈ ([] : List Addr) from y) (by simp))
      rw [e] at e1
      cases e1
  have kept : ∀ b o, s'.heap.get? b = some o → b ≠ x → b ≠ T → b ∉ frs (cxOf (CX1 P w) P w K mg base N qual scope f cd A outer s H E).stack → h''.get? b = some o := fun b o e n1 n2 n3 => fl2.1 b o (PySem.W.hideAll_get _ e (by simp [n1, n2, n3]))
  have slots : ∀ b o, b ∈ frs (cxOf (CX1 P w) P w K mg base N qual scope f cd A outer s H E).stack → s'.heap.get? b = some o → ∃ sl, h''.get? b = some { o with slots := sl } := fun b o hb e => sm b o e (nf b o hb e)
  have xs0 := back1 x fly.xn
  have Ts0 := back1 T hnT
  have nxT : ∀ b o, s.heap.get? b = some o → b ≠ x ∧ b ≠ T := fun b o e => ⟨(fun z => by rw [z, xs0] at e; cases e), (fun z => by rw [z, Ts0] at e; cases e)⟩
  have unO : Un (frs outer) [] H H' s.heap h'' := by
    have B := I'.base
    have any : ∀ b o, b ≠ x → b ≠ T → s'.heap.get? b = some o → ∃ sl, h''.get? b = some { o with slots := sl } := fun b o n1 n2 e => by
      by_cases hb : b ∈ frs (cxOf (CX1 P w) P w K mg base N qual scope f cd A outer s H E).stack
      · exact slots b o hb e
      · exact ⟨o.slots, kept b o e n1 n2 hb⟩
    have nx : ∀ b : Addr, b ∉ (cxOf (CX1 P w) P w K mg base N qual scope f cd A outer s H E).ex := fun b z => absurd (show b ∈ ([] : List Addr) from z) (by simp)
    refine ⟨fun b o e n hb hx => ?_, fun b o e n hb hx => ?_, fun b o e n hx => B.free b o e n (nx b), fun b o e hx => ?_, B.tups, B.frzs, B.tbls⟩
    · refine kept b o (B.keep b o e n hb (nx b)) (nxT b o e).1 (nxT b o e).2 fun z => ?_
      rcases List.mem_cons.mp (I'.stkSub b z) with z | z
      · have := Nat.lt_of_lt_of_le (Heap.lt_size e) I'.ok.above
        rw [z] at this
        exact absurd this (Nat.lt_irrefl _)
      · exact hb z
    · obtain ⟨sl, e1⟩ := B.slot b o e n hb (nx b)
      obtain ⟨sl2, e2⟩ := any b _ (nxT b o e).1 (nxT b o e).2 e1
      exact ⟨sl2, e2⟩
    · obtain ⟨o', e1⟩ := B.there b o e (nx b)
      obtain ⟨sl, e2⟩ := any b o' (nxT b o e).1 (nxT b o e).2 e1
      exact ⟨_, e2⟩
  have hok2 : HOk P w H' h'' := hok_keeps hok fun b u hb e => kept b u e (fun z => hb (by rw [z]; exact fly.xh)) (fun z => hb (by rw [z]; exact hHT)) (fun z => hb (I'.stkFree b z))
  obtain ⟨oe2, vs2, T2, oT2, ts2, he2, hc2, hd2, h12, hnT2, hTe2, hT2, hdT2, h32⟩ := fl2.2.2.2
  have T2n : s'.heap.get? T2 = none ∨ T2 = T := by
    by_cases e : T2 = T
    · exact .inr e
    · refine .inl ?_
      cases z : s'.heap.get? T2 with
      | none => rfl
      | some o =>
        by_cases hb : T2 ∈ frs (cxOf (CX1 P w) P w K mg base N qual scope f cd A outer s H E).stack
        · obtain ⟨sl, e2⟩ := slots T2 o hb z
          rw [hT2] at e2
          cases e2
          exact absurd hdT2 (nf T2 o hb z ts2)
        · rw [PySem.W.hideAll_get _ z (by simp [hTe2, e, hb])] at hnT2
          cases hnT2
  have backS : s.heap.get? T2 = none ∧ H' T2 = none := by
    rcases T2n with z | z
    · refine ⟨?_, hok_none hok z⟩
      cases u : s.heap.get? T2 with
      | none => rfl
      | some o =>
        obtain ⟨o', e1⟩ := I'.base.there T2 o u (fun y => absurd (show T2 ∈ ([] : List Addr) from y) (by simp))
        rw [z] at e1
        cases e1
    · rw [z]
      exact ⟨Ts0, hHT⟩
  exact ⟨x, C, H', rfl, I'.os, bare, unO, hok2, ⟨⟨oe2, vs2, T2, oT2, ts2, _, he2, hc2, hd2, h12, backS.1, hTe2, hT2, hdT2, h32, backS.2⟩, xs0, fly.xh⟩, q⟩
end

/-- an expression that may raise: its reading with a wish for the exception -/
abbrev TEX := St → Hp → VK → XK → Prop
section
variable {X : Cx} {k : Nat} {f : Addr} {fd : FuncData} {ps : List Str} {sp : Sp} {x : Str} {p pos : Pos} {ex : Expr} {es : List Expr} {t : TA}
end
section
variable {X : Cx} {n R : Str} {rp hpos tp p1 : Pos} {e : Expr} {te : TEX} {i : Nat} {D : Addr} {b₀ : Stmt} {suite : List Stmt} {ts : TS}
/-- the parts of a clause «except R as n: suite» -/
structure Clause (X : Cx) (i : Nat) (n R : Str) (D : Addr) (b₀ : Stmt) (suite : List Stmt) (ts : TS) : Prop where
  st : X.stack = X.env :: X.outer ∧ X.env.frame = some X.env.locals
  g : Gl X R
  m : X.mg R = some (.ref D)
  z : ClauseK X.K D
  nd : X.N.Nodup
  ix : X.N[i]? = some n
  lo : X.env.scope.names.lookup n = some .local
  su : ∀ z, PSs (X.inex z) (b₀ :: suite) ts
  db : (R == ("__debug__" : Str)) = false
end
end Fr

set_option Elab.async false
set_option linter.all false
set_option maxRecDepth 100000
namespace L2
open PySem PySem.Spec PyProof.Rows

/-! ### lists of pairs as tables -/
section
variable {κ : Type} [DecidableEq κ]
def valV (kvs : List (κ × V)) (k : κ) : Option V := (kvs.find? fun kv => decide (kv.1 = k)).map (·.2)
/-- in its place, or at the end -/
def putK (kvs : List (κ × V)) (k : κ) (v : V) : List (κ × V) :=
  if (kvs.any fun kv => decide (kv.1 = k)) = true then kvs.map (fun kv => if kv.1 = k then (kv.1, v) else kv) else kvs ++ [(k, v)]
def dropK (kvs : List (κ × V)) (k : κ) : List (κ × V) := kvs.filter fun kv => decide (kv.1 ≠ k)

theorem valV_pos {p : κ × V} {r : List (κ × V)} {k : κ} (e : p.1 = k) : valV (p :: r) k = some p.2 := by simp [valV, List.find?_cons, e]
theorem valV_neg {p : κ × V} {r : List (κ × V)} {k : κ} (e : ¬ p.1 = k) : valV (p :: r) k = valV r k := by simp [valV, List.find?_cons, e]
theorem valV_any (k : κ) : ∀ kvs : List (κ × V), (kvs.any fun kv => decide (kv.1 = k)) = (valV kvs k).isSome
  | [] => rfl
  | p :: r => by
    rw [List.any_cons]
    by_cases e : p.1 = k
    · simp only [valV_pos e, decide_eq_true e, Bool.true_or, Option.isSome_some]
    · rw [valV_neg e, decide_eq_false e, Bool.false_or]; exact valV_any k r
theorem length_putK (kvs : List (κ × V)) (k : κ) (v : V) : (putK kvs k v).length ≤ kvs.length + 1 := by
  unfold putK
  split
  · rw [List.length_map]; omega
  · rw [List.length_append, List.length_cons, List.length_nil]; omega
theorem putK_new {kvs : List (κ × V)} {k : κ} (v : V) (h : valV kvs k = none) : putK kvs k v = kvs ++ [(k, v)] := by
  unfold putK
  rw [valV_any, h]
  exact if_neg (by decide)

theorem RelO.isSome_eq {o : Option V} {u : Option Value} (r : RelO o u) : o.isSome = u.isSome := by
  cases o with
  | none => cases u with
    | none => rfl
    | some _ => exact (show False from r).elim
  | some _ => cases u with
    | none => exact (show False from r).elim
    | some _ => rfl
theorem RelO.getD {o : Option V} {u : Option Value} {d : V} {d' : Value} (r : RelO o u) (rd : RelV d d') : RelV (o.getD d) (u.getD d') := by
  cases o with
  | none => cases u with
    | none => exact rd
    | some _ => exact (show False from r).elim
  | some _ => cases u with
    | none => exact (show False from r).elim
    | some _ => exact r

/-- raw tables of the same keys -/
theorem KV.val {kvs : List (κ × V)} {vs : List (κ × Value)} (r : KV kvs vs) (k : κ) : RelO (valV kvs k) (valueAt vs k) := by
  unfold KV at r
  induction r with
  | nil => exact True.intro
  | @cons p q ps qs h t ih =>
    obtain ⟨h1, h2⟩ := h
    by_cases e : p.1 = k
    · have e' : q.1 = k := h1.symm.trans e
      have b : valueAt (q :: qs) k = some q.2 := by simp [valueAt, List.find?_cons, e']
      rw [valV_pos e, b]; exact h2
    · have e' : ¬ q.1 = k := fun z => e (h1.trans z)
      have b : valueAt (q :: qs) k = valueAt qs k := by simp [valueAt, List.find?_cons, e']
      rw [valV_neg e, b]; exact ih
theorem KV.any {kvs : List (κ × V)} {vs : List (κ × Value)} (r : KV kvs vs) (k : κ) : (kvs.any fun kv => decide (kv.1 = k)) = vs.any fun kv => decide (kv.1 = k) := by
  unfold KV at r
  induction r with
  | nil => rfl
  | cons h t ih => rw [List.any_cons, List.any_cons, ih, h.1]
theorem KV.repl {kvs : List (κ × V)} {vs : List (κ × Value)} (r : KV kvs vs) (k : κ) {y : V} {u : Value} (ry : RelV y u) :
    KV (kvs.map fun kv => if kv.1 = k then (kv.1, y) else kv) (vs.map fun kv => if kv.1 = k then (kv.1, u) else kv) := by
  unfold KV at r ⊢
  induction r with
  | nil => exact .nil
  | @cons p q ps qs h t ih =>
    rw [List.map_cons, List.map_cons]
    refine .cons ?_ ih
    obtain ⟨h1, h2⟩ := h
    by_cases e : p.1 = k
    · rw [if_pos e, if_pos (h1.symm.trans e)]; exact ⟨h1, ry⟩
    · rw [if_neg e, if_neg (fun z => e (h1.trans z))]; exact ⟨h1, h2⟩
theorem KV.put {kvs : List (κ × V)} {vs : List (κ × Value)} (r : KV kvs vs) (k : κ) {y : V} {u : Value} (ry : RelV y u) : KV (putK kvs k y) (stored vs k u) := by
  unfold putK stored
  rw [r.any k]
  by_cases e : (vs.any fun kv => decide (kv.1 = k)) = true
  · rw [if_pos e, if_pos e]; exact r.repl k ry
  · rw [if_neg e, if_neg e]; exact Paired.snoc r ⟨rfl, ry⟩
theorem KV.drop {kvs : List (κ × V)} {vs : List (κ × Value)} (r : KV kvs vs) (k : κ) : KV (dropK kvs k) (without vs k) := by
  unfold KV at r ⊢
  unfold dropK without
  induction r with
  | nil => exact .nil
  | @cons p q ps qs h t ih =>
    obtain ⟨h1, h2⟩ := h
    rw [List.filter_cons, List.filter_cons]
    by_cases e : p.1 = k
    · have a : ¬ decide (p.1 ≠ k) = true := by simp [e]
      have b : ¬ decide (q.1 ≠ k) = true := by simp [h1.symm.trans e]
      rw [if_neg a, if_neg b]; exact ih
    · have e' : ¬ q.1 = k := fun z => e (h1.trans z)
      have a : decide (p.1 ≠ k) = true := by simp [e]
      have b : decide (q.1 ≠ k) = true := by simp [e']
      rw [if_pos a, if_pos b]; exact .cons ⟨h1, h2⟩ ih
theorem KV.length {kvs : List (κ × V)} {vs : List (κ × Value)} (r : KV kvs vs) : kvs.length = vs.length := Paired.length r
end


/-! ### a tracked dict, its keys ints and texts or tuples of these -/
theorem kV_is {P : Program} {w : World} {k : Key} {u : Value} (r : RelV (kV k) u) : (mixKind P w).is k u = true := by
  cases k with
  | inl i => obtain ⟨t, e⟩ := (show ∃ t, u = Value.int i t from r); subst e; exact mixKind_int P w i t
  | inr x => obtain ⟨t, e⟩ := (show ∃ t, u = Value.str x t from r); subst e; exact mixKind_str P w x t
theorem items_are {P : Program} {w : World} : ∀ {ks : List Key} {us : List Value}, Vals (ks.map kV) us → ItemsAre (mixKind P w) ks us
  | [], _, r => by rw [List.map_nil] at r; cases r; exact .nil
  | k :: ks, _, r => by
    rw [List.map_cons] at r
    cases r with
    | cons h t => exact .cons (kV_is h) (items_are t)

/-- raw entries of a dict with tuple keys -/
abbrev KT (H : Hp) : List (List Key × V) → List (List Key × Addr × Value) → Prop := Paired fun p q => p.1 = q.1 ∧ H q.2.1 = some (.tup (p.1.map kV)) ∧ RelV p.2 q.2.2
theorem KT.val {H : Hp} {kvs : List (List Key × V)} {xs : List (List Key × Addr × Value)} (r : KT H kvs xs) (k : List Key) : RelO (valV kvs k) ((atKey xs k).map (·.2)) := by
  induction r with
  | nil => exact True.intro
  | @cons p q ps qs h t ih =>
    obtain ⟨h1, _, h2⟩ := h
    by_cases e : p.1 = k
    · have e' : q.1 = k := h1.symm.trans e
      have b : atKey (q :: qs) k = some q.2 := by simp [atKey, List.find?_cons, e']
      rw [valV_pos e, b]; exact h2
    · have e' : ¬ q.1 = k := fun z => e (h1.trans z)
      have b : atKey (q :: qs) k = atKey qs k := by simp [atKey, List.find?_cons, e']
      rw [valV_neg e, b]; exact ih
theorem KT.repl {H : Hp} {kvs : List (List Key × V)} {xs : List (List Key × Addr × Value)} (r : KT H kvs xs) (k : List Key) {y : V} {u : Value} (ry : RelV y u) :
    KT H (kvs.map fun kv => if kv.1 = k then (kv.1, y) else kv) (xs.map (putAt k u)) := by
  induction r with
  | nil => exact .nil
  | @cons p q ps qs h t ih =>
    rw [List.map_cons, List.map_cons]
    refine .cons ?_ ih
    obtain ⟨h1, h2, h3⟩ := h
    unfold putAt
    by_cases e : p.1 = k
    · rw [if_pos e, if_pos (h1.symm.trans e)]; exact ⟨h1, h2, ry⟩
    · rw [if_neg e, if_neg (fun z => e (h1.trans z))]; exact ⟨h1, h2, h3⟩
theorem KT.put {H : Hp} {kvs : List (List Key × V)} {xs : List (List Key × Addr × Value)} (r : KT H kvs xs) (k : List Key) {b : Addr} {y : V} {u : Value} (hb : H b = some (.tup (k.map kV))) (ry : RelV y u) :
    KT H (putK kvs k y) (storedH xs k b u) := by
  have e : (kvs.any fun kv => decide (kv.1 = k)) = (atKey xs k).isSome := by
    rw [valV_any, (r.val k).isSome_eq, Option.isSome_map]
  unfold putK storedH
  rw [e]
  by_cases q : (atKey xs k).isSome = true
  · rw [if_pos q, if_pos q]; exact r.repl k ry
  · rw [if_neg q, if_neg q]; exact Paired.snoc r ⟨rfl, hb, ry⟩
theorem KT.keeps {H H' : Hp} {kvs : List (List Key × V)} {xs : List (List Key × Addr × Value)} (r : KT H kvs xs) (ht : ∀ b ys, H b = some (.tup ys) → H' b = some (.tup ys)) : KT H' kvs xs :=
  Paired.mapP r fun _ _ z => ⟨z.1, ht _ _ z.2.1, z.2.2⟩

section
variable {P : Program} {w : World} {H : Hp} {h : Heap} {a : Addr}
theorem rd_of {u : HO} (ok : HOk P w H h) (e : Rd H a u) : ObjOk P w H h a u := e.ok ok
theorem dk_rd {kvs : List (Key × V)} (ok : HOk P w H h) (e : Rd H a (.dK kvs)) : kvs.length ≤ sizeLine ∧ (a == sysModules) = false ∧ ∃ vs, KV kvs vs ∧ h.DictOf (mixKind P w) a vs :=
  show ObjOk P w H h a (.dK kvs) from rd_of ok e
theorem dk_of {kvs : List (Key × V)} (ok : HOk P w H h) (e : H a = some (.dK kvs)) : kvs.length ≤ sizeLine ∧ (a == sysModules) = false ∧ ∃ vs, KV kvs vs ∧ h.DictOf (mixKind P w) a vs := dk_rd ok (.inl e)
/-- a tracked tuple of ints and texts is a key -/
theorem key_of {ks : List Key} (ok : HOk P w H h) (e : H a = some (.tup (ks.map kV))) : (tupleKind (mixKind P w)).is h ks a := by
  obtain ⟨_, its, r, o, h1, h2, n, h3⟩ := (show ObjOk P w H h a (.tup (ks.map kV)) from ok a _ e)
  exact ⟨o, its.toArray, n, h1, h2, h3, by simpa using items_are r⟩
theorem dt_rd {kvs : List (List Key × V)} (ok : HOk P w H h) (e : Rd H a (.dT kvs)) : kvs.length ≤ sizeLine ∧ (a == sysModules) = false ∧
    ∃ xs, KT H kvs xs ∧ h.DictOfH (tupleKind (mixKind P w)) a xs := by
  obtain ⟨z, y, xs, r, o, es, ep, h1, h2, h3, h4, h5⟩ := (show ObjOk P w H h a (.dT kvs) from rd_of ok e)
  refine ⟨z, y, xs, r, o, es, ep, h1, h2, h3, h4, fun x hx => ?_, h5⟩
  have all : ∀ {l : List (List Key × V)} {m : List (List Key × Addr × Value)}, KT H l m → ∀ x ∈ m, (tupleKind (mixKind P w)).is h x.1 x.2.1 := by
    intro l m q
    induction q with
    | nil => intro x hx; exact nomatch hx
    | @cons p q ps qs hq t ih =>
      intro x hx
      rcases List.mem_cons.mp hx with e | hx
      · subst e
        exact key_of ok (by rw [← hq.1]; exact hq.2.1)
      · exact ih x hx
  exact all r x hx
theorem dt_of {kvs : List (List Key × V)} (ok : HOk P w H h) (e : H a = some (.dT kvs)) : kvs.length ≤ sizeLine ∧ (a == sysModules) = false ∧
    ∃ xs, KT H kvs xs ∧ h.DictOfH (tupleKind (mixKind P w)) a xs := dt_rd ok (.inl e)
end

/-- what the dict at a holds at the key y -/
def DGet (H : Hp) (a : Addr) (y : V) (r : Option V) : Prop :=
  (∃ kvs k, Rd H a (.dK kvs) ∧ y = kV k ∧ r = valV kvs k) ∨ ∃ kvs k b, Rd H a (.dT kvs) ∧ y = .ref b ∧ H b = some (.tup (k.map kV)) ∧ r = valV kvs k
/-- the heap behind a[y] = v -/
def DPut (H : Hp) (a : Addr) (y v : V) (H' : Hp) : Prop :=
  (∃ kvs k, H a = some (.dK kvs) ∧ y = kV k ∧ kvs.length < sizeLine ∧ H' = upd H a (.dK (putK kvs k v))) ∨
  ∃ kvs k b, H a = some (.dT kvs) ∧ y = .ref b ∧ H b = some (.tup (k.map kV)) ∧ kvs.length < sizeLine ∧ H' = upd H a (.dT (putK kvs k v))
theorem DGet.k {H : Hp} {a : Addr} {kvs : List (Key × V)} {k : Key} (e : H a = some (.dK kvs)) : DGet H a (kV k) (valV kvs k) := .inl ⟨kvs, k, .inl e, rfl, rfl⟩
theorem DGet.t {H : Hp} {a b : Addr} {kvs : List (List Key × V)} {k : List Key} (e : H a = some (.dT kvs)) (eb : H b = some (.tup (k.map kV))) : DGet H a (.ref b) (valV kvs k) := .inr ⟨kvs, k, b, .inl e, rfl, eb, rfl⟩
theorem DPut.k {H : Hp} {a : Addr} {kvs : List (Key × V)} {k : Key} {v : V} (e : H a = some (.dK kvs)) (hl : kvs.length < sizeLine) : DPut H a (kV k) v (upd H a (.dK (putK kvs k v))) := .inl ⟨kvs, k, e, rfl, hl, rfl⟩
theorem DPut.t {H : Hp} {a b : Addr} {kvs : List (List Key × V)} {k : List Key} {v : V} (e : H a = some (.dT kvs)) (eb : H b = some (.tup (k.map kV))) (hl : kvs.length < sizeLine) :
    DPut H a (.ref b) v (upd H a (.dT (putK kvs k v))) := .inr ⟨kvs, k, b, e, rfl, eb, hl, rfl⟩


section
variable {X : Cx} {pins : List (Addr × Obj)} {σ : St} {H : Hp} {s : Shared} {a : Addr} {y v : V} {u r : Value} {o : Option V} {A : Around} {E : Value → Shared → Prop}

theorem Inv.big (I : Inv X pins σ H s) : sysModules < s.heap.objs.size := by
  have h : mainGlobals < s.heap.objs.size := (I.mod.glob.keeps I.bk).lt
  exact Nat.lt_trans (by decide) h

/-- d[y], there -/
theorem d_getItem {Q : Value → Shared → Prop} (hu : A.units + 1 < cLine) (I : Inv X pins σ H s) (g : DGet H a y (some v)) (ry : RelV y u) (h : ∀ w' s', Inv X pins σ H s' → RelV v w' → Q w' s') :
    wpAny (model X.prog X.w) A (getItem (.ref a) u) Q E s := by
  rcases g with ⟨kvs, k, e, ey, l⟩ | ⟨kvs, k, b, e, ey, eb, l⟩
  · subst ey
    obtain ⟨z, hd, vs, rel, dd⟩ := dk_rd I.hok e
    obtain ⟨w', hw, rw'⟩ := RelO.some_of (v := v) (o := valueAt vs k) (by rw [l]; exact rel.val k)
    exact wpAny_getItem_of (kV_is ry) dd.mapOf hw (h w' _ (I.tok _) rw')
  · subst ey
    cases (show u = Value.ref b from ry)
    obtain ⟨z, hd, xs, rel, dd⟩ := dt_rd I.hok e
    obtain ⟨w', hw, rw'⟩ := RelO.some_of (v := v) (o := (atKey xs k).map (·.2)) (by rw [l]; exact rel.val k)
    obtain ⟨p, hp, hp2⟩ := Option.map_eq_some_iff.mp hw
    refine wpAny_getItem_heap (tupleKind_room_in1 hu) (key_of I.hok eb) dd hp ?_
    rw [hp2]
    exact h w' _ (I.tok _) rw'
/-- y in d -/
theorem d_in {Q : Value → Shared → Prop} (hu : A.units + 1 < cLine) (I : Inv X pins σ H s) (g : DGet H a y o) (ry : RelV y u) (h : ∀ s', Inv X pins σ H s' → Q (.bool o.isSome) s') :
    wpAny (model X.prog X.w) A (compareOp .In u (.ref a)) Q E s := by
  rcases g with ⟨kvs, k, e, ey, l⟩ | ⟨kvs, k, b, e, ey, eb, l⟩
  · subst ey
    obtain ⟨z, hd, vs, rel, dd⟩ := dk_rd I.hok e
    refine wpAny_in_of (kV_is ry) hd dd.mapOf ?_
    rw [← (rel.val k).isSome_eq, ← l]
    exact h _ (I.tok _)
  · subst ey
    cases (show u = Value.ref b from ry)
    obtain ⟨z, hd, xs, rel, dd⟩ := dt_rd I.hok e
    refine wpAny_in_heap (tupleKind_room_in1 hu) (key_of I.hok eb) hd dd ?_
    have q := (rel.val k).isSome_eq
    rw [Option.isSome_map] at q
    rw [← q, ← l]
    exact h _ (I.tok _)
theorem d_notIn {Q : Value → Shared → Prop} (hu : A.units + 1 < cLine) (I : Inv X pins σ H s) (g : DGet H a y o) (ry : RelV y u) (h : ∀ s', Inv X pins σ H s' → Q (.bool (!o.isSome)) s') :
    wpAny (model X.prog X.w) A (compareOp .NotIn u (.ref a)) Q E s := by
  rcases g with ⟨kvs, k, e, ey, l⟩ | ⟨kvs, k, b, e, ey, eb, l⟩
  · subst ey
    obtain ⟨z, hd, vs, rel, dd⟩ := dk_rd I.hok e
    refine wpAny_notIn_of (kV_is ry) hd dd.mapOf ?_
    rw [← (rel.val k).isSome_eq, ← l]
    exact h _ (I.tok _)
  · subst ey
    cases (show u = Value.ref b from ry)
    obtain ⟨z, hd, xs, rel, dd⟩ := dt_rd I.hok e
    refine wpAny_notIn_heap (tupleKind_room_in1 hu) (key_of I.hok eb) hd dd ?_
    have q := (rel.val k).isSome_eq
    rw [Option.isSome_map] at q
    rw [← q, ← l]
    exact h _ (I.tok _)
/-- a dict's object is replaced -/
theorem d_write {h' : Heap} {t' : Nat} {ob : HO} (I : Inv X pins σ H s) (mu : Mut (H a)) (hs : Heap.SameBut a s.heap h') (he : ∃ q, h'.get? a = some q) (new : ObjOk X.prog X.w (upd H a ob) h' a ob) :
    Inv X pins σ (upd H a ob) { s with heap := h', toks := t' } :=
  I.write (x := a) (e := a) mu (.inl rfl) (fun b q hb z => (hs.2 b hb).trans z) he new
theorem dk_new {P : Program} {w : World} {H' : Hp} {h' : Heap} {kvs : List (Key × V)} {vs : List (Key × Value)} (z : kvs.length ≤ sizeLine) (hd : (a == sysModules) = false) (rel : KV kvs vs) (dd : h'.DictOf (mixKind P w) a vs) :
    ObjOk P w H' h' a (.dK kvs) := ⟨z, hd, vs, rel, dd⟩
/-- d[y] = v -/
theorem d_setItem {H' : Hp} {Q : Unit → Shared → Prop} (hu : A.units + 1 < cLine) (I : Inv X pins σ H s) (g : DPut H a y v H') (ry : RelV y u) (rv : RelV v r) (h : ∀ s', Inv X pins σ H' s' → Q () s') :
    wpAny (model X.prog X.w) A (setItem (.ref a) u r) Q E s := by
  rcases g with ⟨kvs, k, e, ey, l, eH⟩ | ⟨kvs, k, b, e, ey, eb, l, eH⟩
  · subst ey eH
    obtain ⟨z, hd, vs, rel, dd⟩ := dk_of I.hok e
    have hz : vs.length ≤ sizeLine := by rw [← rel.length]; exact z
    have hl : (putK kvs k v).length ≤ sizeLine := by have := length_putK kvs k v; omega
    refine wpAny_setItem_pairs (hsz := hz) (kV_is ry) dd fun h' dd' hs => h _ ?_
    have he : ∃ q, h'.get? a = some q := let ⟨q, _, _, hq, _⟩ := dd'; ⟨q, hq⟩
    exact d_write I (by rw [e]; exact True.intro) hs he (dk_new hl hd (rel.put k rv) dd')
  · subst ey eH
    cases (show u = Value.ref b from ry)
    obtain ⟨z, hd, xs, rel, dd⟩ := dt_of I.hok e
    have hz : xs.length ≤ sizeLine := by rw [← Paired.length rel]; exact z
    have hl : (putK kvs k v).length ≤ sizeLine := by have := length_putK kvs k v; omega
    refine wpAny_setItem_heap (hsz := hz) (tupleKind_room_in1 hu) (key_of I.hok eb) dd fun h' dd' hs => h _ ?_
    obtain ⟨q, es, ep, hq, h2, h3, h4, _, h5⟩ := dd'
    refine d_write I (by rw [e]; exact True.intro) hs ⟨q, hq⟩ ⟨hl, hd, _, (rel.put k eb rv).keeps fun c ys ec => ?_, q, es, ep, hq, h2, h3, h4, h5⟩
    rw [upd_ne (ne_of ec e (fun z => nomatch z))]
    exact ec
end

section
variable {X : Cx} {pins : List (Addr × Obj)} {σ : St} {H : Hp} {s : Shared} {a : Addr} {kvs : List (Key × V)} {k : Key} {u : Value} {A : Around} {E : Value → Shared → Prop}
end


/-! ### readings and rules -/
/-- the element of a subscription, not a slice -/
def NoSl (i : Expr) : Prop := ∀ ov iv, subscripted i false ov iv = operate [ov, iv] (getItem ov iv)
theorem subD_of {prog : Program} {w : World} {A : Around} {E : Value → Shared → Prop} {s : Shared} {env : Env} {value slice : Expr} {pos : Pos} {T id : String} {Q : Value → Shared → Prop}
    (hl : typeLookup (.type T) "__getitem__" = pure (some (.builtin id))) (hs : NoSl slice)
    (h : wpAny (model prog w) A (eval value env) (fun o s₁ => wpAny (model prog w) A (eval slice env) (fun i s₂ => s₂.TypeIs o T ∧ wpAny (model prog w) A (getItem o i) Q E s₂) E s₁) E s) :
    wpAny (model prog w) A (eval (.Subscript value slice pos) env) Q E s := by
  refine Subscript_ (wpAny_mono h (fun o s₁ h₁ => wpAny_mono h₁ (fun i s₂ h₂ => ?_) fun _ _ x => x) fun _ _ x => x)
  obtain ⟨hT, h₂⟩ := h₂
  unfold subscriptTail
  refine wpAny_bind ?_
  rw [getitemInPython_of_ne hT.not_modules]
  refine wpAny_bind (wpAny_specialOf hT hl ?_)
  have fin : wpAny (model prog w) A (subscripted slice false o i) (fun r s₃ => wpAny (model prog w) A (letTemporaryGo value o r >>= fun _ => pure r) Q E s₃) E s₂ := by
    rw [hs o i]
    exact wpAny_operating (wpAny_mono h₂ (fun r s₃ h₃ => wpAny_bind (wpAny_letTemporaryGo (wpAny_pure h₃))) fun _ _ x => x)
  first
    | exact wpAny_pure (wpAny_bind fin)
    | exact wpAny_bind (wpAny_pure (wpAny_bind fin))
    | exact wpAny_bind fin

theorem dict_typeIs {X : Cx} {pins : List (Addr × Obj)} {σ : St} {H : Hp} {s : Shared} {a : Addr} {y : V} {o : Option V} (I : Inv X pins σ H s) (g : DGet H a y o) : s.TypeIs (.ref a) "dict" := by
  rcases g with ⟨kvs, k, e, _, _⟩ | ⟨kvs, k, b, e, _, _, _⟩
  · obtain ⟨_, _, vs, _, dd⟩ := dk_rd I.hok e
    exact dd.typeIs
  · obtain ⟨_, _, xs, _, dd⟩ := dt_rd I.hok e
    exact dd.typeIs
/-- d[y] -/
def tDGet (td ty : TE) : TE := fun σ H Q => td σ H fun x H1 => ty σ H1 fun y H2 => ∃ a v, x = .ref a ∧ DGet H2 a y (some v) ∧ Q v H2
/-- y in d, y not in d -/
def tDIn (ty td : TE) : TE := fun σ H Q => ty σ H fun y H1 => td σ H1 fun x H2 => ∃ a o, x = .ref a ∧ DGet H2 a y o ∧ Q (.bl o.isSome) H2
def tDNotIn (ty td : TE) : TE := fun σ H Q => ty σ H fun y H1 => td σ H1 fun x H2 => ∃ a o, x = .ref a ∧ DGet H2 a y o ∧ Q (.bl (!o.isSome)) H2
/-- d[y] = v -/
def sDPut (td ty tv : TE) : TS := fun D σ H => tv σ H fun v H1 => td σ H1 fun x H2 => ty σ H2 fun y H3 => ∃ a H4, x = .ref a ∧ DPut H3 a y v H4 ∧ D.nx σ H4
section
variable {X : Cx} {o i e value : Expr} {pos pos' tpos : Pos} {td ty tv : TE}
theorem pe_dget (hu : X.A.units + 1 < cLine) (ho : PE X o td) (hi : PE X i ty) (hs : NoSl i) : PE X (.Subscript o i pos) (tDGet td ty) := by
  intro pins s σ H Q I h
  refine subD_of PySem.F.slot_dict_getitem.lookup hs (thn (ho pins s σ H _ I h) fun u s1 ⟨x, H1, I1, rx, q1⟩ => thn (hi pins s1 σ H1 _ I1 q1) fun iv s2 ⟨y, H2, I2, ry, a, v, ex, g, q2⟩ => ?_)
  subst ex
  obtain rfl : u = Value.ref a := rx
  exact ⟨dict_typeIs I2 g, d_getItem hu I2 g ry fun w' s3 I3 rw' => ⟨v, H2, I3, rw', q2⟩⟩
theorem pc_din (hu : X.A.units + 1 < cLine) (hi : PE X i ty) (ho : PE X o td) : PC X .In i o (tDIn ty td) := by
  intro pins s σ H Q I h
  refine thn (hi pins s σ H _ I h) fun iv s1 ⟨y, H1, I1, ry, q1⟩ => thn (ho pins s1 σ H1 _ I1 q1) fun u s2 ⟨x, H2, I2, rx, a, ov, ex, g, q2⟩ => ?_
  subst ex
  obtain rfl : u = Value.ref a := rx
  exact d_in hu I2 g ry fun s3 I3 => ⟨.bl ov.isSome, H2, I3, rfl, q2⟩
theorem pc_dnotin (hu : X.A.units + 1 < cLine) (hi : PE X i ty) (ho : PE X o td) : PC X .NotIn i o (tDNotIn ty td) := by
  intro pins s σ H Q I h
  refine thn (hi pins s σ H _ I h) fun iv s1 ⟨y, H1, I1, ry, q1⟩ => thn (ho pins s1 σ H1 _ I1 q1) fun u s2 ⟨x, H2, I2, rx, a, ov, ex, g, q2⟩ => ?_
  subst ex
  obtain rfl : u = Value.ref a := rx
  exact d_notIn hu I2 g ry fun s3 I3 => ⟨.bl (!ov.isSome), H2, I3, rfl, q2⟩
theorem ps_dput (hu : X.A.units + 1 < cLine) (ho : PE X o td) (hi : PE X i ty) (hv : PE X value tv) (hs : swapsWith value (some (.Subscript o i pos')) pos.line X.env = pure false) :
    PS X (.Assign [.Subscript o i pos'] value pos) (sDPut td ty tv) := by
  intro pins s σ H D I h
  refine wpAny_Assign_Subscript (thn (hv pins s σ H _ I h) fun r s1 ⟨v, H1, I1, rv, q1⟩ => thn (ho pins s1 σ H1 _ I1 q1) fun u s2 ⟨x, H2, I2, rx, q2⟩ => thn (hi pins s2 σ H2 _ I2 q2) fun iv s3 ⟨y, H3, I3, ry, a, H4, ex, g, q3⟩ => ?_) hs
  subst ex
  obtain rfl : u = Value.ref a := rx
  exact d_setItem hu I3 g ry rv fun s4 I4 => ⟨σ, H4, I4, q3⟩
end


/-! ### displays -/
theorem dt_empty {P : Program} {w : World} {H : Hp} (h : Heap) (hb : sysModules < h.objs.size) : ObjOk P w H (h.push { cls := .type "dict", data := .dict #[] }) h.objs.size (.dT []) :=
  ⟨Nat.zero_le _, beq_eq_false_iff_ne.mpr (Ne.symm (Nat.ne_of_lt hb)), [], .nil, _, #[], 0, Heap.get?_push_size _ rfl, ⟨rfl, rfl, rfl⟩, rfl, rfl, List.nodup_nil⟩
def tDNewT : TE := fun _ H Q => ∀ p, H p = none → Q (.ref p) (upd H p (.dT []))
section
variable {X : Cx} {pos : Pos}
theorem pe_dnewT : PE X (.Dict [] [] pos) tDNewT := fun pins s σ H Q I h =>
  wpAny_Dict_empty ⟨.ref s.heap.objs.size, _, I.laid (a := s.heap.objs.size) (o := .dT []) (t' := s.toks) (fun _ _ q => Heap.get?_push_of_some _ q) (Nat.le_refl _) (dt_empty s.heap I.big), rfl, h _ (I.hok.fresh (Nat.le_refl _))⟩
end

/-! ### methods -/
/-- a method call o.m(e) of a built-in, with one argument: what must be seen of the text -/
structure M1 (X : Cx) (o : Expr) (m : Str) (apos : Pos) (e : Expr) (cpos : Pos) : Prop where
  base : attributeBase o m X.env (eval o X.env) = eval o X.env
  few : ((backTo cpos (starEach [e] X.env)).all (fun x => !x.1) && (backToKw cpos (keywordEach [] X.env)).all (fun x => x.1.isSome)
    && decide (([e] : List Expr).length + ([] : List Keyword).length + (if ([] : List Keyword).isEmpty then 0 else 1) < 30)) = true
  line : (apos.endLine == cpos.line) = true
  trees : backTo cpos (starEach [e] X.env) = [(false, eval e X.env)]
structure M2 (X : Cx) (o : Expr) (m : Str) (apos : Pos) (e f : Expr) (cpos : Pos) : Prop where
  base : attributeBase o m X.env (eval o X.env) = eval o X.env
  few : ((backTo cpos (starEach [e, f] X.env)).all (fun x => !x.1) && (backToKw cpos (keywordEach [] X.env)).all (fun x => x.1.isSome)
    && decide (([e, f] : List Expr).length + ([] : List Keyword).length + (if ([] : List Keyword).isEmpty then 0 else 1) < 30)) = true
  line : (apos.endLine == cpos.line) = true
  trees : backTo cpos (starEach [e, f] X.env) = [(false, eval e X.env), (false, eval f X.env)]

/-- a is a dict, whatever its keys -/
def IsD (H : Hp) (a : Addr) : Prop := (∃ kvs, Rd H a (.dK kvs)) ∨ ∃ kvs, Rd H a (.dT kvs)
section
variable {X : Cx} {pins : List (Addr × Obj)} {σ : St} {H : Hp} {s : Shared} {a : Addr} {y d : V} {u r : Value} {o : Option V} {A : Around} {E : Value → Shared → Prop}
end

section
variable {X : Cx} {o e f : Expr} {apos cpos : Pos} {td ty tx : TE}
end

/-! ### dict(d): a copy -/
section
variable {X : Cx} {pins : List (Addr × Obj)} {σ : St} {H : Hp} {s : Shared} {a : Addr} {kvs : List (Key × V)} {A : Around} {E : Value → Shared → Prop}
end


section
variable {X : Cx} {pins : List (Addr × Obj)} {σ : St} {H : Hp} {s : Shared} {a : Addr} {y : V} {u : Value} {A : Around} {E : Value → Shared → Prop}
end
end L2


set_option Elab.async false
set_option linter.all false
set_option maxRecDepth 100000
set_option exponentiation.threshold 2000
/-! Wide numbers under one lid; tables of two pairs as values. -/
namespace Fr
open PySem PySem.Spec L2
open PyProof.Rows hiding St
def Big : Nat := 2 ^ 1000
theorem big : 10 ^ 200 ≤ Big := Nat.le_of_ble_eq_true rfl
section
variable {X : Cx}
end
/-! ### tables -/
def MatV (K : PySem.W.Frag) (H : Hp) (v : V) (a b c d : Int) : Prop := ∃ t r1 r2 : Addr, v = .ref t ∧ SqT K H t [.ref r1, .ref r2] ∧ SqT K H r1 [.int a, .int b] ∧ SqT K H r2 [.int c, .int d]
theorem MatV.same {K : PySem.W.Frag} {H H' : Hp} {v : V} {a b c d : Int} (m : MatV K H v a b c d) (e : Same H H') : MatV K H' v a b c d := by
  obtain ⟨t, r1, r2, rfl, h1, h2, h3⟩ := m
  exact ⟨t, r1, r2, rfl, sqT_same e h1, sqT_same e h2, sqT_same e h3⟩
theorem MatV.keep {K : PySem.W.Frag} {H H' : Hp} {v : V} {a b c d : Int} {l : Addr} {zs : List V} (m : MatV K H v a b c d) (hp : H l = some (.lst zs)) (e : Keep l H H') : MatV K H' v a b c d := by
  obtain ⟨t, r1, r2, rfl, h1, h2, h3⟩ := m
  exact ⟨t, r1, r2, rfl, sqT_keep hp e h1, sqT_keep hp e h2, sqT_keep hp e h3⟩
def matD (a b c d : Int) : PyData := .tuple [dat (a, b), dat (c, d)]
theorem MatV.isD {K : PySem.W.Frag} {H : Hp} {v : V} {a b c d : Int} (m : MatV K H v a b c d) : IsD K H v (matD a b c d) := by
  obtain ⟨t, r1, r2, rfl, h1, h2, h3⟩ := m
  exact .tup h1 (.cons (PairV.isD ⟨r1, rfl, h2⟩) (.cons (PairV.isD ⟨r2, rfl, h3⟩) .nil))
/-! ### where a turning leads -/
end Fr

set_option Elab.async false
set_option linter.all false
set_option maxRecDepth 100000
/-! A layer of plain data over the hand layer: tuples, lists, dicts and objects as data; lists, dicts and instances that a def owns change by name. -/
universe u1 u2 u3 u4
namespace Fr
open PySem PySem.Spec L2
/-- a code object's table, as it may stand -/
def TabAt (P : Addr) (h : Heap) : Prop := ∃ ps : Array Value, h.get? P = some { cls := .none, data := .fields ps } ∧ TriplesOk ps.toList
def TabP (P : Addr) : HO := .ext (TabAt P)
end Fr
namespace L3
open PySem PySem.Spec L2

theorem ex4 {α : Sort u1} {β : Sort u2} {γ : Sort u3} {ε : Sort u4} {A B C D : α → β → γ → ε → Prop} {G : Prop} (h : ∃ a b c d, A a b c d ∧ B a b c d ∧ C a b c d ∧ D a b c d) (k : ∀ a b c d, A a b c d → B a b c d → C a b c d → D a b c d → G) : G := by
  obtain ⟨a, b, c, d, h1, h2, h3, h4⟩ := h
  exact k a b c d h1 h2 h3 h4
inductive D where
  | non | bl (b : Bool) | int (i : Int) | str (x : Str) | ty (n : String) | adr (a : Addr)
  | tup (xs : List D) | lst (xs : List D)
  | dT (kvs : List (List Key × D)) | dK (kvs : List (Key × D))
  | obj (C : Addr) (fs : List (Str × D))
  | scr (ns : List Int)
  | exc (C : Addr)
instance : Inhabited D := ⟨.non⟩

theorem m1I {xs : List D} {P : Int → Prop} (h : match xs with
  | [.int j] => P j
  | _ => False) : ∃ j, xs = [.int j] ∧ P j := by
  split at h
  · exact ⟨_, rfl, h⟩
  · exact h.elim
theorem m2I {xs : List D} {P : Int → Int → Prop} (h : match xs with
  | [.int i, .int j] => P i j
  | _ => False) : ∃ i j, xs = [.int i, .int j] ∧ P i j := by
  split at h
  · exact ⟨_, _, rfl, h⟩
  · exact h.elim
theorem m1L {xs : List D} {P : List D → Prop} (h : match xs with
  | [.lst j] => P j
  | _ => False) : ∃ j, xs = [.lst j] ∧ P j := by
  split at h
  · exact ⟨_, rfl, h⟩
  · exact h.elim
mutual
inductive Rp (K : PySem.W.Frag) (F : Hp) : V → D → Prop
  | non : Rp K F .non .non
  | bl (b : Bool) : Rp K F (.bl b) (.bl b)
  | int (i : Int) : Rp K F (.int i) (.int i)
  | str (x : Str) : Rp K F (.str x) (.str x)
  | ty (n : String) : Rp K F (.ty n) (.ty n)
  | adr (a : Addr) : Rp K F (.ref a) (.adr a)
  | tup {a : Addr} {xs : List V} {ds : List D} : SqT K F a xs → Rps K F xs ds → Rp K F (.ref a) (.tup ds)
  | scr {a : Addr} {ns : List Int} : SqL K F a (ns.map V.int) → Rp K F (.ref a) (.scr ns)
  | lst {a : Addr} {xs : List V} {ds : List D} : F a = some (.lst xs) → Rps K F xs ds → Rp K F (.ref a) (.lst ds)
  | dT {a : Addr} {kvs : List (List Key × V)} {dvs : List (List Key × D)} : F a = some (.dT kvs) → kvs.map (·.1) = dvs.map (·.1) → Rps K F (kvs.map (·.2)) (dvs.map (·.2)) → Rp K F (.ref a) (.dT dvs)
  | dK {a : Addr} {kvs : List (Key × V)} {dvs : List (Key × D)} : F a = some (.dK kvs) → kvs.map (·.1) = dvs.map (·.1) → Rps K F (kvs.map (·.2)) (dvs.map (·.2)) → Rp K F (.ref a) (.dK dvs)
  | exc {a C : Addr} : F a = some (Fr.ExcO a C) → Rp K F (.ref a) (.exc C)
  | obj {a C dx : Addr} {fs : List (Str × V)} {dfs : List (Str × D)} : F a = some (.ins C dx fs) → fs.map (·.1) = dfs.map (·.1) → Rps K F (fs.map (·.2)) (dfs.map (·.2)) → Rp K F (.ref a) (.obj C dfs)
inductive Rps (K : PySem.W.Frag) (F : Hp) : List V → List D → Prop
  | nil : Rps K F [] []
  | cons {x : V} {d : D} {xs : List V} {ds : List D} : Rp K F x d → Rps K F xs ds → Rps K F (x :: xs) (d :: ds)
end
section
variable {K : PySem.W.Frag} {F F' : Hp}
mutual
theorem Rp.same (s : Same F F') : ∀ {v : V} {d : D}, Rp K F v d → Rp K F' v d
  | _, _, .non => .non
  | _, _, .bl b => .bl b
  | _, _, .int i => .int i
  | _, _, .str x => .str x
  | _, _, .ty n => .ty n
  | _, _, .adr a => .adr a
  | _, _, .tup h r => .tup (Fr.sqT_same s h) (Rps.same s r)
  | _, _, .lst h r => .lst (s _ _ h) (Rps.same s r)
  | _, _, .scr h => .scr (s.seq h)
  | _, _, .dT h e r => .dT (s _ _ h) e (Rps.same s r)
  | _, _, .dK h e r => .dK (s _ _ h) e (Rps.same s r)
  | _, _, .obj h e r => .obj (s _ _ h) e (Rps.same s r)
  | _, _, .exc h => .exc (s _ _ h)
theorem Rps.same (s : Same F F') : ∀ {vs : List V} {ds : List D}, Rps K F vs ds → Rps K F' vs ds
  | _, _, .nil => .nil
  | _, _, .cons h r => .cons (Rp.same s h) (Rps.same s r)
end
theorem Rp.inv_int {v : V} {i : Int} (h : Rp K F v (.int i)) : v = .int i := by cases h; rfl
theorem Rp.inv_bl {v : V} {b : Bool} (h : Rp K F v (.bl b)) : v = .bl b := by cases h; rfl
theorem Rp.inv_str {v : V} {x : Str} (h : Rp K F v (.str x)) : v = .str x := by cases h; rfl
theorem Rp.inv_non {v : V} (h : Rp K F v .non) : v = .non := by cases h; rfl
theorem Rp.inv_ty {v : V} {n : String} (h : Rp K F v (.ty n)) : v = .ty n := by cases h; rfl
theorem Rp.inv_tup {v : V} {ds : List D} (h : Rp K F v (.tup ds)) : ∃ a xs, v = .ref a ∧ SqT K F a xs ∧ Rps K F xs ds := by
  cases h with
  | tup h r => exact ⟨_, _, rfl, h, r⟩
theorem Rp.inv_lst {v : V} {ds : List D} (h : Rp K F v (.lst ds)) : ∃ a xs, v = .ref a ∧ F a = some (.lst xs) ∧ Rps K F xs ds := by
  cases h with
  | lst h r => exact ⟨_, _, rfl, h, r⟩
theorem Rp.inv_scr {v : V} {ns : List Int} (h : Rp K F v (.scr ns)) : ∃ a, v = .ref a ∧ SqL K F a (ns.map V.int) := by
  cases h with
  | scr h => exact ⟨_, rfl, h⟩
theorem Rps.inv_nil {vs : List V} (h : Rps K F vs []) : vs = [] := by cases h; rfl
theorem Rps.inv_cons {vs : List V} {d : D} {ds : List D} (h : Rps K F vs (d :: ds)) : ∃ v us, vs = v :: us ∧ Rp K F v d ∧ Rps K F us ds := by
  cases h with
  | cons h r => exact ⟨_, _, rfl, h, r⟩
theorem Rps.inv1 {vs : List V} {d : D} (h : Rps K F vs [d]) : ∃ v, vs = [v] ∧ Rp K F v d := by
  obtain ⟨v, us, rfl, h1, h2⟩ := h.inv_cons
  exact ⟨v, by rw [h2.inv_nil], h1⟩
theorem Rps.inv2 {vs : List V} {d e : D} (h : Rps K F vs [d, e]) : ∃ v u, vs = [v, u] ∧ Rp K F v d ∧ Rp K F u e := by
  obtain ⟨v, us, rfl, h1, h2⟩ := h.inv_cons
  obtain ⟨u, rfl, h3⟩ := h2.inv1
  exact ⟨v, u, rfl, h1, h3⟩
theorem Rps.len : ∀ {vs : List V} {ds : List D}, Rps K F vs ds → vs.length = ds.length
  | _, _, .nil => rfl
  | _, _, .cons _ r => by simp [Rps.len r]
theorem Rps.append : ∀ {vs us : List V} {ds es : List D}, Rps K F vs ds → Rps K F us es → Rps K F (vs ++ us) (ds ++ es)
  | _, _, _, _, .nil, s => s
  | _, _, _, _, .cons h r, s => .cons h (Rps.append r s)
theorem Rps.one {v : V} {d : D} (h : Rp K F v d) : Rps K F [v] [d] := .cons h .nil
theorem Rps.at : ∀ {vs : List V} {ds : List D} {i : Nat} {d : D}, Rps K F vs ds → ds[i]? = some d → ∃ v, vs[i]? = some v ∧ Rp K F v d
  | _, _, _, _, .nil, e => by simp at e
  | _, _, 0, _, .cons h _, e => by simp at e; subst e; exact ⟨_, rfl, h⟩
  | _, _, i + 1, d, .cons _ r, e => by
    obtain ⟨v, h1, h2⟩ := Rps.at (i := i) (d := d) r (by simpa using e)
    exact ⟨v, by simpa using h1, h2⟩
theorem Rps.at' : ∀ {vs : List V} {ds : List D} {i : Nat} {v : V}, Rps K F vs ds → vs[i]? = some v → ∃ d, ds[i]? = some d ∧ Rp K F v d
  | _, _, _, _, .nil, e => by simp at e
  | _, _, 0, _, .cons h _, e => by simp at e; subst e; exact ⟨_, rfl, h⟩
  | _, _, i + 1, d, .cons _ r, e => by
    obtain ⟨v, h1, h2⟩ := Rps.at' (i := i) (v := d) r (by simpa using e)
    exact ⟨v, by simpa using h1, h2⟩
theorem Rps.set {v : V} {d : D} (h : Rp K F v d) : ∀ {vs : List V} {ds : List D} (i : Nat), Rps K F vs ds → Rps K F (vs.set i v) (ds.set i d)
  | _, _, _, .nil => .nil
  | _, _, 0, .cons _ r => .cons h r
  | _, _, i + 1, .cons q r => .cons q (Rps.set h i r)
theorem Rps.take : ∀ {vs : List V} {ds : List D} (n : Nat), Rps K F vs ds → Rps K F (vs.take n) (ds.take n)
  | _, _, 0, _ => .nil
  | _, _, _ + 1, .nil => .nil
  | _, _, n + 1, .cons r t => .cons r (Rps.take n t)
theorem Rps.drop : ∀ {vs : List V} {ds : List D} (n : Nat), Rps K F vs ds → Rps K F (vs.drop n) (ds.drop n)
  | _, _, 0, r => r
  | _, _, _ + 1, .nil => .nil
  | _, _, n + 1, .cons _ t => Rps.drop n t
theorem Rps.reverse : ∀ {vs : List V} {ds : List D}, Rps K F vs ds → Rps K F vs.reverse ds.reverse
  | _, _, .nil => .nil
  | _, _, .cons h r => by
    rw [List.reverse_cons, List.reverse_cons]
    exact (Rps.reverse r).append (.one h)
theorem Rps.rep {v : V} {d : D} (h : Rp K F v d) : ∀ n : Nat, Rps K F (List.replicate n v) (List.replicate n d)
  | 0 => .nil
  | n + 1 => .cons h (Rps.rep h n)
end

/-- what a def owns -/
inductive Ob where
  | lst (xs : List D) | dT (kvs : List (List Key × D)) | dK (kvs : List (Key × D)) | ins (C : Addr) (fs : List (Str × D)) | pu
/-- what a name stands for -/
inductive Sl where
  | un | d (x : D) | own (o : Ob) | bor (o : Ob)
/-- a value of an expression -/
inductive Rv where
  | d (x : D) | own (o : Ob)
def Ob.frz : Ob → Option D
  | .lst xs => some (.lst xs)
  | .dT kvs => some (.dT kvs)
  | .dK kvs => some (.dK kvs)
  | .ins C fs => some (.obj C fs)
  | .pu => none
def Rv.frz : Rv → Option D
  | .d x => some x
  | .own o => o.frz
def Rv.sl : Rv → Sl
  | .d x => .d x
  | .own o => .own o
def OwnOk (K : PySem.W.Frag) (F H : Hp) (a : Addr) : Ob → Prop
  | .lst xs => ∃ vs, H a = some (.lst vs) ∧ Rps K F vs xs
  | .dT dvs => ∃ kvs : List (List Key × V), H a = some (.dT kvs) ∧ kvs.map (·.1) = dvs.map (·.1) ∧ Rps K F (kvs.map (·.2)) (dvs.map (·.2))
  | .dK dvs => ∃ kvs : List (Key × V), H a = some (.dK kvs) ∧ kvs.map (·.1) = dvs.map (·.1) ∧ Rps K F (kvs.map (·.2)) (dvs.map (·.2))
  | .ins C dfs => ∃ (dx : Addr) (fs : List (Str × V)), H a = some (.ins C dx fs) ∧ fs.map (·.1) = dfs.map (·.1) ∧ Rps K F (fs.map (·.2)) (dfs.map (·.2))
  | .pu => ∃ x y : Int, H a = some (.lst [.int x, .int y]) ∧ 0 ≤ x
theorem OwnOk.there {K : PySem.W.Frag} {F H : Hp} {a : Addr} {o : Ob} (h : OwnOk K F H a o) : ∃ ho, H a = some ho := by
  cases o with
  | lst xs => obtain ⟨vs, e, _⟩ := h; exact ⟨_, e⟩
  | dT kvs => obtain ⟨vs, e, _⟩ := h; exact ⟨_, e⟩
  | dK kvs => obtain ⟨vs, e, _⟩ := h; exact ⟨_, e⟩
  | ins C fs => obtain ⟨dx, vs, e, _⟩ := h; exact ⟨_, e⟩
  | pu => obtain ⟨x, y, e, _⟩ := h; exact ⟨_, e⟩
theorem OwnOk.same {K : PySem.W.Frag} {F F' H H' : Hp} {a : Addr} {o : Ob} (h : OwnOk K F H a o) (s : Same F F') (e : H' a = H a) : OwnOk K F' H' a o := by
  cases o with
  | lst xs => obtain ⟨vs, e1, r⟩ := h; exact ⟨vs, e.trans e1, r.same s⟩
  | dT kvs => obtain ⟨vs, e1, k, r⟩ := h; exact ⟨vs, e.trans e1, k, r.same s⟩
  | dK kvs => obtain ⟨vs, e1, k, r⟩ := h; exact ⟨vs, e.trans e1, k, r.same s⟩
  | ins C fs => obtain ⟨dx, vs, e1, k, r⟩ := h; exact ⟨dx, vs, e.trans e1, k, r.same s⟩
  | pu => obtain ⟨x, y, e1, p⟩ := h; exact ⟨x, y, e.trans e1, p⟩
theorem OwnOk.frz {K : PySem.W.Frag} {F H : Hp} {a : Addr} {o : Ob} {x : D} (h : OwnOk K F H a o) (e : o.frz = some x) (n : F a = none) : ∃ ho, H a = some ho ∧ Rp K (upd F a ho) (.ref a) x := by
  have s : ∀ ho, Same F (upd F a ho) := fun ho => Fr.Same.new n
  cases o with
  | lst xs => obtain ⟨vs, e1, r⟩ := h; cases e; exact ⟨_, e1, .lst upd_same (r.same (s _))⟩
  | dT kvs => obtain ⟨vs, e1, k, r⟩ := h; cases e; exact ⟨_, e1, .dT upd_same k (r.same (s _))⟩
  | dK kvs => obtain ⟨vs, e1, k, r⟩ := h; cases e; exact ⟨_, e1, .dK upd_same k (r.same (s _))⟩
  | ins C fs => obtain ⟨dx, vs, e1, k, r⟩ := h; cases e; exact ⟨_, e1, .obj upd_same k (r.same (s _))⟩
  | pu => cases e
def SlOk (K : PySem.W.Frag) (H0 : Hp) (B : Option Addr) (F H : Hp) (sv : Option (Option V)) : Sl → Prop
  | .un => True
  | .d x => ∃ v, sv = some (some v) ∧ Rp K F v x
  | .own o => ∃ a, sv = some (some (.ref a)) ∧ F a = none ∧ H0 a = none ∧ OwnOk K F H a o
  | .bor o => ∃ a, sv = some (some (.ref a)) ∧ B = some a ∧ F a = none ∧ OwnOk K F H a o
/-- the table of the code of the def whose generator is walked -/
def TabIn (K : PySem.W.Frag) (P : Addr) : Prop := ∃ (f c : Addr) (o oc : Obj) (fd : FuncData) (vs : Array Value), PySem.W.nsIn K mainGlobals "is_number_text" = some (some (.ref f)) ∧ K.lookup f = some o ∧ o.data = .func fd ∧ fd.code = .ref c ∧ K.lookup c = some oc ∧ oc.data = .fields vs ∧ vs[11]? = some (.ref P)
/-- it is known to the heap -/
def Tb (K : PySem.W.Frag) (F : Hp) : Prop := ∀ P, TabIn K P → F P = some (Fr.TabP P)
theorem Tb.same {K : PySem.W.Frag} {F F' : Hp} (h : Tb K F) (s : Same F F') : Tb K F' := fun P t => s _ _ (h P t)
theorem Tb.none {K : PySem.W.Frag} {F : Hp} (h : PySem.W.nsIn K mainGlobals "is_number_text" = some none) : Tb K F := fun P ⟨f, _, _, _, _, _, e, _⟩ => by rw [h] at e; cases e
/-- the state: F: what is data; F0, H0: at the entry; B: what is lent by the caller -/
structure Lk (K : PySem.W.Frag) (F0 H0 : Hp) (B : Option Addr) (σ : St) (δ : List Sl) (F H : Hp) : Prop where
  fh : Same F H
  f0 : Same F0 F
  h0 : ∀ a o, H0 a = some o → B ≠ some a → H a = some o
  ff : ∀ a, H0 a ≠ none → F a = F0 a
  bt : ∀ b, B = some b → H0 b ≠ none ∧ H b ≠ none
  len : δ.length = σ.length
  sl : ∀ (i : Nat) (s : Sl), δ[i]? = some s → SlOk K H0 B F H (σ[i]?) s
  ne : ∀ (i j : Nat) (o o' : Ob), δ[i]? = some (.own o) → δ[j]? = some (.own o') → σ[i]? = σ[j]? → i = j
  nb : ∀ (i j : Nat) (o o' : Ob), δ[i]? = some (.bor o) → δ[j]? = some (.bor o') → i = j
  tb : Tb K F0
def Rok (K : PySem.W.Frag) (H0 F H : Hp) (σ : St) (δ : List Sl) (r : Rv) (v : V) : Prop :=
  match r with
  | .d x => Rp K F v x
  | .own o => ∃ a, v = .ref a ∧ F a = none ∧ H0 a = none ∧ OwnOk K F H a o ∧ ∀ (i : Nat) (o' : Ob), δ[i]? = some (Sl.own o') → σ[i]? ≠ some (some (V.ref a))
section
variable {K : PySem.W.Frag} {F0 H0 F H F' H' : Hp} {B : Option Addr} {σ : St} {δ : List Sl}
theorem Lk.tbF (L : Lk K F0 H0 B σ δ F H) : Tb K F := L.tb.same L.f0
theorem Lk.nn (L : Lk K F0 H0 B σ δ F H) {a : Addr} (h : H0 a ≠ none) : H a ≠ none := by
  by_cases b : B = some a
  · exact (L.bt a b).2
  · cases e : H0 a with
    | none => exact absurd e h
    | some o => rw [L.h0 a o e b]; exact fun z => by cases z
theorem Lk.fr0 (L : Lk K F0 H0 B σ δ F H) {a : Addr} (h : H a = none) : H0 a = none ∧ F a = none := by
  constructor
  · cases e : H0 a with
    | none => rfl
    | some o => exact absurd h (L.nn (by rw [e]; intro z; cases z))
  · exact L.fh.free h
/-- the heap grows -/
theorem Lk.grow (L : Lk K F0 H0 B σ δ F H) (s1 : Same F F') (s2 : Same F' H') (s3 : Same H H') (nf : ∀ a, H a ≠ none → F' a = F a) : Lk K F0 H0 B σ δ F' H' := by
  refine ⟨s2, L.f0.trans s1, fun a o e b => s3 _ _ (L.h0 a o e b), fun a h => (nf a (L.nn h)).trans (L.ff a h), fun b e => ⟨(L.bt b e).1, ?_⟩, L.len, fun i s e => ?_, L.ne, L.nb, L.tb⟩
  · cases q : H b with
    | none => exact absurd q (L.bt b e).2
    | some o => rw [s3 _ _ q]; exact fun z => by cases z
  · have q := L.sl i s e
    cases s with
    | un => trivial
    | d x => obtain ⟨v, e1, r⟩ := q; exact ⟨v, e1, r.same s1⟩
    | own o =>
      obtain ⟨a, e1, f, h, w⟩ := q
      obtain ⟨ho, eh⟩ := w.there
      exact ⟨a, e1, by rw [nf a (by rw [eh]; intro z; cases z)]; exact f, h, w.same s1 (by rw [eh]; exact s3 _ _ eh)⟩
    | bor o =>
      obtain ⟨a, e1, b, f, w⟩ := q
      obtain ⟨ho, eh⟩ := w.there
      exact ⟨a, e1, b, by rw [nf a (by rw [eh]; intro z; cases z)]; exact f, w.same s1 (by rw [eh]; exact s3 _ _ eh)⟩
theorem getS {α : Type} {l : List α} {i j : Nat} {x y : α} (h : (l.set i x)[j]? = some y) : (i = j ∧ y = x ∧ i < l.length) ∨ (i ≠ j ∧ l[j]? = some y) := by
  rw [List.getElem?_set] at h
  by_cases e : i = j
  · rw [if_pos e] at h
    split at h
    · cases h; exact .inl ⟨e, rfl, by assumption⟩
    · cases h
  · rw [if_neg e] at h
    exact .inr ⟨e, h⟩
theorem nb_set {δ : List Sl} {i : Nat} {s : Sl} (h : ∀ (i j : Nat) (o o' : Ob), δ[i]? = some (.bor o) → δ[j]? = some (.bor o') → i = j) (n : ∀ o, s ≠ .bor o) : ∀ (j k : Nat) (o o' : Ob), (δ.set i s)[j]? = some (.bor o) → (δ.set i s)[k]? = some (.bor o') → j = k := by
  intro j k o o' e1 e2
  rcases getS e1 with ⟨_, z, _⟩ | ⟨_, e1⟩
  · exact absurd z.symm (n o)
  · rcases getS e2 with ⟨_, z, _⟩ | ⟨_, e2⟩
    · exact absurd z.symm (n o')
    · exact h j k o o' e1 e2
theorem Lk.set {i : Nat} {v : V} {x : D} (L : Lk K F0 H0 B σ δ F H) (r : Rp K F v x) : Lk K F0 H0 B (σ.set i (some v)) (δ.set i (.d x)) F H := by
  refine ⟨L.fh, L.f0, L.h0, L.ff, L.bt, by simp [L.len], fun j s e => ?_, fun j k o o' e1 e2 e3 => ?_, nb_set L.nb (fun _ z => by cases z), L.tb⟩
  · rcases getS e with ⟨rfl, rfl, lt⟩ | ⟨n, e⟩
    · exact ⟨v, by rw [List.getElem?_set_self (by rw [← L.len]; exact lt)], r⟩
    · have := L.sl j s e
      rwa [List.getElem?_set_ne n]
  · rcases getS e1 with ⟨_, z, _⟩ | ⟨n1, e1⟩
    · cases z
    · rcases getS e2 with ⟨_, z, _⟩ | ⟨n2, e2⟩
      · cases z
      · rw [List.getElem?_set_ne n1, List.getElem?_set_ne n2] at e3
        exact L.ne j k o o' e1 e2 e3
theorem Lk.setR {i : Nat} {v : V} {r : Rv} (L : Lk K F0 H0 B σ δ F H) (k : Rok K H0 F H σ δ r v) : Lk K F0 H0 B (σ.set i (some v)) (δ.set i r.sl) F H := by
  cases r with
  | d x => exact L.set k
  | own o =>
    obtain ⟨a, rfl, f, h, w, ap⟩ := k
    refine ⟨L.fh, L.f0, L.h0, L.ff, L.bt, by simp [L.len], fun j s e => ?_, fun j k o1 o2 e1 e2 e3 => ?_, nb_set L.nb (fun _ z => by cases z), L.tb⟩
    · rcases getS e with ⟨rfl, rfl, lt⟩ | ⟨n, e⟩
      · exact ⟨a, by rw [List.getElem?_set_self (by rw [← L.len]; exact lt)], f, h, w⟩
      · have := L.sl j s e
        rwa [List.getElem?_set_ne n]
    · rcases getS e1 with ⟨rfl, z, lt⟩ | ⟨n1, e1⟩
      · rcases getS e2 with ⟨rfl, z2, _⟩ | ⟨n2, e2⟩
        · rfl
        · rw [List.getElem?_set_self (by rw [← L.len]; exact lt), List.getElem?_set_ne n2] at e3
          exact absurd e3.symm (ap k o2 e2)
      · rcases getS e2 with ⟨rfl, z2, lt⟩ | ⟨n2, e2⟩
        · rw [List.getElem?_set_self (by rw [← L.len]; exact lt), List.getElem?_set_ne n1] at e3
          exact absurd e3 (ap j o1 e1)
        · rw [List.getElem?_set_ne n1, List.getElem?_set_ne n2] at e3
          exact L.ne j k o1 o2 e1 e2 e3
/-- what was owned becomes data -/
theorem Lk.froz {i : Nat} {o : Ob} {x : D} (L : Lk K F0 H0 B σ δ F H) (e : δ[i]? = some (.own o)) (f : o.frz = some x) : ∃ F' v, Lk K F0 H0 B σ (δ.set i (.d x)) F' H ∧ Same F F' ∧ σ[i]? = some (some v) ∧ Rp K F' v x := by
  obtain ⟨a, e1, fn, hn, w⟩ := L.sl i _ e
  obtain ⟨ho, eh, r⟩ := w.frz f fn
  have sf : Same F (upd F a ho) := Fr.Same.new fn
  refine ⟨upd F a ho, .ref a, ⟨fun b u q => ?_, L.f0.trans sf, L.h0, fun b q => ?_, L.bt, by simp [L.len], fun j s ej => ?_, fun j k o1 o2 e1 e2 e3 => ?_, nb_set L.nb (fun _ z => by cases z), L.tb⟩, sf, e1, r⟩
  · by_cases hb : b = a
    · subst hb; rw [upd_same] at q; cases q; exact eh
    · rw [upd_ne hb] at q; exact L.fh _ _ q
  · have : b ≠ a := by rintro rfl; exact q hn
    rw [upd_ne this]; exact L.ff b q
  · rcases getS ej with ⟨rfl, rfl, lt⟩ | ⟨n, ej⟩
    · exact ⟨_, e1, r⟩
    · have q := L.sl j s ej
      cases s with
      | un => trivial
      | d y => obtain ⟨v, e2, r2⟩ := q; exact ⟨v, e2, r2.same sf⟩
      | own o' =>
        obtain ⟨b, e2, f2, h2, w2⟩ := q
        have nb : b ≠ a := by
          rintro rfl
          exact n (L.ne i j o o' e ej (by rw [e1, e2]))
        exact ⟨b, e2, by rw [upd_ne nb]; exact f2, h2, w2.same sf rfl⟩
      | bor o' =>
        obtain ⟨b, e2, b2, f2, w2⟩ := q
        have nb : b ≠ a := by rintro rfl; exact (L.bt b b2).1 hn
        exact ⟨b, e2, b2, by rw [upd_ne nb]; exact f2, w2.same sf rfl⟩
  · rcases getS e1 with ⟨_, z, _⟩ | ⟨n1, e1⟩
    · cases z
    · rcases getS e2 with ⟨_, z, _⟩ | ⟨n2, e2⟩
      · cases z
      · exact L.ne j k o1 o2 e1 e2 e3
/-- what is owned changes -/
theorem Lk.mut {i : Nat} {o o' : Ob} {a : Addr} {ho : HO} (L : Lk K F0 H0 B σ δ F H) (e : δ[i]? = some (.own o)) (ea : σ[i]? = some (some (.ref a))) (w : OwnOk K F (upd H a ho) a o') : Lk K F0 H0 B σ (δ.set i (.own o')) F (upd H a ho) := by
  obtain ⟨a', e1, fn, hn, w0⟩ := L.sl i _ e
  rw [ea] at e1; cases e1
  have up : ∀ b, b ≠ a → upd H a ho b = H b := fun b n => upd_ne n
  refine ⟨fun b u q => ?_, L.f0, fun b u q1 q2 => ?_, L.ff, fun b q => ⟨(L.bt b q).1, ?_⟩, by simp [L.len], fun j s ej => ?_, fun j k o1 o2 e1 e2 e3 => ?_, nb_set L.nb (fun _ z => by cases z), L.tb⟩
  · have : b ≠ a := by rintro rfl; rw [fn] at q; cases q
    rw [up b this]; exact L.fh _ _ q
  · have : b ≠ a := by rintro rfl; rw [hn] at q1; cases q1
    rw [up b this]; exact L.h0 b u q1 q2
  · have : b ≠ a := by rintro rfl; exact (L.bt b q).1 hn
    rw [up b this]; exact (L.bt b q).2
  · rcases getS ej with ⟨rfl, rfl, lt⟩ | ⟨n, ej⟩
    · exact ⟨a, ea, fn, hn, w⟩
    · have q := L.sl j s ej
      cases s with
      | un => trivial
      | d y => exact q
      | own o3 =>
        obtain ⟨b, e2, f2, h2, w2⟩ := q
        have nb : b ≠ a := by
          rintro rfl
          exact n (L.ne i j o o3 e ej (by rw [ea, e2]))
        exact ⟨b, e2, f2, h2, w2.same (Same.refl _) (up b nb)⟩
      | bor o3 =>
        obtain ⟨b, e2, b2, f2, w2⟩ := q
        have nb : b ≠ a := by rintro rfl; exact (L.bt b b2).1 hn
        exact ⟨b, e2, b2, f2, w2.same (Same.refl _) (up b nb)⟩
  · rcases getS e1 with ⟨rfl, z, _⟩ | ⟨n1, e1⟩
    · rcases getS e2 with ⟨rfl, z2, _⟩ | ⟨n2, e2⟩
      · rfl
      · exact L.ne i k o o2 e e2 e3
    · rcases getS e2 with ⟨rfl, z2, _⟩ | ⟨n2, e2⟩
      · exact L.ne j i o1 o e1 e e3
      · exact L.ne j k o1 o2 e1 e2 e3
theorem Lk.mutB {i : Nat} {o o' : Ob} {a : Addr} {ho : HO} (L : Lk K F0 H0 B σ δ F H) (e : δ[i]? = some (.bor o)) (ea : σ[i]? = some (some (.ref a))) (w : OwnOk K F (upd H a ho) a o') :
    Lk K F0 H0 B σ (δ.set i (.bor o')) F (upd H a ho) := by
  obtain ⟨a', e1, hB, fn, w0⟩ := L.sl i _ e
  rw [ea] at e1; cases e1
  have up : ∀ b, b ≠ a → upd H a ho b = H b := fun b n => upd_ne n
  have hn := (L.bt a hB).1
  refine ⟨fun b u q => ?_, L.f0, fun b u q1 q2 => ?_, L.ff, fun b q => ⟨(L.bt b q).1, ?_⟩, by simp [L.len], fun j s ej => ?_, fun j k o1 o2 e1 e2 e3 => ?_, fun j k o1 o2 e1 e2 => ?_, L.tb⟩
  · have : b ≠ a := by rintro rfl; rw [fn] at q; cases q
    rw [up b this]; exact L.fh _ _ q
  · have : b ≠ a := by rintro rfl; exact q2 hB
    rw [up b this]; exact L.h0 b u q1 q2
  · by_cases hb : b = a
    · subst hb; rw [upd_same]; intro z; cases z
    · rw [up b hb]; exact (L.bt b q).2
  · rcases getS ej with ⟨rfl, rfl, lt⟩ | ⟨n, ej⟩
    · exact ⟨a, ea, hB, fn, w⟩
    · have q := L.sl j s ej
      cases s with
      | un => trivial
      | d y => exact q
      | own o3 =>
        obtain ⟨b, e2, f2, h2, w2⟩ := q
        have nb : b ≠ a := by rintro rfl; exact hn h2
        exact ⟨b, e2, f2, h2, w2.same (Same.refl _) (up b nb)⟩
      | bor o3 => exact absurd (L.nb i j o o3 e ej) n
  · rcases getS e1 with ⟨rfl, z, _⟩ | ⟨n1, e1⟩
    · cases z
    · rcases getS e2 with ⟨rfl, z2, _⟩ | ⟨n2, e2⟩
      · cases z2
      · exact L.ne j k o1 o2 e1 e2 e3
  · rcases getS e1 with ⟨rfl, z, _⟩ | ⟨n1, e1⟩
    · rcases getS e2 with ⟨rfl, z2, _⟩ | ⟨n2, e2⟩
      · rfl
      · exact L.nb i k o o2 e e2
    · rcases getS e2 with ⟨rfl, z2, _⟩ | ⟨n2, e2⟩
      · exact L.nb j i o1 o e1 e
      · exact L.nb j k o1 o2 e1 e2
/-- a new object that is owned -/
theorem Lk.newO {p : Addr} {ho : HO} {o : Ob} (L : Lk K F0 H0 B σ δ F H) (hp : H p = none) (w : OwnOk K F (upd H p ho) p o) : Lk K F0 H0 B σ δ F (upd H p ho) ∧ Rok K H0 F (upd H p ho) σ δ (.own o) (.ref p) := by
  have s := Fr.Same.new (o := ho) hp
  refine ⟨L.grow (Same.refl _) (L.fh.trans s) s fun _ _ => rfl, p, rfl, (L.fr0 hp).2, (L.fr0 hp).1, w, fun i o' e z => ?_⟩
  obtain ⟨a, e1, _, _, w'⟩ := L.sl i _ e
  rw [z] at e1; cases e1
  obtain ⟨ho, eh⟩ := w'.there
  rw [hp] at eh; cases eh
/-- a new object that is data -/
theorem Lk.newD {p : Addr} {ho : HO} (L : Lk K F0 H0 B σ δ F H) (hp : H p = none) : Lk K F0 H0 B σ δ (upd F p ho) (upd H p ho) ∧ Same F (upd F p ho) := by
  have s := Fr.Same.new (o := ho) hp
  have sf : Same F (upd F p ho) := Fr.Same.new (L.fr0 hp).2
  refine ⟨L.grow sf (fun b u q => ?_) s fun a h => ?_, sf⟩
  · by_cases hb : b = p
    · subst hb; rw [upd_same] at q ⊢; exact q
    · rw [upd_ne hb] at q ⊢; exact L.fh _ _ q
  · have : a ≠ p := by rintro rfl; exact h hp
    rw [upd_ne this]
/-- an owned temporary becomes data -/
theorem Lk.thaw {r : Rv} {v : V} {x : D} (L : Lk K F0 H0 B σ δ F H) (k : Rok K H0 F H σ δ r v) (e : r.frz = some x) : ∃ F', Lk K F0 H0 B σ δ F' H ∧ Same F F' ∧ Rp K F' v x := by
  cases r with
  | d y => cases e; exact ⟨F, L, Same.refl _, k⟩
  | own o =>
    obtain ⟨a, rfl, fn, hn, w, ap⟩ := k
    obtain ⟨ho, eh, r⟩ := w.frz e fn
    have sf : Same F (upd F a ho) := Fr.Same.new fn
    refine ⟨upd F a ho, ⟨fun b u q => ?_, L.f0.trans sf, L.h0, fun b q => ?_, L.bt, L.len, fun j s ej => ?_, L.ne, L.nb, L.tb⟩, sf, r⟩
    · by_cases hb : b = a
      · subst hb; rw [upd_same] at q; cases q; exact eh
      · rw [upd_ne hb] at q; exact L.fh _ _ q
    · have : b ≠ a := by rintro rfl; exact q hn
      rw [upd_ne this]; exact L.ff b q
    · have q := L.sl j s ej
      cases s with
      | un => trivial
      | d y => obtain ⟨v, e2, r2⟩ := q; exact ⟨v, e2, r2.same sf⟩
      | own o' =>
        obtain ⟨b, e2, f2, h2, w2⟩ := q
        have nb : b ≠ a := by rintro rfl; exact ap j o' ej e2
        exact ⟨b, e2, by rw [upd_ne nb]; exact f2, h2, w2.same sf rfl⟩
      | bor o' =>
        obtain ⟨b, e2, b2, f2, w2⟩ := q
        have nb : b ≠ a := by rintro rfl; exact (L.bt b b2).1 hn
        exact ⟨b, e2, b2, by rw [upd_ne nb]; exact f2, w2.same sf rfl⟩
end
end L3

set_option Elab.async false
set_option linter.all false
set_option maxRecDepth 100000
/-! The judgements over data, and the plain rules. -/
namespace L3
open PySem PySem.Spec L2

abbrev Zk := Addr → List Sl → Prop
abbrev T3E := Zk → List Sl → (Rv → List Sl → Prop) → Prop
abbrev T3D := Zk → List Sl → (D → List Sl → Prop) → Prop
abbrev T3T := Zk → List Sl → (Bool → List Sl → Prop) → Prop
abbrev T3A := Zk → List Sl → (List D → List Sl → Prop) → Prop
structure En where
  nx : List Sl → Prop
  rt : Rv → List Sl → Prop
  bk : List Sl → Prop := fun _ => False
  ct : List Sl → Prop := fun _ => False
abbrev T3S := Zk → En → List Sl → Prop

def ZOk (K : PySem.W.Frag) (E : XK) (F0 H0 : Hp) (B : Option Addr) (Z : Zk) : Prop := ∀ C σ δ F H, Lk K F0 H0 B σ δ F H → Z C δ → E (.ref C) none H
section
variable (K : PySem.W.Frag) (E : XK) (F0 H0 : Hp) (B : Option Addr)
def LE (t : T3E) : TE := fun σ H Q => ∃ δ F Z P, Lk K F0 H0 B σ δ F H ∧ ZOk K E F0 H0 B Z ∧ t Z δ P ∧ ∀ r δ' v F' H', P r δ' → Lk K F0 H0 B σ δ' F' H' → Same F F' → Rok K H0 F' H' σ δ' r v → Q v H'
def LD (t : T3D) : TE := fun σ H Q => ∃ δ F Z P, Lk K F0 H0 B σ δ F H ∧ ZOk K E F0 H0 B Z ∧ t Z δ P ∧ ∀ x δ' v F' H', P x δ' → Lk K F0 H0 B σ δ' F' H' → Same F F' → Rp K F' v x → Q v H'
def LT (t : T3T) : TT := fun σ H Q => ∃ δ F Z P, Lk K F0 H0 B σ δ F H ∧ ZOk K E F0 H0 B Z ∧ t Z δ P ∧ ∀ b δ' F' H', P b δ' → Lk K F0 H0 B σ δ' F' H' → Same F F' → Q b H'
def LA (t : T3A) : TA := fun σ H Q => ∃ δ F Z P, Lk K F0 H0 B σ δ F H ∧ ZOk K E F0 H0 B Z ∧ t Z δ P ∧ ∀ xs δ' vs F' H', P xs δ' → Lk K F0 H0 B σ δ' F' H' → Same F F' → Rps K F' vs xs → Q vs H'
structure EnOk (Fb : Hp) (En : En) (Dn : Ends) : Prop where
  nx : ∀ σ δ F H, En.nx δ → Lk K F0 H0 B σ δ F H → Same Fb F → Dn.nx σ H
  rt : ∀ r v σ δ F H, En.rt r δ → Lk K F0 H0 B σ δ F H → Same Fb F → Rok K H0 F H σ δ r v → Dn.rt v H
  bk : ∀ σ δ F H, En.bk δ → Lk K F0 H0 B σ δ F H → Same Fb F → Dn.bk σ H
  ct : ∀ σ δ F H, En.ct δ → Lk K F0 H0 B σ δ F H → Same Fb F → Dn.ct σ H
theorem EnOk.up {K : PySem.W.Frag} {F0 H0 Fb Fb' : Hp} {B : Option Addr} {En : En} {Dn : Ends} (h : EnOk K F0 H0 B Fb En Dn) (s : Same Fb Fb') : EnOk K F0 H0 B Fb' En Dn :=
  ⟨fun σ δ F H p L s' => h.nx σ δ F H p L (s.trans s'), fun r v σ δ F H p L s' k => h.rt r v σ δ F H p L (s.trans s') k, fun σ δ F H p L s' => h.bk σ δ F H p L (s.trans s'), fun σ δ F H p L s' => h.ct σ δ F H p L (s.trans s')⟩
def LS (t : T3S) : TS := fun Dn σ H => ∃ δ F Z En, Lk K F0 H0 B σ δ F H ∧ ZOk K E F0 H0 B Z ∧ t Z En δ ∧ EnOk K F0 H0 B F En Dn
end
structure E3 (X : Cx) (E : XK) (e : Expr) (t : T3E) : Prop where
  h : ∀ F0 H0 B, PE X e (LE X.K E F0 H0 B t)
structure D3 (X : Cx) (E : XK) (e : Expr) (t : T3D) : Prop where
  h : ∀ F0 H0 B, PE X e (LD X.K E F0 H0 B t)
structure C3 (X : Cx) (E : XK) (e : Expr) (t : T3T) : Prop where
  h : ∀ F0 H0 B, PT X e (LT X.K E F0 H0 B t)
structure W3 (X : Cx) (E : XK) (e : Expr) (t : T3T) : Prop where
  h : ∀ F0 H0 B, PW X e (LT X.K E F0 H0 B t)
structure A3 (X : Cx) (E : XK) (es : List Expr) (t : T3A) : Prop where
  h : ∀ F0 H0 B, PA X es (LA X.K E F0 H0 B t)
structure S3 (X : Cx) (E : XK) (st : Stmt) (t : T3S) : Prop where
  h : ∀ F0 H0 B, PS X st (LS X.K E F0 H0 B t)
structure B3 (X : Cx) (E : XK) (sts : List Stmt) (t : T3S) : Prop where
  h : ∀ F0 H0 B, PSs X sts (LS X.K E F0 H0 B t)
theorem pe_imp {X : Cx} {e : Expr} {t t' : TE} (h : PE X e t) (i : ∀ σ H Q, t' σ H Q → t σ H Q) : PE X e t' := fun pins s σ H Q I w => h pins s σ H Q I (i _ _ _ w)
theorem pt_imp {X : Cx} {e : Expr} {t t' : TT} (h : PT X e t) (i : ∀ σ H Q, t' σ H Q → t σ H Q) : PT X e t' := fun pins s σ H Q I w => h pins s σ H Q I (i _ _ _ w)
theorem pw_imp {X : Cx} {e : Expr} {t t' : TT} (h : PW X e t) (i : ∀ σ H Q, t' σ H Q → t σ H Q) : PW X e t' := fun wh pins s σ H Q I w => h wh pins s σ H Q I (i _ _ _ w)
theorem pa_imp {X : Cx} {e : List Expr} {t t' : TA} (h : PA X e t) (i : ∀ σ H Q, t' σ H Q → t σ H Q) : PA X e t' := fun pos pins s σ H Q I w => h pos pins s σ H Q I (i _ _ _ w)
theorem ps_imp {X : Cx} {e : Stmt} {t t' : TS} (h : PS X e t) (i : ∀ D σ H, t' D σ H → t D σ H) : PS X e t' := fun pins s σ H Q I w => h pins s σ H Q I (i _ _ _ w)
theorem pss_imp {X : Cx} {e : List Stmt} {t t' : TS} (h : PSs X e t) (i : ∀ D σ H, t' D σ H → t D σ H) : PSs X e t' := fun pins s σ H Q I w => h pins s σ H Q I (i _ _ _ w)

section
variable {X : Cx} {E : XK} {e a b c : Expr} {pos : Pos}

/-! ### data and owned values -/
def rv (t : T3D) : T3E := fun Z δ Q => t Z δ fun x δ' => Q (.d x) δ'
def fz (t : T3E) : T3D := fun Z δ Q => t Z δ fun r δ' => match r.frz with
  | some x => Q x δ'
  | none => False
theorem D3.toE {t : T3D} (h : D3 X E e t) : E3 X E e (rv t) := ⟨fun F0 H0 B => pe_imp (h.h F0 H0 B) fun σ H Q hh => ex4 hh fun δ F Z P L z w q =>
  ⟨δ, F, Z, _, L, z, w, fun x δ' v F' H' p L' s r => q (.d x) δ' v F' H' p L' s r⟩⟩
theorem E3.toD {t : T3E} (h : E3 X E e t) : D3 X E e (fz t) := ⟨fun F0 H0 B => pe_imp (h.h F0 H0 B) fun σ H Q hh => ex4 hh fun δ F Z P L z w q =>
  ⟨δ, F, Z, _, L, z, w, fun r δ' v F' H' p L' s k => by
    cases e : r.frz with
    | none => rw [e] at p; exact p.elim
    | some x =>
      rw [e] at p
      obtain ⟨F2, L2, s2, r2⟩ := L'.thaw k e
      exact q x δ' v F2 H' p L2 (s.trans s2) r2⟩⟩

/-! ### names, constants -/
def tN (i : Nat) : T3D := fun _ δ Q => match δ[i]? with
  | some (.d x) => Q x δ
  | some (.own o) => (match o.frz with
    | some x => Q x (δ.set i (.d x))
    | none => False)
  | _ => False
theorem d_name {i : Nat} {x : Str} (hN : X.N[i]? = some x) (hv : Vis X.env.scope x) (hd : (x == ("__debug__" : Str)) = false) (hcd : (x == ("__classdict__" : Str)) = false) : D3 X E (.Name x pos) (tN i) := ⟨fun F0 H0 B =>
  pe_imp (pe_var hN hv hd hcd) fun σ H Q hh => ex4 hh fun δ F Z P L z w q => by
    unfold tN at w
    cases e : δ[i]? with
    | none => rw [e] at w; exact w.elim
    | some s =>
      rw [e] at w
      cases s with
      | un => exact w.elim
      | bor o => exact w.elim
      | d x =>
        obtain ⟨v, e1, r⟩ := L.sl i _ e
        exact ⟨v, e1, q x δ v F H w L (Same.refl _) r⟩
      | own o =>
        dsimp only at w
        cases e2 : o.frz with
        | none => rw [e2] at w; exact w.elim
        | some y =>
          rw [e2] at w
          obtain ⟨F', v, L', s, e1, r⟩ := L.froz e e2
          exact ⟨v, e1, q y _ v F' H w L' s r⟩⟩
theorem dv (i : Nat) {x : Str} (hN : X.N[i]? = some x := by rfl) (hv : Vis X.env.scope x := by first | exact Or.inl rfl | exact Or.inr (Or.inl rfl) | exact Or.inr (Or.inr rfl)) (hd : (x == ("__debug__" : Str)) = false := by decide)
    (hcd : (x == ("__classdict__" : Str)) = false := by decide) : D3 X E (.Name x pos) (tN i) := d_name hN hv hd hcd
/-- a name handed on as it is (owned or data); the name stands for nothing behind it -/
def tM (i : Nat) : T3E := fun _ δ Q => match δ[i]? with
  | some (.d x) => Q (.d x) δ
  | some (.own o) => Q (.own o) (δ.set i .un)
  | _ => False
theorem Lk.out {K : PySem.W.Frag} {F0 H0 F H : Hp} {B : Option Addr} {σ : St} {δ : List Sl} {i : Nat} (L : Lk K F0 H0 B σ δ F H) : Lk K F0 H0 B σ (δ.set i .un) F H := by
  refine ⟨L.fh, L.f0, L.h0, L.ff, L.bt, by simp [L.len], fun j s e => ?_, fun j k o o' e1 e2 e3 => ?_, nb_set L.nb (fun _ z => by cases z), L.tb⟩
  · rcases getS e with ⟨rfl, rfl, lt⟩ | ⟨n, e⟩
    · trivial
    · exact L.sl j s e
  · rcases getS e1 with ⟨_, z, _⟩ | ⟨n1, e1⟩
    · cases z
    · rcases getS e2 with ⟨_, z, _⟩ | ⟨n2, e2⟩
      · cases z
      · exact L.ne j k o o' e1 e2 e3
theorem e_move (i : Nat) {x : Str} (hN : X.N[i]? = some x := by rfl) (hv : Vis X.env.scope x := by first | exact Or.inl rfl | exact Or.inr (Or.inl rfl) | exact Or.inr (Or.inr rfl)) (hd : (x == ("__debug__" : Str)) = false := by decide)
    (hcd : (x == ("__classdict__" : Str)) = false := by decide) : E3 X E (.Name x pos) (tM i) := ⟨fun F0 H0 B =>
  pe_imp (pe_var hN hv hd hcd) fun σ H Q hh => ex4 hh fun δ F Z P L z w q => by
    unfold tM at w
    cases e : δ[i]? with
    | none => rw [e] at w; exact w.elim
    | some s =>
      rw [e] at w
      cases s with
      | un => exact w.elim
      | bor o => exact w.elim
      | d x =>
        obtain ⟨v, e1, r⟩ := L.sl i _ e
        exact ⟨v, e1, q (.d x) δ v F H w L (Same.refl _) r⟩
      | own o =>
        obtain ⟨a, e1, fn, hn, ow⟩ := L.sl i _ e
        refine ⟨.ref a, e1, q (.own o) _ _ F H w L.out (Same.refl _) ⟨a, rfl, fn, hn, ow, fun j o' ej z => ?_⟩⟩
        rcases getS ej with ⟨_, z', _⟩ | ⟨n, ej⟩
        · cases z'
        · exact n (L.ne i j o o' e ej (by rw [e1, z]))⟩
def tK (x : D) : T3D := fun _ δ Q => Q x δ
theorem d_const {v : V} {x : D} (h : PE X e (tC v)) (r : ∀ F, Rp X.K F v x) : D3 X E e (tK x) := ⟨fun F0 H0 B => pe_imp h fun σ H Q hh => ex4 hh fun δ F Z P L z w q => q x δ v F H w L (Same.refl _) (r F)⟩
theorem d_int {i j} : D3 X E (.Constant (.int i) j pos) (tK (.int i)) := d_const pe_int fun _ => .int i
theorem d_bl {b j} : D3 X E (.Constant (.bool b) j pos) (tK (.bl b)) := d_const pe_bl fun _ => .bl b
theorem d_str {x j} : D3 X E (.Constant (.str x) j pos) (tK (.str x)) := d_const pe_str fun _ => .str x
theorem d_glob {x : Str} {u : Value} {v : V} {y : D} (hg : Gl X x) (hm : X.mg x = some u) (r : RelV v u) (p : ∀ F, Rp X.K F v y) (hd : (x == ("__debug__" : Str)) = false := by decide) : D3 X E (.Name x pos) (tK y) := d_const (pe_glob hg hm r hd) p

/-! ### operators -/
def R3 (K : PySem.W.Frag) (r : R2) (r3 : D → D → (D → Prop) → Prop) : Prop := ∀ F H x y v u (Q : VK) (P : D → Prop), Same F H → Rp K F v x → Rp K F u y → r3 x y P → (∀ z w, P z → Rp K F w z → Q w H) → r v u H Q
def tO (r3 : D → D → (D → Prop) → Prop) (a b : T3D) : T3D := fun Z δ Q => a Z δ fun x δ1 => b Z δ1 fun y δ2 => r3 x y fun z => Q z δ2
theorem lo_op {K : PySem.W.Frag} {F0 H0 : Hp} {B : Option Addr} {ta tb : T3D} {r : R2} {r3 : D → D → (D → Prop) → Prop} (rel : R3 K r r3) {σ : St} {H : Hp} {Q : VK} (h : LD K E F0 H0 B (tO r3 ta tb) σ H Q) : tOp r (LD K E F0 H0 B ta) (LD K E F0 H0 B tb) σ H Q := by
  obtain ⟨δ, F, Z, P, L, z, w, q⟩ := h
  refine ⟨δ, F, Z, _, L, z, w, fun x δ1 v F1 H1 p1 L1 s1 r1 => ⟨δ1, F1, Z, _, L1, z, p1, fun y δ2 u F2 H2 p2 L2 s2 r2 => ?_⟩⟩
  exact rel F2 H2 x y v u Q _ L2.fh (r1.same s2) r2 p2 fun zz ww pz rz => q zz δ2 ww F2 H2 pz L2 (s1.trans s2) rz
theorem d_op {op : Operator} {r : R2} {r3 : D → D → (D → Prop) → Prop} {ta tb : T3D} (ho : OpR X (binaryOp op) r) (rel : R3 X.K r r3) (ha : D3 X E a ta) (hb : D3 X E b tb) : D3 X E (.BinOp a op b pos) (tO r3 ta tb) :=
  ⟨fun F0 H0 B => pe_imp (pe_op ho (ha.h F0 H0 B) (hb.h F0 H0 B)) fun _ _ _ h => lo_op rel h⟩
theorem d_cmp {op : CmpOp} {r : R2} {r3 : D → D → (D → Prop) → Prop} {ta tb : T3D} (ho : OpR X (compareOp op) r) (rel : R3 X.K r r3) (ha : D3 X E a ta) (hb : D3 X E b tb) (hm : behindInMarks op b = false) : D3 X E (.Compare a [op] [b] pos) (tO r3 ta tb) :=
  ⟨fun F0 H0 B => pe_imp (pe_cmpR ho (ha.h F0 H0 B) (hb.h F0 H0 B) hm) fun _ _ _ h => lo_op rel h⟩
theorem d_ix {r : R2} {r3 : D → D → (D → Prop) → Prop} {ta tb : T3D} (ho : IxR X r) (rel : R3 X.K r r3) (ha : D3 X E a ta) (hb : D3 X E b tb) (hs : PlainIx b) : D3 X E (.Subscript a b pos) (tO r3 ta tb) :=
  ⟨fun F0 H0 B => pe_imp (pe_ix ho (ha.h F0 H0 B) (hb.h F0 H0 B) hs) fun _ _ _ h => lo_op rel h⟩
/-- a value as a test -/
def tB3 (t : T3D) : T3T := fun Z δ Q => t Z δ fun x δ' => match x with
  | .bl c => Q c δ'
  | _ => False
theorem bl_inv {x : D} {P : Bool → Prop} (h : match x with
  | .bl c => P c
  | _ => False) : ∃ c, x = .bl c ∧ P c := by
  cases x with
  | bl c => exact ⟨c, rfl, h⟩
  | _ => exact h.elim
theorem c_cmp {op : CmpOp} {r : R2} {r3 : D → D → (D → Prop) → Prop} {ta tb : T3D} (ho : OpR X (compareOp op) r) (rel : R3 X.K r r3) (ha : D3 X E a ta) (hb : D3 X E b tb) (hm : behindInMarks op b = false) : C3 X E (.Compare a [op] [b] pos) (tB3 (tO r3 ta tb)) :=
  ⟨fun F0 H0 B => pt_imp (pt_cmpR ho (ha.h F0 H0 B) (hb.h F0 H0 B) hm) fun σ H Q hh => ex4 hh fun δ F Z P L z w q => lo_op rel ⟨δ, F, Z, _, L, z, w, fun x δ' v F' H' p L' s r => by
    obtain ⟨c, rfl, k⟩ := bl_inv p
    exact ⟨c, r.inv_bl, q _ δ' F' H' k L' s⟩⟩⟩
theorem c_val {t : T3D} (h : D3 X E e t) (he : ∀ whole, isTrue e X.env whole = (do let v ← whole; standAt e.pos; holding [v] (truthy v)) := by intro _; rfl) : C3 X E e (tB3 t) :=
  ⟨fun F0 H0 B => pt_imp (pt_val (h.h F0 H0 B) he) fun σ H Q hh => ex4 hh fun δ F Z P L z w q => ⟨δ, F, Z, _, L, z, w, fun x δ' v F' H' p L' s r => by
    obtain ⟨c, rfl, k⟩ := bl_inv p
    exact ⟨c, r.inv_bl, q _ δ' F' H' k L' s⟩⟩⟩
/-- a branch -/
def Br : Bool → Prop → Prop → Prop
  | true, A, _ => A
  | false, _, B => B
theorem br {b : Bool} {A B : Prop} (h1 : b = true → A) (h2 : b = false → B) : Br b A B := by
  cases b with
  | true => exact h1 rfl
  | false => exact h2 rfl
theorem brd {p : Prop} [Decidable p] {A B : Prop} (h1 : p → A) (h2 : ¬ p → B) : Br (decide p) A B := br (fun h => h1 (of_decide_eq_true h)) fun h => h2 (of_decide_eq_false h)
theorem brn {p : Prop} [Decidable p] {A B : Prop} (h1 : ¬ p → A) (h2 : p → B) : Br (!decide p) A B := br (fun h => h1 (by simpa using h)) fun h => h2 (by simpa using h)
def tNot3 (t : T3T) : T3T := fun Z δ Q => t Z δ fun c δ' => Q (!c) δ'
theorem c_not {t : T3T} (h : C3 X E a t) : C3 X E (.UnaryOp .Not a pos) (tNot3 t) :=
  ⟨fun F0 H0 B => pt_imp (pt_not (h.h F0 H0 B)) fun σ H Q hh => ex4 hh fun δ F Z P L z w q => ⟨δ, F, Z, _, L, z, w, fun b δ' F' H' p L' s => q _ δ' F' H' p L' s⟩⟩
def tAnd3 (t u : T3T) : T3T := fun Z δ Q => t Z δ fun c δ' => Br c (u Z δ' Q) (Q false δ')
def tOr3 (t u : T3T) : T3T := fun Z δ Q => t Z δ fun c δ' => Br c (Q true δ') (u Z δ' Q)
theorem w_and1 {t : T3T} (h : C3 X E a t) : W3 X E (.BoolOp .And [a] pos) t := ⟨fun F0 H0 B => pw_and1 (h.h F0 H0 B)⟩
theorem w_or1 {t : T3T} (h : C3 X E a t) : W3 X E (.BoolOp .Or [a] pos) t := ⟨fun F0 H0 B => pw_or1 (h.h F0 H0 B)⟩
theorem w_and {t u : T3T} {rest : List Expr} (h : C3 X E a t) (k : W3 X E (.BoolOp .And (b :: rest) pos) u) : W3 X E (.BoolOp .And (a :: b :: rest) pos) (tAnd3 t u) :=
  ⟨fun F0 H0 B => pw_imp (pw_and (h.h F0 H0 B) (k.h F0 H0 B)) fun σ H Q hh => ex4 hh fun δ F Z P L z w q => ⟨δ, F, Z, _, L, z, w, fun c δ' F' H' p L' s => by
    cases c with
    | true =>
      rw [if_pos rfl]
      exact ⟨δ', F', Z, P, L', z, p, fun c2 δ2 F2 H2 p2 L2 s2 => q c2 δ2 F2 H2 p2 L2 (s.trans s2)⟩
    | false =>
      rw [if_neg Bool.false_ne_true]
      exact q _ δ' F' H' p L' s⟩⟩
theorem w_or {t u : T3T} {rest : List Expr} (h : C3 X E a t) (k : W3 X E (.BoolOp .Or (b :: rest) pos) u) : W3 X E (.BoolOp .Or (a :: b :: rest) pos) (tOr3 t u) :=
  ⟨fun F0 H0 B => pw_imp (pw_or (h.h F0 H0 B) (k.h F0 H0 B)) fun σ H Q hh => ex4 hh fun δ F Z P L z w q => ⟨δ, F, Z, _, L, z, w, fun c δ' F' H' p L' s => by
    cases c with
    | true =>
      rw [if_pos rfl]
      exact q _ δ' F' H' p L' s
    | false =>
      rw [if_neg Bool.false_ne_true]
      exact ⟨δ', F', Z, P, L', z, p, fun c2 δ2 F2 H2 p2 L2 s2 => q c2 δ2 F2 H2 p2 L2 (s.trans s2)⟩⟩⟩
theorem W3.toC {t : T3T} (h : W3 X E e t) : C3 X E e t := ⟨fun F0 H0 B => (h.h F0 H0 B).pt⟩
/-! and, or, not as values (of truths) -/
def tAndD (t u : T3D) : T3D := fun Z δ Q => t Z δ fun x δ' => match x with
  | .bl c => Br c (u Z δ' Q) (Q (.bl false) δ')
  | _ => False
def tOrD (t u : T3D) : T3D := fun Z δ Q => t Z δ fun x δ' => match x with
  | .bl c => Br c (Q (.bl true) δ') (u Z δ' Q)
  | _ => False
def tNotD (t : T3D) : T3D := fun Z δ Q => t Z δ fun x δ' => match x with
  | .bl c => Q (.bl (!c)) δ'
  | _ => False
theorem d_one {op} {t : T3D} (h : D3 X E a t) : D3 X E (.BoolOp op [a] pos) t := ⟨fun F0 H0 B => pe_one (h.h F0 H0 B)⟩
theorem d_and {t u : T3D} {rest : List Expr} (h : D3 X E a t) (k : D3 X E (.BoolOp .And (b :: rest) pos) u) : D3 X E (.BoolOp .And (a :: b :: rest) pos) (tAndD t u) :=
  ⟨fun F0 H0 B => pe_imp (pe_and (h.h F0 H0 B) (k.h F0 H0 B)) fun σ H Q hh => ex4 hh fun δ F Z P L z w q => ⟨δ, F, Z, _, L, z, w, fun x δ' v F' H' p L' s r => by
    cases x with
    | bl c =>
      obtain rfl := r.inv_bl
      refine ⟨c, rfl, ?_⟩
      cases c with
      | true =>
        rw [if_pos rfl]
        exact ⟨δ', F', Z, P, L', z, p, fun c2 δ2 v2 F2 H2 p2 L2 s2 r2 => q c2 δ2 v2 F2 H2 p2 L2 (s.trans s2) r2⟩
      | false =>
        rw [if_neg Bool.false_ne_true]
        exact q _ δ' _ F' H' p L' s (.bl false)
    | _ => exact p.elim⟩⟩
theorem d_or {t u : T3D} {rest : List Expr} (h : D3 X E a t) (k : D3 X E (.BoolOp .Or (b :: rest) pos) u) : D3 X E (.BoolOp .Or (a :: b :: rest) pos) (tOrD t u) :=
  ⟨fun F0 H0 B => pe_imp (pe_or (h.h F0 H0 B) (k.h F0 H0 B)) fun σ H Q hh => ex4 hh fun δ F Z P L z w q => ⟨δ, F, Z, _, L, z, w, fun x δ' v F' H' p L' s r => by
    cases x with
    | bl c =>
      obtain rfl := r.inv_bl
      refine ⟨c, rfl, ?_⟩
      cases c with
      | true =>
        rw [if_pos rfl]
        exact q _ δ' _ F' H' p L' s (.bl true)
      | false =>
        rw [if_neg Bool.false_ne_true]
        exact ⟨δ', F', Z, P, L', z, p, fun c2 δ2 v2 F2 H2 p2 L2 s2 r2 => q c2 δ2 v2 F2 H2 p2 L2 (s.trans s2) r2⟩
    | _ => exact p.elim⟩⟩
theorem d_not {t : T3D} (h : D3 X E a t) : D3 X E (.UnaryOp .Not a pos) (tNotD t) :=
  ⟨fun F0 H0 B => pe_imp (pe_not (h.h F0 H0 B)) fun σ H Q hh => ex4 hh fun δ F Z P L z w q => ⟨δ, F, Z, _, L, z, w, fun x δ' v F' H' p L' s r => by
    cases x with
    | bl c =>
      obtain rfl := r.inv_bl
      exact ⟨c, rfl, q _ δ' _ F' H' p L' s (.bl _)⟩
    | _ => exact p.elim⟩⟩
/-- unary minus and its kin -/
def tU (r3 : D → (D → Prop) → Prop) (a : T3D) : T3D := fun Z δ Q => a Z δ fun x δ1 => r3 x fun z => Q z δ1
def i1 (g : Int → D) : D → (D → Prop) → Prop := fun x P => match x with
  | .int i => P (g i)
  | _ => False
theorem d_neg {t : T3D} (h : D3 X E a t) : D3 X E (.UnaryOp .USub a pos) (tU (i1 fun i => .int (-i)) t) :=
  ⟨fun F0 H0 B => pe_imp (pe_un un_neg (h.h F0 H0 B)) fun σ H Q hh => ex4 hh fun δ F Z P L z w q => ⟨δ, F, Z, _, L, z, w, fun x δ' v F' H' p L' s r => by
    cases x with
    | int i => exact ⟨i, r.inv_int, q _ δ' _ F' H' p L' s (.int _)⟩
    | _ => exact p.elim⟩⟩

/-! ### rows of ints -/
def i2 (g : Int → Int → D) : D → D → (D → Prop) → Prop := fun x y P => match x, y with
  | .int i, .int j => P (g i j)
  | _, _ => False
def i2c (C : Int → Int → Prop) (g : Int → Int → D) : D → D → (D → Prop) → Prop := fun x y P => match x, y with
  | .int i, .int j => C i j ∧ P (g i j)
  | _, _ => False
theorem i2_inv {g : Int → Int → D} {x y : D} {P : D → Prop} (h : i2 g x y P) : ∃ i j, x = .int i ∧ y = .int j ∧ P (g i j) := by
  cases x with
  | int i =>
    cases y with
    | int j => exact ⟨i, j, rfl, rfl, h⟩
    | _ => exact h.elim
  | _ => exact h.elim
theorem i2c_inv {C : Int → Int → Prop} {g : Int → Int → D} {x y : D} {P : D → Prop} (h : i2c C g x y P) : ∃ i j, x = .int i ∧ y = .int j ∧ C i j ∧ P (g i j) := by
  cases x with
  | int i =>
    cases y with
    | int j => exact ⟨i, j, rfl, rfl, h⟩
    | _ => exact h.elim
  | _ => exact h.elim
theorem r3_i2 {K : PySem.W.Frag} {g : Int → Int → V} {g3 : Int → Int → D} (hg : ∀ F i j, Rp K F (g i j) (g3 i j)) : R3 K (rI0 g) (i2 g3) := by
  intro F H x y v u Q P fh rx ry h q
  obtain ⟨i, j, rfl, rfl, p⟩ := i2_inv h
  exact ⟨i, j, rx.inv_int, ry.inv_int, q _ _ p (hg _ _ _)⟩
theorem r3_i2c {K : PySem.W.Frag} {C C3 : Int → Int → Prop} {g : Int → Int → V} {g3 : Int → Int → D} (hC : ∀ i j, C3 i j → C i j) (hg : ∀ F i j, Rp K F (g i j) (g3 i j)) : R3 K (rI C g) (i2c C3 g3) := by
  intro F H x y v u Q P fh rx ry h q
  obtain ⟨i, j, rfl, rfl, c, p⟩ := i2c_inv h
  exact ⟨i, j, rx.inv_int, ry.inv_int, hC _ _ c, q _ _ p (hg _ _ _)⟩
theorem r_add {K : PySem.W.Frag} : R3 K (rI0 fun i j => .int (i + j)) (i2 fun i j => .int (i + j)) := r3_i2 fun _ _ _ => .int _
theorem r_sub {K : PySem.W.Frag} : R3 K (rI0 fun i j => .int (i - j)) (i2 fun i j => .int (i - j)) := r3_i2 fun _ _ _ => .int _
/-- a number of at most 2 ^ 16 bits -/
def Fit (i : Int) : Prop := i.natAbs < 2 ^ 65536
def FitM (i j : Int) : Prop := Fit i ∧ Fit j
theorem fit_w {i j : Int} (h : FitM i j) : Fr.CW i j := ⟨65536, h.1, h.2, by decide⟩
theorem r_mul {K : PySem.W.Frag} : R3 K (rI Fr.CW fun i j => .int (i * j)) (i2c FitM fun i j => .int (i * j)) := r3_i2c (fun _ _ h => fit_w h) fun _ _ _ => .int _
def DivM (_ j : Int) : Prop := 0 < j ∧ j < 2 ^ 250
theorem r_fdiv {K : PySem.W.Frag} : R3 K (rI (fun _ j => 0 < j ∧ j < 2 ^ 250) fun i j => .int (i / j)) (i2c DivM fun i j => .int (i / j)) := r3_i2c (fun _ _ h => h) fun _ _ _ => .int _
def ModM (_ j : Int) : Prop := 0 < j
theorem r_mod {K : PySem.W.Frag} : R3 K (rI (fun _ j => 0 < j) fun i j => .int (i % j)) (i2c ModM fun i j => .int (i % j)) := r3_i2c (fun _ _ h => h) fun _ _ _ => .int _
def ModZ (_ j : Int) : Prop := j ≠ 0
theorem r_modN {K : PySem.W.Frag} : R3 K (rI (fun _ j => j ≠ 0) fun i j => .int (i.fmod j)) (i2c ModZ fun i j => .int (i.fmod j)) := r3_i2c (fun _ _ h => h) fun _ _ _ => .int _
theorem r_pow {K : PySem.W.Frag} : R3 K (rI CPow fun i j => .int (i ^ j.toNat)) (i2c CPow fun i j => .int (i ^ j.toNat)) := r3_i2c (fun _ _ h => h) fun _ _ _ => .int _
theorem r_lt {K : PySem.W.Frag} : R3 K (rI0 fun i j => .bl (decide (i < j))) (i2 fun i j => .bl (decide (i < j))) := r3_i2 fun _ _ _ => .bl _
theorem r_le {K : PySem.W.Frag} : R3 K (rI0 fun i j => .bl (decide (i ≤ j))) (i2 fun i j => .bl (decide (i ≤ j))) := r3_i2 fun _ _ _ => .bl _
theorem r_gt {K : PySem.W.Frag} : R3 K (rI0 fun i j => .bl (decide (j < i))) (i2 fun i j => .bl (decide (j < i))) := r3_i2 fun _ _ _ => .bl _
theorem r_ge {K : PySem.W.Frag} : R3 K (rI0 fun i j => .bl (decide (j ≤ i))) (i2 fun i j => .bl (decide (j ≤ i))) := r3_i2 fun _ _ _ => .bl _
def i2eq : D → D → (D → Prop) → Prop := i2 fun i j => .bl (decide (i = j))
def i2ne : D → D → (D → Prop) → Prop := i2 fun i j => .bl (!decide (i = j))
theorem dec_int (i j : Int) : decide (V.int i = V.int j) = decide (i = j) := by
  by_cases h : i = j
  · rw [h]; simp
  · rw [decide_eq_false h, decide_eq_false fun z => h (by injection z)]
theorem r_eq {K : PySem.W.Frag} : R3 K rEq i2eq := by
  intro F H x y v u Q P fh rx ry h q
  obtain ⟨i, j, rfl, rfl, p⟩ := i2_inv h
  obtain rfl := rx.inv_int
  obtain rfl := ry.inv_int
  exact ⟨rfl, by rw [dec_int]; exact q _ _ p (.bl _)⟩
theorem r_ne {K : PySem.W.Frag} : R3 K rNe i2ne := by
  intro F H x y v u Q P fh rx ry h q
  obtain ⟨i, j, rfl, rfl, p⟩ := i2_inv h
  obtain rfl := rx.inv_int
  obtain rfl := ry.inv_int
  exact ⟨rfl, by rw [dec_int]; exact q _ _ p (.bl _)⟩
/-- a op b op c -/
def tCh (r r' : D → D → (D → Prop) → Prop) (a b c : T3D) : T3D := fun Z δ Q => a Z δ fun x δ1 => b Z δ1 fun y δ2 => r x y fun z => match z with
  | .bl k => Br k (c Z δ2 fun w δ3 => r' y w fun z' => Q z' δ3) (Q (.bl false) δ2)
  | _ => False
theorem lo_ch {K : PySem.W.Frag} {F0 H0 : Hp} {B : Option Addr} {ta tb tc : T3D} {r r' : R2} {r3 r3' : D → D → (D → Prop) → Prop} (rel : R3 K r r3) (rel' : R3 K r' r3') {σ : St} {H : Hp} {Q : VK} (h : LD K E F0 H0 B (tCh r3 r3' ta tb tc) σ H Q) :
    tChain r r' (LD K E F0 H0 B ta) (LD K E F0 H0 B tb) (LD K E F0 H0 B tc) σ H Q := by
  obtain ⟨δ, F, Z, P, L, z, w, q⟩ := h
  refine ⟨δ, F, Z, _, L, z, w, fun x δ1 v F1 H1 p1 L1 s1 r1 => ⟨δ1, F1, Z, _, L1, z, p1, fun y δ2 u F2 H2 p2 L2 s2 r2 => ?_⟩⟩
  refine rel F2 H2 x y v u _ _ L2.fh (r1.same s2) r2 p2 fun zz ww pz rz => ?_
  cases zz with
  | bl k =>
    obtain rfl := rz.inv_bl
    refine ⟨k, rfl, ?_⟩
    cases k with
    | true =>
      rw [if_pos rfl]
      refine ⟨δ2, F2, Z, _, L2, z, pz, fun y3 δ3 u3 F3 H3 p3 L3 s3 r3 => ?_⟩
      exact rel' F3 H3 y y3 u u3 Q _ L3.fh (r2.same s3) r3 p3 fun zz ww pz rz => q zz δ3 ww F3 H3 pz L3 ((s1.trans s2).trans s3) rz
    | false =>
      rw [if_neg Bool.false_ne_true]
      exact q _ δ2 _ F2 H2 pz L2 (s1.trans s2) (.bl false)
  | _ => exact pz.elim
theorem d_chain {op op' : CmpOp} {r r' : R2} {r3 r3' : D → D → (D → Prop) → Prop} {ta tb tc : T3D} (ho : OpR X (compareOp op) r) (ho' : OpR X (compareOp op') r') (rel : R3 X.K r r3) (rel' : R3 X.K r' r3') (ha : D3 X E a ta) (hb : D3 X E b tb) (hc : D3 X E c tc)
    (hm : lastMarks [op, op'] [b, c] = false := by with_unfolding_all rfl) : D3 X E (.Compare a [op, op'] [b, c] pos) (tCh r3 r3' ta tb tc) :=
  ⟨fun F0 H0 B => pe_imp (pe_chain ho ho' (ha.h F0 H0 B) (hb.h F0 H0 B) (hc.h F0 H0 B) hm) fun _ _ _ h => lo_ch rel rel' h⟩
theorem c_chain {op op' : CmpOp} {r r' : R2} {r3 r3' : D → D → (D → Prop) → Prop} {ta tb tc : T3D} (ho : OpR X (compareOp op) r) (ho' : OpR X (compareOp op') r') (rel : R3 X.K r r3) (rel' : R3 X.K r' r3') (ha : D3 X E a ta) (hb : D3 X E b tb) (hc : D3 X E c tc)
    (hm : lastMarks [op, op'] [b, c] = false := by with_unfolding_all rfl) : C3 X E (.Compare a [op, op'] [b, c] pos) (tB3 (tCh r3 r3' ta tb tc)) :=
  ⟨fun F0 H0 B => pt_imp (pt_chain ho ho' (ha.h F0 H0 B) (hb.h F0 H0 B) (hc.h F0 H0 B) hm) fun σ H Q hh => ex4 hh fun δ F Z P L z w q => lo_ch rel rel' ⟨δ, F, Z, _, L, z, w, fun x δ' v F' H' p L' s r => by
    obtain ⟨c, rfl, k⟩ := bl_inv p
    exact ⟨c, r.inv_bl, q _ δ' F' H' k L' s⟩⟩⟩
end
end L3

set_option Elab.async false
set_option linter.all false
set_option maxRecDepth 100000
namespace L3
open PySem PySem.Spec L2
section
variable {X : Cx} {E : XK} {e a b c o : Expr} {es : List Expr} {pos : Pos}

/-! ### argument lists, displays -/
def tA0 : T3A := fun _ δ Q => Q [] δ
def tAc (t : T3D) (u : T3A) : T3A := fun Z δ Q => t Z δ fun x δ1 => u Z δ1 fun xs δ2 => Q (x :: xs) δ2
theorem a_nil : A3 X E [] tA0 := ⟨fun F0 H0 B => pa_imp pa_nil fun σ H Q hh => ex4 hh fun δ F Z P L z w q => q [] δ [] F H w L (Same.refl _) .nil⟩
theorem a_cons {t : T3D} {u : T3A} (h : D3 X E e t) (r : A3 X E es u) (hs : starEach (e :: es) X.env = (false, eval e X.env) :: starEach es X.env := by rfl) : A3 X E (e :: es) (tAc t u) :=
  ⟨fun F0 H0 B => pa_imp (pa_cons (h.h F0 H0 B) (r.h F0 H0 B) hs) fun σ H Q hh => ex4 hh fun δ F Z P L z w q => ⟨δ, F, Z, _, L, z, w, fun x δ1 v F1 H1 p1 L1 s1 r1 =>
    ⟨δ1, F1, Z, _, L1, z, p1, fun xs δ2 vs F2 H2 p2 L2 s2 r2 => q _ δ2 _ F2 H2 p2 L2 (s1.trans s2) (.cons (r1.same s2) r2)⟩⟩⟩
/-- a length that is no matter -/
def Few (n : Nat) (P : Prop) : Prop := match Nat.ble n 1000000 with
  | true => P
  | false => False
theorem few {n : Nat} {P : Prop} (h : Few n P) : n ≤ 1000000 ∧ P := by
  unfold Few at h
  cases e : Nat.ble n 1000000 with
  | true => rw [e] at h; exact ⟨Nat.le_of_ble_eq_true e, h⟩
  | false => rw [e] at h; exact h.elim
theorem line_big {n : Nat} (h : n ≤ 1000000) : n < sizeLine := Nat.lt_of_le_of_lt h (by decide)
def tTu (t : T3A) : T3D := fun Z δ Q => t Z δ fun xs δ' => Few xs.length (Q (.tup xs) δ')
theorem d_tup {t : T3A} {x1} (h : A3 X E es t) : D3 X E (.Tuple es x1 pos) (tTu t) :=
  ⟨fun F0 H0 B => pe_imp (pe_tup (h.h F0 H0 B)) fun σ H Q hh => ex4 hh fun δ F Z P L z w q => ⟨δ, F, Z, _, L, z, w, fun xs δ' vs F' H' p L' s r => by
    obtain ⟨n, p⟩ := few p
    refine ⟨by rw [r.len]; exact Nat.le_of_lt (line_big n), fun a ha => ?_⟩
    obtain ⟨L2, s2⟩ := L'.newD (ho := .tup vs) ha
    exact q _ δ' _ _ _ p L2 (s.trans s2) (.tup (SqT.of upd_same) (r.same s2))⟩⟩
def tLs (t : T3A) : T3E := fun Z δ Q => t Z δ fun xs δ' => Few xs.length (Q (.own (.lst xs)) δ')
theorem e_lst {t : T3A} (h : A3 X E es t) : E3 X E (.List es pos) (tLs t) :=
  ⟨fun F0 H0 B => pe_imp (pe_lst (h.h F0 H0 B)) fun σ H Q hh => ex4 hh fun δ F Z P L z w q => ⟨δ, F, Z, _, L, z, w, fun xs δ' vs F' H' p L' s r => by
    obtain ⟨n, p⟩ := few p
    refine ⟨by rw [r.len]; exact Nat.le_of_lt (line_big n), fun a ha => ?_⟩
    obtain ⟨L2, k2⟩ := L'.newO (ho := .lst vs) ha (o := .lst xs) ⟨vs, upd_same, r⟩
    exact q _ δ' _ _ _ p L2 s k2⟩⟩

/-! ### items -/
/-- the list that a name stands for, owned or not -/
def Sl.list : Sl → Option (List D)
  | .d (.lst xs) => some xs
  | .own (.lst xs) => some xs
  | .bor (.lst xs) => some xs
  | _ => none
theorem Lk.list {K : PySem.W.Frag} {F0 H0 F H : Hp} {B : Option Addr} {σ : St} {δ : List Sl} {i : Nat} {s : Sl} {xs : List D} (L : Lk K F0 H0 B σ δ F H) (e : δ[i]? = some s) (l : s.list = some xs) : ∃ a vs, σ[i]? = some (some (.ref a)) ∧ SqL K H a vs ∧ Rps K F vs xs := by
  have q := L.sl i s e
  cases s with
  | un => cases l
  | d x =>
    cases x with
    | lst ys =>
      cases l
      obtain ⟨v, e1, r⟩ := q
      cases r with
      | lst hs rs => exact ⟨_, _, e1, SqL.of (L.fh _ _ hs), rs⟩
    | _ => cases l
  | own o =>
    cases o with
    | lst ys =>
      cases l
      obtain ⟨a, e1, _, _, vs, hh, rs⟩ := q
      exact ⟨a, vs, e1, SqL.of hh, rs⟩
    | _ => cases l
  | bor o =>
    cases o with
    | lst ys =>
      cases l
      obtain ⟨a, e1, _, _, vs, hh, rs⟩ := q
      exact ⟨a, vs, e1, SqL.of hh, rs⟩
    | _ => cases l
def gl (δ : List Sl) (i : Nat) : Option (List D) := match δ[i]? with
  | some s => s.list
  | none => none
theorem Lk.gl {K : PySem.W.Frag} {F0 H0 F H : Hp} {B : Option Addr} {σ : St} {δ : List Sl} {i : Nat} {xs : List D} (L : Lk K F0 H0 B σ δ F H) (l : gl δ i = some xs) : ∃ a vs, σ[i]? = some (some (.ref a)) ∧ SqL K H a vs ∧ Rps K F vs xs := by
  unfold L3.gl at l
  cases e : δ[i]? with
  | none => rw [e] at l; cases l
  | some s => rw [e] at l; exact L.list e l
/-! ### built-in functions of data -/
def CR3 (K : PySem.W.Frag) (r : List V → Hp → VK → Prop) (r3 : List D → (D → Prop) → Prop) : Prop := ∀ F H xs vs (Q : VK) (P : D → Prop), Same F H → Rps K F vs xs → r3 xs P → (∀ z w, P z → Rp K F w z → Q w H) → r vs H Q
def tCB3 (r3 : List D → (D → Prop) → Prop) (t : T3A) : T3D := fun Z δ Q => t Z δ fun xs δ' => r3 xs fun z => Q z δ'
theorem lo_cb {K : PySem.W.Frag} {F0 H0 : Hp} {B : Option Addr} {t : T3A} {r : List V → Hp → VK → Prop} {r3 : List D → (D → Prop) → Prop} (rel : CR3 K r r3) {σ : St} {H : Hp} {Q : VK} (h : LD K E F0 H0 B (tCB3 r3 t) σ H Q) : tCB r (LA K E F0 H0 B t) σ H Q := by
  obtain ⟨δ, F, Z, P, L, z, w, q⟩ := h
  exact ⟨δ, F, Z, _, L, z, w, fun xs δ' vs F' H' p L' s rs => rel F' H' xs vs Q _ L'.fh rs p fun zz ww pz rz => q zz δ' ww F' H' pz L' s rz⟩
theorem d_callB {x : Str} {p : Pos} {id : String} {r : List V → Hp → VK → Prop} {r3 : List D → (D → Prop) → Prop} {t : T3A} (hc : CallR X (.builtin id) r) (rel : CR3 X.K r r3) (hg : Gl X x) (hm : X.mg x = none) (hv : bootBuiltins x = some (.builtin id)) (ha : A3 X E (e :: es) t) (hn : x ≠ "__name__" := by decide) (hdb : (x == ("__debug__" : Str)) = false := by decide)
    (he : starEach (e :: es) X.env = (false, eval e X.env) :: starEach es X.env := by rfl) (hpl : (backTo pos (starEach es X.env)).any (·.1) = false := by rfl) : D3 X E (.Call (.Name x p) (e :: es) [] pos) (tCB3 r3 t) :=
  ⟨fun F0 H0 B => pe_imp (pe_callB hc hg hm hv (ha.h F0 H0 B) hn hdb he hpl) fun _ _ _ h => lo_cb rel h⟩
theorem d_callTy {x : Str} {p : Pos} {id : String} {r : List V → Hp → VK → Prop} {r3 : List D → (D → Prop) → Prop} {t : T3A} (hc : CallR X (.type id) r) (rel : CR3 X.K r r3) (hg : Gl X x) (hm : X.mg x = none) (hv : bootBuiltins x = some (.type id)) (ha : A3 X E (e :: es) t) (hn : x ≠ "__name__" := by decide) (hdb : (x == ("__debug__" : Str)) = false := by decide)
    (he : starEach (e :: es) X.env = (false, eval e X.env) :: starEach es X.env := by rfl) (hpl : (backTo pos (starEach es X.env)).any (·.1) = false := by rfl) : D3 X E (.Call (.Name x p) (e :: es) [] pos) (tCB3 r3 t) :=
  ⟨fun F0 H0 B => pe_imp (pe_callTy hc hg hm hv (ha.h F0 H0 B) hn hdb he hpl) fun _ _ _ h => lo_cb rel h⟩
def rAbs : List D → (D → Prop) → Prop := fun xs P => match xs with
  | [.int i] => P (.int (if i < 0 then -i else i))
  | _ => False
theorem rAbs_inv {xs : List D} {P : D → Prop} (h : rAbs xs P) : ∃ i, xs = [.int i] ∧ P (.int (if i < 0 then -i else i)) := by
  unfold rAbs at h
  split at h
  · exact ⟨_, rfl, h⟩
  · exact h.elim
theorem cr_abs {K : PySem.W.Frag} : CR3 K (fun xs H Q => ∃ i, xs = [.int i] ∧ Q (.int (if i < 0 then -i else i)) H) rAbs := by
  intro F H xs vs Q P fh rs h q
  obtain ⟨i, rfl, p⟩ := rAbs_inv h
  obtain ⟨v, rfl, r⟩ := rs.inv1
  exact ⟨i, by rw [r.inv_int], q _ _ p (.int _)⟩
def rTwo (g : Int → Int → Int) : List D → (D → Prop) → Prop := fun xs P => match xs with
  | [.int i, .int j] => P (.int (g i j))
  | _ => False
theorem rTwo_inv {g : Int → Int → Int} {xs : List D} {P : D → Prop} (h : rTwo g xs P) : ∃ i j, xs = [.int i, .int j] ∧ P (.int (g i j)) := by
  unfold rTwo at h
  split at h
  · exact ⟨_, _, rfl, h⟩
  · exact h.elim
theorem cr_two {K : PySem.W.Frag} {g : Int → Int → Int} : CR3 K (fun xs H Q => ∃ i j, xs = [.int i, .int j] ∧ Q (.int (g i j)) H) (rTwo g) := by
  intro F H xs vs Q P fh rs h q
  obtain ⟨i, j, rfl, p⟩ := rTwo_inv h
  obtain ⟨v, u, rfl, r1, r2⟩ := rs.inv2
  exact ⟨i, j, by rw [r1.inv_int, r2.inv_int], q _ _ p (.int _)⟩
def rInt : List D → (D → Prop) → Prop := fun xs P => match xs with
  | [.int i] => P (.int i)
  | [.bl k] => P (.int (if k then 1 else 0))
  | _ => False
theorem cr_int {K : PySem.W.Frag} : CR3 K (fun xs H Q => (∃ i, xs = [.int i] ∧ Q (.int i) H) ∨ ∃ k, xs = [.bl k] ∧ Q (.int (if k then 1 else 0)) H) rInt := by
  intro F H xs vs Q P fh rs h q
  cases rs with
  | nil => exact h.elim
  | cons r rs =>
    cases rs with
    | cons r2 rs => cases r <;> exact h.elim
    | nil => cases r <;> first | exact h.elim | exact .inl ⟨_, rfl, q _ _ h (.int _)⟩ | exact .inr ⟨_, rfl, q _ _ h (.int _)⟩
def rLen : List D → (D → Prop) → Prop := fun xs P => match xs with
  | [.lst ys] => P (.int ys.length)
  | [.tup ys] => P (.int ys.length)
  | [.scr ys] => P (.int ys.length)
  | _ => False
theorem cr_len {K : PySem.W.Frag} : CR3 K (fun xs H Q => ∃ p ys, xs = [.ref p] ∧ (SqL K H p ys ∨ SqT K H p ys) ∧ Q (.int ys.length) H) rLen := by
  intro F H xs vs Q P fh rs h q
  cases rs with
  | nil => exact h.elim
  | cons r rs =>
    cases rs with
    | cons r2 rs => cases r <;> exact h.elim
    | nil =>
      cases r with
      | lst hs rr => exact ⟨_, _, rfl, .inl (SqL.of (fh _ _ hs)), q _ _ h (by rw [rr.len]; exact .int _)⟩
      | tup hs rr => exact ⟨_, _, rfl, .inr (Fr.sqT_same fh hs), q _ _ h (by rw [rr.len]; exact .int _)⟩
      | scr hs => exact ⟨_, _, rfl, .inl (fh.seq hs), q _ _ h (by rw [List.length_map]; exact .int _)⟩
      | _ => exact h.elim
/-- len of a name's list -/
def tLenN (i : Nat) : T3D := fun Z δ Q => match gl δ i with
  | some xs => Q (.int xs.length) δ
  | none => False
theorem d_lenN (i : Nat) {x : Str} {p p2 : Pos} (hg : Gl X "len") (hm : X.mg "len" = none) (hN : X.N[i]? = some x := by rfl) (hv : Vis X.env.scope x := by first | exact Or.inl rfl | exact Or.inr (Or.inl rfl) | exact Or.inr (Or.inr rfl)) (hd : (x == ("__debug__" : Str)) = false := by decide)
    (hcd : (x == ("__classdict__" : Str)) = false := by decide) : D3 X E (.Call (.Name "len" p2) [.Name x p] [] pos) (tLenN i) :=
  ⟨fun F0 H0 B => pe_imp (pe_callB call_len_seq hg hm PySem.boot_len (pa_cons (pe_var (pos := p) hN hv hd hcd) pa_nil)) fun σ H Q hh => ex4 hh fun δ F Z P L z w q => by
    unfold tLenN at w
    cases e0 : L3.gl δ i with
    | none => rw [e0] at w; exact w.elim
    | some xs =>
      rw [e0] at w
      obtain ⟨a, vs, e1, sq, rs⟩ := L.gl e0
      exact ⟨.ref a, e1, a, vs, rfl, .inl sq, q _ δ _ F H w L (Same.refl _) (by rw [rs.len]; exact .int _)⟩⟩
end
end L3

set_option Elab.async false
set_option linter.all false
set_option maxRecDepth 100000
/-! Statements over data. -/
namespace L3
open PySem PySem.Spec L2
section
variable {X : Cx} {E : XK} {e a b c o : Expr} {es : List Expr} {pos : Pos} {st : Stmt} {rest : List Stmt}

def tNx : T3S := fun _ En δ => En.nx δ
def tSq (t u : T3S) : T3S := fun Z En δ => t Z { En with nx := fun δ' => u Z En δ' } δ
theorem b_nil : B3 X E [] tNx := ⟨fun F0 H0 B => pss_imp pss_nil fun Dn σ H hh => ex4 hh fun δ F Z En L z w ok => ok.nx σ δ F H w L (Same.refl _)⟩
theorem b_one {t : T3S} (h : S3 X E st t) : B3 X E [st] t := ⟨fun F0 H0 B => pss_one (h.h F0 H0 B)⟩
theorem b_cons {t u : T3S} (h : S3 X E st t) (k : B3 X E rest u) : B3 X E (st :: rest) (tSq t u) :=
  ⟨fun F0 H0 B => pss_imp (pss_cons (h.h F0 H0 B) (k.h F0 H0 B)) fun Dn σ H hh => ex4 hh fun δ F Z En L z w ok =>
    ⟨δ, F, Z, _, L, z, w, fun σ' δ' F' H' p L' s => ⟨δ', F', Z, En, L', z, p, ok.up s⟩, ok.rt, ok.bk, ok.ct⟩⟩
def tSt (i : Nat) (t : T3E) : T3S := fun Z En δ => t Z δ fun r δ' => En.nx (δ'.set i r.sl)
theorem s_set (i : Nat) {x : Str} {pos' : Pos} {t : T3E} (hN : X.N.Nodup) (hi : X.N[i]? = some x) (hx : Loc X.env.scope x) (he : E3 X E e t) (hs : swapsWith e (some (.Name x pos')) pos.line X.env = pure false := by rfl) (hf : X.fn x = true ∨ X.env.scope.names.lookup x = some .local := by first | exact .inl rfl | exact .inr rfl | assumption) :
    S3 X E (.Assign [.Name x pos'] e pos) (tSt i t) :=
  ⟨fun F0 H0 B => ps_imp (ps_set hN hi hx (he.h F0 H0 B) hs hf) fun Dn σ H hh => ex4 hh fun δ F Z En L z w ok => ⟨δ, F, Z, _, L, z, w, fun r δ' v F' H' p L' s k => ok.nx _ _ F' H' p (L'.setR k) s⟩⟩
def tRt (t : T3E) : T3S := fun Z En δ => t Z δ fun r δ' => En.rt r δ'
theorem s_ret {t : T3E} (he : E3 X E e t) : S3 X E (.Return (some e) pos) (tRt t) :=
  ⟨fun F0 H0 B => ps_imp (ps_ret (he.h F0 H0 B)) fun Dn σ H hh => ex4 hh fun δ F Z En L z w ok => ⟨δ, F, Z, _, L, z, w, fun r δ' v F' H' p L' s k => ok.rt r v σ δ' F' H' p L' s k⟩⟩
def tEx (t : T3E) : T3S := fun Z En δ => t Z δ fun _ δ' => En.nx δ'
theorem s_expr {t : T3E} (he : E3 X E e t) (hs : swapsWith e none pos.line X.env = pure false := by rfl) : S3 X E (.Expr e pos) (tEx t) :=
  ⟨fun F0 H0 B => ps_imp (ps_expr (he.h F0 H0 B) hs) fun Dn σ H hh => ex4 hh fun δ F Z En L z w ok => ⟨δ, F, Z, _, L, z, w, fun r δ' v F' H' p L' s k => ok.nx σ δ' F' H' p L' s⟩⟩
def tIf3 (c : T3T) (t u : T3S) : T3S := fun Z En δ => c Z δ fun k δ' => Br k (t Z En δ') (u Z En δ')
theorem s_if {A' B' : List Stmt} {tc : T3T} {t u : T3S} (hc : C3 X E c tc) (ha : B3 X E A' t) (hb : B3 X E B' u) : S3 X E (.If c A' B' pos) (tIf3 tc t u) :=
  ⟨fun F0 H0 B => ps_imp (ps_if (hc.h F0 H0 B) (ha.h F0 H0 B) (hb.h F0 H0 B)) fun Dn σ H hh => ex4 hh fun δ F Z En L z w ok => ⟨δ, F, Z, _, L, z, w, fun k δ' F' H' p L' s => by
    cases k with
    | true => rw [if_pos rfl]; exact ⟨δ', F', Z, En, L', z, p, ok.up s⟩
    | false => rw [if_neg Bool.false_ne_true]; exact ⟨δ', F', Z, En, L', z, p, ok.up s⟩⟩⟩
/-- while: P the word with its measure -/
def tWh (c : T3T) (tb : T3S) : T3S := fun Z En δ => ∃ P : Nat → List Sl → Prop, (∃ m, P m δ) ∧ ∀ m δ, P m δ →
  c Z δ fun k δ' => Br k (tb Z { En with nx := fun δ2 => ∃ m', m' < m ∧ P m' δ2, ct := fun δ2 => ∃ m', m' < m ∧ P m' δ2, bk := En.nx } δ') (En.nx δ')
theorem s_while {body : List Stmt} {tc : T3T} {tb : T3S} (hp : PassesOwn (model X.prog X.w) X.A X.env X.xe) (hc : C3 X E c tc) (hb : B3 X E body tb) : S3 X E (.While c body [] pos) (tWh tc tb) :=
  ⟨fun F0 H0 B => ps_imp (ps_while hp (hc.h F0 H0 B) (hb.h F0 H0 B)) fun Dn σ H hh => ex4 hh fun δ F Z En L z w ok => by
    obtain ⟨P, ⟨m0, p0⟩, turn⟩ := w
    refine ⟨fun m σ H => ∃ δ F1, Lk X.K F0 H0 B σ δ F1 H ∧ Same F F1 ∧ P m δ, ⟨m0, δ, F, L, Same.refl _, p0⟩, ?_⟩
    rintro m σ1 H1 ⟨δ1, F1, L1, s1, p1⟩
    refine ⟨δ1, F1, Z, _, L1, z, turn m δ1 p1, fun k δ2 F2 H2 p2 L2 s2 => ?_⟩
    cases k with
    | true =>
      rw [if_pos rfl]
      refine ⟨fun σ' H' => ∃ δ' F' m', m' < m ∧ Lk X.K F0 H0 B σ' δ' F' H' ∧ Same F F' ∧ P m' δ', ?_, δ2, F2, Z, _, L2, z, p2, ?_⟩
      · rintro σ' H' ⟨δ', F', m', hm, L', s', p'⟩
        exact ⟨m', hm, δ', F', L', s', p'⟩
      · exact ⟨fun σ' δ' F' H' ⟨m', hm, p'⟩ L' s' => ⟨δ', F', m', hm, L', (s1.trans s2).trans s', p'⟩, (ok.up (s1.trans s2)).rt, (ok.up (s1.trans s2)).nx, fun σ' δ' F' H' ⟨m', hm, p'⟩ L' s' => ⟨δ', F', m', hm, L', (s1.trans s2).trans s', p'⟩⟩
    | false =>
      rw [if_neg Bool.false_ne_true]
      exact ok.nx _ _ _ _ p2 L2 (s1.trans s2)⟩

/-! ### targets -/
abbrev T3G := D → List Sl → (List Sl → Prop) → Prop
abbrev T3Gs := List D → List Sl → (List Sl → Prop) → Prop
def LG (K : PySem.W.Frag) (F0 H0 : Hp) (B : Option Addr) (g : T3G) : TG := fun v σ H Q => ∃ δ F x P, Lk K F0 H0 B σ δ F H ∧ Rp K F v x ∧ g x δ P ∧ ∀ σ' δ' F' H', P δ' → Lk K F0 H0 B σ' δ' F' H' → Same F F' → Q σ' H'
def LGs (K : PySem.W.Frag) (F0 H0 : Hp) (B : Option Addr) (g : T3Gs) : TGs := fun vs σ H Q => ∃ δ F xs P, Lk K F0 H0 B σ δ F H ∧ Rps K F vs xs ∧ g xs δ P ∧ ∀ σ' δ' F' H', P δ' → Lk K F0 H0 B σ' δ' F' H' → Same F F' → Q σ' H'
structure G3 (X : Cx) (tg : Expr) (g : T3G) : Prop where
  h : ∀ F0 H0 B, PG X tg (LG X.K F0 H0 B g)
structure Gs3 (X : Cx) (tgs : List Expr) (g : T3Gs) : Prop where
  h : ∀ F0 H0 B, PGs X tgs (LGs X.K F0 H0 B g)
theorem pg_imp {tg : Expr} {t t' : TG} (h : PG X tg t) (i : ∀ v σ H Q, t' v σ H Q → t v σ H Q) : PG X tg t' := fun pins s σ H v u Q I r w => h pins s σ H v u Q I r (i _ _ _ _ w)
theorem pgs_imp {tg : List Expr} {t t' : TGs} (h : PGs X tg t) (i : ∀ v σ H Q, t' v σ H Q → t v σ H Q) : PGs X tg t' := fun pins s σ H v u Q I r w => h pins s σ H v u Q I r (i _ _ _ _ w)
def gNm (i : Nat) : T3G := fun x δ Q => Q (δ.set i (.d x))
theorem g_name (i : Nat) {x : Str} (hN : X.N.Nodup) (hi : X.N[i]? = some x) (hx : Loc X.env.scope x) (hf : X.fn x = true ∨ X.env.scope.names.lookup x = some .local := by first | exact .inl rfl | exact .inr rfl | assumption) : G3 X (.Name x pos) (gNm i) :=
  ⟨fun F0 H0 B => pg_imp (pg_name hN hi hx hf) fun v σ H Q hh => ex4 hh fun δ F x P L r w q => q _ _ F H w (L.set r) (Same.refl _)⟩
def gNil3 : T3Gs := fun xs δ Q => match xs with
  | [] => Q δ
  | _ => False
def gCons3 (g : T3G) (gs : T3Gs) : T3Gs := fun xs δ Q => match xs with
  | x :: r => g x δ fun δ' => gs r δ' Q
  | [] => False
theorem gs_nil : Gs3 X [] gNil3 := ⟨fun F0 H0 B => pgs_imp pgs_nil fun vs σ H Q hh => ex4 hh fun δ F xs P L r w q => by
  cases r with
  | nil => exact ⟨rfl, q σ δ F H w L (Same.refl _)⟩
  | cons _ _ => exact w.elim⟩
theorem gs_cons {g : T3G} {gs : T3Gs} (h1 : G3 X e g) (h2 : Gs3 X es gs) (hs : (assignEach (e :: es) X.env).map (·.2) = assign e X.env :: (assignEach es X.env).map (·.2) := by rfl) : Gs3 X (e :: es) (gCons3 g gs) :=
  ⟨fun F0 H0 B => pgs_imp (pgs_cons (h1.h F0 H0 B) (h2.h F0 H0 B) hs) fun vs σ H Q hh => ex4 hh fun δ F xs P L r w q => by
    cases r with
    | nil => exact w.elim
    | cons r1 r2 => exact ⟨_, _, rfl, δ, F, _, _, L, r1, w, fun σ1 δ1 F1 H1 p1 L1 s1 => ⟨δ1, F1, _, _, L1, r2.same s1, p1, fun σ2 δ2 F2 H2 p2 L2 s2 => q σ2 δ2 F2 H2 p2 L2 (s1.trans s2)⟩⟩⟩
def gTu (n : Nat) (gs : T3Gs) : T3G := fun x δ Q => match x with
  | .tup xs => (match Nat.beq xs.length n with
    | true => gs xs δ Q
    | false => False)
  | _ => False
theorem g_tup {k : Nat} {gs : T3Gs} {n : Nat} (hc : X.calm = true) (h : Gs3 X es gs) (hn : (assignEach es X.env).length = n := by rfl) (hst : (assignEach es X.env).findIdx? (·.1) = none := by rfl) : G3 X (.Tuple es k pos) (gTu n gs) :=
  ⟨fun F0 H0 B => pg_imp (pg_tup hc (h.h F0 H0 B) hn hst) fun v σ H Q hh => ex4 hh fun δ F x P L r w q => by
    cases r with
    | tup hs rs =>
      unfold gTu at w
      dsimp only at w
      cases e : Nat.beq _ n with
      | false => rw [e] at w; exact w.elim
      | true =>
        rw [e] at w
        exact ⟨_, _, rfl, Fr.sqT_same L.fh hs, by rw [rs.len]; exact Nat.eq_of_beq_eq_true e, δ, F, _, P, L, rs, w, q⟩
    | _ => exact w.elim⟩
def tAs (t : T3D) (g : T3G) : T3S := fun Z En δ => t Z δ fun x δ' => g x δ' En.nx
theorem s_asg {tg : Expr} {t : T3D} {g : T3G} (he : D3 X E e t) (hg : G3 X tg g) (hs : swapsWithSole [tg] e pos.line X.env = pure false := by rfl) (hw : swappedStores [tg] e X.env = pure none := by rfl)
    (h1 : (assignEach [tg] X.env).map (·.2) = [assign tg X.env] := by rfl) : S3 X E (.Assign [tg] e pos) (tAs t g) :=
  ⟨fun F0 H0 B => ps_imp (ps_asg (he.h F0 H0 B) (hg.h F0 H0 B) hs hw h1) fun Dn σ H hh => ex4 hh fun δ F Z En L z w ok => ⟨δ, F, Z, _, L, z, w, fun x δ' v F' H' p L' s r =>
    ⟨δ', F', x, _, L', r, p, fun σ2 δ2 F2 H2 p2 L2 s2 => ok.nx σ2 δ2 F2 H2 p2 L2 (s.trans s2)⟩⟩⟩
def tPr (i j : Nat) (t : T3A) : T3S := fun Z En δ => t Z δ fun xs δ' => match xs with
  | [x, y] => En.nx ((δ'.set i (.d x)).set j (.d y))
  | _ => False
theorem s_par (i j : Nat) {x y : Str} {t : T3A} {px py pt : Pos} {kt k2 pt2} (hc : X.calm = true) (hN : X.N.Nodup) (hi : X.N[i]? = some x) (hj : X.N[j]? = some y) (hij : i ≠ j)
    (hx : X.env.scope.names.lookup x = some .local) (hy : X.env.scope.names.lookup y = some .local) (ha : A3 X E [a, b] t)
    (hw : swappedStores [.Tuple [.Name x px, .Name y py] kt pt] (.Tuple [a, b] k2 pt2) X.env = pure (some [x, y]) := by rfl)
    (hs : swapsWithSole [.Tuple [.Name x px, .Name y py] kt pt] (.Tuple [a, b] k2 pt2) pos.line X.env = pure false := by rfl) :
    S3 X E (.Assign [.Tuple [.Name x px, .Name y py] kt pt] (.Tuple [a, b] k2 pt2) pos) (tPr i j t) :=
  ⟨fun F0 H0 B => ps_imp (ps_par hc hN hi hj hij hx hy (ha.h F0 H0 B) hw hs) fun Dn σ H hh => ex4 hh fun δ F Z En L z w ok => ⟨δ, F, Z, _, L, z, w, fun xs δ' vs F' H' p L' s r => by
    cases r with
    | nil => exact p.elim
    | cons r1 r =>
      cases r with
      | nil => exact p.elim
      | cons r2 r =>
        cases r with
        | cons _ _ => exact p.elim
        | nil => exact ⟨_, _, rfl, ok.nx _ _ F' H' p ((L'.set r1).set r2) s⟩⟩⟩
/-! ### x += e of ints -/
def tAg (g : Int → Int → Int) (i : Nat) (t : T3D) : T3S := fun Z En δ => match δ[i]? with
  | some (.d (.int u)) => t Z δ fun y δ' => (match y with
    | .int v => En.nx (δ'.set i (.d (.int (g u v))))
    | _ => False)
  | _ => False
theorem s_aug (i : Nat) {x : Str} {op : Operator} {g : Int → Int → Int} {t : T3D} {pos' : Pos} (ho : PIp X op (ipI g)) (hN : X.N.Nodup) (hi : X.N[i]? = some x) (hx : Loc X.env.scope x) (he : D3 X E e t) (hf : X.fn x = true ∨ X.env.scope.names.lookup x = some .local := by first | exact .inl rfl | exact .inr rfl | assumption) :
    S3 X E (.AugAssign (.Name x pos') op e pos) (tAg g i t) :=
  ⟨fun F0 H0 B => ps_imp (ps_aug hN hi hx (he.h F0 H0 B) ho hf) fun Dn σ H hh => ex4 hh fun δ F Z En L z w ok => by
    unfold tAg at w
    cases e0 : δ[i]? with
    | none => rw [e0] at w; exact w.elim
    | some s =>
      rw [e0] at w
      have q := L.sl i s e0
      cases s with
      | d y =>
        cases y with
        | int u =>
          obtain ⟨v, e1, r⟩ := q
          cases r
          exact ⟨_, e1, δ, F, Z, _, L, z, w, fun x δ' v F' H' p L' s r => by
            cases r with
            | int j => exact ⟨_, _, rfl, rfl, ok.nx _ _ F' H' p (L'.set (.int _)) s⟩
            | _ => exact p.elim⟩
        | _ => exact w.elim
      | _ => exact w.elim⟩

/-! ### for -/
abbrev T3I := Zk → List Sl → (List D → List Sl → Prop) → Prop
structure ItOk (K : PySem.W.Frag) (F1 : Hp) (J : It) (xs : List D) : Prop where
  go : ∀ i F H, Same F1 F → Same F H → i < xs.length → J.go i H
  yld : ∀ i F H x H', Same F1 F → Same F H → i < xs.length → J.yld i H x H' → ∃ F' d, Same F F' ∧ Same F' H' ∧ Same H H' ∧ (∀ a, H a ≠ none → F' a = F a) ∧ xs[i]? = some d ∧ Rp K F' x d
  stop : ∀ F H, Same F1 F → Same F H → J.stop xs.length H
def LI (K : PySem.W.Frag) (E : XK) (F0 H0 : Hp) (B : Option Addr) (t : T3I) : TI := fun σ H R => ∃ δ F Z P, Lk K F0 H0 B σ δ F H ∧ ZOk K E F0 H0 B Z ∧ t Z δ P ∧ ∀ xs δ' F' H' J, P xs δ' → Lk K F0 H0 B σ δ' F' H' → Same F F' → ItOk K F' J xs → R J H'
structure I3 (X : Cx) (E : XK) (tg iter : Expr) (t : T3I) : Prop where
  h : ∀ F0 H0 B, PI X tg iter (LI X.K E F0 H0 B t)
theorem pi_imp {tg iter : Expr} {t t' : TI} (h : PI X tg iter t) (i : ∀ σ H R, t' σ H R → t σ H R) : PI X tg iter t' := fun pins s σ H R I w => h pins s σ H R I (i _ _ _ w)
def forL (g : T3G) (tb : T3S) (Z : Zk) (En : En) : List D → List Sl → Prop
  | [], δ => En.nx δ
  | x :: xs, δ => g x δ fun δ1 => tb Z { nx := fun δ2 => forL g tb Z En xs δ2, ct := fun δ2 => forL g tb Z En xs δ2, bk := En.nx, rt := En.rt } δ1
def tFr (ti : T3I) (g : T3G) (tb : T3S) : T3S := fun Z En δ => ti Z δ fun xs δ' => forL g tb Z En xs δ'
theorem s_for {tg iter : Expr} {body : List Stmt} {ti : T3I} {g : T3G} {tb : T3S} (hp : PassesOwn (model X.prog X.w) X.A X.env X.xe) (hc : X.calm = true) (hi : I3 X E tg iter ti) (hg : G3 X tg g) (hb : B3 X E body tb)
    (hs : ∀ x, foldedSetIterable iter X.env x = pure x := by intro _; rfl) : S3 X E (.For tg iter body [] pos) (tFr ti g tb) :=
  ⟨fun F0 H0 B => ps_imp (ps_for hp hc (hi.h F0 H0 B) (hg.h F0 H0 B) (hb.h F0 H0 B) hs) fun Dn σ H hh => ex4 hh fun δ F Z En L z w ok => by
    refine ⟨δ, F, Z, _, L, z, w, fun xs δ1 F1 H1 J p1 L1 s1 it => ?_⟩
    refine ⟨fun i m σ H => m = xs.length - i ∧ i ≤ xs.length ∧ ∃ δ F, Lk X.K F0 H0 B σ δ F H ∧ Same F1 F ∧ forL g tb Z En (xs.drop i) δ, ⟨xs.length, by simp, Nat.zero_le _, δ1, F1, L1, Same.refl _, p1⟩, ?_⟩
    rintro i m σ2 H2 ⟨rfl, hi2, δ2, F2, L2, s2, p2⟩
    by_cases lt : i < xs.length
    · refine .inr ⟨it.go i F2 H2 s2 L2.fh lt, fun σ' H' => ∃ δ' F', Lk X.K F0 H0 B σ' δ' F' H' ∧ Same F1 F' ∧ forL g tb Z En (xs.drop (i + 1)) δ', ?_, fun x H3 y => ?_⟩
      · rintro σ' H' ⟨δ', F', L', s', p'⟩
        exact ⟨xs.length - (i + 1), by omega, rfl, lt, δ', F', L', s', p'⟩
      · obtain ⟨F3, d, a1, a2, a3, a4, a5, a6⟩ := it.yld i F2 H2 x H3 s2 L2.fh lt y
        have L3 := L2.grow a1 a2 a3 a4
        have ed : xs.drop i = d :: xs.drop (i + 1) := by
          rw [List.drop_eq_getElem_cons lt]
          rw [(List.getElem?_eq_some_iff.mp a5).2]
        rw [ed] at p2
        refine ⟨δ2, F3, d, _, L3, a6, p2, fun σ4 δ4 F4 H4 p4 L4 s4 => ⟨δ4, F4, Z, _, L4, z, p4, ?_⟩⟩
        have sf : Same F F4 := s1.trans (s2.trans (a1.trans s4))
        have s14 : Same F1 F4 := s2.trans (a1.trans s4)
        exact ⟨fun σ5 δ5 F5 H5 p5 L5 s5 => ⟨δ5, F5, L5, s14.trans s5, p5⟩, (ok.up sf).rt, (ok.up sf).nx, fun σ5 δ5 F5 H5 p5 L5 s5 => ⟨δ5, F5, L5, s14.trans s5, p5⟩⟩
    · have e : i = xs.length := by omega
      subst e
      rw [List.drop_length] at p2
      exact .inl ⟨it.stop F2 H2 s2 L2.fh, ok.nx _ _ _ _ p2 L2 (s1.trans s2)⟩⟩
/-! what is walked -/
def tIL (t : T3D) : T3I := fun Z δ Q => t Z δ fun x δ' => match x with
  | .lst xs => Q xs δ'
  | _ => False
theorem i_list {tg : Expr} {t : T3D} (h : D3 X E e t) : I3 X E tg e (tIL t) :=
  ⟨fun F0 H0 B => pi_imp (pi_list (h.h F0 H0 B)) fun σ H R hh => ex4 hh fun δ F Z P L z w q => ⟨δ, F, Z, _, L, z, w, fun x δ' v F' H' p L' s r => by
    cases x with
    | lst xs =>
      obtain ⟨a, us, rfl, hs, rs⟩ := r.inv_lst
      have hs' : ∀ {H2 : Hp}, Same F' H2 → SqL X.K H2 _ _ := fun s2 => SqL.of (s2 _ _ hs)
      refine ⟨_, rfl, ⟨_, hs' L'.fh⟩, q _ δ' F' H' _ p L' s ⟨fun i F2 H2 a1 a2 lt => ?_, fun i F2 H2 y H3 a1 a2 lt yy => ?_, fun F2 H2 a1 a2 => ⟨_, hs' (a1.trans a2), by rw [rs.len]; exact Nat.le_refl _⟩⟩⟩
      · obtain ⟨v, hv, _⟩ := rs.at (List.getElem?_eq_getElem lt)
        exact ⟨_, v, hs' (a1.trans a2), hv⟩
      · obtain ⟨rfl, y2⟩ := yy
        have hv := y2 _ (hs' (a1.trans a2))
        obtain ⟨d, e1, r1⟩ := rs.at' hv
        exact ⟨F2, d, Same.refl _, a2, Same.refl _, fun _ _ => rfl, e1, r1.same a1⟩
    | _ => exact p.elim⟩⟩
def tIT (t : T3D) : T3I := fun Z δ Q => t Z δ fun x δ' => match x with
  | .tup xs => Q xs δ'
  | _ => False
theorem i_tup {tg : Expr} {t : T3D} (h : D3 X E e t) : I3 X E tg e (tIT t) :=
  ⟨fun F0 H0 B => pi_imp (pi_tup (h.h F0 H0 B)) fun σ H R hh => ex4 hh fun δ F Z P L z w q => ⟨δ, F, Z, _, L, z, w, fun x δ' v F' H' p L' s r => by
    cases x with
    | tup xs =>
      obtain ⟨a, us, rfl, hs, rs⟩ := r.inv_tup
      refine ⟨_, rfl, ⟨_, Fr.sqT_same L'.fh hs⟩, q _ δ' F' H' _ p L' s ⟨fun i F2 H2 a1 a2 lt => ?_, fun i F2 H2 y H3 a1 a2 lt yy => ?_, fun F2 H2 a1 a2 => ⟨_, Fr.sqT_same (a1.trans a2) hs, by rw [rs.len]; exact Nat.le_refl _⟩⟩⟩
      · obtain ⟨v, hv, _⟩ := rs.at (List.getElem?_eq_getElem lt)
        exact ⟨_, v, Fr.sqT_same (a1.trans a2) hs, hv⟩
      · obtain ⟨rfl, y2⟩ := yy
        have hv := y2 _ (Fr.sqT_same (a1.trans a2) hs)
        obtain ⟨d, e1, r1⟩ := rs.at' hv
        exact ⟨F2, d, Same.refl _, a2, Same.refl _, fun _ _ => rfl, e1, r1.same a1⟩
    | _ => exact p.elim⟩⟩
/-- lo, lo + 1, .. -/
def rngD (lo : Int) (n : Nat) : List D := (List.range n).map fun k : Nat => D.int (lo + (k : Int))
theorem rngD_len (lo : Int) (n : Nat) : (rngD lo n).length = n := by simp [rngD]
theorem rngD_at {lo : Int} {n i : Nat} (h : i < n) : (rngD lo n)[i]? = some (.int (lo + (i : Int))) := by simp [rngD, h]
theorem it_range {K : PySem.W.Frag} {F : Hp} {lo : Int} {n : Nat} : ItOk K F (Itr lo n) (rngD lo n) :=
  ⟨fun i F2 H2 _ _ lt => by rw [rngD_len] at lt; exact lt, fun i F2 H2 y H3 a1 a2 lt yy => by
    rw [rngD_len] at lt
    obtain ⟨rfl, rfl⟩ := yy
    exact ⟨F2, _, Same.refl _, a2, Same.refl _, fun _ _ => rfl, rngD_at lt, .int _⟩, fun F2 H2 _ _ => by rw [rngD_len]; exact Nat.le_refl _⟩
/-- a number that a range takes -/
def InR (i : Int) : Prop := -(2 ^ 62) ≤ i ∧ i < 2 ^ 62
def tIR1 (t : T3A) : T3I := fun Z δ Q => t Z δ fun xs δ' => match xs with
  | [.int j] => InR j ∧ Q (rngD 0 j.toNat) δ'
  | _ => False
def tIR2 (t : T3A) : T3I := fun Z δ Q => t Z δ fun xs δ' => match xs with
  | [.int i, .int j] => (InR i ∧ InR j) ∧ Q (rngD i (j - i).toNat) δ'
  | _ => False
theorem i_range1 {tg : Expr} {t : T3A} {p : Pos} (hg : Gl X "range") (hm : X.mg "range" = none) (ha : A3 X E [a] t) (hs : starEach [a] X.env = [(false, eval a X.env)] := by rfl) : I3 X E tg (.Call (.Name "range" p) [a] [] pos) (tIR1 t) :=
  ⟨fun F0 H0 B => pi_imp (pi_range1 hg hm (ha.h F0 H0 B) hs) fun σ H R hh => ex4 hh fun δ F Z P L z w q => ⟨δ, F, Z, _, L, z, w, fun xs δ' vs F' H' p L' s r => by
    obtain ⟨j, rfl, k⟩ := m1I p
    obtain ⟨v, rfl, r0⟩ := r.inv1
    exact ⟨j, by rw [r0.inv_int], k.1.1, k.1.2, q _ δ' F' H' _ k.2 L' s it_range⟩⟩⟩
theorem i_range2 {tg : Expr} {t : T3A} {p : Pos} (hg : Gl X "range") (hm : X.mg "range" = none) (ha : A3 X E [a, b] t) (hs : starEach [a, b] X.env = [(false, eval a X.env), (false, eval b X.env)] := by rfl) (hs2 : starEach [b] X.env = [(false, eval b X.env)] := by rfl) : I3 X E tg (.Call (.Name "range" p) [a, b] [] pos) (tIR2 t) :=
  ⟨fun F0 H0 B => pi_imp (pi_range2 hg hm (ha.h F0 H0 B) hs hs2) fun σ H R hh => ex4 hh fun δ F Z P L z w q => ⟨δ, F, Z, _, L, z, w, fun xs δ' vs F' H' p L' s r => by
    obtain ⟨i, j, rfl, k⟩ := m2I p
    obtain ⟨v, u, rfl, r1, r2⟩ := r.inv2
    exact ⟨i, j, by rw [r1.inv_int, r2.inv_int], ⟨k.1.1.1, k.1.1.2, k.1.2.1, k.1.2.2⟩, q _ δ' F' H' _ k.2 L' s it_range⟩⟩⟩
end
end L3

set_option Elab.async false
set_option linter.all false
set_option maxRecDepth 100000
/-! What a def owns is changed; new lists. -/
namespace L3
open PySem PySem.Spec L2
section
variable {K : PySem.W.Frag} {F0 H0 F H F' H' : Hp} {B : Option Addr} {σ : St} {δ : List Sl}
/-- the object that a name owns or was lent -/
def Sl.ob : Sl → Option Ob
  | .own o => some o
  | .bor o => some o
  | _ => none
def Sl.put (s : Sl) (o : Ob) : Sl := match s with
  | .own _ => .own o
  | .bor _ => .bor o
  | x => x
theorem Lk.ob {i : Nat} {s : Sl} {o : Ob} (L : Lk K F0 H0 B σ δ F H) (e : δ[i]? = some s) (h : s.ob = some o) : ∃ a, σ[i]? = some (some (.ref a)) ∧ F a = none ∧ OwnOk K F H a o := by
  have q := L.sl i s e
  cases s with
  | own o' => cases h; obtain ⟨a, e1, f, _, w⟩ := q; exact ⟨a, e1, f, w⟩
  | bor o' => cases h; obtain ⟨a, e1, _, f, w⟩ := q; exact ⟨a, e1, f, w⟩
  | un => cases h
  | d x => cases h
theorem Lk.mutS {i : Nat} {s : Sl} {o o' : Ob} {a : Addr} {ho : HO} (L : Lk K F0 H0 B σ δ F H) (e : δ[i]? = some s) (h : s.ob = some o) (ea : σ[i]? = some (some (.ref a))) (w : OwnOk K F (upd H a ho) a o') :
    Lk K F0 H0 B σ (δ.set i (s.put o')) F (upd H a ho) := by
  cases s with
  | own o1 => exact L.mut e ea w
  | bor o1 => exact L.mutB e ea w
  | un => cases h
  | d x => cases h
def go (δ : List Sl) (i : Nat) : Option Ob := match δ[i]? with
  | some s => s.ob
  | none => none
def upS (f : Sl → Sl) : List Sl → Nat → List Sl
  | [], _ => []
  | s :: l, 0 => f s :: l
  | s :: l, n + 1 => s :: upS f l n
def pt (δ : List Sl) (i : Nat) (o : Ob) : List Sl := upS (fun s => s.put o) δ i
def upM (f : Sl → Sl) (δ : List Sl) (i : Nat) : List Sl := match δ[i]? with
  | some s => δ.set i (f s)
  | none => δ
theorem upS_eq (f : Sl → Sl) : ∀ (δ : List Sl) (i : Nat), upS f δ i = upM f δ i
  | [], _ => rfl
  | s :: l, 0 => rfl
  | s :: l, n + 1 => by
    show s :: upS f l n = _
    rw [upS_eq f l n]
    unfold upM
    rw [List.getElem?_cons_succ]
    cases l[n]? <;> rfl
theorem pt_eq (δ : List Sl) (i : Nat) (o : Ob) : pt δ i o = match δ[i]? with
  | some s => δ.set i (s.put o)
  | none => δ := upS_eq _ δ i
theorem Lk.go {i : Nat} {o : Ob} (L : Lk K F0 H0 B σ δ F H) (e : go δ i = some o) : ∃ a, σ[i]? = some (some (.ref a)) ∧ F a = none ∧ OwnOk K F H a o ∧
    ∀ o' ho, OwnOk K F (upd H a ho) a o' → Lk K F0 H0 B σ (pt δ i o') F (upd H a ho) := by
  unfold L3.go at e
  cases q : δ[i]? with
  | none => rw [q] at e; cases e
  | some s =>
    rw [q] at e
    obtain ⟨a, e1, f, w⟩ := L.ob q e
    refine ⟨a, e1, f, w, fun o' ho w' => ?_⟩
    rw [pt_eq]
    rw [q]
    exact L.mutS q e e1 w'
end
section
variable {X : Cx} {E : XK} {e a b c o : Expr} {es : List Expr} {pos : Pos}
/-- xs.append(e) -/
def tAp (i : Nat) (t : T3D) : T3S := fun Z En δ => match go δ i with
  | some (.lst _) => t Z δ fun x δ' => (match go δ' i with
    | some (.lst xs) => xs.length ≤ 1000000 ∧ En.nx (pt δ' i (.lst (xs ++ [x])))
    | _ => False)
  | _ => False
theorem s_append (i : Nat) {x : Str} {p apos cpos : Pos} {t : T3D} (he : D3 X E e t) (hN : X.N[i]? = some x := by rfl) (hv : Vis X.env.scope x := by first | exact Or.inl rfl | exact Or.inr (Or.inl rfl) | exact Or.inr (Or.inr rfl))
    (hd : (x == ("__debug__" : Str)) = false := by decide) (hcd : (x == ("__classdict__" : Str)) = false := by decide) (hs : starEach [e] X.env = (false, eval e X.env) :: starEach [] X.env := by rfl)
    (hsw : swapsWith (.Call (.Attribute (.Name x p) "append" apos) [e] [] cpos) none pos.line X.env = pure false := by rfl)
    (hfew : ((backTo cpos (starEach [e] X.env)).all (fun x => !x.1) && (backToKw cpos (keywordEach [] X.env)).all (fun x => x.1.isSome)
      && decide ([e].length + ([] : List Keyword).length + (if ([] : List Keyword).isEmpty then 0 else 1) < 30)) = true := by rfl) (hline : (apos.endLine == cpos.line) = true := by rfl) :
    S3 X E (.Expr (.Call (.Attribute (.Name x p) "append" apos) [e] [] cpos) pos) (tAp i t) :=
  ⟨fun F0 H0 B => ps_imp (ps_expr (pe_bm PySem.F.plainAttrs_list PySem.F.slot_list_append PySem.F.type_list_append mt_append (pe_var (pos := p) hN hv hd hcd) (pa_cons (he.h F0 H0 B) pa_nil hs) rfl hfew hline hs rfl) hsw) fun Dn σ H hh => ex4 hh fun δ F Z En L z w ok => by
    unfold tAp at w
    cases e0 : L3.go δ i with
    | none => rw [e0] at w; exact w.elim
    | some ob =>
      rw [e0] at w
      cases ob with
      | lst xs0 =>
        obtain ⟨a, e1, f1, ⟨vs0, h1, r1⟩, _⟩ := L.go e0
        refine ⟨_, e1, .inl ⟨rfl, _, SqL.of h1⟩, δ, F, Z, _, L, z, w, fun y δ' v F' H' p' L' s r => ?_⟩
        cases e2 : L3.go δ' i with
        | none => rw [e2] at p'; exact p'.elim
        | some ob2 =>
          rw [e2] at p'
          cases ob2 with
          | lst xs =>
            obtain ⟨a', e3, f3, ⟨vs, h3, r3⟩, up⟩ := L'.go e2
            rw [e1] at e3
            cases e3
            refine ⟨_, _, _, rfl, rfl, h3, by rw [r3.len]; exact line_big p'.1, ?_⟩
            exact ok.nx _ _ F' _ p'.2 (up _ _ ⟨_, upd_same, r3.append (.one r)⟩) s
          | _ => exact p'.elim
      | _ => exact w.elim⟩
/-! ### new lists -/
/-- an operation that makes a new list -/
def N2 (K : PySem.W.Frag) (r : R2) (r3 : D → D → (List D → Prop) → Prop) : Prop := ∀ F H x y v u (Q : VK) (P : List D → Prop), Same F H → Rp K F v x → Rp K F u y → r3 x y P →
  (∀ ys vs p, P ys → Rps K F vs ys → H p = none → Q (.ref p) (upd H p (.lst vs))) → r v u H Q
theorem Rps.repl {K : PySem.W.Frag} {F : Hp} {vs : List V} {xs : List D} (r : Rps K F vs xs) : ∀ n : Nat, Rps K F (List.replicate n vs).flatten (List.replicate n xs).flatten
  | 0 => .nil
  | n + 1 => r.append (Rps.repl r n)
/-- list(..) -/
def tCN (r3 : List D → (List D → Prop) → Prop) (t : T3A) : T3E := fun Z δ Q => t Z δ fun xs δ' => r3 xs fun ys => Q (.own (.lst ys)) δ'
def NC (K : PySem.W.Frag) (r : List V → Hp → VK → Prop) (r3 : List D → (List D → Prop) → Prop) : Prop := ∀ F H xs vs (Q : VK) (P : List D → Prop), Same F H → Rps K F vs xs → r3 xs P →
  (∀ ys us p, P ys → Rps K F us ys → H p = none → Q (.ref p) (upd H p (.lst us))) → r vs H Q
theorem lo_cn {K : PySem.W.Frag} {F0 H0 : Hp} {B : Option Addr} {t : T3A} {r : List V → Hp → VK → Prop} {r3 : List D → (List D → Prop) → Prop} (rel : NC K r r3) {σ : St} {H : Hp} {Q : VK} (h : LE K E F0 H0 B (tCN r3 t) σ H Q) : tCB r (LA K E F0 H0 B t) σ H Q := by
  obtain ⟨δ, F, Z, P, L, z, w, q⟩ := h
  refine ⟨δ, F, Z, _, L, z, w, fun xs δ' vs F' H' p L' s rs => rel F' H' xs vs Q _ L'.fh rs p fun ys us a py ru ha => ?_⟩
  obtain ⟨L3, k3⟩ := L'.newO (ho := .lst us) ha (o := .lst ys) ⟨us, upd_same, ru⟩
  exact q _ δ' _ _ _ py L3 s k3
theorem e_callTyN {x : Str} {p : Pos} {id : String} {r : List V → Hp → VK → Prop} {r3 : List D → (List D → Prop) → Prop} {t : T3A} (hc : CallR X (.type id) r) (rel : NC X.K r r3) (hg : Gl X x) (hm : X.mg x = none) (hv : bootBuiltins x = some (.type id)) (ha : A3 X E (e :: es) t) (hn : x ≠ "__name__" := by decide) (hdb : (x == ("__debug__" : Str)) = false := by decide)
    (he : starEach (e :: es) X.env = (false, eval e X.env) :: starEach es X.env := by rfl) (hpl : (backTo pos (starEach es X.env)).any (·.1) = false := by rfl) : E3 X E (.Call (.Name x p) (e :: es) [] pos) (tCN r3 t) :=
  ⟨fun F0 H0 B => pe_imp (pe_callTy hc hg hm hv (ha.h F0 H0 B) hn hdb he hpl) fun _ _ _ h => lo_cn rel h⟩
def nList : List D → (List D → Prop) → Prop := fun xs P => match xs with
  | [.lst ys] => P ys
  | [.tup ys] => P ys
  | _ => False
theorem n_list {K : PySem.W.Frag} : NC K (fun xs H Q => ∃ p ys, xs = [.ref p] ∧ (SqL K H p ys ∨ SqT K H p ys) ∧ ∀ l, H l = none → Q (.ref l) (upd H l (.lst ys))) nList := by
  intro F H xs vs Q P fh rs h q
  cases rs with
  | nil => exact h.elim
  | cons r rs =>
    cases rs with
    | cons r2 rs => cases r <;> exact h.elim
    | nil =>
      cases r with
      | lst hs rr => exact ⟨_, _, rfl, .inl (SqL.of (fh _ _ hs)), fun l hl => q _ _ l h rr hl⟩
      | tup hs rr => exact ⟨_, _, rfl, .inr (Fr.sqT_same fh hs), fun l hl => q _ _ l h rr hl⟩
      | _ => exact h.elim
/-- xs[lo:hi] -/
abbrev T3O := Zk → List Sl → (Option Int → List Sl → Prop) → Prop
def LO (K : PySem.W.Frag) (E : XK) (F0 H0 : Hp) (B : Option Addr) (t : T3O) : TO := fun σ H Q => ∃ δ F Z P, Lk K F0 H0 B σ δ F H ∧ ZOk K E F0 H0 B Z ∧ t Z δ P ∧ ∀ b δ' F' H', P b δ' → Lk K F0 H0 B σ δ' F' H' → Same F F' → Q b H'
structure O3 (X : Cx) (E : XK) (e : Option Expr) (t : T3O) : Prop where
  h : ∀ F0 H0 B, PO X e (LO X.K E F0 H0 B t)
end
end L3

set_option Elab.async false
set_option linter.all false
set_option maxRecDepth 100000
/-! Defs and calls over data. -/
namespace L3
open PySem PySem.Spec L2
/-- a def's promise over data: the slots of its parameters; what comes back and what the lent object is then; what is raised -/
abbrev Sp3 := List Sl → (Rv → Option Ob → Prop) → (Addr → Option Ob → Prop) → Prop
def borOf : List Sl → Option Ob
  | [] => none
  | .bor o :: _ => some o
  | _ :: l => borOf l
structure Fin (K : PySem.W.Frag) (F0 H0 : Hp) (B : Option Addr) (F H : Hp) (ob : Option Ob) : Prop where
  fh : Same F H
  f0 : Same F0 F
  h0 : ∀ a o, H0 a = some o → B ≠ some a → H a = some o
  ff : ∀ a, H0 a ≠ none → F a = F0 a
  bt : ∀ b, B = some b → H b ≠ none
  ob : ∀ o, ob = some o → ∃ a, B = some a ∧ F a = none ∧ OwnOk K F H a o
def Rk (K : PySem.W.Frag) (H0 F H : Hp) (r : Rv) (v : V) : Prop :=
  match r with
  | .d x => Rp K F v x
  | .own o => ∃ a, v = .ref a ∧ F a = none ∧ H0 a = none ∧ OwnOk K F H a o
def lsp (K : PySem.W.Frag) (sp : Sp3) : Sp := fun vs H Q E => ∃ F B δ P Zx, Lk K F H B (vs.map some) δ F H ∧ sp δ P Zx ∧ (∀ r ob v F' H', P r ob → Fin K F H B F' H' ob → Rk K H F' H' r v → Q v H') ∧ (∀ C ob F' H', Zx C ob → Fin K F H B F' H' ob → E (.ref C) none H')
theorem borOf_some : ∀ {δ : List Sl} {o : Ob}, borOf δ = some o → ∃ i : Nat, δ[i]? = some (.bor o)
  | [], _, h => by cases h
  | .bor o :: _, _, h => by cases h; exact ⟨0, rfl⟩
  | .un :: l, _, h => by obtain ⟨i, e⟩ := borOf_some (δ := l) h; exact ⟨i + 1, by simpa using e⟩
  | .d _ :: l, _, h => by obtain ⟨i, e⟩ := borOf_some (δ := l) h; exact ⟨i + 1, by simpa using e⟩
  | .own _ :: l, _, h => by obtain ⟨i, e⟩ := borOf_some (δ := l) h; exact ⟨i + 1, by simpa using e⟩
theorem Lk.fin {K : PySem.W.Frag} {F0 H0 F H : Hp} {B : Option Addr} {σ : St} {δ : List Sl} (L : Lk K F0 H0 B σ δ F H) : Fin K F0 H0 B F H (borOf δ) :=
  ⟨L.fh, L.f0, L.h0, L.ff, fun b e => (L.bt b e).2, fun o e => by
    obtain ⟨i, ei⟩ := borOf_some e
    obtain ⟨a, _, hB, f, w⟩ := L.sl i _ ei
    exact ⟨a, hB, f, w⟩⟩
theorem Rok.rk {K : PySem.W.Frag} {H0 F H : Hp} {σ : St} {δ : List Sl} {r : Rv} {v : V} (k : Rok K H0 F H σ δ r v) : Rk K H0 F H r v := by
  cases r with
  | d x => exact k
  | own o => obtain ⟨a, e, f, h, w, _⟩ := k; exact ⟨a, e, f, h, w⟩
theorem Lk.entry {K : PySem.W.Frag} {F H : Hp} {B : Option Addr} {vs : List V} {δ : List Sl} {N : List Str} (L : Lk K F H B (vs.map some) δ F H) : Lk K F H B (L2.start N vs) (δ ++ List.replicate (N.length - vs.length) .un) F H := by
  have len : δ.length = vs.length := by rw [L.len, List.length_map]
  have at' : ∀ (i : Nat) (s : Sl), (δ ++ List.replicate (N.length - vs.length) .un)[i]? = some s → s = .un ∨ (δ[i]? = some s ∧ (L2.start N vs)[i]? = (vs.map some)[i]?) := fun i s e => by
    by_cases h : i < δ.length
    · rw [List.getElem?_append_left h] at e
      refine .inr ⟨e, ?_⟩
      unfold L2.start
      rw [List.getElem?_append_left (by rw [List.length_map]; omega)]
    · rw [List.getElem?_append_right (by omega), List.getElem?_replicate] at e
      split at e
      · cases e; exact .inl rfl
      · cases e
  refine ⟨L.fh, L.f0, L.h0, L.ff, L.bt, by unfold L2.start; simp [len], fun i s e => ?_, fun i j o o' e1 e2 e3 => ?_, fun i j o o' e1 e2 => ?_, L.tb⟩
  · rcases at' i s e with rfl | ⟨e1, e2⟩
    · trivial
    · rw [e2]; exact L.sl i s e1
  · rcases at' i _ e1 with z | ⟨a1, a2⟩
    · cases z
    · rcases at' j _ e2 with z | ⟨b1, b2⟩
      · cases z
      · rw [a2, b2] at e3; exact L.ne i j o o' a1 b1 e3
  · rcases at' i _ e1 with z | ⟨a1, a2⟩
    · cases z
    · rcases at' j _ e2 with z | ⟨b1, b2⟩
      · cases z
      · exact L.nb i j o o' a1 b1
/-- THE RULE for a def -/
theorem ok3 {P : Program} {w : World} {K : PySem.W.Frag} {mg : Str → Option Value} {base : Heap} {x qual : Str} {st : Stmt} {f : Addr} {fd : FuncData} {N ps : List Str} {k : Nat} {sp : Sp3} (F : Fun K x qual st f fd) (S : FnScope N ps (defScope st))
    (len : ∀ δ Q Z, sp δ Q Z → δ.length = ps.length)
    (hbody : ∀ (cdv : Value) (A : Around) (outer : List Env) (s : Shared) (H : Hp) (E : XK), Room k (A.deeper (PyProof.Rows.envOfC qual (defScope st) s.heap.objs.size f cdv)) →
      ∃ t, B3 (cxOf (Fr.CX1 P w) P w K mg base N qual (defScope st) f cdv A outer s H E) E (defBody st) t ∧
        ∀ δ Q Z, sp δ Q Z → t (fun C δ' => Z C (borOf δ')) { nx := fun δ' => Q (.d .non) (borOf δ'), rt := fun r δ' => Q r (borOf δ') } (δ ++ List.replicate (N.length - ps.length) .un)) :
    FnOk P w K mg base (Fr.CX1 P w) (k + 1) f fd ps (lsp K sp) := by
  have len2 : ∀ vs H Q E, lsp K sp vs H Q E → vs.length = ps.length := fun vs H Q E ⟨F, B, δ, P', Zx, L, h, _⟩ => by
    have := L.len
    rw [List.length_map] at this
    rw [← this]
    exact len δ _ _ h
  refine Fr.ok1 F S len2 fun cdv A outer s H vs Q E hr h => ?_
  have hl := len2 vs H Q E h
  obtain ⟨t, hb, run⟩ := hbody cdv A outer s H E hr
  obtain ⟨F', B, δ, P', Zx, L, h, q, qe⟩ := h
  refine ⟨_, hb.h F' H B, _, F', (fun C δ' => Zx C (borOf δ')), { nx := fun δ' => P' (.d .non) (borOf δ'), rt := fun r δ' => P' r (borOf δ') }, L.entry (N := N), ?_, ?_⟩
  · exact fun C σ' δ' F2 H2 L2 z => qe C _ F2 H2 z L2.fin
  · refine ⟨by rw [hl]; exact run δ P' Zx h, ⟨fun σ' δ' F2 H2 p L2 _ => q _ _ _ F2 H2 p L2.fin Rp.non, fun r v σ' δ' F2 H2 p L2 _ k => q _ _ _ F2 H2 p L2.fin k.rk, fun _ _ _ _ z => z.elim, fun _ _ _ _ z => z.elim⟩⟩

/-- the slots of a call's arguments that are data -/
theorem Lk.args {K : PySem.W.Frag} {F H : Hp} (tb : Tb K F) (fh : Same F H) {vs : List V} {xs : List D} (r : Rps K F vs xs) : Lk K F H none (vs.map some) (xs.map Sl.d) F H := by
  refine ⟨fh, Same.refl _, fun _ _ e _ => e, fun _ _ => rfl, fun _ e => (by cases e), by simp [r.len], fun i s e => ?_, fun i j o o' e1 _ _ => ?_, fun i j o o' e1 _ => ?_, tb⟩
  · rw [List.getElem?_map] at e
    cases q : xs[i]? with
    | none => rw [q] at e; cases e
    | some x =>
      rw [q] at e
      cases e
      obtain ⟨v, hv, rv⟩ := r.at q
      exact ⟨v, by rw [List.getElem?_map, hv]; rfl, rv⟩
  · rw [List.getElem?_map] at e1
    cases q : xs[i]? with
    | none => rw [q] at e1; cases e1
    | some x => rw [q] at e1; cases e1
  · rw [List.getElem?_map] at e1
    cases q : xs[i]? with
    | none => rw [q] at e1; cases e1
    | some x => rw [q] at e1; cases e1
/-- behind a call that was lent nothing -/
theorem Lk.after {K : PySem.W.Frag} {F0 H0 F H F2 H2 : Hp} {B : Option Addr} {σ : St} {δ : List Sl} {ob : Option Ob} (L : Lk K F0 H0 B σ δ F H) (f : Fin K F H none F2 H2 ob) : Lk K F0 H0 B σ δ F2 H2 :=
  L.grow f.f0 f.fh (fun a o e => f.h0 a o e fun z => by cases z) f.ff
theorem Lk.rok {K : PySem.W.Frag} {F0 H0 F H F2 H2 : Hp} {B : Option Addr} {σ : St} {δ : List Sl} {r : Rv} {v : V} (L : Lk K F0 H0 B σ δ F H) (k : Rk K H F2 H2 r v) : Rok K H0 F2 H2 σ δ r v := by
  cases r with
  | d x => exact k
  | own o =>
    obtain ⟨a, e, f, h, w⟩ := k
    refine ⟨a, e, f, (L.fr0 h).1, w, fun i o' ei z => ?_⟩
    obtain ⟨a', e1, _, _, w'⟩ := L.sl i _ ei
    rw [z] at e1
    cases e1
    obtain ⟨ho, eh⟩ := w'.there
    rw [h] at eh
    cases eh
section
variable {X : Cx} {E : XK} {e a b c o : Expr} {es : List Expr} {pos p : Pos}
/-- a def of the text, over data -/
abbrev Own3 (P : Program) (w : World) (K : PySem.W.Frag) (mg : Str → Option Value) (base : Heap) (k : Nat) (x : Str) (ps : List Str) (sp : Sp3) : Prop := Fr.Own1 P w K mg base k x ps (lsp K sp)
def tCl (sp : Sp3) (t : T3A) : T3E := fun Z δ Q => t Z δ fun xs δ' => sp (xs.map Sl.d) (fun r _ => Q r δ') (fun C _ => Z C δ')
theorem e_call {x : Str} {k : Nat} {ps : List Str} {sp : Sp3} {t : T3A} (O : Own3 X.prog X.w X.K X.mg X.base k x ps sp) (hx : Passes (Fr.CX1 X.prog X.w) X E) (hr : Room k X.A) (hg : Gl X x) (ha : A3 X E (e :: es) t) (hdb : (x == ("__debug__" : Str)) = false := by decide)
    (he : starEach (e :: es) X.env = (false, eval e X.env) :: starEach es X.env := by rfl) (hpl : (backTo pos (starEach es X.env)).any (·.1) = false := by rfl) : E3 X E (.Call (.Name x p) (e :: es) [] pos) (tCl sp t) :=
  ⟨fun F0 H0 B => by
    obtain ⟨f, fd, FF, hm, hk, hb⟩ := O
    refine pe_imp (pe_call (E := E) FF hr hg hm hk hb .nil hx (ha.h F0 H0 B) hdb he hpl) fun σ H Q hh => ex4 hh fun δ F Z P L z w q => ⟨δ, F, Z, _, L, z, w, fun xs δ' vs F' H' p L' s r => ?_⟩
    show lsp X.K sp (vs ++ []) H' Q E
    rw [List.append_nil]
    exact ⟨F', none, _, _, _, Lk.args L'.tbF L'.fh r, p, fun rr ob v F2 H2 p2 f2 k2 => q rr δ' v F2 H2 p2 (L'.after f2) (s.trans f2.f0) (L'.rok k2), fun C ob F2 H2 z2 f2 => z C σ δ' F2 H2 (L'.after f2) z2⟩⟩
/-- the first argument is lent -/
theorem Lk.argsB {K : PySem.W.Frag} {F H : Hp} {a : Addr} {ob : Ob} (tb : Tb K F) (fh : Same F H) (f : F a = none) (w : OwnOk K F H a ob) {vs : List V} {xs : List D} (r : Rps K F vs xs) : Lk K F H (some a) ((V.ref a :: vs).map some) (.bor ob :: xs.map Sl.d) F H := by
  have L := Lk.args (K := K) tb fh r
  obtain ⟨ho, eh⟩ := w.there
  refine ⟨fh, Same.refl _, fun _ _ e _ => e, fun _ _ => rfl, fun b e => ?_, by simp [r.len], fun i s e => ?_, fun i j o o' e1 e2 e3 => ?_, fun i j o o' e1 e2 => ?_, tb⟩
  · cases e
    rw [eh]
    exact ⟨(fun z => by cases z), (fun z => by cases z)⟩
  · cases i with
    | zero => cases e; exact ⟨a, rfl, rfl, f, w⟩
    | succ i =>
      have q := L.sl i s (by simpa using e)
      have es : ((V.ref a :: vs).map some)[i + 1]? = (vs.map some)[i]? := by simp
      rw [es]
      cases s with
      | un => trivial
      | d x => exact q
      | own o =>
        rw [List.getElem?_cons_succ, List.getElem?_map] at e
        cases q : xs[i]? with
        | none => rw [q] at e; cases e
        | some x => rw [q] at e; cases e
      | bor o =>
        rw [List.getElem?_cons_succ, List.getElem?_map] at e
        cases q : xs[i]? with
        | none => rw [q] at e; cases e
        | some x => rw [q] at e; cases e
  · cases i with
    | zero => cases e1
    | succ i =>
      rw [List.getElem?_cons_succ, List.getElem?_map] at e1
      cases q : xs[i]? with
      | none => rw [q] at e1; cases e1
      | some x => rw [q] at e1; cases e1
  · cases i with
    | zero =>
      cases j with
      | zero => rfl
      | succ j =>
        rw [List.getElem?_cons_succ, List.getElem?_map] at e2
        cases q : xs[j]? with
        | none => rw [q] at e2; cases e2
        | some x => rw [q] at e2; cases e2
    | succ i =>
      rw [List.getElem?_cons_succ, List.getElem?_map] at e1
      cases q : xs[i]? with
      | none => rw [q] at e1; cases e1
      | some x => rw [q] at e1; cases e1
end
end L3

set_option Elab.async false
set_option linter.all false
namespace Fr
open PySem L2
section
variable {es : List Expr} {env : Env}
theorem star_name {a b} : starEach (.Name a b :: es) env = (false, eval (.Name a b) env) :: starEach es env := by rfl
theorem star_const {a b c} : starEach (.Constant a b c :: es) env = (false, eval (.Constant a b c) env) :: starEach es env := by rfl
theorem star_bin {a b c d} : starEach (.BinOp a b c d :: es) env = (false, eval (.BinOp a b c d) env) :: starEach es env := by rfl
theorem star_un {a b c} : starEach (.UnaryOp a b c :: es) env = (false, eval (.UnaryOp a b c) env) :: starEach es env := by rfl
theorem star_cmp {a b c d} : starEach (.Compare a b c d :: es) env = (false, eval (.Compare a b c d) env) :: starEach es env := by rfl
theorem star_call {a b c d} : starEach (.Call a b c d :: es) env = (false, eval (.Call a b c d) env) :: starEach es env := by rfl
end
end Fr
namespace Fr
open PySem L2
/-! the same rules behind a fence: what stands in them is not looked through -/
structure WE (X : Cx) (e : Expr) (t : TE) : Prop where
  h : PE X e t
structure WA (X : Cx) (es : List Expr) (t : TA) : Prop where
  h : PA X es t
structure WS (X : Cx) (st : Stmt) (t : TS) : Prop where
  h : PS X st t
structure WSs (X : Cx) (sts : List Stmt) (t : TS) : Prop where
  h : PSs X sts t
section
variable {X : Cx} {e : Expr} {es : List Expr} {te : TE} {t : TA} {pos : Pos} {st : Stmt} {sts : List Stmt} {ts ts' : TS}
end
end Fr
namespace Fr
open PySem L2
section
variable {X : Cx} {e a b : Expr} {te ta tb : TE} {pos pos' : Pos} {sts : List Stmt} {i : Nat} {x : Str}
end
end Fr

set_option Elab.async false
set_option linter.all false
set_option maxRecDepth 100000
namespace L3
open PySem PySem.Spec L2
section
variable {X : Cx} {E : XK} {e a b c o : Expr} {es : List Expr} {pos p : Pos}
/-! ### attributes -/
theorem look_rp {K : PySem.W.Frag} {F : Hp} {f : Str} : ∀ {fs : List (Str × V)} {dfs : List (Str × D)} {x : D}, fs.map (·.1) = dfs.map (·.1) → Rps K F (fs.map (·.2)) (dfs.map (·.2)) → dfs.lookup f = some x → ∃ v, fs.lookup f = some v ∧ Rp K F v x
  | [], [], _, _, _, h => by cases h
  | [], _ :: _, _, e, _, _ => by cases e
  | _ :: _, [], _, e, _, _ => by cases e
  | (n, v) :: fs, (m, d) :: dfs, x, e, r, h => by
    obtain ⟨e1, e2⟩ := List.cons.inj e
    have e1 : n = m := e1
    subst e1
    cases r with
    | cons r1 r2 =>
      rw [List.lookup_cons] at h ⊢
      cases q : (f == n) with
      | true => rw [q] at h; cases h; exact ⟨v, rfl, r1⟩
      | false =>
        rw [q] at h
        exact look_rp e2 r2 h
theorem look_none {f : Str} : ∀ {fs : List (Str × V)} {dfs : List (Str × D)}, fs.map (·.1) = dfs.map (·.1) → dfs.lookup f = none → fs.lookup f = none
  | [], _, _, _ => rfl
  | _ :: _, [], e, _ => by cases e
  | (n, v) :: fs, (m, d) :: dfs, e, h => by
    obtain ⟨e1, e2⟩ := List.cons.inj e
    have e1 : n = m := e1
    subst e1
    rw [List.lookup_cons] at h ⊢
    cases q : (f == n) with
    | true => rw [q] at h; cases h
    | false =>
      rw [q] at h
      exact look_none e2 h
/-- the fields that a name's object has -/
def Sl.flds : Sl → Option (Addr × List (Str × D))
  | .d (.obj C fs) => some (C, fs)
  | .own (.ins C fs) => some (C, fs)
  | .bor (.ins C fs) => some (C, fs)
  | _ => none
theorem Lk.flds {K : PySem.W.Frag} {F0 H0 F H : Hp} {B : Option Addr} {σ : St} {δ : List Sl} {i : Nat} {s : Sl} {C : Addr} {fs : List (Str × D)} (L : Lk K F0 H0 B σ δ F H) (e : δ[i]? = some s) (l : s.flds = some (C, fs)) :
    ∃ a dx vs, σ[i]? = some (some (.ref a)) ∧ H a = some (.ins C dx vs) ∧ vs.map (·.1) = fs.map (·.1) ∧ Rps K F (vs.map (·.2)) (fs.map (·.2)) := by
  have q := L.sl i s e
  cases s with
  | un => cases l
  | d x =>
    cases x with
    | obj C' gs =>
      cases l
      obtain ⟨v, e1, r⟩ := q
      cases r with
      | obj hs ek rs => exact ⟨_, _, _, e1, L.fh _ _ hs, ek, rs⟩
    | _ => cases l
  | own o =>
    cases o with
    | ins C' gs =>
      cases l
      obtain ⟨a, e1, _, _, dx, vs, hh, ek, rs⟩ := q
      exact ⟨a, dx, vs, e1, hh, ek, rs⟩
    | _ => cases l
  | bor o =>
    cases o with
    | ins C' gs =>
      cases l
      obtain ⟨a, e1, _, _, dx, vs, hh, ek, rs⟩ := q
      exact ⟨a, dx, vs, e1, hh, ek, rs⟩
    | _ => cases l
def gf (δ : List Sl) (i : Nat) : Option (Addr × List (Str × D)) := match δ[i]? with
  | some s => s.flds
  | none => none
def tFdN (C : Addr) (f : Str) (i : Nat) : T3D := fun Z δ Q => match gf δ i with
  | some (C', fs) => C' = C ∧ ∃ v, fs.lookup f = some v ∧ Q v δ
  | none => False
theorem d_fldN (i : Nat) {C : Addr} {f x : Str} (c : Cls X.K C) (n : NoAttr X.K C f) (hN : X.N[i]? = some x := by rfl) (hv : Vis X.env.scope x := by first | exact Or.inl rfl | exact Or.inr (Or.inl rfl) | exact Or.inr (Or.inr rfl)) (hd : (x == ("__debug__" : Str)) = false := by decide)
    (hcd : (x == ("__classdict__" : Str)) = false := by decide) (hb : attributeBase (.Name x p) f X.env (eval (.Name x p) X.env) = eval (.Name x p) X.env := by rfl) : D3 X E (.Attribute (.Name x p) f pos) (tFdN C f i) :=
  ⟨fun F0 H0 B => pe_imp (pe_fld (pe_var hN hv hd hcd) hb) fun σ H Q hh => ex4 hh fun δ F Z P L z w q => by
    unfold tFdN at w
    cases e0 : L3.gf δ i with
    | none => rw [e0] at w; exact w.elim
    | some cf =>
      obtain ⟨C', fs⟩ := cf
      rw [e0] at w
      obtain ⟨rfl, y, hy, py⟩ := w
      unfold gf at e0
      cases q0 : δ[i]? with
      | none => rw [q0] at e0; cases e0
      | some s =>
        rw [q0] at e0
        obtain ⟨a, dx, vs, e1, hh, ek, rs⟩ := L.flds q0 e0
        obtain ⟨u, hu, ru⟩ := look_rp ek rs hy
        exact ⟨_, e1, a, _, dx, vs, u, rfl, hh, c, n, hu, q y δ u F H py L (Same.refl _) ru⟩⟩
/-- name.f = e -/
def putD (f : Str) (x : D) : List (Str × D) → List (Str × D)
  | [] => [(f, x)]
  | (g, y) :: fs => if g = f then (g, x) :: fs else (g, y) :: putD f x fs
theorem put_rp {K : PySem.W.Frag} {F : Hp} {f : Str} {v : V} {x : D} (r : Rp K F v x) : ∀ {fs : List (Str × V)} {dfs : List (Str × D)}, fs.map (·.1) = dfs.map (·.1) → Rps K F (fs.map (·.2)) (dfs.map (·.2)) →
    (putF f v fs).map (·.1) = (putD f x dfs).map (·.1) ∧ Rps K F ((putF f v fs).map (·.2)) ((putD f x dfs).map (·.2))
  | [], [], _, _ => ⟨rfl, .one r⟩
  | [], _ :: _, e, _ => by cases e
  | _ :: _, [], e, _ => by cases e
  | (n, u) :: fs, (m, d) :: dfs, e, rr => by
    obtain ⟨e1, e2⟩ := List.cons.inj e
    have e1 : n = m := e1
    subst e1
    cases rr with
    | cons r1 r2 =>
      unfold putF putD
      by_cases q : n = f
      · rw [if_pos q, if_pos q]
        exact ⟨by simp [e2], .cons r r2⟩
      · rw [if_neg q, if_neg q]
        obtain ⟨k1, k2⟩ := put_rp r e2 r2
        exact ⟨by simp [k1], .cons r1 k2⟩
def tFs (C : Addr) (f : Str) (i : Nat) (t : T3D) : T3S := fun Z En δ => t Z δ fun x δ' => match go δ' i with
  | some (.ins C' fs) => C' = C ∧ fs.length < 100 ∧ En.nx (pt δ' i (.ins C' (putD f x fs)))
  | _ => False
theorem s_fld (i : Nat) {C : Addr} {f x : Str} {t : T3D} {pos' : Pos} (c : Cls X.K C) (n : NoAttr X.K C f) (h : D3 X E e t) (hN : X.N[i]? = some x := by rfl) (hv : Vis X.env.scope x := by first | exact Or.inl rfl | exact Or.inr (Or.inl rfl) | exact Or.inr (Or.inr rfl)) (hd : (x == ("__debug__" : Str)) = false := by decide)
    (hcd : (x == ("__classdict__" : Str)) = false := by decide) (hs : swapsWith e (some (.Attribute (.Name x p) f pos')) pos.line X.env = pure false := by rfl) : S3 X E (.Assign [.Attribute (.Name x p) f pos'] e pos) (tFs C f i t) :=
  ⟨fun F0 H0 B => ps_imp (ps_fld (pe_var hN hv hd hcd) (h.h F0 H0 B) hs) fun Dn σ H hh => ex4 hh fun δ F Z En L z w ok => ⟨δ, F, Z, _, L, z, w, fun y δ' v F' H' p' L' s r => by
    cases e0 : L3.go δ' i with
    | none => rw [e0] at p'; exact p'.elim
    | some ob =>
      rw [e0] at p'
      cases ob with
      | ins C' fs =>
        obtain ⟨rfl, hl, p'⟩ := p'
        obtain ⟨a, e1, f1, ⟨dx, vs, hh, ek, rs⟩, up⟩ := L'.go e0
        obtain ⟨k1, k2⟩ := put_rp (f := f) r ek rs
        have lv : vs.length = fs.length := by have := congrArg List.length ek; simpa using this
        exact ⟨_, e1, a, _, dx, vs, rfl, hh, c, n, by omega, ok.nx _ _ F' _ p' (up _ _ ⟨dx, _, upd_same, k1, k2⟩) s⟩
      | _ => exact p'.elim⟩⟩
/-! ### methods of data, instances made -/
/-- o.m(..), o data -/
def tMt (C : Addr) (m : Str) (sp : Sp3) (ta : T3D) (t : T3A) : T3E := fun Z δ Q => ta Z δ fun x δ1 => match x with
  | .obj C' fs => (C' = C ∧ fs.lookup m = none) ∧ t Z δ1 fun xs δ2 => sp (.d (.obj C' fs) :: xs.map Sl.d) (fun r _ => Q r δ2) (fun D _ => Z D δ2)
  | _ => False
theorem lo_meth {K : PySem.W.Frag} {F0 H0 : Hp} {B : Option Addr} {C : Addr} {m : Str} {sp : Sp3} {ta : T3D} {t : T3A} {σ : St} {H : Hp} {Q : VK} (h : LE K E F0 H0 B (tMt C m sp ta t) σ H Q) :
    tMeth C m (lsp K sp) [] E (LD K E F0 H0 B ta) (LA K E F0 H0 B t) σ H Q := by
  obtain ⟨δ, F, Z, P, L, z, w, q⟩ := h
  refine ⟨δ, F, Z, _, L, z, w, fun x δ1 v F1 H1 p1 L1 s1 r1 => ?_⟩
  cases r1 with
  | obj hs ek rs =>
    obtain ⟨⟨rfl, l⟩, p1⟩ := p1
    refine ⟨_, _, _, rfl, L1.fh _ _ hs, look_none ek l, δ1, F1, Z, _, L1, z, p1, fun xs δ2 vs F2 H2 p2 L2 s2 r2 => ?_⟩
    have r0 : Rp K F2 (V.ref _) (D.obj _ _) := Rp.same s2 (.obj hs ek rs)
    show lsp K sp (V.ref _ :: (vs ++ [])) H2 Q E
    rw [List.append_nil]
    exact ⟨F2, none, _, _, _, Lk.args L2.tbF L2.fh (.cons r0 r2), p2, fun rr ob v F3 H3 p3 f3 k3 => q rr δ2 v F3 H3 p3 (L2.after f3) ((s1.trans s2).trans f3.f0) (L2.rok k3), fun D ob F3 H3 z3 f3 => z D σ δ2 F3 H3 (L2.after f3) z3⟩
  | _ => exact p1.elim
/-- a method of a class of the text -/
structure MtOk (P : Program) (w : World) (K : PySem.W.Frag) (mg : Str → Option Value) (base : Heap) (k : Nat) (C : Addr) (m : Str) (ps : List Str) (sp : Sp3) : Prop where
  cl : Cls K C
  ex : ∃ (f : Addr) (fd : FuncData), FnOk P w K mg base (Fr.CX1 P w) k f fd ps (lsp K sp) ∧ Meth K C m f ∧ Binds K fd ps []
theorem e_meth {C : Addr} {m : Str} {k : Nat} {ps : List Str} {sp : Sp3} {ta : T3D} {t : T3A} {apos : Pos} {pl : Sem Bool} (O : MtOk X.prog X.w X.K X.mg X.base k C m ps sp) (hx : Passes (Fr.CX1 X.prog X.w) X E) (hr : Room k X.A) (ho : D3 X E o ta) (ha : A3 X E (e :: es) t)
    (hst : starEach (e :: es) X.env = (false, eval e X.env) :: starEach es X.env := by rfl) (hpl : (backTo pos (starEach es X.env)).any (·.1) = false := by rfl)
    (ht : eval (.Call (.Attribute o m apos) (e :: es) [] pos) X.env = (do
      let ov ← eval o X.env
      standAt apos.atName
      let (f, first) ← holding [ov] (getMethod ov m pl)
      callWith pos f first (backTo pos (starEach (e :: es) X.env)) (backToKw pos (keywordEach [] X.env))) := by rfl) : E3 X E (.Call (.Attribute o m apos) (e :: es) [] pos) (tMt C m sp ta t) :=
  ⟨fun F0 H0 B => by
    obtain ⟨f, fd, FF, hm, hb⟩ := O.ex
    exact pe_imp (pe_meth (ho.h F0 H0 B) O.cl hm FF hr hb .nil hx (ha.h F0 H0 B) hst hpl ht) fun σ H Q h => lo_meth h⟩
theorem e_meth0 {C : Addr} {m : Str} {k : Nat} {ps : List Str} {sp : Sp3} {ta : T3D} {apos : Pos} {pl : Sem Bool} (O : MtOk X.prog X.w X.K X.mg X.base k C m ps sp) (hx : Passes (Fr.CX1 X.prog X.w) X E) (hr : Room k X.A) (ho : D3 X E o ta)
    (ht : eval (.Call (.Attribute o m apos) [] [] pos) X.env = (do
      let ov ← eval o X.env
      standAt apos.atName
      let (f, first) ← holding [ov] (getMethod ov m pl)
      callWith pos f first (backTo pos (starEach [] X.env)) (backToKw pos (keywordEach [] X.env))) := by rfl) : E3 X E (.Call (.Attribute o m apos) [] [] pos) (tMt C m sp ta tA0) :=
  ⟨fun F0 H0 B => by
    obtain ⟨f, fd, FF, hm, hb⟩ := O.ex
    refine pe_imp (pe_meth0 (ho.h F0 H0 B) O.cl hm FF hr hb .nil hx ht) fun σ H Q h => ?_
    obtain ⟨δ, F, Z, P, L, z, w, q⟩ := lo_meth h
    refine ⟨δ, F, Z, P, L, z, w, fun x δ1 v F1 H1 p1 L1 s1 r1 => ?_⟩
    obtain ⟨a, dx, fs, h1, h2, h3, δ2, F2, Z2, P2, L2, z2, w2, q2⟩ := q x δ1 v F1 H1 p1 L1 s1 r1
    exact ⟨a, dx, fs, h1, h2, h3, q2 [] δ2 [] F2 _ w2 L2 (Same.refl _) .nil⟩⟩
/-- C(..) -/
def tMk (C : Addr) (sp : Sp3) (t : T3A) : T3E := fun Z δ Q => t Z δ fun xs δ' => sp (.bor (.ins C []) :: xs.map Sl.d) (fun r ob => match r, ob with
  | .d .non, some o => Q (.own o) δ'
  | _, _ => False) (fun D _ => Z D δ')
structure MkOk (P : Program) (w : World) (K : PySem.W.Frag) (mg : Str → Option Value) (base : Heap) (k : Nat) (x : Str) (C : Addr) (ps : List Str) (sp : Sp3) : Prop where
  ex : ∃ (f : Addr) (fd : FuncData), FnOk P w K mg base (Fr.CX1 P w) k f fd ps (lsp K sp) ∧ Mk K C f ∧ Binds K fd ps []
  m : mg x = some (.ref C)
theorem e_make {C : Addr} {x : Str} {k : Nat} {ps : List Str} {sp : Sp3} {t : T3A} (O : MkOk X.prog X.w X.K X.mg X.base k x C ps sp) (hx : Passes (Fr.CX1 X.prog X.w) X E) (hr : Room (k + 1) X.A) (hg : Gl X x) (ha : A3 X E (e :: es) t) (hdb : (x == ("__debug__" : Str)) = false := by decide)
    (he : starEach (e :: es) X.env = (false, eval e X.env) :: starEach es X.env := by rfl) (hpl : (backTo pos (starEach es X.env)).any (·.1) = false := by rfl) : E3 X E (.Call (.Name x p) (e :: es) [] pos) (tMk C sp t) :=
  ⟨fun F0 H0 B => by
    obtain ⟨f, fd, FF, hm, hb⟩ := O.ex
    refine pe_imp (pe_make hm FF hr hg O.m hb .nil hx (ha.h F0 H0 B) hdb he hpl) fun σ H Q hh => ex4 hh fun δ F Z P L z w q => ⟨δ, F, Z, _, L, z, w, fun xs δ' vs F' H' p' L' s r => ?_⟩
    intro y dy n1 n2 ne
    have sd : Same H' (upd H' dy (.own y)) := Fr.Same.new n2
    have n1' : upd H' dy (.own y) y = none := by rw [upd_ne (Ne.symm ne)]; exact n1
    have sy : Same (upd H' dy (.own y)) (upd (upd H' dy (.own y)) y (.ins C dy [])) := Fr.Same.new n1'
    have sh := sd.trans sy
    generalize hH2 : upd (upd H' dy (.own y)) y (.ins C dy []) = H2 at sh
    have hy : H2 y = some (.ins C dy []) := by rw [← hH2]; exact upd_same
    have fy : F' y = none := (L'.fr0 n1).2
    show lsp X.K sp (V.ref y :: (vs ++ [])) H2 _ E
    rw [List.append_nil]
    have LA2 : Lk X.K F' H2 (some y) ((V.ref y :: vs).map some) (.bor (.ins C []) :: xs.map Sl.d) F' H2 := Lk.argsB (ob := .ins C []) L'.tbF (L'.fh.trans sh) fy ⟨dy, [], hy, rfl, .nil⟩ r
    have L2 : Lk X.K F0 H0 B σ δ' F' H2 := L'.grow (Same.refl _) (L'.fh.trans sh) sh fun _ _ => rfl
    have grow : ∀ {F3 H3 : Hp} {ob : Option Ob}, Fin X.K F' H2 (some y) F3 H3 ob → Lk X.K F0 H0 B σ δ' F3 H3 := fun {F3 H3 ob} f3 => by
      refine L'.grow f3.f0 f3.fh (fun b u eb => ?_) fun b hb => f3.ff b fun z => ?_
      · exact f3.h0 b u (sh _ _ eb) fun z => by cases z; rw [n1] at eb; cases eb
      · cases eb : H' b with
        | none => exact hb eb
        | some u => rw [sh _ _ eb] at z; cases z
    refine ⟨F', some y, _, _, _, LA2, p', fun rr ob v F3 H3 p3 f3 k3 => ?_, fun D ob F3 H3 z3 f3 => z D σ δ' F3 H3 (grow f3) z3⟩
    cases rr with
    | own o => exact p3.elim
    | d x0 =>
      cases x0 with
      | non =>
        cases ob with
        | none => exact p3.elim
        | some ob =>
          cases k3
          refine ⟨rfl, ?_⟩
          obtain ⟨a, ea, fa, wa⟩ := f3.ob ob rfl
          cases ea
          refine q _ δ' _ F3 H3 p3 (grow f3) (s.trans f3.f0) ⟨y, rfl, fa, (L'.fr0 n1).1, wa, fun i o' ei zz => ?_⟩
          obtain ⟨a', e1, _, _, w'⟩ := L'.sl i _ ei
          rw [zz] at e1
          cases e1
          obtain ⟨ho, eh⟩ := w'.there
          rw [n1] at eh
          cases eh
      | _ => exact p3.elim⟩
end
end L3

set_option Elab.async false
set_option linter.all false
set_option maxRecDepth 100000
/-! A list comprehension with one name, whose element also reads names of the def around it. -/
namespace Fr
open PySem PySem.Spec L2
open PyProof.Rows hiding St
def clOf (cells : List (Str × Addr)) : List (Str × NameKind) → List (Str × Addr) → List (Str × Addr)
  | [], cs => cs
  | (n, k) :: r, cs => if k == .free then (match cells.lookup n with
    | some c => clOf cells r ((n, c) :: cs)
    | none => clOf cells r cs) else clOf cells r cs
theorem clOf_mem {cells : List (Str × Addr)} : ∀ (ns : List (Str × NameKind)) (cs : List (Str × Addr)), (∀ p ∈ cs, cells.lookup p.1 = some p.2) → ∀ p ∈ clOf cells ns cs, cells.lookup p.1 = some p.2
  | [], cs, h => h
  | (n, k) :: r, cs, h => by
    unfold clOf
    split
    · split
      · rename_i c e
        exact clOf_mem r _ fun p hp => by
          rcases List.mem_cons.mp hp with rfl | hp
          · exact e
          · exact h p hp
      · exact clOf_mem r _ h
    · exact clOf_mem r _ h
theorem clOf_sub {cells : List (Str × Addr)} : ∀ (ns : List (Str × NameKind)) (cs : List (Str × Addr)), ∀ p ∈ cs, p ∈ clOf cells ns cs
  | [], cs, p, hp => hp
  | (n, k) :: r, cs, p, hp => by
    unfold clOf
    split
    · split
      · exact clOf_sub r _ p (List.mem_cons_of_mem _ hp)
      · exact clOf_sub r _ p hp
    · exact clOf_sub r _ p hp
theorem clOf_has {cells : List (Str × Addr)} : ∀ (ns : List (Str × NameKind)) (cs : List (Str × Addr)) (y : Str) (c : Addr), (y, NameKind.free) ∈ ns → cells.lookup y = some c → (y, c) ∈ clOf cells ns cs
  | (n, k) :: r, cs, y, c, hm, e => by
    unfold clOf
    rcases List.mem_cons.mp hm with h | h
    · cases h
      rw [if_pos (show (NameKind.free == NameKind.free) = true from rfl), e]
      exact clOf_sub r _ _ List.mem_cons_self
    · split
      · split
        · exact clOf_has r _ y c h e
        · exact clOf_has r _ y c h e
      · exact clOf_has r _ y c h e
theorem closure_is {scope : Scope} {env : Env} (h : ∀ y ∈ scope.names, y.2 = .free → ∃ c, env.cells.lookup y.1 = some c) : closureFor scope env = pure (clOf env.cells scope.names []) := by
  unfold closureFor
  generalize ([] : List (Str × Addr)) = cs
  revert h cs
  generalize scope.names = ns
  induction ns with
  | nil => intro h cs; rfl
  | cons x r ih =>
    intro h cs
    obtain ⟨n, k⟩ := x
    have ih' := ih fun y hy => h y (List.mem_cons_of_mem _ hy)
    unfold clOf
    by_cases hk : (k == NameKind.free) = true
    · obtain ⟨c, e⟩ := h (n, k) List.mem_cons_self (by simpa using hk)
      have e' : env.cells.lookup n = some c := e
      rw [if_pos hk, e']
      show _ = pure (clOf env.cells r ((n, c) :: cs))
      rw [← ih' ((n, c) :: cs)]
      simp only [List.forIn_cons, hk, if_true, cellOf, e']
      rfl
    · rw [if_neg hk]
      rw [← ih' cs]
      simp only [List.forIn_cons, hk]
      rfl
/-- the context of the block: its own name, the names that it reads around it -/
def cxCF (X : Cx) (scope : Scope) (x : Str) (fr : List (Str × Nat)) (s₀ : Shared) (H₀ : Hp) (fp : List Addr) (pn : List (Addr × Obj)) : Cx where
  prog := X.prog
  w := X.w
  K := X.K
  mg := X.mg
  base := X.base
  A := X.A
  N := x :: fr.map (·.1)
  s₀ := s₀
  H₀ := H₀
  env := compEnvC scope (clOf X.env.cells scope.names []) s₀.heap.objs.size X.env
  outer := X.stack
  stack := X.stack
  ex := fp
  fn := fun _ => false
  calm := X.calm
  pn := pn
  xe := fun _ _ => False
def stF (fr : List (Str × Nat)) (σ : St) : List (Option V) := fr.map fun q => (σ[q.2]?).join
/-- the names around the block are kept in cells -/
structure FrOk (X : Cx) (scope : Scope) (x : Str) (fr : List (Str × Nat)) : Prop where
  kind : scope.kind = .function
  names : ∀ y ∈ scope.names, y.2 = .local → scope.names.lookup y.1 = some .local
  own : scope.names.lookup x = some .local
  nocell : ∀ y ∈ scope.names, y.2 ≠ .cell
  frees : ∀ y ∈ scope.names, y.2 = .free → X.env.scope.names.lookup y.1 = some .cell
  at_ : ∀ q ∈ fr, X.N[q.2]? = some q.1 ∧ (q.1, NameKind.free) ∈ scope.names ∧ (relabel scope X.env).names.lookup q.1 = some .cell
  nd : (x :: fr.map (·.1)).Nodup
section
variable {X : Cx} {pins : List (Addr × Obj)} {σ : St} {H : Hp} {s : Shared} {scope : Scope} {x : Str} {fp : List Addr} {fr : List (Str × Nat)}
theorem cl_look {cells : List (Str × Addr)} {ns : List (Str × NameKind)} {y : Str} {c : Addr} (e : (clOf cells ns []).lookup y = some c) : cells.lookup y = some c :=
  clOf_mem ns [] (fun p hp => by cases hp) (y, c) (PySem.mem_of_lookup e)
theorem look_mem {β : Type} : ∀ {l : List (Str × β)} {y : Str} {c : β}, (y, c) ∈ l → ∃ c', l.lookup y = some c'
  | (n, k) :: r, y, c, h => by
    by_cases e : (y == n) = true
    · exact ⟨k, by simp [List.lookup_cons, e]⟩
    · rcases List.mem_cons.mp h with h | h
      · cases h
        exact absurd (by simp) e
      · obtain ⟨c', q⟩ := look_mem h
        exact ⟨c', by simp [List.lookup_cons, e, q]⟩
theorem relabel_kind {env : Env} : ∀ {ns : List (Str × NameKind)} {y : Str} {k : NameKind}, (ns.map fun (n, k) => if (k == NameKind.free && env.scope.kind == .function && env.kindOf n == some .cell) then (n, NameKind.cell) else (n, k)).lookup y = some k → (k = .cell ∨ k = .free) → (∀ z ∈ ns, z.2 ≠ .cell) → (y, NameKind.free) ∈ ns
  | (n, k0) :: r, y, k, h, hk, hc => by
    simp only [List.map_cons] at h
    by_cases e : (y == n) = true
    · have en : y = n := by simpa using e
      subst en
      by_cases c : (k0 == NameKind.free && env.scope.kind == .function && env.kindOf y == some .cell) = true
      · have : k0 = .free := by
          simp only [Bool.and_eq_true, beq_iff_eq] at c
          exact c.1.1
        rw [this]
        exact List.mem_cons_self
      · rw [if_neg c] at h
        simp only [List.lookup_cons, e] at h
        cases h
        rcases hk with rfl | rfl
        · exact absurd rfl (hc _ List.mem_cons_self)
        · exact List.mem_cons_self
    · have h' : (r.map fun (n, k) => if (k == NameKind.free && env.scope.kind == .function && env.kindOf n == some .cell) then (n, NameKind.cell) else (n, k)).lookup y = some k := by
        split at h
        · simpa [List.lookup_cons, e] using h
        · simpa [List.lookup_cons, e] using h
      exact List.mem_cons_of_mem _ (relabel_kind h' hk fun z hz => hc z (List.mem_cons_of_mem _ hz))
end
section
variable {X : Cx}
end
end Fr

set_option Elab.async false
set_option linter.all false
set_option maxRecDepth 100000
/-! Comprehensions over a range; when a block's names are as they should be. -/
namespace Fr
open PySem PySem.Spec L2
open PyProof.Rows hiding St
theorem lookup_relabel_free {env : Env} (h1 : env.scope.kind = .function) : ∀ {names : List (Str × NameKind)} {x : Str}, names.lookup x = some .free → env.kindOf x = some .cell →
    (names.map fun (n, k) => if (k == NameKind.free && env.scope.kind == .function && env.kindOf n == some .cell) then (n, NameKind.cell) else (n, k)).lookup x = some .cell
  | [], _, h, _ => by simp at h
  | (n, k) :: r, x, h, hc => by
    have ih := @lookup_relabel_free env h1 r x
    show ((if (k == NameKind.free && env.scope.kind == .function && env.kindOf n == some .cell) = true then (n, NameKind.cell) else (n, k)) :: _).lookup x = some .cell
    cases hx : x == n with
    | true =>
      simp only [List.lookup_cons, hx] at h
      cases h
      have en : x = n := by simpa using hx
      subst en
      have : (NameKind.free == NameKind.free && env.scope.kind == .function && env.kindOf x == some .cell) = true := by
        rw [h1, hc]
        rfl
      rw [if_pos this]
      simp [List.lookup_cons]
    | false =>
      simp only [List.lookup_cons, hx] at h
      by_cases hc' : (k == NameKind.free && env.scope.kind == .function && env.kindOf n == some .cell) = true
      · rw [if_pos hc']; simp only [List.lookup_cons, hx]; exact ih h hc
      · rw [if_neg hc']; simp only [List.lookup_cons, hx]; exact ih h hc
end Fr

set_option Elab.async false
set_option linter.all false
set_option maxRecDepth 100000
/-! x = [elt for ..]: the list is stored before the block's names go. -/
namespace Fr
open PySem PySem.Spec L2
open PyProof.Rows hiding St
section
variable {X : Cx}
end
end Fr

set_option Elab.async false
set_option linter.all false
set_option maxRecDepth 100000
/-! A comprehension with one test, which may read names around it. -/
namespace Fr
open PySem PySem.Spec L2
open PyProof.Rows hiding St
section
variable {prog : Program} {w : World} {A : Around} {R : Result → Shared → Prop} {s : Shared}
theorem compLoop_goI {elt target iter c : Expr} {scope : Scope} {pos : Pos} {it acc : Value} {env : Env} (J : Nat → Shared → Prop)
    (turn : ∀ n s, J n s → ∀ E : Value → Shared → Prop, wpAny (model prog w) A (pyNext it) (fun r s₁ => (r = none ∧ R (.ok .next) s₁) ∨ ∃ v, r = some v ∧
      wpAny (model prog w) A (letOwnedTupleGo target it v) (fun _ s₂ => wpAny (model prog w) A (assign target env v) (fun _ s₃ => wpAny (model prog w) A (isTrue c env (eval c env)) (fun b s₄ => if b = true then wpAny (model prog w) A (eval elt env) (fun y s₅ =>
        wpAny (model prog w) A (call (.builtin "list.append") [acc, y]) (fun _ s₆ => ∃ m, m < n ∧ J m s₆) E s₅) E s₄ else ∃ m, m < n ∧ J m s₄) E s₃) E s₂) E s₁) E s)
    (n : Nat) (h : J n s) : codeAny (model prog w) A (.compLoop (.ListComp elt [⟨target, iter, [c], 0⟩] scope pos) 0 it acc env) R s := by
  refine codeAny_loop rfl J (fun n s hJ => ?_) n h
  refine wpAny_noted ?_
  rw [compTurn_list]
  refine wpAny_bind (wpAny_standAt (wpAny_bind (thn (turn n s hJ _) fun r s₁ h₁ => ?_)))
  rcases h₁ with ⟨rfl, h₁⟩ | ⟨v, rfl, h₁⟩
  · exact wpAny_pure h₁
  · refine wpAny_bind (thn h₁ fun _ s₂ h₂ => wpAny_bind (thn h₂ fun _ s₃ h₃ => ?_))
    refine wpAny_bind ?_
    rw [List.forIn_cons]
    refine wpAny_bind (wpAny_bind (thn h₃ fun b s₄ h₄ => wpAny_pure ?_))
    show wpAny _ _ (pure b) _ _ s₄
    refine wpAny_pure ?_
    cases b with
    | false => exact wpAny_pure ⟨rfl, h₄⟩
    | true => exact wpAny_bind (wpAny_bind (thn h₄ fun y s₅ h₅ => wpAny_bind (thn h₅ fun _ s₆ h₆ => wpAny_pure (wpAny_pure ⟨rfl, h₆⟩))))
end
section
variable {X : Cx}
end
end Fr

set_option Elab.async false
set_option linter.all false
set_option maxRecDepth 100000
/-! x = [elt for .. if ..] on one row. -/
namespace Fr
open PySem PySem.Spec L2
open PyProof.Rows hiding St
section
variable {X : Cx}
end
end Fr

set_option Elab.async false
set_option linter.all false
set_option maxRecDepth 100000
/-! Comprehensions with any target and at most one test, as values or stored in a name. -/
namespace Fr
open PySem PySem.Spec L2
open PyProof.Rows hiding St
/-- the context of the block: its own names, the names that it reads around it -/
def cxCV (X : Cx) (scope : Scope) (xs : List Str) (fr : List (Str × Nat)) (s₀ : Shared) (H₀ : Hp) (fp : List Addr) (pn : List (Addr × Obj)) : Cx :=
  { cxCF X scope Str.empty fr s₀ H₀ fp pn with N := xs ++ fr.map (·.1) }
structure FrOkV (X : Cx) (scope : Scope) (xs : List Str) (fr : List (Str × Nat)) : Prop where
  kind : scope.kind = .function
  names : ∀ y ∈ scope.names, y.2 = .local → scope.names.lookup y.1 = some .local
  own : ∀ x ∈ xs, scope.names.lookup x = some .local
  nocell : ∀ y ∈ scope.names, y.2 ≠ .cell
  frees : ∀ y ∈ scope.names, y.2 = .free → X.env.scope.names.lookup y.1 = some .cell
  at_ : ∀ q ∈ fr, X.N[q.2]? = some q.1 ∧ (q.1, NameKind.free) ∈ scope.names ∧ (relabel scope X.env).names.lookup q.1 = some .cell
  nd : (xs ++ fr.map (·.1)).Nodup
def frCheckV (scope sc : Scope) (xs : List Str) (fr : List (Str × Nat)) (N : List Str) : Bool :=
  decide (scope.kind = .function) && decide (sc.kind = .function) && decide (∀ y ∈ scope.names, y.2 = .local → scope.names.lookup y.1 = some .local) && decide (∀ x ∈ xs, scope.names.lookup x = some .local) &&
  decide (∀ y ∈ scope.names, y.2 ≠ .cell) && decide (∀ y ∈ scope.names, y.2 = .free → sc.names.lookup y.1 = some .cell) && decide (∀ q ∈ fr, N[q.2]? = some q.1 ∧ (q.1, NameKind.free) ∈ scope.names ∧ scope.names.lookup q.1 = some .free) && decide (xs ++ fr.map (·.1)).Nodup
theorem frokV {X : Cx} {scope sc : Scope} {xs : List Str} {fr : List (Str × Nat)} {N : List Str} (hs : X.env.scope = sc) (hN : X.N = N) (h : frCheckV scope sc xs fr N = true) : FrOkV X scope xs fr := by
  unfold frCheckV at h
  simp only [Bool.and_eq_true, decide_eq_true_eq] at h
  obtain ⟨⟨⟨⟨⟨⟨⟨a1, a0⟩, a2⟩, a3⟩, a4⟩, a5⟩, a6⟩, a7⟩ := h
  subst hs
  subst hN
  exact ⟨a1, a2, a3, a4, a5, fun q hq => ⟨(a6 q hq).1, (a6 q hq).2.1, lookup_relabel_free a0 (a6 q hq).2.2 (a5 _ (a6 q hq).2.1 rfl)⟩, a7⟩
section
variable {X : Cx} {pins : List (Addr × Obj)} {σ : St} {H : Hp} {s : Shared} {scope : Scope} {xs : List Str} {fp : List Addr} {fr : List (Str × Nat)}
theorem cv_start {h₁ : Heap} {t : Nat} {m : Str → Option Value} (I : Inv X pins σ H s) (f : FpIn X pins s.heap fp) (O : FrOkV X scope xs fr) (hn : h₁.Ns s.heap.objs.size m) (k : ∀ b o, s.heap.get? b = some o → h₁.get? b = some o) :
    Inv (cxCV X scope xs fr s H fp (X.pn ++ pins)) [] (List.replicate xs.length none ++ stF fr σ) H { s with heap := h₁, toks := t } := by
  have cx : ∀ y c, (cxCV X scope xs fr s H fp (X.pn ++ pins)).env.cells.lookup y = some c → X.env.cells.lookup y = some c := fun y c e => cl_look e
  have hasC : ∀ y, (y, NameKind.free) ∈ scope.names → ∃ c, X.env.cells.lookup y = some c ∧ (clOf X.env.cells scope.names []).lookup y = some c := fun y hy => by
    obtain ⟨c, e⟩ := I.ok.has y (.inl (O.frees _ hy rfl))
    obtain ⟨c', e'⟩ := look_mem (clOf_has scope.names [] y c hy e)
    have := cl_look e'
    rw [e] at this
    cases this
    exact ⟨c, e, e'⟩
  refine ⟨⟨I.ok.mod, O.kind, I.ok.glob, I.ok.blt, Nat.le_refl _, fun y z c e1 e2 => I.ok.inj y z c (cx y c e1) (cx z c e2), fun y hy => ?_, (fun y c hf _ => Bool.noConfusion hf), I.ok.hd, I.ok.frames, .inl rfl, fun b hb => ⟨Nat.ne_of_lt (f.lt b hb), fun y c e => f.cl b hb y c (cx y c e)⟩,
      I.bs, Nat.le_trans I.ok.bsz I.sz, fun b o e => f.base I b o e, f.stack I, I.stack, I.stkFree⟩,
    rfl, I.bare, Un.kept k, ⟨m, hn, fun i y v e1 e2 hv => ?_⟩, fun y c e => ?_, I.hok.fresh (Nat.le_refl _), fun y c e => I.freeC y c (cx y c e), fun p hp => ?_, I.hok.kept k, ?_⟩
  · have hm : (y, NameKind.free) ∈ scope.names := by
      rcases hy with hy | hy
      · exact relabel_kind hy (.inl rfl) O.nocell
      · exact relabel_kind hy (.inr rfl) O.nocell
    obtain ⟨c, _, e⟩ := hasC y hm
    exact ⟨c, e⟩
  · have hi : xs.length ≤ i := by
      apply Nat.le_of_not_lt
      intro lt
      rw [List.getElem?_append_left (by rw [List.length_replicate]; exact lt), List.getElem?_replicate] at e2
      split at e2 <;> cases e2
    · have e1' : (fr.map (·.1))[i - xs.length]? = some y := by
        have : (xs ++ fr.map (·.1))[i]? = some y := e1
        rw [List.getElem?_append_right hi] at this
        exact this
      have e2' : (stF fr σ)[i - xs.length]? = some (some v) := by
        rw [List.getElem?_append_right (by rw [List.length_replicate]; exact hi), List.length_replicate] at e2
        exact e2
      unfold stF at e2'
      rw [List.getElem?_map] at e1' e2'
      cases hq : fr[i - xs.length]? with
      | none => rw [hq] at e1'; cases e1'
      | some q =>
        rw [hq] at e1' e2'
        have ey : q.1 = y := by simpa using e1'
        have ev : (σ[q.2]?).join = some v := by simpa using e2'
        have hqm := List.mem_of_getElem? hq
        obtain ⟨a1, a2, a3⟩ := O.at_ q hqm
        rw [ey] at a1 a2 a3
        have ev' : σ[q.2]? = some (some v) := by
          cases z : σ[q.2]? with
          | none => rw [z] at ev; cases ev
          | some o => rw [z] at ev; simpa using ev
        have hcell := O.frees _ a2 rfl
        obtain ⟨m', hn', L⟩ := I.loc
        obtain ⟨u, r, lk⟩ := L q.2 y v a1 ev' (.inr (.inl hcell))
        refine ⟨u, r, .inr ⟨.inl a3, ?_⟩⟩
        obtain ⟨c, c1, c2⟩ := hasC y a2
        refine ⟨c, c2, ?_⟩
        rcases lk with ⟨z, _⟩ | ⟨_, c', c3, ⟨o, o1, o2⟩⟩
        · have z' : X.env.scope.names.lookup y = some .local := z
          rw [hcell] at z'
          cases z'
        · rw [c1] at c3
          cases c3
          exact ⟨o, k _ _ o1, o2⟩
  · obtain ⟨v, o, o1, o2⟩ := I.cell y c (cx y c e)
    exact ⟨v, o, k _ _ o1, o2⟩
  · have hp' : p ∈ X.pn ++ pins := by
      have : p ∈ (X.pn ++ pins) ++ [] := hp
      rwa [List.append_nil] at this
    obtain ⟨e, n, ne, nf, d⟩ := I.pin p hp'
    refine ⟨k _ _ e, n, Nat.ne_of_lt (Heap.lt_size e), fun z => ?_, d⟩
    rcases List.mem_cons.mp (I.stkSub p.1 z) with q | q
    · exact ne q
    · exact nf q
  · show (List.replicate xs.length none ++ stF fr σ).length = (xs ++ fr.map (·.1)).length
    unfold stF
    simp
theorem cv_end {σ' : St} {H' : Hp} {s' : Shared} {h' : Heap} (I : Inv X pins σ H s) (f : FpIn X pins s.heap fp) (I' : Inv (cxCV X scope xs fr s H fp (X.pn ++ pins)) [] σ' H' s') (hs : Heap.SameBut s.heap.objs.size s'.heap h') :
    Inv X pins σ H' { s' with heap := h' } := by
  have nC : H' s.heap.objs.size = none := I'.free
  have lt : ∀ {b : Addr} {o : Obj}, s.heap.get? b = some o → b ≠ s.heap.objs.size := fun e => Nat.ne_of_lt (Heap.lt_size e)
  have u := I'.base
  refine Inv.call' (s' := { s' with heap := h' }) (ch := fp) I I'.os ⟨fun b o e n hb hx => ?_, fun b o e n hb hx => ?_, u.free, fun b o e hx => ?_, u.tups, u.frzs, u.tbls⟩ (fun b o e => ?_) I'.bare fun b hb => ⟨f.own b hb, f.loc b hb, f.cl b hb, f.pn b hb⟩
  · exact (hs.2 b (lt e)).trans (u.keep b o e n hb hx)
  · obtain ⟨sl, q⟩ := u.slot b o e n hb hx
    exact ⟨sl, (hs.2 b (lt e)).trans q⟩
  · obtain ⟨o', q⟩ := u.there b o e hx
    exact ⟨o', (hs.2 b (lt e)).trans q⟩
  · refine (I'.hok b o e).stay (fun c v hc q => (hs.2 c ?_).trans q) (fun _ q => q) fun _ _ q => q
    rintro rfl
    rcases hc with z | z
    · rw [← z, nC] at e
      cases e
    · rw [nC] at z
      cases z
end
/-- one turn's body: an element, or none -/
abbrev TStep := St → Hp → (Option V → Hp → Prop) → Prop
def PStep (X : Cx) (ifs : List Expr) (elt : Expr) (ts : TStep) : Prop :=
  ∀ (pins : List (Addr × Obj)) (s : Shared) (τ : St) (H : Hp) (R : Option V → Hp → Prop) (acc : Value) (K : Shared → Prop) (E : Value → Shared → Prop), Inv X pins τ H s → ts τ H R →
    (∀ y u s' H', Inv X pins τ H' s' → RelV y u → R (some y) H' → wpAny (model X.prog X.w) X.A (call (.builtin "list.append") [acc, u]) (fun _ s'' => K s'') E s') → (∀ s' H', Inv X pins τ H' s' → R none H' → K s') →
    (match ifs with
      | [] => wpAny (model X.prog X.w) X.A (eval elt X.env) (fun y s₄ => wpAny (model X.prog X.w) X.A (call (.builtin "list.append") [acc, y]) (fun _ s₅ => K s₅) E s₄) E s
      | [c] => wpAny (model X.prog X.w) X.A (isTrue c X.env (eval c X.env)) (fun b s₄ => if b = true then wpAny (model X.prog X.w) X.A (eval elt X.env) (fun y s₅ => wpAny (model X.prog X.w) X.A (call (.builtin "list.append") [acc, y]) (fun _ s₆ => K s₆) E s₅) E s₄ else K s₄) E s
      | _ => False)
def tStep0 (te : TE) : TStep := fun τ H R => te τ H fun y H' => R (some y) H'
def tStep1 (tt : TT) (te : TE) : TStep := fun τ H R => tt τ H fun b H1 => if b = true then te τ H1 (fun y H2 => R (some y) H2) else R none H1
theorem pstep0 {X : Cx} {elt : Expr} {te : TE} (hx : X.xe = fun _ _ => False) (h : PE X elt te) : PStep X [] elt (tStep0 te) := by
  intro pins s τ H R acc K E I w k1 k2
  refine wpAny_mono (h pins s τ H _ I w) (fun u s' ⟨y, H', I', r, q⟩ => k1 y u s' H' I' r q) fun _ _ z => ?_
  rw [hx] at z
  exact z.elim
theorem pstep1 {X : Cx} {elt c : Expr} {te : TE} {tt : TT} (hx : X.xe = fun _ _ => False) (h : PE X elt te) (hc : PT X c tt) : PStep X [c] elt (tStep1 tt te) := by
  intro pins s τ H R acc K E I w k1 k2
  have no : ∀ v s, X.xe v s → False := fun v s z => by rw [hx] at z; exact z
  refine wpAny_mono (hc pins s τ H _ I w) (fun b s' ⟨H', I', q⟩ => ?_) fun _ _ z => (no _ _ z).elim
  cases b with
  | true =>
    rw [if_pos rfl] at q ⊢
    exact wpAny_mono (h pins s' τ H' _ I' q) (fun u s2 ⟨y, H2, I2, r, q2⟩ => k1 y u s2 H2 I2 r q2) fun _ _ z => (no _ _ z).elim
  | false =>
    rw [if_neg Bool.false_ne_true] at q ⊢
    exact k2 s' H' I' q
theorem compLoop_goV {prog : Program} {w : World} {A : Around} {R : Result → Shared → Prop} {s : Shared} {elt target iter : Expr} {ifs : List Expr} {scope : Scope} {pos : Pos} {it acc : Value} {env : Env} (J : Nat → Shared → Prop)
    (turn : ∀ n s, J n s → ∀ E : Value → Shared → Prop, wpAny (model prog w) A (pyNext it) (fun r s₁ => (r = none ∧ R (.ok .next) s₁) ∨ ∃ v, r = some v ∧
      wpAny (model prog w) A (letOwnedTupleGo target it v) (fun _ s₂ => wpAny (model prog w) A (assign target env v) (fun _ s₃ => (match ifs with
        | [] => wpAny (model prog w) A (eval elt env) (fun y s₄ => wpAny (model prog w) A (call (.builtin "list.append") [acc, y]) (fun _ s₅ => ∃ m, m < n ∧ J m s₅) E s₄) E s₃
        | [c] => wpAny (model prog w) A (isTrue c env (eval c env)) (fun b s₄ => if b = true then wpAny (model prog w) A (eval elt env) (fun y s₅ => wpAny (model prog w) A (call (.builtin "list.append") [acc, y]) (fun _ s₆ => ∃ m, m < n ∧ J m s₆) E s₅) E s₄ else ∃ m, m < n ∧ J m s₄) E s₃
        | _ => False)) E s₂) E s₁) E s)
    (hl : ifs.length ≤ 1) (n : Nat) (h : J n s) : codeAny (model prog w) A (.compLoop (.ListComp elt [⟨target, iter, ifs, 0⟩] scope pos) 0 it acc env) R s := by
  match ifs, hl with
  | [], _ => exact compLoop_go J turn n h
  | [c], _ => exact compLoop_goI J turn n h
def tCompV (fr : List (Str × Nat)) (n : Nat) (wi : TI) (g : TG) (ts : TStep) : TE := fun σ H Q => wi σ H fun J H1 => ∀ D, H1 D = none → ∃ W : Nat → Nat → St → List V → Hp → Prop, (∃ m, W 0 m (List.replicate n none ++ stF fr σ) [] (upd H1 D (.lst []))) ∧
  ∀ i m τ ys H2, W i m τ ys H2 → (J.stop i H2 ∧ Q (.ref D) H2) ∨ (J.go i H2 ∧ ys.length < sizeLine ∧ ∀ v H3, J.yld i H2 v H3 → g v τ H3 fun τ2 H4 => ts τ2 H4 fun oy H5 => match oy with
    | some y => H5 D = some (.lst ys) ∧ ∃ m', m' < m ∧ W (i + 1) m' τ2 (ys ++ [y]) (upd H5 D (.lst (ys ++ [y])))
    | none => ∃ m', m' < m ∧ W (i + 1) m' τ2 ys H5)
section
variable {X : Cx}
theorem pe_compV {elt iter tg : Expr} {ifs : List Expr} {xs : List Str} {pos : Pos} {scope : Scope} {fr : List (Str × Nat)} {wi : TI} {g : TG} {ts : TStep} (hc : X.calm = true) (hi : PI X tg iter wi) (O : FrOkV X scope xs fr)
    (hg : ∀ (s₀ : Shared) (H₀ : Hp) (fp : List Addr) (pn : List (Addr × Obj)), PG (cxCV X scope xs fr s₀ H₀ fp pn) tg g)
    (hstep : ∀ (s₀ : Shared) (H₀ : Hp) (fp : List Addr) (pn : List (Addr × Obj)), PStep (cxCV X scope xs fr s₀ H₀ fp pn) ifs elt ts) (hlf : ifs.length ≤ 1)
    (hs : ∀ y, foldedSetIterable iter X.env y = pure y := by intro _; rfl) : PE X (.ListComp elt [⟨tg, iter, ifs, 0⟩] scope pos) (tCompV fr xs.length wi g ts) := by
  intro pins s σ H Q I h
  show wpAny (model X.prog X.w) X.A (eval (.ListComp elt [⟨tg, iter, ifs, 0⟩] scope pos) X.env) _ _ s
  rw [eval_ListComp]
  refine wpAny_comprehension_free (use := none) rfl hs (closure_is fun y hy e => I.ok.has _ (.inl (O.frees y hy e))) O.kind O.names (thn (hi pins s σ H _ I h) fun v s1 h1 => thn h1 fun itv s2 h2 => ?_)
  obtain ⟨it, fp, tn, J, H2, rfl, I2, T, st2, f2, k2⟩ := h2
  refine wpAny_newObj_type ?_ (by show 0 ≤ sizeLine; decide)
  have n2 : H2 s2.heap.objs.size = none := I2.hok.fresh (Nat.le_refl _)
  have I3 : Inv X pins σ (upd H2 s2.heap.objs.size (.lst [])) { s2 with heap := s2.heap.push { cls := .type "list", data := .seq ([] : List Value).toArray } } := I2.lnew (t' := s2.toks) .nil (Nat.zero_le _)
  obtain ⟨W, ⟨m0, w0⟩, turn⟩ := k2 _ n2
  generalize hD : s2.heap.objs.size = D at n2 w0 turn I3
  have up3 : ∀ b o, s2.heap.get? b = some o → (s2.heap.push { cls := .type "list", data := .seq ([] : List Value).toArray }).get? b = some o := fun b o e => Heap.get?_push_of_some _ e
  generalize hs3 : ({ s2 with heap := s2.heap.push { cls := .type "list", data := .seq ([] : List Value).toArray } } : Shared) = s3 at I3
  have hh3 : s3.heap = s2.heap.push { cls := .type "list", data := .seq ([] : List Value).toArray } := by rw [← hs3]
  rw [← hh3] at up3
  have st3 : tn 0 s3.heap := T.keep _ _ _ st2 fun b _ o e => up3 b o e
  have f3 : FpIn X pins s3.heap fp := by
    refine ⟨fun b hb => ?_, fun b hb => (f2 b hb).2.1, fun b hb => (f2 b hb).2.2.1, fun b hb => (f2 b hb).2.2.2.1, fun b hb => (f2 b hb).2.2.2.2.1, fun b hb => (f2 b hb).2.2.2.2.2⟩
    obtain ⟨o, e, _⟩ := T.obj _ _ st3 b hb
    exact Heap.lt_size e
  have fn3 : ∀ b ∈ fp, upd H2 D (.lst []) b = none := fun b hb => by
    obtain ⟨o, e, _⟩ := T.obj _ _ st2 b hb
    have ne : b ≠ D := by rw [← hD]; exact Nat.ne_of_lt (Heap.lt_size e)
    rw [upd_ne ne]
    exact (f2 b hb).1
  refine wpAny_newFunctionEnv O.nocell (by intro y hy; simp at hy) (fun h₁ hn1 hs1 => ?_) O.kind
  have k1 : ∀ b o, s3.heap.get? b = some o → h₁.get? b = some o := fun b o e => (hs1.2 b (Nat.ne_of_lt (Heap.lt_size e))).trans (Heap.get?_push_of_some _ e)
  have I4 := cv_start (scope := scope) (xs := xs) (fr := fr) (t := s3.toks + ([] : List (Str × Value)).length) I3 f3 O hn1 k1
  have st4 : tn 0 h₁ := T.keep _ _ _ st3 fun b _ o e => k1 b o e
  have N1 : (cxCV X scope xs fr s3 (upd H2 D (.lst [])) fp (X.pn ++ pins)).N.Nodup := by
    exact O.nd
  have stat : ∀ {H' : Hp}, (∀ b ∈ fp, H' b = none) → ∀ b ∈ fp, FpOk (cxCV X scope xs fr s3 (upd H2 D (.lst [])) fp (X.pn ++ pins)) [] H' b := fun hn b hb =>
    ⟨hn b hb, Nat.ne_of_lt (f3.lt b hb), f3.stack I3 b hb, .inl hb, fun y c e => f3.cl b hb y c (cl_look e), fun p hp => f3.pn b hb p (by
      have : p ∈ (X.pn ++ pins) ++ [] := hp
      rwa [List.append_nil] at this)⟩
  have loop : ∀ s4 : Shared, s4 = { s3 with heap := h₁, toks := s3.toks + ([] : List (Str × Value)).length } →
      codeAny (model X.prog X.w) X.A (.compLoop (.ListComp elt [⟨tg, iter, ifs, 0⟩] scope pos) 0 (.ref it) (.ref D) (compEnvC scope (clOf X.env.cells scope.names []) s3.heap.objs.size X.env))
        (compPost (model X.prog X.w) X.A X.xe none (EP X pins σ Q) (.ref D) s3.heap.objs.size) s4 := by
    rintro s4 rfl
    refine compLoop_goV (fun n s' => ∃ i ys τ H', Inv (cxCV X scope xs fr s3 (upd H2 D (.lst [])) fp (X.pn ++ pins)) [] τ H' s' ∧ tn i s'.heap ∧ (∀ b ∈ fp, H' b = none) ∧ W i n τ ys H') ?_ hlf m0 ⟨0, [], _, _, I4, st4, fn3, w0⟩
    rintro n s5 ⟨i, ys, τ5, H5, I5, st5, fr5, w5⟩ E
    rcases turn i n τ5 ys H5 w5 with ⟨stop, q⟩ | ⟨go, hlen, step⟩
    · refine thn (T.done (cxCV X scope xs fr s3 (upd H2 D (.lst [])) fp (X.pn ++ pins)) rfl rfl rfl hc i [] s5 τ5 H5 E I5 (stat fr5) st5 stop) fun r s6 ⟨hr, I6⟩ => .inl ⟨hr, ?_⟩
      obtain ⟨m, hm, _⟩ := I6.loc
      exact ⟨m, hm, fun h' hb => ⟨.ref D, H5, cv_end I3 f3 I6 hb, rfl, q⟩⟩
    · refine thn (T.item (cxCV X scope xs fr s3 (upd H2 D (.lst [])) fp (X.pn ++ pins)) rfl rfl rfl hc i [] s5 τ5 H5 E I5 (stat fr5) st5 go) fun r s6 ⟨u, hr, h6⟩ => .inr ⟨u, hr, ?_⟩
      refine thn h6 fun _ s7 ⟨y, H7, I7, r7, y7, st7, fr7⟩ => ?_
      have I7' := I7.pinned (stat fr7) (T.obj _ _ st7)
      refine wpAny_mono (hg _ _ _ _ _ s7 τ5 H7 y u _ I7' r7 (step y H7 y7)) (fun _ s8 ⟨τ8, H8, I8, q8⟩ => ?_) fun _ _ z => False.elim z
      have back : ∀ {zs : List V} {G : Hp} {t : Shared} {m' : Nat}, Inv (cxCV X scope xs fr s3 (upd H2 D (.lst [])) fp (X.pn ++ pins)) ([] ++ pinsAt fp s7.heap) τ8 G t → m' < n → W (i + 1) m' τ8 zs G →
          ∃ m, m < n ∧ ∃ i ys τ H', Inv (cxCV X scope xs fr s3 (upd H2 D (.lst [])) fp (X.pn ++ pins)) [] τ H' t ∧ tn i t.heap ∧ (∀ b ∈ fp, H' b = none) ∧ W i m τ ys H' := fun {zs G t m'} I10 hm w9 => by
        refine ⟨m', hm, i + 1, zs, _, _, I10.unpinned, T.keep _ _ _ st7 fun b hb o e => (I10.pin (b, o) (List.mem_append_right _ (List.mem_append_right _ (mem_pinsAt hb e)))).1, fun b hb => ?_, w9⟩
        obtain ⟨o, e, d⟩ := T.obj _ _ st7 b hb
        exact (I10.pin (b, o) (List.mem_append_right _ (List.mem_append_right _ (mem_pinsAt hb e)))).2.1
      refine hstep _ _ _ _ _ s8 τ8 H8 _ (.ref D) (fun s' => ∃ m, m < n ∧ ∃ i ys τ H', Inv (cxCV X scope xs fr s3 (upd H2 D (.lst [])) fp (X.pn ++ pins)) [] τ H' s' ∧ tn i s'.heap ∧ (∀ b ∈ fp, H' b = none) ∧ W i m τ ys H') E I8 q8 (fun z u9 s10 H10 I10 r10 q10 => ?_) fun s9 H9 I9 q9 => ?_
      · obtain ⟨a10, m', hm, w10⟩ := q10
        refine wpAny_mono (mt_append (X := cxCV X scope xs fr s3 (upd H2 D (.lst [])) fp (X.pn ++ pins)) _ s10 _ H10 (.ref D) [z] (.ref D) [u9] (fun v H' => v = .non ∧ H' = upd H10 D (.lst (ys ++ [z]))) I10 rfl (.cons r10 .nil) ⟨D, ys, z, rfl, rfl, a10, hlen, rfl, rfl⟩) (fun _ s11 ⟨v11, H11, I11, _, _, e11⟩ => ?_) fun _ _ z => False.elim z
        subst e11
        exact back I11 hm w10
      · obtain ⟨m', hm, w9⟩ := q9
        exact back I9 hm w9
  subst hs3
  exact codeAny_compStart_list (loop _ rfl) (T.self _ _ _ _ _ st4 (loop _ rfl))
theorem ps_setV {elt iter tg : Expr} {ifs : List Expr} {xs : List Str} {y : Str} {py pos spos : Pos} {scope : Scope} {fr : List (Str × Nat)} {wi : TI} {g : TG} {ts : TStep} {i₀ : Nat} (hN : X.N.Nodup) (hiy : X.N[i₀]? = some y) (hy : Loc X.env.scope y) (hc : X.calm = true) (hi : PI X tg iter wi) (O : FrOkV X scope xs fr)
    (hg : ∀ (s₀ : Shared) (H₀ : Hp) (fp : List Addr) (pn : List (Addr × Obj)), PG (cxCV X scope xs fr s₀ H₀ fp pn) tg g)
    (hstep : ∀ (s₀ : Shared) (H₀ : Hp) (fp : List Addr) (pn : List (Addr × Obj)), PStep (cxCV X scope xs fr s₀ H₀ fp pn) ifs elt ts) (hlf : ifs.length ≤ 1)
    (hsw : swapsWith (.ListComp elt [⟨tg, iter, ifs, 0⟩] scope pos) (some (.Name y py)) spos.line X.env = pure true := by rfl)
    (hf : X.fn y = true ∨ X.env.scope.names.lookup y = some .local := by first | exact .inl rfl | exact .inr rfl | assumption)
    (hs : ∀ y, foldedSetIterable iter X.env y = pure y := by intro _; rfl) : PS X (.Assign [.Name y py] (.ListComp elt [⟨tg, iter, ifs, 0⟩] scope pos) spos) (tAsg (tCompV fr xs.length wi g ts) (gName i₀)) := by
  intro pins s σ H Dn I h
  show wpAny (model X.prog X.w) X.A (exec (.Assign [.Name y py] (.ListComp elt [⟨tg, iter, ifs, 0⟩] scope pos) spos) X.env) _ _ s
  rw [exec_Assign_Name_used _ _ _ _ hsw]; refine wpAny_bind (wpAny_standAt (wpAny_bind ?_))
  show wpAny _ X.A (do let _ ← comprehension (.ListComp elt [⟨tg, iter, ifs, 0⟩] scope pos) scope X.env _ (newList []) false (eval iter X.env) (some (assign (.Name y py) X.env))) _ _ s
  refine wpAny_bind (wpAny_mono (wpAny_comprehension_free (use := some (assign (.Name y py) X.env)) (Q := fun _ s' => SP X pins Dn .next s') rfl hs (closure_is fun y hy e => I.ok.has _ (.inl (O.frees y hy e))) O.kind O.names
    (thn (hi pins s σ H _ I h) fun v s1 h1 => thn h1 fun itv s2 h2 => ?_)) (fun _ s' hq => wpAny_pure (wpAny_pure hq)) fun _ _ e => e)
  obtain ⟨it, fp, tn, J, H2, rfl, I2, T, st2, f2, k2⟩ := h2
  refine wpAny_newObj_type ?_ (by show 0 ≤ sizeLine; decide)
  have n2 : H2 s2.heap.objs.size = none := I2.hok.fresh (Nat.le_refl _)
  have I3 : Inv X pins σ (upd H2 s2.heap.objs.size (.lst [])) { s2 with heap := s2.heap.push { cls := .type "list", data := .seq ([] : List Value).toArray } } := I2.lnew (t' := s2.toks) .nil (Nat.zero_le _)
  obtain ⟨W, ⟨m0, w0⟩, turn⟩ := k2 _ n2
  generalize hD : s2.heap.objs.size = D at n2 w0 turn I3
  have up3 : ∀ b o, s2.heap.get? b = some o → (s2.heap.push { cls := .type "list", data := .seq ([] : List Value).toArray }).get? b = some o := fun b o e => Heap.get?_push_of_some _ e
  generalize hs3 : ({ s2 with heap := s2.heap.push { cls := .type "list", data := .seq ([] : List Value).toArray } } : Shared) = s3 at I3
  have hh3 : s3.heap = s2.heap.push { cls := .type "list", data := .seq ([] : List Value).toArray } := by rw [← hs3]
  rw [← hh3] at up3
  have st3 : tn 0 s3.heap := T.keep _ _ _ st2 fun b _ o e => up3 b o e
  have f3 : FpIn X pins s3.heap fp := by
    refine ⟨fun b hb => ?_, fun b hb => (f2 b hb).2.1, fun b hb => (f2 b hb).2.2.1, fun b hb => (f2 b hb).2.2.2.1, fun b hb => (f2 b hb).2.2.2.2.1, fun b hb => (f2 b hb).2.2.2.2.2⟩
    obtain ⟨o, e, _⟩ := T.obj _ _ st3 b hb
    exact Heap.lt_size e
  have fn3 : ∀ b ∈ fp, upd H2 D (.lst []) b = none := fun b hb => by
    obtain ⟨o, e, _⟩ := T.obj _ _ st2 b hb
    have ne : b ≠ D := by rw [← hD]; exact Nat.ne_of_lt (Heap.lt_size e)
    rw [upd_ne ne]
    exact (f2 b hb).1
  refine wpAny_newFunctionEnv O.nocell (by intro y hy; simp at hy) (fun h₁ hn1 hs1 => ?_) O.kind
  have k1 : ∀ b o, s3.heap.get? b = some o → h₁.get? b = some o := fun b o e => (hs1.2 b (Nat.ne_of_lt (Heap.lt_size e))).trans (Heap.get?_push_of_some _ e)
  have I4 := cv_start (scope := scope) (xs := xs) (fr := fr) (t := s3.toks + ([] : List (Str × Value)).length) I3 f3 O hn1 k1
  have st4 : tn 0 h₁ := T.keep _ _ _ st3 fun b _ o e => k1 b o e
  have N1 : (cxCV X scope xs fr s3 (upd H2 D (.lst [])) fp (X.pn ++ pins)).N.Nodup := by
    exact O.nd
  have stat : ∀ {H' : Hp}, (∀ b ∈ fp, H' b = none) → ∀ b ∈ fp, FpOk (cxCV X scope xs fr s3 (upd H2 D (.lst [])) fp (X.pn ++ pins)) [] H' b := fun hn b hb =>
    ⟨hn b hb, Nat.ne_of_lt (f3.lt b hb), f3.stack I3 b hb, .inl hb, fun y c e => f3.cl b hb y c (cl_look e), fun p hp => f3.pn b hb p (by
      have : p ∈ (X.pn ++ pins) ++ [] := hp
      rwa [List.append_nil] at this)⟩
  have loop : ∀ s4 : Shared, s4 = { s3 with heap := h₁, toks := s3.toks + ([] : List (Str × Value)).length } →
      codeAny (model X.prog X.w) X.A (.compLoop (.ListComp elt [⟨tg, iter, ifs, 0⟩] scope pos) 0 (.ref it) (.ref D) (compEnvC scope (clOf X.env.cells scope.names []) s3.heap.objs.size X.env))
        (compPost (model X.prog X.w) X.A X.xe (some (assign (.Name y py) X.env)) (fun _ s' => SP X pins Dn .next s') (.ref D) s3.heap.objs.size) s4 := by
    rintro s4 rfl
    refine compLoop_goV (fun n s' => ∃ i ys τ H', Inv (cxCV X scope xs fr s3 (upd H2 D (.lst [])) fp (X.pn ++ pins)) [] τ H' s' ∧ tn i s'.heap ∧ (∀ b ∈ fp, H' b = none) ∧ W i n τ ys H') ?_ hlf m0 ⟨0, [], _, _, I4, st4, fn3, w0⟩
    rintro n s5 ⟨i, ys, τ5, H5, I5, st5, fr5, w5⟩ E
    rcases turn i n τ5 ys H5 w5 with ⟨stop, q⟩ | ⟨go, hlen, step⟩
    · refine thn (T.done (cxCV X scope xs fr s3 (upd H2 D (.lst [])) fp (X.pn ++ pins)) rfl rfl rfl hc i [] s5 τ5 H5 E I5 (stat fr5) st5 stop) fun r s6 ⟨hr, I6⟩ => .inl ⟨hr, ?_⟩
      obtain ⟨m, hm, _⟩ := I6.loc
      have lt3 : ∀ b o, s3.heap.get? b = some o → b ≠ s3.heap.objs.size := fun b o e => Nat.ne_of_lt (Heap.lt_size e)
      have nL : s3.heap.objs.size ≠ X.env.locals := fun z => by
        obtain ⟨_, ⟨o, _, _, ho, _⟩, _⟩ := I3.loc
        exact lt3 _ o ho z.symm
      have nC : ∀ x c, X.env.cells.lookup x = some c → c ≠ s3.heap.objs.size := fun x c e => by
        obtain ⟨_, o, ho, _⟩ := I3.cell x c e
        exact lt3 _ o ho
      have nP : ∀ p ∈ X.pn ++ pins, p.1 ≠ s3.heap.objs.size := fun p hp => lt3 _ _ (I3.pin p hp).1
      have fC : H5 s3.heap.objs.size = none := I6.free
      have J6 : Inv X pins σ H5 s6 := cv_end I3 f3 I6 (Heap.SameBut.refl _ _)
      show wpAny _ X.A (assign (.Name y py) X.env (.ref D)) _ _ s6
      refine wpAny_assign_Name (store_ok2 J6 hN hiy hy (show RelV (.ref D) (.ref D) from rfl) (fun s7 J7 hsb => ?_) hf)
      obtain ⟨a, hsb, ha⟩ := hsb
      have na : s3.heap.objs.size ≠ a := by
        rcases ha with rfl | ha
        · exact nL
        · exact (nC _ _ ha).symm
      refine ⟨m, hm.sameBut hsb na, fun h' hb => ?_⟩
      exact ⟨_, H5, J7.turned (t' := s7.toks) (it := s3.heap.objs.size) (fun b o hb' e => (hb.2 b hb').trans e) fC nL (.inr I3.sz) nC nP, q⟩
    · refine thn (T.item (cxCV X scope xs fr s3 (upd H2 D (.lst [])) fp (X.pn ++ pins)) rfl rfl rfl hc i [] s5 τ5 H5 E I5 (stat fr5) st5 go) fun r s6 ⟨u, hr, h6⟩ => .inr ⟨u, hr, ?_⟩
      refine thn h6 fun _ s7 ⟨yi, H7, I7, r7, y7, st7, fr7⟩ => ?_
      have I7' := I7.pinned (stat fr7) (T.obj _ _ st7)
      refine wpAny_mono (hg _ _ _ _ _ s7 τ5 H7 yi u _ I7' r7 (step yi H7 y7)) (fun _ s8 ⟨τ8, H8, I8, q8⟩ => ?_) fun _ _ z => False.elim z
      have back : ∀ {zs : List V} {G : Hp} {t : Shared} {m' : Nat}, Inv (cxCV X scope xs fr s3 (upd H2 D (.lst [])) fp (X.pn ++ pins)) ([] ++ pinsAt fp s7.heap) τ8 G t → m' < n → W (i + 1) m' τ8 zs G →
          ∃ m, m < n ∧ ∃ i ys τ H', Inv (cxCV X scope xs fr s3 (upd H2 D (.lst [])) fp (X.pn ++ pins)) [] τ H' t ∧ tn i t.heap ∧ (∀ b ∈ fp, H' b = none) ∧ W i m τ ys H' := fun {zs G t m'} I10 hm w9 => by
        refine ⟨m', hm, i + 1, zs, _, _, I10.unpinned, T.keep _ _ _ st7 fun b hb o e => (I10.pin (b, o) (List.mem_append_right _ (List.mem_append_right _ (mem_pinsAt hb e)))).1, fun b hb => ?_, w9⟩
        obtain ⟨o, e, d⟩ := T.obj _ _ st7 b hb
        exact (I10.pin (b, o) (List.mem_append_right _ (List.mem_append_right _ (mem_pinsAt hb e)))).2.1
      refine hstep _ _ _ _ _ s8 τ8 H8 _ (.ref D) (fun s' => ∃ m, m < n ∧ ∃ i ys τ H', Inv (cxCV X scope xs fr s3 (upd H2 D (.lst [])) fp (X.pn ++ pins)) [] τ H' s' ∧ tn i s'.heap ∧ (∀ b ∈ fp, H' b = none) ∧ W i m τ ys H') E I8 q8 (fun z u9 s10 H10 I10 r10 q10 => ?_) fun s9 H9 I9 q9 => ?_
      · obtain ⟨a10, m', hm, w10⟩ := q10
        refine wpAny_mono (mt_append (X := cxCV X scope xs fr s3 (upd H2 D (.lst [])) fp (X.pn ++ pins)) _ s10 _ H10 (.ref D) [z] (.ref D) [u9] (fun v H' => v = .non ∧ H' = upd H10 D (.lst (ys ++ [z]))) I10 rfl (.cons r10 .nil) ⟨D, ys, z, rfl, rfl, a10, hlen, rfl, rfl⟩) (fun _ s11 ⟨v11, H11, I11, _, _, e11⟩ => ?_) fun _ _ z => False.elim z
        subst e11
        exact back I11 hm w10
      · obtain ⟨m', hm, w9⟩ := q9
        exact back I9 hm w9
  subst hs3
  exact codeAny_compStart_list (loop _ rfl) (T.self _ _ _ _ _ st4 (loop _ rfl))
end
end Fr

set_option Elab.async false
set_option linter.all false
set_option maxRecDepth 100000
/-! Comprehensions over data. -/
namespace L3
open PySem PySem.Spec L2
def frzs : List Nat → List Sl → Option (List Sl × List Sl)
  | [], δ => some ([], δ)
  | j :: js, δ => match δ[j]? with
    | some (.d x) => (match frzs js δ with
      | some (l, δ') => some (.d x :: l, δ')
      | none => none)
    | some (.own o) => (match o.frz with
      | some x => (match frzs js (δ.set j (.d x)) with
        | some (l, δ') => some (.d x :: l, δ')
        | none => none)
      | none => none)
    | _ => none
theorem Lk.frzs {K : PySem.W.Frag} {F0 H0 H : Hp} {B : Option Addr} {σ : St} : ∀ {js : List Nat} {δ l δ' : List Sl} {F : Hp}, Lk K F0 H0 B σ δ F H → frzs js δ = some (l, δ') →
    ∃ F', Lk K F0 H0 B σ δ' F' H ∧ Same F F' ∧ l.length = js.length ∧ ∀ (k : Nat) (s : Sl), l[k]? = some s → ∃ x v j, js[k]? = some j ∧ s = .d x ∧ σ[j]? = some (some v) ∧ Rp K F' v x
  | [], δ, l, δ', F, L, e => by
    cases e
    exact ⟨F, L, Same.refl _, rfl, fun k s h => by simp at h⟩
  | j :: js, δ, l, δ', F, L, e => by
    unfold L3.frzs at e
    cases ej : δ[j]? with
    | none => rw [ej] at e; cases e
    | some s =>
      rw [ej] at e
      cases s with
      | un => cases e
      | bor o => cases e
      | d x =>
        dsimp only at e
        cases er : L3.frzs js δ with
        | none => rw [er] at e; cases e
        | some p =>
          obtain ⟨l', δ2⟩ := p
          rw [er] at e
          cases e
          obtain ⟨F', L', s', len, all⟩ := Lk.frzs L er
          obtain ⟨v, ev, rv⟩ := L.sl j _ ej
          refine ⟨F', L', s', by simp [len], fun k s hk => ?_⟩
          cases k with
          | zero => cases hk; exact ⟨x, v, j, rfl, rfl, ev, rv.same s'⟩
          | succ k =>
            obtain ⟨x1, v1, j1, a1, a2, a3, a4⟩ := all k s (by simpa using hk)
            exact ⟨x1, v1, j1, by simpa using a1, a2, a3, a4⟩
      | own o =>
        dsimp only at e
        cases eo : o.frz with
        | none => rw [eo] at e; cases e
        | some x =>
          rw [eo] at e
          dsimp only at e
          obtain ⟨F1, v, L1, s1, ev, rv⟩ := L.froz ej eo
          cases er : L3.frzs js (δ.set j (.d x)) with
          | none => rw [er] at e; cases e
          | some p =>
            obtain ⟨l', δ2⟩ := p
            rw [er] at e
            cases e
            obtain ⟨F', L', s', len, all⟩ := Lk.frzs L1 er
            refine ⟨F', L', s1.trans s', by simp [len], fun k s hk => ?_⟩
            cases k with
            | zero => cases hk; exact ⟨x, v, j, rfl, rfl, ev, rv.same s'⟩
            | succ k =>
              obtain ⟨x1, v1, j1, a1, a2, a3, a4⟩ := all k s (by simpa using hk)
              exact ⟨x1, v1, j1, by simpa using a1, a2, a3, a4⟩
/-- what is left of a slot that is no data -/
def Sl.wipe : Sl → Sl
  | .d x => .d x
  | _ => .un
abbrev T3P := List Sl → (Option D → List Sl → Prop) → Prop
abbrev Z0 : Zk := fun _ _ => False
def st0 (te : T3E) : T3P := fun δ Q => te Z0 δ fun r δ' => match r.frz with
  | some y => Q (some y) δ'
  | none => False
def st1 (tt : T3T) (te : T3E) : T3P := fun δ Q => tt Z0 δ fun b δ1 => Br b (te Z0 δ1 fun r δ' => match r.frz with
  | some y => Q (some y) δ'
  | none => False) (Q none δ1)
def compL (g : T3G) (ts : T3P) : List D → List Sl → (List D → Prop) → Prop
  | [], _, Q => Q []
  | x :: xs, δ, Q => g x δ fun δ1 => ts δ1 fun oy δ2 => match oy with
    | some y => compL g ts xs (δ2.map Sl.wipe) fun ys => Q (y :: ys)
    | none => compL g ts xs (δ2.map Sl.wipe) Q
def tCm (n : Nat) (js : List Nat) (ti : T3I) (g : T3G) (ts : T3P) : T3E := fun Z δ Q => ti Z δ fun xs δ1 => match frzs js δ1 with
  | some (l, δ2) => xs.length ≤ 1000000 ∧ compL g ts xs (List.replicate n .un ++ l) fun ys => Q (.own (.lst ys)) δ2
  | none => False
def LP (K : PySem.W.Frag) (ts : T3P) : Fr.TStep := fun τ H R => ∃ F0 H0 B δ F P, Lk K F0 H0 B τ δ F H ∧ ts δ P ∧ ∀ oy δ' F' H', P oy δ' → Lk K F0 H0 B τ δ' F' H' → Same F F' → (match oy with
  | some y => ∀ v, Rp K F' v y → R (some v) H'
  | none => R none H')
structure P3 (X : Cx) (ifs : List Expr) (elt : Expr) (ts : T3P) : Prop where
  h : Fr.PStep X ifs elt (LP X.K ts)
theorem pstep_imp {X : Cx} {ifs : List Expr} {elt : Expr} {t t' : Fr.TStep} (h : Fr.PStep X ifs elt t) (i : ∀ τ H R, t' τ H R → t τ H R) : Fr.PStep X ifs elt t' := fun pins s τ H R acc K E I w k1 k2 => h pins s τ H R acc K E I (i _ _ _ w) k1 k2
/-- with the entry left open -/
theorem pe_ex {X : Cx} {e : Expr} {ι : Type} {t : ι → TE} (h : ∀ i, PE X e (t i)) : PE X e fun σ H Q => ∃ i, t i σ H Q := fun pins s σ H Q I ⟨i, w⟩ => h i pins s σ H Q I w
theorem pt_ex {X : Cx} {e : Expr} {ι : Type} {t : ι → TT} (h : ∀ i, PT X e (t i)) : PT X e fun σ H Q => ∃ i, t i σ H Q := fun pins s σ H Q I ⟨i, w⟩ => h i pins s σ H Q I w
theorem p_st0 {X : Cx} {elt : Expr} {te : T3E} (hx : X.xe = fun _ _ => False) (h : E3 X E0 elt te) : P3 X [] elt (st0 te) := by
  refine ⟨pstep_imp (Fr.pstep0 hx (pe_ex (ι := Hp × Hp × Option Addr) fun i => h.toD.h i.1 i.2.1 i.2.2)) fun τ H R ⟨F0, H0, B, δ, F, P, L, w, q⟩ => ?_⟩
  refine ⟨(F0, H0, B), δ, F, Z0, fun x δ' => P (some x) δ', L, (fun _ _ _ _ _ _ z => z.elim), ?_, fun x δ' v F' H' p L' s r => q (some x) δ' F' H' p L' s v r⟩
  exact w
theorem p_st1 {X : Cx} {elt c : Expr} {te : T3E} {tt : T3T} (hx : X.xe = fun _ _ => False) (h : E3 X E0 elt te) (hc : C3 X E0 c tt) : P3 X [c] elt (st1 tt te) := by
  refine ⟨pstep_imp (Fr.pstep1 hx (pe_ex (ι := Hp × Hp × Option Addr) fun i => h.toD.h i.1 i.2.1 i.2.2) (pt_ex (ι := Hp × Hp × Option Addr) fun i => hc.h i.1 i.2.1 i.2.2)) fun τ H R ⟨F0, H0, B, δ, F, P, L, w, q⟩ => ?_⟩
  refine ⟨(F0, H0, B), δ, F, Z0, _, L, (fun _ _ _ _ _ _ z => z.elim), w, fun b δ1 F1 H1 p1 L1 s1 => ?_⟩
  cases b with
  | true =>
    rw [if_pos rfl]
    exact ⟨(F0, H0, B), δ1, F1, Z0, fun x δ' => P (some x) δ', L1, (fun _ _ _ _ _ _ z => z.elim), p1, fun x δ' v F' H' p L' s r => q (some x) δ' F' H' p L' (s1.trans s) v r⟩
  | false =>
    rw [if_neg Bool.false_ne_true]
    exact q none δ1 F1 H1 p1 L1 s1
/-- a state of data alone, seen anew -/
theorem Lk.fresh {K : PySem.W.Frag} {F0 H0 F H F' H' : Hp} {B : Option Addr} {τ : St} {δ : List Sl} (L : Lk K F0 H0 B τ δ F H) (s1 : Same F F') (s2 : Same F' H') : Lk K F' H' none τ (δ.map Sl.wipe) F' H' := by
  have at' : ∀ (i : Nat) (s : Sl), (δ.map Sl.wipe)[i]? = some s → s = .un ∨ ∃ x, s = .d x ∧ δ[i]? = some (.d x) := fun i s e => by
    rw [List.getElem?_map] at e
    cases q : δ[i]? with
    | none => rw [q] at e; cases e
    | some t =>
      rw [q] at e
      cases e
      cases t with
      | d x => exact .inr ⟨x, rfl, rfl⟩
      | un => exact .inl rfl
      | own o => exact .inl rfl
      | bor o => exact .inl rfl
  refine ⟨s2, Same.refl _, fun _ _ e _ => e, fun _ _ => rfl, fun _ e => (by cases e), by simp [L.len], fun i s e => ?_, fun i j o o' e1 _ _ => ?_, fun i j o o' e1 _ => ?_, L.tbF.same s1⟩
  · rcases at' i s e with rfl | ⟨x, rfl, ex⟩
    · trivial
    · obtain ⟨v, ev, rv⟩ := L.sl i _ ex
      exact ⟨v, ev, rv.same s1⟩
  · rcases at' i _ e1 with z | ⟨x, z, _⟩ <;> cases z
  · rcases at' i _ e1 with z | ⟨x, z, _⟩ <;> cases z
theorem pg_ex {X : Cx} {tg : Expr} {ι : Type} {t : ι → TG} (h : ∀ i, PG X tg (t i)) : PG X tg fun v σ H Q => ∃ i, t i v σ H Q := fun pins s σ H v u Q I r ⟨i, w⟩ => h i pins s σ H v u Q I r w
/-- what a block walks: it may lean on all that stands at its start -/
structure ItOkH (K : PySem.W.Frag) (F1 H1 : Hp) (J : It) (xs : List D) : Prop where
  go : ∀ i F H, Same F1 F → Same F H → Same H1 H → i < xs.length → J.go i H
  yld : ∀ i F H x H', Same F1 F → Same F H → Same H1 H → i < xs.length → J.yld i H x H' → ∃ F' d, Same F F' ∧ Same F' H' ∧ Same H H' ∧ (∀ a, H a ≠ none → F' a = F a) ∧ xs[i]? = some d ∧ Rp K F' x d
  stop : ∀ F H, Same F1 F → Same F H → Same H1 H → J.stop xs.length H
theorem ItOk.h {K : PySem.W.Frag} {F1 H1 : Hp} {J : It} {xs : List D} (h : ItOk K F1 J xs) : ItOkH K F1 H1 J xs := ⟨fun i F H a b _ c => h.go i F H a b c, fun i F H x H' a b _ c d => h.yld i F H x H' a b c d, fun F H a b _ => h.stop F H a b⟩
def LIc (K : PySem.W.Frag) (E : XK) (F0 H0 : Hp) (B : Option Addr) (t : T3I) : TI := fun σ H R => ∃ δ F Z P, Lk K F0 H0 B σ δ F H ∧ ZOk K E F0 H0 B Z ∧ t Z δ P ∧ ∀ xs δ' F' H' J, P xs δ' → Lk K F0 H0 B σ δ' F' H' → Same F F' → ItOkH K F' H' J xs → R J H'
structure I3c (X : Cx) (E : XK) (tg iter : Expr) (t : T3I) : Prop where
  h : ∀ F0 H0 B, PI X tg iter (LIc X.K E F0 H0 B t)
theorem I3.toC {X : Cx} {E : XK} {tg iter : Expr} {t : T3I} (h : I3 X E tg iter t) : I3c X E tg iter t := ⟨fun F0 H0 B => pi_imp (h.h F0 H0 B) fun σ H R hh => ex4 hh fun δ F Z P L z w q => ⟨δ, F, Z, P, L, z, w, fun xs δ' F' H' J p L' s it => q xs δ' F' H' J p L' s it.h⟩⟩
def tILN (i : Nat) : T3I := fun Z δ Q => match gl δ i with
  | some xs => Q xs δ
  | none => False
theorem ic_listN (i : Nat) {X : Cx} {E : XK} {tg : Expr} {x : Str} {p : Pos} (hN : X.N[i]? = some x := by rfl) (hv : Vis X.env.scope x := by first | exact Or.inl rfl | exact Or.inr (Or.inl rfl) | exact Or.inr (Or.inr rfl)) (hd : (x == ("__debug__" : Str)) = false := by decide)
    (hcd : (x == ("__classdict__" : Str)) = false := by decide) : I3c X E tg (.Name x p) (tILN i) :=
  ⟨fun F0 H0 B => pi_imp (pi_list (pe_var hN hv hd hcd)) fun σ H R hh => ex4 hh fun δ F Z P L z w q => by
    unfold tILN at w
    cases e0 : L3.gl δ i with
    | none => rw [e0] at w; exact w.elim
    | some xs =>
      rw [e0] at w
      obtain ⟨a, vs, e1, sq, rs⟩ := L.gl e0
      refine ⟨.ref a, e1, a, rfl, ⟨_, sq⟩, q xs δ F H _ w L (Same.refl _) ⟨fun i F2 H2 a1 a2 a3 lt => ?_, fun i F2 H2 y H3 a1 a2 a3 lt yy => ?_, fun F2 H2 a1 a2 a3 => ⟨_, a3.seq sq, by rw [rs.len]; exact Nat.le_refl _⟩⟩⟩
      · obtain ⟨v, hv, _⟩ := rs.at (List.getElem?_eq_getElem lt)
        exact ⟨_, v, a3.seq sq, hv⟩
      · obtain ⟨rfl, y2⟩ := yy
        have hv := y2 _ (a3.seq sq)
        obtain ⟨d, e1, r1⟩ := rs.at' hv
        exact ⟨F2, d, Same.refl _, a2, Same.refl _, fun _ _ => rfl, e1, r1.same a1⟩⟩
theorem lo_comp {K : PySem.W.Frag} {E : XK} {F0 H0 : Hp} {B : Option Addr} {n : Nat} {fr : List (Str × Nat)} {ti : T3I} {g : T3G} {ts : T3P} {σ : St} {H : Hp} {Q : VK} (h : LE K E F0 H0 B (tCm n (fr.map (·.2)) ti g ts) σ H Q) :
    Fr.tCompV fr n (LIc K E F0 H0 B ti) (fun v σ H Q => ∃ i : Hp × Hp × Option Addr, LG K i.1 i.2.1 i.2.2 g v σ H Q) (LP K ts) σ H Q := by
  obtain ⟨δ, F, Z, P, L, z, w, q⟩ := h
  refine ⟨δ, F, Z, _, L, z, w, fun xs δ1 F1 H1 J p1 L1 s1 it D hD => ?_⟩
  cases ef : L3.frzs (fr.map (·.2)) δ1 with
  | none => rw [ef] at p1; exact p1.elim
  | some p0 =>
    obtain ⟨l, δ2⟩ := p0
    rw [ef] at p1
    obtain ⟨hx, p1⟩ := p1
    obtain ⟨F2, L2, s2, len, all⟩ := L1.frzs ef
    have sD : Same H1 (upd H1 D (.lst [])) := Fr.Same.new hD
    have fD : F2 D = none := (L2.fr0 hD).2
    have Li : Lk K F2 (upd H1 D (.lst [])) none (List.replicate n none ++ Fr.stF fr σ) (List.replicate n .un ++ l) F2 (upd H1 D (.lst [])) := by
      have at' : ∀ (i : Nat) (s : Sl), (List.replicate n Sl.un ++ l)[i]? = some s → s = .un ∨ (n ≤ i ∧ l[i - n]? = some s) := fun i s e => by
        by_cases lt : i < n
        · rw [List.getElem?_append_left (by simpa using lt), List.getElem?_replicate] at e
          rw [if_pos lt] at e
          exact .inl (Option.some.inj e).symm
        · rw [List.getElem?_append_right (by simpa using lt), List.length_replicate] at e
          exact .inr ⟨by omega, e⟩
      refine ⟨L2.fh.trans sD, Same.refl _, fun _ _ e _ => e, fun _ _ => rfl, fun _ e => (by cases e), by simp [len, Fr.stF], fun i s e => ?_, fun i j o o' e1 _ _ => ?_, fun i j o o' e1 _ => ?_, L2.tbF⟩
      · rcases at' i s e with rfl | ⟨ni, el⟩
        · trivial
        · obtain ⟨x, v, j, a1, rfl, a3, a4⟩ := all _ _ el
          refine ⟨v, ?_, a4⟩
          rw [List.getElem?_append_right (by simpa using ni), List.length_replicate]
          unfold Fr.stF
          rw [List.getElem?_map] at a1 ⊢
          cases eq : fr[i - n]? with
          | none => rw [eq] at a1; cases a1
          | some qq =>
            rw [eq] at a1
            have a1 : qq.2 = j := by simpa using a1
            show some ((σ[qq.2]?).join) = _
            rw [a1, a3]
            rfl
      · rcases at' i _ e1 with z1 | ⟨ni, el⟩
        · cases z1
        · obtain ⟨x, v, j, a1, a2, a3, a4⟩ := all _ _ el
          cases a2
      · rcases at' i _ e1 with z1 | ⟨ni, el⟩
        · cases z1
        · obtain ⟨x, v, j, a1, a2, a3, a4⟩ := all _ _ el
          cases a2
    refine ⟨fun i m τ ys H => m = xs.length - i ∧ i ≤ xs.length ∧ ys.length ≤ i ∧ ∃ δi F zs, Lk K F H none τ δi F H ∧ Same F2 F ∧ Same F H ∧ Same H1 (upd H D (.lst ys)) ∧ (∀ a, H1 a ≠ none → F a = F2 a) ∧ F D = none ∧ H D = some (.lst ys) ∧ Rps K F ys zs ∧ compL g ts (xs.drop i) δi fun ws => P (.own (.lst (zs ++ ws))) δ2,
      ⟨xs.length, by simp, Nat.zero_le _, Nat.zero_le _, _, F2, [], Li, Same.refl _, L2.fh.trans sD, ?_, fun _ _ => rfl, fD, upd_same, .nil, p1⟩, ?_⟩
    · intro a u ea
      rw [upd_upd]
      exact sD a u ea
    rintro i m τ ys G ⟨rfl, hi, hy, δi, F3, zs, L3, s3, s3h, h1g, f3, fD3, hD3, rs, pc⟩
    have sG : Same H1 G := fun a u ea => by
      have := h1g a u ea
      by_cases e : a = D
      · subst e; rw [hD] at ea; cases ea
      · rwa [upd_ne e] at this
    by_cases lt : i < xs.length
    · refine .inr ⟨it.go i F3 G (s2.trans s3) s3h sG lt, line_big (by omega), fun v G2 yv => ?_⟩
      obtain ⟨F4, d, a1, a2, a3, a4, a5, a6⟩ := it.yld i F3 G v G2 (s2.trans s3) s3h sG lt yv
      have ed : xs.drop i = d :: xs.drop (i + 1) := by
        rw [List.drop_eq_getElem_cons lt, (List.getElem?_eq_some_iff.mp a5).2]
      rw [ed] at pc
      have fD4 : F4 D = none := by rw [a4 D (by rw [hD3]; intro z; cases z)]; exact fD3
      have hD4 : G2 D = some (.lst ys) := a3 _ _ hD3
      have L4 : Lk K F3 G none τ δi F4 G2 := L3.grow a1 a2 a3 a4
      refine ⟨(F3, G, none), δi, F4, d, _, L4, a6, pc, fun τ5 δ5 F5 G5 p5 L5 s5 => ⟨F3, G, none, δ5, F5, _, L5, p5, fun oy δ6 F6 G6 p6 L6 s6 => ?_⟩⟩
      have hD6 : G6 D = some (.lst ys) := L6.h0 D _ hD3 fun z => by cases z
      have fD6 : F6 D = none := by rw [L6.ff D (by rw [hD3]; intro z; cases z)]; exact fD3
      have s36 : Same F3 F6 := L6.f0
      have g6 : Same G G6 := fun a u ea => L6.h0 a u ea fun z => by cases z
      have nf6 : ∀ a, H1 a ≠ none → F6 a = F2 a := fun a ha => by
        rw [← f3 a ha]
        refine L6.ff a fun z => ?_
        cases e : H1 a with
        | none => exact ha e
        | some u => rw [sG a u e] at z; cases z
      cases oy with
      | none =>
        refine ⟨_, by omega, rfl, lt, by omega, _, F6, zs, L6.fresh (Same.refl _) L6.fh, s3.trans s36, L6.fh, fun a u ea => ?_, nf6, fD6, hD6, rs.same s36, p6⟩
        by_cases e : a = D
        · subst e; rw [hD] at ea; cases ea
        · rw [upd_ne e]; exact g6 a u (sG a u ea)
      | some y =>
        intro v6 r6
        have sU : Same F6 (upd G6 D (.lst (ys ++ [v6]))) := fun a u ea => by
          have : a ≠ D := by rintro rfl; rw [fD6] at ea; cases ea
          rw [upd_ne this]; exact L6.fh a u ea
        refine ⟨hD6, _, by omega, rfl, lt, by simp; omega, _, F6, zs ++ [y], L6.fresh (Same.refl _) sU, s3.trans s36, sU, fun a u ea => ?_, nf6, fD6, upd_same, (rs.same s36).append (.one r6), ?_⟩
        · by_cases e : a = D
          · subst e; rw [hD] at ea; cases ea
          · rw [upd_ne e, upd_ne e]; exact g6 a u (sG a u ea)
        · have e2 : (fun ws => P (.own (.lst (zs ++ [y] ++ ws))) δ2) = fun ws => P (.own (.lst (zs ++ y :: ws))) δ2 := by
            funext ws
            rw [List.append_assoc]
            rfl
          rw [e2]
          exact p6
    · have e : i = xs.length := by omega
      subst e
      rw [List.drop_length] at pc
      refine .inl ⟨it.stop F3 G (s2.trans s3) s3h sG, ?_⟩
      have pc : P (.own (.lst (zs ++ []))) δ2 := pc
      rw [List.append_nil] at pc
      have L5 : Lk K F0 H0 B σ δ2 F3 G := L2.grow s3 s3h sG f3
      refine q _ δ2 _ F3 G pc L5 (s1.trans (s2.trans s3)) ⟨D, rfl, fD3, (L2.fr0 hD).1, ⟨ys, hD3, rs⟩, fun j o' ej zz => ?_⟩
      obtain ⟨a', e1, _, _, w'⟩ := L2.sl j _ ej
      rw [zz] at e1
      cases e1
      obtain ⟨ho, eh⟩ := w'.there
      rw [hD] at eh
      cases eh
section
variable {X : Cx} {E : XK} {elt iter tg : Expr} {ifs : List Expr} {xs : List Str} {pos : Pos} {scope : Scope} {fr : List (Str × Nat)} {ti : T3I} {g : T3G} {ts : T3P}
theorem e_comp (hc : X.calm = true) (hi : I3c X E tg iter ti) (O : Fr.FrOkV X scope xs fr)
    (hg : ∀ (s₀ : Shared) (H₀ : Hp) (fp : List Addr) (pn : List (Addr × Obj)), G3 (Fr.cxCV X scope xs fr s₀ H₀ fp pn) tg g)
    (hstep : ∀ (s₀ : Shared) (H₀ : Hp) (fp : List Addr) (pn : List (Addr × Obj)), P3 (Fr.cxCV X scope xs fr s₀ H₀ fp pn) ifs elt ts) (hlf : ifs.length ≤ 1 := by decide)
    (hs : ∀ y, foldedSetIterable iter X.env y = pure y := by intro _; rfl) : E3 X E (.ListComp elt [⟨tg, iter, ifs, 0⟩] scope pos) (tCm xs.length (fr.map (·.2)) ti g ts) :=
  ⟨fun F0 H0 B => pe_imp (Fr.pe_compV hc (hi.h F0 H0 B) O (fun s₀ H₀ fp pn => pg_ex (ι := Hp × Hp × Option Addr) fun i => (hg s₀ H₀ fp pn).h i.1 i.2.1 i.2.2) (fun s₀ H₀ fp pn => (hstep s₀ H₀ fp pn).h) hlf hs) fun _ _ _ h => lo_comp h⟩
theorem s_comp (i₀ : Nat) {y : Str} {py spos : Pos} (hN : X.N.Nodup) (hiy : X.N[i₀]? = some y) (hy : Loc X.env.scope y) (hc : X.calm = true) (hi : I3c X E tg iter ti) (O : Fr.FrOkV X scope xs fr)
    (hg : ∀ (s₀ : Shared) (H₀ : Hp) (fp : List Addr) (pn : List (Addr × Obj)), G3 (Fr.cxCV X scope xs fr s₀ H₀ fp pn) tg g)
    (hstep : ∀ (s₀ : Shared) (H₀ : Hp) (fp : List Addr) (pn : List (Addr × Obj)), P3 (Fr.cxCV X scope xs fr s₀ H₀ fp pn) ifs elt ts) (hlf : ifs.length ≤ 1 := by decide)
    (hsw : swapsWith (.ListComp elt [⟨tg, iter, ifs, 0⟩] scope pos) (some (.Name y py)) spos.line X.env = pure true := by rfl)
    (hf : X.fn y = true ∨ X.env.scope.names.lookup y = some .local := by first | exact .inl rfl | exact .inr rfl | assumption)
    (hs : ∀ y, foldedSetIterable iter X.env y = pure y := by intro _; rfl) : S3 X E (.Assign [.Name y py] (.ListComp elt [⟨tg, iter, ifs, 0⟩] scope pos) spos) (tSt i₀ (tCm xs.length (fr.map (·.2)) ti g ts)) :=
  ⟨fun F0 H0 B => ps_imp (Fr.ps_setV hN hiy hy hc (hi.h F0 H0 B) O (fun s₀ H₀ fp pn => pg_ex (ι := Hp × Hp × Option Addr) fun i => (hg s₀ H₀ fp pn).h i.1 i.2.1 i.2.2) (fun s₀ H₀ fp pn => (hstep s₀ H₀ fp pn).h) hlf hsw hf hs) fun Dn σ H hh => ex4 hh fun δ F Z En L z w ok =>
    lo_comp ⟨δ, F, Z, _, L, z, w, fun r δ' v F' H' p L' s k => ok.nx _ _ F' H' p (L'.setR k) s⟩⟩
end
/-! how a comprehension is read -/
theorem compL_map {ts : T3P} {l : List Sl} (hl : l.map Sl.wipe = l) (f : D → D) : ∀ {xs : List D} {s : Sl} {Q : List D → Prop}, (∀ x ∈ xs, ∀ P : Option D → List Sl → Prop, P (some (f x)) (.d x :: l) → ts (.d x :: l) P) → Q (xs.map f) → compL (gNm 0) ts xs (s :: l) Q
  | [], _, _, _, q => q
  | x :: xs, s, Q, h, q => by
    show ts (.d x :: l) _
    refine h x List.mem_cons_self _ ?_
    show compL (gNm 0) ts xs (.d x :: l.map Sl.wipe) _
    rw [hl]
    exact compL_map hl f (fun y hy => h y (List.mem_cons_of_mem _ hy)) q
theorem compL_fmap {ts : T3P} {l : List Sl} (hl : l.map Sl.wipe = l) (f : D → Option D) : ∀ {xs : List D} {s : Sl} {Q : List D → Prop}, (∀ x ∈ xs, ∀ P : Option D → List Sl → Prop, P (f x) (.d x :: l) → ts (.d x :: l) P) → Q (xs.filterMap f) → compL (gNm 0) ts xs (s :: l) Q
  | [], _, _, _, q => q
  | x :: xs, s, Q, h, q => by
    show ts (.d x :: l) _
    refine h x List.mem_cons_self _ ?_
    cases e : f x with
    | none =>
      show compL (gNm 0) ts xs (.d x :: l.map Sl.wipe) _
      rw [hl]
      refine compL_fmap hl f (fun y hy => h y (List.mem_cons_of_mem _ hy)) ?_
      rw [List.filterMap_cons_none e] at q
      exact q
    | some y =>
      show compL (gNm 0) ts xs (.d x :: l.map Sl.wipe) _
      rw [hl]
      refine compL_fmap hl f (fun y hy => h y (List.mem_cons_of_mem _ hy)) ?_
      rw [List.filterMap_cons_some e] at q
      exact q
end L3

set_option Elab.async false
set_option linter.all false
set_option maxRecDepth 100000
/-! enumerate over a list, with a target of two. -/
namespace Fr
open PySem PySem.Spec L2
open PyProof.Rows hiding St
def Ite (K : PySem.W.Frag) (a : Addr) : It :=
  ⟨fun i H => ∃ xs x, SqL K H a xs ∧ xs[i]? = some x,
   fun i H v H' => ∃ T x, v = .ref T ∧ H T = none ∧ H' = upd H T (.tup [.int (i : Nat), x]) ∧ ∀ xs, SqL K H a xs → xs[i]? = some x,
   fun i H => ∃ xs, SqL K H a xs ∧ xs.length ≤ i⟩
theorem turn_enum {P : Program} {w : World} {K : PySem.W.Frag} {es : List Expr} {x1} {pos : Pos} {z it a : Addr} (hne : z ≠ it) :
    Turn P w K (.Tuple es x1 pos) (Ite K a) [z, it] z (fun i h => (∃ old, IsEnum h z it (i : Nat) old) ∧ h.IsListIter it a i) where
  mem := by simp
  obj := fun i h st c hc => by
    obtain ⟨⟨old, hz⟩, ⟨o1, e1, c1, d1⟩⟩ := st
    simp only [List.mem_cons, List.not_mem_nil, or_false] at hc
    rcases hc with rfl | rfl
    · exact ⟨_, hz, fun v q => by cases q⟩
    · exact ⟨_, e1, fun v q => by rw [d1] at q; cases q⟩
  keep := fun i h h' st k => by
    obtain ⟨⟨old, hz⟩, h1⟩ := st
    exact ⟨⟨old, k z (by simp) _ hz⟩, h1.at fun o e => k it (by simp) o e⟩
  item := by
    intro X hP hw hK hc i pins s σ H E I hf st hg
    subst hP hw hK
    obtain ⟨xs, x, q1, hx⟩ := hg
    obtain ⟨its1, r1, p1, _⟩ := I.list q1
    obtain ⟨u1, e1, ru1⟩ := r1.get hx
    obtain ⟨⟨old, hz⟩, h1⟩ := st
    refine wpAny_pyNext_enum_item hz h1 p1.isList (x := u1) (by simpa using e1) hne fun h' hz' h1' hT hsz hk => ⟨_, rfl, ?_⟩
    refine wpAny_letOwnedTupleGo_enum hz' fun h'' hz'' hs => ?_
    have ltz : z < s.heap.objs.size := Heap.lt_size hz
    have nz : s.heap.objs.size ≠ z := Nat.ne_of_gt ltz
    have nT : H s.heap.objs.size = none := I.hok.fresh (Nat.le_refl _)
    have up : ∀ c o, c ≠ z → h'.get? c = some o → h''.get? c = some o := fun c o n e => (hs.2 c n).trans e
    have fnone : ∀ c ∈ [z, it], upd H s.heap.objs.size (.tup [.int (i : Nat), x]) c = none := fun c hc => by
      have ne : c ≠ s.heap.objs.size := by
        obtain ⟨_, e1, _⟩ := id h1
        simp only [List.mem_cons, List.not_mem_nil, or_false] at hc
        rcases hc with rfl | rfl
        · exact Nat.ne_of_lt ltz
        · exact Nat.ne_of_lt (Heap.lt_size e1)
      rw [upd_ne ne]
      exact (hf c hc).1
    refine ⟨.ref s.heap.objs.size, upd H s.heap.objs.size (.tup [.int (i : Nat), x]), turn_new (s := s) (h' := h'') (t := s.toks + 1) I hf (Nat.le_refl _) (fun c o hc e => ?_) ⟨len2, [.int (i : Nat) s.toks, u1], .cons ⟨_, rfl⟩ (.cons ru1 .nil), ⟨_, up _ _ nz hT, rfl, _, rfl⟩⟩, rfl,
      ⟨_, x, rfl, nT, rfl, fun xs' z1 => ?_⟩, ⟨⟨_, by simpa using hz''⟩, h1'.at fun o e => up _ _ (Ne.symm hne) e⟩, fnone⟩
    · simp only [List.mem_cons, List.not_mem_nil, or_false, not_or] at hc
      exact up _ _ hc.1 (hk _ _ hc.1 hc.2 e)
    · rw [I.list_inj z1 q1]
      exact hx
  done := by
    intro X hP hw hK hc i pins s σ H E I hf st hg
    subst hP hw hK
    obtain ⟨xs, q1, hend⟩ := hg
    obtain ⟨its1, r1, p1, _⟩ := I.list q1
    have n1 := r1.length
    obtain ⟨⟨old, hz⟩, h1⟩ := st
    refine wpAny_pyNext_enum_end (I.ok.hd hc) hz h1 p1.isList (by simp; omega) fun h' hk => ⟨rfl, turn_same (t := s.toks) I hf fun c o hc e => ?_⟩
    simp only [List.mem_cons, List.not_mem_nil, or_false, not_or] at hc
    exact hk _ _ hc.2 e
  self := fun _ _ _ _ _ st h => wpAny_pyIter_enum st.1.choose_spec h
def iEnum (K : PySem.W.Frag) (ta : TA) : TI := fun σ H R => ta σ H fun vs H1 => ∃ a xs, vs = [.ref a] ∧ SqL K H1 a xs ∧ R (Ite K a) H1
section
variable {X : Cx}
theorem pi_enum {es : List Expr} {x1} {tpos : Pos} {a : Expr} {ta : TA} {p pos : Pos} (hg : Gl X "enumerate") (hm : X.mg "enumerate" = none) (ha : PA X [a] ta) (hs : starEach [a] X.env = [(false, eval a X.env)] := by rfl) :
    PI X (.Tuple es x1 tpos) (.Call (.Name "enumerate" p) [a] [] pos) (iEnum X.K ta) := by
  intro pins s σ H R I h
  refine Call_ (ld_blt I hg hm PyProof.Rows.boot_enumerate (PyProof.Rows.callWith_type1 (thn (ha pos pins s σ H _ I h) fun us s1 ⟨vs, H1, I1, r1, q1⟩ => ?_) hs rfl))
  obtain ⟨l1, xs, rfl, k1, q⟩ := q1
  obtain ⟨u, rfl, ru⟩ := vals1 r1
  cases ru
  obtain ⟨its1, e1, p1, _⟩ := I1.list k1
  refine call_enumerate_list p1.isList fun h' hz g1 hsz hk => ?_
  have I2 : Inv X pins σ H1 { s1 with heap := h' } := I1.kept (t' := s1.toks) hk
  refine wpAny_pyIter_enum hz ⟨_, [s1.heap.objs.size + 1, s1.heap.objs.size], _, _, H1, rfl, I2, turn_enum (Nat.ne_of_gt (Nat.lt_succ_self _)), ⟨⟨_, hz⟩, g1⟩, fun c hc => ?_, q⟩
  simp only [List.mem_cons, List.not_mem_nil, or_false] at hc
  have hc' : s1.heap.objs.size ≤ c := by
    rcases hc with rfl | rfl
    · exact Nat.le_succ _
    · exact Nat.le_refl _
  exact I1.fpOk hc' (I1.hok.fresh hc')
end
end Fr

set_option Elab.async false
set_option linter.all false
set_option maxRecDepth 100000
/-! Pairs walked, == of data, isinstance, dicts, raise. -/
namespace L3
open PySem PySem.Spec L2
section
variable {X : Cx} {E : XK} {e a b c o : Expr} {es : List Expr} {pos p : Pos}
/-! ### zip and enumerate -/
def enumD (xs : List D) : List D := (List.range xs.length).map fun i : Nat => D.tup [.int (i : Nat), xs[i]?.getD .non]
theorem enumD_len (xs : List D) : (enumD xs).length = xs.length := by simp [enumD]
def tIE (t : T3A) : T3I := fun Z δ Q => t Z δ fun xs δ' => match xs with
  | [.lst xs] => Q (enumD xs) δ'
  | _ => False
theorem i_enum {tes : List Expr} {x1} {tpos : Pos} {t : T3A} (hg : Gl X "enumerate") (hm : X.mg "enumerate" = none) (ha : A3 X E [a] t) (hs : starEach [a] X.env = [(false, eval a X.env)] := by rfl) :
    I3 X E (.Tuple tes x1 tpos) (.Call (.Name "enumerate" p) [a] [] pos) (tIE t) :=
  ⟨fun F0 H0 B => pi_imp (Fr.pi_enum hg hm (ha.h F0 H0 B) hs) fun σ H R hh => ex4 hh fun δ F Z P L z w q => ⟨δ, F, Z, _, L, z, w, fun xs δ' vs F' H' p' L' s r => by
    obtain ⟨xs, rfl, pk⟩ := m1L p'
    obtain ⟨v, rfl, rr⟩ := r.inv1
    obtain ⟨a1, vs1, rfl, h1, r1⟩ := rr.inv_lst
    have sq : ∀ {H2 : Hp}, Same F' H2 → SqL X.K H2 _ _ := fun s2 => SqL.of (s2 _ _ h1)
    refine ⟨_, _, rfl, SqL.of (L'.fh _ _ h1), q _ δ' F' H' _ pk L' s ⟨fun i F2 H2 a1 a2 lt => ?_, fun i F2 H2 y H3 a1 a2 lt yy => ?_, fun F2 H2 a1 a2 => ?_⟩⟩
    · rw [enumD_len] at lt
      obtain ⟨v1, e1, _⟩ := r1.at (List.getElem?_eq_getElem lt)
      exact ⟨_, v1, sq (a1.trans a2), e1⟩
    · obtain ⟨T, x, rfl, hT, rfl, all⟩ := yy
      have e1 := all _ (sq (a1.trans a2))
      obtain ⟨d1, f1, g1⟩ := r1.at' e1
      have fT : F2 T = none := a2.free hT
      have sF : Same F2 (upd F2 T (.tup [.int (i : Nat), x])) := Fr.Same.new fT
      refine ⟨upd F2 T (.tup [.int (i : Nat), x]), .tup [.int (i : Nat), d1], sF, fun b u eb => ?_, Fr.Same.new hT, fun b hb => ?_, ?_, .tup (SqT.of upd_same) (.cons (.int _) (.cons (g1.same (a1.trans sF)) .nil))⟩
      · by_cases q : b = T
        · subst q; rw [upd_same] at eb ⊢; exact eb
        · rw [upd_ne q] at eb ⊢; exact a2 _ _ eb
      · rw [upd_ne (by rintro rfl; exact hb hT)]
      · rw [enumD_len] at lt
        unfold enumD
        rw [List.getElem?_map, List.getElem?_range lt]
        show some (D.tup [.int (i : Nat), _]) = _
        rw [f1]
        rfl
    · rw [enumD_len]
      exact ⟨_, sq (a1.trans a2), by rw [r1.len]; exact Nat.le_refl _⟩⟩⟩
/-! ### == and != of data -/
mutual
def D.py : D → PyData
  | .non => .none
  | .bl b => .bool b
  | .int i => .int i
  | .str x => .str x
  | .tup xs => .tuple (D.pys xs)
  | .lst xs => .list (D.pys xs)
  | _ => .dict []
def D.pys : List D → List PyData
  | [] => []
  | x :: xs => x.py :: D.pys xs
end
mutual
theorem Rp.isD {K : PySem.W.Frag} {F H : Hp} (s : Same F H) : ∀ {v : V} {x : D}, Rp K F v x → x.py.canLay0 = true → Fr.IsD K H v x.py
  | _, _, .non, _ => .non
  | _, _, .bl b, _ => .bl b
  | _, _, .int i, _ => .int i
  | _, _, .str x, _ => .str x
  | _, _, .ty n, h => by simp [D.py, PyData.canLay0] at h
  | _, _, .adr a, h => by simp [D.py, PyData.canLay0] at h
  | _, _, .scr _, h => by simp [D.py, PyData.canLay0] at h
  | _, _, .dT _ _ _, h => by simp [D.py, PyData.canLay0] at h
  | _, _, .dK _ _ _, h => by simp [D.py, PyData.canLay0] at h
  | _, _, .obj _ _ _, h => by simp [D.py, PyData.canLay0] at h
  | _, _, .exc _, h => by simp [D.py, PyData.canLay0] at h
  | _, _, .tup hs rs, h => .tup (Fr.sqT_same s hs) (Rps.isDs s rs (by simpa [D.py, PyData.canLay0] using h))
  | _, _, .lst hs rs, h => .lst (SqL.of (s _ _ hs)) (Rps.isDs s rs (by simpa [D.py, PyData.canLay0] using h))
theorem Rps.isDs {K : PySem.W.Frag} {F H : Hp} (s : Same F H) : ∀ {vs : List V} {xs : List D}, Rps K F vs xs → PyData.canLayAll0 (D.pys xs) = true → Fr.IsDs K H vs (D.pys xs)
  | _, _, .nil, _ => .nil
  | _, _, .cons (d := d) (ds := ds) r rs, h => by
    have h' : d.py.canLay0 = true ∧ PyData.canLayAll0 (D.pys ds) = true := by simpa [D.pys, PyData.canLayAll0] using h
    exact .cons (Rp.isD s r h'.1) (Rps.isDs s rs h'.2)
end
/-- what can be compared -/
def CanEq (x : D) : Prop := x.py.canLay0 = true ∧ x.py.depth ≤ 60
def eqD : D → D → (D → Prop) → Prop := fun x y P => (CanEq x ∧ CanEq y) ∧ ∃ b, PyData.eqv x.py y.py = b ∧ P (.bl b)
def neD : D → D → (D → Prop) → Prop := fun x y P => (CanEq x ∧ CanEq y) ∧ ∃ b, PyData.eqv x.py y.py = b ∧ P (.bl (!b))
theorem r_eqD {A : Around} {K : PySem.W.Frag} {k : Nat} (hr : Room k A) : R3 K (fun x y H Q => ∃ d d', Fr.IsD K H x d ∧ Fr.IsD K H y d' ∧ d.canLay0 = true ∧ d'.canLay0 = true ∧ A.units + d.depth < cLine ∧ Q (.bl (PyData.eqv d d')) H) eqD := by
  intro F H x y v u Q P fh rx ry h q
  obtain ⟨h1, b, rfl, h2⟩ := h
  exact ⟨_, _, rx.isD fh h1.1.1, ry.isD fh h1.2.1, h1.1.1, h1.2.1, Fr.room_d hr (Nat.le_trans h1.1.2 (by decide)), q _ _ h2 (.bl _)⟩
theorem r_neD {A : Around} {K : PySem.W.Frag} {k : Nat} (hr : Room k A) : R3 K (fun x y H Q => ∃ d d', Fr.IsD K H x d ∧ Fr.IsD K H y d' ∧ d.canLay0 = true ∧ d'.canLay0 = true ∧ A.units + d.depth < cLine ∧ Q (.bl (!PyData.eqv d d')) H) neD := by
  intro F H x y v u Q P fh rx ry h q
  obtain ⟨h1, b, rfl, h2⟩ := h
  exact ⟨_, _, rx.isD fh h1.1.1, ry.isD fh h1.2.1, h1.1.1, h1.2.1, Fr.room_d hr (Nat.le_trans h1.1.2 (by decide)), q _ _ h2 (.bl _)⟩
/-! ### isinstance of data -/
def tyN : D → Option String
  | .non => some "NoneType"
  | .bl _ => some "bool"
  | .int _ => some "int"
  | .str _ => some "str"
  | .tup _ => some "tuple"
  | .lst _ => some "list"
  | _ => none
def isiB (t T : String) : Bool := t == T || (t == "bool" && T == "int")
def tOk (T : String) : Bool := T == "int" || T == "bool" || T == "tuple" || T == "list" || T == "str"
theorem tok_of {T : String} (h : tOk T = true) : T = "int" ∨ T = "bool" ∨ T = "tuple" ∨ T = "list" ∨ T = "str" := by
  unfold tOk at h
  simp only [Bool.or_eq_true, beq_iff_eq] at h
  rcases h with (((h | h) | h) | h) | h
  · exact .inl h
  · exact .inr (.inl h)
  · exact .inr (.inr (.inl h))
  · exact .inr (.inr (.inr (.inl h)))
  · exact .inr (.inr (.inr (.inr h)))
def rIsi : List D → (D → Prop) → Prop := fun xs P => match xs with
  | [x, .ty T] => (match tyN x, tOk T with
    | some t, true => P (.bl (isiB t T))
    | _, _ => False)
  | _ => False
end
section
variable {X : Cx}
theorem call_isiT : CallR X (.builtin "isinstance") (fun xs H Q => ∃ x T t b, xs = [x, .ty T] ∧ (TyOf X.K H x t ∨ ∃ p ys, x = .ref p ∧ SqT X.K H p ys ∧ t = .type "tuple") ∧ PySem.W.kitOne X.K t (.type T) = some b ∧ Q (.bl b) H) := by
  intro pins s σ H xs us Q I r h
  obtain ⟨x, T, t, b, rfl, ty, e, q⟩ := h
  obtain ⟨u, w', rfl, r1, r2⟩ := vals2 r
  cases r2
  rcases ty with ty | ⟨p, ys, rfl, sq, rfl⟩
  · exact isinst_ok I r1 ty e fun tk => ⟨.bl b, H, I.tok _, rfl, q⟩
  · cases r1
    obtain ⟨its, rv, ⟨o, h1, h2, _⟩, _⟩ := I.tuple sq
    exact PySem.W.kia_one PySem.W.kitx_tuple I.kIn ⟨o, h1, h2⟩ e (fun z => nomatch z) fun tk => ⟨.bl b, H, I.tok _, rfl, q⟩
theorem kit_is {K : PySem.W.Frag} {t T : String} (ht : t = "NoneType" ∨ t = "bool" ∨ t = "int" ∨ t = "str" ∨ t = "tuple" ∨ t = "list") (hT : T = "int" ∨ T = "bool" ∨ T = "tuple" ∨ T = "list" ∨ T = "str") : PySem.W.kitOne K (.type t) (.type T) = some (isiB t T) := by
  rcases ht with rfl | rfl | rfl | rfl | rfl | rfl <;> rcases hT with rfl | rfl | rfl | rfl | rfl <;> rfl
theorem isi_inv {xs : List D} {P : D → Prop} (h : rIsi xs P) : ∃ x T, xs = [x, .ty T] ∧ (match tyN x, tOk T with
    | some t, true => P (.bl (isiB t T))
    | _, _ => False) := by
  unfold rIsi at h
  split at h
  · exact ⟨_, _, rfl, h⟩
  · exact h.elim
theorem cr_isi : CR3 X.K (fun xs H Q => ∃ x T t b, xs = [x, .ty T] ∧ (TyOf X.K H x t ∨ ∃ p ys, x = .ref p ∧ SqT X.K H p ys ∧ t = .type "tuple") ∧ PySem.W.kitOne X.K t (.type T) = some b ∧ Q (.bl b) H) rIsi := by
  intro F H xs vs Q P fh rs h q
  obtain ⟨x, T, rfl, h0⟩ := isi_inv h
  clear h
  have h := h0
  clear h0
  obtain ⟨v, u, rfl, r, r2⟩ := rs.inv2
  obtain rfl := r2.inv_ty
  cases eT : tOk T with
  | false =>
    rw [eT] at h
    cases e : tyN x <;> (rw [e] at h; exact h.elim)
  | true =>
    have kT := tok_of eT
    rw [eT] at h
    cases x with
    | non => exact ⟨_, _, _, _, by rw [r.inv_non], .inl .non, kit_is (.inl rfl) kT, q _ _ h (.bl _)⟩
    | bl b => exact ⟨_, _, _, _, by rw [r.inv_bl], .inl (.bl b), kit_is (.inr (.inl rfl)) kT, q _ _ h (.bl _)⟩
    | int i => exact ⟨_, _, _, _, by rw [r.inv_int], .inl (.int i), kit_is (.inr (.inr (.inl rfl))) kT, q _ _ h (.bl _)⟩
    | str x => exact ⟨_, _, _, _, by rw [r.inv_str], .inl (.str x), kit_is (.inr (.inr (.inr (.inl rfl)))) kT, q _ _ h (.bl _)⟩
    | tup ds =>
      obtain ⟨a, us, rfl, hs, rr⟩ := r.inv_tup
      exact ⟨_, _, _, _, rfl, .inr ⟨_, _, rfl, Fr.sqT_same fh hs, rfl⟩, kit_is (.inr (.inr (.inr (.inr (.inl rfl))))) kT, q _ _ h (.bl _)⟩
    | lst ds =>
      obtain ⟨a, us, rfl, hs, rr⟩ := r.inv_lst
      exact ⟨_, _, _, _, rfl, .inl (.lst (fh _ _ hs)), kit_is (.inr (.inr (.inr (.inr (.inr rfl))))) kT, q _ _ h (.bl _)⟩
    | _ => exact h.elim
end
end L3

set_option Elab.async false
set_option linter.all false
set_option maxRecDepth 100000
/-! Dicts whose keys are tuples; raise; methods of lists. -/
namespace L3
open PySem PySem.Spec L2
/-- the key that a tuple's items are -/
def keyD : D → Option Key
  | .int i => some (.inl i)
  | .str x => some (.inr x)
  | _ => none
def keysD : List D → Option (List Key)
  | [] => some []
  | x :: xs => match keyD x with
    | some k => (match keysD xs with
      | some ks => some (k :: ks)
      | none => none)
    | none => none
theorem keys_rp {K : PySem.W.Frag} {F : Hp} : ∀ {vs : List V} {xs : List D} {ks : List Key}, Rps K F vs xs → keysD xs = some ks → vs = ks.map kV
  | _, _, _, .nil, h => by cases h; rfl
  | _, _, _, .cons (d := d) (ds := ds) r rs, h => by
    unfold keysD at h
    cases ek : keyD d with
    | none => rw [ek] at h; cases h
    | some k =>
      rw [ek] at h
      dsimp only at h
      cases e2 : keysD ds with
      | none => rw [e2] at h; cases h
      | some ks =>
        rw [e2] at h
        cases h
        rw [keys_rp rs e2]
        cases r <;> first | cases ek; rfl | cases ek
def valD {κ : Type} [DecidableEq κ] : List (κ × D) → κ → Option D
  | [], _ => none
  | (k, x) :: r, j => if k = j then some x else valD r j
def putT {κ : Type} [DecidableEq κ] (kvs : List (κ × D)) (k : κ) (x : D) : List (κ × D) := if (valD kvs k).isSome then kvs.map (fun kv => if kv.1 = k then (kv.1, x) else kv) else kvs ++ [(k, x)]
section
variable {κ : Type} [DecidableEq κ] {K : PySem.W.Frag} {F : Hp}
theorem val_rp {k : κ} : ∀ {kvs : List (κ × V)} {dvs : List (κ × D)}, kvs.map (·.1) = dvs.map (·.1) → Rps K F (kvs.map (·.2)) (dvs.map (·.2)) →
    (valD dvs k = none ∧ valV kvs k = none) ∨ ∃ x v, valD dvs k = some x ∧ valV kvs k = some v ∧ Rp K F v x
  | [], [], _, _ => .inl ⟨rfl, rfl⟩
  | [], _ :: _, e, _ => by cases e
  | _ :: _, [], e, _ => by cases e
  | (n, u) :: kvs, (m, d) :: dvs, e, r => by
    obtain ⟨e1, e2⟩ := List.cons.inj e
    have e1 : n = m := e1
    subst e1
    cases r with
    | cons r1 r2 =>
      unfold valD
      by_cases q : n = k
      · rw [if_pos q]
        exact .inr ⟨d, u, rfl, valV_pos q, r1⟩
      · rw [if_neg q, valV_neg (show ¬ (n, u).1 = k from q)]
        exact val_rp e2 r2
theorem repl_rp {k : κ} {v : V} {x : D} (r : Rp K F v x) : ∀ {kvs : List (κ × V)} {dvs : List (κ × D)}, kvs.map (·.1) = dvs.map (·.1) → Rps K F (kvs.map (·.2)) (dvs.map (·.2)) →
    (kvs.map (fun kv => if kv.1 = k then (kv.1, v) else kv)).map (·.1) = (dvs.map (fun kv => if kv.1 = k then (kv.1, x) else kv)).map (·.1) ∧ Rps K F ((kvs.map (fun kv => if kv.1 = k then (kv.1, v) else kv)).map (·.2)) ((dvs.map (fun kv => if kv.1 = k then (kv.1, x) else kv)).map (·.2))
  | [], [], _, _ => ⟨rfl, .nil⟩
  | [], _ :: _, e, _ => by cases e
  | _ :: _, [], e, _ => by cases e
  | (n, u) :: kvs, (m, d) :: dvs, e, rr => by
    obtain ⟨e1, e2⟩ := List.cons.inj e
    have e1 : n = m := e1
    subst e1
    cases rr with
    | cons r1 r2 =>
      obtain ⟨k1, k2⟩ := repl_rp (k := k) r e2 r2
      by_cases q : n = k
      · refine ⟨?_, ?_⟩
        · rw [List.map_cons, List.map_cons, List.map_cons, List.map_cons, k1, if_pos (show (n, u).1 = k from q), if_pos (show (n, d).1 = k from q)]
        · rw [List.map_cons, List.map_cons, List.map_cons, List.map_cons, if_pos (show (n, u).1 = k from q), if_pos (show (n, d).1 = k from q)]
          exact .cons r k2
      · refine ⟨?_, ?_⟩
        · rw [List.map_cons, List.map_cons, List.map_cons, List.map_cons, k1, if_neg (show ¬ (n, u).1 = k from q), if_neg (show ¬ (n, d).1 = k from q)]
        · rw [List.map_cons, List.map_cons, List.map_cons, List.map_cons, if_neg (show ¬ (n, u).1 = k from q), if_neg (show ¬ (n, d).1 = k from q)]
          exact .cons r1 k2
theorem putT_rp {k : κ} {v : V} {x : D} (r : Rp K F v x) {kvs : List (κ × V)} {dvs : List (κ × D)} (e : kvs.map (·.1) = dvs.map (·.1)) (rr : Rps K F (kvs.map (·.2)) (dvs.map (·.2))) :
    (putK kvs k v).map (·.1) = (putT dvs k x).map (·.1) ∧ Rps K F ((putK kvs k v).map (·.2)) ((putT dvs k x).map (·.2)) := by
  unfold putT
  rcases val_rp (k := k) e rr with ⟨h1, h2⟩ | ⟨y, u, h1, h2, _⟩
  · rw [h1, if_neg (by simp), putK_new v h2]
    refine ⟨by simp [e], ?_⟩
    rw [List.map_append, List.map_append]
    exact rr.append (.one r)
  · rw [h1, if_pos (by simp)]
    have : putK kvs k v = kvs.map (fun kv => if kv.1 = k then (kv.1, v) else kv) := by
      unfold putK
      rw [valV_any, h2]
      rfl
    rw [this]
    exact repl_rp r e rr
end
section
variable {X : Cx} {E : XK} {e a b c o : Expr} {es : List Expr} {pos p : Pos}
/-- {} for tuples -/
def tDnT : T3E := fun _ δ Q => Q (.own (.dT [])) δ
theorem e_dnewT : E3 X E (.Dict [] [] pos) tDnT :=
  ⟨fun F0 H0 B => pe_imp pe_dnewT fun σ H Q hh => ex4 hh fun δ F Z P L z w q => fun a ha => by
    obtain ⟨L2, k2⟩ := L.newO (ho := .dT []) ha (o := .dT []) ⟨[], upd_same, rfl, .nil⟩
    exact q _ δ _ _ _ w L2 (Same.refl _) k2⟩
/-- the dict that a name stands for -/
def Sl.dict : Sl → Option (List (List Key × D))
  | .d (.dT kvs) => some kvs
  | .own (.dT kvs) => some kvs
  | .bor (.dT kvs) => some kvs
  | _ => none
def gd (δ : List Sl) (i : Nat) : Option (List (List Key × D)) := match δ[i]? with
  | some s => s.dict
  | none => none
theorem Lk.gd {K : PySem.W.Frag} {F0 H0 F H : Hp} {B : Option Addr} {σ : St} {δ : List Sl} {i : Nat} {dvs : List (List Key × D)} (L : Lk K F0 H0 B σ δ F H) (l : gd δ i = some dvs) :
    ∃ a kvs, σ[i]? = some (some (.ref a)) ∧ H a = some (.dT kvs) ∧ kvs.map (·.1) = dvs.map (·.1) ∧ Rps K F (kvs.map (·.2)) (dvs.map (·.2)) := by
  unfold L3.gd at l
  cases e : δ[i]? with
  | none => rw [e] at l; cases l
  | some s =>
    rw [e] at l
    have q := L.sl i s e
    cases s with
    | un => cases l
    | d x =>
      cases x with
      | dT ys =>
        cases l
        obtain ⟨v, e1, r⟩ := q
        cases r with
        | dT hs ek rs => exact ⟨_, _, e1, L.fh _ _ hs, ek, rs⟩
      | _ => cases l
    | own o =>
      cases o with
      | dT ys =>
        cases l
        obtain ⟨a, e1, _, _, kvs, hh, ek, rs⟩ := q
        exact ⟨a, kvs, e1, hh, ek, rs⟩
      | _ => cases l
    | bor o =>
      cases o with
      | dT ys =>
        cases l
        obtain ⟨a, e1, _, _, kvs, hh, ek, rs⟩ := q
        exact ⟨a, kvs, e1, hh, ek, rs⟩
      | _ => cases l
/-- (..) in name, (..) not in name -/
def tDin (neg : Bool) (t : T3A) (i : Nat) : T3D := fun Z δ Q => t Z δ fun xs δ' => Few xs.length (match keysD xs, gd δ' i with
  | some ks, some dvs => Q (.bl (if neg then !(valD dvs ks).isSome else (valD dvs ks).isSome)) δ'
  | _, _ => False)
theorem isSome_rp {K : PySem.W.Frag} {F : Hp} {ks : List Key} {kvs : List (List Key × V)} {dvs : List (List Key × D)} (e : kvs.map (·.1) = dvs.map (·.1)) (r : Rps K F (kvs.map (·.2)) (dvs.map (·.2))) : (valV kvs ks).isSome = (valD dvs ks).isSome := by
  rcases val_rp (k := ks) e r with ⟨h1, h2⟩ | ⟨y, u, h1, h2, _⟩ <;> rw [h1, h2] <;> rfl
theorem lo_din {K : PySem.W.Frag} {F0 H0 : Hp} {B : Option Addr} {neg : Bool} {t : T3A} {i : Nat} {σ : St} {H : Hp} {Q : VK} (h : LD K E F0 H0 B (tDin neg t i) σ H Q) :
    tTup (LA K E F0 H0 B t) σ H fun y H1 => tVar i σ H1 fun x H2 => ∃ a o, x = .ref a ∧ DGet H2 a y o ∧ Q (.bl (if neg then !o.isSome else o.isSome)) H2 := by
  obtain ⟨δ, F, Z, P, L, z, w, q⟩ := h
  refine ⟨δ, F, Z, _, L, z, w, fun xs δ' vs F' H' p' L' s r => ?_⟩
  obtain ⟨n, p'⟩ := few p'
  refine ⟨by rw [r.len]; exact Nat.le_of_lt (line_big n), fun ad had => ?_⟩
  cases ek : keysD xs with
  | none => rw [ek] at p'; exact p'.elim
  | some ks =>
    rw [ek] at p'
    cases eg : L3.gd δ' i with
    | none => rw [eg] at p'; exact p'.elim
    | some dvs =>
      rw [eg] at p'
      obtain ⟨a, kvs, e1, hh, em, rs⟩ := L'.gd eg
      obtain ⟨L2, s2⟩ := L'.newD (ho := .tup vs) had
      have ev := keys_rp r ek
      refine ⟨_, e1, a, _, rfl, DGet.t (k := ks) (Fr.Same.new had _ _ hh) (by rw [ev]; exact upd_same), ?_⟩
      rw [isSome_rp em rs]
      exact q _ δ' _ _ _ p' L2 (s.trans s2) (.bl _)
structure Q3 (X : Cx) (E : XK) (op : CmpOp) (a b : Expr) (t : T3D) : Prop where
  h : ∀ F0 H0 B, PC X op a b (LD X.K E F0 H0 B t)
theorem pc_imp {op : CmpOp} {t t' : TE} (h : PC X op a b t) (i : ∀ σ H Q, t' σ H Q → t σ H Q) : PC X op a b t' := fun pins s σ H Q I w => h pins s σ H Q I (i _ _ _ w)
theorem d_pc {op : CmpOp} {t : T3D} (h : Q3 X E op a b t) (hm : behindInMarks op b = false) : D3 X E (.Compare a [op] [b] pos) t := ⟨fun F0 H0 B => pe_cmp (h.h F0 H0 B) hm⟩
theorem c_pc {op : CmpOp} {t : T3D} (h : Q3 X E op a b t) (hm : behindInMarks op b = false) : C3 X E (.Compare a [op] [b] pos) (tB3 t) :=
  ⟨fun F0 H0 B => pt_imp (pt_cmp (h.h F0 H0 B) hm) fun σ H Q hh => ex4 hh fun δ F Z P L z w q => ⟨δ, F, Z, _, L, z, w, fun x δ' v F' H' p L' s r => by
    obtain ⟨c, rfl, k⟩ := bl_inv p
    exact ⟨c, r.inv_bl, q _ δ' F' H' k L' s⟩⟩⟩
theorem q_dnotin (i : Nat) {x : Str} {x1} {tp : Pos} {t : T3A} (hu : X.A.units + 1 < cLine) (h : A3 X E es t) (hN : X.N[i]? = some x := by rfl) (hv : Vis X.env.scope x := by first | exact Or.inl rfl | exact Or.inr (Or.inl rfl) | exact Or.inr (Or.inr rfl)) (hd : (x == ("__debug__" : Str)) = false := by decide)
    (hcd : (x == ("__classdict__" : Str)) = false := by decide) : Q3 X E .NotIn (.Tuple es x1 tp) (.Name x p) (tDin true t i) :=
  ⟨fun F0 H0 B => pc_imp (pc_dnotin hu (pe_tup (h.h F0 H0 B)) (pe_var hN hv hd hcd)) fun _ _ _ h => lo_din h⟩
/-- (..) in a dict that is data -/
def tDinD (neg : Bool) (t : T3A) (td : T3D) : T3D := fun Z δ Q => t Z δ fun xs δ1 => Few xs.length (td Z δ1 fun y δ2 => match keysD xs, y with
  | some ks, .dT dvs => Q (.bl (if neg then !(valD dvs ks).isSome else (valD dvs ks).isSome)) δ2
  | _, _ => False)
theorem lo_dinD {K : PySem.W.Frag} {F0 H0 : Hp} {B : Option Addr} {neg : Bool} {t : T3A} {td : T3D} {σ : St} {H : Hp} {Q : VK} (h : LD K E F0 H0 B (tDinD neg t td) σ H Q) :
    tTup (LA K E F0 H0 B t) σ H fun y H1 => LD K E F0 H0 B td σ H1 fun x H2 => ∃ a o, x = .ref a ∧ DGet H2 a y o ∧ Q (.bl (if neg then !o.isSome else o.isSome)) H2 := by
  obtain ⟨δ, F, Z, P, L, z, w, q⟩ := h
  refine ⟨δ, F, Z, _, L, z, w, fun xs δ' vs F' H' p' L' s r => ?_⟩
  obtain ⟨n, p'⟩ := few p'
  refine ⟨by rw [r.len]; exact Nat.le_of_lt (line_big n), fun ad had => ?_⟩
  obtain ⟨L2, s2⟩ := L'.newD (ho := .tup vs) had
  refine ⟨δ', _, Z, _, L2, z, p', fun y δ2 v F3 H3 p3 L3 s3 r3 => ?_⟩
  cases ek : keysD xs with
  | none => rw [ek] at p3; exact p3.elim
  | some ks =>
    rw [ek] at p3
    cases r3 with
    | dT hs em rs =>
      have ev := keys_rp r ek
      have hb : H3 ad = some (.tup (ks.map kV)) := by rw [← ev]; exact L3.fh _ _ (s3 _ _ upd_same)
      refine ⟨_, _, rfl, DGet.t (k := ks) (L3.fh _ _ hs) hb, ?_⟩
      rw [isSome_rp em rs]
      exact q _ δ2 _ _ _ p3 L3 ((s.trans s2).trans s3) (.bl _)
    | _ => exact p3.elim
theorem q_dinD {x1} {tp : Pos} {t : T3A} {td : T3D} (hu : X.A.units + 1 < cLine) (h : A3 X E es t) (hd : D3 X E o td) : Q3 X E .In (.Tuple es x1 tp) o (tDinD false t td) :=
  ⟨fun F0 H0 B => pc_imp (pc_din hu (pe_tup (h.h F0 H0 B)) (hd.h F0 H0 B)) fun _ _ _ h => lo_dinD h⟩
/-- d[..], d data -/
def tDgD (td : T3D) (t : T3A) : T3D := fun Z δ Q => td Z δ fun y δ1 => t Z δ1 fun xs δ2 => Few xs.length (match keysD xs, y with
  | some ks, .dT dvs => ∃ v, valD dvs ks = some v ∧ Q v δ2
  | _, _ => False)
theorem d_dgetD {x1} {tp : Pos} {t : T3A} {td : T3D} (hu : X.A.units + 1 < cLine) (hd : D3 X E o td) (h : A3 X E es t) (hs : NoSl (.Tuple es x1 tp) := by exact fun _ _ => rfl) : D3 X E (.Subscript o (.Tuple es x1 tp) pos) (tDgD td t) :=
  ⟨fun F0 H0 B => pe_imp (pe_dget hu (hd.h F0 H0 B) (pe_tup (h.h F0 H0 B)) hs) fun σ H Q hh => ex4 hh fun δ F Z P L z w q => ⟨δ, F, Z, _, L, z, w, fun y δ1 v F1 H1 p1 L1 s1 r1 => ⟨δ1, F1, Z, _, L1, z, p1, fun xs δ2 vs F2 H2 p2 L2 s2 r2 => by
    obtain ⟨n, p2⟩ := few p2
    refine ⟨by rw [r2.len]; exact Nat.le_of_lt (line_big n), fun ad had => ?_⟩
    obtain ⟨L3, s3⟩ := L2.newD (ho := .tup vs) had
    cases ek : keysD xs with
    | none => rw [ek] at p2; exact p2.elim
    | some ks =>
      rw [ek] at p2
      cases r1.same (s2.trans s3) with
      | dT hs' em rs =>
        obtain ⟨v, hv, pv⟩ := p2
        have ev := keys_rp r2 ek
        rcases val_rp (k := ks) em rs with ⟨h1, _⟩ | ⟨x, u, h1, h2, ru⟩
        · rw [hv] at h1; cases h1
        · rw [hv] at h1
          cases h1
          refine ⟨_, u, rfl, ?_, q _ δ2 _ _ _ pv L3 ((s1.trans s2).trans s3) ru⟩
          rw [← h2]
          exact DGet.t (k := ks) (L3.fh _ _ hs') (by rw [ev]; exact upd_same)
      | _ => exact p2.elim⟩⟩⟩
/-- name[..] = e -/
def tDp (i : Nat) (t : T3A) (tv : T3D) : T3S := fun Z En δ => tv Z δ fun x δ1 => match go δ1 i with
  | some (.dT _) => t Z δ1 fun xs δ2 => Few xs.length (match keysD xs, go δ2 i with
    | some ks, some (.dT dvs) => dvs.length ≤ 1000000 ∧ En.nx (pt δ2 i (.dT (putT dvs ks x)))
    | _, _ => False)
  | _ => False
theorem s_dput (i : Nat) {x : Str} {x1} {tp tpos : Pos} {t : T3A} {tv : T3D} (hu : X.A.units + 1 < cLine) (h : A3 X E es t) (hv' : D3 X E e tv) (hN : X.N[i]? = some x := by rfl) (hv : Vis X.env.scope x := by first | exact Or.inl rfl | exact Or.inr (Or.inl rfl) | exact Or.inr (Or.inr rfl)) (hd : (x == ("__debug__" : Str)) = false := by decide)
    (hcd : (x == ("__classdict__" : Str)) = false := by decide) (hs : swapsWith e (some (.Subscript (.Name x p) (.Tuple es x1 tp) tpos)) pos.line X.env = pure false := by rfl) : S3 X E (.Assign [.Subscript (.Name x p) (.Tuple es x1 tp) tpos] e pos) (tDp i t tv) :=
  ⟨fun F0 H0 B => ps_imp (ps_dput hu (pe_var hN hv hd hcd) (pe_tup (h.h F0 H0 B)) (hv'.h F0 H0 B) hs) fun Dn σ H hh => ex4 hh fun δ F Z En L z w ok => ⟨δ, F, Z, _, L, z, w, fun y δ1 v F1 H1 p1 L1 s1 r1 => by
    cases e0 : L3.go δ1 i with
    | none => rw [e0] at p1; exact p1.elim
    | some ob =>
      rw [e0] at p1
      cases ob with
      | dT dvs0 =>
        obtain ⟨a, e1, f1, _, _⟩ := L1.go e0
        refine ⟨_, e1, δ1, F1, Z, _, L1, z, p1, fun xs δ2 vs F2 H2 p2 L2 s2 r2 => ?_⟩
        obtain ⟨n, p2⟩ := few p2
        refine ⟨by rw [r2.len]; exact Nat.le_of_lt (line_big n), fun ad had => ?_⟩
        obtain ⟨L4, s3⟩ := L2.newD (ho := .tup vs) had
        cases ek : keysD xs with
        | none => rw [ek] at p2; exact p2.elim
        | some ks =>
          rw [ek] at p2
          cases e2 : L3.go δ2 i with
          | none => rw [e2] at p2; exact p2.elim
          | some ob2 =>
            rw [e2] at p2
            cases ob2 with
            | dT dvs =>
              obtain ⟨a', e3, f3, ⟨kvs, h3, em, rs⟩, up⟩ := Lk.go L4 e2
              rw [e1] at e3
              cases e3
              obtain ⟨k1, k2⟩ := putT_rp (k := ks) (r1.same (s2.trans s3)) em rs
              have ev := keys_rp r2 ek
              have lk : kvs.length = dvs.length := by have := congrArg List.length em; simpa using this
              refine ⟨a, _, rfl, DPut.t (k := ks) h3 (by rw [← ev]; exact upd_same) (by rw [lk]; exact line_big p2.1), ?_⟩
              exact ok.nx _ _ _ _ p2.2 (up _ _ ⟨_, upd_same, k1, k2⟩) ((s1.trans s2).trans s3)
            | _ => exact p2.elim
      | _ => exact p1.elim⟩⟩
/-! ### raise -/
def tRs (C : Addr) (t : T3A) : T3S := fun Z _ δ => t Z δ fun xs δ' => Few xs.length (Z C δ')
end
section
variable {P : Program} {w : World} {K : PySem.W.Frag} {mg : Str → Option Value} {base : Heap} {N : List Str} {qual : Str} {scope : Scope} {f : Addr} {cd : Value} {A : Around} {outer : List Env} {s : Shared} {H : Hp} {E : XK} {x : Str} {C : Addr} {e₀ : Expr} {rest : List Expr} {ta : T3A}
theorem s_raise {np cpos pos : Pos} (hg : Gl (cxOf (Fr.CX1 P w) P w K mg base N qual scope f cd A outer s H E) x) (hm : mg x = some (.ref C)) (q : PySem.W.excIn K C Fr.bmVE "ValueError.__new__" = true) (ha : A3 (cxOf (Fr.CX1 P w) P w K mg base N qual scope f cd A outer s H E) E (e₀ :: rest) ta)
    (he : starEach (e₀ :: rest) (cxOf (Fr.CX1 P w) P w K mg base N qual scope f cd A outer s H E).env = (false, eval e₀ (cxOf (Fr.CX1 P w) P w K mg base N qual scope f cd A outer s H E).env) :: starEach rest (cxOf (Fr.CX1 P w) P w K mg base N qual scope f cd A outer s H E).env := by rfl)
    (hpl : (backTo cpos (starEach rest (cxOf (Fr.CX1 P w) P w K mg base N qual scope f cd A outer s H E).env)).any (·.1) = false := by rfl) (hdb : (x == ("__debug__" : Str)) = false := by decide) :
    S3 (cxOf (Fr.CX1 P w) P w K mg base N qual scope f cd A outer s H E) E (.Raise (some (.Call (.Name x np) (e₀ :: rest) [] cpos)) none pos) (tRs C ta) :=
  ⟨fun F0 H0 B => ps_imp (Fr.ps_raise hg hm q (ha.h F0 H0 B) he hpl hdb) fun Dn σ H1 hh => ex4 hh fun δ F Z En L z w ok => ⟨δ, F, Z, _, L, z, w, fun xs δ' vs F' H' p' L' s r => by
    obtain ⟨n, p'⟩ := few p'
    exact ⟨by rw [r.len]; exact Nat.le_of_lt (line_big n), z C σ δ' F' H' L' p'⟩⟩⟩
end
section
variable {X : Cx} {E : XK} {e a b c o : Expr} {es : List Expr} {pos p : Pos}
/-! ### xs.reverse(), xs.extend(e) -/
def tXt (i : Nat) (t : T3D) : T3S := fun Z En δ => match go δ i with
  | some (.lst _) => t Z δ fun x δ' => (match go δ' i, x with
    | some (.lst xs), .lst ys => xs.length + ys.length ≤ 1000000 ∧ En.nx (pt δ' i (.lst (xs ++ ys)))
    | _, _ => False)
  | _ => False
/-! ### all of a list of truths -/
end
end L3

set_option Elab.async false
set_option linter.all false
set_option maxRecDepth 100000
/-! From the hand layer's promises to those over data; the law's own. -/
namespace L3
open PySem PySem.Spec L2
section
variable {P : Program} {w : World} {K : PySem.W.Frag} {mg : Str → Option Value} {base : Heap} {k : Nat} {f : Addr} {fd : FuncData} {ps : List Str}
theorem cx0_of {sp sp' : Sp} (F : FnOk P w K mg base (Fr.CX1 P w) k f fd ps sp) (h : ∀ vs H Q E, sp' vs H Q E → sp vs H Q E0) : FnOk P w K mg base CX0 k f fd ps sp' :=
  ⟨fun vs H Q E q => F.len vs H Q E0 (h _ _ _ _ q), fun A outer s H args us vs Q E hr he hb hv hs => codeAny_mono (F.run A outer s H args us vs Q E0 hr he hb hv (h _ _ _ _ hs)) fun r s' q => by
    cases r with
    | error e =>
      obtain ⟨x, C, H', _, _, _, _, _, _, z⟩ := q
      exact z
    | ok fl => cases fl <;> exact q⟩
/-- what a law is handed and what it gives -/
def spLaw (K : PySem.W.Frag) : Sp := fun vs H Q _ => ∃ (a : Addr) (ns : List Int), vs = [.ref a] ∧ SqL K H a (ns.map V.int) ∧ ns.length ≤ 63 ∧ Tb K H ∧ ∀ H', Tb K H' → Q (.bl true) H'
def sp3Law : Sp3 := fun δ Q _ => match δ with
  | [.d (.scr ns)] => ns.length ≤ 63 ∧ ∀ ob, Q (.d (.bl true)) ob
  | _ => False
end
theorem law_of {P : Program} {w : World} {K : PySem.W.Frag} {mg : Str → Option Value} {base : Heap} {k : Nat} {f : Addr} {fd : FuncData} {ps : List Str} {sp : Sp3} (F : FnOk P w K mg base (Fr.CX1 P w) k f fd ps (lsp K sp))
    (h : ∀ ns : List Int, ns.length ≤ 63 → ∀ Q : Rv → Option Ob → Prop, (∀ ob, Q (.d (.bl true)) ob) → sp [.d (.scr ns)] Q (fun _ _ => False)) : FnOk P w K mg base CX0 k f fd ps (spLaw K) := by
  refine cx0_of F fun vs H Q E ⟨a, ns, e, sq, len, tb, q⟩ => ?_
  subst e
  refine ⟨H, none, _, fun r _ => r = .d (.bl true), fun _ _ => False, Lk.args tb (Same.refl _) (.one (.scr sq)), h ns len _ (fun _ => rfl), fun r ob v F' H' e f k => ?_, fun _ _ _ _ z => z.elim⟩
  subst e
  cases k
  exact q H' (tb.same (f.f0.trans f.fh))
end L3
namespace L3
open PySem PySem.Spec L2
/-! ### attributes as targets; lent promises -/
section
variable {X : Cx} {E : XK} {e a b c o : Expr} {es : List Expr} {pos p : Pos}
def gFd (C : Addr) (f : Str) (i : Nat) : T3G := fun x δ Q => match go δ i with
  | some (.ins C' fs) => C' = C ∧ fs.length < 100 ∧ Q (pt δ i (.ins C' (putD f x fs)))
  | _ => False
theorem g_fld (i : Nat) {C : Addr} {f x : Str} {pos' : Pos} (c : Cls X.K C) (n : NoAttr X.K C f) (hN : X.N[i]? = some x := by rfl) (hv : Vis X.env.scope x := by first | exact Or.inl rfl | exact Or.inr (Or.inl rfl) | exact Or.inr (Or.inr rfl)) (hd : (x == ("__debug__" : Str)) = false := by decide)
    (hcd : (x == ("__classdict__" : Str)) = false := by decide) : G3 X (.Attribute (.Name x p) f pos') (gFd C f i) :=
  ⟨fun F0 H0 B => by
    intro pins s σ H v u Q I r ⟨δ, F, y, P, L, ry, w, q⟩
    unfold gFd at w
    cases e0 : L3.go δ i with
    | none => rw [e0] at w; exact w.elim
    | some ob =>
      rw [e0] at w
      cases ob with
      | ins C' fs =>
        obtain ⟨rfl, hl, w⟩ := w
        obtain ⟨a, e1, f1, ⟨dx, vs, hh, ek, rs⟩, up⟩ := L.go e0
        obtain ⟨k1, k2⟩ := put_rp (f := f) ry ek rs
        have lv : vs.length = fs.length := by have := congrArg List.length ek; simpa using this
        rw [PySem.assign_Attribute]
        refine wpAny_bind (wpAny_holding (thn (pe_var (pos := p) hN hv hd hcd pins s σ H (fun x H1 => x = .ref a ∧ H1 = H) I ⟨_, e1, rfl, rfl⟩) fun ov s1 ⟨x1, H1, I1, rx, ex, eH⟩ => ?_))
        subst ex eH
        obtain rfl : ov = Value.ref a := rx
        refine wpAny_bind (wpAny_standAt (wpAny_bind (wpAny_holding (setattr_ok I1 hh c n (by omega) r fun s2 I2 => ?_))))
        exact wpAny_release ⟨σ, _, I2, q _ _ F _ w (up _ _ ⟨dx, _, upd_same, k1, k2⟩) (Same.refl _)⟩
      | _ => exact w.elim⟩
end
theorem Lk.two {K : PySem.W.Frag} {F H : Hp} {B : Option Addr} {vs : List V} {s1 s2 : Sl} (L : Lk K F H B (vs.map some) [s1, s2] F H) : ∃ v1 v2, vs = [v1, v2] := by
  have := L.len
  rw [List.length_map] at this
  match vs, this with
  | [v1, v2], _ => exact ⟨v1, v2, rfl⟩
end L3
namespace L3
open PySem PySem.Spec L2
structure Bt (mg : Str → Option Value) : Prop extends Fr.Bi mg where
  enumerate : mg "enumerate" = none
  sum : mg "sum" = none
  sorted : mg "sorted" = none
  any : mg "any" = none
  dict : mg "dict" = none
  reversed : mg "reversed" = none
theorem units1 {A : Around} {k : Nat} (hr : Room k A) : A.units + 1 < cLine := hu_of hr
end L3
namespace L3
/-! how a loop is read -/
theorem forL_inv {g : T3G} {tb : T3S} {Z : Zk} {En : En} (I : Nat → List Sl → Prop) : ∀ {xs : List D} {δ : List Sl}, I 0 δ →
    (∀ (i : Nat) (x : D) (δ : List Sl) (N : List Sl → Prop), xs[i]? = some x → I i δ → (∀ δ', I (i + 1) δ' → N δ') → g x δ fun δ1 => tb Z { nx := N, ct := N, bk := En.nx, rt := En.rt } δ1) →
    (∀ δ, I xs.length δ → En.nx δ) → forL g tb Z En xs δ := by
  intro xs δ h0 step done
  have key : ∀ (m i : Nat) (δ : List Sl), m = xs.length - i → i ≤ xs.length → I i δ → forL g tb Z En (xs.drop i) δ := by
    intro m
    induction m with
    | zero =>
      intro i δ hm hi hI
      have : i = xs.length := by omega
      subst this
      rw [List.drop_length]
      exact done δ hI
    | succ m ih =>
      intro i δ hm hi hI
      have lt : i < xs.length := by omega
      rw [List.drop_eq_getElem_cons lt]
      exact step i _ δ _ (List.getElem?_eq_getElem lt) hI fun δ' h' => ih (i + 1) δ' (by omega) lt h'
  have := key xs.length 0 δ (by simp) (Nat.zero_le _) h0
  rwa [List.drop_zero] at this
theorem forL_range {g : T3G} {tb : T3S} {Z : Zk} {En : En} (I : Nat → List Sl → Prop) {lo : Int} {n : Nat} {δ : List Sl} (h0 : I 0 δ)
    (step : ∀ (i : Nat) (δ : List Sl) (N : List Sl → Prop), i < n → I i δ → (∀ δ', I (i + 1) δ' → N δ') → g (.int (lo + (i : Int))) δ fun δ1 => tb Z { nx := N, ct := N, bk := En.nx, rt := En.rt } δ1)
    (done : ∀ δ, I n δ → En.nx δ) : forL g tb Z En (rngD lo n) δ := by
  refine forL_inv I h0 (fun i x δ N hx hI hN => ?_) (by rw [rngD_len]; exact done)
  have lt : i < n := by
    have := (List.getElem?_eq_some_iff.mp hx).1
    rwa [rngD_len] at this
  rw [rngD_at lt] at hx
  cases hx
  exact step i δ N lt hI hN
theorem fitN {a : Nat} (h : a < 2 ^ 64) : Fit (a : Int) := by
  show (a : Int).natAbs < 2 ^ 65536
  rw [Int.natAbs_natCast]
  exact Nat.lt_of_lt_of_le h (Nat.pow_le_pow_right (by decide) (by decide))
theorem fitI {a : Int} (h : a.natAbs < 2 ^ 64) : Fit a := Nat.lt_of_lt_of_le h (Nat.pow_le_pow_right (by decide) (by decide))
end L3
namespace L3
open PySem PySem.Spec L2
theorem d_globI {X : Cx} {E : XK} {pos : Pos} {x : Str} {i : Int} {t : Tok} (hg : Gl X x) (hm : X.mg x = some (.int i t)) (hd : (x == ("__debug__" : Str)) = false := by decide) : D3 X E (.Name x pos) (tK (.int i)) :=
  d_glob (v := .int i) hg hm ⟨t, rfl⟩ (fun _ => .int i) hd
end L3

set_option Elab.async false
set_option linter.all false
set_option maxRecDepth 100000
/-! Looks at what is owned, without making it data. -/
namespace L3
open PySem PySem.Spec L2
def Sl.pk : Sl → Option D
  | .d x => some x
  | .own o => o.frz
  | .bor o => o.frz
  | .un => none
def pk (δ : List Sl) (i : Nat) : Option D := match δ[i]? with
  | some s => s.pk
  | none => none
theorem OwnOk.frz' {K : PySem.W.Frag} {F Fp H : Hp} {a : Addr} {o : Ob} {x : D} (h : OwnOk K F H a o) (e : o.frz = some x) (s1 : Same F Fp) (s2 : Same Fp H) : ∃ Fq, Same Fp Fq ∧ Same Fq H ∧ Rp K Fq (.ref a) x := by
  obtain ⟨ho, eh⟩ := h.there
  have sU : Same Fp (upd Fp a ho) := fun b u e => by
    by_cases q : b = a
    · subst q; rw [upd_same]; rw [s2 _ _ e] at eh; exact eh.symm
    · rw [upd_ne q]; exact e
  have sH : Same (upd Fp a ho) H := fun b u e => by
    by_cases q : b = a
    · subst q; rw [upd_same] at e; rw [eh]; exact e
    · rw [upd_ne q] at e; exact s2 _ _ e
  refine ⟨upd Fp a ho, sU, sH, ?_⟩
  have s := s1.trans sU
  cases o with
  | lst xs => obtain ⟨vs, e1, r⟩ := h; cases e; rw [eh] at e1; cases e1; exact .lst upd_same (r.same s)
  | dT kvs => obtain ⟨vs, e1, k, r⟩ := h; cases e; rw [eh] at e1; cases e1; exact .dT upd_same k (r.same s)
  | dK kvs => obtain ⟨vs, e1, k, r⟩ := h; cases e; rw [eh] at e1; cases e1; exact .dK upd_same k (r.same s)
  | ins C fs => obtain ⟨dx, vs, e1, k, r⟩ := h; cases e; rw [eh] at e1; cases e1; exact .obj upd_same k (r.same s)
  | pu => cases e
theorem Lk.pk {K : PySem.W.Frag} {F0 H0 F H Fp : Hp} {B : Option Addr} {σ : St} {δ : List Sl} {i : Nat} {x : D} (L : Lk K F0 H0 B σ δ F H) (s1 : Same F Fp) (s2 : Same Fp H) (e : pk δ i = some x) : ∃ v Fq, σ[i]? = some (some v) ∧ Same Fp Fq ∧ Same Fq H ∧ Rp K Fq v x := by
  unfold L3.pk at e
  cases q : δ[i]? with
  | none => rw [q] at e; cases e
  | some s =>
    rw [q] at e
    have z := L.sl i s q
    cases s with
    | un => cases e
    | d y => cases e; obtain ⟨v, e1, r⟩ := z; exact ⟨v, Fp, e1, Same.refl _, s2, r.same s1⟩
    | own o =>
      obtain ⟨a, e1, _, _, w⟩ := z
      obtain ⟨Fq, a1, a2, a3⟩ := w.frz' e s1 s2
      exact ⟨_, Fq, e1, a1, a2, a3⟩
    | bor o =>
      obtain ⟨a, e1, _, _, w⟩ := z
      obtain ⟨Fq, a1, a2, a3⟩ := w.frz' e s1 s2
      exact ⟨_, Fq, e1, a1, a2, a3⟩
/-- a list of names as arguments -/
def tVars (is : List Nat) : TA := fun σ H Q => ∃ vs, Paired (fun i v => σ[i]? = some (some v)) is vs ∧ Q vs H
section
variable {X : Cx} {E : XK} {e a b c o : Expr} {es : List Expr} {pos p : Pos}
structure V3 (X : Cx) (es : List Expr) (is : List Nat) : Prop where
  h : PA X es (tVars is)
/-- a built-in function of one name and a type: isinstance(name, T) -/
def tIsN (i : Nat) (T : String) : T3D := fun Z δ Q => match pk δ i with
  | some x => rIsi [x, .ty T] fun z => (match z with
    | .bl k => Q (.bl k) δ
    | _ => False)
  | none => False
theorem d_isiN (i : Nat) {x y : Str} {T : String} {p1 p2 : Pos} (hg : Gl X "isinstance") (hm : X.mg "isinstance" = none) (hgT : Gl X y) (hmT : X.mg y = none) (hvT : bootBuiltins y = some (.type T))
    (hN : X.N[i]? = some x := by rfl) (hv : Vis X.env.scope x := by first | exact Or.inl rfl | exact Or.inr (Or.inl rfl) | exact Or.inr (Or.inr rfl)) (hd : (x == ("__debug__" : Str)) = false := by decide) (hcd : (x == ("__classdict__" : Str)) = false := by decide)
    (hnT : y ≠ "__name__" := by decide) (hdT : (y == ("__debug__" : Str)) = false := by decide) : D3 X E (.Call (.Name "isinstance" p) [.Name x p1, .Name y p2] [] pos) (tIsN i T) :=
  ⟨fun F0 H0 B => pe_imp (pe_callB call_isiT hg hm PyProof.Rows.boot_isinstance (pa_cons (pe_var hN hv hd hcd) (pa_cons (Fr.pe_ty hgT hmT hvT hnT hdT) pa_nil Fr.star_name) Fr.star_name)) fun σ H Q hh => ex4 hh fun δ F Z P L z w q => by
    unfold tIsN at w
    cases e1 : L3.pk δ i with
    | none => rw [e1] at w; exact w.elim
    | some x =>
      rw [e1] at w
      obtain ⟨v, Fq, s1, a1, a2, a3⟩ := L.pk (Same.refl _) L.fh e1
      refine ⟨v, s1, cr_isi Fq H [x, .ty T] [v, .ty T] Q _ a2 (.cons a3 (.cons (.ty T) .nil)) w fun zz ww pz rz => ?_⟩
      cases rz with
      | bl k => exact q _ δ _ F H pz L (Same.refl _) (.bl k)
      | _ => exact pz.elim⟩
end
end L3
namespace L3
open PySem
theorem eqv_refl {x : D} (h : CanEq x) : PyData.eqv x.py x.py = true := SeqAt.eqv_refl x.py h.1
/-- lists of data that can be compared -/
theorem pys_lay {f : Nat} : ∀ {xs : List D}, (∀ x ∈ xs, x.py.canLay0 = true ∧ x.py.depth ≤ f) → PyData.canLayAll0 (D.pys xs) = true ∧ PyData.depthAll (D.pys xs) ≤ f
  | [], _ => by simp [D.pys, PyData.canLayAll0, PyData.depthAll]
  | x :: xs, h => by
    have a := h x List.mem_cons_self
    have b := pys_lay fun y hy => h y (List.mem_cons_of_mem _ hy)
    simp only [D.pys, PyData.canLayAll0, PyData.depthAll, a.1, b.1, Bool.and_self, true_and]
    have := a.2
    have := b.2
    omega
theorem canEq_lst {f : Nat} {xs : List D} (h : ∀ x ∈ xs, x.py.canLay0 = true ∧ x.py.depth ≤ f) (hf : f ≤ 50) : CanEq (.lst xs) := by
  obtain ⟨a, b⟩ := pys_lay h
  refine ⟨by simpa [D.py, PyData.canLay0] using a, ?_⟩
  show PyData.depth (.list (D.pys xs)) ≤ 60
  simp only [PyData.depth]
  omega
theorem canEq_tup {f : Nat} {xs : List D} (h : ∀ x ∈ xs, x.py.canLay0 = true ∧ x.py.depth ≤ f) (hf : f ≤ 50) : CanEq (.tup xs) := by
  obtain ⟨a, b⟩ := pys_lay h
  refine ⟨by simpa [D.py, PyData.canLay0] using a, ?_⟩
  show PyData.depth (.tuple (D.pys xs)) ≤ 60
  simp only [PyData.depth]
  omega
theorem lay_int (i : Int) : (D.int i).py.canLay0 = true ∧ (D.int i).py.depth ≤ 0 := ⟨rfl, by show PyData.depth (.int i) ≤ 0; simp [PyData.depth]⟩
theorem enumD_at {xs : List D} {i : Nat} {x : D} (h : (enumD xs)[i]? = some x) : ∃ y, xs[i]? = some y ∧ x = .tup [.int (i : Nat), y] := by
  have lt := (List.getElem?_eq_some_iff.mp h).1
  rw [enumD_len] at lt
  unfold enumD at h
  rw [List.getElem?_map, List.getElem?_range lt] at h
  have h' : D.tup [.int (i : Nat), xs[i]?.getD .non] = x := by simpa using h
  refine ⟨xs[i], List.getElem?_eq_getElem lt, ?_⟩
  rw [← h', List.getElem?_eq_getElem lt]
  rfl
end L3
namespace L3
open PySem L2
theorem MtOk.mono {P : Program} {w : World} {K : PySem.W.Frag} {mg : Str → Option Value} {base : Heap} {j k : Nat} {C : Addr} {m : Str} {ps : List Str} {sp : Sp3} (O : MtOk P w K mg base j C m ps sp) (h : j ≤ k) : MtOk P w K mg base k C m ps sp := by
  obtain ⟨c, f, fd, a, b, d⟩ := O
  exact ⟨c, f, fd, a.mono h, b, d⟩
theorem MkOk.mono {P : Program} {w : World} {K : PySem.W.Frag} {mg : Str → Option Value} {base : Heap} {j k : Nat} {x : Str} {C : Addr} {ps : List Str} {sp : Sp3} (O : MkOk P w K mg base j x C ps sp) (h : j ≤ k) : MkOk P w K mg base k x C ps sp := by
  obtain ⟨⟨f, fd, a, b, d⟩, m⟩ := O
  exact ⟨⟨f, fd, a.mono h, b, d⟩, m⟩
end L3

set_option Elab.async false
set_option linter.all false
set_option maxRecDepth 100000
set_option maxHeartbeats 8000000
/-! further built-ins over data -/
namespace Fr
open PySem PySem.Spec L2
open PyProof.Rows hiding St
open Sem (wp)
section
variable {X : Cx}
end
end Fr
namespace L3
open PySem L2
section
end
section
variable {X : Cx} {E : XK} {e a b c o : Expr} {es : List Expr} {pos : Pos}
end
end L3

set_option Elab.async false
set_option linter.all false
set_option maxRecDepth 100000
/-! Helps for reading: cuts, what == tells. -/
namespace L3
open PySem PySem.Spec L2
theorem seq_cut {t u : T3S} {Z : Zk} {En : En} {δ : List Sl} (R : List Sl → Prop) (h1 : ∀ N : List Sl → Prop, (∀ δ', R δ' → N δ') → t Z { En with nx := N } δ) (h2 : ∀ δ', R δ' → u Z En δ') : tSq t u Z En δ := h1 _ h2
theorem gn_in {i : Nat} {x : D} {δ : List Sl} {tb : T3S} {Z : Zk} {En : En} (h : tb Z En (δ.set i (.d x))) : gNm i x δ fun δ1 => tb Z En δ1 := h
mutual
/-- whole numbers, texts, tuples and lists of them -/
def plain : D → Bool
  | .int _ => true
  | .str _ => true
  | .tup xs => plains xs
  | .lst xs => plains xs
  | _ => false
def plains : List D → Bool
  | [] => true
  | x :: xs => plain x && plains xs
end
mutual
theorem eqv_plain : ∀ (x y : D), plain x = true → plain y = true → (PyData.eqv x.py y.py = true ↔ x = y)
  | .int i, .int j, _, _ => by simp [D.py, PyData.eqv]
  | .str i, .str j, _, _ => by simp [D.py, PyData.eqv]
  | .tup xs, .tup ys, h1, h2 => by
    have := eqv_plains xs ys (by simpa [plain] using h1) (by simpa [plain] using h2)
    simp [D.py, PyData.eqv, this]
  | .lst xs, .lst ys, h1, h2 => by
    have := eqv_plains xs ys (by simpa [plain] using h1) (by simpa [plain] using h2)
    simp [D.py, PyData.eqv, this]
  | .int i, .str j, _, _ => by simp [D.py, PyData.eqv]
  | .int i, .tup j, _, _ => by simp [D.py, PyData.eqv]
  | .int i, .lst j, _, _ => by simp [D.py, PyData.eqv]
  | .str i, .int j, _, _ => by simp [D.py, PyData.eqv]
  | .str i, .tup j, _, _ => by simp [D.py, PyData.eqv]
  | .str i, .lst j, _, _ => by simp [D.py, PyData.eqv]
  | .tup i, .int j, _, _ => by simp [D.py, PyData.eqv]
  | .tup i, .str j, _, _ => by simp [D.py, PyData.eqv]
  | .tup i, .lst j, _, _ => by simp [D.py, PyData.eqv]
  | .lst i, .int j, _, _ => by simp [D.py, PyData.eqv]
  | .lst i, .str j, _, _ => by simp [D.py, PyData.eqv]
  | .lst i, .tup j, _, _ => by simp [D.py, PyData.eqv]
  | .non, _, h, _ => by simp [plain] at h
  | .bl _, _, h, _ => by simp [plain] at h
  | .ty _, _, h, _ => by simp [plain] at h
  | .adr _, _, h, _ => by simp [plain] at h
  | .dT _, _, h, _ => by simp [plain] at h
  | .dK _, _, h, _ => by simp [plain] at h
  | .obj _ _, _, h, _ => by simp [plain] at h
  | .scr _, _, h, _ => by simp [plain] at h
  | .exc _, _, h, _ => by simp [plain] at h
  | _, .non, _, h => by simp [plain] at h
  | _, .bl _, _, h => by simp [plain] at h
  | _, .ty _, _, h => by simp [plain] at h
  | _, .adr _, _, h => by simp [plain] at h
  | _, .dT _, _, h => by simp [plain] at h
  | _, .dK _, _, h => by simp [plain] at h
  | _, .obj _ _, _, h => by simp [plain] at h
  | _, .scr _, _, h => by simp [plain] at h
  | _, .exc _, _, h => by simp [plain] at h
theorem eqv_plains : ∀ (xs ys : List D), plains xs = true → plains ys = true → (PyData.eqvAll (D.pys xs) (D.pys ys) = true ↔ xs = ys)
  | [], [], _, _ => by simp [D.pys, PyData.eqvAll]
  | [], _ :: _, _, _ => by simp [D.pys, PyData.eqvAll]
  | _ :: _, [], _, _ => by simp [D.pys, PyData.eqvAll]
  | x :: xs, y :: ys, h1, h2 => by
    have h1' : plain x = true ∧ plains xs = true := by simpa [plains] using h1
    have h2' : plain y = true ∧ plains ys = true := by simpa [plains] using h2
    simp [D.pys, PyData.eqvAll, eqv_plain x y h1'.1 h2'.1, eqv_plains xs ys h1'.2 h2'.2]
end
end L3

set_option Elab.async false
set_option linter.all false
/-! what the slots at a call are, told by a promise -/
namespace L3
open PySem
theorem iv_d {δ : List Sl} {P : D → Prop} (h : match δ with
  | [.d x0] => P x0
  | _ => False) : ∃ x0, δ = [.d x0] ∧ P x0 := by
  split at h
  · exact ⟨_, rfl, h⟩
  · exact h.elim
theorem ln_d {δ : List Sl} {P : D → Prop} (h : match δ with
  | [.d x0] => P x0
  | _ => False) : δ.length = 1 := by
  obtain ⟨x0, rfl, _⟩ := iv_d h
  rfl
theorem iv_i {δ : List Sl} {P : Int → Prop} (h : match δ with
  | [.d (.int x0)] => P x0
  | _ => False) : ∃ x0, δ = [.d (.int x0)] ∧ P x0 := by
  split at h
  · exact ⟨_, rfl, h⟩
  · exact h.elim
theorem ln_i {δ : List Sl} {P : Int → Prop} (h : match δ with
  | [.d (.int x0)] => P x0
  | _ => False) : δ.length = 1 := by
  obtain ⟨x0, rfl, _⟩ := iv_i h
  rfl
theorem iv_s {δ : List Sl} {P : List Int → Prop} (h : match δ with
  | [.d (.scr x0)] => P x0
  | _ => False) : ∃ x0, δ = [.d (.scr x0)] ∧ P x0 := by
  split at h
  · exact ⟨_, rfl, h⟩
  · exact h.elim
theorem ln_s {δ : List Sl} {P : List Int → Prop} (h : match δ with
  | [.d (.scr x0)] => P x0
  | _ => False) : δ.length = 1 := by
  obtain ⟨x0, rfl, _⟩ := iv_s h
  rfl
theorem iv_di {δ : List Sl} {P : D → Int → Prop} (h : match δ with
  | [.d x0, .d (.int x1)] => P x0 x1
  | _ => False) : ∃ x0 x1, δ = [.d x0, .d (.int x1)] ∧ P x0 x1 := by
  split at h
  · exact ⟨_, _, rfl, h⟩
  · exact h.elim
theorem ln_di {δ : List Sl} {P : D → Int → Prop} (h : match δ with
  | [.d x0, .d (.int x1)] => P x0 x1
  | _ => False) : δ.length = 2 := by
  obtain ⟨x0, x1, rfl, _⟩ := iv_di h
  rfl
theorem iv_ii {δ : List Sl} {P : Int → Int → Prop} (h : match δ with
  | [.d (.int x0), .d (.int x1)] => P x0 x1
  | _ => False) : ∃ x0 x1, δ = [.d (.int x0), .d (.int x1)] ∧ P x0 x1 := by
  split at h
  · exact ⟨_, _, rfl, h⟩
  · exact h.elim
theorem ln_ii {δ : List Sl} {P : Int → Int → Prop} (h : match δ with
  | [.d (.int x0), .d (.int x1)] => P x0 x1
  | _ => False) : δ.length = 2 := by
  obtain ⟨x0, x1, rfl, _⟩ := iv_ii h
  rfl
theorem iv_si {δ : List Sl} {P : List Int → Int → Prop} (h : match δ with
  | [.d (.scr x0), .d (.int x1)] => P x0 x1
  | _ => False) : ∃ x0 x1, δ = [.d (.scr x0), .d (.int x1)] ∧ P x0 x1 := by
  split at h
  · exact ⟨_, _, rfl, h⟩
  · exact h.elim
theorem ln_si {δ : List Sl} {P : List Int → Int → Prop} (h : match δ with
  | [.d (.scr x0), .d (.int x1)] => P x0 x1
  | _ => False) : δ.length = 2 := by
  obtain ⟨x0, x1, rfl, _⟩ := iv_si h
  rfl
theorem iv_ddi {δ : List Sl} {P : D → D → Int → Prop} (h : match δ with
  | [.d x0, .d x1, .d (.int x2)] => P x0 x1 x2
  | _ => False) : ∃ x0 x1 x2, δ = [.d x0, .d x1, .d (.int x2)] ∧ P x0 x1 x2 := by
  split at h
  · exact ⟨_, _, _, rfl, h⟩
  · exact h.elim
theorem ln_ddi {δ : List Sl} {P : D → D → Int → Prop} (h : match δ with
  | [.d x0, .d x1, .d (.int x2)] => P x0 x1 x2
  | _ => False) : δ.length = 3 := by
  obtain ⟨x0, x1, x2, rfl, _⟩ := iv_ddi h
  rfl
theorem iv_dii {δ : List Sl} {P : D → Int → Int → Prop} (h : match δ with
  | [.d x0, .d (.int x1), .d (.int x2)] => P x0 x1 x2
  | _ => False) : ∃ x0 x1 x2, δ = [.d x0, .d (.int x1), .d (.int x2)] ∧ P x0 x1 x2 := by
  split at h
  · exact ⟨_, _, _, rfl, h⟩
  · exact h.elim
theorem ln_dii {δ : List Sl} {P : D → Int → Int → Prop} (h : match δ with
  | [.d x0, .d (.int x1), .d (.int x2)] => P x0 x1 x2
  | _ => False) : δ.length = 3 := by
  obtain ⟨x0, x1, x2, rfl, _⟩ := iv_dii h
  rfl
theorem us_1 {us : List Value} (h : us.length = 1) : ∃ a0, us = [a0] := by
  match us, h with
  | [a0], _ => exact ⟨a0, rfl⟩
theorem us_2 {us : List Value} (h : us.length = 2) : ∃ a0 a1, us = [a0, a1] := by
  match us, h with
  | [a0, a1], _ => exact ⟨a0, a1, rfl⟩
theorem us_3 {us : List Value} (h : us.length = 3) : ∃ a0 a1 a2, us = [a0, a1, a2] := by
  match us, h with
  | [a0, a1, a2], _ => exact ⟨a0, a1, a2, rfl⟩
theorem us_5 {us : List Value} (h : us.length = 5) : ∃ a0 a1 a2 a3 a4, us = [a0, a1, a2, a3, a4] := by
  match us, h with
  | [a0, a1, a2, a3, a4], _ => exact ⟨a0, a1, a2, a3, a4, rfl⟩
end L3

set_option Elab.async false
set_option linter.all false
set_option maxRecDepth 100000
set_option maxHeartbeats 8000000
/-! sum of a list of numbers -/
namespace Fr
open PySem PySem.Spec L2
open PyProof.Rows hiding St
open Sem (wp)
def sm40 (is : List Int) : Prop := is.length ≤ 1000000 ∧ ∀ i ∈ is, i.natAbs < 2 ^ 40
theorem preSum_at (is : List Int) : ∀ j, j ≤ is.length → preSum (fun i => (is[i]?).getD 0) j = (is.take j).sum
  | 0, _ => rfl
  | j + 1, h => by
    have ih := preSum_at is j (by omega)
    show preSum _ j + _ = _
    have e : is[j]? = some is[j] := List.getElem?_eq_getElem (by omega)
    rw [ih, List.take_add_one, e, List.sum_append]
    simp [e]
theorem sum_le (is : List Int) (h : ∀ i ∈ is, i.natAbs < 2 ^ 40) : is.sum.natAbs ≤ is.length * 2 ^ 40 := by
  induction is with
  | nil => simp
  | cons a r ih =>
    have h1 := ih fun i hi => h i (List.mem_cons_of_mem _ hi)
    have h2 := h a (List.mem_cons_self ..)
    rw [List.sum_cons, List.length_cons]
    omega
section
variable {X : Cx}
theorem call_sumI (hc : X.calm = true) : CallR X (.builtin "sum") (fun xs H Q => ∃ p ys, xs = [.ref p] ∧ SqL X.K H p ys ∧ ∃ is : List Int, ys = is.map V.int ∧ sm40 is ∧ Q (.int is.sum) H) := by
  intro pins s σ H xs us Q I r h
  obtain ⟨p, ys, rfl, hq, is, rfl, ⟨hl, hb⟩, q⟩ := h
  obtain ⟨u, rfl, r1⟩ := vals1 r
  cases r1
  obtain ⟨its, rv, pl, hz⟩ := I.list hq
  have lt : p < s.heap.objs.size := by obtain ⟨_, e, _⟩ := pl.isList; exact Heap.lt_size e
  have el : its.toArray.size = is.length := by
    have := rv.length
    rw [List.length_map] at this
    simp [this]
  refine call_sum_walk (wpAny_pyIter_list pl.isList ?_)
  refine ⟨s.heap.objs.size, _, _, _, _, _, fun i => (is[i]?).getD 0, rfl, Walks.list (A := X.A.in1) (I.ok.hd hc) _ p (Nat.ne_of_lt lt) its.toArray, ⟨⟨_, Heap.get?_push_size _ rfl, rfl, rfl⟩, pl.isList.push _⟩, ?_, ?_, ?_, ?_⟩
  · intro b hb
    have : s.heap.objs.size < (s.heap.push { cls := Value.type "list_iterator", data := Data.fields #[Value.ref p, Value.int 0 0] }).objs.size := by simp [Heap.push]
    rcases List.mem_cons.mp hb with rfl | hb
    · exact this
    · have e : b = p := by simpa using hb
      rw [e]
      exact Nat.lt_trans lt this
  · intro i v hv
    have hv' : its[i]? = some v := by simpa using hv
    have lti : i < (is.map V.int).length := by
      have := (List.getElem?_eq_some_iff.mp hv').1
      rw [rv.length]
      exact this
    obtain ⟨u', e', ru⟩ := rv.get (List.getElem?_eq_getElem lti)
    rw [hv'] at e'
    cases e'
    rw [List.getElem_map] at ru
    rw [List.length_map] at lti
    obtain ⟨t, rfl⟩ := ru
    refine ⟨t, ?_⟩
    dsimp only
    rw [List.getElem?_eq_getElem lti]
    rfl
  · intro j hj
    rw [el] at hj
    have ej : is[j]? = some is[j] := List.getElem?_eq_getElem hj
    have b1 := hb _ (List.getElem_mem hj)
    have b2 := sum_le (is.take (j + 1)) fun i hi => hb i (List.mem_of_mem_take hi)
    have b3 : (is.take (j + 1)).length ≤ 1000000 := by rw [List.length_take]; omega
    rw [preSum_at is (j + 1) hj]
    refine ⟨?_, ?_⟩
    · dsimp only
      rw [ej]
      show -(2 ^ 63) ≤ is[j] ∧ is[j] < 2 ^ 63
      omega
    · show -(2 ^ 63) ≤ _ ∧ _ < _
      omega
  · intro h' tk t' kp
    rw [el, preSum_at is _ (Nat.le_refl _), List.take_length]
    refine ⟨.int is.sum, H, I.kept (t' := tk) (fun b o e => kp b o ?_ (Heap.get?_push_of_some _ e)), ⟨_, rfl⟩, q⟩
    intro hm
    have : b = s.heap.objs.size := by simpa using hm
    exact absurd (Heap.lt_size e) (by rw [this]; exact Nat.lt_irrefl _)
end
end Fr
namespace L3
open PySem L2
section
def rSum : List D → (D → Prop) → Prop := fun xs P => match xs with
  | [.lst ys] => ∃ is : List Int, ys = is.map D.int ∧ Fr.sm40 is ∧ P (.int is.sum)
  | _ => False
theorem ints_of {K : PySem.W.Frag} {F : Hp} : ∀ {is : List Int} {vs : List V}, Rps K F vs (is.map D.int) → vs = is.map V.int
  | [], _, .nil => rfl
  | b :: bs, _, .cons r rs => by
    cases r
    rw [ints_of rs]
    rfl
theorem cr_sum {K : PySem.W.Frag} : CR3 K (fun xs H Q => ∃ p ys, xs = [.ref p] ∧ SqL K H p ys ∧ ∃ is : List Int, ys = is.map V.int ∧ Fr.sm40 is ∧ Q (.int is.sum) H) rSum := by
  intro F H xs vs Q P fh rs h q
  cases rs with
  | nil => exact h.elim
  | cons r rs =>
    cases rs with
    | cons r2 rs => cases r <;> exact h.elim
    | nil =>
      cases r with
      | lst hs rr =>
        obtain ⟨is, rfl, hb, h⟩ := h
        exact ⟨_, _, rfl, SqL.of (fh _ _ hs), is, ints_of rr, hb, q _ _ h (.int _)⟩
      | _ => exact h.elim
end
end L3

set_option Elab.async false
set_option linter.all false
set_option maxRecDepth 100000
set_option maxHeartbeats 4000000
/-! try over any expression; behind the except suite all names but the clause's stay. -/
namespace Fr
open PySem PySem.Spec L2
open PyProof.Rows hiding St
section
variable {X : Cx} {pins : List (Addr × Obj)} {σ : St} {H : Hp} {s : Shared}
end

section
variable {X : Cx} {pins : List (Addr × Obj)} {σ : St} {H H1 : Hp} {s s1 s' : Shared} {i : Nat} {n R : Str} {rp hpos : Pos} {b₀ : Stmt} {suite : List Stmt} {ts : TS} {D : Addr} {Dn : Ends} {e : Value} {Ee : Value → Shared → Prop}
end
end Fr

set_option Elab.async false
set_option linter.all false
set_option maxRecDepth 100000
set_option maxHeartbeats 4000000
/-! sorted(..): of whole numbers, and of tuples that rise already. -/
namespace Fr
open PySem PySem.Spec L2
open PyProof.Rows hiding St Fr
/-- < of lists of whole numbers, as Python tells it -/
def ltI : List Int → List Int → Bool
  | [], [] => false
  | [], _ :: _ => true
  | _ :: _, [] => false
  | a :: r, b :: t => if a == b then ltI r t else decide (a < b)
section
variable {cmp : Nat → Nat → (Bool → Shared → Prop) → Shared → Prop} {s : Shared}
/-- where each asked pair is told to rise, the run is the whole -/
theorem asc_all {n : Nat} (hc : ∀ i, i + 1 < n → ∀ C : Bool → Shared → Prop, C false s → cmp (i + 1) i C s) : ∀ (f k : Nat) (Q : Nat → Shared → Prop), k + f = n → 1 ≤ k → Q n s → (PySem.W.kas_asc (List.range n).toArray f k).kasWp cmp Q s
  | 0, k, Q, e, _, q => by
    have : k = n := by omega
    subst this
    exact q
  | f + 1, k, Q, e, h, q => by
    have at_ : ∀ j, j < n → (List.range n).toArray.getD j 0 = j := fun j hj => by simp [hj]
    show cmp ((List.range n).toArray.getD k 0) ((List.range n).toArray.getD (k - 1) 0) _ s
    rw [at_ k (by omega), at_ (k - 1) (by omega)]
    obtain ⟨j, rfl⟩ : ∃ j, k = j + 1 := ⟨k - 1, by omega⟩
    refine hc j (by omega) _ ?_
    exact asc_all hc f (j + 2) Q (by omega) (by omega) q
theorem sort_same {n : Nat} (h1 : 1 ≤ n) {Q : Array Nat → Shared → Prop} (hc : ∀ i, i + 1 < n → ∀ C : Bool → Shared → Prop, C false s → cmp (i + 1) i C s) (q : Q (List.range n).toArray s) : (PySem.W.kas_sort n).kasWp cmp Q s := by
  unfold PySem.W.kas_sort PySem.W.kas_count
  rw [PySem.W.KasT.kasWp_bind, PySem.W.KasT.kasWp_bind]
  refine asc_all hc (n - 1) 1 _ (by omega) (Nat.le_refl _) ?_
  rw [if_pos (by simp)]
  show (if n < n then _ else _ : PySem.W.KasT (Array Nat)).kasWp cmp Q s
  rw [if_neg (Nat.lt_irrefl n)]
  exact q
end
section
variable {prog : Program} {w : World} {A : Around} {E : Value → Shared → Prop}
theorem one_lt {s : Shared} {bb : Bool} {a b : Int} {t u : Tok} {Q : Bool → Shared → Prop} (h : Q (decide (a < b)) s) : wpAny (model prog w) A (oneLt' bb (.int a t) (.int b u)) Q E s := by
  cases bb with
  | true => exact oneLt_int h
  | false => exact PySem.W.kat_one _ _ (PyProof.Rows.lt_int h)
theorem lex_lt {s : Shared} {bb : Bool} {Q : Bool → Shared → Prop} : ∀ {xs ys : List Value} {is js : List Int} {i : Nat} {fin : Bool}, IntsAre xs is → IntsAre ys js → fin = decide (xs.length < ys.length) → Q (ltI is js) s → PySem.W.KatLex prog w A bb fin Q (xs.zip ys) i s
  | _, _, _, _, _, _, .nil, .nil, e, q => by subst e; exact PySem.W.kat_nil q
  | _, _, _, _, _, _, .nil, .cons _ _ _, e, q => by subst e; exact PySem.W.kat_nil (by simpa [ltI] using q)
  | _, _, _, _, _, _, .cons _ _ _, .nil, e, q => by subst e; exact PySem.W.kat_nil (by simpa [ltI] using q)
  | _, _, _, _, _, _, .cons a t h, .cons b u k, e, q => by
    refine PySem.W.kat_cons (PySem.SeqAt.EqAt.int_int a t b u _ _ _ _ ?_)
    unfold ltI at q
    refine PySem.W.kat_go (fun c => ?_) (fun c => ?_)
    · rw [if_pos c] at q
      exact PySem.W.kat_yes (lex_lt h k (by rw [e]; simp) q)
    · rw [if_neg (by rw [c]; simp)] at q
      exact PySem.W.kat_no (one_lt q)
/-- sorted of a list of one thing, or of none -/
theorem sorted_few {s : Shared} {l : Addr} {vs : List Value} {Q : Value → Shared → Prop} (hl : s.heap.IsList l vs.toArray) (few : vs.toArray.size < 2) (q : Q (.ref (s.heap.objs.size + 1)) { s with heap := sortedAll s.heap vs ((vs.toArray.zip vs.toArray).map (·.2)) }) : wpAny (model prog w) A (call (.builtin "sorted") [.ref l]) Q E s := by
  have len : vs.length < 2 := by simpa using few
  have line : vs.length ≤ sizeLine := by rw [sizeLine_eq]; omega
  generalize hg : (s.heap.push (seqObj "list" #[] 0)).update s.heap.objs.size (Obj.mapSeq (· ++ vs.toArray)) = g at *
  have gz : g.objs.size = s.heap.objs.size + 1 := by subst hg; exact (Heap.size_update ..).trans (size_push' ..)
  have gl : (g.push (seqObj "list" vs.toArray 0)).get? (s.heap.objs.size + 1) = some (seqObj "list" vs.toArray 0) := gz ▸ Heap.get?_push_size g rfl
  obtain ⟨c, g1⟩ : ∃ c, ((g.push (seqObj "list" vs.toArray 0)).update (s.heap.objs.size + 1) (Obj.mapSeq fun _ => #[])).get? (s.heap.objs.size + 1) = some (seqObj "list" #[] c) := ⟨_, get?_update_seq gl _⟩
  have g2 := Heap.get?_push_of_some (seqObj "list" #[] 0) (Heap.get?_push_of_some (seqObj "tuple" vs.toArray 0) g1)
  have body : wpAny (model prog w) A.in1.in1 (Builtin.«list.sort» ⟨[.ref (s.heap.objs.size + 1)], []⟩) (fun fin s' => fin = .done (.ret .none) ∧ s' = { s with heap := sortedAll s.heap vs ((vs.toArray.zip vs.toArray).map (·.2)) }) (fun _ _ => False) { s with heap := g.push (seqObj "list" vs.toArray 0) } := by
    rw [list_sort_plain]
    refine wpAny_bind (listItems_at gl rfl ?_); refine wpAny_bind (listUpdate_at gl rfl ?_ (by simpa using line) (Nat.zero_le _))
    refine wpAny_bind (seqEpoch_at g1 rfl ?_); refine wpAny_bind (wpAny_newTuple ?_ line); refine wpAny_bind (wpAny_newList (wpAny_holding ?_) (Nat.zero_le _))
    show wpAny _ _ _ _ _ { s with heap := (((g.push (seqObj "list" vs.toArray 0)).update (s.heap.objs.size + 1) (Obj.mapSeq fun _ => #[])).push (seqObj "tuple" vs.toArray 0)).push (seqObj "list" #[] 0) }
    dsimp only
    rw [if_pos few, if_pos few]
    refine wpAny_bind (wpAny_pure ?_); rw [StateT.run_pure]; refine wpAny_bind (wpAny_pure ?_); dsimp only
    refine wpAny_bind (seqEpoch_at g2 rfl (wpAny_bind (listUpdate_at g2 rfl ?_ (Nat.zero_le _) ?_)))
    · rw [if_neg (by simp)]
      refine wpAny_pure ⟨rfl, ?_⟩
      subst hg
      rfl
    · show (Array.map (·.2) (vs.toArray.zip vs.toArray)).size ≤ _
      rw [Array.size_map, Array.size_zip]
      omega
  refine Calls.call_function_entry kind_sorted plain_sorted entry_sorted (args_sorted1 _) (wpAny_bind (m := checkCount "sorted" 1 1 _) (wpAny_pure (wpAny_bind (collect_list hl (wpAny_bind (wpAny_newList ?_ line)) line))))
  rw [hg, gz]
  refine wpAny_bind (wpAny_holding (wpAny_call_entry slot_list_sort ⟨_, gl, rfl⟩ entry_list_sort (wpAny_mono body (fun fin s' h => ?_) fun _ _ z => z.elim) (args_list_sort _)))
  obtain ⟨rfl, rfl⟩ := h
  exact ⟨_, rfl, wpAny_pure ⟨_, rfl, q⟩⟩
end
end Fr

set_option Elab.async false
set_option linter.all false
set_option maxRecDepth 100000
set_option maxHeartbeats 4000000
/-! sorted(..) over data. -/
namespace Fr
open PySem PySem.Spec L2
open PyProof.Rows hiding St Fr
theorem vals_ints : ∀ {is : List Int} {its : List Value}, Vals (is.map V.int) its → IntsAre its is
  | [], _, .nil => .nil
  | i :: is, _, .cons r t => by
    obtain ⟨k, rfl⟩ : ∃ k, _ = Value.int i k := r
    exact .cons i k (vals_ints t)
/-- tuples of whole numbers on a heap -/
inductive TupsAt (h : Heap) : List Value → List (List Int) → Prop
  | nil : TupsAt h [] []
  | cons {a : Addr} {xs : List Value} {t : List Int} {vs : List Value} {ts : List (List Int)} : IsTup h a xs.toArray → IntsAre xs t → t ≠ [] → TupsAt h vs ts → TupsAt h (.ref a :: vs) (t :: ts)
theorem TupsAt.up {h h' : Heap} (k : ∀ b o, (∃ xs n, o.data = .seq xs n) → h.get? b = some o → h'.get? b = some o) : ∀ {vs : List Value} {ts : List (List Int)}, TupsAt h vs ts → TupsAt h' vs ts
  | _, _, .nil => .nil
  | _, _, .cons ⟨o, ho, hc, n, hd⟩ b c d => .cons ⟨o, k _ _ ⟨_, _, hd⟩ ho, hc, n, hd⟩ b c (d.up k)
theorem TupsAt.at {h : Heap} : ∀ {vs : List Value} {ts : List (List Int)} {i : Nat} {v : Value}, TupsAt h vs ts → vs[i]? = some v → ∃ a xs t, v = .ref a ∧ ts[i]? = some t ∧ IsTup h a xs.toArray ∧ IntsAre xs t
  | _, _, _, _, .nil, e => by simp at e
  | _, _, 0, _, .cons a b c d, e => by
    simp at e
    subst e
    exact ⟨_, _, _, rfl, rfl, a, b⟩
  | _, _, i + 1, v, .cons a b c d, e => by
    obtain ⟨a, xs, t, h1, h2, h3⟩ := d.at (i := i) (v := v) (by simpa using e)
    exact ⟨a, xs, t, h1, by simpa using h2, h3⟩
theorem TupsAt.kat {h : Heap} : ∀ {vs : List Value} {ts : List (List Int)}, TupsAt h vs ts → ∃ fs, PySem.W.KatTups h vs fs ∧ fs.length = vs.length ∧ ∀ v ∈ fs, ∃ n t, v = Value.int n t
  | _, _, .nil => ⟨[], .nil, rfl, fun v h => by simp at h⟩
  | _, _, .cons ⟨o, ho, hc, n, hd⟩ hi c d => by
    obtain ⟨fs, h1, h2, h3⟩ := d.kat
    cases hi with
    | nil => exact absurd rfl c
    | cons i k t =>
      refine ⟨Value.int i k :: fs, .cons ho hc hd rfl h1, by simp [h2], fun v hv => ?_⟩
      rcases List.mem_cons.mp hv with rfl | hv
      · exact ⟨i, k, rfl⟩
      · exact h3 v hv
section
variable {X : Cx}
def rSortT (K : PySem.W.Frag) : List V → Hp → VK → Prop := fun xs H Q => ∃ (p : Addr) (us : List V) (ts : List (List Int)), xs = [.ref p] ∧ SqL K H p us ∧ us.length = ts.length ∧ (∀ (i : Nat) (v : V) (t : List Int), us[i]? = some v → ts[i]? = some t → ∃ a, v = .ref a ∧ SqT K H a (t.map V.int)) ∧ (∀ t ∈ ts, t ≠ []) ∧
  (∀ (i : Nat) (t u : List Int), ts[i + 1]? = some t → ts[i]? = some u → ltI t u = false) ∧ ts.length < 64 ∧ ∀ l, H l = none → Q (.ref l) (upd H l (.lst us))
theorem tups_of {pins : List (Addr × Obj)} {σ : St} {H : Hp} {s : Shared} (I : Inv X pins σ H s) : ∀ {us : List V} {its : List Value} {ts : List (List Int)}, Vals us its → us.length = ts.length → (∀ (i : Nat) (v : V) (t : List Int), us[i]? = some v → ts[i]? = some t → ∃ a, v = .ref a ∧ SqT X.K H a (t.map V.int)) → (∀ t ∈ ts, t ≠ []) → TupsAt s.heap its ts
  | _, _, [], .nil, _, _, _ => .nil
  | _, _, _ :: _, .nil, e, _, _ => by simp at e
  | _, _, [], .cons _ _, e, _, _ => by simp at e
  | _, _, t :: ts, .cons r rs, e, h, ne => by
    obtain ⟨a, rfl, sq⟩ := h 0 _ t rfl rfl
    cases r
    obtain ⟨its, r', pl, _⟩ := I.tuple sq
    exact .cons pl (vals_ints r') (ne t (by simp)) (tups_of I rs (by simpa using e) (fun i v t' h1 h2 => h (i + 1) v t' (by simpa using h1) (by simpa using h2)) fun t' ht => ne t' (by simp [ht]))
/-- the frame keeps its names, all else stays -/
theorem inv_framed {pins : List (Addr × Obj)} {σ : St} {H : Hp} {s : Shared} {h' : Heap} {m : Str → Option Value} {tk : Nat} (I : Inv X pins σ H s) (hl : ∀ (i : Nat) (x : Str) (v : V), X.N[i]? = some x → σ[i]? = some (some v) → Vis X.env.scope x → ∃ u, RelV v u ∧ Look X.env s.heap m x u)
    (hn : h'.Ns X.env.locals m) (k : ∀ b o, b ≠ X.env.locals → s.heap.get? b = some o → h'.get? b = some o) : Inv X pins σ H { s with heap := h', toks := tk } := by
  have neL : ∀ b o, X.s₀.heap.get? b = some o → b ≠ X.env.locals := fun b o e => Nat.ne_of_lt (Nat.lt_of_lt_of_le (Heap.lt_size e) I.ok.above)
  refine ⟨I.ok, I.os, I.bare, ⟨fun b o e n hb hx => k b o (neL b o e) (I.base.keep b o e n hb hx), fun b o e n hb hx => ?_, I.base.free, fun b o e hx => ?_, I.base.tups, I.base.frzs, I.base.tbls⟩, ⟨m, hn, fun j x u hj e hv => ?_⟩, fun x c e => ?_, I.free, I.freeC, fun p hp => ?_, ?_, I.len⟩
  · obtain ⟨sl, e1⟩ := I.base.slot b o e n hb hx
    exact ⟨sl, k b _ (neL b o e) e1⟩
  · obtain ⟨o', e1⟩ := I.base.there b o e hx
    exact ⟨o', k b _ (neL b o e) e1⟩
  · obtain ⟨w, r, lk⟩ := hl j x u hj e hv
    refine ⟨w, r, ?_⟩
    rcases lk with lk | ⟨kd, c, ec, o, ho, hd⟩
    · exact .inl lk
    · exact .inr ⟨kd, c, ec, _, k c o (I.cne x c ec) ho, hd⟩
  · obtain ⟨v, o, ho, hd⟩ := I.cell x c e
    exact ⟨v, o, k c o (I.cne x c e) ho, hd⟩
  · obtain ⟨e, n, ne, nf, d⟩ := I.pin p hp
    exact ⟨k p.1 p.2 ne e, n, ne, nf, d⟩
  · exact hok_keeps I.hok fun b u hb e => k b u (fun z => hb (by rw [z]; exact I.free)) e
theorem call_sortT : CallR X (.builtin "sorted") (rSortT X.K) := by
  intro pins s σ H xs us Q I r h
  obtain ⟨p, vs, ts, rfl, hq, hl, hs, ne, up, h64, q⟩ := h
  obtain ⟨u, rfl, rx⟩ := vals1 r
  cases rx
  obtain ⟨its, r', pl, hz⟩ := I.list hq
  have hlen := r'.length
  have T := tups_of I r' hl hs ne
  by_cases few : its.toArray.size < 2
  · have e2 : (its.toArray.zip its.toArray).map (·.2) = its.toArray := Array.ext' (by rw [Array.toList_map, Array.toList_zip, List.map_snd_zip (Nat.le_refl _)])
    obtain ⟨e, he⟩ := sortedAll_at s.heap its its.toArray
    refine sorted_few pl.isList few ?_
    rw [e2]
    exact ⟨.ref (s.heap.objs.size + 1), _, I.laid (t' := s.toks) (fun b o e => sortedAll_old e) (Nat.le_succ _) (show ObjOk X.prog X.w _ _ _ (.lst vs) from ⟨hz, its, e, r', he⟩), rfl, q _ (I.hok.fresh (Nat.le_succ _))⟩
  have two : 2 ≤ its.length := by simpa using few
  obtain ⟨m, hn, hlk⟩ := I.loc
  have F : PyProof.Rows.Fr X.base X.env.locals s.heap m := ⟨hn, I.bk, by obtain ⟨_, F⟩ := I.fr; exact F.above⟩
  have kp : ∀ {h' : Heap} {ls : List (Addr × Obj)}, PyProof.Rows.Fr X.base X.env.locals h' m → News X.base X.env.locals h' ls → (∀ x ∈ allNews X.base s.heap X.env.locals, x ∈ ls) → ∀ b o, b ≠ X.env.locals → s.heap.get? b = some o → h'.get? b = some o := fun {h' ls} F' N' sub b o nb e => by
    cases z : X.base.get? b with
    | some v =>
      have := I.bk b v z
      rw [e] at this
      cases this
      exact F'.keep b _ z
    | none => exact (N' (b, o) (sub _ (mem_allNews nb z e))).1
  refine PySem.W.kat_sorted F news_all pl.isList two (by omega) fun D e1 h' F' N' lt => ?_
  have k := kp F' N' fun x hx => List.mem_cons_of_mem _ hx
  have T' : TupsAt h' its ts := T.up fun b o ⟨xs, n, hd⟩ e => k b o (fun z => by
    subst z
    obtain ⟨o', es, ep, e', d', _⟩ := hn
    rw [e] at e'
    cases e'
    rw [hd] at d'
    cases d') e
  obtain ⟨fs, k1, k2, k3⟩ := T'.kat
  refine PySem.W.kat_kind (T := .type "int") k1 (by omega) (fun v hv => ?_) rfl (sort_same (by omega) (fun i hi C hC => ?_) ?_)
  · obtain ⟨n, t, rfl⟩ := k3 v hv
    exact (PySem.W.Looks.now : PySem.W.Looks _ _ (pure (Value.type "int")) _)
  · have e1 : its[i + 1]? = some its[i + 1] := List.getElem?_eq_getElem hi
    have e2 : its[i]? = some its[i] := List.getElem?_eq_getElem (by omega)
    obtain ⟨a, xs, t, f1, f2, ⟨o, ho, hc, n, hd⟩, i1⟩ := T'.at e1
    obtain ⟨a', xs', t', f1', f2', ⟨o', ho', hc', n', hd'⟩, i2⟩ := T'.at e2
    show wpAny _ _ (keyLt' _ (its.getD (i + 1) Value.none) (its.getD i Value.none)) C _ _
    rw [List.getD_eq_getElem?_getD, List.getD_eq_getElem?_getD, e1, e2, f1, f1']
    refine PySem.W.kat_lt ho hd ho' hd' (lex_lt i1 i2 (by simp) ?_)
    rw [up i t t' f2 f2']
    exact hC
  · have same : (List.range its.length).toArray.toList.map (fun i => its.getD i Value.none) = its := by
      refine List.ext_getElem (by simp) fun j h1 h2 => ?_
      simp [List.getElem?_eq_getElem h2]
    rw [same]
    refine .intro F' N' (.head fun x hx => Nat.ne_of_lt (lt x hx)) fun h2 c F2 N2 => ?_
    have kk := kp F2 N2 fun x hx => List.mem_cons_of_mem _ hx
    have J := inv_framed (tk := s.toks) I hlk F2.ns kk
    obtain ⟨_, DL, Db⟩ := N' (D, _) List.mem_cons_self
    have sD : s.heap.get? D = none := by
      cases e : s.heap.get? D with
      | none => rfl
      | some o => exact absurd (lt _ (mem_allNews DL Db e)) (Nat.lt_irrefl _)
    have D0 : H D = none := hok_none I.hok sD
    have s0 : ∀ b o, X.s₀.heap.get? b = some o → b ∉ X.ex → b ≠ D := fun b o e n z => by
      obtain ⟨o', e'⟩ := I.base.there b o e n
      rw [z, sD] at e'
      cases e'
    have nD := (N2 (D, _) List.mem_cons_self).1
    have un : ∀ b o, H b = some o → upd H D (.lst vs) b = some o := fun b o e => by rw [upd_ne (ne_of_none e D0)]; exact e
    refine ⟨.ref D, _, ⟨J.ok, J.os, J.bare, ⟨J.base.keep, J.base.slot, fun b o e n hx => ?_, J.base.there, fun b xs e => un _ _ (J.base.tups b xs e), fun b o xs e => un _ _ (J.base.frzs b o xs e), fun b ps e => ?_⟩, J.loc, J.cell, ?_, fun x c' e => ?_, fun p hp => ?_, hok_track J.hok D0 (show ObjOk X.prog X.w _ _ _ (.lst vs) from ⟨hz, its, c, r', nD⟩), J.len⟩, rfl, q D D0⟩
    · rw [upd_ne (s0 b o e hx)]
      exact J.base.free b o e n hx
    · obtain ⟨ms, e'⟩ := J.base.tbls b ps e
      exact ⟨ms, un _ _ e'⟩
    · rw [upd_ne (Ne.symm DL)]
      exact I.free
    · have nc : c' ≠ D := fun z => by
        obtain ⟨v, o, ho, _⟩ := I.cell x c' e
        rw [z, sD] at ho
        cases ho
      rw [upd_ne nc]
      exact I.freeC x c' e
    · obtain ⟨e, n, ne', nf, d⟩ := J.pin p hp
      have np : p.1 ≠ D := fun z => by
        have := (I.pin p hp).1
        rw [z, sD] at this
        cases this
      exact ⟨e, by rw [upd_ne np]; exact n, ne', nf, d⟩
end
end Fr
namespace L3
open PySem PySem.Spec L2
def tupI (t : List Int) : D := .tup (t.map D.int)
def rising (ts : List (List Int)) : Prop := (∀ t ∈ ts, t ≠ []) ∧ (∀ (i : Nat) (t u : List Int), ts[i + 1]? = some t → ts[i]? = some u → Fr.ltI t u = false) ∧ ts.length < 64
def nSortT : List D → (List D → Prop) → Prop := fun xs P => ∃ ts, xs = [.lst (ts.map tupI)] ∧ rising ts ∧ P (ts.map tupI)
theorem Rps.ints_eq {K : PySem.W.Frag} {F : Hp} : ∀ {is : List Int} {vs : List V}, Rps K F vs (is.map D.int) → vs = is.map V.int
  | [], _, h => h.inv_nil
  | i :: is, _, h => by
    obtain ⟨v, us, rfl, h1, h2⟩ := h.inv_cons
    rw [h1.inv_int, Rps.ints_eq h2]
    rfl
theorem n_sortT {K : PySem.W.Frag} : NC K (Fr.rSortT K) nSortT := by
  intro F H xs vs Q P fh rs h q
  obtain ⟨ts, rfl, ⟨h1, h2, h3⟩, p⟩ := h
  obtain ⟨v, rfl, r⟩ := rs.inv1
  obtain ⟨a, us, rfl, hs, rr⟩ := r.inv_lst
  refine ⟨a, us, ts, rfl, SqL.of (fh _ _ hs), by rw [rr.len, List.length_map], fun i v t e1 e2 => ?_, h1, h2, h3, fun l hl => q _ _ l p rr hl⟩
  obtain ⟨w, e3, rw'⟩ := rr.at (i := i) (d := tupI t) (by rw [List.getElem?_map, e2]; rfl)
  rw [e1] at e3
  cases e3
  obtain ⟨b, ws, rfl, hb, rb⟩ := rw'.inv_tup
  exact ⟨b, rfl, by rw [rb.ints_eq] at hb; exact Fr.sqT_same fh hb⟩
section
variable {X : Cx} {E : XK} {e : Expr} {es : List Expr} {pos : Pos}
theorem e_callBN {x : Str} {p : Pos} {id : String} {r : List V → Hp → VK → Prop} {r3 : List D → (List D → Prop) → Prop} {t : T3A} (hc : CallR X (.builtin id) r) (rel : NC X.K r r3) (hg : Gl X x) (hm : X.mg x = none) (hv : bootBuiltins x = some (.builtin id)) (ha : A3 X E (e :: es) t) (hn : x ≠ "__name__" := by decide) (hdb : (x == ("__debug__" : Str)) = false := by decide)
    (he : starEach (e :: es) X.env = (false, eval e X.env) :: starEach es X.env := by rfl) (hpl : (backTo pos (starEach es X.env)).any (·.1) = false := by rfl) : E3 X E (.Call (.Name x p) (e :: es) [] pos) (tCN r3 t) :=
  ⟨fun F0 H0 B => pe_imp (pe_callB hc hg hm hv (ha.h F0 H0 B) hn hdb he hpl) fun _ _ _ h => lo_cn rel h⟩
end
end L3

set_option Elab.async false
set_option linter.all false
set_option maxRecDepth 100000
/-! numbers of the script; products of any number and a small one. -/
namespace L3
open PySem PySem.Spec L2
def ixS : D → D → (D → Prop) → Prop := fun x y P => match x, y with
  | .scr ns, .int i => ∃ v, atI ns i = some v ∧ P (.int v)
  | _, _ => False
theorem atI_map {α β : Type} (f : α → β) {xs : List α} {i : Int} {x : α} (h : atI xs i = some x) : atI (xs.map f) i = some (f x) := by
  unfold atI at h ⊢
  rw [List.length_map]
  cases e : ixN xs.length i with
  | none => rw [e] at h; cases h
  | some j =>
    rw [e] at h
    have h' : xs[j]? = some x := h
    show (xs.map f)[j]? = _
    rw [List.getElem?_map, h']
    rfl
theorem r_ixS {K : PySem.W.Frag} : R3 K (rIxL K) ixS := by
  intro F H x y v u Q P fh rx ry h q
  cases x with
  | scr ns =>
    cases y with
    | int i =>
      obtain ⟨z, hz, p⟩ := h
      obtain ⟨a, rfl, hs⟩ := rx.inv_scr
      obtain rfl := ry.inv_int
      exact ⟨_, _, _, _, rfl, rfl, fh.seq hs, atI_map V.int hz, q _ _ p (.int z)⟩
    | _ => exact h.elim
  | _ => exact h.elim
theorem r_mulC {K : PySem.W.Frag} : R3 K (rI Fr.CMB fun i j => .int (i * j)) (i2c Fr.CMB fun i j => .int (i * j)) := r3_i2c (fun _ _ h => h) fun _ _ _ => .int _
end L3

set_option Elab.async false
set_option linter.all false
set_option maxRecDepth 100000
set_option maxHeartbeats 4000000
/-! min(..) of a list whose items are compared by what lies on the heap. -/
namespace Fr
open PySem PySem.Spec L2
open PyProof.Rows hiding St Fr
section
variable {prog : Program} {w : World} {A : Around} {R : Result → Shared → Prop} {I S : Addr} {fp wr : List Addr} {n : Nat} {P : Nat → Value → Prop} {St' : Nat → Heap → Prop} {bt : Nat → Nat → Bool} {Kp : Heap → Prop}
end
end Fr

set_option Elab.async false
set_option linter.all false
set_option maxRecDepth 100000
set_option maxHeartbeats 4000000
/-! min(..) of a list of tuples of whole numbers. -/
namespace Fr
open PySem PySem.Spec L2
open PyProof.Rows hiding St Fr
section
variable {X : Cx}
end
end Fr
namespace L3
open PySem PySem.Spec L2
end L3

set_option Elab.async false
set_option linter.all false
/-! Comprehensions over pairs, read. -/
namespace L3
open PySem PySem.Spec L2
abbrev g2 : T3G := gTu 2 (gCons3 (gNm 0) (gCons3 (gNm 1) gNil3))
theorem compL_map2 {ts : T3P} {l : List Sl} (hl : l.map Sl.wipe = l) (f : D → D) : ∀ {xs : List D} {s1 s2 : Sl} {Q : List D → Prop}, (∀ x ∈ xs, ∃ y1 y2, x = .tup [y1, y2] ∧ ∀ P : Option D → List Sl → Prop, P (some (f x)) (.d y1 :: .d y2 :: l) → ts (.d y1 :: .d y2 :: l) P) → Q (xs.map f) → compL g2 ts xs (s1 :: s2 :: l) Q
  | [], _, _, _, _, q => q
  | x :: xs, s1, s2, Q, h, q => by
    obtain ⟨y1, y2, rfl, h1⟩ := h x List.mem_cons_self
    show ts (.d y1 :: .d y2 :: l) _
    refine h1 _ ?_
    show compL g2 ts xs (.d y1 :: .d y2 :: l.map Sl.wipe) _
    rw [hl]
    exact compL_map2 hl f (fun y hy => h y (List.mem_cons_of_mem _ hy)) q
theorem compL_fmap2 {ts : T3P} {l : List Sl} (hl : l.map Sl.wipe = l) (f : D → Option D) : ∀ {xs : List D} {s1 s2 : Sl} {Q : List D → Prop}, (∀ x ∈ xs, ∃ y1 y2, x = .tup [y1, y2] ∧ ∀ P : Option D → List Sl → Prop, P (f x) (.d y1 :: .d y2 :: l) → ts (.d y1 :: .d y2 :: l) P) → Q (xs.filterMap f) → compL g2 ts xs (s1 :: s2 :: l) Q
  | [], _, _, _, _, q => q
  | x :: xs, s1, s2, Q, h, q => by
    obtain ⟨y1, y2, rfl, h1⟩ := h x List.mem_cons_self
    show ts (.d y1 :: .d y2 :: l) _
    refine h1 _ ?_
    cases e : f (.tup [y1, y2]) with
    | none =>
      show compL g2 ts xs (.d y1 :: .d y2 :: l.map Sl.wipe) _
      rw [hl]
      refine compL_fmap2 hl f (fun y hy => h y (List.mem_cons_of_mem _ hy)) ?_
      rw [List.filterMap_cons_none e] at q
      exact q
    | some y =>
      show compL g2 ts xs (.d y1 :: .d y2 :: l.map Sl.wipe) _
      rw [hl]
      refine compL_fmap2 hl f (fun y hy => h y (List.mem_cons_of_mem _ hy)) ?_
      rw [List.filterMap_cons_some e] at q
      exact q
/-- those among numbered things that tell their own number -/
def ownF : D → Option D
  | .tup [.int i, .int j] => if i = j then some (.int i) else none
  | _ => none
theorem own_len {α : Type} (f : α → Nat) (p : α → Bool) (ss : List α) (h : ∀ (i : Nat) (s : α), ss[i]? = some s → (f s = i ↔ p s = true)) : ((enumD (ss.map fun s => D.int (f s : Nat))).filterMap ownF).length = (ss.filter p).length := by
  have key : ∀ k, k ≤ ss.length → (((List.range k).map fun i : Nat => D.tup [.int (i : Nat), (ss.map fun s => D.int (f s : Nat))[i]?.getD .non]).filterMap ownF).length = ((ss.take k).filter p).length := by
    intro k
    induction k with
    | zero => intro _; rfl
    | succ k ih =>
      intro hk
      have lt : k < ss.length := by omega
      have e := List.getElem?_eq_getElem lt
      rw [List.range_succ, List.map_append, List.filterMap_append, List.length_append, ih (by omega), List.take_add_one, e]
      rw [List.filter_append, List.length_append]
      refine congrArg _ ?_
      have hh := h k _ e
      simp only [List.map_cons, List.map_nil, List.getElem?_map, e, Option.map_some, Option.getD_some]
      show (List.filterMap ownF [D.tup [.int (k : Nat), .int (f ss[k] : Nat)]]).length = (List.filter p [ss[k]]).length
      by_cases c : f ss[k] = k
      · have c2 : ((k : Nat) : Int) = ((f ss[k] : Nat) : Int) := by omega
        have e2 : ownF (D.tup [.int (k : Nat), .int (f ss[k] : Nat)]) = some (.int (k : Nat)) := if_pos c2
        rw [List.filterMap_cons_some e2, List.filter_cons_of_pos (hh.mp c)]
        rfl
      · have c2 : ¬ ((k : Nat) : Int) = ((f ss[k] : Nat) : Int) := by omega
        have e2 : ownF (D.tup [.int (k : Nat), .int (f ss[k] : Nat)]) = none := if_neg c2
        rw [List.filterMap_cons_none e2, List.filter_cons_of_neg fun z => c (hh.mpr z)]
        rfl
  have := key ss.length (Nat.le_refl _)
  rw [List.take_length] at this
  rw [← this]
  unfold enumD
  rw [List.length_map]
end L3

set_option Elab.async false
set_option linter.all false
/-! a, b, c = three things at once: stored from the right. -/
namespace Fr
open PySem PySem.Spec L2
open PyProof.Rows hiding St Fr
section
variable {X : Cx} {pos : Pos}
end
end Fr
namespace L3
open PySem PySem.Spec L2
section
variable {X : Cx} {E : XK} {e : Expr} {pos : Pos}
end
end L3

set_option Elab.async false
set_option linter.all false
/-! The symbols of a level: orbits of pairs of rests, their least pairs. -/
namespace Fr
/-- the numbers from 1 to n without a common divisor with n -/
def fac (n : Nat) : List Nat := ((List.range n).map (· + 1)).filter fun k => Nat.gcd k n == 1
def act (n k : Nat) (p : Nat × Nat) : Nat × Nat := (k * p.1 % n, k * p.2 % n)
def orb (n : Nat) (p : Nat × Nat) : List (Nat × Nat) := (fac n).map fun k => act n k p
def good (n : Nat) (p : Nat × Nat) : Bool := Nat.gcd (Nat.gcd p.1 p.2) n == 1
def ple (p q : Nat × Nat) : Bool := decide (p.1 < q.1) || (decide (p.1 = q.1) && decide (p.2 ≤ q.2))
def isLeast (n : Nat) (p : Nat × Nat) : Bool := good n p && (orb n p).all fun q => ple p q
/-- all pairs of rests, in order: the t-th one is (t / n, t % n) -/
def prs (n t : Nat) : Nat × Nat := (t / n, t % n)
/-- the symbols among the first t pairs -/
def symT (n t : Nat) : List (Nat × Nat) := ((List.range t).map (prs n)).filter (isLeast n)
def syms (n : Nat) : List (Nat × Nat) := symT n (n * n)
/-- the number of the symbol that a pair of rests tells, among some -/
def numIn (n : Nat) (ss : List (Nat × Nat)) (q : Nat × Nat) : Option Nat := ss.findIdx? fun s => (orb n s).contains q
theorem fac_mem {n k : Nat} : k ∈ fac n ↔ (1 ≤ k ∧ k ≤ n ∧ Nat.gcd k n = 1) := by
  unfold fac
  rw [List.mem_filter, List.mem_map]
  constructor
  · rintro ⟨⟨a, ha, rfl⟩, h⟩
    have := List.mem_range.mp ha
    exact ⟨by omega, by omega, by simpa using h⟩
  · rintro ⟨h1, h2, h3⟩
    exact ⟨⟨k - 1, List.mem_range.mpr (by omega), by omega⟩, by simpa using h3⟩
theorem gcd_mod (a n : Nat) : Nat.gcd (a % n) n = Nat.gcd a n := by rw [← Nat.gcd_rec, Nat.gcd_comm]
def facOk (n : Nat) : Bool := (fac n).all fun a => (fac n).any fun b => a * b % n == 1 % n
theorem fac_ok : ∀ n, n ≤ 48 → facOk n = true := by
  have h : ((List.range 49).all fun n => facOk n) = true := by decide +kernel
  intro n hn
  exact List.all_eq_true.mp h n (List.mem_range.mpr (by omega))
theorem fac_inv {n a : Nat} (hn : n ≤ 48) (ha : a ∈ fac n) : ∃ b ∈ fac n, a * b % n = 1 % n := by
  have h := List.all_eq_true.mp (fac_ok n hn) a ha
  obtain ⟨b, hb, e⟩ := List.any_eq_true.mp h
  exact ⟨b, hb, by simpa using e⟩
theorem fac_rest {n a : Nat} (hn : 1 ≤ n) (h : Nat.gcd a n = 1) : ∃ c ∈ fac n, c % n = a % n := by
  by_cases z : a % n = 0
  · refine ⟨n, fac_mem.mpr ⟨hn, Nat.le_refl _, ?_⟩, by rw [z, Nat.mod_self]⟩
    rw [Nat.gcd_self]
    rw [← gcd_mod, z, Nat.gcd_zero_left] at h
    exact h
  · exact ⟨a % n, fac_mem.mpr ⟨by omega, Nat.le_of_lt (Nat.mod_lt _ hn), by rw [gcd_mod]; exact h⟩, Nat.mod_mod _ _⟩
theorem fac_mul {n a b : Nat} (hn : n ≤ 48) (ha : a ∈ fac n) (hb : b ∈ fac n) : ∃ c ∈ fac n, c % n = a * b % n := by
  obtain ⟨a1, a2, a3⟩ := fac_mem.mp ha
  exact fac_rest (by omega) (Nat.Coprime.mul_left a3 (fac_mem.mp hb).2.2)
theorem act_mod {n a b : Nat} (h : a % n = b % n) (p : Nat × Nat) : act n a p = act n b p := by
  unfold act
  rw [Nat.mul_mod a, Nat.mul_mod a p.2, h, ← Nat.mul_mod, ← Nat.mul_mod]
theorem act_act (n a b : Nat) (p : Nat × Nat) : act n a (act n b p) = act n (a * b) p := by
  unfold act
  simp only [Nat.mul_mod_mod, Nat.mul_assoc]
def inR (n : Nat) (p : Nat × Nat) : Prop := p.1 < n ∧ p.2 < n
theorem act_one {n : Nat} {p : Nat × Nat} (h : inR n p) : act n 1 p = p := by
  unfold act
  rw [Nat.one_mul, Nat.one_mul, Nat.mod_eq_of_lt h.1, Nat.mod_eq_of_lt h.2]
theorem act_inR {n k : Nat} (hn : 1 ≤ n) (p : Nat × Nat) : inR n (act n k p) := ⟨Nat.mod_lt _ hn, Nat.mod_lt _ hn⟩
theorem one_fac {n : Nat} (hn : 1 ≤ n) : 1 ∈ fac n := fac_mem.mpr ⟨Nat.le_refl _, hn, Nat.gcd_one_left n⟩
theorem orb_mem {n : Nat} {p q : Nat × Nat} : q ∈ orb n p ↔ ∃ k ∈ fac n, act n k p = q := by
  unfold orb
  rw [List.mem_map]
theorem orb_self {n : Nat} (hn : 1 ≤ n) {p : Nat × Nat} (h : inR n p) : p ∈ orb n p := orb_mem.mpr ⟨1, one_fac hn, act_one h⟩
theorem orb_symm {n : Nat} (hn : 1 ≤ n) (h48 : n ≤ 48) {p q : Nat × Nat} (hp : inR n p) (h : q ∈ orb n p) : p ∈ orb n q := by
  obtain ⟨k, hk, rfl⟩ := orb_mem.mp h
  obtain ⟨b, hb, e⟩ := fac_inv h48 hk
  refine orb_mem.mpr ⟨b, hb, ?_⟩
  rw [act_act, act_mod (show b * k % n = 1 % n by rw [Nat.mul_comm]; exact e), act_one hp]
theorem orb_trans {n : Nat} (h48 : n ≤ 48) {p q r : Nat × Nat} (h1 : q ∈ orb n p) (h2 : r ∈ orb n q) : r ∈ orb n p := by
  obtain ⟨k, hk, rfl⟩ := orb_mem.mp h1
  obtain ⟨j, hj, rfl⟩ := orb_mem.mp h2
  obtain ⟨c, hc, e⟩ := fac_mul h48 hj hk
  exact orb_mem.mpr ⟨c, hc, by rw [act_act, act_mod e]⟩
theorem orb_inR {n : Nat} (hn : 1 ≤ n) {p q : Nat × Nat} (h : q ∈ orb n p) : inR n q := by
  obtain ⟨k, hk, rfl⟩ := orb_mem.mp h
  exact act_inR hn p
theorem ple_iff {p q : Nat × Nat} : ple p q = true ↔ (p.1 < q.1 ∨ (p.1 = q.1 ∧ p.2 ≤ q.2)) := by
  unfold ple
  simp [Bool.or_eq_true, Bool.and_eq_true]
/-- a pair of rests stands at its place -/
def plc (n : Nat) (p : Nat × Nat) : Nat := p.1 * n + p.2
theorem prs_plc {n : Nat} {p : Nat × Nat} (h : inR n p) : prs n (plc n p) = p := by
  unfold prs plc
  have hn : 0 < n := Nat.lt_of_le_of_lt (Nat.zero_le _) h.1
  rw [Nat.mul_comm, Nat.mul_add_div hn, Nat.mul_add_mod, Nat.div_eq_of_lt h.2, Nat.mod_eq_of_lt h.2]
  simp
theorem plc_prs {n t : Nat} : plc n (prs n t) = t := by
  unfold prs plc
  rw [Nat.mul_comm]
  exact Nat.div_add_mod t n
theorem prs_inR {n t : Nat} (h : t < n * n) : inR n (prs n t) := by
  have hn : 0 < n := by
    rcases Nat.eq_zero_or_pos n with z | z
    · subst z; simp at h
    · exact z
  exact ⟨Nat.div_lt_of_lt_mul h, Nat.mod_lt _ hn⟩
theorem plc_lt {n : Nat} {p : Nat × Nat} (h : inR n p) : plc n p < n * n := by
  unfold plc
  have h1 : p.1 + 1 ≤ n := h.1
  have h2 := h.2
  have : (p.1 + 1) * n ≤ n * n := Nat.mul_le_mul_right n h1
  rw [Nat.add_mul, Nat.one_mul] at this
  omega
theorem ple_plc {n : Nat} {p q : Nat × Nat} (hp : inR n p) (hq : inR n q) : ple p q = true ↔ plc n p ≤ plc n q := by
  rw [ple_iff]
  unfold plc
  constructor
  · rintro (h | ⟨h1, h2⟩)
    · have : (p.1 + 1) * n ≤ q.1 * n := Nat.mul_le_mul_right n h
      rw [Nat.add_mul, Nat.one_mul] at this
      have := hp.2
      omega
    · rw [h1]; omega
  · intro h
    by_cases e : p.1 < q.1
    · exact .inl e
    · refine .inr ?_
      by_cases e2 : p.1 = q.1
      · rw [e2] at h
        exact ⟨e2, by omega⟩
      · have e3 : q.1 + 1 ≤ p.1 := by omega
        have : (q.1 + 1) * n ≤ p.1 * n := Nat.mul_le_mul_right n e3
        rw [Nat.add_mul, Nat.one_mul] at this
        have := hq.2
        omega
/-- the least of an orbit -/
theorem least_ex {n : Nat} (hn : 1 ≤ n) (h48 : n ≤ 48) : ∀ (m : Nat) (p : Nat × Nat), plc n p ≤ m → inR n p → ∃ q ∈ orb n p, (orb n q).all (fun r => ple q r) = true
  | m, p, hm, hp => by
    by_cases h : (orb n p).all (fun r => ple p r) = true
    · exact ⟨p, orb_self hn hp, h⟩
    · have h' : ∃ r ∈ orb n p, ple p r = false := by
        apply Classical.byContradiction
        intro no
        apply h
        rw [List.all_eq_true]
        intro r hr
        cases e : ple p r with
        | true => rfl
        | false => exact absurd ⟨r, hr, e⟩ no
      obtain ⟨r, hr, e⟩ := h'
      have hr' := orb_inR hn hr
      have lt : plc n r < plc n p := by
        apply Nat.lt_of_not_le
        intro z
        rw [(ple_plc hp hr').mpr z] at e
        cases e
      match m, hm with
      | 0, hm => omega
      | m + 1, hm =>
        obtain ⟨q, hq, hl⟩ := least_ex hn h48 m r (by omega) hr'
        exact ⟨q, orb_trans h48 hr hq, hl⟩
theorem good_mod (n a b : Nat) : Nat.gcd (Nat.gcd (a % n) (b % n)) n = Nat.gcd (Nat.gcd a b) n := by
  rw [Nat.gcd_assoc, gcd_mod, Nat.gcd_comm b n, ← Nat.gcd_assoc, gcd_mod, Nat.gcd_assoc, Nat.gcd_comm n b, ← Nat.gcd_assoc]
theorem good_act {n k : Nat} (hk : k ∈ fac n) (p : Nat × Nat) : good n (act n k p) = good n p := by
  unfold good act
  dsimp only
  rw [good_mod, Nat.gcd_mul_left, Nat.Coprime.gcd_mul_left_cancel _ (fac_mem.mp hk).2.2]
theorem good_orb {n : Nat} {p q : Nat × Nat} (h : q ∈ orb n p) : good n q = good n p := by
  obtain ⟨k, hk, rfl⟩ := orb_mem.mp h
  exact good_act hk p
theorem isLeast_iff {n : Nat} {p : Nat × Nat} : isLeast n p = true ↔ (good n p = true ∧ ∀ q ∈ orb n p, ple p q = true) := by
  unfold isLeast
  rw [Bool.and_eq_true, List.all_eq_true]
/-- two least ones of one orbit are the same -/
theorem least_one {n : Nat} (hn : 1 ≤ n) (h48 : n ≤ 48) {p q : Nat × Nat} (hp : inR n p) (lp : isLeast n p = true) (lq : isLeast n q = true) (h : q ∈ orb n p) : p = q := by
  have hq := orb_inR hn h
  have a := (ple_plc hp hq).mp ((isLeast_iff.mp lp).2 q h)
  have b := (ple_plc hq hp).mp ((isLeast_iff.mp lq).2 p (orb_symm hn h48 hp h))
  rw [← prs_plc hp, ← prs_plc hq, Nat.le_antisymm a b]
theorem symT_mem {n t : Nat} {p : Nat × Nat} : p ∈ symT n t ↔ (isLeast n p = true ∧ ∃ i < t, prs n i = p) := by
  unfold symT
  rw [List.mem_filter, List.mem_map]
  constructor
  · rintro ⟨⟨i, hi, e⟩, h⟩
    exact ⟨h, i, List.mem_range.mp hi, e⟩
  · rintro ⟨h, i, hi, e⟩
    exact ⟨⟨i, List.mem_range.mpr hi, e⟩, h⟩
theorem symT_succ (n t : Nat) : symT n (t + 1) = symT n t ++ (if isLeast n (prs n t) = true then [prs n t] else []) := by
  unfold symT
  rw [List.range_succ, List.map_append, List.filter_append]
  by_cases h : isLeast n (prs n t) = true
  · rw [if_pos h]
    simp [h]
  · rw [if_neg h]
    simp [h]
theorem symT_inR {n t : Nat} (ht : t ≤ n * n) {p : Nat × Nat} (h : p ∈ symT n t) : inR n p := by
  obtain ⟨_, i, hi, rfl⟩ := symT_mem.mp h
  exact prs_inR (by omega)
/-- a good pair of rests is told by a symbol that stands no later -/
theorem has_sym {n : Nat} (hn : 1 ≤ n) (h48 : n ≤ 48) {p : Nat × Nat} (hp : inR n p) (g : good n p = true) : ∃ s ∈ symT n (plc n p + 1), p ∈ orb n s := by
  obtain ⟨q, hq, hl⟩ := least_ex hn h48 (plc n p) p (Nat.le_refl _) hp
  have hq' := orb_inR hn hq
  have lq : isLeast n q = true := isLeast_iff.mpr ⟨by rw [good_orb hq]; exact g, fun r hr => List.all_eq_true.mp hl r hr⟩
  have hs := orb_symm hn h48 hp hq
  have := (ple_plc hq' hp).mp ((isLeast_iff.mp lq).2 p hs)
  exact ⟨q, symT_mem.mpr ⟨lq, plc n q, by omega, prs_plc hq'⟩, hs⟩
/-- a pair is new just where it is the least of its orbit -/
theorem new_iff {n t : Nat} (hn : 1 ≤ n) (h48 : n ≤ 48) (ht : t < n * n) : ((numIn n (symT n t) (prs n t)).isNone = true ∧ good n (prs n t) = true) ↔ isLeast n (prs n t) = true := by
  have hp := prs_inR ht
  unfold numIn
  rw [Option.isNone_iff_eq_none, List.findIdx?_eq_none_iff]
  constructor
  · rintro ⟨h, g⟩
    obtain ⟨s, hs, ho⟩ := has_sym hn h48 hp g
    rw [plc_prs, symT_succ] at hs
    rcases List.mem_append.mp hs with hs | hs
    · have := h s hs
      rw [List.contains_iff_mem.mpr ho] at this
      cases this
    · split at hs
      · assumption
      · cases hs
  · intro l
    refine ⟨fun s hs => ?_, (isLeast_iff.mp l).1⟩
    have hsR := symT_inR (Nat.le_of_lt ht) hs
    obtain ⟨ls, i, hi, e⟩ := symT_mem.mp hs
    cases c : (orb n s).contains (prs n t) with
    | false => rfl
    | true =>
      have ho := List.contains_iff_mem.mp c
      have := least_one hn h48 hsR ls l ho
      rw [← e] at this
      have := congrArg (plc n) this
      rw [plc_prs, plc_prs] at this
      omega
/-- the number behind a new symbol -/
theorem numIn_snoc {n : Nat} {ss : List (Nat × Nat)} {s q : Nat × Nat} (dis : ∀ s' ∈ ss, q ∈ orb n s → q ∉ orb n s') : numIn n (ss ++ [s]) q = if (orb n s).contains q = true then some ss.length else numIn n ss q := by
  unfold numIn
  rw [List.findIdx?_append]
  by_cases c : (orb n s).contains q = true
  · rw [if_pos c]
    have : ss.findIdx? (fun s => (orb n s).contains q) = none := List.findIdx?_eq_none_iff.mpr fun s' hs' => by
      cases e : (orb n s').contains q with
      | false => rfl
      | true => exact absurd (List.contains_iff_mem.mp e) (dis s' hs' (List.contains_iff_mem.mp c))
    rw [this]
    simp [List.findIdx?_cons, List.contains_iff_mem.mp c]
  · rw [if_neg c]
    have c' : q ∉ orb n s := fun z => c (List.contains_iff_mem.mpr z)
    simp [List.findIdx?_cons, c']
theorem dis_of {n t : Nat} (hn : 1 ≤ n) (h48 : n ≤ 48) (ht : t < n * n) (l : isLeast n (prs n t) = true) (q : Nat × Nat) : ∀ s' ∈ symT n t, q ∈ orb n (prs n t) → q ∉ orb n s' := by
  intro s' hs' h1 h2
  have hsR := symT_inR (Nat.le_of_lt ht) hs'
  obtain ⟨ls, i, hi, e⟩ := symT_mem.mp hs'
  have h3 := orb_trans h48 h2 (orb_symm hn h48 (prs_inR ht) h1)
  have := least_one hn h48 hsR ls l h3
  rw [← e] at this
  have := congrArg (plc n) this
  rw [plc_prs, plc_prs] at this
  omega
theorem symT_nodup (n t : Nat) : (symT n t).Nodup := by
  unfold symT
  refine List.Nodup.sublist List.filter_sublist ?_
  rw [List.nodup_iff_pairwise_ne, List.pairwise_map]
  refine List.Pairwise.imp ?_ (List.pairwise_lt_range)
  intro a b h e
  have := congrArg (plc n) e
  rw [plc_prs, plc_prs] at this
  omega
theorem nodup_at {α : Type} {l : List α} (h : l.Nodup) {i j : Nat} {x : α} (hi : l[i]? = some x) (hj : l[j]? = some x) : i = j := by
  obtain ⟨h1, e1⟩ := List.getElem?_eq_some_iff.mp hi
  obtain ⟨h2, e2⟩ := List.getElem?_eq_some_iff.mp hj
  have hp := List.pairwise_iff_getElem.mp (List.nodup_iff_pairwise_ne.mp h)
  rcases Nat.lt_trichotomy i j with z | z | z
  · exact absurd (e1.trans e2.symm) (hp i j h1 h2 z)
  · exact z
  · exact absurd (e2.trans e1.symm) (hp j i h2 h1 z)
theorem sym_inR {n : Nat} {s : Nat × Nat} (h : s ∈ syms n) : inR n s := symT_inR (Nat.le_refl _) h
theorem sym_least {n : Nat} {s : Nat × Nat} (h : s ∈ syms n) : isLeast n s = true := (symT_mem.mp h).1
/-- a symbol tells itself -/
theorem num_sym {n : Nat} (hn : 1 ≤ n) (h48 : n ≤ 48) {i : Nat} {s : Nat × Nat} (h : (syms n)[i]? = some s) : numIn n (syms n) s = some i := by
  have hs := List.mem_of_getElem? h
  cases e : numIn n (syms n) s with
  | none =>
    unfold numIn at e
    have := List.findIdx?_eq_none_iff.mp e s hs
    rw [List.contains_iff_mem.mpr (orb_self hn (sym_inR hs))] at this
    cases this
  | some j =>
    unfold numIn at e
    obtain ⟨lt, hc, _⟩ := List.findIdx?_eq_some_iff_getElem.mp e
    have hj : (syms n)[j]? = some (syms n)[j] := List.getElem?_eq_getElem lt
    have hs' := List.mem_of_getElem? hj
    have := least_one hn h48 (sym_inR hs') (sym_least hs') (sym_least hs) (List.contains_iff_mem.mp hc)
    rw [this] at hj
    rw [nodup_at (symT_nodup n (n * n)) hj h]
end Fr

set_option Elab.async false
set_option linter.all false
set_option maxRecDepth 100000
set_option maxHeartbeats 8000000
/-! pairs that lie in one orbit: by their cross product -/
namespace Fr
theorem bez (a b : Nat) : ∃ x y : Int, x * a + y * b = (Nat.gcd a b : Nat) := by
  induction a, b using Nat.gcd.induction with
  | H0 n => exact ⟨0, 1, by simp⟩
  | H1 m n hm ih =>
    obtain ⟨x, y, e⟩ := ih
    refine ⟨y - x * (n / m : Nat), x, ?_⟩
    rw [Nat.gcd_rec m n, ← e]
    have h : (n : Int) = (n % m : Nat) + (m : Int) * (n / m : Nat) := by
      have := Nat.mod_add_div n m
      omega
    generalize (n / m : Nat) = q at *
    generalize (n % m : Nat) = r at *
    rw [h]
    grind
theorem bez3 {n u v : Nat} (g : Nat.gcd (Nat.gcd u v) n = 1) : ∃ x y z : Int, x * u + y * v + z * n = 1 := by
  obtain ⟨x, y, e⟩ := bez u v
  obtain ⟨s, t, e2⟩ := bez (Nat.gcd u v) n
  rw [g, ← e] at e2
  exact ⟨s * x, s * y, t, by grind⟩
theorem nat_of_dvd {n a b : Nat} (hn : 1 ≤ n) (hb : b < n) (h : (n : Int) ∣ (a : Int) - b) : a % n = b := by
  have h2 : (a : Int) % n = (b : Int) % n := by
    obtain ⟨m, hm⟩ := h
    have e : (a : Int) = b + n * m := by omega
    rw [e, Int.add_mul_emod_self_left]
  have h3 : ((a % n : Nat) : Int) = ((b % n : Nat) : Int) := by
    rw [Int.natCast_emod, Int.natCast_emod]
    exact h2
  rw [Nat.mod_eq_of_lt hb] at h3
  omega
theorem orb_cross {n : Nat} {p q : Nat × Nat} (hn : 1 ≤ n) (hp : good n p = true) (hq : good n q = true) (hR : inR n q) (c : (n : Int) ∣ (p.1 : Int) * q.2 - (p.2 : Int) * q.1) : q ∈ orb n p := by
  obtain ⟨p1, p2⟩ := p
  obtain ⟨q1, q2⟩ := q
  dsimp only at *
  have gp : Nat.gcd (Nat.gcd p1 p2) n = 1 := by simpa [good] using hp
  have gq : Nat.gcd (Nat.gcd q1 q2) n = 1 := by simpa [good] using hq
  obtain ⟨x, y, z, e⟩ := bez3 gp
  obtain ⟨m, hm⟩ := c
  have hn0 : (n : Int) ≠ 0 := by omega
  generalize hk : x * (q1 : Int) + y * q2 = k
  have k1 : k * p1 - q1 = n * (y * m - z * q1) := by grind
  have k2 : k * p2 - q2 = n * (- (x * m) - z * q2) := by grind
  have kk0 : 0 ≤ k % n := Int.emod_nonneg k hn0
  obtain ⟨kk, hkk⟩ : ∃ kk : Nat, (kk : Int) = k % n := ⟨(k % n).toNat, Int.toNat_of_nonneg kk0⟩
  have hd : k = kk + n * (k / n) := by
    rw [hkk]
    have := Int.emod_add_mul_ediv k n
    omega
  generalize k / n = w at hd
  have g1 : Nat.gcd kk n = 1 := by
    have d1 : ((Nat.gcd kk n : Nat) : Int) ∣ (n : Int) := Int.natCast_dvd_natCast.mpr (Nat.gcd_dvd_right _ _)
    have d2 : ((Nat.gcd kk n : Nat) : Int) ∣ (kk : Int) := Int.natCast_dvd_natCast.mpr (Nat.gcd_dvd_left _ _)
    have d3 : ((Nat.gcd kk n : Nat) : Int) ∣ k := by
      rw [hd]
      exact Int.dvd_add d2 (Int.dvd_mul_of_dvd_left d1)
    have e1 : (q1 : Int) = k * p1 - n * (y * m - z * q1) := by omega
    have e2 : (q2 : Int) = k * p2 - n * (- (x * m) - z * q2) := by omega
    have f1 : ((Nat.gcd kk n : Nat) : Int) ∣ (q1 : Int) := by
      rw [e1]
      exact Int.dvd_sub (Int.dvd_mul_of_dvd_left d3) (Int.dvd_mul_of_dvd_left d1)
    have f2 : ((Nat.gcd kk n : Nat) : Int) ∣ (q2 : Int) := by
      rw [e2]
      exact Int.dvd_sub (Int.dvd_mul_of_dvd_left d3) (Int.dvd_mul_of_dvd_left d1)
    have := Nat.dvd_gcd (Nat.dvd_gcd (Int.natCast_dvd_natCast.mp f1) (Int.natCast_dvd_natCast.mp f2)) (Nat.gcd_dvd_right kk n)
    rw [gq] at this
    exact Nat.dvd_one.mp this
  obtain ⟨c, hc, ec⟩ := fac_rest hn g1
  refine orb_mem.mpr ⟨c, hc, ?_⟩
  rw [act_mod ec]
  unfold act
  refine Prod.ext ?_ ?_
  · refine nat_of_dvd hn hR.1 ⟨y * m - z * q1 - w * p1, ?_⟩
    show (((kk * p1 : Nat) : Int)) - q1 = _
    rw [Int.natCast_mul]
    grind
  · refine nat_of_dvd hn hR.2 ⟨- (x * m) - z * q2 - w * p2, ?_⟩
    show (((kk * p2 : Nat) : Int)) - q2 = _
    rw [Int.natCast_mul]
    grind
theorem cross_orb {n : Nat} {p q : Nat × Nat} (h : q ∈ orb n p) : (n : Int) ∣ (p.1 : Int) * q.2 - (p.2 : Int) * q.1 := by
  obtain ⟨k, _, rfl⟩ := orb_mem.mp h
  obtain ⟨p1, p2⟩ := p
  show (n : Int) ∣ (p1 : Int) * ((k * p2 % n : Nat) : Int) - (p2 : Int) * ((k * p1 % n : Nat) : Int)
  have h1 := Nat.mod_add_div (k * p1) n
  have h2 := Nat.mod_add_div (k * p2) n
  generalize k * p1 % n = r1 at *
  generalize k * p2 % n = r2 at *
  generalize k * p1 / n = t1 at *
  generalize k * p2 / n = t2 at *
  have h1' : (r1 : Int) + n * t1 = k * p1 := by exact_mod_cast h1
  have h2' : (r2 : Int) + n * t2 = k * p2 := by exact_mod_cast h2
  exact ⟨(p2 : Int) * t1 - p1 * t2, by grind⟩
/-- every good pair has a number -/
theorem num_some {n : Nat} (hn : 1 ≤ n) (h48 : n ≤ 48) {p : Nat × Nat} (hp : inR n p) (g : good n p = true) : ∃ i, numIn n (syms n) p = some i := by
  obtain ⟨s, hs, ho⟩ := has_sym hn h48 hp g
  obtain ⟨l, i, hi, e⟩ := symT_mem.mp hs
  have hs' : s ∈ syms n := symT_mem.mpr ⟨l, i, by have := plc_lt hp; omega, e⟩
  cases h : numIn n (syms n) p with
  | some i => exact ⟨i, rfl⟩
  | none =>
    unfold numIn at h
    have := List.findIdx?_eq_none_iff.mp h s hs'
    rw [List.contains_iff_mem.mpr ho] at this
    cases this
theorem num_orb {n : Nat} (hn : 1 ≤ n) (h48 : n ≤ 48) {p q : Nat × Nat} (hp : inR n p) (h : q ∈ orb n p) : numIn n (syms n) p = numIn n (syms n) q := by
  have hq := orb_symm hn h48 hp h
  unfold numIn
  congr 1
  funext s
  rw [Bool.eq_iff_iff, List.contains_iff_mem, List.contains_iff_mem]
  exact ⟨fun z => orb_trans h48 z h, fun z => orb_trans h48 z hq⟩
theorem num_cross {n : Nat} (hn : 1 ≤ n) (h48 : n ≤ 48) {p q : Nat × Nat} (hp : inR n p) (hq : inR n q) (gp : good n p = true) (gq : good n q = true) : numIn n (syms n) p = numIn n (syms n) q ↔ (n : Int) ∣ (p.1 : Int) * q.2 - (p.2 : Int) * q.1 := by
  constructor
  · intro e
    obtain ⟨i, h⟩ := num_some hn h48 hp gp
    have h2 := h
    rw [e] at h2
    unfold numIn at h h2
    obtain ⟨lt, hc, _⟩ := List.findIdx?_eq_some_iff_getElem.mp h
    obtain ⟨_, hc2, _⟩ := List.findIdx?_eq_some_iff_getElem.mp h2
    have hs := sym_inR (List.getElem_mem lt)
    exact cross_orb (orb_trans h48 (orb_symm hn h48 hs (List.contains_iff_mem.mp hc)) (List.contains_iff_mem.mp hc2))
  · exact fun c => num_orb hn h48 hp (orb_cross hn gp gq hq c)
end Fr

set_option Elab.async false
set_option linter.all false
set_option maxRecDepth 100000
set_option maxHeartbeats 8000000
/-! turnings -/
namespace Fr
structure Mt where
  a : Int
  b : Int
  c : Int
  d : Int
namespace Mt
end Mt
/-- rests of two whole numbers -/
def rsT (n : Nat) (u v : Int) : Nat × Nat := ((u % n).toNat, (v % n).toNat)
theorem rsT_inR {n : Nat} (hn : 1 ≤ n) (u v : Int) : inR n (rsT n u v) := by
  have h1 := Int.emod_nonneg u (show (n : Int) ≠ 0 by omega)
  have h2 := Int.emod_nonneg v (show (n : Int) ≠ 0 by omega)
  have h3 := Int.emod_lt_of_pos u (show (0 : Int) < n by omega)
  have h4 := Int.emod_lt_of_pos v (show (0 : Int) < n by omega)
  unfold rsT inR
  dsimp only
  omega
theorem rsT_cast {n : Nat} (hn : 1 ≤ n) (u : Int) : ∃ w : Int, (((u % (n : Int)).toNat : Nat) : Int) = u - n * w := by
  have h1 := Int.emod_nonneg u (show (n : Int) ≠ 0 by omega)
  refine ⟨u / n, ?_⟩
  rw [Int.toNat_of_nonneg h1]
  have := Int.emod_add_mul_ediv u n
  omega
/-! ### a pair without a common divisor above a symbol -/
/-! ### shares -/
end Fr

set_option Elab.async false
set_option linter.all false
/-! How many symbols stay where a form leads them: they are the ones where the form's value is divided by the level. -/
namespace Fr
def fF (a b c : Int) (u v : Int) : Int := a * v * v - b * u * v + c * u * u
def fxs (n : Nat) (a b c : Int) : Nat := ((syms n).filter fun s => decide ((n : Int) ∣ fF a b c s.1 s.2)).length
theorem good_row {n : Nat} (hn : 1 ≤ n) {a b c d : Int} (hd : Int.gcd (a * d - b * c) n = 1) {p : Nat × Nat} (g : good n p = true) : good n (rsT n (p.1 * a + p.2 * c) (p.1 * b + p.2 * d)) = true := by
  generalize hx : (p.1 : Int) * a + p.2 * c = x
  generalize hy : (p.1 : Int) * b + p.2 * d = y
  have e : Nat.gcd (Nat.gcd (x % (n : Int)).toNat (y % (n : Int)).toNat) n = 1 := by
    generalize hg : Nat.gcd (Nat.gcd (x % (n : Int)).toNat (y % (n : Int)).toNat) n = g'
    have d0' : g' ∣ n := by rw [← hg]; exact Nat.gcd_dvd_right _ _
    have d0 : (g' : Int) ∣ (n : Int) := Int.natCast_dvd_natCast.mpr d0'
    have d1 : (g' : Int) ∣ (((x % (n : Int)).toNat : Nat) : Int) := Int.natCast_dvd_natCast.mpr (by rw [← hg]; exact Nat.dvd_trans (Nat.gcd_dvd_left _ _) (Nat.gcd_dvd_left _ _))
    have d2 : (g' : Int) ∣ (((y % (n : Int)).toNat : Nat) : Int) := Int.natCast_dvd_natCast.mpr (by rw [← hg]; exact Nat.dvd_trans (Nat.gcd_dvd_left _ _) (Nat.gcd_dvd_right _ _))
    obtain ⟨w1, e1⟩ := rsT_cast hn x
    obtain ⟨w2, e2⟩ := rsT_cast hn y
    have c1 : (g' : Int) ∣ x := by
      have : x = (((x % (n : Int)).toNat : Nat) : Int) + n * w1 := by omega
      rw [this]
      exact Int.dvd_add d1 (Int.dvd_mul_of_dvd_left d0)
    have c2 : (g' : Int) ∣ y := by
      have : y = (((y % (n : Int)).toNat : Nat) : Int) + n * w2 := by omega
      rw [this]
      exact Int.dvd_add d2 (Int.dvd_mul_of_dvd_left d0)
    have co : Nat.Coprime g' (a * d - b * c).natAbs := by
      have : Nat.Coprime (a * d - b * c).natAbs n := hd
      exact (Nat.Coprime.coprime_dvd_right d0' this).symm
    have key : ∀ w : Nat, (g' : Int) ∣ (w : Int) * (a * d - b * c) → g' ∣ w := fun w h => by
      have := Int.natAbs_dvd_natAbs.mpr h
      rw [Int.natAbs_mul] at this
      exact Nat.Coprime.dvd_of_dvd_mul_right co (by simpa using this)
    have k1 : g' ∣ p.1 := key _ (by
      have : (p.1 : Int) * (a * d - b * c) = x * d - y * c := by rw [← hx, ← hy]; grind
      rw [this]
      exact Int.dvd_sub (Int.dvd_mul_of_dvd_left c1) (Int.dvd_mul_of_dvd_left c2))
    have k2 : g' ∣ p.2 := key _ (by
      have : (p.2 : Int) * (a * d - b * c) = y * a - x * b := by rw [← hx, ← hy]; grind
      rw [this]
      exact Int.dvd_sub (Int.dvd_mul_of_dvd_left c2) (Int.dvd_mul_of_dvd_left c1))
    have : g' ∣ Nat.gcd (Nat.gcd p.1 p.2) n := Nat.dvd_gcd (Nat.dvd_gcd k1 k2) d0'
    have g1 : Nat.gcd (Nat.gcd p.1 p.2) n = 1 := by unfold good at g; simpa using g
    rw [g1] at this
    exact Nat.dvd_one.mp this
  unfold good rsT
  dsimp only
  rw [e]
  rfl
theorem sym_good {n : Nat} {s : Nat × Nat} (h : s ∈ syms n) : good n s = true := (isLeast_iff.mp (sym_least h)).1
/-- which number a pair tells -/
theorem num_row {n : Nat} (hn : 1 ≤ n) (h48 : n ≤ 48) {x y : Int} (g : good n (rsT n x y) = true) {i : Nat} {s : Nat × Nat} (hs : (syms n)[i]? = some s) : numIn n (syms n) (rsT n x y) = some i ↔ (n : Int) ∣ x * s.2 - y * s.1 := by
  have hm := List.mem_of_getElem? hs
  rw [← num_sym hn h48 hs, num_cross hn h48 (rsT_inR hn _ _) (sym_inR hm) g (sym_good hm)]
  obtain ⟨w1, e1⟩ := rsT_cast hn x
  obtain ⟨w2, e2⟩ := rsT_cast hn y
  show (n : Int) ∣ (((x % (n : Int)).toNat : Nat) : Int) * s.2 - (((y % (n : Int)).toNat : Nat) : Int) * s.1 ↔ _
  rw [e1, e2]
  constructor
  · rintro ⟨t, h⟩
    exact ⟨t + w1 * s.2 - w2 * s.1, by grind⟩
  · rintro ⟨t, h⟩
    exact ⟨t - w1 * s.2 + w2 * s.1, by grind⟩
end Fr

set_option Elab.async false
set_option linter.all false
set_option maxRecDepth 100000
set_option maxHeartbeats 8000000
/-! forms: their small ones, and the turnings that leave one -/
namespace Fr
/-- one form (a, b, c) of the size s, if it is small -/
def fm1 (s : Int) (a : Int) (b : Int) : Option (List Int) :=
  if (b * b - s) % (4 * a) = 0 then (if a ≤ (b * b - s) / (4 * a) ∧ (0 ≤ b ∨ (¬ b = 0 - a ∧ ¬ a = (b * b - s) / (4 * a))) then some [a, b, (b * b - s) / (4 * a)] else none) else none
def fmR (s : Int) (a : Nat) (k : Nat) : List (List Int) := (List.range k).filterMap fun i : Nat => fm1 s a (0 - (a : Int) + i)
def fmA (s : Int) (k : Nat) : List (List Int) := (List.range k).flatMap fun i => fmR s (i + 1) (2 * (i + 1) + 1)
def fms (s : Int) : List (List Int) := fmA s 12
theorem fmR_succ (s : Int) (a k : Nat) : fmR s a (k + 1) = fmR s a k ++ (fm1 s a (0 - (a : Int) + k)).toList := by
  unfold fmR
  rw [List.range_succ, List.filterMap_append]
  congr 1
theorem fmA_succ (s : Int) (k : Nat) : fmA s (k + 1) = fmA s k ++ fmR s (k + 1) (2 * (k + 1) + 1) := by
  unfold fmA
  rw [List.range_succ, List.flatMap_append]
  simp
def risB : List (List Int) → Bool
  | [] => true
  | [_] => true
  | t :: u :: r => !ltI u t && risB (u :: r)
theorem risB_at : ∀ {ts : List (List Int)}, risB ts = true → ∀ (i : Nat) (t u : List Int), ts[i + 1]? = some t → ts[i]? = some u → ltI t u = false
  | [], _, _, _, _, h, _ => by simp at h
  | [_], _, _, _, _, h, _ => by simp at h
  | a :: b :: r, h, 0, t, u, h1, h2 => by
    simp at h1 h2
    subst h1 h2
    unfold risB at h
    simp at h
    exact h.1
  | a :: b :: r, h, i + 1, t, u, h1, h2 => by
    unfold risB at h
    simp only [Bool.and_eq_true] at h
    exact risB_at h.2 i t u (by simpa using h1) (by simpa using h2)
/-- turnings with numbers from -1 to 1 -/
def sg : List Int := [-1, 0, 1]
def quads : List (Int × Int × Int × Int) := sg.flatMap fun x => sg.flatMap fun y => sg.flatMap fun z => sg.map fun w => (x, y, z, w)
def dets : List (Int × Int × Int × Int) := quads.filter fun q => decide (q.1 * q.2.2.2 - q.2.1 * q.2.2.1 = 1)
def lvs (a b c : Int) (q : Int × Int × Int × Int) : Bool :=
  decide (a * q.1 * q.1 + b * q.1 * q.2.2.1 + c * q.2.2.1 * q.2.2.1 = a) && (decide (2 * a * q.1 * q.2.1 + 2 * c * q.2.2.1 * q.2.2.2 + b * (q.1 * q.2.2.2 + q.2.1 * q.2.2.1) = b) && decide (a * q.2.1 * q.2.1 + b * q.2.1 * q.2.2.2 + c * q.2.2.2 * q.2.2.2 = c))
def shr (a b c : Int) : Nat := dets.countP (lvs a b c)
def wgt (a b c : Int) : Int := if b = 0 ∧ a = c then 2 else if a = b ∧ b = c then 3 else 1
def fmOk (t : List Int) : Bool := match t with
  | [a, b, c] => decide (0 < shr a b c) && decide (wgt a b c * (24 / (shr a b c : Int)) = 12) && decide (1 ≤ a ∧ a ≤ 12) && decide (b.natAbs ≤ 12) && decide (1 ≤ c ∧ c ≤ 400)
  | _ => false
def szOk (m : Nat) : Bool := !(decide (m % 4 = 0) || decide (m % 4 = 3)) || (risB (fms (-(m : Int))) && decide ((fms (-(m : Int))).length < 64) && (fms (-(m : Int))).all fmOk && !(fms (-(m : Int))).isEmpty)
theorem sz_ok : ∀ m, m ≤ 400 → 3 ≤ m → szOk m = true := by decide +kernel
def Sz (s : Int) : Prop := -400 ≤ s ∧ s ≤ -3 ∧ (s % 4 = 0 ∨ s % 4 = 1)
theorem sz_at {s : Int} (h : Sz s) : risB (fms s) = true ∧ (fms s).length < 64 ∧ (∀ t ∈ fms s, fmOk t = true) ∧ fms s ≠ [] := by
  obtain ⟨h1, h2, h3⟩ := h
  obtain ⟨m, e⟩ : ∃ m : Nat, s = -(m : Int) := ⟨s.natAbs, by omega⟩
  subst e
  have k := sz_ok m (by omega) (by omega)
  unfold szOk at k
  have c : (decide (m % 4 = 0) || decide (m % 4 = 3)) = true := by
    rw [Bool.or_eq_true, decide_eq_true_iff, decide_eq_true_iff]
    omega
  rw [c, Bool.not_true, Bool.false_or, Bool.and_eq_true, Bool.and_eq_true, Bool.and_eq_true, decide_eq_true_iff, List.all_eq_true] at k
  exact ⟨k.1.1.1, k.1.1.2, k.1.2, fun z => by rw [z] at k; simp at k⟩
end Fr

set_option Elab.async false
set_option linter.all false
set_option maxRecDepth 100000
set_option maxHeartbeats 8000000
/-! how many symbols a level has -/
namespace Fr
def divs (n : Nat) : List Nat := ((List.range n).map (· + 1)).filter fun k => n % k == 0
def prms (n : Nat) : List Nat := (divs n).filter fun k => (divs k).length == 2
def scN (n : Nat) : Nat := (prms n).foldl (fun m p => m + m / p) n
def lenOk (n : Nat) : Bool := (syms n).length == scN n
theorem len_ok : ∀ n, n ≤ 48 → 1 ≤ n → lenOk n = true := by decide +kernel
theorem len_sc {n : Nat} (n1 : 1 ≤ n) (n2 : n ≤ 48) : (syms n).length = scN n := by
  have h := len_ok n n2 n1
  unfold lenOk at h
  exact beq_iff_eq.mp h
end Fr

set_option Elab.async false
set_option linter.all false
set_option maxRecDepth 100000
set_option maxHeartbeats 4000000
/-! The traces by forms: twelve divides what is told (by tables, checked by the kernel). -/
namespace Fr
def tri (n : Nat) (x : Int) : Nat := (x % (n : Int)).toNat
def fxK (n a b c : Nat) : List (Nat × Nat) → Nat
  | [] => 0
  | s :: l => cond (Nat.beq ((a * (s.2 * s.2) + b * (s.1 * s.2) + c * (s.1 * s.1)) % n) 0) (fxK n a b c l).succ (fxK n a b c l)
theorem tri_cast {n : Nat} (hn : 1 ≤ n) (x : Int) : ∃ w : Int, ((tri n x : Nat) : Int) = x - n * w := by
  refine ⟨x / n, ?_⟩
  unfold tri
  rw [Int.toNat_of_nonneg (Int.emod_nonneg _ (by omega)), Int.emod_def]
theorem tri_alg (a b c n w1 w2 w3 u v : Int) : (a - n * w1) * (v * v) + (0 - b - n * w2) * (u * v) + (c - n * w3) * (u * u) = a * v * v - b * u * v + c * u * u - n * (w1 * (v * v) + w2 * (u * v) + w3 * (u * u)) := by
  simp only [Int.sub_mul, Int.mul_add, Int.mul_assoc, Int.zero_mul]
  omega
theorem fxK_len {n : Nat} (hn : 1 ≤ n) (a b c : Int) : ∀ l : List (Nat × Nat), (l.filter fun s => decide ((n : Int) ∣ fF a b c s.1 s.2)).length = fxK n (tri n a) (tri n (0 - b)) (tri n c) l
  | [] => rfl
  | s :: l => by
    have ih := fxK_len hn a b c l
    obtain ⟨w1, e1⟩ := tri_cast hn a
    obtain ⟨w2, e2⟩ := tri_cast hn (0 - b)
    obtain ⟨w3, e3⟩ := tri_cast hn c
    have key : ((n : Int) ∣ fF a b c s.1 s.2) ↔ (tri n a * (s.2 * s.2) + tri n (0 - b) * (s.1 * s.2) + tri n c * (s.1 * s.1)) % n = 0 := by
      have e : ((tri n a * (s.2 * s.2) + tri n (0 - b) * (s.1 * s.2) + tri n c * (s.1 * s.1) : Nat) : Int) = fF a b c s.1 s.2 - n * (w1 * ((s.2 : Int) * s.2) + w2 * ((s.1 : Int) * s.2) + w3 * ((s.1 : Int) * s.1)) := by
        simp only [Int.natCast_add, Int.natCast_mul, e1, e2, e3, fF]
        exact tri_alg _ _ _ _ _ _ _ _ _
      rw [← Nat.dvd_iff_mod_eq_zero, ← Int.natCast_dvd_natCast, e]
      constructor
      · intro h
        exact Int.dvd_sub h (Int.dvd_mul_right _ _)
      · intro h
        have := Int.dvd_add h (Int.dvd_mul_right (n : Int) (w1 * ((s.2 : Int) * s.2) + w2 * ((s.1 : Int) * s.2) + w3 * ((s.1 : Int) * s.1)))
        rwa [Int.sub_add_cancel] at this
    show _ = cond (Nat.beq ((tri n a * (s.2 * s.2) + tri n (0 - b) * (s.1 * s.2) + tri n c * (s.1 * s.1)) % n) 0) (fxK n (tri n a) (tri n (0 - b)) (tri n c) l).succ (fxK n (tri n a) (tri n (0 - b)) (tri n c) l)
    by_cases h : (n : Int) ∣ fF a b c s.1 s.2
    · have h2 := key.mp h
      rw [List.filter_cons_of_pos (by exact decide_eq_true h), List.length_cons, ih, h2]
      rfl
    · have h2 : ¬ (tri n a * (s.2 * s.2) + tri n (0 - b) * (s.1 * s.2) + tri n c * (s.1 * s.1)) % n = 0 := fun z => h (key.mpr z)
      rw [List.filter_cons_of_neg (by simpa using h), ih]
      have h3 : Nat.beq ((tri n a * (s.2 * s.2) + tri n (0 - b) * (s.1 * s.2) + tri n c * (s.1 * s.1)) % n) 0 = false := by
        cases hb : Nat.beq ((tri n a * (s.2 * s.2) + tri n (0 - b) * (s.1 * s.2) + tri n c * (s.1 * s.1)) % n) 0 with
        | false => rfl
        | true => exact absurd (Nat.eq_of_beq_eq_true hb) h2
      rw [h3]
      rfl
theorem fx_K {n : Nat} (hn : 1 ≤ n) (a b c : Int) : fxs n a b c = fxK n (tri n a) (tri n (0 - b)) (tri n c) (syms n) := fxK_len hn a b c (syms n)
/-! ### tables -/
def symL : List (List (Nat × Nat)) := [[], [(0, 0)], [(0, 1), (1, 0), (1, 1)], [(0, 1), (1, 0), (1, 1), (1, 2)], [(0, 1), (1, 0), (1, 1), (1, 2), (1, 3), (2, 1)], [(0, 1), (1, 0), (1, 1), (1, 2), (1, 3), (1, 4)], [(0, 1), (1, 0), (1, 1), (1, 2), (1, 3), (1, 4), (1, 5), (2, 1), (2, 3), (2, 5), (3, 1), (3, 2)], [(0, 1), (1, 0), (1, 1), (1, 2), (1, 3), (1, 4), (1, 5), (1, 6)], [(0, 1), (1, 0), (1, 1), (1, 2), (1, 3), (1, 4), (1, 5), (1, 6), (1, 7), (2, 1), (2, 3), (4, 1)], [(0, 1), (1, 0), (1, 1), (1, 2), (1, 3), (1, 4), (1, 5), (1, 6), (1, 7), (1, 8), (3, 1), (3, 2)], [(0, 1), (1, 0), (1, 1), (1, 2), (1, 3), (1, 4), (1, 5), (1, 6), (1, 7), (1, 8), (1, 9), (2, 1), (2, 3), (2, 5), (2, 7), (2, 9), (5, 1), (5, 2)], [(0, 1), (1, 0), (1, 1), (1, 2), (1, 3), (1, 4), (1, 5), (1, 6), (1, 7), (1, 8), (1, 9), (1, 10)], [(0, 1), (1, 0), (1, 1), (1, 2), (1, 3), (1, 4), (1, 5), (1, 6), (1, 7), (1, 8), (1, 9), (1, 10), (1, 11), (2, 1), (2, 3), (2, 5), (3, 1), (3, 2), (3, 4), (3, 7), (4, 1), (4, 3), (4, 5), (6, 1)], [(0, 1), (1, 0), (1, 1), (1, 2), (1, 3), (1, 4), (1, 5), (1, 6), (1, 7), (1, 8), (1, 9), (1, 10), (1, 11), (1, 12)], [(0, 1), (1, 0), (1, 1), (1, 2), (1, 3), (1, 4), (1, 5), (1, 6), (1, 7), (1, 8), (1, 9), (1, 10), (1, 11), (1, 12), (1, 13), (2, 1), (2, 3), (2, 5), (2, 7), (2, 9), (2, 11), (2, 13), (7, 1), (7, 2)], [(0, 1), (1, 0), (1, 1), (1, 2), (1, 3), (1, 4), (1, 5), (1, 6), (1, 7), (1, 8), (1, 9), (1, 10), (1, 11), (1, 12), (1, 13), (1, 14), (3, 1), (3, 2), (3, 4), (3, 5), (3, 8), (5, 1), (5, 2), (5, 3)], [(0, 1), (1, 0), (1, 1), (1, 2), (1, 3), (1, 4), (1, 5), (1, 6), (1, 7), (1, 8), (1, 9), (1, 10), (1, 11), (1, 12), (1, 13), (1, 14), (1, 15), (2, 1), (2, 3), (2, 5), (2, 7), (4, 1), (4, 3), (8, 1)], [(0, 1), (1, 0), (1, 1), (1, 2), (1, 3), (1, 4), (1, 5), (1, 6), (1, 7), (1, 8), (1, 9), (1, 10), (1, 11), (1, 12), (1, 13), (1, 14), (1, 15), (1, 16)], [(0, 1), (1, 0), (1, 1), (1, 2), (1, 3), (1, 4), (1, 5), (1, 6), (1, 7), (1, 8), (1, 9), (1, 10), (1, 11), (1, 12), (1, 13), (1, 14), (1, 15), (1, 16), (1, 17), (2, 1), (2, 3), (2, 5), (2, 7), (2, 9), (2, 11), (2, 13), (2, 15), (2, 17), (3, 1), (3, 2), (3, 4), (3, 5), (6, 1), (6, 5), (9, 1), (9, 2)], [(0, 1), (1, 0), (1, 1), (1, 2), (1, 3), (1, 4), (1, 5), (1, 6), (1, 7), (1, 8), (1, 9), (1, 10), (1, 11), (1, 12), (1, 13), (1, 14), (1, 15), (1, 16), (1, 17), (1, 18)], [(0, 1), (1, 0), (1, 1), (1, 2), (1, 3), (1, 4), (1, 5), (1, 6), (1, 7), (1, 8), (1, 9), (1, 10), (1, 11), (1, 12), (1, 13), (1, 14), (1, 15), (1, 16), (1, 17), (1, 18), (1, 19), (2, 1), (2, 3), (2, 5), (2, 7), (2, 9), (4, 1), (4, 3), (4, 5), (4, 7), (4, 9), (5, 1), (5, 2), (5, 3), (5, 4), (10, 1)], [(0, 1), (1, 0), (1, 1), (1, 2), (1, 3), (1, 4), (1, 5), (1, 6), (1, 7), (1, 8), (1, 9), (1, 10), (1, 11), (1, 12), (1, 13), (1, 14), (1, 15), (1, 16), (1, 17), (1, 18), (1, 19), (1, 20), (3, 1), (3, 2), (3, 4), (3, 5), (3, 7), (3, 10), (3, 13), (7, 1), (7, 2), (7, 3)], [(0, 1), (1, 0), (1, 1), (1, 2), (1, 3), (1, 4), (1, 5), (1, 6), (1, 7), (1, 8), (1, 9), (1, 10), (1, 11), (1, 12), (1, 13), (1, 14), (1, 15), (1, 16), (1, 17), (1, 18), (1, 19), (1, 20), (1, 21), (2, 1), (2, 3), (2, 5), (2, 7), (2, 9), (2, 11), (2, 13), (2, 15), (2, 17), (2, 19), (2, 21), (11, 1), (11, 2)], [(0, 1), (1, 0), (1, 1), (1, 2), (1, 3), (1, 4), (1, 5), (1, 6), (1, 7), (1, 8), (1, 9), (1, 10), (1, 11), (1, 12), (1, 13), (1, 14), (1, 15), (1, 16), (1, 17), (1, 18), (1, 19), (1, 20), (1, 21), (1, 22)], [(0, 1), (1, 0), (1, 1), (1, 2), (1, 3), (1, 4), (1, 5), (1, 6), (1, 7), (1, 8), (1, 9), (1, 10), (1, 11), (1, 12), (1, 13), (1, 14), (1, 15), (1, 16), (1, 17), (1, 18), (1, 19), (1, 20), (1, 21), (1, 22), (1, 23), (2, 1), (2, 3), (2, 5), (2, 7), (2, 9), (2, 11), (3, 1), (3, 2), (3, 4), (3, 5), (3, 7), (3, 8), (3, 11), (3, 14), (4, 1), (4, 3), (4, 5), (6, 1), (6, 7), (8, 1), (8, 3), (8, 5), (12, 1)], [(0, 1), (1, 0), (1, 1), (1, 2), (1, 3), (1, 4), (1, 5), (1, 6), (1, 7), (1, 8), (1, 9), (1, 10), (1, 11), (1, 12), (1, 13), (1, 14), (1, 15), (1, 16), (1, 17), (1, 18), (1, 19), (1, 20), (1, 21), (1, 22), (1, 23), (1, 24), (5, 1), (5, 2), (5, 3), (5, 4)], [(0, 1), (1, 0), (1, 1), (1, 2), (1, 3), (1, 4), (1, 5), (1, 6), (1, 7), (1, 8), (1, 9), (1, 10), (1, 11), (1, 12), (1, 13), (1, 14), (1, 15), (1, 16), (1, 17), (1, 18), (1, 19), (1, 20), (1, 21), (1, 22), (1, 23), (1, 24), (1, 25), (2, 1), (2, 3), (2, 5), (2, 7), (2, 9), (2, 11), (2, 13), (2, 15), (2, 17), (2, 19), (2, 21), (2, 23), (2, 25), (13, 1), (13, 2)], [(0, 1), (1, 0), (1, 1), (1, 2), (1, 3), (1, 4), (1, 5), (1, 6), (1, 7), (1, 8), (1, 9), (1, 10), (1, 11), (1, 12), (1, 13), (1, 14), (1, 15), (1, 16), (1, 17), (1, 18), (1, 19), (1, 20), (1, 21), (1, 22), (1, 23), (1, 24), (1, 25), (1, 26), (3, 1), (3, 2), (3, 4), (3, 5), (3, 7), (3, 8), (9, 1), (9, 2)], [(0, 1), (1, 0), (1, 1), (1, 2), (1, 3), (1, 4), (1, 5), (1, 6), (1, 7), (1, 8), (1, 9), (1, 10), (1, 11), (1, 12), (1, 13), (1, 14), (1, 15), (1, 16), (1, 17), (1, 18), (1, 19), (1, 20), (1, 21), (1, 22), (1, 23), (1, 24), (1, 25), (1, 26), (1, 27), (2, 1), (2, 3), (2, 5), (2, 7), (2, 9), (2, 11), (2, 13), (4, 1), (4, 3), (4, 5), (4, 7), (4, 9), (4, 11), (4, 13), (7, 1), (7, 2), (7, 3), (7, 4), (14, 1)], [(0, 1), (1, 0), (1, 1), (1, 2), (1, 3), (1, 4), (1, 5), (1, 6), (1, 7), (1, 8), (1, 9), (1, 10), (1, 11), (1, 12), (1, 13), (1, 14), (1, 15), (1, 16), (1, 17), (1, 18), (1, 19), (1, 20), (1, 21), (1, 22), (1, 23), (1, 24), (1, 25), (1, 26), (1, 27), (1, 28)], [(0, 1), (1, 0), (1, 1), (1, 2), (1, 3), (1, 4), (1, 5), (1, 6), (1, 7), (1, 8), (1, 9), (1, 10), (1, 11), (1, 12), (1, 13), (1, 14), (1, 15), (1, 16), (1, 17), (1, 18), (1, 19), (1, 20), (1, 21), (1, 22), (1, 23), (1, 24), (1, 25), (1, 26), (1, 27), (1, 28), (1, 29), (2, 1), (2, 3), (2, 5), (2, 7), (2, 9), (2, 11), (2, 13), (2, 15), (2, 17), (2, 19), (2, 21), (2, 23), (2, 25), (2, 27), (2, 29), (3, 1), (3, 2), (3, 4), (3, 5), (3, 7), (3, 8), (3, 10), (3, 13), (3, 16), (3, 19), (5, 1), (5, 2), (5, 3), (5, 4), (5, 6), (5, 11), (6, 1), (6, 5), (6, 7), (6, 13), (6, 19), (10, 1), (10, 3), (10, 11), (15, 1), (15, 2)], [(0, 1), (1, 0), (1, 1), (1, 2), (1, 3), (1, 4), (1, 5), (1, 6), (1, 7), (1, 8), (1, 9), (1, 10), (1, 11), (1, 12), (1, 13), (1, 14), (1, 15), (1, 16), (1, 17), (1, 18), (1, 19), (1, 20), (1, 21), (1, 22), (1, 23), (1, 24), (1, 25), (1, 26), (1, 27), (1, 28), (1, 29), (1, 30)], [(0, 1), (1, 0), (1, 1), (1, 2), (1, 3), (1, 4), (1, 5), (1, 6), (1, 7), (1, 8), (1, 9), (1, 10), (1, 11), (1, 12), (1, 13), (1, 14), (1, 15), (1, 16), (1, 17), (1, 18), (1, 19), (1, 20), (1, 21), (1, 22), (1, 23), (1, 24), (1, 25), (1, 26), (1, 27), (1, 28), (1, 29), (1, 30), (1, 31), (2, 1), (2, 3), (2, 5), (2, 7), (2, 9), (2, 11), (2, 13), (2, 15), (4, 1), (4, 3), (4, 5), (4, 7), (8, 1), (8, 3), (16, 1)], [(0, 1), (1, 0), (1, 1), (1, 2), (1, 3), (1, 4), (1, 5), (1, 6), (1, 7), (1, 8), (1, 9), (1, 10), (1, 11), (1, 12), (1, 13), (1, 14), (1, 15), (1, 16), (1, 17), (1, 18), (1, 19), (1, 20), (1, 21), (1, 22), (1, 23), (1, 24), (1, 25), (1, 26), (1, 27), (1, 28), (1, 29), (1, 30), (1, 31), (1, 32), (3, 1), (3, 2), (3, 4), (3, 5), (3, 7), (3, 8), (3, 10), (3, 11), (3, 14), (3, 17), (3, 20), (11, 1), (11, 2), (11, 3)], [(0, 1), (1, 0), (1, 1), (1, 2), (1, 3), (1, 4), (1, 5), (1, 6), (1, 7), (1, 8), (1, 9), (1, 10), (1, 11), (1, 12), (1, 13), (1, 14), (1, 15), (1, 16), (1, 17), (1, 18), (1, 19), (1, 20), (1, 21), (1, 22), (1, 23), (1, 24), (1, 25), (1, 26), (1, 27), (1, 28), (1, 29), (1, 30), (1, 31), (1, 32), (1, 33), (2, 1), (2, 3), (2, 5), (2, 7), (2, 9), (2, 11), (2, 13), (2, 15), (2, 17), (2, 19), (2, 21), (2, 23), (2, 25), (2, 27), (2, 29), (2, 31), (2, 33), (17, 1), (17, 2)], [(0, 1), (1, 0), (1, 1), (1, 2), (1, 3), (1, 4), (1, 5), (1, 6), (1, 7), (1, 8), (1, 9), (1, 10), (1, 11), (1, 12), (1, 13), (1, 14), (1, 15), (1, 16), (1, 17), (1, 18), (1, 19), (1, 20), (1, 21), (1, 22), (1, 23), (1, 24), (1, 25), (1, 26), (1, 27), (1, 28), (1, 29), (1, 30), (1, 31), (1, 32), (1, 33), (1, 34), (5, 1), (5, 2), (5, 3), (5, 4), (5, 6), (5, 7), (5, 12), (7, 1), (7, 2), (7, 3), (7, 4), (7, 5)], [(0, 1), (1, 0), (1, 1), (1, 2), (1, 3), (1, 4), (1, 5), (1, 6), (1, 7), (1, 8), (1, 9), (1, 10), (1, 11), (1, 12), (1, 13), (1, 14), (1, 15), (1, 16), (1, 17), (1, 18), (1, 19), (1, 20), (1, 21), (1, 22), (1, 23), (1, 24), (1, 25), (1, 26), (1, 27), (1, 28), (1, 29), (1, 30), (1, 31), (1, 32), (1, 33), (1, 34), (1, 35), (2, 1), (2, 3), (2, 5), (2, 7), (2, 9), (2, 11), (2, 13), (2, 15), (2, 17), (3, 1), (3, 2), (3, 4), (3, 5), (3, 7), (3, 8), (3, 10), (3, 11), (4, 1), (4, 3), (4, 5), (4, 7), (4, 9), (4, 11), (4, 13), (4, 15), (4, 17), (6, 1), (6, 5), (9, 1), (9, 2), (9, 4), (9, 7), (12, 1), (12, 5), (18, 1)], [(0, 1), (1, 0), (1, 1), (1, 2), (1, 3), (1, 4), (1, 5), (1, 6), (1, 7), (1, 8), (1, 9), (1, 10), (1, 11), (1, 12), (1, 13), (1, 14), (1, 15), (1, 16), (1, 17), (1, 18), (1, 19), (1, 20), (1, 21), (1, 22), (1, 23), (1, 24), (1, 25), (1, 26), (1, 27), (1, 28), (1, 29), (1, 30), (1, 31), (1, 32), (1, 33), (1, 34), (1, 35), (1, 36)], [(0, 1), (1, 0), (1, 1), (1, 2), (1, 3), (1, 4), (1, 5), (1, 6), (1, 7), (1, 8), (1, 9), (1, 10), (1, 11), (1, 12), (1, 13), (1, 14), (1, 15), (1, 16), (1, 17), (1, 18), (1, 19), (1, 20), (1, 21), (1, 22), (1, 23), (1, 24), (1, 25), (1, 26), (1, 27), (1, 28), (1, 29), (1, 30), (1, 31), (1, 32), (1, 33), (1, 34), (1, 35), (1, 36), (1, 37), (2, 1), (2, 3), (2, 5), (2, 7), (2, 9), (2, 11), (2, 13), (2, 15), (2, 17), (2, 19), (2, 21), (2, 23), (2, 25), (2, 27), (2, 29), (2, 31), (2, 33), (2, 35), (2, 37), (19, 1), (19, 2)], [(0, 1), (1, 0), (1, 1), (1, 2), (1, 3), (1, 4), (1, 5), (1, 6), (1, 7), (1, 8), (1, 9), (1, 10), (1, 11), (1, 12), (1, 13), (1, 14), (1, 15), (1, 16), (1, 17), (1, 18), (1, 19), (1, 20), (1, 21), (1, 22), (1, 23), (1, 24), (1, 25), (1, 26), (1, 27), (1, 28), (1, 29), (1, 30), (1, 31), (1, 32), (1, 33), (1, 34), (1, 35), (1, 36), (1, 37), (1, 38), (3, 1), (3, 2), (3, 4), (3, 5), (3, 7), (3, 8), (3, 10), (3, 11), (3, 13), (3, 16), (3, 19), (3, 22), (3, 25), (13, 1), (13, 2), (13, 3)], [(0, 1), (1, 0), (1, 1), (1, 2), (1, 3), (1, 4), (1, 5), (1, 6), (1, 7), (1, 8), (1, 9), (1, 10), (1, 11), (1, 12), (1, 13), (1, 14), (1, 15), (1, 16), (1, 17), (1, 18), (1, 19), (1, 20), (1, 21), (1, 22), (1, 23), (1, 24), (1, 25), (1, 26), (1, 27), (1, 28), (1, 29), (1, 30), (1, 31), (1, 32), (1, 33), (1, 34), (1, 35), (1, 36), (1, 37), (1, 38), (1, 39), (2, 1), (2, 3), (2, 5), (2, 7), (2, 9), (2, 11), (2, 13), (2, 15), (2, 17), (2, 19), (4, 1), (4, 3), (4, 5), (4, 7), (4, 9), (5, 1), (5, 2), (5, 3), (5, 4), (5, 6), (5, 7), (5, 8), (5, 13), (8, 1), (8, 3), (8, 5), (8, 7), (8, 9), (10, 1), (10, 3), (20, 1)], [(0, 1), (1, 0), (1, 1), (1, 2), (1, 3), (1, 4), (1, 5), (1, 6), (1, 7), (1, 8), (1, 9), (1, 10), (1, 11), (1, 12), (1, 13), (1, 14), (1, 15), (1, 16), (1, 17), (1, 18), (1, 19), (1, 20), (1, 21), (1, 22), (1, 23), (1, 24), (1, 25), (1, 26), (1, 27), (1, 28), (1, 29), (1, 30), (1, 31), (1, 32), (1, 33), (1, 34), (1, 35), (1, 36), (1, 37), (1, 38), (1, 39), (1, 40)], [(0, 1), (1, 0), (1, 1), (1, 2), (1, 3), (1, 4), (1, 5), (1, 6), (1, 7), (1, 8), (1, 9), (1, 10), (1, 11), (1, 12), (1, 13), (1, 14), (1, 15), (1, 16), (1, 17), (1, 18), (1, 19), (1, 20), (1, 21), (1, 22), (1, 23), (1, 24), (1, 25), (1, 26), (1, 27), (1, 28), (1, 29), (1, 30), (1, 31), (1, 32), (1, 33), (1, 34), (1, 35), (1, 36), (1, 37), (1, 38), (1, 39), (1, 40), (1, 41), (2, 1), (2, 3), (2, 5), (2, 7), (2, 9), (2, 11), (2, 13), (2, 15), (2, 17), (2, 19), (2, 21), (2, 23), (2, 25), (2, 27), (2, 29), (2, 31), (2, 33), (2, 35), (2, 37), (2, 39), (2, 41), (3, 1), (3, 2), (3, 4), (3, 5), (3, 7), (3, 8), (3, 10), (3, 11), (3, 13), (3, 14), (3, 17), (3, 20), (3, 23), (3, 26), (6, 1), (6, 5), (6, 7), (6, 11), (6, 13), (6, 17), (6, 23), (7, 1), (7, 2), (7, 3), (7, 4), (7, 5), (7, 6), (14, 1), (14, 3), (14, 5), (21, 1), (21, 2)], [(0, 1), (1, 0), (1, 1), (1, 2), (1, 3), (1, 4), (1, 5), (1, 6), (1, 7), (1, 8), (1, 9), (1, 10), (1, 11), (1, 12), (1, 13), (1, 14), (1, 15), (1, 16), (1, 17), (1, 18), (1, 19), (1, 20), (1, 21), (1, 22), (1, 23), (1, 24), (1, 25), (1, 26), (1, 27), (1, 28), (1, 29), (1, 30), (1, 31), (1, 32), (1, 33), (1, 34), (1, 35), (1, 36), (1, 37), (1, 38), (1, 39), (1, 40), (1, 41), (1, 42)], [(0, 1), (1, 0), (1, 1), (1, 2), (1, 3), (1, 4), (1, 5), (1, 6), (1, 7), (1, 8), (1, 9), (1, 10), (1, 11), (1, 12), (1, 13), (1, 14), (1, 15), (1, 16), (1, 17), (1, 18), (1, 19), (1, 20), (1, 21), (1, 22), (1, 23), (1, 24), (1, 25), (1, 26), (1, 27), (1, 28), (1, 29), (1, 30), (1, 31), (1, 32), (1, 33), (1, 34), (1, 35), (1, 36), (1, 37), (1, 38), (1, 39), (1, 40), (1, 41), (1, 42), (1, 43), (2, 1), (2, 3), (2, 5), (2, 7), (2, 9), (2, 11), (2, 13), (2, 15), (2, 17), (2, 19), (2, 21), (4, 1), (4, 3), (4, 5), (4, 7), (4, 9), (4, 11), (4, 13), (4, 15), (4, 17), (4, 19), (4, 21), (11, 1), (11, 2), (11, 3), (11, 4), (22, 1)], [(0, 1), (1, 0), (1, 1), (1, 2), (1, 3), (1, 4), (1, 5), (1, 6), (1, 7), (1, 8), (1, 9), (1, 10), (1, 11), (1, 12), (1, 13), (1, 14), (1, 15), (1, 16), (1, 17), (1, 18), (1, 19), (1, 20), (1, 21), (1, 22), (1, 23), (1, 24), (1, 25), (1, 26), (1, 27), (1, 28), (1, 29), (1, 30), (1, 31), (1, 32), (1, 33), (1, 34), (1, 35), (1, 36), (1, 37), (1, 38), (1, 39), (1, 40), (1, 41), (1, 42), (1, 43), (1, 44), (3, 1), (3, 2), (3, 4), (3, 5), (3, 7), (3, 8), (3, 10), (3, 11), (3, 13), (3, 14), (5, 1), (5, 2), (5, 3), (5, 4), (5, 6), (5, 7), (5, 8), (5, 9), (5, 14), (9, 1), (9, 2), (9, 4), (9, 5), (9, 8), (15, 1), (15, 2)], [(0, 1), (1, 0), (1, 1), (1, 2), (1, 3), (1, 4), (1, 5), (1, 6), (1, 7), (1, 8), (1, 9), (1, 10), (1, 11), (1, 12), (1, 13), (1, 14), (1, 15), (1, 16), (1, 17), (1, 18), (1, 19), (1, 20), (1, 21), (1, 22), (1, 23), (1, 24), (1, 25), (1, 26), (1, 27), (1, 28), (1, 29), (1, 30), (1, 31), (1, 32), (1, 33), (1, 34), (1, 35), (1, 36), (1, 37), (1, 38), (1, 39), (1, 40), (1, 41), (1, 42), (1, 43), (1, 44), (1, 45), (2, 1), (2, 3), (2, 5), (2, 7), (2, 9), (2, 11), (2, 13), (2, 15), (2, 17), (2, 19), (2, 21), (2, 23), (2, 25), (2, 27), (2, 29), (2, 31), (2, 33), (2, 35), (2, 37), (2, 39), (2, 41), (2, 43), (2, 45), (23, 1), (23, 2)], [(0, 1), (1, 0), (1, 1), (1, 2), (1, 3), (1, 4), (1, 5), (1, 6), (1, 7), (1, 8), (1, 9), (1, 10), (1, 11), (1, 12), (1, 13), (1, 14), (1, 15), (1, 16), (1, 17), (1, 18), (1, 19), (1, 20), (1, 21), (1, 22), (1, 23), (1, 24), (1, 25), (1, 26), (1, 27), (1, 28), (1, 29), (1, 30), (1, 31), (1, 32), (1, 33), (1, 34), (1, 35), (1, 36), (1, 37), (1, 38), (1, 39), (1, 40), (1, 41), (1, 42), (1, 43), (1, 44), (1, 45), (1, 46)], [(0, 1), (1, 0), (1, 1), (1, 2), (1, 3), (1, 4), (1, 5), (1, 6), (1, 7), (1, 8), (1, 9), (1, 10), (1, 11), (1, 12), (1, 13), (1, 14), (1, 15), (1, 16), (1, 17), (1, 18), (1, 19), (1, 20), (1, 21), (1, 22), (1, 23), (1, 24), (1, 25), (1, 26), (1, 27), (1, 28), (1, 29), (1, 30), (1, 31), (1, 32), (1, 33), (1, 34), (1, 35), (1, 36), (1, 37), (1, 38), (1, 39), (1, 40), (1, 41), (1, 42), (1, 43), (1, 44), (1, 45), (1, 46), (1, 47), (2, 1), (2, 3), (2, 5), (2, 7), (2, 9), (2, 11), (2, 13), (2, 15), (2, 17), (2, 19), (2, 21), (2, 23), (3, 1), (3, 2), (3, 4), (3, 5), (3, 7), (3, 8), (3, 10), (3, 11), (3, 13), (3, 14), (3, 16), (3, 19), (3, 22), (3, 25), (3, 28), (3, 31), (4, 1), (4, 3), (4, 5), (4, 7), (4, 9), (4, 11), (6, 1), (6, 5), (6, 7), (6, 11), (8, 1), (8, 3), (8, 5), (12, 1), (12, 7), (16, 1), (16, 3), (16, 5), (24, 1)]]
theorem symL_ok0 : ∀ n, n ≤ 12 → 1 ≤ n → syms n = symL.getD n [] := by decide +kernel
theorem symL_ok1 : ∀ n, n ≤ 18 → 13 ≤ n → syms n = symL.getD n [] := by decide +kernel
theorem symL_ok2 : ∀ n, n ≤ 23 → 19 ≤ n → syms n = symL.getD n [] := by decide +kernel
theorem symL_ok3 : ∀ n, n ≤ 27 → 24 ≤ n → syms n = symL.getD n [] := by decide +kernel
theorem symL_ok4 : ∀ n, n ≤ 30 → 28 ≤ n → syms n = symL.getD n [] := by decide +kernel
theorem symL_ok5 : ∀ n, n ≤ 33 → 31 ≤ n → syms n = symL.getD n [] := by decide +kernel
theorem symL_ok6 : ∀ n, n ≤ 36 → 34 ≤ n → syms n = symL.getD n [] := by decide +kernel
theorem symL_ok7 : ∀ n, n ≤ 39 → 37 ≤ n → syms n = symL.getD n [] := by decide +kernel
theorem symL_ok8 : ∀ n, n ≤ 41 → 40 ≤ n → syms n = symL.getD n [] := by decide +kernel
theorem symL_ok9 : ∀ n, n ≤ 43 → 42 ≤ n → syms n = symL.getD n [] := by decide +kernel
theorem symL_ok10 : ∀ n, n ≤ 45 → 44 ≤ n → syms n = symL.getD n [] := by decide +kernel
theorem symL_ok11 : ∀ n, n ≤ 47 → 46 ≤ n → syms n = symL.getD n [] := by decide +kernel
theorem symL_ok12 : ∀ n, n ≤ 48 → 48 ≤ n → syms n = symL.getD n [] := by decide +kernel
theorem symL_ok : ∀ n, n ≤ 48 → 1 ≤ n → syms n = symL.getD n [] := fun n h2 h1 => by
  rcases (by omega : (1 ≤ n ∧ n ≤ 12) ∨ (13 ≤ n ∧ n ≤ 18) ∨ (19 ≤ n ∧ n ≤ 23) ∨ (24 ≤ n ∧ n ≤ 27) ∨ (28 ≤ n ∧ n ≤ 30) ∨ (31 ≤ n ∧ n ≤ 33) ∨ (34 ≤ n ∧ n ≤ 36) ∨ (37 ≤ n ∧ n ≤ 39) ∨ (40 ≤ n ∧ n ≤ 41) ∨ (42 ≤ n ∧ n ≤ 43) ∨ (44 ≤ n ∧ n ≤ 45) ∨ (46 ≤ n ∧ n ≤ 47) ∨ (48 ≤ n ∧ n ≤ 48)) with h | h | h | h | h | h | h | h | h | h | h | h | h
  · exact symL_ok0 n h.2 h.1
  · exact symL_ok1 n h.2 h.1
  · exact symL_ok2 n h.2 h.1
  · exact symL_ok3 n h.2 h.1
  · exact symL_ok4 n h.2 h.1
  · exact symL_ok5 n h.2 h.1
  · exact symL_ok6 n h.2 h.1
  · exact symL_ok7 n h.2 h.1
  · exact symL_ok8 n h.2 h.1
  · exact symL_ok9 n h.2 h.1
  · exact symL_ok10 n h.2 h.1
  · exact symL_ok11 n h.2 h.1
  · exact symL_ok12 n h.2 h.1
def szs : List Nat := [3, 4, 7, 8, 11, 12, 15, 16, 19, 20, 23, 24, 27, 28, 31, 32, 35, 36, 39, 40, 43, 44, 47, 48, 51, 52, 55, 56, 59, 60, 63, 64, 67, 68, 71, 72, 75, 76, 79, 80]
def fmL : List (List (List Int)) := [[], [], [], [[1, 1, 1]], [[1, 0, 1]], [], [], [[1, 1, 2]], [[1, 0, 2]], [], [], [[1, 1, 3]], [[1, 0, 3], [2, 2, 2]], [], [], [[1, 1, 4], [2, 1, 2]], [[1, 0, 4], [2, 0, 2]], [], [], [[1, 1, 5]], [[1, 0, 5], [2, 2, 3]], [], [], [[1, 1, 6], [2, -1, 3], [2, 1, 3]], [[1, 0, 6], [2, 0, 3]], [], [], [[1, 1, 7], [3, 3, 3]], [[1, 0, 7], [2, 2, 4]], [], [], [[1, 1, 8], [2, -1, 4], [2, 1, 4]], [[1, 0, 8], [2, 0, 4], [3, 2, 3]], [], [], [[1, 1, 9], [3, 1, 3]], [[1, 0, 9], [2, 2, 5], [3, 0, 3]], [], [], [[1, 1, 10], [2, -1, 5], [2, 1, 5], [3, 3, 4]], [[1, 0, 10], [2, 0, 5]], [], [], [[1, 1, 11]], [[1, 0, 11], [2, 2, 6], [3, -2, 4], [3, 2, 4]], [], [], [[1, 1, 12], [2, -1, 6], [2, 1, 6], [3, -1, 4], [3, 1, 4]], [[1, 0, 12], [2, 0, 6], [3, 0, 4], [4, 4, 4]], [], [], [[1, 1, 13], [3, 3, 5]], [[1, 0, 13], [2, 2, 7]], [], [], [[1, 1, 14], [2, -1, 7], [2, 1, 7], [4, 3, 4]], [[1, 0, 14], [2, 0, 7], [3, -2, 5], [3, 2, 5]], [], [], [[1, 1, 15], [3, -1, 5], [3, 1, 5]], [[1, 0, 15], [2, 2, 8], [3, 0, 5], [4, 2, 4]], [], [], [[1, 1, 16], [2, -1, 8], [2, 1, 8], [3, 3, 6], [4, 1, 4]], [[1, 0, 16], [2, 0, 8], [4, 0, 4], [4, 4, 5]], [], [], [[1, 1, 17]], [[1, 0, 17], [2, 2, 9], [3, -2, 6], [3, 2, 6]], [], [], [[1, 1, 18], [2, -1, 9], [2, 1, 9], [3, -1, 6], [3, 1, 6], [4, -3, 5], [4, 3, 5]], [[1, 0, 18], [2, 0, 9], [3, 0, 6]], [], [], [[1, 1, 19], [3, 3, 7], [5, 5, 5]], [[1, 0, 19], [2, 2, 10], [4, -2, 5], [4, 2, 5]], [], [], [[1, 1, 20], [2, -1, 10], [2, 1, 10], [4, -1, 5], [4, 1, 5]], [[1, 0, 20], [2, 0, 10], [3, -2, 7], [3, 2, 7], [4, 0, 5], [4, 4, 6]]]
theorem fmL_ok : ∀ k, k ≤ 80 → k ∈ szs → fms (-(k : Int)) = fmL.getD k [] := by decide +kernel
/-- six times what stays under a form, by its weight -/
def hN (n : Nat) (t : List Int) : Int := match t with
  | [a, b, c] => 6 * 1 * (fxs n a b c : Int) / wgt a b c
  | _ => 0
def HN (n : Nat) (s : Int) : Int := ((fms s).map (hN n)).sum
def hK (n : Nat) (ss : List (Nat × Nat)) (t : List Int) : Nat := match t with
  | [a, b, c] => 6 * fxK n (tri n a) (tri n (0 - b)) (tri n c) ss / (wgt a b c).toNat
  | _ => 0
def HK (n : Nat) (ss : List (Nat × Nat)) (fs : List (List Int)) : Nat := (fs.map (hK n ss)).sum
def hL : List (List Nat) := [[], [0, 0, 0, 2, 3, 0, 0, 6, 6, 0, 0, 6, 8, 0, 0, 12, 9, 0, 0, 6, 12, 0, 0, 18, 12, 0, 0, 8, 12, 0, 0, 18, 18, 0, 0, 12, 15, 0, 0, 24, 12, 0, 0, 6, 24, 0, 0, 30, 20, 0, 0, 12, 12, 0, 0, 24, 24, 0, 0, 18, 24, 0, 0, 30, 21, 0, 0, 6, 24, 0, 0, 42, 18, 0, 0, 14, 24, 0, 0, 30, 36], [0, 0, 0, 0, 3, 0, 0, 12, 6, 0, 0, 0, 12, 0, 0, 24, 15, 0, 0, 0, 12, 0, 0, 36, 12, 0, 0, 0, 24, 0, 0, 36, 30, 0, 0, 0, 15, 0, 0, 48, 12, 0, 0, 0, 36, 0, 0, 60, 36, 0, 0, 0, 12, 0, 0, 48, 24, 0, 0, 0, 48, 0, 0, 60, 39, 0, 0, 0, 24, 0, 0, 84, 18, 0, 0, 0, 36, 0, 0, 60, 60], [0, 0, 0, 2, 0, 0, 0, 0, 12, 0, 0, 12, 8, 0, 0, 12, 0, 0, 0, 0, 24, 0, 0, 36, 12, 0, 0, 14, 0, 0, 0, 0, 36, 0, 0, 24, 24, 0, 0, 24, 0, 0, 0, 0, 48, 0, 0, 60, 20, 0, 0, 12, 0, 0, 0, 0, 48, 0, 0, 36, 24, 0, 0, 48, 0, 0, 0, 0, 48, 0, 0, 84, 36, 0, 0, 14, 0, 0, 0, 0, 72], [0, 0, 0, 0, 0, 0, 0, 12, 0, 0, 0, 0, 12, 0, 0, 24, 18, 0, 0, 0, 0, 0, 0, 36, 0, 0, 0, 0, 36, 0, 0, 36, 36, 0, 0, 0, 0, 0, 0, 48, 0, 0, 0, 0, 36, 0, 0, 60, 48, 0, 0, 0, 0, 0, 0, 48, 0, 0, 0, 0, 72, 0, 0, 60, 54, 0, 0, 0, 0, 0, 0, 84, 0, 0, 0, 0, 36, 0, 0, 60, 72], [0, 0, 0, 0, 6, 0, 0, 0, 0, 0, 0, 12, 0, 0, 0, 12, 18, 0, 0, 12, 12, 0, 0, 0, 24, 0, 0, 0, 0, 0, 0, 36, 0, 0, 0, 12, 30, 0, 0, 48, 12, 0, 0, 0, 48, 0, 0, 0, 0, 0, 0, 24, 0, 0, 0, 24, 48, 0, 0, 36, 24, 0, 0, 0, 42, 0, 0, 0, 0, 0, 0, 84, 0, 0, 0, 24, 48, 0, 0, 60, 36], [0, 0, 0, 0, 0, 0, 0, 0, 12, 0, 0, 0, 12, 0, 0, 24, 0, 0, 0, 0, 24, 0, 0, 72, 12, 0, 0, 0, 0, 0, 0, 0, 60, 0, 0, 0, 24, 0, 0, 48, 0, 0, 0, 0, 72, 0, 0, 120, 36, 0, 0, 0, 0, 0, 0, 0, 48, 0, 0, 0, 48, 0, 0, 96, 0, 0, 0, 0, 48, 0, 0, 168, 36, 0, 0, 0, 0, 0, 0, 0, 120], [0, 0, 0, 4, 0, 0, 0, 6, 0, 0, 0, 0, 16, 0, 0, 0, 0, 0, 0, 12, 24, 0, 0, 0, 24, 0, 0, 16, 12, 0, 0, 36, 0, 0, 0, 12, 0, 0, 0, 0, 24, 0, 0, 0, 0, 0, 0, 60, 40, 0, 0, 0, 24, 0, 0, 48, 24, 0, 0, 36, 0, 0, 0, 30, 0, 0, 0, 0, 48, 0, 0, 0, 0, 0, 0, 28, 48, 0, 0, 0, 72], [0, 0, 0, 0, 0, 0, 0, 12, 0, 0, 0, 0, 0, 0, 0, 24, 12, 0, 0, 0, 0, 0, 0, 36, 0, 0, 0, 0, 48, 0, 0, 36, 24, 0, 0, 0, 0, 0, 0, 48, 0, 0, 0, 0, 0, 0, 0, 60, 48, 0, 0, 0, 0, 0, 0, 48, 0, 0, 0, 0, 96, 0, 0, 60, 60, 0, 0, 0, 0, 0, 0, 84, 0, 0, 0, 0, 0, 0, 0, 60, 48], [0, 0, 0, 0, 0, 0, 0, 0, 12, 0, 0, 12, 0, 0, 0, 0, 0, 0, 0, 0, 24, 0, 0, 36, 0, 0, 0, 24, 0, 0, 0, 0, 36, 0, 0, 24, 36, 0, 0, 0, 0, 0, 0, 0, 48, 0, 0, 60, 0, 0, 0, 0, 0, 0, 0, 0, 48, 0, 0, 36, 0, 0, 0, 72, 0, 0, 0, 0, 48, 0, 0, 84, 72, 0, 0, 0, 0, 0, 0, 0, 72], [0, 0, 0, 0, 6, 0, 0, 0, 0, 0, 0, 0, 0, 0, 0, 24, 30, 0, 0, 0, 12, 0, 0, 0, 24, 0, 0, 0, 0, 0, 0, 72, 0, 0, 0, 0, 30, 0, 0, 96, 12, 0, 0, 0, 72, 0, 0, 0, 0, 0, 0, 0, 0, 0, 0, 48, 48, 0, 0, 0, 48, 0, 0, 0, 78, 0, 0, 0, 0, 0, 0, 168, 0, 0, 0, 0, 72, 0, 0, 120, 60], [0, 0, 0, 0, 0, 0, 0, 12, 12, 0, 0, 6, 0, 0, 0, 0, 0, 0, 0, 12, 0, 0, 0, 0, 24, 0, 0, 0, 24, 0, 0, 0, 36, 0, 0, 24, 0, 0, 0, 48, 24, 0, 0, 12, 24, 0, 0, 0, 0, 0, 0, 24, 24, 0, 0, 24, 0, 0, 0, 0, 0, 0, 0, 60, 0, 0, 0, 0, 48, 0, 0, 0, 36, 0, 0, 0, 48, 0, 0, 60, 0], [0, 0, 0, 0, 0, 0, 0, 0, 0, 0, 0, 0, 12, 0, 0, 24, 0, 0, 0, 0, 0, 0, 0, 72, 0, 0, 0, 0, 0, 0, 0, 0, 72, 0, 0, 0, 0, 0, 0, 48, 0, 0, 0, 0, 72, 0, 0, 120, 48, 0, 0, 0, 0, 0, 0, 0, 0, 0, 0, 0, 72, 0, 0, 96, 0, 0, 0, 0, 0, 0, 0, 168, 0, 0, 0, 0, 0, 0, 0, 0, 144], [0, 0, 0, 4, 6, 0, 0, 0, 0, 0, 0, 0, 16, 0, 0, 0, 18, 0, 0, 0, 0, 0, 0, 36, 0, 0, 0, 16, 0, 0, 0, 0, 0, 0, 0, 24, 30, 0, 0, 24, 24, 0, 0, 12, 0, 0, 0, 0, 40, 0, 0, 24, 12, 0, 0, 48, 48, 0, 0, 0, 0, 0, 0, 0, 42, 0, 0, 0, 48, 0, 0, 0, 0, 0, 0, 28, 0, 0, 0, 60, 0], [0, 0, 0, 0, 0, 0, 0, 12, 0, 0, 0, 0, 24, 0, 0, 0, 0, 0, 0, 0, 24, 0, 0, 0, 24, 0, 0, 0, 24, 0, 0, 72, 0, 0, 0, 0, 0, 0, 0, 0, 24, 0, 0, 0, 0, 0, 0, 120, 72, 0, 0, 0, 24, 0, 0, 96, 24, 0, 0, 0, 0, 0, 0, 60, 0, 0, 0, 0, 48, 0, 0, 0, 0, 0, 0, 0, 72, 0, 0, 0, 120], [0, 0, 0, 0, 0, 0, 0, 0, 0, 0, 0, 24, 0, 0, 0, 12, 0, 0, 0, 0, 24, 0, 0, 0, 24, 0, 0, 0, 0, 0, 0, 0, 0, 0, 0, 24, 48, 0, 0, 48, 0, 0, 0, 0, 96, 0, 0, 0, 0, 0, 0, 24, 0, 0, 0, 0, 96, 0, 0, 72, 24, 0, 0, 0, 0, 0, 0, 0, 0, 0, 0, 168, 0, 0, 0, 24, 0, 0, 0, 0, 72], [0, 0, 0, 0, 0, 0, 0, 12, 0, 0, 0, 0, 0, 0, 0, 24, 0, 0, 0, 0, 0, 0, 0, 36, 0, 0, 0, 0, 48, 0, 0, 36, 0, 0, 0, 0, 0, 0, 0, 48, 0, 0, 0, 0, 0, 0, 0, 60, 48, 0, 0, 0, 0, 0, 0, 48, 0, 0, 0, 0, 96, 0, 0, 60, 72, 0, 0, 0, 0, 0, 0, 84, 0, 0, 0, 0, 0, 0, 0, 60, 0], [0, 0, 0, 0, 6, 0, 0, 0, 12, 0, 0, 0, 0, 0, 0, 24, 18, 0, 0, 12, 0, 0, 0, 0, 0, 0, 0, 0, 0, 0, 0, 0, 36, 0, 0, 24, 30, 0, 0, 0, 0, 0, 0, 12, 0, 0, 0, 60, 0, 0, 0, 12, 24, 0, 0, 48, 0, 0, 0, 36, 48, 0, 0, 0, 42, 0, 0, 12, 24, 0, 0, 0, 36, 0, 0, 0, 48, 0, 0, 0, 0], [0, 0, 0, 0, 0, 0, 0, 0, 12, 0, 0, 0, 0, 0, 0, 0, 0, 0, 0, 0, 24, 0, 0, 72, 0, 0, 0, 0, 0, 0, 0, 0, 60, 0, 0, 0, 36, 0, 0, 0, 0, 0, 0, 0, 72, 0, 0, 120, 0, 0, 0, 0, 0, 0, 0, 0, 48, 0, 0, 0, 0, 0, 0, 144, 0, 0, 0, 0, 48, 0, 0, 168, 72, 0, 0, 0, 0, 0, 0, 0, 120], [0, 0, 0, 4, 0, 0, 0, 0, 12, 0, 0, 0, 16, 0, 0, 24, 0, 0, 0, 6, 0, 0, 0, 0, 0, 0, 0, 16, 0, 0, 0, 36, 36, 0, 0, 0, 0, 0, 0, 0, 24, 0, 0, 0, 0, 0, 0, 0, 40, 0, 0, 24, 24, 0, 0, 0, 48, 0, 0, 36, 48, 0, 0, 0, 0, 0, 0, 12, 0, 0, 0, 84, 36, 0, 0, 28, 24, 0, 0, 60, 0], [0, 0, 0, 0, 0, 0, 0, 0, 0, 0, 0, 0, 0, 0, 0, 24, 36, 0, 0, 0, 0, 0, 0, 0, 0, 0, 0, 0, 0, 0, 0, 72, 0, 0, 0, 0, 0, 0, 0, 96, 0, 0, 0, 0, 72, 0, 0, 0, 0, 0, 0, 0, 0, 0, 0, 48, 0, 0, 0, 0, 72, 0, 0, 0, 108, 0, 0, 0, 0, 0, 0, 168, 0, 0, 0, 0, 72, 0, 0, 120, 72], [0, 0, 0, 4, 0, 0, 0, 0, 0, 0, 0, 0, 16, 0, 0, 0, 0, 0, 0, 0, 48, 0, 0, 0, 24, 0, 0, 28, 0, 0, 0, 0, 0, 0, 0, 24, 0, 0, 0, 0, 0, 0, 0, 0, 0, 0, 0, 120, 40, 0, 0, 0, 0, 0, 0, 0, 48, 0, 0, 72, 0, 0, 0, 48, 0, 0, 0, 0, 96, 0, 0, 0, 0, 0, 0, 28, 0, 0, 0, 0, 144], [0, 0, 0, 0, 0, 0, 0, 24, 12, 0, 0, 0, 0, 0, 0, 0, 0, 0, 0, 0, 0, 0, 0, 0, 24, 0, 0, 0, 48, 0, 0, 0, 60, 0, 0, 0, 0, 0, 0, 96, 24, 0, 0, 0, 36, 0, 0, 0, 0, 0, 0, 0, 24, 0, 0, 48, 0, 0, 0, 0, 0, 0, 0, 120, 0, 0, 0, 0, 48, 0, 0, 0, 36, 0, 0, 0, 72, 0, 0, 120, 0], [0, 0, 0, 0, 0, 0, 0, 12, 0, 0, 0, 12, 0, 0, 0, 24, 0, 0, 0, 12, 24, 0, 0, 18, 0, 0, 0, 0, 24, 0, 0, 0, 0, 0, 0, 0, 0, 0, 0, 0, 24, 0, 0, 12, 48, 0, 0, 0, 0, 0, 0, 24, 0, 0, 0, 0, 48, 0, 0, 0, 48, 0, 0, 60, 0, 0, 0, 12, 48, 0, 0, 0, 0, 0, 0, 0, 48, 0, 0, 60, 72], [0, 0, 0, 0, 0, 0, 0, 0, 0, 0, 0, 0, 0, 0, 0, 24, 0, 0, 0, 0, 0, 0, 0, 72, 0, 0, 0, 0, 0, 0, 0, 0, 48, 0, 0, 0, 0, 0, 0, 48, 0, 0, 0, 0, 0, 0, 0, 120, 48, 0, 0, 0, 0, 0, 0, 0, 0, 0, 0, 0, 96, 0, 0, 96, 0, 0, 0, 0, 0, 0, 0, 168, 0, 0, 0, 0, 0, 0, 0, 0, 96], [0, 0, 0, 0, 6, 0, 0, 0, 0, 0, 0, 12, 0, 0, 0, 0, 18, 0, 0, 12, 0, 0, 0, 0, 24, 0, 0, 0, 0, 0, 0, 36, 0, 0, 0, 0, 30, 0, 0, 48, 0, 0, 0, 0, 48, 0, 0, 0, 0, 0, 0, 24, 0, 0, 0, 0, 48, 0, 0, 36, 0, 0, 0, 0, 42, 0, 0, 0, 0, 0, 0, 84, 0, 0, 0, 60, 48, 0, 0, 60, 0], [0, 0, 0, 0, 6, 0, 0, 0, 0, 0, 0, 0, 24, 0, 0, 0, 30, 0, 0, 0, 0, 0, 0, 72, 0, 0, 0, 0, 0, 0, 0, 0, 0, 0, 0, 0, 30, 0, 0, 48, 24, 0, 0, 0, 0, 0, 0, 0, 72, 0, 0, 0, 12, 0, 0, 96, 48, 0, 0, 0, 0, 0, 0, 0, 78, 0, 0, 0, 48, 0, 0, 0, 0, 0, 0, 0, 0, 0, 0, 120, 0], [0, 0, 0, 0, 0, 0, 0, 0, 12, 0, 0, 12, 0, 0, 0, 0, 0, 0, 0, 0, 24, 0, 0, 36, 0, 0, 0, 18, 0, 0, 0, 0, 36, 0, 0, 24, 0, 0, 0, 0, 0, 0, 0, 0, 48, 0, 0, 60, 0, 0, 0, 0, 0, 0, 0, 0, 48, 0, 0, 36, 0, 0, 0, 0, 0, 0, 0, 0, 48, 0, 0, 84, 108, 0, 0, 0, 0, 0, 0, 0, 72], [0, 0, 0, 0, 0, 0, 0, 12, 0, 0, 0, 0, 24, 0, 0, 0, 0, 0, 0, 0, 0, 0, 0, 0, 0, 0, 0, 0, 36, 0, 0, 72, 0, 0, 0, 0, 0, 0, 0, 0, 0, 0, 0, 0, 0, 0, 0, 120, 96, 0, 0, 0, 0, 0, 0, 96, 0, 0, 0, 0, 0, 0, 0, 60, 0, 0, 0, 0, 0, 0, 0, 0, 0, 0, 0, 0, 72, 0, 0, 0, 144], [0, 0, 0, 0, 6, 0, 0, 12, 0, 0, 0, 0, 0, 0, 0, 0, 18, 0, 0, 0, 24, 0, 0, 36, 24, 0, 0, 0, 24, 0, 0, 0, 0, 0, 0, 24, 30, 0, 0, 0, 0, 0, 0, 0, 0, 0, 0, 0, 0, 0, 0, 24, 24, 0, 0, 0, 0, 0, 0, 36, 0, 0, 0, 60, 42, 0, 0, 12, 0, 0, 0, 84, 0, 0, 0, 0, 0, 0, 0, 0, 72], [0, 0, 0, 0, 0, 0, 0, 0, 0, 0, 0, 0, 0, 0, 0, 24, 0, 0, 0, 0, 24, 0, 0, 0, 24, 0, 0, 0, 0, 0, 0, 0, 0, 0, 0, 0, 48, 0, 0, 96, 0, 0, 0, 0, 144, 0, 0, 0, 0, 0, 0, 0, 0, 0, 0, 0, 96, 0, 0, 0, 48, 0, 0, 0, 0, 0, 0, 0, 0, 0, 0, 336, 0, 0, 0, 0, 0, 0, 0, 0, 120], [0, 0, 0, 4, 0, 0, 0, 0, 0, 0, 0, 12, 16, 0, 0, 24, 0, 0, 0, 0, 0, 0, 0, 36, 24, 0, 0, 16, 0, 0, 0, 18, 0, 0, 0, 0, 0, 0, 0, 0, 0, 0, 0, 12, 48, 0, 0, 0, 40, 0, 0, 0, 24, 0, 0, 48, 0, 0, 0, 0, 48, 0, 0, 0, 0, 0, 0, 0, 48, 0, 0, 0, 0, 0, 0, 28, 0, 0, 0, 60, 0], [0, 0, 0, 0, 0, 0, 0, 12, 0, 0, 0, 0, 0, 0, 0, 24, 0, 0, 0, 0, 0, 0, 0, 36, 0, 0, 0, 0, 48, 0, 0, 36, 0, 0, 0, 0, 0, 0, 0, 48, 0, 0, 0, 0, 0, 0, 0, 60, 0, 0, 0, 0, 0, 0, 0, 48, 0, 0, 0, 0, 96, 0, 0, 60, 48, 0, 0, 0, 0, 0, 0, 84, 0, 0, 0, 0, 0, 0, 0, 60, 0], [0, 0, 0, 0, 0, 0, 0, 0, 24, 0, 0, 12, 0, 0, 0, 0, 0, 0, 0, 0, 0, 0, 0, 0, 24, 0, 0, 0, 0, 0, 0, 0, 72, 0, 0, 48, 0, 0, 0, 48, 0, 0, 0, 0, 48, 0, 0, 0, 0, 0, 0, 24, 0, 0, 0, 0, 0, 0, 0, 0, 0, 0, 0, 96, 0, 0, 0, 0, 96, 0, 0, 0, 72, 0, 0, 0, 0, 0, 0, 0, 0], [0, 0, 0, 0, 6, 0, 0, 0, 12, 0, 0, 0, 0, 0, 0, 48, 30, 0, 0, 0, 0, 0, 0, 0, 0, 0, 0, 0, 0, 0, 0, 0, 60, 0, 0, 0, 30, 0, 0, 0, 0, 0, 0, 0, 0, 0, 0, 120, 0, 0, 0, 0, 24, 0, 0, 96, 0, 0, 0, 0, 96, 0, 0, 0, 78, 0, 0, 0, 24, 0, 0, 0, 36, 0, 0, 0, 72, 0, 0, 0, 0], [0, 0, 0, 0, 0, 0, 0, 0, 0, 0, 0, 0, 0, 0, 0, 0, 0, 0, 0, 24, 24, 0, 0, 0, 48, 0, 0, 0, 0, 0, 0, 72, 0, 0, 0, 12, 0, 0, 0, 0, 24, 0, 0, 0, 0, 0, 0, 0, 0, 0, 0, 0, 0, 0, 0, 48, 48, 0, 0, 72, 0, 0, 0, 0, 0, 0, 0, 0, 0, 0, 0, 0, 0, 0, 0, 48, 96, 0, 0, 0, 72], [0, 0, 0, 0, 0, 0, 0, 0, 0, 0, 0, 0, 0, 0, 0, 0, 0, 0, 0, 0, 0, 0, 0, 72, 0, 0, 0, 0, 0, 0, 0, 0, 72, 0, 0, 0, 0, 0, 0, 0, 0, 0, 0, 0, 72, 0, 0, 120, 0, 0, 0, 0, 0, 0, 0, 0, 0, 0, 0, 0, 0, 0, 0, 144, 0, 0, 0, 0, 0, 0, 0, 168, 0, 0, 0, 0, 0, 0, 0, 0, 144], [0, 0, 0, 4, 6, 0, 0, 12, 0, 0, 0, 12, 16, 0, 0, 0, 18, 0, 0, 0, 0, 0, 0, 0, 0, 0, 0, 16, 24, 0, 0, 0, 0, 0, 0, 0, 30, 0, 0, 0, 24, 0, 0, 0, 48, 0, 0, 60, 40, 0, 0, 0, 0, 0, 0, 0, 0, 0, 0, 0, 0, 0, 0, 60, 42, 0, 0, 12, 0, 0, 0, 84, 0, 0, 0, 28, 0, 0, 0, 0, 0], [0, 0, 0, 0, 0, 0, 0, 0, 12, 0, 0, 0, 24, 0, 0, 48, 0, 0, 0, 0, 0, 0, 0, 0, 0, 0, 0, 0, 0, 0, 0, 72, 60, 0, 0, 0, 0, 0, 0, 0, 24, 0, 0, 0, 0, 0, 0, 0, 72, 0, 0, 0, 24, 0, 0, 0, 48, 0, 0, 0, 96, 0, 0, 0, 0, 0, 0, 0, 0, 0, 0, 168, 36, 0, 0, 0, 36, 0, 0, 120, 0], [0, 0, 0, 4, 0, 0, 0, 0, 0, 0, 0, 0, 16, 0, 0, 0, 0, 0, 0, 0, 0, 0, 0, 72, 0, 0, 0, 28, 0, 0, 0, 0, 0, 0, 0, 48, 48, 0, 0, 24, 0, 0, 0, 0, 0, 0, 0, 0, 40, 0, 0, 24, 0, 0, 0, 0, 96, 0, 0, 0, 0, 0, 0, 0, 0, 0, 0, 0, 96, 0, 0, 0, 0, 0, 0, 28, 0, 0, 0, 0, 0], [0, 0, 0, 0, 0, 0, 0, 0, 0, 0, 0, 0, 0, 0, 0, 24, 24, 0, 0, 0, 0, 0, 0, 0, 0, 0, 0, 0, 0, 0, 0, 72, 0, 0, 0, 0, 0, 0, 0, 96, 0, 0, 0, 0, 0, 0, 0, 0, 0, 0, 0, 0, 0, 0, 0, 48, 0, 0, 0, 0, 96, 0, 0, 0, 120, 0, 0, 0, 0, 0, 0, 168, 0, 0, 0, 0, 0, 0, 0, 120, 48], [0, 0, 0, 0, 6, 0, 0, 0, 12, 0, 0, 0, 0, 0, 0, 0, 18, 0, 0, 0, 24, 0, 0, 36, 0, 0, 0, 0, 0, 0, 0, 36, 36, 0, 0, 0, 30, 0, 0, 48, 24, 0, 0, 12, 0, 0, 0, 0, 0, 0, 0, 24, 0, 0, 0, 0, 0, 0, 0, 36, 0, 0, 0, 0, 42, 0, 0, 0, 0, 0, 0, 0, 36, 0, 0, 0, 0, 0, 0, 0, 72], [0, 0, 0, 0, 0, 0, 0, 0, 0, 0, 0, 0, 24, 0, 0, 0, 0, 0, 0, 0, 48, 0, 0, 0, 24, 0, 0, 0, 0, 0, 0, 0, 0, 0, 0, 0, 0, 0, 0, 0, 0, 0, 0, 0, 0, 0, 0, 240, 72, 0, 0, 0, 0, 0, 0, 0, 48, 0, 0, 0, 0, 0, 0, 96, 0, 0, 0, 0, 96, 0, 0, 0, 0, 0, 0, 0, 0, 0, 0, 0, 240], [0, 0, 0, 4, 0, 0, 0, 12, 12, 0, 0, 0, 16, 0, 0, 0, 0, 0, 0, 12, 24, 0, 0, 0, 0, 0, 0, 16, 24, 0, 0, 0, 36, 0, 0, 0, 0, 0, 0, 48, 0, 0, 0, 6, 0, 0, 0, 0, 40, 0, 0, 24, 0, 0, 0, 48, 0, 0, 0, 0, 0, 0, 0, 60, 0, 0, 0, 0, 0, 0, 0, 84, 36, 0, 0, 28, 48, 0, 0, 0, 72], [0, 0, 0, 0, 0, 0, 0, 24, 0, 0, 0, 0, 0, 0, 0, 0, 0, 0, 0, 0, 0, 0, 0, 0, 0, 0, 0, 0, 72, 0, 0, 0, 72, 0, 0, 0, 0, 0, 0, 96, 0, 0, 0, 0, 36, 0, 0, 0, 0, 0, 0, 0, 0, 0, 0, 48, 0, 0, 0, 0, 0, 0, 0, 120, 0, 0, 0, 0, 0, 0, 0, 0, 0, 0, 0, 0, 72, 0, 0, 120, 0], [0, 0, 0, 0, 0, 0, 0, 0, 0, 0, 0, 24, 0, 0, 0, 0, 0, 0, 0, 0, 24, 0, 0, 0, 0, 0, 0, 0, 0, 0, 0, 0, 0, 0, 0, 24, 72, 0, 0, 0, 0, 0, 0, 0, 96, 0, 0, 0, 0, 0, 0, 0, 0, 0, 0, 0, 96, 0, 0, 72, 0, 0, 0, 0, 0, 0, 0, 0, 0, 0, 0, 168, 0, 0, 0, 0, 0, 0, 0, 0, 72], [0, 0, 0, 0, 0, 0, 0, 24, 0, 0, 0, 0, 0, 0, 0, 48, 0, 0, 0, 0, 24, 0, 0, 36, 0, 0, 0, 0, 48, 0, 0, 0, 0, 0, 0, 0, 0, 0, 0, 0, 24, 0, 0, 0, 72, 0, 0, 0, 0, 0, 0, 0, 0, 0, 0, 0, 48, 0, 0, 0, 96, 0, 0, 120, 0, 0, 0, 0, 48, 0, 0, 0, 0, 0, 0, 0, 72, 0, 0, 120, 120], [0, 0, 0, 0, 0, 0, 0, 0, 0, 0, 0, 12, 0, 0, 0, 24, 0, 0, 0, 12, 24, 0, 0, 36, 0, 0, 0, 0, 0, 0, 0, 36, 0, 0, 0, 24, 0, 0, 0, 48, 24, 0, 0, 12, 48, 0, 0, 30, 0, 0, 0, 0, 24, 0, 0, 0, 0, 0, 0, 0, 48, 0, 0, 0, 0, 0, 0, 12, 0, 0, 0, 0, 0, 0, 0, 0, 48, 0, 0, 0, 72], [0, 0, 0, 0, 0, 0, 0, 0, 0, 0, 0, 0, 0, 0, 0, 24, 0, 0, 0, 0, 0, 0, 0, 72, 0, 0, 0, 0, 0, 0, 0, 0, 0, 0, 0, 0, 0, 0, 0, 48, 0, 0, 0, 0, 0, 0, 0, 120, 48, 0, 0, 0, 0, 0, 0, 0, 0, 0, 0, 0, 96, 0, 0, 96, 0, 0, 0, 0, 0, 0, 0, 168, 0, 0, 0, 0, 0, 0, 0, 0, 0]]
theorem hL_ok0 : ∀ n, n ≤ 12 → 1 ≤ n → szs.all (fun k => Nat.beq (HK n (symL.getD n []) (fmL.getD k [])) ((hL.getD n []).getD k 0)) = true := by decide +kernel
theorem hL_ok1 : ∀ n, n ≤ 18 → 13 ≤ n → szs.all (fun k => Nat.beq (HK n (symL.getD n []) (fmL.getD k [])) ((hL.getD n []).getD k 0)) = true := by decide +kernel
theorem hL_ok2 : ∀ n, n ≤ 23 → 19 ≤ n → szs.all (fun k => Nat.beq (HK n (symL.getD n []) (fmL.getD k [])) ((hL.getD n []).getD k 0)) = true := by decide +kernel
theorem hL_ok3 : ∀ n, n ≤ 27 → 24 ≤ n → szs.all (fun k => Nat.beq (HK n (symL.getD n []) (fmL.getD k [])) ((hL.getD n []).getD k 0)) = true := by decide +kernel
theorem hL_ok4 : ∀ n, n ≤ 30 → 28 ≤ n → szs.all (fun k => Nat.beq (HK n (symL.getD n []) (fmL.getD k [])) ((hL.getD n []).getD k 0)) = true := by decide +kernel
theorem hL_ok5 : ∀ n, n ≤ 33 → 31 ≤ n → szs.all (fun k => Nat.beq (HK n (symL.getD n []) (fmL.getD k [])) ((hL.getD n []).getD k 0)) = true := by decide +kernel
theorem hL_ok6 : ∀ n, n ≤ 36 → 34 ≤ n → szs.all (fun k => Nat.beq (HK n (symL.getD n []) (fmL.getD k [])) ((hL.getD n []).getD k 0)) = true := by decide +kernel
theorem hL_ok7 : ∀ n, n ≤ 39 → 37 ≤ n → szs.all (fun k => Nat.beq (HK n (symL.getD n []) (fmL.getD k [])) ((hL.getD n []).getD k 0)) = true := by decide +kernel
theorem hL_ok8 : ∀ n, n ≤ 41 → 40 ≤ n → szs.all (fun k => Nat.beq (HK n (symL.getD n []) (fmL.getD k [])) ((hL.getD n []).getD k 0)) = true := by decide +kernel
theorem hL_ok9 : ∀ n, n ≤ 43 → 42 ≤ n → szs.all (fun k => Nat.beq (HK n (symL.getD n []) (fmL.getD k [])) ((hL.getD n []).getD k 0)) = true := by decide +kernel
theorem hL_ok10 : ∀ n, n ≤ 45 → 44 ≤ n → szs.all (fun k => Nat.beq (HK n (symL.getD n []) (fmL.getD k [])) ((hL.getD n []).getD k 0)) = true := by decide +kernel
theorem hL_ok11 : ∀ n, n ≤ 47 → 46 ≤ n → szs.all (fun k => Nat.beq (HK n (symL.getD n []) (fmL.getD k [])) ((hL.getD n []).getD k 0)) = true := by decide +kernel
theorem hL_ok12 : ∀ n, n ≤ 48 → 48 ≤ n → szs.all (fun k => Nat.beq (HK n (symL.getD n []) (fmL.getD k [])) ((hL.getD n []).getD k 0)) = true := by decide +kernel
theorem hL_ok : ∀ n, n ≤ 48 → 1 ≤ n → szs.all (fun k => Nat.beq (HK n (symL.getD n []) (fmL.getD k [])) ((hL.getD n []).getD k 0)) = true := fun n h2 h1 => by
  rcases (by omega : (1 ≤ n ∧ n ≤ 12) ∨ (13 ≤ n ∧ n ≤ 18) ∨ (19 ≤ n ∧ n ≤ 23) ∨ (24 ≤ n ∧ n ≤ 27) ∨ (28 ≤ n ∧ n ≤ 30) ∨ (31 ≤ n ∧ n ≤ 33) ∨ (34 ≤ n ∧ n ≤ 36) ∨ (37 ≤ n ∧ n ≤ 39) ∨ (40 ≤ n ∧ n ≤ 41) ∨ (42 ≤ n ∧ n ≤ 43) ∨ (44 ≤ n ∧ n ≤ 45) ∨ (46 ≤ n ∧ n ≤ 47) ∨ (48 ≤ n ∧ n ≤ 48)) with h | h | h | h | h | h | h | h | h | h | h | h | h
  · exact hL_ok0 n h.2 h.1
  · exact hL_ok1 n h.2 h.1
  · exact hL_ok2 n h.2 h.1
  · exact hL_ok3 n h.2 h.1
  · exact hL_ok4 n h.2 h.1
  · exact hL_ok5 n h.2 h.1
  · exact hL_ok6 n h.2 h.1
  · exact hL_ok7 n h.2 h.1
  · exact hL_ok8 n h.2 h.1
  · exact hL_ok9 n h.2 h.1
  · exact hL_ok10 n h.2 h.1
  · exact hL_ok11 n h.2 h.1
  · exact hL_ok12 n h.2 h.1
end Fr

set_option Elab.async false
set_option linter.all false
set_option maxRecDepth 100000
set_option maxHeartbeats 4000000
/-! The twelfths: what the program adds up, and that twelve divides it. -/
namespace Fr
theorem wgt_pos (a b c : Int) : 0 < wgt a b c := by
  unfold wgt
  split
  · decide
  · split <;> decide
theorem hN_K {n : Nat} (n1 : 1 ≤ n) (t : List Int) : hN n t = (hK n (syms n) t : Nat) := by
  unfold hN hK
  split
  · next a b c =>
    have w := wgt_pos a b c
    rw [fx_K n1, Int.natCast_ediv, Int.natCast_mul, Int.toNat_of_nonneg (by omega)]
    rfl
  · rfl
theorem sum_cast : ∀ l : List Nat, ((l.map fun k : Nat => (k : Int)).sum) = ((l.sum : Nat) : Int)
  | [] => rfl
  | k :: l => by
    rw [List.map_cons, List.sum_cons, List.sum_cons, sum_cast l, Int.natCast_add]
theorem HN_K {n k : Nat} (n1 : 1 ≤ n) (n2 : n ≤ 48) (hk : k ∈ szs) : HN n (-(k : Int)) = ((hL.getD n []).getD k 0 : Nat) := by
  have k80 : k ≤ 80 := by
    have : ∀ k ∈ szs, k ≤ 80 := by decide
    exact this k hk
  have h := List.all_eq_true.mp (hL_ok n n2 n1) k hk
  have h' := Nat.eq_of_beq_eq_true h
  rw [← h', ← symL_ok n n2 n1]
  unfold HN HK
  rw [fmL_ok k k80 hk, ← sum_cast, List.map_map]
  congr 1
  refine List.map_congr_left fun t _ => hN_K n1 t
/-- at one middle -/
def tF (n m : Nat) (t : Int) : Int := if t * t < 4 * m then HN n (t * t - 4 * m) else 0
def tsP (m : Nat) : List Int := (List.range (4 * m + 1)).map fun i : Nat => -2 * (m : Int) + (i : Int)
def tsL : List Int := (List.range 19).map fun i : Nat => -9 + (i : Int)
def FT (n m : Nat) : Int := ((tsP m).map (tF n m)).sum
theorem ts_same : ∀ m : Nat, m ≤ 20 → 1 ≤ m → (tsP m).filter (fun t => decide (t * t < 4 * (m : Int))) = tsL.filter fun t => decide (t * t < 4 * (m : Int)) := by decide +kernel
theorem sum_flt (f : Int → Int) (p : Int → Bool) (h : ∀ t, p t = false → f t = 0) : ∀ l : List Int, (l.map f).sum = ((l.filter p).map f).sum
  | [] => rfl
  | t :: l => by
    have ih := sum_flt f p h l
    rw [List.map_cons, List.sum_cons, ih]
    cases e : p t with
    | true => rw [List.filter_cons_of_pos e, List.map_cons, List.sum_cons]
    | false => rw [List.filter_cons_of_neg (by rw [e]; decide), h t e, Int.zero_add]
theorem tF_out {n m : Nat} (t : Int) (h : decide (t * t < 4 * (m : Int)) = false) : tF n m t = 0 := if_neg (of_decide_eq_false h)
theorem FT_law {n m : Nat} (m1 : 1 ≤ m) (m2 : m ≤ 20) : (tsL.map (tF n m)).sum = FT n m := by
  unfold FT
  rw [sum_flt (tF n m) (fun t => decide (t * t < 4 * (m : Int))) tF_out tsL, sum_flt (tF n m) (fun t => decide (t * t < 4 * (m : Int))) tF_out (tsP m), ts_same m m2 m1]
/-! ### the divisors' part -/
def cop (g : Nat) : Nat := ((List.range g).filter fun i => Nat.gcd (i + 1) g == 1).length
def edT (n m d c : Nat) : Nat := if (((m / d : Nat) : Int) - (d : Int)) % ((Nat.gcd c (n / c) : Nat) : Int) = 0 then min d (m / d) * cop (Nat.gcd c (n / c)) else 0
def BD (n m : Nat) : Nat := ((divs m).map fun d => ((divs n).map fun c => edT n m d c).sum).sum
def sqB (m : Nat) : Bool := (List.range m).any fun r => (r + 1) * (r + 1) == m
/-! ### twelve divides it -/
def FK (n m : Nat) : Nat := ((tsL.filter fun t => decide (t * t < 4 * (m : Int))).map fun t => (hL.getD n []).getD (4 * (m : Int) - t * t).toNat 0).sum
def twB (n m : Nat) : Bool := !(Nat.gcd m n == 1) || decide ((12 : Int) ∣ (if sqB m = true then (scN n : Int) else 0) - (FK n m : Int) - 6 * (BD n m : Int))
theorem tw_ok : ∀ n, n ≤ 48 → 1 ≤ n → ∀ m, m ≤ 20 → 1 ≤ m → twB n m = true := by decide +kernel
def szIn (m : Nat) (t : Int) : Bool := decide ((4 * (m : Int) - t * t).toNat ∈ szs)
theorem sz_in : ∀ m : Nat, m ≤ 20 → 1 ≤ m → (tsL.filter fun t => decide (t * t < 4 * (m : Int))).all (szIn m) = true := by decide +kernel
theorem FT_K {n m : Nat} (n1 : 1 ≤ n) (n2 : n ≤ 48) (m1 : 1 ≤ m) (m2 : m ≤ 20) : FT n m = (FK n m : Int) := by
  rw [← FT_law m1 m2, sum_flt (tF n m) (fun t => decide (t * t < 4 * (m : Int))) tF_out tsL]
  unfold FK
  rw [← sum_cast, List.map_map]
  congr 1
  refine List.map_congr_left fun t ht => ?_
  have lt : t * t < 4 * (m : Int) := of_decide_eq_true (List.mem_filter.mp ht).2
  have hz := of_decide_eq_true (List.all_eq_true.mp (sz_in m m2 m1) t ht)
  show tF n m t = (((hL.getD n []).getD (4 * (m : Int) - t * t).toNat 0 : Nat) : Int)
  rw [← HN_K n1 n2 hz]
  have e : -(((4 * (m : Int) - t * t).toNat : Nat) : Int) = t * t - 4 * m := by
    rw [Int.toNat_of_nonneg (by omega)]
    omega
  rw [e]
  exact if_pos lt
theorem tw_dvd {n m : Nat} (n1 : 1 ≤ n) (n2 : n ≤ 48) (m1 : 1 ≤ m) (m2 : m ≤ 20) (g : Nat.gcd m n = 1) : (12 : Int) ∣ (if sqB m = true then (scN n : Int) else 0) - FT n m - 6 * (BD n m : Int) := by
  have h := tw_ok n n2 n1 m m2 m1
  unfold twB at h
  rw [g] at h
  rw [FT_K n1 n2 m1 m2]
  have h2 : decide ((12 : Int) ∣ (if sqB m = true then (scN n : Int) else 0) - (FK n m : Int) - 6 * (BD n m : Int)) = true := by simpa using h
  exact of_decide_eq_true h2
end Fr

set_option Elab.async false
set_option linter.all false
set_option maxRecDepth 100000
set_option maxHeartbeats 4000000
/-! list < list, where the first numbers settle it. -/
namespace Fr
open PySem PySem.MeetsSeq PySem.MeetsSeq3 PySem.AutoSeq1 PyProof.Rows
section
variable (p q : Addr) (xs ys : Array Value) (a c : Int) (ta tc : Tok) (e1 e2 : Nat) (d1 d2 : Option Addr) (s1 s2 : Array (Option Value))
end
section
variable {prog : Program} {w : World} {A : Around} {E : Value → Shared → Prop} {s : Shared}
end
end Fr

set_option Elab.async false
set_option linter.all false
set_option maxRecDepth 100000
set_option maxHeartbeats 4000000
/-! sorted(..) of lists that stand in order by their first numbers. -/
namespace Fr
open PySem PySem.Spec L2
open PyProof.Rows hiding St Fr
section
variable {X : Cx}
/-- the i-th thing is a list whose first number is known -/
def HeadAt (h : Heap) (its : List Value) (ts : List (List Int)) : Prop := ∀ (i : Nat) (v : Value) (t : List Int), its[i]? = some v → ts[i]? = some t → ∃ (a : Addr) (xs : Array Value) (k : Tok), v = .ref a ∧ h.IsList a xs ∧ xs[0]? = some (.int (t.headD 0) k)
theorem HeadAt.up {h h' : Heap} {its : List Value} {ts : List (List Int)} (T : HeadAt h its ts) (k : ∀ b o, (∃ xs n, o.data = .seq xs n) → h.get? b = some o → h'.get? b = some o) : HeadAt h' its ts := fun i v t hv ht => by
  obtain ⟨a, xs, c, e, ⟨o, ho, hc, n, hd⟩, hx⟩ := T i v t hv ht
  exact ⟨a, xs, c, e, ⟨o, k a o ⟨xs, n, hd⟩ ho, hc, n, hd⟩, hx⟩
end
end Fr
namespace L3
open PySem PySem.Spec L2
end L3

set_option Elab.async false
set_option linter.all false
/-! a number in a tuple of numbers -/
namespace L3
open PySem PySem.Spec L2
theorem ints_rp {K : PySem.W.Frag} {F : Hp} (i : Int) : ∀ {ks : List Int} {vs : List V}, Rps K F vs (ks.map D.int) → vs.all flatV = true ∧ inV (.int i) vs = ks.any fun k => k == i
  | [], _, .nil => ⟨rfl, rfl⟩
  | k :: ks, _, .cons (.int _) t => by
    obtain ⟨h1, h2⟩ := ints_rp i t
    refine ⟨h1, ?_⟩
    show (eqV (.int k) (.int i) || inV (.int i) _) = _
    rw [h2, List.any_cons]
    rfl
end L3
namespace L3
open PySem PySem.Spec L2
section
variable {X : Cx} {E : XK} {e : Expr} {pos p : Pos}
end
end L3

set_option Elab.async false
set_option linter.all false
set_option maxRecDepth 100000
/-! xs += list; xs.count(e); a name's object held against data; comprehensions within comprehensions. -/
namespace Fr
open PySem PySem.Spec L2
open PyProof.Rows hiding St Fr
section
variable {X : Cx}
def ipL : TIp := fun x y H Q => ∃ l b xs zs, x = .ref l ∧ y = .ref b ∧ H l = some (.lst xs) ∧ H b = some (.lst zs) ∧ xs.length + zs.length ≤ sizeLine ∧ Q (.ref l) (upd H l (.lst (xs ++ zs)))
theorem inplace_list {M : Model} {A : Around} {E : Value → Shared → Prop} {s : Shared} {a b : Value} {Q : Value → Shared → Prop} (ha : s.TypeIs a "list") (hb : s.TypeIs b "list") (hc : wpAny M A (call (Value.builtin "list.__iadd__") [a, b]) Q E s) : wpAny M A (inplaceOp .Add a b) Q E s := by
  have lk : typeLookup (Value.type "list") (dunderI "add") = pure (some (Value.builtin "list.__iadd__")) := F.slot_list_iadd.lookup
  have hfi : fillsInplaceSlot (Value.type "list") "add" true = pure false := by
    show (do let fi ← typeLookup (Value.type "list") (dunderI "add"); pure (fi.isSome && !isSeqSlot fi)) = pure false
    rw [lk]
    rfl
  have hsi : seqSlot? (Value.type "list") (dunderI "add") = pure (some (Value.builtin "list.__iadd__")) := by
    unfold seqSlot?
    rw [lk]
    rfl
  refine wpAny_holding (wpAny_bind (wpAny_typeOf ha (wpAny_bind (wpAny_of_eq hfi ?_))))
  show wpAny M A (if false = true then _ else _) Q E s
  rw [if_neg Bool.false_ne_true]
  refine wpAny_bind (PyProof.Rows.binaryOp1_none ha hb rfl (wpAny_bind (wpAny_of_eq hsi (wpAny_bind (wpAny_rule hc)))))
theorem ip_list : PIp X .Add ipL := by
  intro pins s σ H x y v u Q I rx ry h
  obtain ⟨l, b, xs, zs, rfl, rfl, hH, hB, hz, q⟩ := h
  cases rx
  cases ry
  obtain ⟨z, its, n, r, hl, e⟩ := I.lstM hH
  obtain ⟨z2, its2, n2, r2, hl2, e2⟩ := I.lstM hB
  have hsz : its.toArray.size + its2.toArray.size ≤ sizeLine := by rw [List.size_toArray, List.size_toArray]; omega
  have hlong : ¬ (!its.toArray.isEmpty && Builtin.List.listTooLong (its.toArray.size + its2.toArray.size)) = true := by
    rw [notLongL hsz, Bool.and_false]
    exact Bool.false_ne_true
  refine inplace_list ⟨_, e, rfl⟩ ⟨_, e2, rfl⟩ ?_
  refine call_meets F.slot_list_iadd ⟨_, e, rfl⟩ F.entry_list_iadd (F.args_list_iadd_2 _ _)
    (AutoSeq1.list___iadd___list_list_0 l its.toArray n b its2.toArray n2 hlong (by rw [List.size_toArray]; omega) (by omega)) ⟨e, e2, ?_⟩
  refine ⟨.ref l, _, I.lset (its' := its ++ its2) hH e (by simp) (r.append r2) ?_, rfl, q⟩
  rw [List.length_append]
  omega
end
end Fr
namespace L3
open PySem PySem.Spec L2
open PyProof.Rows hiding St Fr
theorem plains_int : ∀ ks : List Int, plains (ks.map D.int) = true
  | [] => rfl
  | _ :: ks => by
    show (plain (D.int _) && plains (ks.map D.int)) = true
    rw [plains_int ks]
    rfl
section
variable {X : Cx}
end
end L3
namespace L3
open PySem PySem.Spec L2
section
variable {X : Cx} {E : XK} {e a b c o : Expr} {es : List Expr} {pos p : Pos}
/-- name += list -/
theorem s_augL (i : Nat) {x : Str} {t : T3D} {pos' : Pos} (hN : X.N.Nodup) (hi : X.N[i]? = some x) (hx : Loc X.env.scope x) (he : D3 X E e t) (hf : X.fn x = true ∨ X.env.scope.names.lookup x = some .local := by first | exact .inl rfl | exact .inr rfl | assumption) :
    S3 X E (.AugAssign (.Name x pos') .Add e pos) (tXt i t) :=
  ⟨fun F0 H0 B => ps_imp (ps_aug hN hi hx (he.h F0 H0 B) Fr.ip_list hf) fun Dn σ H hh => ex4 hh fun δ F Z En L z w ok => by
    unfold tXt at w
    cases e0 : L3.go δ i with
    | none => rw [e0] at w; exact w.elim
    | some ob =>
      rw [e0] at w
      cases ob with
      | lst xs0 =>
        obtain ⟨a, e1, f1, ⟨vs0, h1, r1⟩, _⟩ := L.go e0
        refine ⟨_, e1, δ, F, Z, _, L, z, w, fun y δ' v F' H' p' L' s r => ?_⟩
        cases e2 : L3.go δ' i with
        | none => rw [e2] at p'; exact p'.elim
        | some ob2 =>
          rw [e2] at p'
          cases ob2 with
          | lst xs =>
            obtain ⟨a', e3, f3, ⟨vs, h3, r3⟩, up⟩ := L'.go e2
            rw [e1] at e3
            cases e3
            cases r with
            | lst hs' rs' =>
              refine ⟨_, _, _, _, rfl, rfl, h3, L'.fh _ _ hs', by rw [r3.len, rs'.len]; exact Nat.le_of_lt (line_big p'.1), ?_⟩
              have es : σ.set i (some (V.ref a)) = σ := by
                refine List.ext_getElem? fun j => ?_
                by_cases q : i = j
                · subst q
                  rw [List.getElem?_set_self (List.getElem?_eq_some_iff.mp e1).1, e1]
                · rw [List.getElem?_set_ne q]
              show Dn.nx (List.set σ i (some (V.ref a))) _
              rw [es]
              exact ok.nx _ _ F' _ p'.2 (up _ _ ⟨_, upd_same, r3.append rs'⟩) s
            | _ => exact p'.elim
          | _ => cases r <;> exact p'.elim
      | _ => exact w.elim⟩
end
end L3
namespace Fr
open PySem PySem.Spec L2
end Fr

set_option Elab.async false
set_option linter.all false
set_option maxRecDepth 100000
/-! A block that makes new lists, looks at them, changes them and forgets them: all that was there stays. -/
namespace L3
open PySem PySem.Spec L2
/-- slots of data alone -/
structure PSl (K : PySem.W.Frag) (H : Hp) (σ : St) (δ : List Sl) : Prop where
  tb : Tb K H
  len : δ.length = σ.length
  sl : ∀ (i : Nat) (s : Sl), δ[i]? = some s → s = .un ∨ ∃ x v, s = .d x ∧ σ[i]? = some (some v) ∧ Rp K H v x
theorem PSl.lk {K : PySem.W.Frag} {H : Hp} {σ : St} {δ : List Sl} (h : PSl K H σ δ) : Lk K H H none σ δ H H := by
  refine ⟨Same.refl _, Same.refl _, fun _ _ e _ => e, fun _ _ => rfl, (fun b e => by cases e), h.len, fun i s e => ?_, fun i j o o' e1 e2 e3 => ?_, fun i j o o' e1 e2 => ?_, h.tb⟩
  · rcases h.sl i s e with rfl | ⟨x, v, rfl, e1, r⟩
    · trivial
    · exact ⟨v, e1, r⟩
  · rcases h.sl i _ e1 with z | ⟨_, _, z, _⟩ <;> cases z
  · rcases h.sl i _ e1 with z | ⟨_, _, z, _⟩ <;> cases z
theorem PSl.same {K : PySem.W.Frag} {H H' : Hp} {σ : St} {δ : List Sl} (h : PSl K H σ δ) (s : Same H H') : PSl K H' σ δ :=
  ⟨h.tb.same s, h.len, fun i t e => (h.sl i t e).imp id fun ⟨x, v, e1, e2, r⟩ => ⟨x, v, e1, e2, r.same s⟩⟩
theorem PSl.set {K : PySem.W.Frag} {H : Hp} {σ : St} {δ : List Sl} {i : Nat} {v : V} {x : D} (h : PSl K H σ δ) (r : Rp K H v x) : PSl K H (σ.set i (some v)) (δ.set i (.d x)) := by
  refine ⟨h.tb, by rw [List.length_set, List.length_set]; exact h.len, fun j s e => ?_⟩
  by_cases q : i = j
  · subst q
    have lt : i < δ.length := by
      have := (List.getElem?_eq_some_iff.mp e).1
      rwa [List.length_set] at this
    rw [List.getElem?_set_self lt] at e
    cases e
    exact .inr ⟨x, v, rfl, List.getElem?_set_self (by rw [← h.len]; exact lt), r⟩
  · rw [List.getElem?_set_ne q] at e
    rw [List.getElem?_set_ne q]
    exact h.sl j s e
section
variable {X : Cx} {E : XK} {e c : Expr} {pos p : Pos}
end
end L3
namespace L3
open PySem PySem.Spec L2
section
variable {X : Cx} {E : XK} {e1 e2 e3 c : Expr} {pos p : Pos}
end
end L3

set_option Elab.async false
set_option linter.all false
set_option maxRecDepth 100000
set_option maxHeartbeats 4000000
/-! max of a list of numbers, list(range(n)), a number not in a list. -/
namespace Fr
open PySem PySem.Spec L2
open PyProof.Rows hiding St Fr
section
variable {X : Cx}
end
end Fr
namespace L3
open PySem PySem.Spec L2
section
variable {X : Cx} {E : XK} {a : Expr} {p p2 pos pos2 : Pos}
end
end L3

set_option Elab.async false
set_option linter.all false
set_option maxRecDepth 100000
set_option maxHeartbeats 4000000
/-! Small forms: none beyond, each once, and how a form is made small. -/
namespace Fr
theorem sq_le {a b : Int} (h : b.natAbs ≤ a.natAbs) : b * b ≤ a * a := by
  have h1 : (b * b).natAbs ≤ (a * a).natAbs := by rw [Int.natAbs_mul, Int.natAbs_mul]; exact Nat.mul_le_mul h h
  have h2 : 0 ≤ a * a := by
    rcases Int.natAbs_eq a with e | e <;> rw [e]
    · exact Int.mul_nonneg (by omega) (by omega)
    · rw [Int.neg_mul_neg]; exact Int.mul_nonneg (by omega) (by omega)
  omega
theorem sq_nn (a : Int) : 0 ≤ a * a := by
  have := sq_le (a := a) (b := 0) (by simp)
  simpa using this
theorem fm1_none {s a b : Int} (a1 : 1 ≤ a) (hb : b.natAbs ≤ a.natAbs) (h : -s < 3 * (a * a)) : fm1 s a b = none := by
  unfold fm1
  by_cases c : (b * b - s) % (4 * a) = 0
  · rw [if_pos c, if_neg]
    rintro ⟨h1, _⟩
    have h2 := Int.mul_le_of_le_ediv (by omega : 0 < 4 * a) h1
    have h3 := sq_le hb
    have h4 : a * (4 * a) = 4 * (a * a) := by grind
    omega
  · rw [if_neg c]
theorem fmR_none {s : Int} {a : Nat} (a1 : 1 ≤ a) (h : -s < 3 * ((a : Int) * a)) {k : Nat} (hk : k ≤ 2 * a + 1) : fmR s a k = [] := by
  unfold fmR
  rw [List.filterMap_eq_nil_iff]
  intro i hi
  have := List.mem_range.mp hi
  exact fm1_none (by omega) (by omega) h
theorem fmA_more {s : Int} {k : Nat} (h : -s < 3 * (((k + 1 : Nat) : Int) * ((k + 1 : Nat) : Int))) : ∀ j, fmA s (k + j) = fmA s k
  | 0 => rfl
  | j + 1 => by
    rw [← Nat.add_assoc, fmA_succ, fmA_more h j, fmR_none (by omega) ?_ (Nat.le_refl _), List.append_nil]
    have : ((k + 1 : Nat) : Int) * ((k + 1 : Nat) : Int) ≤ ((k + j + 1 : Nat) : Int) * ((k + j + 1 : Nat) : Int) := sq_le (by omega)
    omega
theorem fmA_all {s : Int} {a : Nat} (a1 : 1 ≤ a) (a2 : a ≤ 12) (h : -s < 3 * ((a : Int) * a)) : fmA s (a - 1) = fms s := by
  have := fmA_more (s := s) (k := a - 1) (by rw [show a - 1 + 1 = a by omega]; exact h) (12 - (a - 1))
  rw [show a - 1 + (12 - (a - 1)) = 12 by omega] at this
  exact this.symm
/-! ### each once -/
/-! ### a form made small -/
structure Fo (s a b c : Int) : Prop where
  a1 : 1 ≤ a
  d : b * b - 4 * a * c = s
theorem Fo.c1 {s a b c : Int} (h : Fo s a b c) (hs : s < 0) : 1 ≤ c := by
  have h1 := h.d
  have h2 := sq_nn b
  have h3 := h.a1
  rcases Int.lt_or_le 0 c with z | z
  · omega
  · have : a * c ≤ 0 := Int.mul_nonpos_of_nonneg_of_nonpos (by omega) z
    have e : 4 * a * c = 4 * (a * c) := by grind
    omega
def Nm (a b : Int) : Prop := 0 - a < b ∧ b ≤ a
instance (a b : Int) : Decidable (Nm a b) := inferInstanceAs (Decidable (_ ∧ _))
def mu (a : Int) : Nat := if a ≤ 20 then a.toNat else 20 + Nat.log2 a.toNat
end Fr

set_option Elab.async false
set_option linter.all false
set_option maxRecDepth 100000
set_option maxHeartbeats 1000000
namespace Fr
open PySem L2 L3
local macro_rules | `(tactic| walk_at "w") => `(tactic| conv => whnf)
local macro_rules | `(tactic| walk_at "v") => `(tactic| ((conv => whnf); repeat ((refine ⟨_, rfl, ?_⟩); (conv => whnf))))
local macro_rules | `(tactic| walk_at "m") => `(tactic| ((repeat ((conv => whnf); (refine ⟨⟨by assumption, by assumption⟩, ?_⟩))); (conv => whnf)))
def top (i : Nat) : Stmt := PySem.Challenge.pw_fractionroads_k71_told_by_forms.main.body.getD i (.Pass ⟨0, 0, 0, 0⟩)
abbrev sWholeP : Stmt := top 9
abbrev sDivisor : Stmt := top 10
theorem abs_nn (z : Int) : 0 ≤ (if z < 0 then -z else z) := by split <;> omega
/-- is it a whole number -/
def isW : D → Bool
  | .int _ => true
  | _ => false
def spWhole : Sp3 := fun δ Q _ => match δ with
  | [.d x] => (tyN x).isSome = true ∧ Q (.d (.bl (isW x))) none
  | _ => False
def spDivisor : Sp3 := fun δ Q _ => match δ with
  | [.d (.int a), .d (.int b)] => Q (.d (.int (Int.gcd a b))) none
  | _ => False
section
variable {P : Program} {w : World} {K : PySem.W.Frag} {mg : Str → Option Value} {base : Heap} {f : Addr} {fd : FuncData}
theorem scWholeP : FnScope ["thing"] ["thing"] (defScope sWholeP) := ⟨rfl, rfl, rfl, by decide +kernel, rfl, by decide +kernel, by decide +kernel⟩
theorem ok_wholeP (F : Fun K "is_whole" "is_whole" sWholeP f fd) (T : Bt mg) : FnOk P w K mg base (CX1 P w) 1 f fd ["thing"] (lsp K spWhole) := by
  refine ok3 F scWholeP (fun δ Q Z h => ln_d h) fun cdv A outer s H E hr => ?_
  have nd := scWholeP.nd
  refine ⟨_, (b_one (s_ret (D3.toE (d_and (d_isiN 0 rfl T.isinstance rfl T.int PyProof.Rows.boot_int) (d_one (d_not (d_isiN 0 rfl T.isinstance rfl T.bool PyProof.Rows.boot_bool))))))), fun δ Q Z h => ?_⟩
  obtain ⟨x, rfl, h1, q⟩ := iv_d h
  cases x <;> first | exact q | cases h1
theorem scDivisor : FnScope ["one", "other"] ["one", "other"] (defScope sDivisor) := ⟨rfl, rfl, rfl, by decide +kernel, rfl, by decide +kernel, by decide +kernel⟩
theorem ok_divisor (F : Fun K "common_divisor" "common_divisor" sDivisor f fd) (T : Bt mg) : FnOk P w K mg base (CX1 P w) 1 f fd ["one", "other"] (lsp K spDivisor) := by
  refine ok3 F scDivisor (fun δ Q Z h => ln_ii h) fun cdv A outer s H E hr => ?_
  have nd := scDivisor.nd
  refine ⟨_, (b_cons (s_while PassesOwn.leaving (c_cmp op_ne r_ne (dv 1) d_int (nomark _)) (b_one (s_par 0 1 rfl (by exact nd) rfl rfl (by decide) rfl rfl (a_cons (dv 1) (a_cons (d_op op_modN r_modN (dv 0) (dv 1)) a_nil Fr.star_bin) Fr.star_name)))) (b_one (s_ret (D3.toE (d_callB call_abs cr_abs rfl T.abs PyProof.Rows.boot_abs (a_cons (dv 0) a_nil Fr.star_name)))))), fun δ Q Z h => ?_⟩
  obtain ⟨a, b, rfl, q⟩ := iv_ii h
  refine ⟨fun m δ => ∃ x y : Int, δ = [.d (.int x), .d (.int y)] ∧ Int.gcd x y = Int.gcd a b ∧ m = y.natAbs, ⟨_, a, b, rfl, rfl, rfl⟩, ?_⟩
  rintro m δ ⟨x, y, rfl, g, rfl⟩
  walk_at "w"
  refine brn (fun c => ?_) (fun c => ?_)
  · walk_at "w"
    refine ⟨c, _, natAbs_fmod c, y, x.fmod y, rfl, ?_, rfl⟩
    rw [← g]
    exact gcd_fmod' x y
  · subst c
    have e2 : ((Int.gcd a b : Nat) : Int) = if x < 0 then -x else x := by
      rw [← g, Int.gcd_zero_right]
      split <;> omega
    have q' : Q (.d (.int (Int.gcd a b))) none := q
    rw [e2] at q'
    exact q'
end
end Fr

set_option Elab.async false
set_option linter.all false
set_option maxRecDepth 100000
set_option maxHeartbeats 1000000
namespace Fr
open PySem L2 L3
local macro_rules | `(tactic| walk_at "w") => `(tactic| conv => whnf)
local macro_rules | `(tactic| walk_at "v") => `(tactic| ((conv => whnf); repeat ((refine ⟨_, rfl, ?_⟩); (conv => whnf))))
local macro_rules | `(tactic| walk_at "m") => `(tactic| ((repeat ((conv => whnf); (refine ⟨⟨by assumption, by assumption⟩, ?_⟩))); (conv => whnf)))
abbrev sIsLevel : Stmt := top 15
abbrev sLevelNumber : Stmt := top 16
abbrev sSymNum : Stmt := top 18
abbrev sLInit : Stmt := inClass (top 19) 0
abbrev sLNumber : Stmt := inClass (top 19) 1
abbrev sLSymbols : Stmt := inClass (top 19) 3
abbrev sLTells : Stmt := inClass (top 19) 5
abbrev sLNumberOf : Stmt := inClass (top 19) 6
/-! ### data -/
def natD (k : Nat) : D := .int (k : Int)
def prD (p : Nat × Nat) : D := .tup [natD p.1, natD p.2]
def prsD (ps : List (Nat × Nat)) : List D := ps.map prD
def lvl : D → Bool
  | .int i => decide (1 ≤ i) && decide (i ≤ 48)
  | _ => false
def kyN (p : Nat × Nat) : List Key := [Sum.inl (p.1 : Int), Sum.inl (p.2 : Int)]
/-- the dict of the numbers, told by some symbols -/
def NumsT (n : Nat) (ss : List (Nat × Nat)) (kvs : List (List Key × D)) : Prop := ∀ p : Nat × Nat, valD kvs (kyN p) = (numIn n ss p).map natD
def NumsOk (n : Nat) (kvs : List (List Key × D)) : Prop := NumsT n (syms n) kvs
def levF (n : Nat) (kvs : List (List Key × D)) : List (Str × D) := [("modulus", natD n), ("all_symbols", .lst (prsD (syms n))), ("pair_numbers", .dT kvs)]
def IsLev (C : Addr) (n : Nat) (x : D) : Prop := ∃ kvs, x = .obj C (levF n kvs) ∧ NumsOk n kvs ∧ 1 ≤ n ∧ n ≤ 48
structure LevC (K : PySem.W.Frag) (C : Addr) : Prop where
  cl : Cls K C
  n_modulus : NoAttr K C "modulus"
  n_all_symbols : NoAttr K C "all_symbols"
  n_pair_numbers : NoAttr K C "pair_numbers"
theorem valD_put {κ : Type} [DecidableEq κ] (kvs : List (κ × D)) (k j : κ) (x : D) : valD (putT kvs k x) j = if j = k then some x else valD kvs j := by
  have rep : ∀ kvs : List (κ × D), valD (kvs.map (fun kv => if kv.1 = k then (kv.1, x) else kv)) j = if j = k then (valD kvs j).map (fun _ => x) else valD kvs j := by
    intro kvs
    induction kvs with
    | nil => simp [valD]
    | cons p r ih =>
      obtain ⟨a, y⟩ := p
      rw [List.map_cons]
      by_cases h : a = k
      · rw [if_pos (show (a, y).1 = k from h)]
        show (if a = j then some x else valD _ j) = _
        by_cases hj : a = j
        · rw [if_pos hj]
          have : j = k := by rw [← hj, h]
          rw [if_pos this]
          show some x = Option.map _ (if a = j then some y else valD r j)
          rw [if_pos hj]
          rfl
        · rw [if_neg hj, ih]
          show _ = if j = k then Option.map _ (if a = j then some y else valD r j) else (if a = j then some y else valD r j)
          rw [if_neg hj]
      · rw [if_neg (show ¬ (a, y).1 = k from h)]
        show (if a = j then some y else valD _ j) = _
        by_cases hj : a = j
        · rw [if_pos hj]
          have : ¬ j = k := by rw [← hj]; exact h
          rw [if_neg this]
          show some y = (if a = j then some y else valD r j)
          rw [if_pos hj]
        · rw [if_neg hj, ih]
          show _ = if j = k then Option.map _ (if a = j then some y else valD r j) else (if a = j then some y else valD r j)
          rw [if_neg hj]
  have snoc : ∀ kvs : List (κ × D), valD (kvs ++ [(k, x)]) j = match valD kvs j with
      | some y => some y
      | none => if j = k then some x else none := by
    intro kvs
    induction kvs with
    | nil =>
      show (if k = j then some x else none) = if j = k then some x else none
      by_cases h : k = j
      · rw [if_pos h, if_pos h.symm]
      · rw [if_neg h, if_neg (Ne.symm h)]
    | cons p r ih =>
      obtain ⟨a, y⟩ := p
      show (if a = j then some y else valD (r ++ [(k, x)]) j) = match (if a = j then some y else valD r j) with
        | some y => some y
        | none => if j = k then some x else none
      by_cases h : a = j
      · rw [if_pos h, if_pos h]
      · rw [if_neg h, if_neg h, ih]
  unfold putT
  by_cases h : (valD kvs k).isSome = true
  · rw [if_pos h, rep]
    by_cases hj : j = k
    · rw [if_pos hj, if_pos hj, hj]
      obtain ⟨y, e⟩ := Option.isSome_iff_exists.mp h
      rw [e]
      rfl
    · rw [if_neg hj, if_neg hj]
  · rw [if_neg h, snoc]
    by_cases hj : j = k
    · rw [if_pos hj, hj]
      have : valD kvs k = none := by
        cases e : valD kvs k with
        | none => rfl
        | some y => rw [e] at h; exact absurd rfl h
      rw [this]
      simp
    · rw [if_neg hj]
      cases valD kvs j <;> simp [hj]
theorem putT_len {κ : Type} [DecidableEq κ] (kvs : List (κ × D)) (k : κ) (x : D) : (putT kvs k x).length ≤ kvs.length + 1 := by
  unfold putT
  split
  · simp
  · simp
/-- all pairs of an orbit are given a number -/
def putAll (n : Nat) (p : Nat × Nat) (i : D) : List Nat → List (List Key × D) → List (List Key × D)
  | [], kvs => kvs
  | k :: ks, kvs => putAll n p i ks (putT kvs (kyN (act n k p)) i)
theorem kyN_inj {p q : Nat × Nat} (h : kyN p = kyN q) : p = q := by
  unfold kyN at h
  injection h with h1 h2
  injection h2 with h2 _
  injection h1 with h1
  injection h2 with h2
  exact Prod.ext (by omega) (by omega)
theorem putAll_val (n : Nat) (p : Nat × Nat) (i : D) (q : Nat × Nat) : ∀ (ks : List Nat) (kvs : List (List Key × D)), valD (putAll n p i ks kvs) (kyN q) = if (ks.map fun k => act n k p).contains q = true then some i else valD kvs (kyN q)
  | [], kvs => by simp [putAll]
  | k :: ks, kvs => by
    show valD (putAll n p i ks (putT kvs (kyN (act n k p)) i)) (kyN q) = _
    rw [putAll_val n p i q ks, valD_put]
    by_cases h : act n k p = q
    · subst h
      simp
    · have h1 : ¬ kyN q = kyN (act n k p) := fun z => h (kyN_inj z).symm
      rw [if_neg h1, List.map_cons, List.contains_cons]
      have : (q == act n k p) = false := by simpa using fun z => h z.symm
      rw [this, Bool.false_or]
theorem putAll_len (n : Nat) (p : Nat × Nat) (i : D) : ∀ (ks : List Nat) (kvs : List (List Key × D)), (putAll n p i ks kvs).length ≤ kvs.length + ks.length
  | [], kvs => Nat.le_refl _
  | k :: ks, kvs => by
    have h1 := putAll_len n p i ks (putT kvs (kyN (act n k p)) i)
    have h2 := putT_len kvs (kyN (act n k p)) i
    show (putAll n p i ks (putT kvs (kyN (act n k p)) i)).length ≤ kvs.length + (ks.length + 1)
    omega
theorem fac_len (n : Nat) : (fac n).length ≤ n := by
  unfold fac
  exact Nat.le_trans (List.length_filter_le _ _) (by simp)
theorem symT_len (n t : Nat) : (symT n t).length ≤ t := by
  unfold symT
  exact Nat.le_trans (List.length_filter_le _ _) (by simp)
/-- a step of the loop: the pair is new -/
theorem nums_new {n t : Nat} (hn : 1 ≤ n) (h48 : n ≤ 48) (ht : t < n * n) (l : isLeast n (prs n t) = true) {kvs : List (List Key × D)} (h : NumsT n (symT n t) kvs) : NumsT n (symT n (t + 1)) (putAll n (prs n t) (natD (symT n t).length) (fac n) kvs) := by
  intro q
  rw [putAll_val, symT_succ, if_pos l, numIn_snoc (dis_of hn h48 ht l q), h q]
  show (if (orb n (prs n t)).contains q = true then _ else _) = _
  by_cases c : (orb n (prs n t)).contains q = true
  · rw [if_pos c, if_pos c]; rfl
  · rw [if_neg c, if_neg c]
theorem nums_old {n t : Nat} (l : ¬ isLeast n (prs n t) = true) {kvs : List (List Key × D)} (h : NumsT n (symT n t) kvs) : NumsT n (symT n (t + 1)) kvs := by
  rw [symT_succ, if_neg l, List.append_nil]
  exact h
theorem rng_mem {x : D} {lo : Int} {n : Nat} (h : x ∈ rngD lo n) : ∃ k : Int, x = .int k := by
  unfold rngD at h
  obtain ⟨i, _, e⟩ := List.mem_map.mp h
  exact ⟨_, e.symm⟩
def fcF (n : Nat) : D → Option D
  | .int i => if Int.gcd i n = 1 then some (.int i) else none
  | _ => none
theorem facD (n : Nat) : (rngD 1 n).filterMap (fcF n) = (fac n).map natD := by
  unfold rngD fac
  rw [List.filterMap_map, ← List.filterMap_eq_filter, List.map_filterMap, List.filterMap_map]
  congr 1
  funext i
  show (if Int.gcd (1 + (i : Int)) n = 1 then some (D.int (1 + (i : Int))) else none) = _
  have e : Int.gcd (1 + (i : Int)) n = Nat.gcd (i + 1) n := by
    rw [Int.add_comm]
    rfl
  rw [e]
  have e2 : (1 : Int) + (i : Int) = ((i + 1 : Nat) : Int) := by omega
  rw [e2]
  by_cases c : Nat.gcd (i + 1) n = 1
  · simp [c, natD, Option.guard]
  · simp [c, Option.guard]
theorem putAll_snoc (n : Nat) (p : Nat × Nat) (i : D) (k : Nat) : ∀ (ks : List Nat) (kvs : List (List Key × D)), putAll n p i (ks ++ [k]) kvs = putT (putAll n p i ks kvs) (kyN (act n k p)) i
  | [], _ => rfl
  | _ :: ks, kvs => putAll_snoc n p i k ks _
theorem take_snoc {α : Type} {l : List α} {i : Nat} {x : α} (h : l[i]? = some x) : l.take (i + 1) = l.take i ++ [x] := by
  rw [List.take_add_one, h]
  rfl
/-- the state between two turns -/
def LoopI (n t : Nat) (s4 : Sl) (δ : List Sl) : Prop := ∃ s1 kvs s5 s6, δ = [.d (natD n), s1, .own (.lst (prsD (symT n t))), .own (.dT kvs), s4, s5, s6] ∧ (s1 = .own (.lst ((fac n).map natD)) ∨ s1 = .d (.lst ((fac n).map natD))) ∧ NumsT n (symT n t) kvs ∧ kvs.length ≤ t * n
/-! ### promises -/
def spIsLevel : Sp3 := fun δ Q _ => match δ with
  | [.d x] => (tyN x).isSome = true ∧ Q (.d (.bl (lvl x))) none
  | _ => False
def spLevelNumber (gN : Addr) : Sp3 := fun δ Q Z => match δ with
  | [.d x] => (tyN x).isSome = true ∧ (lvl x = true → Q (.d x) none) ∧ (lvl x = false → Z gN none)
  | _ => False
def spSymNum : Sp3 := fun δ Q _ => match δ with
  | [.d (.int i)] => ∃ n : Nat, i = n ∧ 1 ≤ n ∧ n ≤ 48 ∧ ∀ kvs ob, NumsOk n kvs → Q (.d (.tup [.lst (prsD (syms n)), .dT kvs])) ob
  | _ => False
def spLInit (C gN : Addr) : Sp3 := fun δ Q Z => match δ with
  | [.bor (.ins C' []), .d x] => C' = C ∧ (tyN x).isSome = true ∧ (∀ n : Nat, x = natD n → 1 ≤ n → n ≤ 48 → ∀ kvs, NumsOk n kvs → Q (.d .non) (some (.ins C (levF n kvs)))) ∧ (lvl x = false → ∀ ob, Z gN ob)
  | _ => False
def spLNumber (C : Addr) : Sp3 := fun δ Q _ => match δ with
  | [.d x] => ∃ n, IsLev C n x ∧ Q (.d (natD n)) none
  | _ => False
def spLSymbols (C : Addr) : Sp3 := fun δ Q _ => match δ with
  | [.d x] => ∃ n, IsLev C n x ∧ Q (.own (.lst (prsD (syms n)))) none
  | _ => False
/-- rests of two whole numbers -/
def rst (n : Nat) (u v : Int) : Nat × Nat := ((u % n).toNat, (v % n).toNat)
def spLTells (C : Addr) : Sp3 := fun δ Q _ => match δ with
  | [.d x, .d (.int u), .d (.int v)] => ∃ n, IsLev C n x ∧ Q (.d (.bl (numIn n (syms n) (rst n u v)).isSome)) none
  | _ => False
def spLNumberOf (C gS : Addr) : Sp3 := fun δ Q Z => match δ with
  | [.d x, .d (.int u), .d (.int v)] => ∃ n, IsLev C n x ∧ (∀ i, numIn n (syms n) (rst n u v) = some i → Q (.d (natD i)) none) ∧ (numIn n (syms n) (rst n u v) = none → Z gS none)
  | _ => False
section
variable {P : Program} {w : World} {K : PySem.W.Frag} {mg : Str → Option Value} {base : Heap} {f : Addr} {fd : FuncData}
theorem scIsLevel : FnScope ["thing"] ["thing"] (defScope sIsLevel) := ⟨rfl, rfl, rfl, by decide +kernel, rfl, by decide +kernel, by decide +kernel⟩
theorem ok_isLevel (F : Fun K "is_level" "is_level" sIsLevel f fd) (T : Bt mg) {tk : Tok} (mL : mg "LAST_LEVEL" = some (.int 48 tk)) (Ois_whole : Own3 P w K mg base 1 "is_whole" ["thing"] spWhole) : FnOk P w K mg base (CX1 P w) 2 f fd ["thing"] (lsp K spIsLevel) := by
  refine ok3 F scIsLevel (fun δ Q Z h => ln_d h) fun cdv A outer s H E hr => ?_
  have nd := scIsLevel.nd
  refine ⟨_, (b_one (s_ret (D3.toE (d_and (E3.toD (e_call Ois_whole Fr.pass_on hr rfl (a_cons (dv 0) a_nil Fr.star_name))) (d_one (d_chain op_le op_le r_le r_le d_int (dv 0) (d_globI rfl mL))))))), fun δ Q Z h => ?_⟩
  obtain ⟨x, rfl, h1, q⟩ := iv_d h
  cases x with
  | int i =>
    refine ⟨rfl, ?_⟩
    walk_at "w"
    refine brd (fun c => ?_) (fun c => ?_)
    · walk_at "w"
      have e : lvl (.int i) = decide (i ≤ 48) := by show (decide (1 ≤ i) && decide (i ≤ 48)) = _; rw [decide_eq_true c]; rfl
      rw [e] at q
      exact q
    · walk_at "w"
      have e : lvl (.int i) = false := by show (decide (1 ≤ i) && decide (i ≤ 48)) = _; rw [decide_eq_false c]; rfl
      rw [e] at q
      exact q
  | _ => first | exact ⟨rfl, q⟩ | cases h1
theorem scLevelNumber : FnScope ["thing"] ["thing"] (defScope sLevelNumber) := ⟨rfl, rfl, rfl, by decide +kernel, rfl, by decide +kernel, by decide +kernel⟩
theorem ok_levelNumber (F : Fun K "level_number" "level_number" sLevelNumber f fd) (T : Bt mg) {gN : Addr} (m_NoLevel : mg "NoLevel" = some (.ref gN)) (q_NoLevel : PySem.W.excIn K gN bmVE "ValueError.__new__" = true) (Ois_level : Own3 P w K mg base 2 "is_level" ["thing"] spIsLevel) :
    FnOk P w K mg base (CX1 P w) 3 f fd ["thing"] (lsp K (spLevelNumber gN)) := by
  refine ok3 F scLevelNumber (fun δ Q Z h => ln_d h) fun cdv A outer s H E hr => ?_
  have nd := scLevelNumber.nd
  refine ⟨_, (b_cons (s_if (c_not (c_val (E3.toD (e_call Ois_level Fr.pass_on hr rfl (a_cons (dv 0) a_nil Fr.star_name))))) (b_one (s_raise rfl m_NoLevel q_NoLevel (a_cons d_str a_nil Fr.star_const))) b_nil) (b_one (s_ret (e_move 0)))), fun δ Q Z h => ?_⟩
  obtain ⟨x, rfl, h1, q, z⟩ := iv_d h
  refine ⟨h1, ?_⟩
  walk_at "w"
  refine br (fun c => ?_) (fun c => ?_)
  · have c' : lvl x = false := by simpa using c
    exact z c'
  · have c' : lvl x = true := by simpa using c
    exact q c'
theorem scSymNum : FnScope ["n", "factors", "symbols", "numbers", "u", "v", "k"] ["n"] (defScope sSymNum) := ⟨rfl, rfl, rfl, by decide +kernel, rfl, by decide +kernel, by decide +kernel⟩
theorem ok_symNum (F : Fun K "symbols_numbered" "symbols_numbered" sSymNum f fd) (T : Bt mg) (Ocommon_divisor : Own3 P w K mg base 1 "common_divisor" ["one", "other"] spDivisor) : FnOk P w K mg base (CX1 P w) 2 f fd ["n"] (lsp K spSymNum) := by
  refine ok3 F scSymNum (fun δ Q Z h => ln_i h) fun cdv A outer s H E hr => ?_
  have nd := scSymNum.nd
  have hu := units1 hr
  refine ⟨_, (b_cons (s_comp 1 (by exact nd) rfl (Or.inl rfl) rfl (I3.toC (i_range2 rfl T.range (a_cons d_int (a_cons (d_op op_add r_add (dv 0) d_int) a_nil Fr.star_bin) Fr.star_const))) (Fr.frokV (xs := ["k"]) (fr := [("n", 0)]) (sc := defScope sSymNum) (N := ["n", "factors", "symbols", "numbers", "u", "v", "k"]) rfl rfl (by decide +kernel)) (fun _ _ _ _ => (g_name 0 (show List.Nodup [("k" : Str), ("n" : Str)] by decide +kernel) rfl (Or.inl rfl))) (fun _ _ _ _ => p_st1 rfl (D3.toE (dv 0)) (c_cmp op_eq r_eq (E3.toD (e_call Ocommon_divisor Fr.pass1 hr rfl (a_cons (dv 0) (a_cons (dv 1) a_nil Fr.star_name) Fr.star_name))) d_int (nomark _)))) (b_cons (s_set 2 (by exact nd) rfl (Or.inl rfl) (e_lst a_nil)) (b_cons (s_set 3 (by exact nd) rfl (Or.inl rfl) e_dnewT) (b_cons (s_for PassesOwn.leaving rfl (i_range1 rfl T.range (a_cons (dv 0) a_nil Fr.star_name)) (g_name 4 (by exact nd) rfl (Or.inl rfl)) (b_one (s_for PassesOwn.leaving rfl (i_range1 rfl T.range (a_cons (dv 0) a_nil Fr.star_name)) (g_name 5 (by exact nd) rfl (Or.inl rfl)) (b_one (s_if (W3.toC (w_and (c_pc (q_dnotin 3 hu (a_cons (dv 4) (a_cons (dv 5) a_nil Fr.star_name) Fr.star_name)) rfl) (w_and1 (c_cmp op_eq r_eq (E3.toD (e_call Ocommon_divisor Fr.pass_on hr rfl (a_cons (E3.toD (e_call Ocommon_divisor Fr.pass_on hr rfl (a_cons (dv 4) (a_cons (dv 5) a_nil Fr.star_name) Fr.star_name))) (a_cons (dv 0) a_nil Fr.star_name) Fr.star_call))) d_int (nomark _))))) (b_cons (s_for PassesOwn.leaving rfl (i_list (dv 1)) (g_name 6 (by exact nd) rfl (Or.inl rfl)) (b_one (s_dput 3 hu (a_cons (d_op op_mod r_mod (d_op Fr.op_mulW r_mul (dv 6) (dv 4)) (dv 0)) (a_cons (d_op op_mod r_mod (d_op Fr.op_mulW r_mul (dv 6) (dv 5)) (dv 0)) a_nil Fr.star_bin) Fr.star_bin) (d_lenN 2 rfl T.len)))) (b_one (s_append 2 (d_tup (a_cons (dv 4) (a_cons (dv 5) a_nil Fr.star_name) Fr.star_name))))) b_nil))))) (b_one (s_ret (D3.toE (d_tup (a_cons (dv 2) (a_cons (dv 3) a_nil Fr.star_name) Fr.star_name))))))))), fun δ Q Z h => ?_⟩
  obtain ⟨i, rfl, n, e, n1, n2, q⟩ := iv_i h
  subst e
  walk_at "w"
  refine ⟨⟨⟨by decide, by decide⟩, ⟨by omega, by omega⟩⟩, ?_⟩
  walk_at "w"
  have en : ((n : Int) + 1 - 1).toNat = n := by omega
  rw [en]
  refine ⟨by rw [rngD_len]; omega, compL_fmap (l := [.d (.int (n : Int))]) rfl (fcF n) (fun x hx P p => ?_) ?_⟩
  · obtain ⟨k, rfl⟩ := rng_mem hx
    walk_at "w"
    refine brd (fun c => ?_) (fun c => ?_)
    · have c' : Int.gcd k n = 1 := by omega
      have e : fcF n (.int k) = some (.int k) := if_pos c'
      rw [e] at p
      exact p
    · have c' : ¬ Int.gcd k n = 1 := by omega
      have e : fcF n (.int k) = none := if_neg c'
      rw [e] at p
      exact p
  rw [facD]
  walk_at "w"
  refine ⟨⟨by omega, by omega⟩, ?_⟩
  have en2 : ((n : Int)).toNat = n := by omega
  dsimp only
  rw [en2]
  have len48 : n * n * n ≤ 110592 := by
    have h1 : n * n ≤ 48 * 48 := Nat.mul_le_mul n2 n2
    exact Nat.le_trans (Nat.mul_le_mul h1 n2) (by decide)
  have nn : n * n ≤ 2304 := Nat.mul_le_mul n2 n2
  refine forL_range (fun u δ => ∃ s4, LoopI n (u * n) s4 δ) ⟨.un, .own (.lst ((fac n).map natD)), [], .un, .un, (by rw [Nat.zero_mul]; rfl), .inl rfl, (by rw [Nat.zero_mul]; exact fun p => rfl), (by simp)⟩ ?_ ?_
  · rintro u δ N hu' ⟨s4, s1, kvs, s5, s6, rfl, hs1, hk, hl⟩ hN
    rw [Int.zero_add]
    walk_at "w"
    refine ⟨⟨by omega, by omega⟩, ?_⟩
    dsimp only
    rw [en2]
    refine forL_range (fun v δ => LoopI n (u * n + v) (.d (natD u)) δ) ⟨_, kvs, _, _, rfl, hs1, hk, hl⟩ ?_ ?_
    · rintro v δ N2 hv ⟨s1, kvs, s5, s6, rfl, hs1, hk, hl⟩ hN2
      rw [Int.zero_add]
      have ht : u * n + v < n * n := by
        have : (u + 1) * n ≤ n * n := Nat.mul_le_mul_right n hu'
        rw [Nat.add_mul, Nat.one_mul] at this
        omega
      have ep : prs n (u * n + v) = (u, v) := prs_plc (n := n) (p := (u, v)) ⟨hu', hv⟩
      have hnew := new_iff n1 n2 ht
      rw [ep] at hnew
      have hval := hk (u, v)
      have lsym := symT_len n (u * n + v)
      have ltn : (u * n + v) * n ≤ n * n * n := Nat.mul_le_mul_right n (Nat.le_of_lt ht)
      walk_at "w"
      refine br (fun c1 => ?_) (fun c1 => ?_)
      · have c1' : numIn n (symT n (u * n + v)) (u, v) = none := by
          cases e : numIn n (symT n (u * n + v)) (u, v) with
          | none => rfl
          | some j =>
            rw [e] at hval
            have c2 : (!(valD kvs (kyN (u, v))).isSome) = true := c1
            rw [hval] at c2
            cases c2
        walk_at "w"
        refine brd (fun c2 => ?_) (fun c2 => ?_)
        · have g : good n (u, v) = true := by
            have : Nat.gcd (Nat.gcd u v) n = 1 := by
              have z : ((Int.gcd ((Int.gcd (u : Int) (v : Int) : Nat) : Int) (n : Int) : Nat) : Int) = 1 := c2
              have z2 : Int.gcd ((Int.gcd (u : Int) (v : Int) : Nat) : Int) (n : Int) = 1 := by omega
              exact z2
            unfold good
            simpa using this
          have l := hnew.mp ⟨by rw [c1']; rfl, g⟩
          have knew := nums_new n1 n2 ht (by rw [ep]; exact l) hk
          rw [ep] at knew
          have hs1' : ∃ δ0 : List Sl, δ0 = [.d (natD n), .d (.lst ((fac n).map natD)), .own (.lst (prsD (symT n (u * n + v)))), .own (.dT kvs), .d (natD u), .d (natD v), s6] ∧ (∀ Qf : List D → List Sl → Prop, Qf ((fac n).map natD) δ0 → tIL (tN 1) (fun C δ' => Z C (borOf δ')) [.d (natD n), s1, .own (.lst (prsD (symT n (u * n + v)))), .own (.dT kvs), .d (natD u), .d (natD v), s6] Qf) := by
            refine ⟨_, rfl, fun Qf h => ?_⟩
            rcases hs1 with rfl | rfl <;> exact h
          obtain ⟨δ0, e0, hI⟩ := hs1'
          refine hI _ ?_
          subst e0
          refine forL_inv (fun i δ => ∃ s6, δ = [.d (natD n), .d (.lst ((fac n).map natD)), .own (.lst (prsD (symT n (u * n + v)))), .own (.dT (putAll n (u, v) (natD (symT n (u * n + v)).length) ((fac n).take i) kvs)), .d (natD u), .d (natD v), s6]) ⟨_, rfl⟩ ?_ ?_
          · rintro i x δ N3 hx ⟨s6, rfl⟩ hN3
            rw [List.getElem?_map] at hx
            obtain ⟨k, hk1, rfl⟩ := Option.map_eq_some_iff.mp hx
            have lt := (List.getElem?_eq_some_iff.mp hk1).1
            have kf := fac_mem.mp (List.mem_of_getElem? hk1)
            walk_at "w"
            refine ⟨⟨fitN (by omega), fitN (by omega)⟩, ?_⟩
            walk_at "w"
            refine ⟨(by show (0 : Int) < (n : Int); omega), ?_⟩
            walk_at "w"
            refine ⟨⟨fitN (by omega), fitN (by omega)⟩, ?_⟩
            walk_at "w"
            refine ⟨(by show (0 : Int) < (n : Int); omega), ?_⟩
            walk_at "w"
            have fl := fac_len n
            refine ⟨?_, hN3 _ ⟨.d (natD k), ?_⟩⟩
            · have := putAll_len n (u, v) (natD (symT n (u * n + v)).length) ((fac n).take i) kvs
              rw [List.length_take] at this
              omega
            · have et : (fac n).take (i + 1) = (fac n).take i ++ [k] := take_snoc hk1
              rw [et, putAll_snoc]
              have el : (prsD (symT n (u * n + v))).length = (symT n (u * n + v)).length := List.length_map _
              rw [← el]
              rfl
          · rintro δ ⟨s6, rfl⟩
            rw [List.length_map, List.take_length]
            walk_at "w"
            have el : (prsD (symT n (u * n + v))).length = (symT n (u * n + v)).length := List.length_map _
            have es : symT n (u * n + v + 1) = symT n (u * n + v) ++ [(u, v)] := by rw [symT_succ, ep, if_pos l]
            refine ⟨by have := el; omega, hN2 _ ⟨.d (.lst ((fac n).map natD)), putAll n (u, v) (natD (symT n (u * n + v)).length) (fac n) kvs, .d (natD v), s6, ?_, .inr rfl, knew, ?_⟩⟩
            · show _ = [_, _, Sl.own (Ob.lst (prsD (symT n (u * n + v + 1)))), _, _, _, _]
              rw [es]
              unfold prsD
              rw [List.map_append]
              rfl
            · have := putAll_len n (u, v) (natD (symT n (u * n + v)).length) (fac n) kvs
              have := fac_len n
              show _ ≤ (u * n + v + 1) * n
              rw [Nat.add_mul (u * n + v) 1 n]
              omega
        · have l : ¬ isLeast n (u, v) = true := fun z => by
            have g := (hnew.mpr z).2
            unfold good at g
            have g' : Nat.gcd (Nat.gcd u v) n = 1 := by simpa using g
            apply c2
            show ((Int.gcd ((Int.gcd (u : Int) (v : Int) : Nat) : Int) (n : Int) : Nat) : Int) = 1
            have z2 : Int.gcd ((Int.gcd (u : Int) (v : Int) : Nat) : Int) (n : Int) = 1 := g'
            rw [z2]
            rfl
          refine hN2 _ ⟨s1, kvs, .d (natD v), s6, ?_, hs1, nums_old (t := u * n + v) (by rw [ep]; exact l) hk, ?_⟩
          · show _ = [_, _, Sl.own (Ob.lst (prsD (symT n (u * n + v + 1)))), _, _, _, _]
            rw [symT_succ, ep, if_neg l, List.append_nil]
            rfl
          · show _ ≤ (u * n + v + 1) * n
            rw [Nat.add_mul (u * n + v) 1 n]
            omega
      · have l : ¬ isLeast n (u, v) = true := fun z => by
          have g := (hnew.mpr z).1
          have g2 : numIn n (symT n (u * n + v)) (u, v) = none := by simpa using g
          rw [g2] at hval
          have c2 : (!(valD kvs (kyN (u, v))).isSome) = false := c1
          rw [hval] at c2
          cases c2
        refine hN2 _ ⟨s1, kvs, .d (natD v), s6, ?_, hs1, nums_old (t := u * n + v) (by rw [ep]; exact l) hk, ?_⟩
        · show _ = [_, _, Sl.own (Ob.lst (prsD (symT n (u * n + v + 1)))), _, _, _, _]
          rw [symT_succ, ep, if_neg l, List.append_nil]
          rfl
        · show _ ≤ (u * n + v + 1) * n
          rw [Nat.add_mul (u * n + v) 1 n]
          omega
    · rintro δ h
      refine hN _ ⟨.d (natD u), ?_⟩
      rw [Nat.add_mul, Nat.one_mul]
      exact h
  · rintro δ ⟨s4, s1, kvs, s5, s6, rfl, hs1, hk, hl⟩
    exact q kvs _ hk
theorem scLInit : FnScope ["self", "n"] ["self", "n"] (defScope sLInit) := ⟨rfl, rfl, rfl, by decide +kernel, rfl, by decide +kernel, by decide +kernel⟩
theorem lvl_nat {x : D} (h : lvl x = true) : ∃ n : Nat, x = natD n ∧ 1 ≤ n ∧ n ≤ 48 := by
  cases x with
  | int i =>
    have h' : (decide (1 ≤ i) && decide (i ≤ 48)) = true := h
    simp only [Bool.and_eq_true, decide_eq_true_eq] at h'
    refine ⟨i.toNat, ?_, by omega, by omega⟩
    unfold natD
    congr 1
    omega
  | _ => cases h
theorem ok_lInit (F : Fun K "__init__" "Level.__init__" sLInit f fd) (T : Bt mg) {C gN : Addr} (TLevel : LevC K C) (Olevel_number : Own3 P w K mg base 3 "level_number" ["thing"] (spLevelNumber gN)) (Osymbols_numbered : Own3 P w K mg base 3 "symbols_numbered" ["n"] spSymNum) :
    FnOk P w K mg base (CX1 P w) 4 f fd ["self", "n"] (lsp K (spLInit C gN)) := by
  refine ok3 F scLInit (fun δ Q Z h => match δ, h with | [.bor (.ins C' []), .d x], _ => rfl) fun cdv A outer s H E hr => ?_
  have nd := scLInit.nd
  refine ⟨_, (b_cons (s_fld 0 TLevel.cl TLevel.n_modulus (E3.toD (e_call Olevel_number Fr.pass_on hr rfl (a_cons (dv 1) a_nil Fr.star_name)))) (b_one (s_asg (E3.toD (e_call Osymbols_numbered Fr.pass_on hr rfl (a_cons (d_fldN 0 TLevel.cl TLevel.n_modulus) a_nil))) (g_tup (n := 2) rfl (gs_cons (g_fld 0 TLevel.cl TLevel.n_all_symbols) (gs_cons (g_fld 0 TLevel.cl TLevel.n_pair_numbers) gs_nil)))))), fun δ Q Z h => ?_⟩
  match δ, h with
  | [.bor (.ins C' []), .d x], ⟨e, h1, q, z⟩ =>
    subst e
    refine ⟨h1, fun hl => ?_, fun hl => z hl _⟩
    obtain ⟨n, rfl, n1, n2⟩ := lvl_nat hl
    walk_at "w"
    refine ⟨rfl, by decide, rfl, natD n, rfl, n, rfl, n1, n2, fun kvs ob hk => ?_⟩
    walk_at "w"
    refine ⟨rfl, (show 1 < 100 by decide), ?_⟩
    walk_at "w"
    refine ⟨rfl, (show 2 < 100 by decide), ?_⟩
    exact q n rfl n1 n2 kvs hk
theorem scLNumber : FnScope ["self"] ["self"] (defScope sLNumber) := ⟨rfl, rfl, rfl, by decide +kernel, rfl, by decide +kernel, by decide +kernel⟩
theorem ok_lNumber (F : Fun K "number" "Level.number" sLNumber f fd) (T : Bt mg) {C : Addr} (TLevel : LevC K C) : FnOk P w K mg base (CX1 P w) 1 f fd ["self"] (lsp K (spLNumber C)) := by
  refine ok3 F scLNumber (fun δ Q Z h => ln_d h) fun cdv A outer s H E hr => ?_
  have nd := scLNumber.nd
  refine ⟨_, (b_one (s_ret (D3.toE (d_fldN 0 TLevel.cl TLevel.n_modulus)))), fun δ Q Z h => ?_⟩
  obtain ⟨x, rfl, n, hx, q⟩ := iv_d h
  obtain ⟨kvs, rfl, hk, n1, n2⟩ := hx
  exact ⟨rfl, natD n, rfl, q⟩
theorem scLSymbols : FnScope ["self"] ["self"] (defScope sLSymbols) := ⟨rfl, rfl, rfl, by decide +kernel, rfl, by decide +kernel, by decide +kernel⟩
theorem ok_lSymbols (F : Fun K "symbols" "Level.symbols" sLSymbols f fd) (T : Bt mg) {C : Addr} (TLevel : LevC K C) : FnOk P w K mg base (CX1 P w) 1 f fd ["self"] (lsp K (spLSymbols C)) := by
  refine ok3 F scLSymbols (fun δ Q Z h => ln_d h) fun cdv A outer s H E hr => ?_
  have nd := scLSymbols.nd
  refine ⟨_, (b_one (s_ret (e_callTyN call_list_of n_list rfl T.list PyProof.Rows.boot_list (a_cons (d_fldN 0 TLevel.cl TLevel.n_all_symbols) a_nil)))), fun δ Q Z h => ?_⟩
  obtain ⟨x, rfl, n, hx, q⟩ := iv_d h
  obtain ⟨kvs, rfl, hk, n1, n2⟩ := hx
  exact ⟨rfl, .lst (prsD (syms n)), rfl, q⟩
theorem scLTells : FnScope ["self", "u", "v"] ["self", "u", "v"] (defScope sLTells) := ⟨rfl, rfl, rfl, by decide +kernel, rfl, by decide +kernel, by decide +kernel⟩
theorem rst_key {n : Nat} (n1 : 1 ≤ n) (u v : Int) : ([Sum.inl (u % (n : Int)), Sum.inl (v % (n : Int))] : List Key) = kyN (rst n u v) := by
  have h1 := Int.emod_nonneg u (show (n : Int) ≠ 0 by omega)
  have h2 := Int.emod_nonneg v (show (n : Int) ≠ 0 by omega)
  unfold kyN rst
  dsimp only
  rw [Int.toNat_of_nonneg h1, Int.toNat_of_nonneg h2]
theorem ok_lTells (F : Fun K "tells" "Level.tells" sLTells f fd) (T : Bt mg) {C : Addr} (TLevel : LevC K C) : FnOk P w K mg base (CX1 P w) 1 f fd ["self", "u", "v"] (lsp K (spLTells C)) := by
  refine ok3 F scLTells (fun δ Q Z h => ln_dii h) fun cdv A outer s H E hr => ?_
  have nd := scLTells.nd
  have hu := units1 hr
  refine ⟨_, (b_one (s_ret (D3.toE (d_pc (q_dinD hu (a_cons (d_op op_mod r_mod (dv 1) (d_fldN 0 TLevel.cl TLevel.n_modulus)) (a_cons (d_op op_mod r_mod (dv 2) (d_fldN 0 TLevel.cl TLevel.n_modulus)) a_nil Fr.star_bin) Fr.star_bin) (d_fldN 0 TLevel.cl TLevel.n_pair_numbers)) rfl)))), fun δ Q Z h => ?_⟩
  obtain ⟨x, u, v, rfl, n, hx, q⟩ := iv_dii h
  obtain ⟨kvs, rfl, hk, n1, n2⟩ := hx
  refine ⟨rfl, natD n, rfl, (by show (0 : Int) < (n : Int); omega), ?_⟩
  walk_at "w"
  refine ⟨rfl, natD n, rfl, (by show (0 : Int) < (n : Int); omega), ?_⟩
  walk_at "w"
  refine ⟨rfl, .dT kvs, rfl, ?_⟩
  have e := hk (rst n u v)
  rw [← rst_key n1] at e
  show Q (Rv.d (D.bl (valD kvs [Sum.inl (u % (n : Int)), Sum.inl (v % (n : Int))]).isSome)) none
  rw [e, Option.isSome_map]
  exact q
theorem scLNumberOf : FnScope ["self", "u", "v"] ["self", "u", "v"] (defScope sLNumberOf) := ⟨rfl, rfl, rfl, by decide +kernel, rfl, by decide +kernel, by decide +kernel⟩
theorem ok_lNumberOf (F : Fun K "number_of" "Level.number_of" sLNumberOf f fd) (T : Bt mg) {C gS : Addr} (TLevel : LevC K C) (m_NoSymbol : mg "NoSymbol" = some (.ref gS)) (q_NoSymbol : PySem.W.excIn K gS bmVE "ValueError.__new__" = true) (MLevel_tells : MtOk P w K mg base 1 C "tells" ["self", "u", "v"] (spLTells C)) :
    FnOk P w K mg base (CX1 P w) 2 f fd ["self", "u", "v"] (lsp K (spLNumberOf C gS)) := by
  refine ok3 F scLNumberOf (fun δ Q Z h => ln_dii h) fun cdv A outer s H E hr => ?_
  have nd := scLNumberOf.nd
  have hu := units1 hr
  refine ⟨_, (b_cons (s_if (c_not (c_val (E3.toD (e_meth MLevel_tells Fr.pass_on hr (dv 0) (a_cons (dv 1) (a_cons (dv 2) a_nil Fr.star_name) Fr.star_name))))) (b_one (s_raise rfl m_NoSymbol q_NoSymbol (a_cons d_str a_nil Fr.star_const))) b_nil) (b_one (s_ret (D3.toE (d_dgetD hu (d_fldN 0 TLevel.cl TLevel.n_pair_numbers) (a_cons (d_op op_mod r_mod (dv 1) (d_fldN 0 TLevel.cl TLevel.n_modulus)) (a_cons (d_op op_mod r_mod (dv 2) (d_fldN 0 TLevel.cl TLevel.n_modulus)) a_nil Fr.star_bin) Fr.star_bin)))))), fun δ Q Z h => ?_⟩
  obtain ⟨x, u, v, rfl, n, hx, q, z⟩ := iv_dii h
  obtain ⟨kvs, rfl, hk, n1, n2⟩ := id hx
  refine ⟨⟨rfl, rfl⟩, n, hx, ?_⟩
  walk_at "w"
  cases e : numIn n (syms n) (rst n u v) with
  | none =>
    exact z e
  | some i =>
    have ek := hk (rst n u v)
    rw [← rst_key n1, e] at ek
    refine ⟨rfl, .dT kvs, rfl, rfl, natD n, rfl, (by show (0 : Int) < (n : Int); omega), ?_⟩
    walk_at "w"
    refine ⟨rfl, natD n, rfl, (by show (0 : Int) < (n : Int); omega), ?_⟩
    walk_at "w"
    exact ⟨natD i, ek, q i e⟩
end
end Fr

set_option Elab.async false
set_option linter.all false
set_option maxRecDepth 100000
set_option maxHeartbeats 1000000
namespace Fr
open PySem L2 L3
local macro_rules | `(tactic| walk_at "w") => `(tactic| conv => whnf)
local macro_rules | `(tactic| walk_at "v") => `(tactic| ((conv => whnf); repeat ((refine ⟨_, rfl, ?_⟩); (conv => whnf))))
local macro_rules | `(tactic| walk_at "m") => `(tactic| ((repeat ((conv => whnf); (refine ⟨⟨by assumption, by assumption⟩, ?_⟩))); (conv => whnf)))
abbrev sLWhole : Stmt := top 39
abbrev sLCommon : Stmt := top 37
section
variable {P : Program} {w : World} {K : PySem.W.Frag} {mg : Str → Option Value} {base : Heap} {f : Addr} {fd : FuncData}
theorem scLWhole : FnScope ["_law_thing"] ["_law_thing"] (defScope sLWhole) := ⟨rfl, rfl, rfl, by decide +kernel, rfl, by decide +kernel, by decide +kernel⟩
theorem ok_lWhole (F : Fun K "_law_whole" "_law_whole" sLWhole f fd) (T : Bt mg) : FnOk P w K mg base (CX1 P w) 1 f fd ["_law_thing"] (lsp K spWhole) := by
  refine ok3 F scLWhole (fun δ Q Z h => ln_d h) fun cdv A outer s H E hr => ?_
  have nd := scLWhole.nd
  refine ⟨_, (b_one (s_ret (D3.toE (d_and (d_isiN 0 rfl T.isinstance rfl T.int PyProof.Rows.boot_int) (d_one (d_not (d_isiN 0 rfl T.isinstance rfl T.bool PyProof.Rows.boot_bool))))))), fun δ Q Z h => ?_⟩
  obtain ⟨x, rfl, h1, q⟩ := iv_d h
  cases x <;> first | exact q | cases h1
theorem scLCommon : FnScope ["_law_one", "_law_other"] ["_law_one", "_law_other"] (defScope sLCommon) := ⟨rfl, rfl, rfl, by decide +kernel, rfl, by decide +kernel, by decide +kernel⟩
theorem ok_lCommon (F : Fun K "_law_common" "_law_common" sLCommon f fd) (T : Bt mg) : FnOk P w K mg base (CX1 P w) 1 f fd ["_law_one", "_law_other"] (lsp K spDivisor) := by
  refine ok3 F scLCommon (fun δ Q Z h => ln_ii h) fun cdv A outer s H E hr => ?_
  have nd := scLCommon.nd
  refine ⟨_, (b_cons (s_par 0 1 rfl (by exact nd) rfl rfl (by decide) rfl rfl (a_cons (d_callB call_abs cr_abs rfl T.abs PyProof.Rows.boot_abs (a_cons (dv 0) a_nil Fr.star_name)) (a_cons (d_callB call_abs cr_abs rfl T.abs PyProof.Rows.boot_abs (a_cons (dv 1) a_nil Fr.star_name)) a_nil Fr.star_call) Fr.star_call)) (b_cons (s_while PassesOwn.leaving (c_cmp op_gt r_gt (dv 1) d_int (nomark _)) (b_one (s_par 0 1 rfl (by exact nd) rfl rfl (by decide) rfl rfl (a_cons (dv 1) (a_cons (d_op op_mod r_mod (dv 0) (dv 1)) a_nil Fr.star_bin) Fr.star_name)))) (b_one (s_ret (e_move 0))))), fun δ Q Z h => ?_⟩
  obtain ⟨a, b, rfl, q⟩ := iv_ii h
  walk_at "w"
  refine ⟨fun m δ => ∃ x y : Int, δ = [.d (.int x), .d (.int y)] ∧ 0 ≤ x ∧ 0 ≤ y ∧ Int.gcd x y = Int.gcd a b ∧ m = y.natAbs, ⟨_, _, _, rfl, abs_nn a, abs_nn b, gcd_abs a b, rfl⟩, ?_⟩
  rintro m δ ⟨x, y, rfl, x0, y0, g, rfl⟩
  walk_at "w"
  refine brd (fun c => ?_) (fun c => ?_)
  · walk_at "w"
    have h1 := Int.emod_nonneg x (show y ≠ 0 by omega)
    have h2 := Int.emod_lt_of_pos x c
    refine ⟨c, _, (by omega), y, x % y, rfl, y0, h1, ?_, rfl⟩
    rw [← g]
    exact gcd_emod' x y
  · have e : y = 0 := by omega
    subst e
    have e2 : ((Int.gcd a b : Nat) : Int) = x := by
      rw [← g, Int.gcd_zero_right]
      omega
    have q' : Q (.d (.int (Int.gcd a b))) none := q
    rw [e2] at q'
    exact q'
end
end Fr

set_option Elab.async false
set_option linter.all false
set_option maxRecDepth 100000
set_option maxHeartbeats 1000000
namespace Fr
open PySem L2 L3
local macro_rules | `(tactic| walk_at "w") => `(tactic| conv => whnf)
local macro_rules | `(tactic| walk_at "v") => `(tactic| ((conv => whnf); repeat ((refine ⟨_, rfl, ?_⟩); (conv => whnf))))
local macro_rules | `(tactic| walk_at "m") => `(tactic| ((repeat ((conv => whnf); (refine ⟨⟨by assumption, by assumption⟩, ?_⟩))); (conv => whnf)))
def spCell : Sp3 := fun δ Q _ => match δ with
  | [.d (.scr ns), .d (.int k)] => 0 ≤ k ∧ ∀ x : Int, Q (.d (.int x)) none
  | _ => False
def spNumber : Sp3 := fun δ Q _ => match δ with
  | [.d (.scr ns), .d (.int k)] => (0 ≤ k ∧ k < 100) ∧ ∀ x : Int, 0 ≤ x → ∀ ob, Q (.d (.int x)) ob
  | _ => False
theorem fitE' {B : Nat} {x : Int} (h : x.natAbs < 2 ^ B) (hB : B ≤ 65536) : Fit x := Nat.lt_of_lt_of_le h (Nat.pow_le_pow_right (by decide) hB)
theorem fit37 (z : Int) : Fit (z % 10000000000000000000000000000000000000) := by
  refine fitE' (B := 130) ?_ (by decide)
  have : (2 : Nat) ^ 130 = 1361129467683753853853498429727072845824 := by decide
  omega
section
variable {P : Program} {w : World} {K : PySem.W.Frag} {mg : Str → Option Value} {base : Heap} {f : Addr} {fd : FuncData}
abbrev sCell : Stmt := top 35
theorem scCell : FnScope ["_law_script", "_law_k"] ["_law_script", "_law_k"] (defScope sCell) := ⟨rfl, rfl, rfl, by decide +kernel, rfl, by decide +kernel, by decide +kernel⟩
theorem ok_cell (F : Fun K "_law_cell_at" "_law_cell_at" sCell f fd) (T : Bt mg) : FnOk P w K mg base (CX1 P w) 1 f fd ["_law_script", "_law_k"] (lsp K spCell) := by
  refine ok3 F scCell (fun δ Q Z h => ln_si h) fun cdv A outer s H E hr => ?_
  have nd := scCell.nd
  refine ⟨_, (b_cons (s_if (c_cmp op_lt r_lt (dv 1) (d_callB call_len_seq cr_len rfl T.len PySem.boot_len (a_cons (dv 0) a_nil Fr.star_name)) (nomark _)) (b_one (s_ret (D3.toE (d_ix ix_list r_ixS (dv 0) (dv 1) (fun _ _ => rfl))))) b_nil) (b_one (s_ret (D3.toE d_int)))), fun δ Q Z h => ?_⟩
  obtain ⟨ns, k, rfl, k0, q⟩ := iv_si h
  walk_at "w"
  refine brd (fun c => ?_) (fun c => ?_)
  · have hk : k.toNat < ns.length := by omega
    walk_at "w"
    refine ⟨ns[k.toNat], ?_, q _⟩
    have e : k = (k.toNat : Int) := by omega
    conv => lhs; rw [e]
    exact atI_nat (List.getElem?_eq_getElem hk)
  · exact q 0
abbrev sNumber : Stmt := top 36
theorem scNumber : FnScope ["_law_script", "_law_k", "_law_cell", "_law_one"] ["_law_script", "_law_k"] (defScope sNumber) := ⟨rfl, rfl, rfl, by decide +kernel, rfl, by decide +kernel, by decide +kernel⟩
theorem ok_number (F : Fun K "_law_number" "_law_number" sNumber f fd) (T : Bt mg) (O_law_cell_at : Own3 P w K mg base 1 "_law_cell_at" ["_law_script", "_law_k"] spCell) : FnOk P w K mg base (CX1 P w) 2 f fd ["_law_script", "_law_k"] (lsp K spNumber) := by
  refine ok3 F scNumber (fun δ Q Z h => ln_si h) fun cdv A outer s H E hr => ?_
  have nd := scNumber.nd
  refine ⟨_, (b_cons (s_set 2 (by exact nd) rfl (Or.inl rfl) (e_call O_law_cell_at Fr.pass_on hr rfl (a_cons (dv 0) (a_cons (dv 1) a_nil Fr.star_name) Fr.star_name))) (b_cons (s_if (c_cmp op_ge r_ge (dv 2) (d_op op_pow r_pow d_int d_int) (nomark _)) (b_one (s_ret (e_move 2))) b_nil) (b_cons (s_set 3 (by exact nd) rfl (Or.inl rfl) (D3.toE (d_op op_mod r_mod (d_op Fr.op_mulB r_mulC (d_op op_add r_add (dv 2) (d_op Fr.op_mulW r_mul d_int (d_op op_add r_add (d_op op_add r_add (d_op Fr.op_mulW r_mul (dv 1) (dv 1)) (dv 1)) d_int))) d_int) (d_op op_pow r_pow d_int d_int)))) (b_one (s_ret (D3.toE (d_op op_mod r_mod (d_op Fr.op_fdivP r_fdiv (d_op Fr.op_mulW r_mul (dv 3) (dv 3)) (d_op op_pow r_pow d_int d_int)) (d_op op_pow r_pow d_int d_int)))))))), fun δ Q Z h => ?_⟩
  obtain ⟨ns, k, rfl, ⟨k0, k1⟩, q⟩ := iv_si h
  have P18 : (10 : Int) ^ (18 : Int).toNat = 1000000000000000000 := by decide
  have P37 : (10 : Int) ^ (37 : Int).toNat = 10000000000000000000000000000000000000 := by decide
  have P17 : (10 : Int) ^ (17 : Int).toNat = 100000000000000000 := by decide
  have P40 : (10 : Int) ^ (40 : Int).toNat = 10000000000000000000000000000000000000000 := by decide
  walk_at "w"
  refine ⟨k0, fun x => ?_⟩
  walk_at "w"
  refine ⟨⟨by decide, by decide, by decide⟩, ?_⟩
  walk_at "w"
  refine brd (fun c => ?_) (fun c => ?_)
  · have c' : (1000000000000000000 : Int) ≤ x := by rw [← P18]; exact c
    exact q x (by omega) _
  · have kk0 : 0 ≤ k * k := Int.mul_nonneg k0 k0
    have kk1 : k * k ≤ 100 * 100 := Int.mul_le_mul (by omega) (by omega) k0 (by omega)
    walk_at "w"
    refine ⟨⟨fitI (by omega), fitI (by omega)⟩, ?_⟩
    walk_at "w"
    refine ⟨⟨fitI (by decide), fitI (by omega)⟩, ?_⟩
    walk_at "w"
    refine ⟨cmb_r (by decide) (by decide), ?_⟩
    walk_at "w"
    refine ⟨⟨by decide, by decide, by decide⟩, (by rw [P37]; show (0 : Int) < 10000000000000000000000000000000000000; decide), ?_⟩
    rw [P37]
    have fy : Fit ((x + 1442695040888963407 * (k * k + k + 1)) * 6364136223846793005 % 10000000000000000000000000000000000000) := fit37 _
    walk_at "w"
    refine ⟨⟨fy, fy⟩, ?_⟩
    walk_at "w"
    refine ⟨⟨by decide, by decide, by decide⟩, ⟨(by rw [P17]; show (0 : Int) < 100000000000000000; decide), (by rw [P17]; show (100000000000000000 : Int) < 2 ^ 250; decide)⟩, ?_⟩
    walk_at "w"
    refine ⟨⟨by decide, by decide, by decide⟩, (by rw [P40]; show (0 : Int) < 10000000000000000000000000000000000000000; decide), ?_⟩
    refine q _ (Int.emod_nonneg _ ?_) _
    rw [P40]
    decide
end
end Fr

set_option Elab.async false
set_option linter.all false
set_option maxRecDepth 100000
set_option maxHeartbeats 1000000
namespace Fr
open PySem L2 L3
local macro_rules | `(tactic| walk_at "w") => `(tactic| conv => whnf)
local macro_rules | `(tactic| walk_at "v") => `(tactic| ((conv => whnf); repeat ((refine ⟨_, rfl, ?_⟩); (conv => whnf))))
local macro_rules | `(tactic| walk_at "m") => `(tactic| ((repeat ((conv => whnf); (refine ⟨⟨by assumption, by assumption⟩, ?_⟩))); (conv => whnf)))
abbrev sForms : Stmt := top 40
def spForms : Sp3 := fun δ Q _ => match δ with
  | [.d (.int s)] => Sz s ∧ ∀ ob, Q (.own (.lst ((fms s).map tupI))) ob
  | _ => False
theorem fmR_len (s : Int) (a k : Nat) : (fmR s a k).length ≤ k := by
  unfold fmR
  exact Nat.le_trans (List.length_filterMap_le _ _) (by simp)
theorem fmA_len (s : Int) : ∀ k, (fmA s k).length ≤ k * (2 * k + 1)
  | 0 => by simp [fmA]
  | k + 1 => by
    rw [fmA_succ, List.length_append]
    have h1 := fmA_len s k
    have h2 := fmR_len s (k + 1) (2 * (k + 1) + 1)
    have h3 : k * (2 * k + 1) + (2 * (k + 1) + 1) ≤ (k + 1) * (2 * (k + 1) + 1) := by
      have e : (k + 1) * (2 * (k + 1) + 1) = k * (2 * k + 1) + (k * 2) + (2 * (k + 1) + 1) := by grind
      omega
    omega
section
variable {P : Program} {w : World} {K : PySem.W.Frag} {mg : Str → Option Value} {base : Heap} {f : Addr} {fd : FuncData}
theorem scForms : FnScope ["_law_size", "_law_found", "_law_a", "_law_b", "_law_c"] ["_law_size"] (defScope sForms) := ⟨rfl, rfl, rfl, by decide +kernel, rfl, by decide +kernel, by decide +kernel⟩
theorem ok_forms (F : Fun K "_law_forms" "_law_forms" sForms f fd) (T : Bt mg) : FnOk P w K mg base (CX1 P w) 1 f fd ["_law_size"] (lsp K spForms) := by
  refine ok3 F scForms (fun δ Q Z h => ln_i h) fun cdv A outer s H E hr => ?_
  have nd := scForms.nd
  refine ⟨_, (b_cons (s_set 1 (by exact nd) rfl (Or.inl rfl) (e_lst a_nil)) (b_cons (s_for PassesOwn.leaving rfl (i_range2 rfl T.range (a_cons d_int (a_cons d_int a_nil Fr.star_const) Fr.star_const)) (g_name 2 (by exact nd) rfl (Or.inl rfl)) (b_one (s_for PassesOwn.leaving rfl (i_range2 rfl T.range (a_cons (d_op op_sub r_sub d_int (dv 2)) (a_cons (d_op op_add r_add (dv 2) d_int) a_nil Fr.star_bin) Fr.star_bin)) (g_name 3 (by exact nd) rfl (Or.inl rfl)) (b_one (s_if (c_cmp op_eq r_eq (d_op op_mod r_mod (d_op op_sub r_sub (d_op Fr.op_mulW r_mul (dv 3) (dv 3)) (dv 0)) (d_op Fr.op_mulW r_mul d_int (dv 2))) d_int (nomark _)) (b_cons (s_set 4 (by exact nd) rfl (Or.inl rfl) (D3.toE (d_op Fr.op_fdivP r_fdiv (d_op op_sub r_sub (d_op Fr.op_mulW r_mul (dv 3) (dv 3)) (dv 0)) (d_op Fr.op_mulW r_mul d_int (dv 2))))) (b_one (s_if (W3.toC (w_and (c_cmp op_le r_le (dv 2) (dv 4) (nomark _)) (w_and1 (W3.toC (w_or (c_cmp op_ge r_ge (dv 3) d_int (nomark _)) (w_or1 (W3.toC (w_and (c_cmp op_ne r_ne (dv 3) (d_op op_sub r_sub d_int (dv 2)) (nomark _)) (w_and1 (c_cmp op_ne r_ne (dv 2) (dv 4) (nomark _))))))))))) (b_one (s_append 1 (d_tup (a_cons (dv 2) (a_cons (dv 3) (a_cons (dv 4) a_nil Fr.star_name) Fr.star_name) Fr.star_name)))) b_nil))) b_nil))))) (b_one (s_ret (e_callBN Fr.call_sortT n_sortT rfl T.sorted PyProof.Rows.boot_sorted (a_cons (dv 1) a_nil Fr.star_name)))))), fun δ Q Z h => ?_⟩
  obtain ⟨s, rfl, hs, q⟩ := iv_i h
  obtain ⟨z1, z2, z3, z4⟩ := sz_at hs
  obtain ⟨s1, s2, s3⟩ := id hs
  walk_at "w"
  refine ⟨⟨⟨by decide, by decide⟩, ⟨by decide, by decide⟩⟩, ?_⟩
  refine forL_range (lo := 1) (n := 12) (fun u δ => ∃ x2 x3 x4 : Sl, δ = [.d (.int s), .own (.lst ((fmA s u).map tupI)), x2, x3, x4]) ⟨_, _, _, rfl⟩ ?_ ?_
  · rintro u δ N hu ⟨x2, x3, x4, rfl⟩ hN
    have ei : (1 : Int) + (u : Int) = ((u + 1 : Nat) : Int) := by omega
    rw [ei]
    walk_at "w"
    refine ⟨⟨⟨by omega, by omega⟩, ⟨by omega, by omega⟩⟩, ?_⟩
    have en : (((u + 1 : Nat) : Int) + 1 - (0 - ((u + 1 : Nat) : Int))).toNat = 2 * (u + 1) + 1 := by omega
    dsimp only
    rw [en]
    refine forL_range (fun k δ => ∃ x3 x4 : Sl, δ = [.d (.int s), .own (.lst ((fmA s u ++ fmR s (u + 1) k).map tupI)), .d (.int ((u + 1 : Nat) : Int)), x3, x4]) ⟨x3, x4, by simp [fmR]⟩ ?_ ?_
    · rintro k δ N2 hk ⟨x3, x4, rfl⟩ hN2
      have hb : (0 - ((u + 1 : Nat) : Int) + (k : Int)).natAbs ≤ 12 := by omega
      have st := fmR_succ s (u + 1) k
      generalize hbe : 0 - ((u + 1 : Nat) : Int) + (k : Int) = b at hb st
      generalize ha : ((u + 1 : Nat) : Int) = a at *
      have a1 : 1 ≤ a ∧ a ≤ 12 := by omega
      have hN2' : ∀ (x3 x4 : Sl) (X : List (List Int)), fmR s (u + 1) (k + 1) = X → N2 [.d (.int s), .own (.lst ((fmA s u ++ X).map tupI)), .d (.int a), x3, x4] := fun x3 x4 X e => hN2 _ ⟨x3, x4, by rw [e]⟩
      have bb0 : 0 ≤ b * b := by
        rcases Int.natAbs_eq b with e | e <;> rw [e]
        · exact Int.mul_nonneg (by omega) (by omega)
        · rw [Int.neg_mul_neg]; exact Int.mul_nonneg (by omega) (by omega)
      have bb1 : (b * b).natAbs ≤ 144 := by rw [Int.natAbs_mul]; exact Nat.mul_le_mul hb hb
      walk_at "w"
      refine ⟨⟨fitI (by omega), fitI (by omega)⟩, ?_⟩
      walk_at "w"
      refine ⟨⟨fitI (by decide), fitI (by omega)⟩, (by show (0 : Int) < 4 * a; omega), ?_⟩
      walk_at "w"
      refine brd (fun c => ?_) (fun c => ?_)
      · walk_at "w"
        refine ⟨⟨fitI (by omega), fitI (by omega)⟩, ?_⟩
        walk_at "w"
        refine ⟨⟨fitI (by decide), fitI (by omega)⟩, ⟨(by show (0 : Int) < 4 * a; omega), (by show 4 * a < 2 ^ 250; omega)⟩, ?_⟩
        have f1 : fm1 s a b = if a ≤ (b * b - s) / (4 * a) ∧ (0 ≤ b ∨ (¬ b = 0 - a ∧ ¬ a = (b * b - s) / (4 * a))) then some [a, b, (b * b - s) / (4 * a)] else none := if_pos c
        have keep : (¬ (a ≤ (b * b - s) / (4 * a) ∧ (0 ≤ b ∨ (¬ b = 0 - a ∧ ¬ a = (b * b - s) / (4 * a))))) → fmR s (u + 1) (k + 1) = fmR s (u + 1) k := fun z => by
          rw [st, f1, if_neg z]
          simp
        have more : (a ≤ (b * b - s) / (4 * a) ∧ (0 ≤ b ∨ (¬ b = 0 - a ∧ ¬ a = (b * b - s) / (4 * a)))) → fmR s (u + 1) (k + 1) = fmR s (u + 1) k ++ [[a, b, (b * b - s) / (4 * a)]] := fun z => by
          rw [st, f1, if_pos z]
          rfl
        have ln : ((fmA s u ++ fmR s (u + 1) k).map tupI).length ≤ 1000000 := by
          rw [List.length_map, List.length_append]
          have h1 := fmA_len s u
          have h2 := fmR_len s (u + 1) k
          have h3 : u * (2 * u + 1) ≤ 12 * 25 := Nat.mul_le_mul (by omega) (by omega)
          omega
        have add : ∀ x4 : Sl, (a ≤ (b * b - s) / (4 * a) ∧ (0 ≤ b ∨ (¬ b = 0 - a ∧ ¬ a = (b * b - s) / (4 * a)))) → N2 [.d (.int s), .own (.lst ((fmA s u ++ fmR s (u + 1) k).map tupI ++ [.tup [.int a, .int b, .int ((b * b - s) / (4 * a))]])), .d (.int a), .d (.int b), x4] := fun x4 z =>
          by
            have e := hN2' (.d (.int b)) x4 _ (more z)
            rw [← List.append_assoc, List.map_append] at e
            exact e
        walk_at "w"
        refine brd (fun c2 => ?_) (fun c2 => hN2' _ _ _ (keep (fun z => c2 z.1)))
        walk_at "w"
        refine brd (fun c3 => ?_) (fun c3 => ?_)
        · walk_at "w"
          exact ⟨ln, add _ ⟨c2, .inl c3⟩⟩
        · walk_at "w"
          refine brn (fun c4 => ?_) (fun c4 => hN2' _ _ _ (keep (fun z => z.2.elim c3 fun z => z.1 c4)))
          walk_at "w"
          refine brn (fun c5 => ?_) (fun c5 => hN2' _ _ _ (keep (fun z => z.2.elim c3 fun z => z.2 c5)))
          walk_at "w"
          exact ⟨ln, add _ ⟨c2, .inr ⟨c4, c5⟩⟩⟩
      · have e : fmR s (u + 1) (k + 1) = fmR s (u + 1) k := by
          rw [st]
          have : fm1 s a b = none := if_neg c
          rw [this]
          simp
        exact hN2' _ _ _ e
    · rintro δ ⟨x3, x4, rfl⟩
      exact hN _ ⟨_, _, _, by rw [fmA_succ]⟩
  · rintro δ ⟨x2, x3, x4, rfl⟩
    walk_at "w"
    exact ⟨fms s, rfl, ⟨fun t ht e => by rw [e] at ht; exact absurd (z3 _ ht) (by decide), risB_at z1, z2⟩, q _⟩
end
end Fr

set_option Elab.async false
set_option linter.all false
set_option maxRecDepth 100000
set_option maxHeartbeats 1000000
namespace Fr
open PySem L2 L3
local macro_rules | `(tactic| walk_at "w") => `(tactic| conv => whnf)
local macro_rules | `(tactic| walk_at "v") => `(tactic| ((conv => whnf); repeat ((refine ⟨_, rfl, ?_⟩); (conv => whnf))))
local macro_rules | `(tactic| walk_at "m") => `(tactic| ((repeat ((conv => whnf); (refine ⟨⟨by assumption, by assumption⟩, ?_⟩))); (conv => whnf)))
abbrev sLSymNum : Stmt := top 38
def LoopJ (n t : Nat) (s4 : Sl) (δ : List Sl) : Prop := ∃ s1 kvs s5 s6, δ = [.d (natD n), s1, .own (.dT kvs), .own (.lst (prsD (symT n t))), s4, s5, s6] ∧ (s1 = .own (.lst ((fac n).map natD)) ∨ s1 = .d (.lst ((fac n).map natD))) ∧ NumsT n (symT n t) kvs ∧ kvs.length ≤ t * n
section
variable {P : Program} {w : World} {K : PySem.W.Frag} {mg : Str → Option Value} {base : Heap} {f : Addr} {fd : FuncData}
theorem scLSymNum : FnScope ["_law_n", "_law_units", "_law_told", "_law_found", "_law_u", "_law_v", "_law_k"] ["_law_n"] (defScope sLSymNum) := ⟨rfl, rfl, rfl, by decide +kernel, rfl, by decide +kernel, by decide +kernel⟩
theorem ok_lSymNum (F : Fun K "_law_symbols" "_law_symbols" sLSymNum f fd) (T : Bt mg) (O_law_common : Own3 P w K mg base 1 "_law_common" ["_law_one", "_law_other"] spDivisor) : FnOk P w K mg base (CX1 P w) 2 f fd ["_law_n"] (lsp K spSymNum) := by
  refine ok3 F scLSymNum (fun δ Q Z h => ln_i h) fun cdv A outer s H E hr => ?_
  have nd := scLSymNum.nd
  have hu := units1 hr
  refine ⟨_, (b_cons (s_comp 1 (by exact nd) rfl (Or.inl rfl) rfl (I3.toC (i_range2 rfl T.range (a_cons d_int (a_cons (d_op op_add r_add (dv 0) d_int) a_nil Fr.star_bin) Fr.star_const))) (Fr.frokV (xs := ["_law_k"]) (fr := [("_law_n", 0)]) (sc := defScope sLSymNum) (N := ["_law_n", "_law_units", "_law_told", "_law_found", "_law_u", "_law_v", "_law_k"]) rfl rfl (by decide +kernel)) (fun _ _ _ _ => (g_name 0 (show List.Nodup [("_law_k" : Str), ("_law_n" : Str)] by decide +kernel) rfl (Or.inl rfl))) (fun _ _ _ _ => p_st1 rfl (D3.toE (dv 0)) (c_cmp op_eq r_eq (E3.toD (e_call O_law_common Fr.pass1 hr rfl (a_cons (dv 0) (a_cons (dv 1) a_nil Fr.star_name) Fr.star_name))) d_int (nomark _)))) (b_cons (s_set 2 (by exact nd) rfl (Or.inl rfl) e_dnewT) (b_cons (s_set 3 (by exact nd) rfl (Or.inl rfl) (e_lst a_nil)) (b_cons (s_for PassesOwn.leaving rfl (i_range1 rfl T.range (a_cons (dv 0) a_nil Fr.star_name)) (g_name 4 (by exact nd) rfl (Or.inl rfl)) (b_one (s_for PassesOwn.leaving rfl (i_range1 rfl T.range (a_cons (dv 0) a_nil Fr.star_name)) (g_name 5 (by exact nd) rfl (Or.inl rfl)) (b_one (s_if (W3.toC (w_and (c_pc (q_dnotin 2 hu (a_cons (dv 4) (a_cons (dv 5) a_nil Fr.star_name) Fr.star_name)) rfl) (w_and1 (c_cmp op_eq r_eq (E3.toD (e_call O_law_common Fr.pass_on hr rfl (a_cons (E3.toD (e_call O_law_common Fr.pass_on hr rfl (a_cons (dv 4) (a_cons (dv 5) a_nil Fr.star_name) Fr.star_name))) (a_cons (dv 0) a_nil Fr.star_name) Fr.star_call))) d_int (nomark _))))) (b_cons (s_for PassesOwn.leaving rfl (i_list (dv 1)) (g_name 6 (by exact nd) rfl (Or.inl rfl)) (b_one (s_dput 2 hu (a_cons (d_op op_mod r_mod (d_op Fr.op_mulW r_mul (dv 6) (dv 4)) (dv 0)) (a_cons (d_op op_mod r_mod (d_op Fr.op_mulW r_mul (dv 6) (dv 5)) (dv 0)) a_nil Fr.star_bin) Fr.star_bin) (d_lenN 3 rfl T.len)))) (b_one (s_append 3 (d_tup (a_cons (dv 4) (a_cons (dv 5) a_nil Fr.star_name) Fr.star_name))))) b_nil))))) (b_one (s_ret (D3.toE (d_tup (a_cons (dv 3) (a_cons (dv 2) a_nil Fr.star_name) Fr.star_name))))))))), fun δ Q Z h => ?_⟩
  obtain ⟨i, rfl, n, e, n1, n2, q⟩ := iv_i h
  subst e
  walk_at "w"
  refine ⟨⟨⟨by decide, by decide⟩, ⟨by omega, by omega⟩⟩, ?_⟩
  walk_at "w"
  have en : ((n : Int) + 1 - 1).toNat = n := by omega
  rw [en]
  refine ⟨by rw [rngD_len]; omega, compL_fmap (l := [.d (.int (n : Int))]) rfl (fcF n) (fun x hx P p => ?_) ?_⟩
  · obtain ⟨k, rfl⟩ := rng_mem hx
    walk_at "w"
    refine brd (fun c => ?_) (fun c => ?_)
    · have c' : Int.gcd k n = 1 := by omega
      have e : fcF n (.int k) = some (.int k) := if_pos c'
      rw [e] at p
      exact p
    · have c' : ¬ Int.gcd k n = 1 := by omega
      have e : fcF n (.int k) = none := if_neg c'
      rw [e] at p
      exact p
  rw [facD]
  walk_at "w"
  refine ⟨⟨by omega, by omega⟩, ?_⟩
  have en2 : ((n : Int)).toNat = n := by omega
  dsimp only
  rw [en2]
  have len48 : n * n * n ≤ 110592 := by
    have h1 : n * n ≤ 48 * 48 := Nat.mul_le_mul n2 n2
    exact Nat.le_trans (Nat.mul_le_mul h1 n2) (by decide)
  have nn : n * n ≤ 2304 := Nat.mul_le_mul n2 n2
  refine forL_range (fun u δ => ∃ s4, LoopJ n (u * n) s4 δ) ⟨.un, .own (.lst ((fac n).map natD)), [], .un, .un, (by rw [Nat.zero_mul]; rfl), .inl rfl, (by rw [Nat.zero_mul]; exact fun p => rfl), (by simp)⟩ ?_ ?_
  · rintro u δ N hu' ⟨s4, s1, kvs, s5, s6, rfl, hs1, hk, hl⟩ hN
    rw [Int.zero_add]
    walk_at "w"
    refine ⟨⟨by omega, by omega⟩, ?_⟩
    dsimp only
    rw [en2]
    refine forL_range (fun v δ => LoopJ n (u * n + v) (.d (natD u)) δ) ⟨_, kvs, _, _, rfl, hs1, hk, hl⟩ ?_ ?_
    · rintro v δ N2 hv ⟨s1, kvs, s5, s6, rfl, hs1, hk, hl⟩ hN2
      rw [Int.zero_add]
      have ht : u * n + v < n * n := by
        have : (u + 1) * n ≤ n * n := Nat.mul_le_mul_right n hu'
        rw [Nat.add_mul, Nat.one_mul] at this
        omega
      have ep : prs n (u * n + v) = (u, v) := prs_plc (n := n) (p := (u, v)) ⟨hu', hv⟩
      have hnew := new_iff n1 n2 ht
      rw [ep] at hnew
      have hval := hk (u, v)
      have lsym := symT_len n (u * n + v)
      have ltn : (u * n + v) * n ≤ n * n * n := Nat.mul_le_mul_right n (Nat.le_of_lt ht)
      walk_at "w"
      refine br (fun c1 => ?_) (fun c1 => ?_)
      · have c1' : numIn n (symT n (u * n + v)) (u, v) = none := by
          cases e : numIn n (symT n (u * n + v)) (u, v) with
          | none => rfl
          | some j =>
            rw [e] at hval
            have c2 : (!(valD kvs (kyN (u, v))).isSome) = true := c1
            rw [hval] at c2
            cases c2
        walk_at "w"
        refine brd (fun c2 => ?_) (fun c2 => ?_)
        · have g : good n (u, v) = true := by
            have : Nat.gcd (Nat.gcd u v) n = 1 := by
              have z : ((Int.gcd ((Int.gcd (u : Int) (v : Int) : Nat) : Int) (n : Int) : Nat) : Int) = 1 := c2
              have z2 : Int.gcd ((Int.gcd (u : Int) (v : Int) : Nat) : Int) (n : Int) = 1 := by omega
              exact z2
            unfold good
            simpa using this
          have l := hnew.mp ⟨by rw [c1']; rfl, g⟩
          have knew := nums_new n1 n2 ht (by rw [ep]; exact l) hk
          rw [ep] at knew
          have hs1' : ∃ δ0 : List Sl, δ0 = [.d (natD n), .d (.lst ((fac n).map natD)), .own (.dT kvs), .own (.lst (prsD (symT n (u * n + v)))), .d (natD u), .d (natD v), s6] ∧ (∀ Qf : List D → List Sl → Prop, Qf ((fac n).map natD) δ0 → tIL (tN 1) (fun C δ' => Z C (borOf δ')) [.d (natD n), s1, .own (.dT kvs), .own (.lst (prsD (symT n (u * n + v)))), .d (natD u), .d (natD v), s6] Qf) := by
            refine ⟨_, rfl, fun Qf h => ?_⟩
            rcases hs1 with rfl | rfl <;> exact h
          obtain ⟨δ0, e0, hI⟩ := hs1'
          refine hI _ ?_
          subst e0
          refine forL_inv (fun i δ => ∃ s6, δ = [.d (natD n), .d (.lst ((fac n).map natD)), .own (.dT (putAll n (u, v) (natD (symT n (u * n + v)).length) ((fac n).take i) kvs)), .own (.lst (prsD (symT n (u * n + v)))), .d (natD u), .d (natD v), s6]) ⟨_, rfl⟩ ?_ ?_
          · rintro i x δ N3 hx ⟨s6, rfl⟩ hN3
            rw [List.getElem?_map] at hx
            obtain ⟨k, hk1, rfl⟩ := Option.map_eq_some_iff.mp hx
            have lt := (List.getElem?_eq_some_iff.mp hk1).1
            have kf := fac_mem.mp (List.mem_of_getElem? hk1)
            walk_at "w"
            refine ⟨⟨fitN (by omega), fitN (by omega)⟩, ?_⟩
            walk_at "w"
            refine ⟨(by show (0 : Int) < (n : Int); omega), ?_⟩
            walk_at "w"
            refine ⟨⟨fitN (by omega), fitN (by omega)⟩, ?_⟩
            walk_at "w"
            refine ⟨(by show (0 : Int) < (n : Int); omega), ?_⟩
            walk_at "w"
            have fl := fac_len n
            refine ⟨?_, hN3 _ ⟨.d (natD k), ?_⟩⟩
            · have := putAll_len n (u, v) (natD (symT n (u * n + v)).length) ((fac n).take i) kvs
              rw [List.length_take] at this
              omega
            · have et : (fac n).take (i + 1) = (fac n).take i ++ [k] := take_snoc hk1
              rw [et, putAll_snoc]
              have el : (prsD (symT n (u * n + v))).length = (symT n (u * n + v)).length := List.length_map _
              rw [← el]
              rfl
          · rintro δ ⟨s6, rfl⟩
            rw [List.length_map, List.take_length]
            walk_at "w"
            have el : (prsD (symT n (u * n + v))).length = (symT n (u * n + v)).length := List.length_map _
            have es : symT n (u * n + v + 1) = symT n (u * n + v) ++ [(u, v)] := by rw [symT_succ, ep, if_pos l]
            refine ⟨by have := el; omega, hN2 _ ⟨.d (.lst ((fac n).map natD)), putAll n (u, v) (natD (symT n (u * n + v)).length) (fac n) kvs, .d (natD v), s6, ?_, .inr rfl, knew, ?_⟩⟩
            · show _ = [_, _, _, Sl.own (Ob.lst (prsD (symT n (u * n + v + 1)))), _, _, _]
              rw [es]
              unfold prsD
              rw [List.map_append]
              rfl
            · have := putAll_len n (u, v) (natD (symT n (u * n + v)).length) (fac n) kvs
              have := fac_len n
              show _ ≤ (u * n + v + 1) * n
              rw [Nat.add_mul (u * n + v) 1 n]
              omega
        · have l : ¬ isLeast n (u, v) = true := fun z => by
            have g := (hnew.mpr z).2
            unfold good at g
            have g' : Nat.gcd (Nat.gcd u v) n = 1 := by simpa using g
            apply c2
            show ((Int.gcd ((Int.gcd (u : Int) (v : Int) : Nat) : Int) (n : Int) : Nat) : Int) = 1
            have z2 : Int.gcd ((Int.gcd (u : Int) (v : Int) : Nat) : Int) (n : Int) = 1 := g'
            rw [z2]
            rfl
          refine hN2 _ ⟨s1, kvs, .d (natD v), s6, ?_, hs1, nums_old (t := u * n + v) (by rw [ep]; exact l) hk, ?_⟩
          · show _ = [_, _, _, Sl.own (Ob.lst (prsD (symT n (u * n + v + 1)))), _, _, _]
            rw [symT_succ, ep, if_neg l, List.append_nil]
            rfl
          · show _ ≤ (u * n + v + 1) * n
            rw [Nat.add_mul (u * n + v) 1 n]
            omega
      · have l : ¬ isLeast n (u, v) = true := fun z => by
          have g := (hnew.mpr z).1
          have g2 : numIn n (symT n (u * n + v)) (u, v) = none := by simpa using g
          rw [g2] at hval
          have c2 : (!(valD kvs (kyN (u, v))).isSome) = false := c1
          rw [hval] at c2
          cases c2
        refine hN2 _ ⟨s1, kvs, .d (natD v), s6, ?_, hs1, nums_old (t := u * n + v) (by rw [ep]; exact l) hk, ?_⟩
        · show _ = [_, _, _, Sl.own (Ob.lst (prsD (symT n (u * n + v + 1)))), _, _, _]
          rw [symT_succ, ep, if_neg l, List.append_nil]
          rfl
        · show _ ≤ (u * n + v + 1) * n
          rw [Nat.add_mul (u * n + v) 1 n]
          omega
    · rintro δ h
      refine hN _ ⟨.d (natD u), ?_⟩
      rw [Nat.add_mul, Nat.one_mul]
      exact h
  · rintro δ ⟨s4, s1, kvs, s5, s6, rfl, hs1, hk, hl⟩
    exact q kvs _ hk
end
end Fr

set_option Elab.async false
set_option linter.all false
set_option maxRecDepth 100000
set_option maxHeartbeats 1000000
namespace Fr
open PySem L2 L3
local macro_rules | `(tactic| walk_at "w") => `(tactic| conv => whnf)
local macro_rules | `(tactic| walk_at "v") => `(tactic| ((conv => whnf); repeat ((refine ⟨_, rfl, ?_⟩); (conv => whnf))))
local macro_rules | `(tactic| walk_at "m") => `(tactic| ((repeat ((conv => whnf); (refine ⟨⟨by assumption, by assumption⟩, ?_⟩))); (conv => whnf)))
abbrev sDivisors : Stmt := top 11
abbrev sPrimesIn : Stmt := top 12
abbrev sSymCount : Stmt := top 17
theorem rng_mem2 {x : D} {lo : Int} {n : Nat} (h : x ∈ rngD lo n) : ∃ i : Nat, i < n ∧ x = .int (lo + (i : Int)) := by
  unfold rngD at h
  obtain ⟨i, hi, e⟩ := List.mem_map.mp h
  exact ⟨i, List.mem_range.mp hi, e.symm⟩
def dvF (n : Nat) : D → Option D
  | .int i => if (n : Int) % i = 0 then some (.int i) else none
  | _ => none
theorem divD (n : Nat) : (rngD 1 n).filterMap (dvF n) = (divs n).map natD := by
  unfold rngD divs
  rw [List.filterMap_map, ← List.filterMap_eq_filter, List.map_filterMap, List.filterMap_map]
  congr 1
  funext i
  show (if (n : Int) % (1 + (i : Int)) = 0 then some (D.int (1 + (i : Int))) else none) = _
  have e2 : (1 : Int) + (i : Int) = ((i + 1 : Nat) : Int) := by omega
  rw [e2, ← Int.natCast_emod]
  by_cases c : n % (i + 1) = 0
  · simp [c, natD, Option.guard]
  · have c2 : ¬ ((n % (i + 1) : Nat) : Int) = 0 := by omega
    rw [if_neg c2]
    simp [c, Option.guard]
theorem divs_mem {n k : Nat} (h : k ∈ divs n) : 1 ≤ k ∧ k ≤ n := by
  unfold divs at h
  obtain ⟨h1, _⟩ := List.mem_filter.mp h
  obtain ⟨i, hi, rfl⟩ := List.mem_map.mp h1
  have := List.mem_range.mp hi
  omega
theorem divs_len (n : Nat) : (divs n).length ≤ n := by
  unfold divs
  exact Nat.le_trans (List.length_filter_le _ _) (by simp)
def prF : D → Option D
  | .int i => if (divs i.toNat).length = 2 then some (.int i) else none
  | _ => none
theorem prmD (n : Nat) : ((divs n).map natD).filterMap prF = (prms n).map natD := by
  unfold prms
  rw [List.filterMap_map, ← List.filterMap_eq_filter, List.map_filterMap]
  congr 1
  funext i
  show (if (divs ((i : Int)).toNat).length = 2 then some (D.int (i : Int)) else none) = _
  rw [Int.toNat_natCast]
  by_cases c : (divs i).length = 2
  · simp [c, natD, Option.guard]
  · simp [c, Option.guard]
theorem prms_mem {n k : Nat} (h : k ∈ prms n) : 1 ≤ k ∧ k ≤ n := divs_mem (List.mem_filter.mp h).1
def spDivs : Sp3 := fun δ Q _ => match δ with
  | [.d (.int i)] => ∃ n : Nat, i = n ∧ n ≤ 48 ∧ Q (.own (.lst ((divs n).map natD))) none
  | _ => False
def spPrimes : Sp3 := fun δ Q _ => match δ with
  | [.d (.int i)] => ∃ n : Nat, i = n ∧ n ≤ 48 ∧ Q (.own (.lst ((prms n).map natD))) none
  | _ => False
def spSymCount (gN : Addr) : Sp3 := fun δ Q Z => match δ with
  | [.d x] => (tyN x).isSome = true ∧ (∀ n : Nat, x = natD n → 1 ≤ n → n ≤ 48 → ∀ ob, Q (.d (natD (scN n))) ob) ∧ (lvl x = false → Z gN none)
  | _ => False
section
variable {P : Program} {w : World} {K : PySem.W.Frag} {mg : Str → Option Value} {base : Heap} {f : Addr} {fd : FuncData}
theorem scDivisors : FnScope ["number"] ["number"] (defScope sDivisors) := ⟨rfl, rfl, rfl, by decide +kernel, rfl, by decide +kernel, by decide +kernel⟩
theorem ok_divisors (F : Fun K "divisors" "divisors" sDivisors f fd) (T : Bt mg) : FnOk P w K mg base (CX1 P w) 1 f fd ["number"] (lsp K spDivs) := by
  refine ok3 F scDivisors (fun δ Q Z h => ln_i h) fun cdv A outer s H E hr => ?_
  have nd := scDivisors.nd
  have hu := units1 hr
  refine ⟨_, (b_one (s_ret (e_comp rfl (I3.toC (i_range2 rfl T.range (a_cons d_int (a_cons (d_op op_add r_add (dv 0) d_int) a_nil Fr.star_bin) Fr.star_const))) (Fr.frokV (xs := ["each"]) (fr := [("number", 0)]) (sc := defScope sDivisors) (N := ["number"]) rfl rfl (by decide +kernel)) (fun _ _ _ _ => (g_name 0 (show List.Nodup [("each" : Str), ("number" : Str)] by decide +kernel) rfl (Or.inl rfl))) (fun _ _ _ _ => p_st1 rfl (D3.toE (dv 0)) (c_cmp op_eq r_eq (d_op op_mod r_mod (dv 1) (dv 0)) d_int (nomark _)))))), fun δ Q Z h => ?_⟩
  obtain ⟨i, rfl, n, e, n2, q⟩ := iv_i h
  subst e
  walk_at "w"
  refine ⟨⟨⟨by decide, by decide⟩, ⟨by omega, by omega⟩⟩, ?_⟩
  walk_at "w"
  have en : ((n : Int) + 1 - 1).toNat = n := by omega
  rw [en]
  refine ⟨by rw [rngD_len]; omega, compL_fmap (l := [.d (.int (n : Int))]) rfl (dvF n) (fun x hx P p => ?_) ?_⟩
  · obtain ⟨k, hk, rfl⟩ := rng_mem2 hx
    walk_at "w"
    refine ⟨(by show (0 : Int) < 1 + (k : Int); omega), ?_⟩
    walk_at "w"
    refine brd (fun c => ?_) (fun c => ?_)
    · have e : dvF n (.int (1 + (k : Int))) = some (.int (1 + (k : Int))) := if_pos c
      rw [e] at p
      exact p
    · have e : dvF n (.int (1 + (k : Int))) = none := if_neg c
      rw [e] at p
      exact p
  rw [divD]
  exact q
theorem scPrimesIn : FnScope ["number"] ["number"] (defScope sPrimesIn) := ⟨rfl, rfl, rfl, by decide +kernel, rfl, by decide +kernel, by decide +kernel⟩
theorem ok_primesIn (F : Fun K "primes_in" "primes_in" sPrimesIn f fd) (T : Bt mg) (Odivisors : Own3 P w K mg base 1 "divisors" ["number"] spDivs) : FnOk P w K mg base (CX1 P w) 2 f fd ["number"] (lsp K spPrimes) := by
  refine ok3 F scPrimesIn (fun δ Q Z h => ln_i h) fun cdv A outer s H E hr => ?_
  have nd := scPrimesIn.nd
  have hu := units1 hr
  refine ⟨_, (b_one (s_ret (e_comp rfl (I3.toC (i_list (E3.toD (e_call Odivisors Fr.pass_on hr rfl (a_cons (dv 0) a_nil Fr.star_name))))) (Fr.frokV (xs := ["each"]) (fr := []) (sc := defScope sPrimesIn) (N := ["number"]) rfl rfl (by decide +kernel)) (fun _ _ _ _ => (g_name 0 (show List.Nodup [("each" : Str)] by decide +kernel) rfl (Or.inl rfl))) (fun _ _ _ _ => p_st1 rfl (D3.toE (dv 0)) (c_cmp op_eq r_eq (d_callB call_len_seq cr_len rfl T.len PySem.boot_len (a_cons (E3.toD (e_call Odivisors Fr.pass1 hr rfl (a_cons (dv 0) a_nil Fr.star_name))) a_nil Fr.star_call)) d_int (nomark _)))))), fun δ Q Z h => ?_⟩
  obtain ⟨i, rfl, n, e, n2, q⟩ := iv_i h
  subst e
  walk_at "w"
  have dl := divs_len n
  refine ⟨n, rfl, n2, ?_⟩
  walk_at "w"
  refine ⟨by rw [List.length_map]; omega, compL_fmap (l := []) rfl prF (fun x hx P p => ?_) ?_⟩
  · obtain ⟨k, hk, rfl⟩ := List.mem_map.mp hx
    have kb := divs_mem hk
    walk_at "w"
    refine ⟨k, rfl, by omega, ?_⟩
    walk_at "w"
    have el : ((divs k).map natD).length = (divs k).length := List.length_map _
    refine brd (fun c => ?_) (fun c => ?_)
    · have c' : (divs ((k : Int)).toNat).length = 2 := by rw [Int.toNat_natCast]; omega
      have e : prF (natD k) = some (natD k) := if_pos c'
      rw [e] at p
      exact p
    · have c' : ¬ (divs ((k : Int)).toNat).length = 2 := by rw [Int.toNat_natCast]; omega
      have e : prF (natD k) = none := if_neg c'
      rw [e] at p
      exact p
  rw [prmD]
  exact q
theorem scSymCount : FnScope ["n", "many", "prime"] ["n"] (defScope sSymCount) := ⟨rfl, rfl, rfl, by decide +kernel, rfl, by decide +kernel, by decide +kernel⟩
theorem ok_symCount (F : Fun K "symbols_counted" "symbols_counted" sSymCount f fd) (T : Bt mg) {gN : Addr} (Olevel_number : Own3 P w K mg base 3 "level_number" ["thing"] (spLevelNumber gN)) (Oprimes_in : Own3 P w K mg base 3 "primes_in" ["number"] spPrimes) : FnOk P w K mg base (CX1 P w) 4 f fd ["n"] (lsp K (spSymCount gN)) := by
  refine ok3 F scSymCount (fun δ Q Z h => ln_d h) fun cdv A outer s H E hr => ?_
  have nd := scSymCount.nd
  have hu := units1 hr
  refine ⟨_, (b_cons (s_set 1 (by exact nd) rfl (Or.inl rfl) (e_call Olevel_number Fr.pass_on hr rfl (a_cons (dv 0) a_nil Fr.star_name))) (b_cons (s_for PassesOwn.leaving rfl (i_list (E3.toD (e_call Oprimes_in Fr.pass_on hr rfl (a_cons (dv 0) a_nil Fr.star_name)))) (g_name 2 (by exact nd) rfl (Or.inl rfl)) (b_one (s_aug 1 ip_add (by exact nd) rfl (Or.inl rfl) (d_op Fr.op_fdivP r_fdiv (dv 1) (dv 2))))) (b_one (s_ret (e_move 1))))), fun δ Q Z h => ?_⟩
  obtain ⟨x, rfl, h1, q, z⟩ := iv_d h
  refine ⟨h1, fun hl => ?_, fun hl => z hl⟩
  obtain ⟨n, rfl, n1, n2⟩ := lvl_nat hl
  have q := q n rfl n1 n2
  walk_at "w"
  refine ⟨n, rfl, n2, ?_⟩
  walk_at "w"
  refine forL_inv (fun i δ => ∃ s2, δ = [.d (natD n), .d (natD (((prms n).take i).foldl (fun m p => m + m / p) n)), s2]) ⟨_, rfl⟩ ?_ ?_
  · rintro i x δ N hx ⟨s2, rfl⟩ hN
    rw [List.getElem?_map] at hx
    obtain ⟨p, hp, rfl⟩ := Option.map_eq_some_iff.mp hx
    have pb := prms_mem (List.mem_of_getElem? hp)
    walk_at "w"
    refine ⟨⟨(by show (0 : Int) < (p : Int); omega), (by show (p : Int) < 2 ^ 250; omega)⟩, hN _ ⟨.d (natD p), ?_⟩⟩
    rw [take_snoc hp, List.foldl_append]
    show [_, Sl.d (D.int (_ + _)), _] = [_, Sl.d (D.int ((_ + _ : Nat) : Int)), _]
    rw [Int.natCast_add, Int.natCast_ediv]
  · rintro δ ⟨s2, rfl⟩
    rw [List.length_map, List.take_length]
    exact q _
end
end Fr

set_option Elab.async false
set_option linter.all false
set_option maxRecDepth 100000
set_option maxHeartbeats 1000000
namespace Fr
open PySem L2 L3
local macro_rules | `(tactic| walk_at "w") => `(tactic| conv => whnf)
local macro_rules | `(tactic| walk_at "v") => `(tactic| ((conv => whnf); repeat ((refine ⟨_, rfl, ?_⟩); (conv => whnf))))
local macro_rules | `(tactic| walk_at "m") => `(tactic| ((repeat ((conv => whnf); (refine ⟨⟨by assumption, by assumption⟩, ?_⟩))); (conv => whnf)))
abbrev sWeight : Stmt := top 28
abbrev sShare : Stmt := top 41
def spWeight : Sp3 := fun δ Q _ => match δ with
  | [.d y] => ∃ a b c : Int, y = tupI [a, b, c] ∧ ∀ ob, Q (.d (.tup [.int 1, .int (wgt a b c)])) ob
  | _ => False
def spShare : Sp3 := fun δ Q _ => match δ with
  | [.d y] => ∃ a b c : Int, y = tupI [a, b, c] ∧ (a.natAbs ≤ 12 ∧ b.natAbs ≤ 12 ∧ c.natAbs ≤ 400) ∧ 0 < shr a b c ∧ ∀ ob, Q (.d (.int (24 / (shr a b c : Int)))) ob
  | _ => False
/-! ### sums over the signs -/
def hit (a b c x y z w : Int) : Nat := if x * w - y * z = 1 then (if lvs a b c (x, y, z, w) = true then 1 else 0) else 0
def f3 (a b c x y z : Int) (l : List Int) : Nat := (l.map (hit a b c x y z)).sum
def f2 (a b c x y : Int) (l : List Int) : Nat := (l.map fun z => f3 a b c x y z sg).sum
def f1 (a b c x : Int) (l : List Int) : Nat := (l.map fun y => f2 a b c x y sg).sum
def f0 (a b c : Int) (l : List Int) : Nat := (l.map fun x => f1 a b c x sg).sum
theorem sum_flat {α β : Type} (g : β → Nat) (h : α → List β) : ∀ l : List α, ((l.flatMap h).map g).sum = (l.map fun x => ((h x).map g).sum).sum
  | [] => rfl
  | a :: l => by
    rw [List.flatMap_cons, List.map_append, List.sum_append, sum_flat g h l]
    rfl
theorem count_sum {α : Type} (p : α → Bool) : ∀ l : List α, l.countP p = (l.map fun x => if p x = true then 1 else 0).sum
  | [] => rfl
  | a :: l => by
    rw [List.countP_cons, count_sum p l, List.map_cons, List.sum_cons, Nat.add_comm]
theorem shr_sum (a b c : Int) : shr a b c = f0 a b c sg := by
  have W : ∀ x y z w : Int, (if (lvs a b c (x, y, z, w) && decide (x * w - y * z = 1)) = true then 1 else 0) = hit a b c x y z w := by
    intro x y z w
    unfold hit
    by_cases h : x * w - y * z = 1
    · rw [if_pos h, decide_eq_true h, Bool.and_true]
    · rw [if_neg h, decide_eq_false h, Bool.and_false, if_neg Bool.false_ne_true]
  have e : shr a b c = (quads.map fun q => if (lvs a b c q && decide (q.1 * q.2.2.2 - q.2.1 * q.2.2.1 = 1)) = true then 1 else 0).sum := by
    unfold shr dets
    rw [List.countP_filter, count_sum]
  rw [e]
  have A : ∀ x y z : Int, ((sg.map fun w => (x, y, z, w)).map fun q : Int × Int × Int × Int => if (lvs a b c q && decide (q.1 * q.2.2.2 - q.2.1 * q.2.2.1 = 1)) = true then 1 else 0).sum = f3 a b c x y z sg := by
    intro x y z
    rw [List.map_map]
    exact congrArg List.sum (List.map_congr_left fun w _ => W x y z w)
  have B : ∀ x y : Int, ((sg.flatMap fun z => sg.map fun w => (x, y, z, w)).map fun q : Int × Int × Int × Int => if (lvs a b c q && decide (q.1 * q.2.2.2 - q.2.1 * q.2.2.1 = 1)) = true then 1 else 0).sum = f2 a b c x y sg := by
    intro x y
    rw [sum_flat]
    exact congrArg List.sum (List.map_congr_left fun z _ => A x y z)
  have C : ∀ x : Int, ((sg.flatMap fun y => sg.flatMap fun z => sg.map fun w => (x, y, z, w)).map fun q : Int × Int × Int × Int => if (lvs a b c q && decide (q.1 * q.2.2.2 - q.2.1 * q.2.2.1 = 1)) = true then 1 else 0).sum = f1 a b c x sg := by
    intro x
    rw [sum_flat]
    exact congrArg List.sum (List.map_congr_left fun y _ => B x y)
  unfold quads
  rw [sum_flat]
  exact congrArg List.sum (List.map_congr_left fun x _ => C x)
theorem shr_le (a b c : Int) : shr a b c ≤ 81 := Nat.le_trans List.countP_le_length (by decide +kernel)
theorem take_at (f : Int → Nat) {i : Nat} {x : Int} (h : sg[i]? = some x) : ((sg.take (i + 1)).map f).sum = ((sg.take i).map f).sum + f x := by
  rw [List.take_succ, h, List.map_append, List.sum_append]
  simp
theorem sg_at {i : Nat} {x : D} (h : ([D.int (-1), D.int 0, D.int 1] : List D)[i]? = some x) : ∃ z : Int, x = .int z ∧ sg[i]? = some z ∧ z.natAbs ≤ 1 := by
  match i, h with
  | 0, h => simp at h; exact ⟨-1, h.symm, rfl, by decide⟩
  | 1, h => simp at h; exact ⟨0, h.symm, rfl, by decide⟩
  | 2, h => simp at h; exact ⟨1, h.symm, rfl, by decide⟩
theorem canEq_tri (a b c : Int) : CanEq (.tup [.int a, .int b, .int c]) := by
  refine canEq_tup (f := 0) (fun x hx => ?_) (by decide)
  simp only [List.mem_cons, List.not_mem_nil, or_false] at hx
  rcases hx with rfl | rfl | rfl <;> exact lay_int _
theorem fr_sg {g : T3G} {tb : T3S} {Z : Zk} {En : En} {δ : List Sl} (h : forL g tb Z En [D.int (-1), D.int 0, D.int 1] δ) : tFr (tIT (tTu (tAc (tU (i1 fun i => D.int (-i)) (tK (D.int 1))) (tAc (tK (D.int 0)) (tAc (tK (D.int 1)) tA0))))) g tb Z En δ := h
theorem mulA {a b : Int} {A B : Nat} (ha : a.natAbs ≤ A) (hb : b.natAbs ≤ B) : (a * b).natAbs ≤ A * B := by
  rw [Int.natAbs_mul]
  exact Nat.mul_le_mul ha hb
theorem addA {a b : Int} {A B : Nat} (ha : a.natAbs ≤ A) (hb : b.natAbs ≤ B) : (a + b).natAbs ≤ A + B := Nat.le_trans (Int.natAbs_add_le a b) (Nat.add_le_add ha hb)
theorem fitA {a : Int} {A : Nat} (h : a.natAbs ≤ A) (hA : A ≤ 1000000 := by decide) : Fit a := fitI (Nat.lt_of_le_of_lt (Nat.le_trans h hA) (by decide))
section
variable {P : Program} {w : World} {K : PySem.W.Frag} {mg : Str → Option Value} {base : Heap} {f : Addr} {fd : FuncData}
theorem scWeight : FnScope ["form", "a", "b", "c"] ["form"] (defScope sWeight) := ⟨rfl, rfl, rfl, by decide +kernel, rfl, by decide +kernel, by decide +kernel⟩
theorem ok_weight (F : Fun K "weight" "weight" sWeight f fd) (T : Bt mg) : FnOk P w K mg base (CX1 P w) 1 f fd ["form"] (lsp K spWeight) := by
  refine ok3 F scWeight (fun δ Q Z h => ln_d h) fun cdv A outer s H E hr => ?_
  have nd := scWeight.nd
  refine ⟨_, (b_cons (s_asg (dv 0) (g_tup (n := 3) rfl (gs_cons (g_name 1 (by exact nd) rfl (Or.inl rfl)) (gs_cons (g_name 2 (by exact nd) rfl (Or.inl rfl)) (gs_cons (g_name 3 (by exact nd) rfl (Or.inl rfl)) gs_nil))))) (b_cons (s_if (W3.toC (w_and (c_cmp op_eq r_eq (dv 2) d_int (nomark _)) (w_and1 (c_cmp op_eq r_eq (dv 1) (dv 3) (nomark _))))) (b_one (s_ret (D3.toE (d_tup (a_cons d_int (a_cons d_int a_nil Fr.star_const) Fr.star_const))))) b_nil) (b_cons (s_if (c_chain op_eq op_eq r_eq r_eq (dv 1) (dv 2) (dv 3)) (b_one (s_ret (D3.toE (d_tup (a_cons d_int (a_cons d_int a_nil Fr.star_const) Fr.star_const))))) b_nil) (b_one (s_ret (D3.toE (d_tup (a_cons d_int (a_cons d_int a_nil Fr.star_const) Fr.star_const)))))))), fun δ Q Z h => ?_⟩
  obtain ⟨y, rfl, a, b, c, e, q⟩ := iv_d h
  subst e
  unfold wgt at q
  walk_at "w"
  refine brd (fun c1 => ?_) (fun c1 => ?_)
  · walk_at "w"
    refine brd (fun c2 => ?_) (fun c2 => ?_)
    · rw [if_pos ⟨c1, c2⟩] at q
      exact q _
    · rw [if_neg (fun z => c2 z.2)] at q
      walk_at "w"
      refine brd (fun c3 => ?_) (fun c3 => ?_)
      · walk_at "w"
        refine brd (fun c4 => absurd (c3.trans c4) c2) (fun c4 => ?_)
        rw [if_neg (fun z => c4 z.2)] at q
        exact q _
      · rw [if_neg (fun z => c3 z.1)] at q
        exact q _
  · rw [if_neg (fun z => c1 z.1)] at q
    walk_at "w"
    refine brd (fun c3 => ?_) (fun c3 => ?_)
    · walk_at "w"
      refine brd (fun c4 => ?_) (fun c4 => ?_)
      · rw [if_pos ⟨c3, c4⟩] at q
        exact q _
      · rw [if_neg (fun z => c4 z.2)] at q
        exact q _
    · rw [if_neg (fun z => c3 z.1)] at q
      exact q _
theorem scShare : FnScope ["_law_form", "_law_a", "_law_b", "_law_c", "_law_many", "_law_x", "_law_y", "_law_z", "_law_w", "_law_mixed", "_law_first", "_law_last"] ["_law_form"] (defScope sShare) := ⟨rfl, rfl, rfl, by decide +kernel, rfl, by decide +kernel, by decide +kernel⟩
theorem ok_share (F : Fun K "_law_share" "_law_share" sShare f fd) (T : Bt mg) : FnOk P w K mg base (CX1 P w) 1 f fd ["_law_form"] (lsp K spShare) := by
  refine ok3 F scShare (fun δ Q Z h => ln_d h) fun cdv A outer s H E hr => ?_
  have nd := scShare.nd
  refine ⟨_, (b_cons (s_asg (dv 0) (g_tup (n := 3) rfl (gs_cons (g_name 1 (by exact nd) rfl (Or.inl rfl)) (gs_cons (g_name 2 (by exact nd) rfl (Or.inl rfl)) (gs_cons (g_name 3 (by exact nd) rfl (Or.inl rfl)) gs_nil))))) (b_cons (s_set 4 (by exact nd) rfl (Or.inl rfl) (D3.toE d_int)) (b_cons (s_for PassesOwn.leaving rfl (i_tup (d_tup (a_cons (d_neg d_int) (a_cons d_int (a_cons d_int a_nil Fr.star_const) Fr.star_const) Fr.star_un))) (g_name 5 (by exact nd) rfl (Or.inl rfl)) (b_one (s_for PassesOwn.leaving rfl (i_tup (d_tup (a_cons (d_neg d_int) (a_cons d_int (a_cons d_int a_nil Fr.star_const) Fr.star_const) Fr.star_un))) (g_name 6 (by exact nd) rfl (Or.inl rfl)) (b_one (s_for PassesOwn.leaving rfl (i_tup (d_tup (a_cons (d_neg d_int) (a_cons d_int (a_cons d_int a_nil Fr.star_const) Fr.star_const) Fr.star_un))) (g_name 7 (by exact nd) rfl (Or.inl rfl)) (b_one (s_for PassesOwn.leaving rfl (i_tup (d_tup (a_cons (d_neg d_int) (a_cons d_int (a_cons d_int a_nil Fr.star_const) Fr.star_const) Fr.star_un))) (g_name 8 (by exact nd) rfl (Or.inl rfl)) (b_cons (s_set 9 (by exact nd) rfl (Or.inl rfl) (D3.toE (d_op op_add r_add (d_op Fr.op_mulW r_mul (d_op Fr.op_mulW r_mul (d_op Fr.op_mulW r_mul d_int (dv 1)) (dv 5)) (dv 6)) (d_op Fr.op_mulW r_mul (d_op Fr.op_mulW r_mul (d_op Fr.op_mulW r_mul d_int (dv 3)) (dv 7)) (dv 8))))) (b_cons (s_set 9 (by exact nd) rfl (Or.inl rfl) (D3.toE (d_op op_add r_add (dv 9) (d_op Fr.op_mulW r_mul (dv 2) (d_op op_add r_add (d_op Fr.op_mulW r_mul (dv 5) (dv 8)) (d_op Fr.op_mulW r_mul (dv 6) (dv 7))))))) (b_cons (s_set 10 (by exact nd) rfl (Or.inl rfl) (D3.toE (d_op op_add r_add (d_op op_add r_add (d_op Fr.op_mulW r_mul (d_op Fr.op_mulW r_mul (dv 1) (dv 5)) (dv 5)) (d_op Fr.op_mulW r_mul (d_op Fr.op_mulW r_mul (dv 2) (dv 5)) (dv 7))) (d_op Fr.op_mulW r_mul (d_op Fr.op_mulW r_mul (dv 3) (dv 7)) (dv 7))))) (b_cons (s_set 11 (by exact nd) rfl (Or.inl rfl) (D3.toE (d_op op_add r_add (d_op op_add r_add (d_op Fr.op_mulW r_mul (d_op Fr.op_mulW r_mul (dv 1) (dv 6)) (dv 6)) (d_op Fr.op_mulW r_mul (d_op Fr.op_mulW r_mul (dv 2) (dv 6)) (dv 8))) (d_op Fr.op_mulW r_mul (d_op Fr.op_mulW r_mul (dv 3) (dv 8)) (dv 8))))) (b_one (s_if (W3.toC (w_and (c_cmp op_eq r_eq (d_op op_sub r_sub (d_op Fr.op_mulW r_mul (dv 5) (dv 8)) (d_op Fr.op_mulW r_mul (dv 6) (dv 7))) d_int (nomark _)) (w_and1 (c_cmp Fr.op_eqD (r_eqD hr) (d_tup (a_cons (dv 10) (a_cons (dv 9) (a_cons (dv 11) a_nil Fr.star_name) Fr.star_name) Fr.star_name)) (dv 0) (nomark _))))) (b_one (s_set 4 (by exact nd) rfl (Or.inl rfl) (D3.toE (d_op op_add r_add (dv 4) d_int)))) b_nil))))))))))))) (b_one (s_ret (D3.toE (d_op Fr.op_fdivP r_fdiv d_int (dv 4)))))))), fun δ Q Z h => ?_⟩
  obtain ⟨y, rfl, a, b, c, e, ⟨ha, hb, hc⟩, h0, q⟩ := iv_d h
  subst e
  refine seq_cut (fun δ => ∃ s4 s5 s6 s7 s8 s9 s10 s11 : Sl, δ = [.d (tupI [a, b, c]), .d (.int a), .d (.int b), .d (.int c), s4, s5, s6, s7, s8, s9, s10, s11]) (fun N hN => hN _ ⟨_, _, _, _, _, _, _, _, rfl⟩) ?_
  rintro δ ⟨s4, s5, s6, s7, s8, s9, s10, s11, rfl⟩
  refine seq_cut (fun δ => ∃ s5 s6 s7 s8 s9 s10 s11 : Sl, δ = [.d (tupI [a, b, c]), .d (.int a), .d (.int b), .d (.int c), .d (.int 0), s5, s6, s7, s8, s9, s10, s11]) (fun N hN => hN _ ⟨_, _, _, _, _, _, _, rfl⟩) ?_
  rintro δ ⟨s5, s6, s7, s8, s9, s10, s11, rfl⟩
  refine seq_cut (fun δ => ∃ s5 s6 s7 s8 s9 s10 s11 : Sl, δ = [.d (tupI [a, b, c]), .d (.int a), .d (.int b), .d (.int c), .d (.int (shr a b c : Int)), s5, s6, s7, s8, s9, s10, s11]) (fun N hN => ?_) ?_
  · refine fr_sg (forL_inv (fun i δ => ∃ (s5 s6 s7 s8 s9 s10 s11 : Sl) (m : Int), δ = [.d (tupI [a, b, c]), .d (.int a), .d (.int b), .d (.int c), .d (.int m), s5, s6, s7, s8, s9, s10, s11] ∧ m = (f0 a b c (sg.take i) : Nat)) ⟨_, _, _, _, _, _, _, _, rfl, rfl⟩ ?_ ?_)
    · rintro i0 x0 δ N0 hx0 ⟨s5, s6, s7, s8, s9, s10, s11, m0, rfl, em0⟩ hN0
      obtain ⟨x, rfl, ex, bx⟩ := sg_at hx0
      have st0 := take_at (fun x => f1 a b c x sg) ex
      refine fr_sg (forL_inv (fun i δ => ∃ (s6 s7 s8 s9 s10 s11 : Sl) (m : Int), δ = [.d (tupI [a, b, c]), .d (.int a), .d (.int b), .d (.int c), .d (.int m), .d (.int x), s6, s7, s8, s9, s10, s11] ∧ m = m0 + (f1 a b c x (sg.take i) : Nat)) ⟨_, _, _, _, _, _, _, rfl, by simp [f1]⟩ ?_ ?_)
      · rintro i1 x1 δ N1 hx1 ⟨s6, s7, s8, s9, s10, s11, m1, rfl, em1⟩ hN1
        obtain ⟨y, rfl, ey, by_⟩ := sg_at hx1
        have st1 := take_at (fun y => f2 a b c x y sg) ey
        refine fr_sg (forL_inv (fun i δ => ∃ (s7 s8 s9 s10 s11 : Sl) (m : Int), δ = [.d (tupI [a, b, c]), .d (.int a), .d (.int b), .d (.int c), .d (.int m), .d (.int x), .d (.int y), s7, s8, s9, s10, s11] ∧ m = m1 + (f2 a b c x y (sg.take i) : Nat)) ⟨_, _, _, _, _, _, rfl, by simp [f2]⟩ ?_ ?_)
        · rintro i2 x2 δ N2 hx2 ⟨s7, s8, s9, s10, s11, m2, rfl, em2⟩ hN2
          obtain ⟨z, rfl, ez, bz⟩ := sg_at hx2
          have st2 := take_at (fun z => f3 a b c x y z sg) ez
          refine fr_sg (forL_inv (fun i δ => ∃ (s8 s9 s10 s11 : Sl) (m : Int), δ = [.d (tupI [a, b, c]), .d (.int a), .d (.int b), .d (.int c), .d (.int m), .d (.int x), .d (.int y), .d (.int z), s8, s9, s10, s11] ∧ m = m2 + (f3 a b c x y z (sg.take i) : Nat)) ⟨_, _, _, _, _, rfl, by simp [f3]⟩ ?_ ?_)
          · rintro i3 x3 δ N3 hx3 ⟨s8, s9, s10, s11, m3, rfl, em3⟩ hN3
            obtain ⟨w, rfl, ew, bw⟩ := sg_at hx3
            have st3 := take_at (hit a b c x y z) ew
            have st3' : f3 a b c x y z (sg.take (i3 + 1)) = f3 a b c x y z (sg.take i3) + hit a b c x y z w := st3
            have b2 : (2 : Int).natAbs ≤ 2 := by decide
            have g1 := mulA b2 ha
            have g2 := mulA g1 bx
            have g3 := mulA g2 by_
            have g4 := mulA b2 hc
            have g5 := mulA g4 bz
            have g6 := mulA g5 bw
            have g7 := mulA bx bw
            have g8 := mulA by_ bz
            have g9 := mulA ha bx
            have g10 := mulA g9 bx
            have g11 := mulA hb bx
            have g12 := mulA g11 bz
            have g13 := mulA hc bz
            have g14 := mulA g13 bz
            have g15 := mulA ha by_
            have g16 := mulA g15 by_
            have g17 := mulA hb by_
            have g18 := mulA g17 bw
            have g19 := mulA hc bw
            have g20 := mulA g19 bw
            have g21 := addA g7 g8
            have F2 := fitA b2
            have Fa := fitA ha
            have Fb := fitA hb
            have Fc := fitA hc
            have Fx := fitA bx
            have Fy := fitA by_
            have Fz := fitA bz
            have Fw := fitA bw
            have F1 := fitA g1
            have Fg2 := fitA g2
            have F4 := fitA g4
            have F5 := fitA g5
            have F9 := fitA g9
            have F11 := fitA g11
            have F13 := fitA g13
            have F15 := fitA g15
            have F17 := fitA g17
            have F19 := fitA g19
            have F21 := fitA g21
            walk_at "m"
            refine brd (fun c1 => ?_) (fun c1 => ?_)
            · have eh : hit a b c x y z w = if lvs a b c (x, y, z, w) = true then 1 else 0 := if_pos c1
              have el : PyData.eqv (tupI [a * x * x + b * x * z + c * z * z, 2 * a * x * y + 2 * c * z * w + b * (x * w + y * z), a * y * y + b * y * w + c * w * w]).py (tupI [a, b, c]).py = lvs a b c (x, y, z, w) := by
                rw [Bool.eq_iff_iff, eqv_plain _ _ rfl rfl]
                unfold lvs tupI
                simp
              walk_at "w"
              refine ⟨⟨canEq_tri _ _ _, canEq_tri _ _ _⟩, _, el, ?_⟩
              refine br (fun c2 => ?_) (fun c2 => ?_)
              · rw [if_pos c2] at eh
                exact hN3 _ ⟨_, _, _, _, _, rfl, by rw [em3, st3', eh, Int.natCast_add, Int.add_assoc]; rfl⟩
              · rw [if_neg (by rw [c2]; exact Bool.false_ne_true)] at eh
                exact hN3 _ ⟨_, _, _, _, _, rfl, by rw [em3, st3', eh, Nat.add_zero]⟩
            · have eh : hit a b c x y z w = 0 := if_neg c1
              exact hN3 _ ⟨_, _, _, _, _, rfl, by rw [em3, st3', eh, Nat.add_zero]⟩
          · rintro δ ⟨s8, s9, s10, s11, m3, rfl, em3⟩
            refine hN2 _ ⟨_, _, _, _, _, _, rfl, ?_⟩
            have e1 : f2 a b c x y (sg.take (i2 + 1)) = f2 a b c x y (sg.take i2) + f3 a b c x y z sg := st2
            have e2 : f3 a b c x y z (sg.take 3) = f3 a b c x y z sg := rfl
            rw [e1, em3, em2, show [D.int (-1), D.int 0, D.int 1].length = 3 from rfl, e2, Int.natCast_add, Int.add_assoc]
        · rintro δ ⟨s7, s8, s9, s10, s11, m2, rfl, em2⟩
          refine hN1 _ ⟨_, _, _, _, _, _, _, rfl, ?_⟩
          have e1 : f1 a b c x (sg.take (i1 + 1)) = f1 a b c x (sg.take i1) + f2 a b c x y sg := st1
          have e2 : f2 a b c x y (sg.take 3) = f2 a b c x y sg := rfl
          rw [e1, em2, em1, show [D.int (-1), D.int 0, D.int 1].length = 3 from rfl, e2, Int.natCast_add, Int.add_assoc]
      · rintro δ ⟨s6, s7, s8, s9, s10, s11, m1, rfl, em1⟩
        refine hN0 _ ⟨_, _, _, _, _, _, _, _, rfl, ?_⟩
        have e1 : f0 a b c (sg.take (i0 + 1)) = f0 a b c (sg.take i0) + f1 a b c x sg := st0
        have e2 : f1 a b c x (sg.take 3) = f1 a b c x sg := rfl
        rw [e1, em1, em0, show [D.int (-1), D.int 0, D.int 1].length = 3 from rfl, e2, Int.natCast_add]
    · rintro δ ⟨s5, s6, s7, s8, s9, s10, s11, m0, rfl, em0⟩
      have e2 : f0 a b c (sg.take 3) = f0 a b c sg := rfl
      rw [show [D.int (-1), D.int 0, D.int 1].length = 3 from rfl, e2, ← shr_sum] at em0
      subst em0
      exact hN _ ⟨_, _, _, _, _, _, _, rfl⟩
  · rintro δ ⟨s5, s6, s7, s8, s9, s10, s11, rfl⟩
    have hl := shr_le a b c
    walk_at "w"
    refine ⟨⟨(by show (0 : Int) < ((shr a b c : Nat) : Int); omega), (by show ((shr a b c : Nat) : Int) < 2 ^ 250; omega)⟩, ?_⟩
    exact q _
end
end Fr

set_option Elab.async false
set_option linter.all false
set_option maxRecDepth 100000
set_option maxHeartbeats 1000000
namespace Fr
open PySem L2 L3
local macro_rules | `(tactic| walk_at "w") => `(tactic| conv => whnf)
local macro_rules | `(tactic| walk_at "v") => `(tactic| ((conv => whnf); repeat ((refine ⟨_, rfl, ?_⟩); (conv => whnf))))
local macro_rules | `(tactic| walk_at "m") => `(tactic| ((repeat ((conv => whnf); (refine ⟨⟨by assumption, by assumption⟩, ?_⟩))); (conv => whnf)))
abbrev sIsSmall : Stmt := top 26
abbrev sSmall : Stmt := top 27
def smB (a b c : Int) : Bool := decide ((if b < 0 then -b else b) ≤ a) && (decide (a ≤ c) && (decide (0 ≤ b) || (!decide (b = -a) && !decide (a = c))))
def ptF (s : Int) : D → D
  | .int b => .tup [.int b, .int (b * b - s)]
  | y => y
def fmF (a : Int) : D → Option D
  | .tup [.int b, .int p] => if p % (4 * a) = 0 then some (.tup [.int a, .int b, .int (p / (4 * a))]) else none
  | _ => none
def smF : D → Option D
  | .tup [.int a, .int b, .int c] => if smB a b c = true then some (.tup [.int a, .int b, .int c]) else none
  | _ => none
theorem fm_congr {α β : Type} {f g : α → Option β} : ∀ {l : List α}, (∀ x ∈ l, f x = g x) → l.filterMap f = l.filterMap g
  | [], _ => rfl
  | x :: l, h => by
    rw [List.filterMap_cons, List.filterMap_cons, h x List.mem_cons_self, fm_congr fun y hy => h y (List.mem_cons_of_mem _ hy)]
theorem row_one {s a b : Int} (hb : b.natAbs ≤ a.natAbs) (a1 : 1 ≤ a) : (fmF a (ptF s (.int b))).bind smF = (fm1 s a b).map tupI := by
  show (if (b * b - s) % (4 * a) = 0 then some (D.tup [.int a, .int b, .int ((b * b - s) / (4 * a))]) else none).bind smF = _
  unfold fm1
  by_cases c : (b * b - s) % (4 * a) = 0
  · rw [if_pos c, if_pos c]
    show (if smB a b ((b * b - s) / (4 * a)) = true then some (D.tup [.int a, .int b, .int ((b * b - s) / (4 * a))]) else none) = _
    have e : smB a b ((b * b - s) / (4 * a)) = true ↔ (a ≤ (b * b - s) / (4 * a) ∧ (0 ≤ b ∨ (¬ b = 0 - a ∧ ¬ a = (b * b - s) / (4 * a)))) := by
      unfold smB
      have h0 : (if b < 0 then -b else b) ≤ a := by split <;> omega
      rw [decide_eq_true h0, Bool.true_and, Bool.and_eq_true, Bool.or_eq_true, Bool.and_eq_true, Bool.not_eq_true', Bool.not_eq_true', decide_eq_true_iff, decide_eq_true_iff, decide_eq_false_iff_not, decide_eq_false_iff_not, show (0 - a : Int) = -a by omega]
    by_cases c2 : a ≤ (b * b - s) / (4 * a) ∧ (0 ≤ b ∨ (¬ b = 0 - a ∧ ¬ a = (b * b - s) / (4 * a)))
    · rw [if_pos (e.mpr c2), if_pos c2]
      rfl
    · rw [if_neg (fun z => c2 (e.mp z)), if_neg c2]
      rfl
  · rw [if_neg c, if_neg c]
    rfl
theorem row_all (s : Int) {a : Nat} (a1 : 1 ≤ a) : (((rngD (-(a : Int)) (2 * a + 1)).map (ptF s)).filterMap (fmF a)).filterMap smF = (fmR s a (2 * a + 1)).map tupI := by
  unfold rngD fmR
  rw [List.map_map, List.filterMap_map, List.filterMap_filterMap, List.map_filterMap]
  refine fm_congr fun i hi => ?_
  have := List.mem_range.mp hi
  have e := row_one (s := s) (a := (a : Int)) (b := 0 - (a : Int) + (i : Int)) (by omega) (by omega)
  rw [← e]
  show (fmF (a : Int) (ptF s (.int (-(a : Int) + (i : Int))))).bind smF = _
  rw [show (-(a : Int) + (i : Int)) = 0 - (a : Int) + (i : Int) by omega]
def spIsSmall : Sp3 := fun δ Q _ => match δ with
  | [.d y] => ∃ a b c : Int, y = tupI [a, b, c] ∧ ∀ ob, Q (.d (.bl (smB a b c))) ob
  | _ => False
section
variable {P : Program} {w : World} {K : PySem.W.Frag} {mg : Str → Option Value} {base : Heap} {f : Addr} {fd : FuncData}
theorem scIsSmall : FnScope ["form", "a", "b", "c"] ["form"] (defScope sIsSmall) := ⟨rfl, rfl, rfl, by decide +kernel, rfl, by decide +kernel, by decide +kernel⟩
theorem ok_isSmall (F : Fun K "is_small" "is_small" sIsSmall f fd) (T : Bt mg) : FnOk P w K mg base (CX1 P w) 1 f fd ["form"] (lsp K spIsSmall) := by
  refine ok3 F scIsSmall (fun δ Q Z h => ln_d h) fun cdv A outer s H E hr => ?_
  have nd := scIsSmall.nd
  refine ⟨_, (b_cons (s_asg (dv 0) (g_tup (n := 3) rfl (gs_cons (g_name 1 (by exact nd) rfl (Or.inl rfl)) (gs_cons (g_name 2 (by exact nd) rfl (Or.inl rfl)) (gs_cons (g_name 3 (by exact nd) rfl (Or.inl rfl)) gs_nil))))) (b_one (s_ret (D3.toE (d_and (d_chain op_le op_le r_le r_le (d_callB call_abs cr_abs rfl T.abs PyProof.Rows.boot_abs (a_cons (dv 2) a_nil Fr.star_name)) (dv 1) (dv 3)) (d_one (d_or (d_cmp op_ge r_ge (dv 2) d_int (nomark _)) (d_one (d_and (d_cmp op_ne r_ne (dv 2) (d_neg (dv 1)) (nomark _)) (d_one (d_cmp op_ne r_ne (dv 1) (dv 3) (nomark _)))))))))))), fun δ Q Z h => ?_⟩
  obtain ⟨y, rfl, a, b, c, e, q⟩ := iv_d h
  subst e
  unfold smB at q
  walk_at "w"
  refine brd (fun c1 => ?_) (fun c1 => ?_)
  · rw [decide_eq_true c1, Bool.true_and] at q
    walk_at "w"
    refine brd (fun c2 => ?_) (fun c2 => ?_)
    · rw [decide_eq_true c2, Bool.true_and] at q
      walk_at "w"
      refine brd (fun c3 => ?_) (fun c3 => ?_)
      · rw [decide_eq_true c3, Bool.true_or] at q
        exact q _
      · rw [decide_eq_false c3, Bool.false_or] at q
        walk_at "w"
        refine brn (fun c4 => ?_) (fun c4 => ?_)
        · rw [decide_eq_false c4, Bool.not_false, Bool.true_and] at q
          exact q _
        · rw [decide_eq_true c4, Bool.not_true, Bool.false_and] at q
          exact q _
    · rw [decide_eq_false c2, Bool.false_and] at q
      exact q _
  · rw [decide_eq_false c1, Bool.false_and] at q
    exact q _
def spSmall : Sp3 := fun δ Q _ => match δ with
  | [.d (.int s)] => Sz s ∧ ∀ ob, Q (.own (.lst ((fms s).map tupI))) ob
  | _ => False
theorem scSmall : FnScope ["size", "told", "a", "parts", "forms"] ["size"] (defScope sSmall) := ⟨rfl, rfl, rfl, by decide +kernel, rfl, by decide +kernel, by decide +kernel⟩
theorem ok_small (F : Fun K "small_forms" "small_forms" sSmall f fd) (T : Bt mg) {tk : Tok} (mL : mg "LEAST_SIZE" = some (.int (-400) tk)) {gF : Addr} (m_NoForm : mg "NoForm" = some (.ref gF)) (q_NoForm : PySem.W.excIn K gF bmVE "ValueError.__new__" = true) (Ois_whole : Own3 P w K mg base 1 "is_whole" ["thing"] spWhole) (Ois_small : Own3 P w K mg base 1 "is_small" ["form"] spIsSmall) : FnOk P w K mg base (CX1 P w) 2 f fd ["size"] (lsp K spSmall) := by
  refine ok3 F scSmall (fun δ Q Z h => ln_i h) fun cdv A outer s H E hr => ?_
  have nd := scSmall.nd
  have hu := units1 hr
  refine ⟨_, (b_cons (s_if (W3.toC (w_or (c_not (c_val (E3.toD (e_call Ois_whole Fr.pass_on hr rfl (a_cons (dv 0) a_nil Fr.star_name))))) (w_or (c_cmp op_ge r_ge (dv 0) d_int (nomark _)) (w_or (c_cmp op_lt r_lt (dv 0) (d_globI rfl mL) (nomark _)) (w_or1 (c_cmp op_gt r_gt (d_op op_mod r_mod (dv 0) d_int) d_int (nomark _))))))) (b_one (s_raise rfl m_NoForm q_NoForm (a_cons d_str a_nil Fr.star_const))) b_nil) (b_cons (s_set 1 (by exact nd) rfl (Or.inl rfl) (e_lst a_nil)) (b_cons (s_set 2 (by exact nd) rfl (Or.inr rfl) (D3.toE d_int)) (b_cons (s_while PassesOwn.leaving (c_cmp op_le r_le (d_op Fr.op_mulW r_mul (d_op Fr.op_mulW r_mul d_int (dv 2)) (dv 2)) (d_neg (dv 0)) (nomark _)) (b_cons (s_comp 3 (by exact nd) rfl (Or.inl rfl) rfl (I3.toC (i_range2 rfl T.range (a_cons (d_neg (dv 2)) (a_cons (d_op op_add r_add (dv 2) d_int) a_nil Fr.star_bin) Fr.star_un))) (Fr.frokV (xs := ["b"]) (fr := [("size", 0)]) (sc := defScope sSmall) (N := ["size", "told", "a", "parts", "forms"]) rfl rfl (by decide +kernel)) (fun _ _ _ _ => (g_name 0 (show List.Nodup [("b" : Str), ("size" : Str)] by decide +kernel) rfl (Or.inl rfl))) (fun _ _ _ _ => p_st0 rfl (D3.toE (d_tup (a_cons (dv 0) (a_cons (d_op op_sub r_sub (d_op Fr.op_mulW r_mul (dv 0) (dv 0)) (dv 1)) a_nil Fr.star_bin) Fr.star_name))))) (b_cons (s_comp 4 (by exact nd) rfl (Or.inl rfl) rfl (ic_listN 3) (Fr.frokV (xs := ["b", "part"]) (fr := [("a", 2)]) (sc := defScope sSmall) (N := ["size", "told", "a", "parts", "forms"]) rfl rfl (by decide +kernel)) (fun _ _ _ _ => (g_tup (n := 2) rfl (gs_cons (g_name 0 (show List.Nodup [("b" : Str), ("part" : Str), ("a" : Str)] by decide +kernel) rfl (Or.inl rfl)) (gs_cons (g_name 1 (show List.Nodup [("b" : Str), ("part" : Str), ("a" : Str)] by decide +kernel) rfl (Or.inl rfl)) gs_nil)))) (fun _ _ _ _ => p_st1 rfl (D3.toE (d_tup (a_cons (dv 2) (a_cons (dv 0) (a_cons (d_op Fr.op_fdivP r_fdiv (dv 1) (d_op Fr.op_mulW r_mul d_int (dv 2))) a_nil Fr.star_bin) Fr.star_name) Fr.star_name))) (c_cmp op_eq r_eq (d_op op_mod r_mod (dv 1) (d_op Fr.op_mulW r_mul d_int (dv 2))) d_int (nomark _)))) (b_cons (s_augL 1 (by exact nd) rfl (Or.inl rfl) (E3.toD (e_comp rfl (ic_listN 4) (Fr.frokV (xs := ["form"]) (fr := []) (sc := defScope sSmall) (N := ["size", "told", "a", "parts", "forms"]) rfl rfl (by decide +kernel)) (fun _ _ _ _ => (g_name 0 (show List.Nodup [("form" : Str)] by decide +kernel) rfl (Or.inl rfl))) (fun _ _ _ _ => p_st1 rfl (D3.toE (dv 0)) (c_val (E3.toD (e_call Ois_small Fr.pass1 hr rfl (a_cons (dv 0) a_nil Fr.star_name)))))))) (b_one (s_aug 2 ip_add (by exact nd) rfl (Or.inr rfl) d_int)))))) (b_one (s_ret (e_move 1))))))), fun δ Q Z h => ?_⟩
  obtain ⟨s, rfl, hs, q⟩ := iv_i h
  obtain ⟨s1, s2, s3⟩ := id hs
  walk_at "w"
  refine ⟨rfl, ?_⟩
  walk_at "w"
  refine brd (fun c => absurd c (by omega)) (fun _ => ?_)
  walk_at "w"
  refine brd (fun c => absurd c (by omega)) (fun _ => ?_)
  walk_at "w"
  refine ⟨(by show (0 : Int) < 4; decide), ?_⟩
  walk_at "w"
  refine brd (fun c => absurd c (by omega)) (fun _ => ?_)
  walk_at "w"
  refine ⟨fun m δ => ∃ (a : Nat) (s3 s4 : Sl), 1 ≤ a ∧ a ≤ 12 ∧ m = 13 - a ∧ δ = [.d (.int s), .own (.lst ((fmA s (a - 1)).map tupI)), .d (.int (a : Int)), s3, s4], ⟨_, 1, _, _, by decide, by decide, rfl, rfl⟩, ?_⟩
  rintro m δ ⟨a, s3, s4, a1, a2, rfl, rfl⟩
  have aa : (a : Int) * (a : Int) ≤ 12 * 12 := Int.mul_le_mul (by omega) (by omega) (by omega) (by omega)
  have e3 : 3 * (a : Int) * (a : Int) = 3 * ((a : Int) * (a : Int)) := Int.mul_assoc _ _ _
  walk_at "w"
  refine ⟨⟨fitI (by decide), fitI (by omega)⟩, ?_⟩
  walk_at "w"
  refine ⟨⟨fitI (by omega), fitI (by omega)⟩, ?_⟩
  walk_at "w"
  refine brd (fun c => ?_) (fun c => ?_)
  · have a11 : a ≤ 11 := by
      rcases Nat.lt_or_ge 11 a with z | z
      · exfalso
        have : a = 12 := by omega
        subst this
        omega
      · exact z
    walk_at "w"
    refine ⟨⟨⟨by omega, by omega⟩, ⟨by omega, by omega⟩⟩, ?_⟩
    walk_at "w"
    have en : ((a : Int) + 1 - -(a : Int)).toNat = 2 * a + 1 := by omega
    rw [en]
    have rm : ∀ {x : D}, x ∈ rngD (-(a : Int)) (2 * a + 1) → ∃ b : Int, x = .int b ∧ b.natAbs ≤ a := fun hx => by
      unfold rngD at hx
      obtain ⟨i, hi, e⟩ := List.mem_map.mp hx
      have := List.mem_range.mp hi
      exact ⟨_, e.symm, by omega⟩
    refine ⟨by rw [rngD_len]; omega, compL_map (l := [.d (.int s)]) rfl (ptF s) (fun x hx P p => ?_) ?_⟩
    · obtain ⟨b, rfl, hb⟩ := rm hx
      walk_at "w"
      exact ⟨⟨fitI (by omega), fitI (by omega)⟩, p⟩
    walk_at "w"
    refine ⟨by rw [List.length_map, rngD_len]; omega, compL_fmap2 (l := [.d (.int (a : Int))]) rfl (fmF a) (fun x hx => ?_) ?_⟩
    · obtain ⟨y, hy, rfl⟩ := List.mem_map.mp hx
      obtain ⟨b, rfl, hb⟩ := rm hy
      refine ⟨_, _, rfl, fun P p => ?_⟩
      walk_at "w"
      refine ⟨⟨fitI (by decide), fitI (by omega)⟩, (by show (0 : Int) < 4 * (a : Int); omega), ?_⟩
      walk_at "w"
      refine brd (fun c2 => ?_) (fun c2 => ?_)
      · walk_at "w"
        refine ⟨⟨fitI (by decide), fitI (by omega)⟩, ⟨(by show (0 : Int) < 4 * (a : Int); omega), (by show 4 * (a : Int) < 2 ^ 250; omega)⟩, ?_⟩
        have e : fmF a (ptF s (.int b)) = some (.tup [.int a, .int b, .int ((b * b - s) / (4 * a))]) := if_pos c2
        rw [e] at p
        exact p
      · have e : fmF a (ptF s (.int b)) = none := if_neg c2
        rw [e] at p
        exact p
    walk_at "w"
    have fl : (((rngD (-(a : Int)) (2 * a + 1)).map (ptF s)).filterMap (fmF a)).length ≤ 2 * a + 1 := Nat.le_trans (List.length_filterMap_le _ _) (by rw [List.length_map, rngD_len]; exact Nat.le_refl _)
    refine ⟨by omega, compL_fmap (l := []) rfl smF (fun x hx P p => ?_) ?_⟩
    · obtain ⟨y, hy, e⟩ := List.mem_filterMap.mp hx
      obtain ⟨z, hz, rfl⟩ := List.mem_map.mp hy
      obtain ⟨b, rfl, hb⟩ := rm hz
      have e' : (if (b * b - s) % (4 * (a : Int)) = 0 then some (D.tup [.int a, .int b, .int ((b * b - s) / (4 * (a : Int)))]) else none) = some x := e
      by_cases c2 : (b * b - s) % (4 * (a : Int)) = 0
      · rw [if_pos c2] at e'
        cases e'
        walk_at "w"
        refine ⟨_, _, _, rfl, fun ob => ?_⟩
        walk_at "w"
        refine br (fun c3 => ?_) (fun c3 => ?_)
        · have e : smF (.tup [.int a, .int b, .int ((b * b - s) / (4 * (a : Int)))]) = some (.tup [.int a, .int b, .int ((b * b - s) / (4 * (a : Int)))]) := if_pos c3
          rw [e] at p
          exact p
        · have e : smF (.tup [.int a, .int b, .int ((b * b - s) / (4 * (a : Int)))]) = none := if_neg (by rw [c3]; decide)
          rw [e] at p
          exact p
      · rw [if_neg c2] at e'
        cases e'
    rw [row_all s a1]
    walk_at "w"
    refine ⟨?_, ?_⟩
    · rw [List.length_map, List.length_map]
      have h1 := fmA_len s (a - 1)
      have h2 := fmR_len s a (2 * a + 1)
      have h3 : (a - 1) * (2 * (a - 1) + 1) ≤ 12 * 25 := Nat.mul_le_mul (by omega) (by omega)
      omega
    walk_at "w"
    have es : fmA s (a + 1 - 1) = fmA s (a - 1) ++ fmR s a (2 * a + 1) := by
      have := fmA_succ s (a - 1)
      rw [show a - 1 + 1 = a by omega] at this
      rw [show a + 1 - 1 = a by omega]
      exact this
    refine ⟨13 - (a + 1), by omega, a + 1, .own (.lst ((rngD (-(a : Int)) (2 * a + 1)).map (ptF s))), .own (.lst (((rngD (-(a : Int)) (2 * a + 1)).map (ptF s)).filterMap (fmF a))), by omega, by omega, rfl, ?_⟩
    rw [es, List.map_append]
    rfl
  · walk_at "w"
    rw [fmA_all a1 a2 (by omega)]
    exact q _
end
end Fr

set_option Elab.async false
set_option linter.all false
set_option maxRecDepth 100000
set_option maxHeartbeats 1000000
namespace Fr
open PySem L2 L3
local macro_rules | `(tactic| walk_at "w") => `(tactic| conv => whnf)
local macro_rules | `(tactic| walk_at "v") => `(tactic| ((conv => whnf); repeat ((refine ⟨_, rfl, ?_⟩); (conv => whnf))))
local macro_rules | `(tactic| walk_at "m") => `(tactic| ((repeat ((conv => whnf); (refine ⟨⟨by assumption, by assumption⟩, ?_⟩))); (conv => whnf)))
/-- all that is asked of a form and a middle -/
structure FmOk (n : Nat) (a b c t : Int) : Prop where
  ba : a.natAbs < 2 ^ 100
  bb : b.natAbs < 2 ^ 100
  bc : c.natAbs < 2 ^ 100
  bt : t.natAbs < 2 ^ 100
  ev : (t - b) % 2 = 0
  co : Int.gcd ((t - b) / 2 * ((t + b) / 2) + c * a) n = 1
theorem fm_good {n : Nat} (n1 : 1 ≤ n) {a b c t : Int} (h : FmOk n a b c t) {s : Nat × Nat} (hs : s ∈ syms n) : good n (rsT n (s.1 * ((t - b) / 2) + s.2 * a) (s.2 * ((t + b) / 2) - s.1 * c)) = true := by
  have e : (s.2 : Int) * ((t + b) / 2) - s.1 * c = s.1 * (-c) + s.2 * ((t + b) / 2) := by grind
  rw [e]
  refine good_row n1 ?_ (sym_good hs)
  have : (t - b) / 2 * ((t + b) / 2) - -c * a = (t - b) / 2 * ((t + b) / 2) + c * a := by grind
  rw [this]
  exact h.co
theorem fm_hit {n : Nat} (n1 : 1 ≤ n) (n2 : n ≤ 48) {a b c t : Int} (h : FmOk n a b c t) {i : Nat} {s : Nat × Nat} (hs : (syms n)[i]? = some s) : numIn n (syms n) (rsT n (s.1 * ((t - b) / 2) + s.2 * a) (s.2 * ((t + b) / 2) - s.1 * c)) = some i ↔ (n : Int) ∣ fF a b c s.1 s.2 := by
  rw [num_row n1 n2 (fm_good n1 h (List.mem_of_getElem? hs)) hs]
  have h1 : (t + b) / 2 = (t - b) / 2 + b := by
    have := h.ev
    omega
  have e : ((s.1 : Int) * ((t - b) / 2) + s.2 * a) * s.2 - (s.2 * ((t + b) / 2) - s.1 * c) * s.1 = fF a b c s.1 s.2 := by
    rw [h1]
    unfold fF
    grind
  rw [e]
def ldN (n : Nat) (a b c t : Int) (u v : Int) : Nat := (numIn n (syms n) (rsT n (u * ((t - b) / 2) + v * a) (v * ((t + b) / 2) - u * c))).getD 0
def ldF (n : Nat) (a b c t : Int) : D → D
  | .tup [.int u, .int v] => .int (ldN n a b c t u v : Nat)
  | y => y
theorem ldF_all (n : Nat) (a b c t : Int) : (prsD (syms n)).map (ldF n a b c t) = (syms n).map fun s => D.int (ldN n a b c t s.1 s.2 : Nat) := by
  unfold prsD
  rw [List.map_map]
  rfl
theorem ld_len {n : Nat} (n1 : 1 ≤ n) (n2 : n ≤ 48) {a b c t : Int} (h : FmOk n a b c t) : ((enumD ((prsD (syms n)).map (ldF n a b c t))).filterMap ownF).length = fxs n a b c := by
  rw [ldF_all]
  unfold fxs
  refine own_len (fun s : Nat × Nat => ldN n a b c t s.1 s.2) _ _ fun i s hs => ?_
  rw [decide_eq_true_iff, ← fm_hit n1 n2 h hs]
  obtain ⟨j, hj⟩ := num_some n1 n2 (rsT_inR n1 _ _) (fm_good n1 h (List.mem_of_getElem? hs))
  show (numIn n (syms n) (rsT n (s.1 * ((t - b) / 2) + s.2 * a) (s.2 * ((t + b) / 2) - s.1 * c))).getD 0 = i ↔ _
  rw [hj]
  exact ⟨fun e => congrArg some e, fun e => Option.some.inj e⟩
section
variable {P : Program} {w : World} {K : PySem.W.Frag} {mg : Str → Option Value} {base : Heap} {f : Addr} {fd : FuncData}
abbrev sStays : Stmt := top 29
def spStays (C : Addr) : Sp3 := fun δ Q _ => match δ with
  | [.d x, .d y, .d (.int t)] => ∃ (n : Nat) (a b c : Int), IsLev C n x ∧ y = tupI [a, b, c] ∧ FmOk n a b c t ∧ ∀ ob, Q (.d (natD (fxs n a b c))) ob
  | _ => False
theorem scStays : FnScope ["level", "form", "t", "a", "b", "c", "less", "more", "led_to"] ["level", "form", "t"] (defScope sStays) := ⟨rfl, rfl, rfl, by decide +kernel, rfl, by decide +kernel, by decide +kernel⟩
theorem ok_stays (F : Fun K "stays" "stays" sStays f fd) (T : Bt mg) {C gS : Addr} (TLevel : LevC K C) (MLevel_symbols : MtOk P w K mg base 4 C "symbols" ["self"] (spLSymbols C)) (MLevel_number_of : MtOk P w K mg base 4 C "number_of" ["self", "u", "v"] (spLNumberOf C gS)) : FnOk P w K mg base (CX1 P w) 5 f fd ["level", "form", "t"] (lsp K (spStays C)) := by
  refine ok3 F scStays (fun δ Q Z h => ln_ddi h) fun cdv A outer s H E hr => ?_
  have nd := scStays.nd
  have hu := units1 hr
  refine ⟨_, (b_cons (s_asg (dv 1) (g_tup (n := 3) rfl (gs_cons (g_name 3 (by exact nd) rfl (Or.inr rfl)) (gs_cons (g_name 4 (by exact nd) rfl (Or.inl rfl)) (gs_cons (g_name 5 (by exact nd) rfl (Or.inr rfl)) gs_nil))))) (b_cons (s_asg (d_tup (a_cons (d_op Fr.op_fdivP r_fdiv (d_op op_sub r_sub (dv 2) (dv 4)) d_int) (a_cons (d_op Fr.op_fdivP r_fdiv (d_op op_add r_add (dv 2) (dv 4)) d_int) a_nil Fr.star_bin) Fr.star_bin)) (g_tup (n := 2) rfl (gs_cons (g_name 6 (by exact nd) rfl (Or.inr rfl)) (gs_cons (g_name 7 (by exact nd) rfl (Or.inr rfl)) gs_nil)))) (b_cons (s_comp 8 (by exact nd) rfl (Or.inl rfl) rfl (I3.toC (i_list (E3.toD (e_meth0 MLevel_symbols Fr.pass_on hr (dv 0))))) (Fr.frokV (xs := ["u", "v"]) (fr := [("level", 0), ("a", 3), ("c", 5), ("less", 6), ("more", 7)]) (sc := defScope sStays) (N := ["level", "form", "t", "a", "b", "c", "less", "more", "led_to"]) rfl rfl (by decide +kernel)) (fun _ _ _ _ => (g_tup (n := 2) rfl (gs_cons (g_name 0 (show List.Nodup [("u" : Str), ("v" : Str), ("level" : Str), ("a" : Str), ("c" : Str), ("less" : Str), ("more" : Str)] by decide +kernel) rfl (Or.inl rfl)) (gs_cons (g_name 1 (show List.Nodup [("u" : Str), ("v" : Str), ("level" : Str), ("a" : Str), ("c" : Str), ("less" : Str), ("more" : Str)] by decide +kernel) rfl (Or.inl rfl)) gs_nil)))) (fun _ _ _ _ => p_st0 rfl (e_meth MLevel_number_of Fr.pass1 hr (dv 2) (a_cons (d_op op_add r_add (d_op Fr.op_mulW r_mul (dv 0) (dv 5)) (d_op Fr.op_mulW r_mul (dv 1) (dv 3))) (a_cons (d_op op_sub r_sub (d_op Fr.op_mulW r_mul (dv 1) (dv 6)) (d_op Fr.op_mulW r_mul (dv 0) (dv 4))) a_nil Fr.star_bin) Fr.star_bin)))) (b_one (s_ret (D3.toE (d_callB call_len_seq cr_len rfl T.len PySem.boot_len (a_cons (E3.toD (e_comp rfl (I3.toC (i_enum rfl T.enumerate (a_cons (dv 8) a_nil Fr.star_name))) (Fr.frokV (xs := ["number", "other"]) (fr := []) (sc := defScope sStays) (N := ["level", "form", "t", "a", "b", "c", "less", "more", "led_to"]) rfl rfl (by decide +kernel)) (fun _ _ _ _ => (g_tup (n := 2) rfl (gs_cons (g_name 0 (show List.Nodup [("number" : Str), ("other" : Str)] by decide +kernel) rfl (Or.inl rfl)) (gs_cons (g_name 1 (show List.Nodup [("number" : Str), ("other" : Str)] by decide +kernel) rfl (Or.inl rfl)) gs_nil)))) (fun _ _ _ _ => p_st1 rfl (D3.toE (dv 0)) (c_cmp op_eq r_eq (dv 0) (dv 1) (nomark _))))) a_nil)))))))), fun δ Q Z h => ?_⟩
  obtain ⟨x, y, t, rfl, n, a, b, c, hx, e, hf, q⟩ := iv_ddi h
  subst e
  obtain ⟨kvs, rfl, hk, n1, n2⟩ := id hx
  have dv : ∀ z : Int, DivM z 2 := fun z => ⟨by decide, by decide⟩
  have hb := hf.bb
  have ht := hf.bt
  have f1 : Fit ((t - b) / 2) := fitE' (B := 101) (by omega) (by decide)
  have f2 : Fit ((t + b) / 2) := fitE' (B := 101) (by omega) (by decide)
  have f3 : Fit a := fitE' hf.ba (by decide)
  have f4 : Fit c := fitE' hf.bc (by decide)
  have ln : (prsD (syms n)).length = (syms n).length := List.length_map _
  have lb : (syms n).length ≤ 2304 := by
    have h1 : (syms n).length ≤ n * n := symT_len n (n * n)
    exact Nat.le_trans h1 (Nat.mul_le_mul n2 n2)
  walk_at "w"
  refine ⟨dv _, ?_⟩
  walk_at "w"
  refine ⟨dv _, ?_⟩
  walk_at "w"
  refine ⟨⟨rfl, rfl⟩, n, hx, ?_⟩
  walk_at "w"
  refine ⟨by omega, ?_⟩
  refine compL_map2 (l := [.d (.obj C (levF n kvs)), .d (.int a), .d (.int c), .d (.int ((t - b) / 2)), .d (.int ((t + b) / 2))]) rfl (ldF n a b c t) (fun x hx' => ?_) ?_
  · unfold prsD at hx'
    obtain ⟨s, hs, rfl⟩ := List.mem_map.mp hx'
    have hR := sym_inR hs
    have fu : Fit (s.1 : Int) := fitN (by have := hR.1; omega)
    have fv : Fit (s.2 : Int) := fitN (by have := hR.2; omega)
    obtain ⟨j, hj⟩ := num_some n1 n2 (rsT_inR n1 _ _) (fm_good n1 hf hs)
    refine ⟨natD s.1, natD s.2, rfl, fun P p => ?_⟩
    walk_at "w"
    refine ⟨⟨rfl, rfl⟩, ⟨fu, f1⟩, ?_⟩
    walk_at "w"
    refine ⟨⟨fv, f3⟩, ?_⟩
    walk_at "w"
    refine ⟨⟨fv, f2⟩, ?_⟩
    walk_at "w"
    refine ⟨⟨fu, f4⟩, ?_⟩
    walk_at "w"
    refine ⟨n, hx, fun i hi => ?_, fun z => ?_⟩
    · have hi' : numIn n (syms n) (rsT n (s.1 * ((t - b) / 2) + s.2 * a) (s.2 * ((t + b) / 2) - s.1 * c)) = some i := hi
      have p' : P (some (D.int (((numIn n (syms n) (rsT n (s.1 * ((t - b) / 2) + s.2 * a) (s.2 * ((t + b) / 2) - s.1 * c))).getD 0 : Nat) : Int))) _ := p
      rw [hi'] at p'
      exact p'
    · have z' : numIn n (syms n) (rsT n (s.1 * ((t - b) / 2) + s.2 * a) (s.2 * ((t + b) / 2) - s.1 * c)) = none := z
      rw [hj] at z'
      cases z'
  walk_at "w"
  refine ⟨by rw [enumD_len, List.length_map]; omega, ?_⟩
  refine compL_fmap2 (l := []) rfl ownF (fun x hx' => ?_) ?_
  · obtain ⟨i, hi⟩ := List.getElem?_of_mem hx'
    obtain ⟨y, hy, rfl⟩ := enumD_at hi
    rw [ldF_all, List.getElem?_map] at hy
    obtain ⟨s, hs, rfl⟩ := Option.map_eq_some_iff.mp hy
    refine ⟨_, _, rfl, fun P p => ?_⟩
    walk_at "w"
    refine brd (fun c' => ?_) (fun c' => ?_)
    · have e : ownF (.tup [.int (i : Nat), .int (ldN n a b c t s.1 s.2 : Nat)]) = some (.int (i : Nat)) := if_pos c'
      rw [e] at p
      exact p
    · have e : ownF (.tup [.int (i : Nat), .int (ldN n a b c t s.1 s.2 : Nat)]) = none := if_neg c'
      rw [e] at p
      exact p
  · have e := ld_len n1 n2 hf
    walk_at "w"
    rw [e]
    exact q _
end
end Fr

set_option Elab.async false
set_option linter.all false
set_option maxRecDepth 100000
set_option maxHeartbeats 1000000
namespace Fr
open PySem L2 L3
local macro_rules | `(tactic| walk_at "w") => `(tactic| conv => whnf)
local macro_rules | `(tactic| walk_at "v") => `(tactic| ((conv => whnf); repeat ((refine ⟨_, rfl, ?_⟩); (conv => whnf))))
local macro_rules | `(tactic| walk_at "m") => `(tactic| ((repeat ((conv => whnf); (refine ⟨⟨by assumption, by assumption⟩, ?_⟩))); (conv => whnf)))
abbrev sIsDeed : Stmt := top 22
abbrev sCheckDeed : Stmt := top 23
abbrev sSquare : Stmt := top 30
abbrev sFormT : Stmt := top 31
abbrev sEndT : Stmt := top 32
abbrev sToldBy : Stmt := top 33
def inLI : D → D → (D → Prop) → Prop := fun x y P => ∃ (i : Int) (ks : List Int), x = .int i ∧ y = .lst (ks.map D.int) ∧ P (.bl (ks.any fun k => k == i))
theorem r_inL {K : PySem.W.Frag} : R3 K (rIn K false) inLI := by
  intro F H x y v u Q P fh rx ry h q
  obtain ⟨i, ks, rfl, rfl, p⟩ := h
  obtain ⟨a, xs, rfl, hs, rs⟩ := ry.inv_lst
  cases rx
  obtain ⟨h1, h2⟩ := ints_rp i rs
  exact ⟨a, xs, rfl, .inl (SqL.of (fh _ _ hs)), rfl, h1, by rw [if_neg (by decide), h2]; exact q _ _ p (.bl _)⟩
def spIsDeed : Sp3 := fun δ Q _ => match δ with
  | [.d (.int m)] => (1 ≤ m ∧ m ≤ 20) ∧ Q (.d (.bl true)) none
  | _ => False
def spCheckDeed : Sp3 := fun δ Q _ => match δ with
  | [.d (.int m)] => (1 ≤ m ∧ m ≤ 20) ∧ Q (.d .non) none
  | _ => False
def sqT (n m : Nat) : Nat := if sqB m = true then scN n else 0
def spSquare : Sp3 := fun δ Q _ => match δ with
  | [.d (.int i), .d (.int j)] => ∃ n m : Nat, i = n ∧ j = m ∧ 1 ≤ n ∧ n ≤ 48 ∧ 1 ≤ m ∧ m ≤ 20 ∧ ∀ ob, Q (.d (natD (sqT n m))) ob
  | _ => False
def spFormT (C : Addr) : Sp3 := fun δ Q _ => match δ with
  | [.d x, .d (.int j)] => ∃ n m : Nat, IsLev C n x ∧ j = m ∧ 1 ≤ m ∧ m ≤ 20 ∧ Nat.gcd m n = 1 ∧ ∀ ob, Q (.d (.int (FT n m))) ob
  | _ => False
def spEndT : Sp3 := fun δ Q _ => match δ with
  | [.d (.int i), .d (.int j)] => ∃ n m : Nat, i = n ∧ j = m ∧ 1 ≤ n ∧ n ≤ 48 ∧ 1 ≤ m ∧ m ≤ 20 ∧ ∀ ob, Q (.d (.int (6 * (BD n m : Int)))) ob
  | _ => False
/-- what is told -/
def toldN (n m : Nat) : Int := ((sqT n m : Int) - FT n m - 6 * (BD n m : Int)) / 12 + ((divs m).sum : Int)
def spToldBy (C : Addr) : Sp3 := fun δ Q _ => match δ with
  | [.d x, .d (.int j)] => ∃ n m : Nat, IsLev C n x ∧ j = m ∧ 1 ≤ m ∧ m ≤ 20 ∧ Nat.gcd m n = 1 ∧ ∀ ob, Q (.d (.int (toldN n m))) ob
  | _ => False
def sqF : D → D
  | .int r => .int (r * r)
  | y => y
theorem sqF_all (m : Nat) : (rngD 1 m).map sqF = ((List.range m).map fun r : Nat => (1 + (r : Int)) * (1 + (r : Int))).map D.int := by
  unfold rngD
  rw [List.map_map, List.map_map]
  rfl
theorem sq_any (m : Nat) : (((List.range m).map fun r : Nat => (1 + (r : Int)) * (1 + (r : Int))).any fun k => k == (m : Int)) = sqB m := by
  unfold sqB
  rw [List.any_map]
  congr 1
  funext r
  show ((1 + (r : Int)) * (1 + (r : Int)) == (m : Int)) = ((r + 1) * (r + 1) == m)
  have e : (1 + (r : Int)) * (1 + (r : Int)) = (((r + 1) * (r + 1) : Nat) : Int) := by
    rw [Int.natCast_mul, show (1 : Int) + (r : Int) = ((r + 1 : Nat) : Int) by omega]
  rw [e, Bool.eq_iff_iff, beq_iff_eq, beq_iff_eq]
  exact ⟨fun h => by omega, fun h => by omega⟩
theorem fms_mem {s : Int} {t : List Int} (h : t ∈ fms s) : ∃ a b c : Int, t = [a, b, c] ∧ 1 ≤ a ∧ b * b - 4 * a * c = s := by
  unfold fms fmA at h
  obtain ⟨i, _, h⟩ := List.mem_flatMap.mp h
  unfold fmR at h
  obtain ⟨j, _, h⟩ := List.mem_filterMap.mp h
  unfold fm1 at h
  split at h
  · rename_i c1
    split at h
    · cases h
      refine ⟨_, _, _, rfl, by omega, ?_⟩
      generalize 0 - ((i + 1 : Nat) : Int) + (j : Int) = b at *
      have e := Int.emod_add_mul_ediv (b * b - s) (4 * ((i + 1 : Nat) : Int))
      rw [c1] at e
      generalize 4 * ((i + 1 : Nat) : Int) * ((b * b - s) / (4 * ((i + 1 : Nat) : Int))) = z at *
      omega
    · cases h
  · cases h
theorem take_sumN {α : Type} (f : α → Nat) {l : List α} {k : Nat} {x : α} (h : l[k]? = some x) : ((l.take (k + 1)).map f).sum = ((l.take k).map f).sum + f x := by
  rw [List.take_succ, h, List.map_append, List.sum_append]
  simp
theorem cop_fac (g : Nat) : (fac g).length = cop g := by
  unfold fac cop
  rw [List.filter_map, List.length_map]
  rfl
def pS (f : Int → Int) (lo : Int) (i : Nat) : Int := ((List.range i).map fun k : Nat => f (lo + (k : Int))).sum
theorem pS_succ (f : Int → Int) (lo : Int) (i : Nat) : pS f lo (i + 1) = pS f lo i + f (lo + (i : Int)) := by
  unfold pS
  rw [List.range_succ, List.map_append, List.sum_append, List.map_singleton, List.sum_singleton]
theorem take_sum {α : Type} (f : α → Int) {l : List α} {k : Nat} {x : α} (h : l[k]? = some x) : ((l.take (k + 1)).map f).sum = ((l.take k).map f).sum + f x := by
  rw [List.take_succ, h, List.map_append, List.sum_append]
  simp
theorem sz_of {t : Int} {m : Nat} (c : t * t < 4 * (m : Int)) (m1 : 1 ≤ m) (m2 : m ≤ 20) : Sz (t * t - 4 * m) := by
  have h0 : 0 ≤ t * t := by
    rcases Int.le_total 0 t with h | h
    · exact Int.mul_nonneg h h
    · exact Int.mul_nonneg_of_nonpos_of_nonpos h h
  have h4 : (t * t) % 4 = 0 ∨ (t * t) % 4 = 1 := by
    rcases (by omega : t % 2 = 0 ∨ t % 2 = 1) with h | h
    · obtain ⟨p, rfl⟩ : ∃ p, t = 2 * p := ⟨t / 2, by omega⟩
      have e : 2 * p * (2 * p) = 4 * (p * p) := by grind
      omega
    · obtain ⟨p, rfl⟩ : ∃ p, t = 2 * p + 1 := ⟨t / 2, by omega⟩
      have e : (2 * p + 1) * (2 * p + 1) = 4 * (p * p + p) + 1 := by grind
      omega
  refine ⟨by omega, ?_, by omega⟩
  omega
theorem fxs_len (n : Nat) (a b c : Int) (n1 : 1 ≤ n) (n2 : n ≤ 48) : fxs n a b c ≤ 48 * 48 := by
  refine Nat.le_trans ?_ (Nat.mul_le_mul n2 n2)
  unfold fxs
  refine Nat.le_trans (List.length_filter_le _ _) ?_
  unfold syms symT
  refine Nat.le_trans (List.length_filter_le _ _) ?_
  simp
theorem fm_facts {n m : Nat} {a b c t : Int} (ok : fmOk [a, b, c] = true) (ds : b * b - 4 * a * c = t * t - 4 * m) (tb : t.natAbs ≤ 40) (hg : Nat.gcd m n = 1) : FmOk n a b c t ∧ wgt a b c * (24 / (shr a b c : Int)) = 12 := by
  unfold fmOk at ok
  simp only [Bool.and_eq_true, decide_eq_true_eq] at ok
  obtain ⟨⟨⟨⟨o1, o2⟩, o3⟩, o4⟩, o5⟩ := ok
  have ev : (t - b) % 2 = 0 := by
    rcases (by omega : t % 2 = 0 ∨ t % 2 = 1) with h | h <;> rcases (by omega : b % 2 = 0 ∨ b % 2 = 1) with h' | h'
    · omega
    · exfalso
      obtain ⟨p, rfl⟩ : ∃ p, t = 2 * p := ⟨t / 2, by omega⟩
      obtain ⟨r, rfl⟩ : ∃ r, b = 2 * r + 1 := ⟨b / 2, by omega⟩
      have e1 : 2 * p * (2 * p) = 4 * (p * p) := by grind
      have e2 : (2 * r + 1) * (2 * r + 1) = 4 * (r * r + r) + 1 := by grind
      have e3 : 4 * a * c = 4 * (a * c) := by grind
      omega
    · exfalso
      obtain ⟨p, rfl⟩ : ∃ p, t = 2 * p + 1 := ⟨t / 2, by omega⟩
      obtain ⟨r, rfl⟩ : ∃ r, b = 2 * r := ⟨b / 2, by omega⟩
      have e1 : 2 * r * (2 * r) = 4 * (r * r) := by grind
      have e2 : (2 * p + 1) * (2 * p + 1) = 4 * (p * p + p) + 1 := by grind
      have e3 : 4 * a * c = 4 * (a * c) := by grind
      omega
    · omega
  refine ⟨⟨by omega, by omega, by omega, by omega, ev, ?_⟩, o2⟩
  obtain ⟨k, hk⟩ : ∃ k, t = b + 2 * k := ⟨(t - b) / 2, by omega⟩
  have e1 : (t - b) / 2 = k := by omega
  have e2 : (t + b) / 2 = b + k := by omega
  have e3 : k * (b + k) + c * a = (m : Int) := by
    subst hk
    have : 4 * (k * (b + k) + c * a) = 4 * (m : Int) := by grind
    omega
  rw [e1, e2, e3]
  exact hg
section
variable {P : Program} {w : World} {K : PySem.W.Frag} {mg : Str → Option Value} {base : Heap} {f : Addr} {fd : FuncData}
theorem scIsDeed : FnScope ["thing"] ["thing"] (defScope sIsDeed) := ⟨rfl, rfl, rfl, by decide +kernel, rfl, by decide +kernel, by decide +kernel⟩
theorem ok_isDeed (F : Fun K "is_deed" "is_deed" sIsDeed f fd) (T : Bt mg) {tk : Tok} (mD : mg "LAST_DEED" = some (.int 20 tk)) (Ois_whole : Own3 P w K mg base 1 "is_whole" ["thing"] spWhole) : FnOk P w K mg base (CX1 P w) 2 f fd ["thing"] (lsp K spIsDeed) := by
  refine ok3 F scIsDeed (fun δ Q Z h => ln_i h) fun cdv A outer s H E hr => ?_
  have nd := scIsDeed.nd
  refine ⟨_, (b_one (s_ret (D3.toE (d_and (E3.toD (e_call Ois_whole Fr.pass_on hr rfl (a_cons (dv 0) a_nil Fr.star_name))) (d_one (d_chain op_le op_le r_le r_le d_int (dv 0) (d_globI rfl mD))))))), fun δ Q Z h => ?_⟩
  obtain ⟨m, rfl, ⟨m1, m2⟩, q⟩ := iv_i h
  refine ⟨rfl, ?_⟩
  walk_at "w"
  refine brd (fun c => ?_) (fun c => absurd m1 c)
  walk_at "w"
  have e : decide (m ≤ 20) = true := decide_eq_true m2
  rw [← e] at q
  exact q
theorem scCheckDeed : FnScope ["thing"] ["thing"] (defScope sCheckDeed) := ⟨rfl, rfl, rfl, by decide +kernel, rfl, by decide +kernel, by decide +kernel⟩
theorem ok_checkDeed (F : Fun K "check_deed" "check_deed" sCheckDeed f fd) (T : Bt mg) {gD : Addr} (m_NoDeed : mg "NoDeed" = some (.ref gD)) (q_NoDeed : PySem.W.excIn K gD bmVE "ValueError.__new__" = true) (Ois_deed : Own3 P w K mg base 2 "is_deed" ["thing"] spIsDeed) : FnOk P w K mg base (CX1 P w) 3 f fd ["thing"] (lsp K spCheckDeed) := by
  refine ok3 F scCheckDeed (fun δ Q Z h => ln_i h) fun cdv A outer s H E hr => ?_
  have nd := scCheckDeed.nd
  refine ⟨_, (b_one (s_if (c_not (c_val (E3.toD (e_call Ois_deed Fr.pass_on hr rfl (a_cons (dv 0) a_nil Fr.star_name))))) (b_one (s_raise rfl m_NoDeed q_NoDeed (a_cons d_str a_nil Fr.star_const))) b_nil)), fun δ Q Z h => ?_⟩
  obtain ⟨m, rfl, hm, q⟩ := iv_i h
  refine ⟨hm, ?_⟩
  exact q
theorem scSquare : FnScope ["n", "m"] ["n", "m"] (defScope sSquare) := ⟨rfl, rfl, rfl, by decide +kernel, rfl, by decide +kernel, by decide +kernel⟩
theorem ok_square (F : Fun K "square_twelfths" "square_twelfths" sSquare f fd) (T : Bt mg) {gN : Addr} (Osymbols_counted : Own3 P w K mg base 4 "symbols_counted" ["n"] (spSymCount gN)) : FnOk P w K mg base (CX1 P w) 5 f fd ["n", "m"] (lsp K spSquare) := by
  refine ok3 F scSquare (fun δ Q Z h => ln_ii h) fun cdv A outer s H E hr => ?_
  have nd := scSquare.nd
  have hu := units1 hr
  refine ⟨_, (b_cons (s_if (c_cmp L2.op_in_seq r_inL (dv 1) (E3.toD (e_comp rfl (I3.toC (i_range2 rfl T.range (a_cons d_int (a_cons (d_op op_add r_add (dv 1) d_int) a_nil Fr.star_bin) Fr.star_const))) (Fr.frokV (xs := ["root"]) (fr := []) (sc := defScope sSquare) (N := ["n", "m"]) rfl rfl (by decide +kernel)) (fun _ _ _ _ => (g_name 0 (show List.Nodup [("root" : Str)] by decide +kernel) rfl (Or.inl rfl))) (fun _ _ _ _ => p_st0 rfl (D3.toE (d_op Fr.op_mulW r_mul (dv 0) (dv 0)))))) rfl) (b_one (s_ret (e_call Osymbols_counted Fr.pass_on hr rfl (a_cons (dv 0) a_nil Fr.star_name)))) b_nil) (b_one (s_ret (D3.toE d_int)))), fun δ Q Z h => ?_⟩
  obtain ⟨i, j, rfl, n, m, e1, e2, n1, n2, m1, m2, q⟩ := iv_ii h
  subst e1 e2
  walk_at "w"
  refine ⟨⟨⟨by decide, by decide⟩, ⟨by omega, by omega⟩⟩, ?_⟩
  walk_at "w"
  have en : ((m : Int) + 1 - 1).toNat = m := by omega
  rw [en]
  refine ⟨by rw [rngD_len]; omega, compL_map (l := []) rfl sqF (fun x hx P p => ?_) ?_⟩
  · obtain ⟨r, hr', rfl⟩ := rng_mem2 hx
    have fr : Fit (1 + (r : Int)) := fitI (by omega)
    walk_at "w"
    exact ⟨⟨fr, fr⟩, p⟩
  · refine ⟨m, _, rfl, congrArg D.lst (sqF_all m), ?_⟩
    rw [sq_any]
    walk_at "w"
    have notL : ¬ lvl (natD n) = false := fun z => absurd z (by show ¬ ((decide ((1 : Int) ≤ (n : Int)) && decide ((n : Int) ≤ 48)) = false); simp; omega)
    refine br (fun c => ?_) (fun c => ?_)
    · have e : sqT n m = scN n := if_pos c
      rw [e] at q
      walk_at "w"
      refine ⟨rfl, fun n' e' _ _ ob => ?_, fun z => absurd z notL⟩
      have e2 : n = n' := by
        have : (D.int (n : Int)) = D.int (n' : Int) := e'
        injection this with this
        omega
      subst e2
      exact q _
    · have e : sqT n m = 0 := if_neg (by rw [c]; decide)
      rw [e] at q
      exact q _
theorem scFormT : FnScope ["level", "m", "told", "t", "form", "top", "bottom"] ["level", "m"] (defScope sFormT) := ⟨rfl, rfl, rfl, by decide +kernel, rfl, by decide +kernel, by decide +kernel⟩
theorem ok_formT (F : Fun K "form_twelfths" "form_twelfths" sFormT f fd) (T : Bt mg) {C : Addr} (Osmall_forms : Own3 P w K mg base 5 "small_forms" ["size"] spSmall) (Oweight : Own3 P w K mg base 5 "weight" ["form"] spWeight) (Ostays : Own3 P w K mg base 5 "stays" ["level", "form", "t"] (spStays C)) : FnOk P w K mg base (CX1 P w) 6 f fd ["level", "m"] (lsp K (spFormT C)) := by
  refine ok3 F scFormT (fun δ Q Z h => ln_di h) fun cdv A outer s H E hr => ?_
  have nd := scFormT.nd
  refine ⟨_, (b_cons (s_set 2 (by exact nd) rfl (Or.inl rfl) (D3.toE d_int)) (b_cons (s_for PassesOwn.leaving rfl (i_range2 rfl T.range (a_cons (d_op Fr.op_mulW r_mul (d_neg d_int) (dv 1)) (a_cons (d_op op_add r_add (d_op Fr.op_mulW r_mul d_int (dv 1)) d_int) a_nil Fr.star_bin) Fr.star_bin)) (g_name 3 (by exact nd) rfl (Or.inl rfl)) (b_one (s_if (c_cmp op_lt r_lt (d_op Fr.op_mulW r_mul (dv 3) (dv 3)) (d_op Fr.op_mulW r_mul d_int (dv 1)) (nomark _)) (b_one (s_for PassesOwn.leaving rfl (i_list (E3.toD (e_call Osmall_forms Fr.pass_on hr rfl (a_cons (d_op op_sub r_sub (d_op Fr.op_mulW r_mul (dv 3) (dv 3)) (d_op Fr.op_mulW r_mul d_int (dv 1))) a_nil Fr.star_bin)))) (g_name 4 (by exact nd) rfl (Or.inl rfl)) (b_cons (s_asg (E3.toD (e_call Oweight Fr.pass_on hr rfl (a_cons (dv 4) a_nil Fr.star_name))) (g_tup (n := 2) rfl (gs_cons (g_name 5 (by exact nd) rfl (Or.inl rfl)) (gs_cons (g_name 6 (by exact nd) rfl (Or.inl rfl)) gs_nil)))) (b_one (s_aug 2 ip_add (by exact nd) rfl (Or.inl rfl) (d_op Fr.op_fdivP r_fdiv (d_op Fr.op_mulW r_mul (d_op Fr.op_mulW r_mul d_int (dv 5)) (E3.toD (e_call Ostays Fr.pass_on hr rfl (a_cons (dv 0) (a_cons (dv 4) (a_cons (dv 3) a_nil Fr.star_name) Fr.star_name) Fr.star_name)))) (dv 6))))))) b_nil))) (b_one (s_ret (e_move 2))))), fun δ Q Z h => ?_⟩
  obtain ⟨x, j, rfl, n, m, hL, e, m1, m2, hg, q⟩ := iv_di h
  subst e
  have fm : Fit (m : Int) := fitI (by omega)
  have hL' := hL
  obtain ⟨kvs, rfl, hkv, n1, n2⟩ := hL'
  walk_at "w"
  refine ⟨⟨fitI (by decide), fm⟩, ?_⟩
  walk_at "w"
  refine ⟨⟨fitI (by decide), fm⟩, ?_⟩
  walk_at "w"
  refine ⟨⟨⟨by omega, by omega⟩, ⟨by omega, by omega⟩⟩, ?_⟩
  have en : (2 * (m : Int) + 1 - -2 * (m : Int)).toNat = 4 * m + 1 := by omega
  dsimp only
  rw [en]
  refine forL_range (fun i δ => ∃ s3 s4 s5 s6, δ = [.d (.obj C (levF n kvs)), .d (.int (m : Int)), .d (.int (pS (tF n m) (-2 * (m : Int)) i)), s3, s4, s5, s6]) ⟨_, _, _, _, rfl⟩ ?_ ?_
  · rintro i δ N hi ⟨s3, s4, s5, s6, rfl⟩ hNN
    have es := pS_succ (tF n m) (-2 * (m : Int)) i
    generalize ht : -2 * (m : Int) + (i : Int) = t at es
    have tb : t.natAbs ≤ 40 := by omega
    have ft : Fit t := fitI (by omega)
    walk_at "w"
    refine ⟨⟨ft, ft⟩, ?_⟩
    walk_at "w"
    refine ⟨⟨fitI (by decide), fm⟩, ?_⟩
    walk_at "w"
    refine brd (fun c => ?_) (fun c => ?_)
    · have eF : tF n m t = HN n (t * t - 4 * m) := if_pos c
      have sz := sz_of c m1 m2
      walk_at "w"
      refine ⟨⟨ft, ft⟩, ?_⟩
      walk_at "w"
      refine ⟨⟨fitI (by decide), fm⟩, ?_⟩
      walk_at "w"
      refine ⟨sz, fun ob => ?_⟩
      refine forL_inv (fun k δ => ∃ s4 s5 s6, δ = [.d (.obj C (levF n kvs)), .d (.int (m : Int)), .d (.int (pS (tF n m) (-2 * (m : Int)) i + (((fms (t * t - 4 * m)).take k).map (hN n)).sum)), .d (.int t), s4, s5, s6]) ⟨_, _, _, by rw [List.take_zero]; show _ = [_, _, Sl.d (.int (_ + 0)), _, _, _, _]; rw [Int.add_zero]; rfl⟩ ?_ ?_
      · rintro k x δ N2 hx ⟨s4, s5, s6, rfl⟩ hN2
        rw [List.getElem?_map] at hx
        obtain ⟨t', ht', rfl⟩ := Option.map_eq_some_iff.mp hx
        obtain ⟨a, b, c', rfl, a1, ds⟩ := fms_mem (List.mem_of_getElem? ht')
        have ok := (sz_at sz).2.2.1 _ (List.mem_of_getElem? ht')
        obtain ⟨fo, fx⟩ := fm_facts (n := n) ok ds tb hg
        have e2 := take_sum (hN n) ht'
        have wp := wgt_pos a b c'
        have w3 : wgt a b c' ≤ 3 := by unfold wgt; split; decide; split <;> decide
        walk_at "w"
        refine ⟨a, b, c', rfl, fun ob => ?_⟩
        walk_at "w"
        refine ⟨⟨fitI (by decide), fitI (by decide)⟩, ?_⟩
        walk_at "w"
        refine ⟨n, a, b, c', hL, rfl, fo, fun ob => ?_⟩
        walk_at "w"
        refine ⟨⟨fitI (by decide), fitI (by have := fxs_len n a b c' n1 n2; omega)⟩, ?_⟩
        walk_at "w"
        refine ⟨⟨wp, by omega⟩, ?_⟩
        refine hN2 _ ⟨.d (tupI [a, b, c']), .d (.int 1), .d (.int (wgt a b c')), ?_⟩
        rw [e2, ← Int.add_assoc]
        rfl
      · rintro δ ⟨s4, s5, s6, rfl⟩
        rw [List.length_map, List.take_length]
        refine hNN _ ⟨.d (.int t), s4, s5, s6, ?_⟩
        rw [es, eF]
        rfl
    · have eF : tF n m t = 0 := if_neg c
      refine hNN _ ⟨.d (.int t), s4, s5, s6, ?_⟩
      rw [es, eF, Int.add_zero]
      rfl
  · rintro δ ⟨s3, s4, s5, s6, rfl⟩
    have e : pS (tF n m) (-2 * (m : Int)) (4 * m + 1) = FT n m := by
      unfold FT tsP pS
      rw [List.map_map]
      rfl
    rw [e]
    exact q _
theorem scEndT : FnScope ["n", "m", "told", "d", "c", "g"] ["n", "m"] (defScope sEndT) := ⟨rfl, rfl, rfl, by decide +kernel, rfl, by decide +kernel, by decide +kernel⟩
theorem ok_endT (F : Fun K "end_twelfths" "end_twelfths" sEndT f fd) (T : Bt mg) (Odivisors : Own3 P w K mg base 1 "divisors" ["number"] spDivs) (Ocommon_divisor : Own3 P w K mg base 1 "common_divisor" ["one", "other"] spDivisor) : FnOk P w K mg base (CX1 P w) 2 f fd ["n", "m"] (lsp K spEndT) := by
  refine ok3 F scEndT (fun δ Q Z h => ln_ii h) fun cdv A outer s H E hr => ?_
  have nd := scEndT.nd
  have hu := units1 hr
  refine ⟨_, (b_cons (s_set 2 (by exact nd) rfl (Or.inl rfl) (D3.toE d_int)) (b_cons (s_for PassesOwn.leaving rfl (i_list (E3.toD (e_call Odivisors Fr.pass_on hr rfl (a_cons (dv 1) a_nil Fr.star_name)))) (g_name 3 (by exact nd) rfl (Or.inl rfl)) (b_one (s_for PassesOwn.leaving rfl (i_list (E3.toD (e_call Odivisors Fr.pass_on hr rfl (a_cons (dv 0) a_nil Fr.star_name)))) (g_name 4 (by exact nd) rfl (Or.inl rfl)) (b_cons (s_set 5 (by exact nd) rfl (Or.inr rfl) (e_call Ocommon_divisor Fr.pass_on hr rfl (a_cons (dv 4) (a_cons (d_op Fr.op_fdivP r_fdiv (dv 0) (dv 4)) a_nil Fr.star_bin) Fr.star_name))) (b_one (s_if (c_cmp op_eq r_eq (d_op op_mod r_mod (d_op op_sub r_sub (d_op Fr.op_fdivP r_fdiv (dv 1) (dv 3)) (dv 3)) (dv 5)) d_int (nomark _)) (b_one (s_aug 2 ip_add (by exact nd) rfl (Or.inl rfl) (d_op Fr.op_mulW r_mul (d_op Fr.op_mulW r_mul d_int (d_callB (call_min2 rfl) cr_two rfl T.min PyProof.Rows.boot_min (a_cons (dv 3) (a_cons (d_op Fr.op_fdivP r_fdiv (dv 1) (dv 3)) a_nil Fr.star_bin) Fr.star_name))) (d_callB call_len_seq cr_len rfl T.len PySem.boot_len (a_cons (E3.toD (e_comp rfl (I3.toC (i_range2 rfl T.range (a_cons d_int (a_cons (d_op op_add r_add (dv 5) d_int) a_nil Fr.star_bin) Fr.star_const))) (Fr.frokV (xs := ["k"]) (fr := [("g", 5)]) (sc := defScope sEndT) (N := ["n", "m", "told", "d", "c", "g"]) rfl rfl (by decide +kernel)) (fun _ _ _ _ => (g_name 0 (show List.Nodup [("k" : Str), ("g" : Str)] by decide +kernel) rfl (Or.inl rfl))) (fun _ _ _ _ => p_st1 rfl (D3.toE (dv 0)) (c_cmp op_eq r_eq (E3.toD (e_call Ocommon_divisor Fr.pass1 hr rfl (a_cons (dv 0) (a_cons (dv 1) a_nil Fr.star_name) Fr.star_name))) d_int (nomark _))))) a_nil))))) b_nil)))))) (b_one (s_ret (e_move 2))))), fun δ Q Z h => ?_⟩
  obtain ⟨i, j, rfl, n, m, e1, e2, n1, n2, m1, m2, q⟩ := iv_ii h
  subst e1 e2
  walk_at "w"
  refine ⟨m, rfl, by omega, ?_⟩
  refine forL_inv (fun k δ => ∃ s3 s4 s5, δ = [.d (.int (n : Int)), .d (.int (m : Int)), .d (.int (6 * ((((divs m).take k).map fun d => ((divs n).map fun c => edT n m d c).sum).sum : Nat))), s3, s4, s5]) ⟨_, _, _, rfl⟩ ?_ ?_
  · rintro k x δ N hx ⟨s3, s4, s5, rfl⟩ hNN
    rw [List.getElem?_map] at hx
    obtain ⟨d, hd, rfl⟩ := Option.map_eq_some_iff.mp hx
    have hdm := divs_mem (List.mem_of_getElem? hd)
    have e2 := take_sumN (fun d => ((divs n).map fun c => edT n m d c).sum) hd
    generalize (((divs m).take k).map fun d => ((divs n).map fun c => edT n m d c).sum).sum = S0 at e2
    walk_at "w"
    refine ⟨n, rfl, by omega, ?_⟩
    refine forL_inv (fun k δ => ∃ s4 s5, δ = [.d (.int (n : Int)), .d (.int (m : Int)), .d (.int (6 * ((S0 + (((divs n).take k).map fun c => edT n m d c).sum : Nat) : Int))), .d (natD d), s4, s5]) ⟨_, _, rfl⟩ ?_ ?_
    · rintro k2 x δ N2 hx2 ⟨s4, s5, rfl⟩ hN2
      rw [List.getElem?_map] at hx2
      obtain ⟨c, hc, rfl⟩ := Option.map_eq_some_iff.mp hx2
      have hcm := divs_mem (List.mem_of_getElem? hc)
      have e3 := take_sumN (fun c => edT n m d c) hc
      have dvd' : DivM (m : Int) (d : Int) := ⟨by omega, by omega⟩
      walk_at "w"
      refine ⟨⟨by omega, by omega⟩, ?_⟩
      walk_at "w"
      generalize hgd : Int.gcd (c : Int) ((n : Int) / (c : Int)) = g
      have hg1 : g = Nat.gcd c (n / c) := hgd.symm
      have g0 : 0 < g := by rw [hg1]; exact Nat.gcd_pos_of_pos_left _ (by omega)
      have g2 : g ≤ 48 := by rw [hg1]; exact Nat.le_trans (Nat.gcd_le_left _ (by omega)) (by omega)
      refine ⟨dvd', ?_⟩
      walk_at "w"
      refine ⟨(by show (0 : Int) < (g : Int); omega), ?_⟩
      walk_at "w"
      have emd : (m : Int) / (d : Int) = ((m / d : Nat) : Int) := rfl
      have mdl : m / d ≤ m := Nat.div_le_self m d
      have hmin : min d (m / d) ≤ d := Nat.min_le_left _ _
      refine brd (fun cc => ?_) (fun cc => ?_)
      · have eE : edT n m d c = min d (m / d) * cop g := by rw [hg1]; exact if_pos (by rw [← hg1]; exact cc)
        have emn : (if (m : Int) / (d : Int) < (d : Int) then (m : Int) / (d : Int) else (d : Int)) = ((min d (m / d) : Nat) : Int) := by
          rw [emd]
          split <;> omega
        generalize min d (m / d) = mn at eE emn hmin
        walk_at "w"
        refine ⟨dvd', ?_⟩
        walk_at "w"
        refine ⟨⟨fitI (by decide), fitI (by show (if (m : Int) / (d : Int) < (d : Int) then (m : Int) / (d : Int) else (d : Int)).natAbs < _; rw [emn]; omega)⟩, ?_⟩
        walk_at "w"
        refine ⟨⟨⟨by decide, by decide⟩, ⟨by omega, by omega⟩⟩, ?_⟩
        walk_at "w"
        have en : ((g : Int) + 1 - 1).toNat = g := by omega
        rw [en]
        refine ⟨by rw [rngD_len]; omega, compL_fmap (l := [.d (.int (g : Int))]) rfl (fcF g) (fun x hx P p => ?_) ?_⟩
        · obtain ⟨r, hr', rfl⟩ := rng_mem2 hx
          walk_at "w"
          refine brd (fun c => ?_) (fun c => ?_)
          · have c' : Int.gcd (1 + (r : Int)) g = 1 := by omega
            have e : fcF g (.int (1 + (r : Int))) = some (.int (1 + (r : Int))) := if_pos c'
            rw [e] at p
            exact p
          · have c' : ¬ Int.gcd (1 + (r : Int)) g = 1 := by omega
            have e : fcF g (.int (1 + (r : Int))) = none := if_neg c'
            rw [e] at p
            exact p
        · have el : ((rngD 1 g).filterMap (fcF g)).length = cop g := by rw [facD, List.length_map, cop_fac]
          have cl : cop g ≤ g := by unfold cop; exact Nat.le_trans (List.length_filter_le _ _) (by simp)
          generalize (rngD 1 g).filterMap (fcF g) = ds at el
          walk_at "w"
          refine ⟨⟨fitI (by show (6 * (if (m : Int) / (d : Int) < (d : Int) then (m : Int) / (d : Int) else (d : Int))).natAbs < _; rw [emn]; omega), fitI (by rw [el]; omega)⟩, ?_⟩
          refine hN2 _ ⟨.d (natD c), .d (.int (g : Int)), ?_⟩
          rw [e3, eE, ← el]
          show [_, _, Sl.d (.int (6 * _ + 6 * (if (m : Int) / (d : Int) < (d : Int) then (m : Int) / (d : Int) else (d : Int)) * ((ds.length : Nat) : Int))), _, _, _] = _
          rw [emn]
          have e9 : 6 * ((S0 + (((divs n).take k2).map fun c => edT n m d c).sum : Nat) : Int) + 6 * ((mn : Nat) : Int) * ((ds.length : Nat) : Int) = 6 * ((S0 + ((((divs n).take k2).map fun c => edT n m d c).sum + mn * ds.length) : Nat) : Int) := by
            simp only [Int.natCast_add, Int.natCast_mul, Int.mul_add, Int.mul_assoc, Int.add_assoc]
          rw [e9]
          rfl
      · have eE : edT n m d c = 0 := if_neg (by rw [← hg1]; exact cc)
        refine hN2 _ ⟨.d (natD c), .d (.int (g : Int)), ?_⟩
        rw [e3, eE, Nat.add_zero]
        rfl
    · rintro δ ⟨s4, s5, rfl⟩
      rw [List.length_map, List.take_length]
      refine hNN _ ⟨.d (natD d), s4, s5, ?_⟩
      rw [e2]
  · rintro δ ⟨s3, s4, s5, rfl⟩
    rw [List.length_map, List.take_length]
    exact q _
theorem scToldBy : FnScope ["level", "m", "n", "twelfths"] ["level", "m"] (defScope sToldBy) := ⟨rfl, rfl, rfl, by decide +kernel, rfl, by decide +kernel, by decide +kernel⟩
theorem ok_toldBy (F : Fun K "told_by_forms" "told_by_forms" sToldBy f fd) (T : Bt mg) {C gP : Addr} (TLevel : LevC K C) (m_NoPart : mg "NoPart" = some (.ref gP)) (q_NoPart : PySem.W.excIn K gP bmVE "ValueError.__new__" = true) (MLevel_number : MtOk P w K mg base 6 C "number" ["self"] (spLNumber C)) (Ocheck_deed : Own3 P w K mg base 6 "check_deed" ["thing"] spCheckDeed) (Ocommon_divisor : Own3 P w K mg base 6 "common_divisor" ["one", "other"] spDivisor)
    (Osquare_twelfths : Own3 P w K mg base 6 "square_twelfths" ["n", "m"] spSquare) (Oform_twelfths : Own3 P w K mg base 6 "form_twelfths" ["level", "m"] (spFormT C)) (Oend_twelfths : Own3 P w K mg base 6 "end_twelfths" ["n", "m"] spEndT) (Odivisors : Own3 P w K mg base 6 "divisors" ["number"] spDivs) : FnOk P w K mg base (CX1 P w) 7 f fd ["level", "m"] (lsp K (spToldBy C)) := by
  refine ok3 F scToldBy (fun δ Q Z h => ln_di h) fun cdv A outer s H E hr => ?_
  have nd := scToldBy.nd
  refine ⟨_, (b_cons (s_expr (e_call Ocheck_deed Fr.pass_on hr rfl (a_cons (dv 1) a_nil Fr.star_name))) (b_cons (s_set 2 (by exact nd) rfl (Or.inl rfl) (e_meth0 MLevel_number Fr.pass_on hr (dv 0))) (b_cons (s_if (c_cmp op_ne r_ne (E3.toD (e_call Ocommon_divisor Fr.pass_on hr rfl (a_cons (dv 1) (a_cons (dv 2) a_nil Fr.star_name) Fr.star_name))) d_int (nomark _)) (b_one (s_raise rfl m_NoPart q_NoPart (a_cons d_str a_nil Fr.star_const))) b_nil) (b_cons (s_set 3 (by exact nd) rfl (Or.inl rfl) (D3.toE (d_op op_sub r_sub (d_op op_sub r_sub (E3.toD (e_call Osquare_twelfths Fr.pass_on hr rfl (a_cons (dv 2) (a_cons (dv 1) a_nil Fr.star_name) Fr.star_name))) (E3.toD (e_call Oform_twelfths Fr.pass_on hr rfl (a_cons (dv 0) (a_cons (dv 1) a_nil Fr.star_name) Fr.star_name)))) (E3.toD (e_call Oend_twelfths Fr.pass_on hr rfl (a_cons (dv 2) (a_cons (dv 1) a_nil Fr.star_name) Fr.star_name)))))) (b_one (s_ret (D3.toE (d_op op_add r_add (d_op Fr.op_fdivP r_fdiv (dv 3) d_int) (d_callB (Fr.call_sumI rfl) cr_sum rfl T.sum PyProof.Rows.boot_sum (a_cons (E3.toD (e_call Odivisors Fr.pass_on hr rfl (a_cons (dv 1) a_nil Fr.star_name))) a_nil Fr.star_call)))))))))), fun δ Q Z h => ?_⟩
  obtain ⟨x, j, rfl, n, m, hL, e, m1, m2, hg, q⟩ := iv_di h
  subst e
  have hL' := hL
  obtain ⟨kvs, rfl, hkv, n1, n2⟩ := hL'
  walk_at "w"
  refine ⟨⟨by omega, by omega⟩, ?_⟩
  walk_at "w"
  refine ⟨⟨rfl, rfl⟩, n, hL, ?_⟩
  walk_at "w"
  refine brn (fun c => absurd (by show ((Int.gcd (m : Int) (n : Int) : Nat) : Int) = 1; exact congrArg (fun k : Nat => (k : Int)) hg) c) (fun _ => ?_)
  walk_at "w"
  refine ⟨n, m, rfl, rfl, n1, n2, m1, m2, fun ob => ?_⟩
  walk_at "w"
  refine ⟨n, m, hL, rfl, m1, m2, hg, fun ob => ?_⟩
  walk_at "w"
  refine ⟨n, m, rfl, rfl, n1, n2, m1, m2, fun ob => ?_⟩
  walk_at "w"
  refine ⟨⟨by decide, by decide⟩, ?_⟩
  walk_at "w"
  refine ⟨m, rfl, by omega, ?_⟩
  walk_at "w"
  refine ⟨(divs m).map fun k : Nat => (k : Int), ?_, ⟨?_, fun i hi => ?_⟩, ?_⟩
  · rw [List.map_map]
    rfl
  · rw [List.length_map]
    have := divs_len m
    omega
  · obtain ⟨k, hk, rfl⟩ := List.mem_map.mp hi
    have := divs_mem hk
    omega
  · have e := sum_cast (divs m)
    rw [e]
    exact q _
end
end Fr

set_option Elab.async false
set_option linter.all false
set_option maxRecDepth 100000
set_option maxHeartbeats 1000000
namespace Fr
open PySem L2 L3
local macro_rules | `(tactic| walk_at "w") => `(tactic| conv => whnf)
local macro_rules | `(tactic| walk_at "v") => `(tactic| ((conv => whnf); repeat ((refine ⟨_, rfl, ?_⟩); (conv => whnf))))
local macro_rules | `(tactic| walk_at "m") => `(tactic| ((repeat ((conv => whnf); (refine ⟨⟨by assumption, by assumption⟩, ?_⟩))); (conv => whnf)))
abbrev sLStays : Stmt := top 42
abbrev sLDivs : Stmt := top 43
abbrev sByDiv : Stmt := top 44
abbrev sDue : Stmt := top 45
theorem fil_snoc {α : Type} (p : α → Bool) {l : List α} {i : Nat} {x : α} (h : l[i]? = some x) : ((l.take (i + 1)).filter p).length = ((l.take i).filter p).length + (if p x = true then 1 else 0) := by
  rw [take_snoc h, List.filter_append, List.length_append]
  refine congrArg _ ?_
  by_cases cc : p x = true
  · rw [if_pos cc, List.filter_cons_of_pos cc]; rfl
  · rw [if_neg cc, List.filter_cons_of_neg cc]; rfl
def spLStays : Sp3 := fun δ Q _ => match δ with
  | [.d (.int i), .d l, .d (.dT kvs), .d y, .d (.int t)] => ∃ (n : Nat) (a b c : Int), i = n ∧ 1 ≤ n ∧ n ≤ 48 ∧ l = .lst (prsD (syms n)) ∧ NumsOk n kvs ∧ y = tupI [a, b, c] ∧ FmOk n a b c t ∧ ∀ ob, Q (.d (natD (fxs n a b c))) ob
  | _ => False
def spByDiv : Sp3 := fun δ Q _ => match δ with
  | [.d (.int i), .d (.int j)] => ∃ n m : Nat, i = n ∧ j = m ∧ 1 ≤ n ∧ n ≤ 48 ∧ 1 ≤ m ∧ m ≤ 20 ∧ ∀ ob, Q (.d (natD (BD n m))) ob
  | _ => False
def spDue : Sp3 := fun δ Q _ => match δ with
  | [.d (.int i), .d (.int j)] => ∃ n m : Nat, i = n ∧ j = m ∧ 1 ≤ n ∧ n ≤ 48 ∧ 1 ≤ m ∧ m ≤ 20 ∧ Nat.gcd m n = 1 ∧ ∀ ob, Q (.d (.int (24 * toldN n m))) ob
  | _ => False
section
variable {P : Program} {w : World} {K : PySem.W.Frag} {mg : Str → Option Value} {base : Heap} {f : Addr} {fd : FuncData}
theorem scLDivs : FnScope ["_law_n"] ["_law_n"] (defScope sLDivs) := ⟨rfl, rfl, rfl, by decide +kernel, rfl, by decide +kernel, by decide +kernel⟩
theorem ok_lDivs (F : Fun K "_law_divisors" "_law_divisors" sLDivs f fd) (T : Bt mg) : FnOk P w K mg base (CX1 P w) 1 f fd ["_law_n"] (lsp K spDivs) := by
  refine ok3 F scLDivs (fun δ Q Z h => ln_i h) fun cdv A outer s H E hr => ?_
  have nd := scLDivs.nd
  have hu := units1 hr
  refine ⟨_, (b_one (s_ret (e_comp rfl (I3.toC (i_range2 rfl T.range (a_cons d_int (a_cons (d_op op_add r_add (dv 0) d_int) a_nil Fr.star_bin) Fr.star_const))) (Fr.frokV (xs := ["_law_d"]) (fr := [("_law_n", 0)]) (sc := defScope sLDivs) (N := ["_law_n"]) rfl rfl (by decide +kernel)) (fun _ _ _ _ => (g_name 0 (show List.Nodup [("_law_d" : Str), ("_law_n" : Str)] by decide +kernel) rfl (Or.inl rfl))) (fun _ _ _ _ => p_st1 rfl (D3.toE (dv 0)) (c_cmp op_eq r_eq (d_op op_mod r_mod (dv 1) (dv 0)) d_int (nomark _)))))), fun δ Q Z h => ?_⟩
  obtain ⟨i, rfl, n, e, n2, q⟩ := iv_i h
  subst e
  walk_at "w"
  refine ⟨⟨⟨by decide, by decide⟩, ⟨by omega, by omega⟩⟩, ?_⟩
  walk_at "w"
  have en : ((n : Int) + 1 - 1).toNat = n := by omega
  rw [en]
  refine ⟨by rw [rngD_len]; omega, compL_fmap (l := [.d (.int (n : Int))]) rfl (dvF n) (fun x hx P p => ?_) ?_⟩
  · obtain ⟨k, hk, rfl⟩ := rng_mem2 hx
    walk_at "w"
    refine ⟨(by show (0 : Int) < 1 + (k : Int); omega), ?_⟩
    walk_at "w"
    refine brd (fun c => ?_) (fun c => ?_)
    · have e : dvF n (.int (1 + (k : Int))) = some (.int (1 + (k : Int))) := if_pos c
      rw [e] at p
      exact p
    · have e : dvF n (.int (1 + (k : Int))) = none := if_neg c
      rw [e] at p
      exact p
  rw [divD]
  exact q
theorem scLStays : FnScope ["_law_n", "_law_found", "_law_told", "_law_form", "_law_t", "_law_a", "_law_b", "_law_c", "_law_many", "_law_k", "_law_u", "_law_v", "_law_one", "_law_other"] ["_law_n", "_law_found", "_law_told", "_law_form", "_law_t"] (defScope sLStays) := ⟨rfl, rfl, rfl, by decide +kernel, rfl, by decide +kernel, by decide +kernel⟩
theorem ok_lStays (F : Fun K "_law_stays" "_law_stays" sLStays f fd) (T : Bt mg) : FnOk P w K mg base (CX1 P w) 1 f fd ["_law_n", "_law_found", "_law_told", "_law_form", "_law_t"] (lsp K spLStays) := by
  refine ok3 F scLStays (fun δ Q Z h => match δ, h with | [.d (.int i), .d l, .d (.dT kvs), .d y, .d (.int t)], _ => rfl) fun cdv A outer s H E hr => ?_
  have nd := scLStays.nd
  have hu := units1 hr
  refine ⟨_, (b_cons (s_asg (dv 3) (g_tup (n := 3) rfl (gs_cons (g_name 5 (by exact nd) rfl (Or.inl rfl)) (gs_cons (g_name 6 (by exact nd) rfl (Or.inl rfl)) (gs_cons (g_name 7 (by exact nd) rfl (Or.inl rfl)) gs_nil))))) (b_cons (s_set 8 (by exact nd) rfl (Or.inl rfl) (D3.toE d_int)) (b_cons (s_for PassesOwn.leaving rfl (i_enum rfl T.enumerate (a_cons (dv 1) a_nil Fr.star_name)) (g_tup (n := 2) rfl (gs_cons (g_name 9 (by exact nd) rfl (Or.inl rfl)) (gs_cons (g_tup (n := 2) rfl (gs_cons (g_name 10 (by exact nd) rfl (Or.inl rfl)) (gs_cons (g_name 11 (by exact nd) rfl (Or.inl rfl)) gs_nil))) gs_nil))) (b_cons (s_set 12 (by exact nd) rfl (Or.inl rfl) (D3.toE (d_op op_add r_add (d_op Fr.op_mulW r_mul (dv 10) (d_op Fr.op_fdivP r_fdiv (d_op op_sub r_sub (dv 4) (dv 6)) d_int)) (d_op Fr.op_mulW r_mul (dv 11) (dv 5))))) (b_cons (s_set 13 (by exact nd) rfl (Or.inl rfl) (D3.toE (d_op op_sub r_sub (d_op Fr.op_mulW r_mul (dv 11) (d_op Fr.op_fdivP r_fdiv (d_op op_add r_add (dv 4) (dv 6)) d_int)) (d_op Fr.op_mulW r_mul (dv 10) (dv 7))))) (b_one (s_set 8 (by exact nd) rfl (Or.inl rfl) (D3.toE (d_op op_add r_add (dv 8) (d_callTy call_int1 cr_int rfl T.int PyProof.Rows.boot_int (a_cons (d_cmp op_eq r_eq (d_dgetD hu (dv 2) (a_cons (d_op op_mod r_mod (dv 12) (dv 0)) (a_cons (d_op op_mod r_mod (dv 13) (dv 0)) a_nil Fr.star_bin) Fr.star_bin)) (dv 9) (nomark _)) a_nil Fr.star_cmp))))))))) (b_one (s_ret (e_move 8)))))), fun δ Q Z h => ?_⟩
  match δ, h with
  | [.d (.int i), .d l, .d (.dT kvs), .d y, .d (.int t)], ⟨n, a, b, c, e, n1, n2, el0, hk, e2, hf, q⟩ =>
    subst e el0 e2
    have dv : ∀ z : Int, DivM z 2 := fun z => ⟨by decide, by decide⟩
    have hb := hf.bb
    have ht := hf.bt
    have f1 : Fit ((t - b) / 2) := fitE' (B := 101) (by omega) (by decide)
    have f2 : Fit ((t + b) / 2) := fitE' (B := 101) (by omega) (by decide)
    have f3 : Fit a := fitE' hf.ba (by decide)
    have f4 : Fit c := fitE' hf.bc (by decide)
    walk_at "w"
    refine forL_inv (fun i δ => ∃ s9 s10 s11 s12 s13 : Sl, δ = [.d (.int (n : Int)), .d (.lst (prsD (syms n))), .d (.dT kvs), .d (tupI [a, b, c]), .d (.int t), .d (.int a), .d (.int b), .d (.int c), .d (.int ((((syms n).take i).filter fun s => decide ((n : Int) ∣ fF a b c s.1 s.2)).length : Nat)), s9, s10, s11, s12, s13]) ⟨_, _, _, _, _, rfl⟩ ?_ ?_
    · rintro i x δ N hx ⟨s9, s10, s11, s12, s13, rfl⟩ hN
      obtain ⟨y, hy, rfl⟩ := enumD_at hx
      unfold prsD at hy
      rw [List.getElem?_map] at hy
      obtain ⟨s, hs, rfl⟩ := Option.map_eq_some_iff.mp hy
      have hm := List.mem_of_getElem? hs
      have hR := sym_inR hm
      have fu : Fit (s.1 : Int) := fitN (by have := hR.1; omega)
      have fv : Fit (s.2 : Int) := fitN (by have := hR.2; omega)
      obtain ⟨j, hj⟩ := num_some n1 n2 (rsT_inR n1 _ _) (fm_good n1 hf hm)
      have hit := fm_hit n1 n2 hf hs
      rw [hj] at hit
      have ek := hk (rst n (s.1 * ((t - b) / 2) + s.2 * a) (s.2 * ((t + b) / 2) - s.1 * c))
      rw [← rst_key n1] at ek
      have ej : numIn n (syms n) (rst n (s.1 * ((t - b) / 2) + s.2 * a) (s.2 * ((t + b) / 2) - s.1 * c)) = some j := hj
      rw [ej] at ek
      have et : (((syms n).take (i + 1)).filter fun s => decide ((n : Int) ∣ fF a b c s.1 s.2)).length = (((syms n).take i).filter fun s => decide ((n : Int) ∣ fF a b c s.1 s.2)).length + (if decide ((n : Int) ∣ fF a b c s.1 s.2) = true then 1 else 0) := by
        exact fil_snoc (fun s : Nat × Nat => decide ((n : Int) ∣ fF a b c s.1 s.2)) hs
      have e8 : (((((syms n).take i).filter fun s => decide ((n : Int) ∣ fF a b c s.1 s.2)).length : Nat) : Int) + (if decide (((j : Nat) : Int) = ((i : Nat) : Int)) = true then 1 else 0) = (((((syms n).take (i + 1)).filter fun s => decide ((n : Int) ∣ fF a b c s.1 s.2)).length : Nat) : Int) := by
        rw [et]
        by_cases cc : (n : Int) ∣ fF a b c s.1 s.2
        · have ji := Option.some.inj (hit.mpr cc)
          subst ji
          rw [if_pos (decide_eq_true cc), if_pos (decide_eq_true rfl)]
          rfl
        · have ji : ¬ ((j : Nat) : Int) = ((i : Nat) : Int) := fun z => cc (hit.mp (congrArg some (by omega)))
          rw [if_neg (fun z => cc (of_decide_eq_true z)), if_neg (fun z => ji (of_decide_eq_true z))]
          rfl
      walk_at "w"
      refine ⟨dv _, ⟨fu, f1⟩, ?_⟩
      walk_at "w"
      refine ⟨⟨fv, f3⟩, ?_⟩
      walk_at "w"
      refine ⟨dv _, ⟨fv, f2⟩, ?_⟩
      walk_at "w"
      refine ⟨⟨fu, f4⟩, ?_⟩
      walk_at "w"
      refine ⟨(by show (0 : Int) < (n : Int); omega), ?_⟩
      walk_at "w"
      refine ⟨(by show (0 : Int) < (n : Int); omega), ?_⟩
      walk_at "w"
      refine ⟨natD j, ek, ?_⟩
      refine hN _ ⟨.d (.int (i : Nat)), .d (natD s.1), .d (natD s.2), .d (.int (s.1 * ((t - b) / 2) + s.2 * a)), .d (.int (s.2 * ((t + b) / 2) - s.1 * c)), ?_⟩
      rw [← e8]
      rfl
    · rintro δ ⟨s9, s10, s11, s12, s13, rfl⟩
      have el : (enumD (prsD (syms n))).length = (syms n).length := by rw [enumD_len]; exact List.length_map _
      rw [el, List.take_length]
      exact q _
end
end Fr

set_option Elab.async false
set_option linter.all false
set_option maxRecDepth 100000
set_option maxHeartbeats 1000000
namespace Fr
open PySem L2 L3
local macro_rules | `(tactic| walk_at "w") => `(tactic| conv => whnf)
local macro_rules | `(tactic| walk_at "v") => `(tactic| ((conv => whnf); repeat ((refine ⟨_, rfl, ?_⟩); (conv => whnf))))
local macro_rules | `(tactic| walk_at "m") => `(tactic| ((repeat ((conv => whnf); (refine ⟨⟨by assumption, by assumption⟩, ?_⟩))); (conv => whnf)))
theorem ds_le : ∀ m, m ≤ 20 → (divs m).sum ≤ 1000 := by decide +kernel
theorem bd_le : ∀ n, n ≤ 48 → ∀ m, m ≤ 20 → BD n m ≤ 1000000 := by decide +kernel
def sqG (m : Nat) : D → Option D
  | .int i => if i * i = (m : Int) then some (.int i) else none
  | _ => none
def sqK (m : Nat) : List Int := (List.range m).filterMap fun r : Nat => if (1 + (r : Int)) * (1 + (r : Int)) = (m : Int) then some (1 + (r : Int)) else none
theorem sqG_all (m : Nat) : (rngD 1 m).filterMap (sqG m) = (sqK m).map D.int := by
  unfold rngD sqK
  rw [List.filterMap_map, List.map_filterMap]
  congr 1
  funext r
  show (if (1 + (r : Int)) * (1 + (r : Int)) = (m : Int) then some (D.int (1 + (r : Int))) else none) = (if (1 + (r : Int)) * (1 + (r : Int)) = (m : Int) then some (1 + (r : Int)) else none).map D.int
  split <;> rfl
theorem sq_cast (r m : Nat) : (1 + (r : Int)) * (1 + (r : Int)) = (m : Int) ↔ (r + 1) * (r + 1) = m := by
  have e : (1 + (r : Int)) * (1 + (r : Int)) = (((r + 1) * (r + 1) : Nat) : Int) := by
    rw [Int.natCast_mul, show (1 : Int) + (r : Int) = ((r + 1 : Nat) : Int) by omega]
  rw [e]
  exact ⟨fun h => by omega, fun h => by omega⟩
theorem sqK_nil {m : Nat} (h : sqB m = false) : sqK m = [] := by
  unfold sqK
  rw [List.filterMap_eq_nil_iff]
  intro r hr
  refine if_neg fun z => ?_
  have h2 := List.any_eq_false.mp h r hr
  exact h2 (by rw [beq_iff_eq]; exact (sq_cast r m).mp z)
theorem sqK_ne {m : Nat} (h : sqB m = true) : sqK m ≠ [] := by
  intro z
  unfold sqK at z
  rw [List.filterMap_eq_nil_iff] at z
  obtain ⟨r, hr, e⟩ := List.any_eq_true.mp h
  have := z r hr
  rw [if_pos ((sq_cast r m).mpr (by simpa using e))] at this
  cases this
section
variable {P : Program} {w : World} {K : PySem.W.Frag} {mg : Str → Option Value} {base : Heap} {f : Addr} {fd : FuncData}
theorem scByDiv : FnScope ["_law_n", "_law_m", "_law_many", "_law_d", "_law_c", "_law_g"] ["_law_n", "_law_m"] (defScope sByDiv) := ⟨rfl, rfl, rfl, by decide +kernel, rfl, by decide +kernel, by decide +kernel⟩
theorem ok_byDiv (F : Fun K "_law_by_divisors" "_law_by_divisors" sByDiv f fd) (T : Bt mg) (O_law_divisors : Own3 P w K mg base 1 "_law_divisors" ["_law_n"] spDivs) (O_law_common : Own3 P w K mg base 1 "_law_common" ["_law_one", "_law_other"] spDivisor) : FnOk P w K mg base (CX1 P w) 2 f fd ["_law_n", "_law_m"] (lsp K spByDiv) := by
  refine ok3 F scByDiv (fun δ Q Z h => ln_ii h) fun cdv A outer s H E hr => ?_
  have nd := scByDiv.nd
  have hu := units1 hr
  refine ⟨_, (b_cons (s_set 2 (by exact nd) rfl (Or.inl rfl) (D3.toE d_int)) (b_cons (s_for PassesOwn.leaving rfl (i_list (E3.toD (e_call O_law_divisors Fr.pass_on hr rfl (a_cons (dv 1) a_nil Fr.star_name)))) (g_name 3 (by exact nd) rfl (Or.inl rfl)) (b_one (s_for PassesOwn.leaving rfl (i_list (E3.toD (e_call O_law_divisors Fr.pass_on hr rfl (a_cons (dv 0) a_nil Fr.star_name)))) (g_name 4 (by exact nd) rfl (Or.inl rfl)) (b_cons (s_set 5 (by exact nd) rfl (Or.inr rfl) (e_call O_law_common Fr.pass_on hr rfl (a_cons (dv 4) (a_cons (d_op Fr.op_fdivP r_fdiv (dv 0) (dv 4)) a_nil Fr.star_bin) Fr.star_name))) (b_one (s_if (c_cmp op_eq r_eq (d_op op_mod r_mod (d_op op_sub r_sub (d_op Fr.op_fdivP r_fdiv (dv 1) (dv 3)) (dv 3)) (dv 5)) d_int (nomark _)) (b_one (s_set 2 (by exact nd) rfl (Or.inl rfl) (D3.toE (d_op op_add r_add (dv 2) (d_op Fr.op_mulW r_mul (d_callB (call_min2 rfl) cr_two rfl T.min PyProof.Rows.boot_min (a_cons (dv 3) (a_cons (d_op Fr.op_fdivP r_fdiv (dv 1) (dv 3)) a_nil Fr.star_bin) Fr.star_name)) (d_callB call_len_seq cr_len rfl T.len PySem.boot_len (a_cons (E3.toD (e_comp rfl (I3.toC (i_range2 rfl T.range (a_cons d_int (a_cons (d_op op_add r_add (dv 5) d_int) a_nil Fr.star_bin) Fr.star_const))) (Fr.frokV (xs := ["_law_k"]) (fr := [("_law_g", 5)]) (sc := defScope sByDiv) (N := ["_law_n", "_law_m", "_law_many", "_law_d", "_law_c", "_law_g"]) rfl rfl (by decide +kernel)) (fun _ _ _ _ => (g_name 0 (show List.Nodup [("_law_k" : Str), ("_law_g" : Str)] by decide +kernel) rfl (Or.inl rfl))) (fun _ _ _ _ => p_st1 rfl (D3.toE (dv 0)) (c_cmp op_eq r_eq (E3.toD (e_call O_law_common Fr.pass1 hr rfl (a_cons (dv 0) (a_cons (dv 1) a_nil Fr.star_name) Fr.star_name))) d_int (nomark _))))) a_nil))))))) b_nil)))))) (b_one (s_ret (e_move 2))))), fun δ Q Z h => ?_⟩
  obtain ⟨i, j, rfl, n, m, e1, e2, n1, n2, m1, m2, q⟩ := iv_ii h
  subst e1 e2
  walk_at "w"
  refine ⟨m, rfl, by omega, ?_⟩
  refine forL_inv (fun k δ => ∃ s3 s4 s5, δ = [.d (.int (n : Int)), .d (.int (m : Int)), .d (.int ((((divs m).take k).map fun d => ((divs n).map fun c => edT n m d c).sum).sum : Nat)), s3, s4, s5]) ⟨_, _, _, rfl⟩ ?_ ?_
  · rintro k x δ N hx ⟨s3, s4, s5, rfl⟩ hNN
    rw [List.getElem?_map] at hx
    obtain ⟨d, hd, rfl⟩ := Option.map_eq_some_iff.mp hx
    have hdm := divs_mem (List.mem_of_getElem? hd)
    have e2 := take_sumN (fun d => ((divs n).map fun c => edT n m d c).sum) hd
    generalize (((divs m).take k).map fun d => ((divs n).map fun c => edT n m d c).sum).sum = S0 at e2
    walk_at "w"
    refine ⟨n, rfl, by omega, ?_⟩
    refine forL_inv (fun k δ => ∃ s4 s5, δ = [.d (.int (n : Int)), .d (.int (m : Int)), .d (.int ((S0 + (((divs n).take k).map fun c => edT n m d c).sum : Nat) : Int)), .d (natD d), s4, s5]) ⟨_, _, rfl⟩ ?_ ?_
    · rintro k2 x δ N2 hx2 ⟨s4, s5, rfl⟩ hN2
      rw [List.getElem?_map] at hx2
      obtain ⟨c, hc, rfl⟩ := Option.map_eq_some_iff.mp hx2
      have hcm := divs_mem (List.mem_of_getElem? hc)
      have e3 := take_sumN (fun c => edT n m d c) hc
      have dvd' : DivM (m : Int) (d : Int) := ⟨by omega, by omega⟩
      walk_at "w"
      refine ⟨⟨by omega, by omega⟩, ?_⟩
      walk_at "w"
      generalize hgd : Int.gcd (c : Int) ((n : Int) / (c : Int)) = g
      have hg1 : g = Nat.gcd c (n / c) := hgd.symm
      have g0 : 0 < g := by rw [hg1]; exact Nat.gcd_pos_of_pos_left _ (by omega)
      have g2 : g ≤ 48 := by rw [hg1]; exact Nat.le_trans (Nat.gcd_le_left _ (by omega)) (by omega)
      refine ⟨dvd', ?_⟩
      walk_at "w"
      refine ⟨(by show (0 : Int) < (g : Int); omega), ?_⟩
      walk_at "w"
      have emd : (m : Int) / (d : Int) = ((m / d : Nat) : Int) := rfl
      have mdl : m / d ≤ m := Nat.div_le_self m d
      have hmin : min d (m / d) ≤ d := Nat.min_le_left _ _
      refine brd (fun cc => ?_) (fun cc => ?_)
      · have eE : edT n m d c = min d (m / d) * cop g := by rw [hg1]; exact if_pos (by rw [← hg1]; exact cc)
        have emn : (if (m : Int) / (d : Int) < (d : Int) then (m : Int) / (d : Int) else (d : Int)) = ((min d (m / d) : Nat) : Int) := by
          rw [emd]
          split <;> omega
        generalize min d (m / d) = mn at eE emn hmin
        walk_at "w"
        refine ⟨dvd', ?_⟩

        walk_at "w"
        refine ⟨⟨⟨by decide, by decide⟩, ⟨by omega, by omega⟩⟩, ?_⟩
        walk_at "w"
        have en : ((g : Int) + 1 - 1).toNat = g := by omega
        rw [en]
        refine ⟨by rw [rngD_len]; omega, compL_fmap (l := [.d (.int (g : Int))]) rfl (fcF g) (fun x hx P p => ?_) ?_⟩
        · obtain ⟨r, hr', rfl⟩ := rng_mem2 hx
          walk_at "w"
          refine brd (fun c => ?_) (fun c => ?_)
          · have c' : Int.gcd (1 + (r : Int)) g = 1 := by omega
            have e : fcF g (.int (1 + (r : Int))) = some (.int (1 + (r : Int))) := if_pos c'
            rw [e] at p
            exact p
          · have c' : ¬ Int.gcd (1 + (r : Int)) g = 1 := by omega
            have e : fcF g (.int (1 + (r : Int))) = none := if_neg c'
            rw [e] at p
            exact p
        · have el : ((rngD 1 g).filterMap (fcF g)).length = cop g := by rw [facD, List.length_map, cop_fac]
          have cl : cop g ≤ g := by unfold cop; exact Nat.le_trans (List.length_filter_le _ _) (by simp)
          generalize (rngD 1 g).filterMap (fcF g) = ds at el
          walk_at "w"
          refine ⟨⟨fitI (by show (if (m : Int) / (d : Int) < (d : Int) then (m : Int) / (d : Int) else (d : Int)).natAbs < _; rw [emn]; omega), fitI (by rw [el]; omega)⟩, ?_⟩
          refine hN2 _ ⟨.d (natD c), .d (.int (g : Int)), ?_⟩
          rw [e3, eE, ← el]
          show [_, _, Sl.d (.int (_ + (if (m : Int) / (d : Int) < (d : Int) then (m : Int) / (d : Int) else (d : Int)) * ((ds.length : Nat) : Int))), _, _, _] = _
          rw [emn]
          have e9 : ((S0 + (((divs n).take k2).map fun c => edT n m d c).sum : Nat) : Int) + ((mn : Nat) : Int) * ((ds.length : Nat) : Int) = ((S0 + ((((divs n).take k2).map fun c => edT n m d c).sum + mn * ds.length) : Nat) : Int) := by
            simp only [Int.natCast_add, Int.natCast_mul, Int.add_assoc]
          rw [e9]
          rfl
      · have eE : edT n m d c = 0 := if_neg (by rw [← hg1]; exact cc)
        refine hN2 _ ⟨.d (natD c), .d (.int (g : Int)), ?_⟩
        rw [e3, eE, Nat.add_zero]
        rfl
    · rintro δ ⟨s4, s5, rfl⟩
      rw [List.length_map, List.take_length]
      refine hNN _ ⟨.d (natD d), s4, s5, ?_⟩
      rw [e2]
  · rintro δ ⟨s3, s4, s5, rfl⟩
    rw [List.length_map, List.take_length]
    exact q _
theorem scDue : FnScope ["_law_n", "_law_m", "_law_found", "_law_told", "_law_total", "_law_t", "_law_form"] ["_law_n", "_law_m"] (defScope sDue) := ⟨rfl, rfl, rfl, by decide +kernel, rfl, by decide +kernel, by decide +kernel⟩
theorem ok_due (F : Fun K "_law_due" "_law_due" sDue f fd) (T : Bt mg) (O_law_symbols : Own3 P w K mg base 2 "_law_symbols" ["_law_n"] spSymNum) (O_law_divisors : Own3 P w K mg base 2 "_law_divisors" ["_law_n"] spDivs) (O_law_by_divisors : Own3 P w K mg base 2 "_law_by_divisors" ["_law_n", "_law_m"] spByDiv)
    (O_law_forms : Own3 P w K mg base 2 "_law_forms" ["_law_size"] spForms) (O_law_share : Own3 P w K mg base 2 "_law_share" ["_law_form"] spShare) (O_law_stays : Own3 P w K mg base 2 "_law_stays" ["_law_n", "_law_found", "_law_told", "_law_form", "_law_t"] spLStays) : FnOk P w K mg base (CX1 P w) 3 f fd ["_law_n", "_law_m"] (lsp K spDue) := by
  refine ok3 F scDue (fun δ Q Z h => ln_ii h) fun cdv A outer s H E hr => ?_
  have nd := scDue.nd
  have hu := units1 hr
  refine ⟨_, (b_cons (s_asg (E3.toD (e_call O_law_symbols Fr.pass_on hr rfl (a_cons (dv 0) a_nil Fr.star_name))) (g_tup (n := 2) rfl (gs_cons (g_name 2 (by exact nd) rfl (Or.inl rfl)) (gs_cons (g_name 3 (by exact nd) rfl (Or.inl rfl)) gs_nil)))) (b_cons (s_set 4 (by exact nd) rfl (Or.inl rfl) (D3.toE (d_op op_sub r_sub (d_op Fr.op_mulW r_mul d_int (d_callB (Fr.call_sumI rfl) cr_sum rfl T.sum PyProof.Rows.boot_sum (a_cons (E3.toD (e_call O_law_divisors Fr.pass_on hr rfl (a_cons (dv 1) a_nil Fr.star_name))) a_nil Fr.star_call))) (d_op Fr.op_mulW r_mul d_int (E3.toD (e_call O_law_by_divisors Fr.pass_on hr rfl (a_cons (dv 0) (a_cons (dv 1) a_nil Fr.star_name) Fr.star_name))))))) (b_cons (s_if (c_cmp Fr.op_neD (r_neD hr) (E3.toD (e_comp rfl (I3.toC (i_range2 rfl T.range (a_cons d_int (a_cons (d_op op_add r_add (dv 1) d_int) a_nil Fr.star_bin) Fr.star_const))) (Fr.frokV (xs := ["_law_d"]) (fr := [("_law_m", 1)]) (sc := defScope sDue) (N := ["_law_n", "_law_m", "_law_found", "_law_told", "_law_total", "_law_t", "_law_form"]) rfl rfl (by decide +kernel)) (fun _ _ _ _ => (g_name 0 (show List.Nodup [("_law_d" : Str), ("_law_m" : Str)] by decide +kernel) rfl (Or.inl rfl))) (fun _ _ _ _ => p_st1 rfl (D3.toE (dv 0)) (c_cmp op_eq r_eq (d_op Fr.op_mulW r_mul (dv 0) (dv 0)) (dv 1) (nomark _))))) (E3.toD (e_lst a_nil)) (nomark _)) (b_one (s_set 4 (by exact nd) rfl (Or.inl rfl) (D3.toE (d_op op_add r_add (dv 4) (d_op Fr.op_mulW r_mul d_int (d_lenN 2 rfl T.len)))))) b_nil) (b_cons (s_for PassesOwn.leaving rfl (i_range2 rfl T.range (a_cons (d_neg d_int) (a_cons d_int a_nil Fr.star_const) Fr.star_un)) (g_name 5 (by exact nd) rfl (Or.inl rfl)) (b_one (s_if (c_cmp op_lt r_lt (d_op Fr.op_mulW r_mul (dv 5) (dv 5)) (d_op Fr.op_mulW r_mul d_int (dv 1)) (nomark _)) (b_one (s_for PassesOwn.leaving rfl (i_list (E3.toD (e_call O_law_forms Fr.pass_on hr rfl (a_cons (d_op op_sub r_sub (d_op Fr.op_mulW r_mul (dv 5) (dv 5)) (d_op Fr.op_mulW r_mul d_int (dv 1))) a_nil Fr.star_bin)))) (g_name 6 (by exact nd) rfl (Or.inl rfl)) (b_one (s_set 4 (by exact nd) rfl (Or.inl rfl) (D3.toE (d_op op_sub r_sub (dv 4) (d_op Fr.op_mulW r_mul (E3.toD (e_call O_law_share Fr.pass_on hr rfl (a_cons (dv 6) a_nil Fr.star_name))) (E3.toD (e_call O_law_stays Fr.pass_on hr rfl (a_cons (dv 0) (a_cons (dv 2) (a_cons (dv 3) (a_cons (dv 6) (a_cons (dv 5) a_nil Fr.star_name) Fr.star_name) Fr.star_name) Fr.star_name) Fr.star_name)))))))))) b_nil))) (b_one (s_ret (e_move 4))))))), fun δ Q Z h => ?_⟩
  obtain ⟨i, j, rfl, n, m, e1, e2, n1, n2, m1, m2, hg, q⟩ := iv_ii h
  subst e1 e2
  walk_at "w"
  refine ⟨n, rfl, n1, n2, fun kvs ob hk => ?_⟩
  walk_at "w"
  refine ⟨m, rfl, by omega, ?_⟩
  walk_at "w"
  refine ⟨(divs m).map fun k : Nat => (k : Int), ?_, ⟨?_, fun i hi => ?_⟩, ?_⟩
  · rw [List.map_map]
    rfl
  · rw [List.length_map]
    have := divs_len m
    omega
  · obtain ⟨k, hk, rfl⟩ := List.mem_map.mp hi
    have := divs_mem hk
    omega
  · have e := sum_cast (divs m)
    rw [e]
    have sl := ds_le m m2
    have bl := bd_le n n2 m m2
    have fm : Fit (m : Int) := fitI (by omega)
    walk_at "w"
    refine ⟨⟨fitI (by decide), fitI (by omega)⟩, ?_⟩
    walk_at "w"
    refine ⟨n, m, rfl, rfl, n1, n2, m1, m2, fun ob => ?_⟩
    walk_at "w"
    refine ⟨⟨fitI (by decide), fitI (by omega)⟩, ?_⟩
    dsimp only [i2]
    refine seq_cut (fun δ => δ = [.d (.int (n : Int)), .d (.int (m : Int)), .d (.lst (prsD (syms n))), .d (.dT kvs), .d (.int (24 * ((divs m).sum : Nat) - 12 * (BD n m : Nat) + 2 * (sqT n m : Nat))), .un, .un]) (fun N hNN => ?_) ?_
    · walk_at "w"
      refine ⟨⟨⟨by decide, by decide⟩, ⟨by omega, by omega⟩⟩, ?_⟩
      walk_at "w"
      have en : ((m : Int) + 1 - 1).toNat = m := by omega
      rw [en]
      refine ⟨by rw [rngD_len]; omega, compL_fmap (l := [.d (.int (m : Int))]) rfl (sqG m) (fun x hx P p => ?_) ?_⟩
      · obtain ⟨r, hr', rfl⟩ := rng_mem2 hx
        have fr : Fit (1 + (r : Int)) := fitI (by omega)
        walk_at "w"
        refine ⟨⟨fr, fr⟩, ?_⟩
        walk_at "w"
        refine brd (fun c => ?_) (fun c => ?_)
        · have e : sqG m (.int (1 + (r : Int))) = some (.int (1 + (r : Int))) := if_pos c
          rw [e] at p
          exact p
        · have e : sqG m (.int (1 + (r : Int))) = none := if_neg c
          rw [e] at p
          exact p
      · rw [sqG_all]
        have c0 : ∀ ks : List Int, CanEq (.lst (ks.map D.int)) := fun ks => canEq_lst (f := 0) (fun x hx => by
          obtain ⟨k, _, rfl⟩ := List.mem_map.mp hx
          exact ⟨rfl, by show PyData.depth (.int k) ≤ 0; simp [PyData.depth]⟩) (by decide)
        cases hsq : sqB m with
        | false =>
          have e0 := sqK_nil hsq
          have eT : sqT n m = 0 := if_neg (by rw [hsq]; decide)
          rw [e0]
          walk_at "w"
          refine ⟨⟨c0 [], c0 []⟩, true, eqv_refl (c0 []), ?_⟩
          refine hNN _ ?_
          rw [eT]
          show _ = [_, _, _, _, Sl.d (.int (_ + 0)), _, _]
          rw [Int.add_zero]
          rfl
        | true =>
          have e0 := sqK_ne hsq
          have eT : sqT n m = (syms n).length := by rw [len_sc n1 n2]; exact if_pos hsq
          have hb : PyData.eqv (D.py (.lst ((sqK m).map D.int))) (D.py (.lst [])) = false := by
            cases hv : PyData.eqv (D.py (.lst ((sqK m).map D.int))) (D.py (.lst [])) with
            | false => rfl
            | true =>
              have := (eqv_plain (.lst ((sqK m).map D.int)) (.lst []) (plains_int _) rfl).mp hv
              injection this with this
              exact absurd (List.map_eq_nil_iff.mp this) e0
          have sl2 : (prsD (syms n)).length = (syms n).length := by unfold prsD; exact List.length_map _
          have sl3 : (syms n).length ≤ 48 * 48 := by
            refine Nat.le_trans ?_ (Nat.mul_le_mul n2 n2)
            unfold syms symT
            refine Nat.le_trans (List.length_filter_le _ _) ?_
            simp
          walk_at "w"
          refine ⟨⟨c0 _, c0 []⟩, false, hb, ?_⟩
          walk_at "w"
          refine ⟨⟨fitI (by decide), fitI (by omega)⟩, ?_⟩
          refine hNN _ ?_
          rw [eT, ← sl2]
          rfl
    rintro δ rfl
    generalize hT0 : 24 * (((divs m).sum : Nat) : Int) - 12 * ((BD n m : Nat) : Int) + 2 * ((sqT n m : Nat) : Int) = T0
    walk_at "w"
    refine ⟨⟨⟨by decide, by decide⟩, ⟨by decide, by decide⟩⟩, ?_⟩
    have en : ((10 : Int) - -9).toNat = 19 := by decide
    dsimp only
    rw [en]
    refine forL_range (fun i δ => ∃ s5 s6, δ = [.d (.int (n : Int)), .d (.int (m : Int)), .d (.lst (prsD (syms n))), .d (.dT kvs), .d (.int (T0 - 2 * pS (tF n m) (-9) i)), s5, s6]) ⟨_, _, by show _ = [_, _, _, _, Sl.d (.int (T0 - 0)), _, _]; rw [Int.sub_zero]; try rfl⟩ ?_ ?_
    · rintro i δ N hi ⟨s5, s6, rfl⟩ hNN
      have es := pS_succ (tF n m) (-9) i
      generalize ht : (-9 : Int) + (i : Int) = t at es
      have tb : t.natAbs ≤ 40 := by omega
      have ft : Fit t := fitI (by omega)
      walk_at "w"
      refine ⟨⟨ft, ft⟩, ?_⟩
      walk_at "w"
      refine ⟨⟨fitI (by decide), fm⟩, ?_⟩
      walk_at "w"
      refine brd (fun c => ?_) (fun c => ?_)
      · have eF : tF n m t = HN n (t * t - 4 * m) := if_pos c
        have sz := sz_of c m1 m2
        walk_at "w"
        refine ⟨⟨ft, ft⟩, ?_⟩
        walk_at "w"
        refine ⟨⟨fitI (by decide), fm⟩, ?_⟩
        walk_at "w"
        refine ⟨sz, fun ob => ?_⟩
        refine forL_inv (fun k δ => ∃ s6, δ = [.d (.int (n : Int)), .d (.int (m : Int)), .d (.lst (prsD (syms n))), .d (.dT kvs), .d (.int (T0 - 2 * pS (tF n m) (-9) i - 2 * (((fms (t * t - 4 * m)).take k).map (hN n)).sum)), .d (.int t), s6]) ⟨_, by rw [List.take_zero]; show _ = [_, _, _, _, Sl.d (.int (_ - 0)), _, _]; rw [Int.sub_zero]; rfl⟩ ?_ ?_
        · rintro k x δ N2 hx ⟨s6, rfl⟩ hN2
          rw [List.getElem?_map] at hx
          obtain ⟨t', ht', rfl⟩ := Option.map_eq_some_iff.mp hx
          obtain ⟨a, b, c', rfl, a1, ds⟩ := fms_mem (List.mem_of_getElem? ht')
          have ok := (sz_at sz).2.2.1 _ (List.mem_of_getElem? ht')
          obtain ⟨fo, fx⟩ := fm_facts (n := n) ok ds tb hg
          have e2 := take_sum (hN n) ht'
          have ok2 := ok
          unfold fmOk at ok2
          simp only [Bool.and_eq_true, decide_eq_true_eq] at ok2
          obtain ⟨⟨⟨⟨o1, o2⟩, o3⟩, o4⟩, o5⟩ := ok2
          have fl := fxs_len n a b c' n1 n2
          have eh : (24 / (shr a b c' : Int)) * (fxs n a b c' : Int) = 2 * hN n [a, b, c'] := by
            have w : wgt a b c' = 1 ∨ wgt a b c' = 2 ∨ wgt a b c' = 3 := by unfold wgt; split; exact .inr (.inl rfl); split; exact .inr (.inr rfl); exact .inl rfl
            show _ = 2 * (6 * 1 * (fxs n a b c' : Int) / wgt a b c')
            generalize (24 / (shr a b c' : Int)) = q0 at fx
            rcases w with w | w | w <;> rw [w] at fx ⊢
            · have : q0 = 12 := by omega
              subst this
              omega
            · have : q0 = 6 := by omega
              subst this
              omega
            · have : q0 = 4 := by omega
              subst this
              omega
          have q24 : (24 / (shr a b c' : Int)).natAbs ≤ 24 := by
            have h1 : 0 ≤ 24 / (shr a b c' : Int) := Int.ediv_nonneg (by decide) (by omega)
            have h2 : 24 / (shr a b c' : Int) ≤ 24 := Int.ediv_le_self _ (by decide)
            omega
          walk_at "w"
          refine ⟨a, b, c', rfl, ⟨by omega, by omega, by omega⟩, o1, fun ob => ?_⟩
          walk_at "w"
          refine ⟨n, a, b, c', rfl, n1, n2, rfl, hk, rfl, fo, fun ob => ?_⟩
          walk_at "w"
          refine ⟨⟨fitI (by omega), fitI (by omega)⟩, ?_⟩
          refine hN2 _ ⟨.d (tupI [a, b, c']), ?_⟩
          show [_, _, _, _, Sl.d (.int (_ - (24 / (shr a b c' : Int)) * ((fxs n a b c' : Nat) : Int))), _, _] = _
          rw [e2, eh, Int.mul_add, ← Int.sub_sub]
          try rfl
        · rintro δ ⟨s6, rfl⟩
          rw [List.length_map, List.take_length]
          refine hNN _ ⟨.d (.int t), s6, ?_⟩
          rw [es, eF, Int.mul_add, ← Int.sub_sub]
          try rfl
      · have eF : tF n m t = 0 := if_neg c
        refine hNN _ ⟨.d (.int t), s6, ?_⟩
        rw [es, eF, Int.add_zero]
        try rfl
    · rintro δ ⟨s5, s6, rfl⟩
      have e : pS (tF n m) (-9) 19 = FT n m := by
        rw [← FT_law m1 m2]
        unfold tsL pS
        rw [List.map_map]
        rfl
      have ed : 24 * toldN n m = T0 - 2 * FT n m := by
        have d12 := tw_dvd n1 n2 m1 m2 hg
        have et : (if sqB m = true then (scN n : Int) else 0) = ((sqT n m : Nat) : Int) := by
          unfold sqT
          split <;> rfl
        rw [et] at d12
        unfold toldN
        obtain ⟨z, hz⟩ := d12
        rw [hz, Int.mul_ediv_cancel_left _ (by decide), ← hT0]
        omega
      rw [e, ← ed]
      exact q _
end
end Fr

set_option Elab.async false
set_option linter.all false
set_option maxRecDepth 100000
set_option maxHeartbeats 1000000
namespace Fr
open PySem L2 L3
local macro_rules | `(tactic| walk_at "w") => `(tactic| conv => whnf)
local macro_rules | `(tactic| walk_at "v") => `(tactic| ((conv => whnf); repeat ((refine ⟨_, rfl, ?_⟩); (conv => whnf))))
local macro_rules | `(tactic| walk_at "m") => `(tactic| ((repeat ((conv => whnf); (refine ⟨⟨by assumption, by assumption⟩, ?_⟩))); (conv => whnf)))
abbrev sLaw : Stmt := top 46
theorem fk_le : ∀ n, n ≤ 48 → ∀ m, m ≤ 20 → FK n m ≤ 100000 := by decide +kernel
theorem sc_le : ∀ n, n ≤ 48 → scN n ≤ 1000 := by decide +kernel
theorem told_bd {n m : Nat} (n1 : 1 ≤ n) (n2 : n ≤ 48) (m1 : 1 ≤ m) (m2 : m ≤ 20) : (toldN n m).natAbs ≤ 10000000 := by
  have h1 := fk_le n n2 m m2
  have h2 := sc_le n n2
  have h3 := bd_le n n2 m m2
  have h4 := ds_le m m2
  have h5 : sqT n m ≤ 1000 := by unfold sqT; split <;> omega
  unfold toldN
  rw [FT_K n1 n2 m1 m2]
  generalize sqT n m = a at *
  generalize FK n m = b at *
  generalize BD n m = c at *
  generalize (divs m).sum = d at *
  omega
section
variable {P : Program} {w : World} {K : PySem.W.Frag} {mg : Str → Option Value} {base : Heap} {f : Addr} {fd : FuncData}
theorem scLaw : FnScope ["_law_script", "_law_k", "_law_number_here", "_law_n", "_law_m", "_law_told"] ["_law_script"] (defScope sLaw) := ⟨rfl, rfl, rfl, by decide +kernel, rfl, by decide +kernel, by decide +kernel⟩
theorem ok_law (F : Fun K "law" "law" sLaw f fd) (T : Bt mg) {C gN : Addr} (TLevel : LevC K C) (MLevel : MkOk P w K mg base 6 "Level" C ["self", "n"] (spLInit C gN))
    (O_law_number : Own3 P w K mg base 7 "_law_number" ["_law_script", "_law_k"] spNumber) (O_law_common : Own3 P w K mg base 7 "_law_common" ["_law_one", "_law_other"] spDivisor) (Otold_by_forms : Own3 P w K mg base 7 "told_by_forms" ["level", "m"] (spToldBy C)) (O_law_whole : Own3 P w K mg base 7 "_law_whole" ["_law_thing"] spWhole) (O_law_due : Own3 P w K mg base 7 "_law_due" ["_law_n", "_law_m"] spDue) :
    FnOk P w K mg base (CX1 P w) 8 f fd ["_law_script"] (lsp K sp3Law) := by
  refine ok3 F scLaw (fun δ Q Z h => ln_s h) fun cdv A outer s H E hr => ?_
  have nd := scLaw.nd
  refine ⟨_, (b_cons (s_for PassesOwn.leaving rfl (i_range1 rfl T.range (a_cons (d_callB (call_max2 rfl) cr_two rfl T.max PyProof.Rows.boot_max (a_cons d_int (a_cons (d_callB (call_min2 rfl) cr_two rfl T.min PyProof.Rows.boot_min (a_cons d_int (a_cons (d_callB call_len_seq cr_len rfl T.len PySem.boot_len (a_cons (dv 0) a_nil Fr.star_name)) a_nil Fr.star_call) Fr.star_const)) a_nil Fr.star_call) Fr.star_const)) a_nil Fr.star_call)) (g_name 1 (by exact nd) rfl (Or.inl rfl)) (b_cons (s_set 2 (by exact nd) rfl (Or.inl rfl) (e_call O_law_number Fr.pass_on hr rfl (a_cons (dv 0) (a_cons (dv 1) a_nil Fr.star_name) Fr.star_name))) (b_cons (s_set 3 (by exact nd) rfl (Or.inl rfl) (D3.toE (d_op op_add r_add d_int (d_op op_mod r_mod (dv 2) d_int)))) (b_cons (s_set 4 (by exact nd) rfl (Or.inl rfl) (D3.toE (d_op op_add r_add d_int (d_op op_mod r_mod (d_op Fr.op_fdivP r_fdiv (dv 2) d_int) d_int)))) (b_cons (s_while PassesOwn.leaving (c_cmp op_gt r_gt (E3.toD (e_call O_law_common Fr.pass_on hr rfl (a_cons (dv 4) (a_cons (dv 3) a_nil Fr.star_name) Fr.star_name))) d_int (nomark _)) (b_one (s_set 4 (by exact nd) rfl (Or.inl rfl) (D3.toE (d_op op_add r_add (d_op op_mod r_mod (dv 4) d_int) d_int))))) (b_cons (s_set 5 (by exact nd) rfl (Or.inl rfl) (e_call Otold_by_forms Fr.pass_on hr rfl (a_cons (E3.toD (e_make MLevel Fr.pass_on hr rfl (a_cons (dv 3) a_nil Fr.star_name))) (a_cons (dv 4) a_nil Fr.star_name) Fr.star_call))) (b_one (s_if (W3.toC (w_or (c_not (c_val (E3.toD (e_call O_law_whole Fr.pass_on hr rfl (a_cons (dv 5) a_nil Fr.star_name))))) (w_or1 (c_cmp op_ne r_ne (d_op Fr.op_mulW r_mul d_int (dv 5)) (E3.toD (e_call O_law_due Fr.pass_on hr rfl (a_cons (dv 3) (a_cons (dv 4) a_nil Fr.star_name) Fr.star_name))) (nomark _))))) (b_one (s_ret (D3.toE d_bl))) b_nil)))))))) (b_one (s_ret (D3.toE d_bl)))), fun δ Q Z h => ?_⟩
  obtain ⟨ns, rfl, hlen, q⟩ := iv_s h
  have dvM : ∀ z j : Int, 0 < j → j < 1000 → DivM z j := fun z j j0 j1 => ⟨j0, Int.lt_trans j1 (by decide)⟩
  have tr : ∃ v : Nat, v ≤ 2 ∧ (if (if ((ns.length : Nat) : Int) < 2 then ((ns.length : Nat) : Int) else 2) > 1 then (if ((ns.length : Nat) : Int) < 2 then ((ns.length : Nat) : Int) else 2) else 1) = (v : Int) := by
    by_cases c : ((ns.length : Nat) : Int) < 2
    · exact ⟨1, by decide, by rw [if_pos c]; split <;> omega⟩
    · exact ⟨2, by decide, by rw [if_neg c]; rfl⟩
  obtain ⟨v, v2, hv⟩ := tr
  walk_at "w"
  show InR (if (if ((ns.length : Nat) : Int) < 2 then ((ns.length : Nat) : Int) else 2) > 1 then (if ((ns.length : Nat) : Int) < 2 then ((ns.length : Nat) : Int) else 2) else 1) ∧ forL _ _ _ _ (rngD 0 (if (if ((ns.length : Nat) : Int) < 2 then ((ns.length : Nat) : Int) else 2) > 1 then (if ((ns.length : Nat) : Int) < 2 then ((ns.length : Nat) : Int) else 2) else 1).toNat) _
  rw [hv]
  refine ⟨⟨by omega, by omega⟩, ?_⟩
  refine forL_range (fun k δ => ∃ s1 s2 s3 s4 s5, δ = [.d (.scr ns), s1, s2, s3, s4, s5]) ⟨_, _, _, _, _, rfl⟩ ?_ ?_
  · rintro k δ N hk ⟨s1, s2, s3, s4, s5, rfl⟩ hNN
    rw [Int.zero_add]
    have hk3 : (k : Int) < 2 ^ 60 := by omega
    refine gn_in ?_
    refine seq_cut (fun δ => ∃ x : Int, 0 ≤ x ∧ δ = [.d (.scr ns), .d (.int (k : Int)), .d (.int x), s3, s4, s5]) (fun N hN => ?_) ?_
    · walk_at "w"
      exact ⟨⟨by omega, by omega⟩, fun x x0 ob => hN _ ⟨x, x0, rfl⟩⟩
    rintro δ ⟨x, x0, rfl⟩
    refine seq_cut (fun δ => ∃ n : Nat, 1 ≤ n ∧ n ≤ 48 ∧ δ = [.d (.scr ns), .d (.int (k : Int)), .d (.int x), .d (natD n), s4, s5]) (fun N hN => ?_) ?_
    · walk_at "w"
      refine ⟨(by show (0 : Int) < 48; decide), hN _ ⟨(1 + x % 48).toNat, by omega, by omega, ?_⟩⟩
      have e : (((1 + x % 48).toNat : Nat) : Int) = 1 + x % 48 := by omega
      unfold natD
      rw [e]
      rfl
    rintro δ ⟨n, n1, n2, rfl⟩
    refine seq_cut (fun δ => ∃ m : Nat, 1 ≤ m ∧ m ≤ 20 ∧ δ = [.d (.scr ns), .d (.int (k : Int)), .d (.int x), .d (natD n), .d (natD m), s5]) (fun N hN => ?_) ?_
    · walk_at "w"
      refine ⟨dvM _ _ (by decide) (by decide), (by show (0 : Int) < 20; decide), hN _ ⟨(1 + x / 48 % 20).toNat, by omega, by omega, ?_⟩⟩
      have e : (((1 + x / 48 % 20).toNat : Nat) : Int) = 1 + x / 48 % 20 := by omega
      unfold natD
      rw [e]
      rfl
    rintro δ ⟨m0, m01, m02, rfl⟩
    refine seq_cut (fun δ => ∃ m : Nat, 1 ≤ m ∧ m ≤ 20 ∧ Nat.gcd m n = 1 ∧ δ = [.d (.scr ns), .d (.int (k : Int)), .d (.int x), .d (natD n), .d (natD m), s5]) (fun N hN => ?_) ?_
    · refine ⟨fun kk δ => ∃ m : Nat, 1 ≤ m ∧ m ≤ 20 ∧ kk = (if m = 1 then 0 else 21 - m) ∧ δ = [.d (.scr ns), .d (.int (k : Int)), .d (.int x), .d (natD n), .d (natD m), s5], ⟨_, m0, m01, m02, rfl, rfl⟩, ?_⟩
      rintro kk δ ⟨m, m1, m2, rfl, rfl⟩
      walk_at "w"
      refine brd (fun c => ?_) (fun c => ?_)
      · have m3 : m ≠ 1 := by
          rintro rfl
          have c' : (1 : Int) < ((Int.gcd ((1 : Nat) : Int) (n : Int) : Nat) : Int) := c
          rw [show ((1 : Nat) : Int) = 1 from rfl, Int.gcd_one_left] at c'
          omega
        walk_at "w"
        refine ⟨(by show (0 : Int) < 20; decide), _, ?_, m % 20 + 1, by omega, by omega, rfl, ?_⟩
        · rw [if_neg m3]
          split <;> omega
        · have e : (((m % 20 + 1 : Nat)) : Int) = (m : Int) % 20 + 1 := by omega
          unfold natD
          rw [e]
          rfl
      · have c' : ¬ (1 : Int) < ((Int.gcd (m : Int) (n : Int) : Nat) : Int) := c
        have g0 : Int.gcd (m : Int) (n : Int) ≠ 0 := by
          intro z
          have := (Int.gcd_eq_zero_iff.mp z).1
          omega
        exact hN _ ⟨m, m1, m2, (by show Int.gcd (m : Int) (n : Int) = 1; omega), rfl⟩
    rintro δ ⟨m, m1, m2, gm, rfl⟩
    have notL : ¬ lvl (natD n) = false := fun z => absurd z (by show ¬ ((decide ((1 : Int) ≤ (n : Int)) && decide ((n : Int) ≤ 48)) = false); simp; omega)
    have tl := told_bd n1 n2 m1 m2
    walk_at "w"
    refine ⟨rfl, rfl, fun n' e _ _ kvs hkv => ?_, fun z => absurd z notL⟩
    have e' : n = n' := by
      have : (D.int (n : Int)) = D.int (n' : Int) := e
      injection this with this
      omega
    subst e'
    have hL : IsLev C n (.obj C (levF n kvs)) := ⟨kvs, rfl, hkv, n1, n2⟩
    walk_at "w"
    refine ⟨n, m, hL, rfl, m1, m2, gm, fun ob => ?_⟩
    walk_at "w"
    refine ⟨rfl, ?_⟩
    walk_at "w"
    refine ⟨⟨fitI (by decide), fitI (by omega)⟩, ?_⟩
    walk_at "w"
    refine ⟨n, m, rfl, rfl, n1, n2, m1, m2, gm, fun ob => ?_⟩
    walk_at "w"
    refine brn (fun c => absurd rfl c) (fun _ => ?_)
    exact hNN _ ⟨_, _, _, _, _, rfl⟩
  · rintro δ ⟨s1, s2, s3, s4, s5, rfl⟩
    exact q _
end
end Fr

set_option Elab.async false
set_option linter.all false
set_option maxRecDepth 100000
set_option maxHeartbeats 8000000
namespace Fr
open PySem L2 L3
theorem all_mk {l : PySem.W.OpenLaw} {w : World} {K : PySem.W.Frag} {h : Heap} {mg : Str → Option Value} {fa f1 f2 f3 f4 f5 f6 f7 f8 f9 f10 f11 f12 f13 f14 f15 f16 f17 f18 f19 f20 f21 f22 f23 f24 f25 f26 f27 f28 f29 f30 f31 f32 f33 f34 f35 : Addr} {od1 an1 od2 an2 od3 an3 od4 an4 od5 an5 od6 an6 od7 an7 od8 an8 od9 an9 od10 an10 od11 an11 od12 an12 od13 an13 od14 an14 od15 an15 od16 an16 od17 an17 od18 an18 od19 an19 od20 an20 od21 an21 od22 an22 od23 an23 od24 an24 od25 an25 od26 an26 od27 an27 od28 an28 od29 an29 od30 an30 od31 an31 od32 an32 od33 an33 od34 an34 od35 an35 : Option Addr} {sl1 sl2 sl3 sl4 sl5 sl6 sl7 sl8 sl9 sl10 sl11 sl12 sl13 sl14 sl15 sl16 sl17 sl18 sl19 sl20 sl21 sl22 sl23 sl24 sl25 sl26 sl27 sl28 sl29 sl30 sl31 sl32 sl33 sl34 sl35 : Array (Option Value)} {oc1 kV1 dc1 pm1 cd1 ct1 oc2 kV2 dc2 pm2 cd2 ct2 oc3 kV3 dc3 pm3 cd3 ct3 oc4 kV4 dc4 pm4 cd4 ct4 oc5 kV5 dc5 pm5 cd5 ct5 oc6 kV6 dc6 pm6 cd6 ct6 oc7 kV7 dc7 pm7 cd7 ct7 oc8 kV8 dc8 pm8 cd8 ct8 oc9 kV9 dc9 pm9 cd9 ct9 oc10 kV10 dc10 pm10 cd10 ct10 oc11 kV11 dc11 pm11 cd11 ct11 oc12 kV12 dc12 pm12 cd12 ct12 oc13 kV13 dc13 pm13 cd13 ct13 oc14 kV14 dc14 pm14 cd14 ct14 oc15 kV15 dc15 pm15 cd15 ct15 oc16 kV16 dc16 pm16 cd16 ct16 oc17 kV17 dc17 pm17 cd17 ct17 oc18 kV18 dc18 pm18 cd18 ct18 oc19 kV19 dc19 pm19 cd19 ct19 oc20 kV20 dc20 pm20 cd20 ct20 oc21 kV21 dc21 pm21 cd21 ct21 oc22 kV22 dc22 pm22 cd22 ct22 oc23 kV23 dc23 pm23 cd23 ct23 oc24 kV24 dc24 pm24 cd24 ct24 oc25 kV25 dc25 pm25 cd25 ct25 oc26 kV26 dc26 pm26 cd26 ct26 oc27 kV27 dc27 pm27 cd27 ct27 oc28 kV28 dc28 pm28 cd28 ct28 oc29 kV29 dc29 pm29 cd29 ct29 oc30 kV30 dc30 pm30 cd30 ct30 oc31 kV31 dc31 pm31 cd31 ct31 oc32 kV32 dc32 pm32 cd32 ct32 oc33 kV33 dc33 pm33 cd33 ct33 oc34 kV34 dc34 pm34 cd34 ct34 oc35 kV35 dc35 pm35 cd35 ct35 : Value} {C1 : Addr} {gN gS gF gD gP : Addr} {t_LAST_LEVEL t_LEAST_SIZE t_LAST_DEED : Tok} (X : K.In h) (G : h.Ns mainGlobals mg) (hfa : mg "law" = some (.ref fa))
    (aCC1 : PySem.W.nsIn K mainGlobals "Level" = some (some (.ref C1)))
    (pgC1 : PySem.W.plainGet K C1 Str.empty = true)
    (hdC1 : PySem.W.hasDictIn K C1 = true)
    (poC1 : PySem.W.plainOver K C1 = true)
    (saC1 : PySem.W.findIn K (.ref C1) "__setattr__" = some (some (.builtin "object.__setattr__")))
    (mkC1 : PySem.W.makesIn K C1 = true)
    (kcC1 : PySem.W.keepIn K (.ref C1) = true)
    (nC1_modulus : PySem.W.findIn K (.ref C1) "modulus" = some none)
    (nC1_all_symbols : PySem.W.findIn K (.ref C1) "all_symbols" = some none)
    (nC1_pair_numbers : PySem.W.findIn K (.ref C1) "pair_numbers" = some none)
    (a1 : PySem.W.nsIn K mainGlobals "is_whole" = some (some (.ref f1)))
    (l1 : K.lookup f1 = some ⟨oc1, od1, .func (PySem.W.fnOf "is_whole" "is_whole" (defArgs sWholeP) (defBody sWholeP) (defScope sWholeP) .none kV1 dc1 pm1 an1 cd1 ct1), sl1⟩)
    (c1 : PySem.W.codeIn K cd1 "is_whole" = true)
    (k1 : PySem.W.keepIn K (.ref f1) = true)
    (a2 : PySem.W.nsIn K mainGlobals "is_level" = some (some (.ref f2)))
    (l2 : K.lookup f2 = some ⟨oc2, od2, .func (PySem.W.fnOf "is_level" "is_level" (defArgs sIsLevel) (defBody sIsLevel) (defScope sIsLevel) .none kV2 dc2 pm2 an2 cd2 ct2), sl2⟩)
    (c2 : PySem.W.codeIn K cd2 "is_level" = true)
    (k2 : PySem.W.keepIn K (.ref f2) = true)
    (a3 : PySem.W.nsIn K mainGlobals "level_number" = some (some (.ref f3)))
    (l3 : K.lookup f3 = some ⟨oc3, od3, .func (PySem.W.fnOf "level_number" "level_number" (defArgs sLevelNumber) (defBody sLevelNumber) (defScope sLevelNumber) .none kV3 dc3 pm3 an3 cd3 ct3), sl3⟩)
    (c3 : PySem.W.codeIn K cd3 "level_number" = true)
    (k3 : PySem.W.keepIn K (.ref f3) = true)
    (a4 : PySem.W.nsIn K mainGlobals "common_divisor" = some (some (.ref f4)))
    (l4 : K.lookup f4 = some ⟨oc4, od4, .func (PySem.W.fnOf "common_divisor" "common_divisor" (defArgs sDivisor) (defBody sDivisor) (defScope sDivisor) .none kV4 dc4 pm4 an4 cd4 ct4), sl4⟩)
    (c4 : PySem.W.codeIn K cd4 "common_divisor" = true)
    (k4 : PySem.W.keepIn K (.ref f4) = true)
    (a5 : PySem.W.nsIn K mainGlobals "symbols_numbered" = some (some (.ref f5)))
    (l5 : K.lookup f5 = some ⟨oc5, od5, .func (PySem.W.fnOf "symbols_numbered" "symbols_numbered" (defArgs sSymNum) (defBody sSymNum) (defScope sSymNum) .none kV5 dc5 pm5 an5 cd5 ct5), sl5⟩)
    (c5 : PySem.W.codeIn K cd5 "symbols_numbered" = true)
    (k5 : PySem.W.keepIn K (.ref f5) = true)
    (a6 : PySem.W.findIn K (.ref C1) "__init__" = some (some (.ref f6)))
    (i6 : PySem.W.isFn K (.ref f6) = true)
    (l6 : K.lookup f6 = some ⟨oc6, od6, .func (PySem.W.fnOf "__init__" "Level.__init__" (defArgs sLInit) (defBody sLInit) (defScope sLInit) .none kV6 dc6 pm6 an6 cd6 ct6), sl6⟩)
    (c6 : PySem.W.codeIn K cd6 "Level.__init__" = true)
    (k6 : PySem.W.keepIn K (.ref f6) = true)
    (a7 : PySem.W.nsIn K mainGlobals "_law_cell_at" = some (some (.ref f7)))
    (l7 : K.lookup f7 = some ⟨oc7, od7, .func (PySem.W.fnOf "_law_cell_at" "_law_cell_at" (defArgs sCell) (defBody sCell) (defScope sCell) .none kV7 dc7 pm7 an7 cd7 ct7), sl7⟩)
    (c7 : PySem.W.codeIn K cd7 "_law_cell_at" = true)
    (k7 : PySem.W.keepIn K (.ref f7) = true)
    (a8 : PySem.W.nsIn K mainGlobals "_law_number" = some (some (.ref f8)))
    (l8 : K.lookup f8 = some ⟨oc8, od8, .func (PySem.W.fnOf "_law_number" "_law_number" (defArgs sNumber) (defBody sNumber) (defScope sNumber) .none kV8 dc8 pm8 an8 cd8 ct8), sl8⟩)
    (c8 : PySem.W.codeIn K cd8 "_law_number" = true)
    (k8 : PySem.W.keepIn K (.ref f8) = true)
    (a9 : PySem.W.nsIn K mainGlobals "_law_common" = some (some (.ref f9)))
    (l9 : K.lookup f9 = some ⟨oc9, od9, .func (PySem.W.fnOf "_law_common" "_law_common" (defArgs sLCommon) (defBody sLCommon) (defScope sLCommon) .none kV9 dc9 pm9 an9 cd9 ct9), sl9⟩)
    (c9 : PySem.W.codeIn K cd9 "_law_common" = true)
    (k9 : PySem.W.keepIn K (.ref f9) = true)
    (a10 : PySem.W.findIn K (.ref C1) "number" = some (some (.ref f10)))
    (i10 : PySem.W.isFn K (.ref f10) = true)
    (l10 : K.lookup f10 = some ⟨oc10, od10, .func (PySem.W.fnOf "number" "Level.number" (defArgs sLNumber) (defBody sLNumber) (defScope sLNumber) .none kV10 dc10 pm10 an10 cd10 ct10), sl10⟩)
    (c10 : PySem.W.codeIn K cd10 "Level.number" = true)
    (k10 : PySem.W.keepIn K (.ref f10) = true)
    (a11 : PySem.W.nsIn K mainGlobals "is_deed" = some (some (.ref f11)))
    (l11 : K.lookup f11 = some ⟨oc11, od11, .func (PySem.W.fnOf "is_deed" "is_deed" (defArgs sIsDeed) (defBody sIsDeed) (defScope sIsDeed) .none kV11 dc11 pm11 an11 cd11 ct11), sl11⟩)
    (c11 : PySem.W.codeIn K cd11 "is_deed" = true)
    (k11 : PySem.W.keepIn K (.ref f11) = true)
    (a12 : PySem.W.nsIn K mainGlobals "check_deed" = some (some (.ref f12)))
    (l12 : K.lookup f12 = some ⟨oc12, od12, .func (PySem.W.fnOf "check_deed" "check_deed" (defArgs sCheckDeed) (defBody sCheckDeed) (defScope sCheckDeed) .none kV12 dc12 pm12 an12 cd12 ct12), sl12⟩)
    (c12 : PySem.W.codeIn K cd12 "check_deed" = true)
    (k12 : PySem.W.keepIn K (.ref f12) = true)
    (a13 : PySem.W.nsIn K mainGlobals "divisors" = some (some (.ref f13)))
    (l13 : K.lookup f13 = some ⟨oc13, od13, .func (PySem.W.fnOf "divisors" "divisors" (defArgs sDivisors) (defBody sDivisors) (defScope sDivisors) .none kV13 dc13 pm13 an13 cd13 ct13), sl13⟩)
    (c13 : PySem.W.codeIn K cd13 "divisors" = true)
    (k13 : PySem.W.keepIn K (.ref f13) = true)
    (a14 : PySem.W.nsIn K mainGlobals "primes_in" = some (some (.ref f14)))
    (l14 : K.lookup f14 = some ⟨oc14, od14, .func (PySem.W.fnOf "primes_in" "primes_in" (defArgs sPrimesIn) (defBody sPrimesIn) (defScope sPrimesIn) .none kV14 dc14 pm14 an14 cd14 ct14), sl14⟩)
    (c14 : PySem.W.codeIn K cd14 "primes_in" = true)
    (k14 : PySem.W.keepIn K (.ref f14) = true)
    (a15 : PySem.W.nsIn K mainGlobals "symbols_counted" = some (some (.ref f15)))
    (l15 : K.lookup f15 = some ⟨oc15, od15, .func (PySem.W.fnOf "symbols_counted" "symbols_counted" (defArgs sSymCount) (defBody sSymCount) (defScope sSymCount) .none kV15 dc15 pm15 an15 cd15 ct15), sl15⟩)
    (c15 : PySem.W.codeIn K cd15 "symbols_counted" = true)
    (k15 : PySem.W.keepIn K (.ref f15) = true)
    (a16 : PySem.W.nsIn K mainGlobals "square_twelfths" = some (some (.ref f16)))
    (l16 : K.lookup f16 = some ⟨oc16, od16, .func (PySem.W.fnOf "square_twelfths" "square_twelfths" (defArgs sSquare) (defBody sSquare) (defScope sSquare) .none kV16 dc16 pm16 an16 cd16 ct16), sl16⟩)
    (c16 : PySem.W.codeIn K cd16 "square_twelfths" = true)
    (k16 : PySem.W.keepIn K (.ref f16) = true)
    (a17 : PySem.W.nsIn K mainGlobals "is_small" = some (some (.ref f17)))
    (l17 : K.lookup f17 = some ⟨oc17, od17, .func (PySem.W.fnOf "is_small" "is_small" (defArgs sIsSmall) (defBody sIsSmall) (defScope sIsSmall) .none kV17 dc17 pm17 an17 cd17 ct17), sl17⟩)
    (c17 : PySem.W.codeIn K cd17 "is_small" = true)
    (k17 : PySem.W.keepIn K (.ref f17) = true)
    (a18 : PySem.W.nsIn K mainGlobals "small_forms" = some (some (.ref f18)))
    (l18 : K.lookup f18 = some ⟨oc18, od18, .func (PySem.W.fnOf "small_forms" "small_forms" (defArgs sSmall) (defBody sSmall) (defScope sSmall) .none kV18 dc18 pm18 an18 cd18 ct18), sl18⟩)
    (c18 : PySem.W.codeIn K cd18 "small_forms" = true)
    (k18 : PySem.W.keepIn K (.ref f18) = true)
    (a19 : PySem.W.nsIn K mainGlobals "weight" = some (some (.ref f19)))
    (l19 : K.lookup f19 = some ⟨oc19, od19, .func (PySem.W.fnOf "weight" "weight" (defArgs sWeight) (defBody sWeight) (defScope sWeight) .none kV19 dc19 pm19 an19 cd19 ct19), sl19⟩)
    (c19 : PySem.W.codeIn K cd19 "weight" = true)
    (k19 : PySem.W.keepIn K (.ref f19) = true)
    (a20 : PySem.W.findIn K (.ref C1) "symbols" = some (some (.ref f20)))
    (i20 : PySem.W.isFn K (.ref f20) = true)
    (l20 : K.lookup f20 = some ⟨oc20, od20, .func (PySem.W.fnOf "symbols" "Level.symbols" (defArgs sLSymbols) (defBody sLSymbols) (defScope sLSymbols) .none kV20 dc20 pm20 an20 cd20 ct20), sl20⟩)
    (c20 : PySem.W.codeIn K cd20 "Level.symbols" = true)
    (k20 : PySem.W.keepIn K (.ref f20) = true)
    (a21 : PySem.W.findIn K (.ref C1) "tells" = some (some (.ref f21)))
    (i21 : PySem.W.isFn K (.ref f21) = true)
    (l21 : K.lookup f21 = some ⟨oc21, od21, .func (PySem.W.fnOf "tells" "Level.tells" (defArgs sLTells) (defBody sLTells) (defScope sLTells) .none kV21 dc21 pm21 an21 cd21 ct21), sl21⟩)
    (c21 : PySem.W.codeIn K cd21 "Level.tells" = true)
    (k21 : PySem.W.keepIn K (.ref f21) = true)
    (a22 : PySem.W.findIn K (.ref C1) "number_of" = some (some (.ref f22)))
    (i22 : PySem.W.isFn K (.ref f22) = true)
    (l22 : K.lookup f22 = some ⟨oc22, od22, .func (PySem.W.fnOf "number_of" "Level.number_of" (defArgs sLNumberOf) (defBody sLNumberOf) (defScope sLNumberOf) .none kV22 dc22 pm22 an22 cd22 ct22), sl22⟩)
    (c22 : PySem.W.codeIn K cd22 "Level.number_of" = true)
    (k22 : PySem.W.keepIn K (.ref f22) = true)
    (a23 : PySem.W.nsIn K mainGlobals "stays" = some (some (.ref f23)))
    (l23 : K.lookup f23 = some ⟨oc23, od23, .func (PySem.W.fnOf "stays" "stays" (defArgs sStays) (defBody sStays) (defScope sStays) .none kV23 dc23 pm23 an23 cd23 ct23), sl23⟩)
    (c23 : PySem.W.codeIn K cd23 "stays" = true)
    (k23 : PySem.W.keepIn K (.ref f23) = true)
    (a24 : PySem.W.nsIn K mainGlobals "form_twelfths" = some (some (.ref f24)))
    (l24 : K.lookup f24 = some ⟨oc24, od24, .func (PySem.W.fnOf "form_twelfths" "form_twelfths" (defArgs sFormT) (defBody sFormT) (defScope sFormT) .none kV24 dc24 pm24 an24 cd24 ct24), sl24⟩)
    (c24 : PySem.W.codeIn K cd24 "form_twelfths" = true)
    (k24 : PySem.W.keepIn K (.ref f24) = true)
    (a25 : PySem.W.nsIn K mainGlobals "end_twelfths" = some (some (.ref f25)))
    (l25 : K.lookup f25 = some ⟨oc25, od25, .func (PySem.W.fnOf "end_twelfths" "end_twelfths" (defArgs sEndT) (defBody sEndT) (defScope sEndT) .none kV25 dc25 pm25 an25 cd25 ct25), sl25⟩)
    (c25 : PySem.W.codeIn K cd25 "end_twelfths" = true)
    (k25 : PySem.W.keepIn K (.ref f25) = true)
    (a26 : PySem.W.nsIn K mainGlobals "told_by_forms" = some (some (.ref f26)))
    (l26 : K.lookup f26 = some ⟨oc26, od26, .func (PySem.W.fnOf "told_by_forms" "told_by_forms" (defArgs sToldBy) (defBody sToldBy) (defScope sToldBy) .none kV26 dc26 pm26 an26 cd26 ct26), sl26⟩)
    (c26 : PySem.W.codeIn K cd26 "told_by_forms" = true)
    (k26 : PySem.W.keepIn K (.ref f26) = true)
    (a27 : PySem.W.nsIn K mainGlobals "_law_whole" = some (some (.ref f27)))
    (l27 : K.lookup f27 = some ⟨oc27, od27, .func (PySem.W.fnOf "_law_whole" "_law_whole" (defArgs sLWhole) (defBody sLWhole) (defScope sLWhole) .none kV27 dc27 pm27 an27 cd27 ct27), sl27⟩)
    (c27 : PySem.W.codeIn K cd27 "_law_whole" = true)
    (k27 : PySem.W.keepIn K (.ref f27) = true)
    (a28 : PySem.W.nsIn K mainGlobals "_law_symbols" = some (some (.ref f28)))
    (l28 : K.lookup f28 = some ⟨oc28, od28, .func (PySem.W.fnOf "_law_symbols" "_law_symbols" (defArgs sLSymNum) (defBody sLSymNum) (defScope sLSymNum) .none kV28 dc28 pm28 an28 cd28 ct28), sl28⟩)
    (c28 : PySem.W.codeIn K cd28 "_law_symbols" = true)
    (k28 : PySem.W.keepIn K (.ref f28) = true)
    (a29 : PySem.W.nsIn K mainGlobals "_law_divisors" = some (some (.ref f29)))
    (l29 : K.lookup f29 = some ⟨oc29, od29, .func (PySem.W.fnOf "_law_divisors" "_law_divisors" (defArgs sLDivs) (defBody sLDivs) (defScope sLDivs) .none kV29 dc29 pm29 an29 cd29 ct29), sl29⟩)
    (c29 : PySem.W.codeIn K cd29 "_law_divisors" = true)
    (k29 : PySem.W.keepIn K (.ref f29) = true)
    (a30 : PySem.W.nsIn K mainGlobals "_law_by_divisors" = some (some (.ref f30)))
    (l30 : K.lookup f30 = some ⟨oc30, od30, .func (PySem.W.fnOf "_law_by_divisors" "_law_by_divisors" (defArgs sByDiv) (defBody sByDiv) (defScope sByDiv) .none kV30 dc30 pm30 an30 cd30 ct30), sl30⟩)
    (c30 : PySem.W.codeIn K cd30 "_law_by_divisors" = true)
    (k30 : PySem.W.keepIn K (.ref f30) = true)
    (a31 : PySem.W.nsIn K mainGlobals "_law_forms" = some (some (.ref f31)))
    (l31 : K.lookup f31 = some ⟨oc31, od31, .func (PySem.W.fnOf "_law_forms" "_law_forms" (defArgs sForms) (defBody sForms) (defScope sForms) .none kV31 dc31 pm31 an31 cd31 ct31), sl31⟩)
    (c31 : PySem.W.codeIn K cd31 "_law_forms" = true)
    (k31 : PySem.W.keepIn K (.ref f31) = true)
    (a32 : PySem.W.nsIn K mainGlobals "_law_share" = some (some (.ref f32)))
    (l32 : K.lookup f32 = some ⟨oc32, od32, .func (PySem.W.fnOf "_law_share" "_law_share" (defArgs sShare) (defBody sShare) (defScope sShare) .none kV32 dc32 pm32 an32 cd32 ct32), sl32⟩)
    (c32 : PySem.W.codeIn K cd32 "_law_share" = true)
    (k32 : PySem.W.keepIn K (.ref f32) = true)
    (a33 : PySem.W.nsIn K mainGlobals "_law_stays" = some (some (.ref f33)))
    (l33 : K.lookup f33 = some ⟨oc33, od33, .func (PySem.W.fnOf "_law_stays" "_law_stays" (defArgs sLStays) (defBody sLStays) (defScope sLStays) .none kV33 dc33 pm33 an33 cd33 ct33), sl33⟩)
    (c33 : PySem.W.codeIn K cd33 "_law_stays" = true)
    (k33 : PySem.W.keepIn K (.ref f33) = true)
    (a34 : PySem.W.nsIn K mainGlobals "_law_due" = some (some (.ref f34)))
    (l34 : K.lookup f34 = some ⟨oc34, od34, .func (PySem.W.fnOf "_law_due" "_law_due" (defArgs sDue) (defBody sDue) (defScope sDue) .none kV34 dc34 pm34 an34 cd34 ct34), sl34⟩)
    (c34 : PySem.W.codeIn K cd34 "_law_due" = true)
    (k34 : PySem.W.keepIn K (.ref f34) = true)
    (a35 : PySem.W.nsIn K mainGlobals "law" = some (some (.ref f35)))
    (l35 : K.lookup f35 = some ⟨oc35, od35, .func (PySem.W.fnOf "law" "law" (defArgs sLaw) (defBody sLaw) (defScope sLaw) .none kV35 dc35 pm35 an35 cd35 ct35), sl35⟩)
    (c35 : PySem.W.codeIn K cd35 "law" = true)
    (k35 : PySem.W.keepIn K (.ref f35) = true)
    (aXNoLevel : PySem.W.nsIn K mainGlobals "NoLevel" = some (some (.ref gN)))
    (q_NoLevel : PySem.W.excIn K gN [.type "ValueError", .type "Exception", .type "BaseException", .type "object"] "ValueError.__new__" = true)
    (aXNoSymbol : PySem.W.nsIn K mainGlobals "NoSymbol" = some (some (.ref gS)))
    (q_NoSymbol : PySem.W.excIn K gS [.type "ValueError", .type "Exception", .type "BaseException", .type "object"] "ValueError.__new__" = true)
    (aXNoForm : PySem.W.nsIn K mainGlobals "NoForm" = some (some (.ref gF)))
    (q_NoForm : PySem.W.excIn K gF [.type "ValueError", .type "Exception", .type "BaseException", .type "object"] "ValueError.__new__" = true)
    (aXNoDeed : PySem.W.nsIn K mainGlobals "NoDeed" = some (some (.ref gD)))
    (q_NoDeed : PySem.W.excIn K gD [.type "ValueError", .type "Exception", .type "BaseException", .type "object"] "ValueError.__new__" = true)
    (aXNoPart : PySem.W.nsIn K mainGlobals "NoPart" = some (some (.ref gP)))
    (q_NoPart : PySem.W.excIn K gP [.type "ValueError", .type "Exception", .type "BaseException", .type "object"] "ValueError.__new__" = true)
    (aILAST_LEVEL : PySem.W.nsIn K mainGlobals "LAST_LEVEL" = some (some (.int 48 t_LAST_LEVEL)))
    (aILEAST_SIZE : PySem.W.nsIn K mainGlobals "LEAST_SIZE" = some (some (.int (-400) t_LEAST_SIZE)))
    (aILAST_DEED : PySem.W.nsIn K mainGlobals "LAST_DEED" = some (some (.int 20 t_LAST_DEED)))
    (z_len : PySem.W.nsIn K mainGlobals "len" = some none)
    (z_abs : PySem.W.nsIn K mainGlobals "abs" = some none)
    (z_int : PySem.W.nsIn K mainGlobals "int" = some none)
    (z_max : PySem.W.nsIn K mainGlobals "max" = some none)
    (z_min : PySem.W.nsIn K mainGlobals "min" = some none)
    (z_range : PySem.W.nsIn K mainGlobals "range" = some none)
    (z_isinstance : PySem.W.nsIn K mainGlobals "isinstance" = some none)
    (z_bool : PySem.W.nsIn K mainGlobals "bool" = some none)
    (z_tuple : PySem.W.nsIn K mainGlobals "tuple" = some none)
    (z_list : PySem.W.nsIn K mainGlobals "list" = some none)
    (z_str : PySem.W.nsIn K mainGlobals "str" = some none)
    (z_zip : PySem.W.nsIn K mainGlobals "zip" = some none)
    (z_all : PySem.W.nsIn K mainGlobals "all" = some none)
    (z_divmod : PySem.W.nsIn K mainGlobals "divmod" = some none)
    (z_enumerate : PySem.W.nsIn K mainGlobals "enumerate" = some none)
    (z_sum : PySem.W.nsIn K mainGlobals "sum" = some none)
    (z_sorted : PySem.W.nsIn K mainGlobals "sorted" = some none)
    (z_any : PySem.W.nsIn K mainGlobals "any" = some none)
    (z_dict : PySem.W.nsIn K mainGlobals "dict" = some none)
    (z_reversed : PySem.W.nsIn K mainGlobals "reversed" = some none)
    : ∃ fd : FuncData, (∀ (s : Shared) (v : Value), BindsTo s fd ⟨[v], []⟩ [("_law_script", v)]) ∧ ∀ base : Heap, K.In base → base.Ns mainGlobals mg → FnOk l.prog w K mg base CX0 8 fa fd ["_law_script"] (L3.spLaw K) := by
  have e := hfa.symm.trans (PySem.W.mg_of X G a35)
  cases e
  have T : Bt mg := { len := PySem.W.mg_none_of X G z_len, abs := PySem.W.mg_none_of X G z_abs, int := PySem.W.mg_none_of X G z_int, max := PySem.W.mg_none_of X G z_max, min := PySem.W.mg_none_of X G z_min, range := PySem.W.mg_none_of X G z_range, isinstance := PySem.W.mg_none_of X G z_isinstance, bool := PySem.W.mg_none_of X G z_bool, tuple := PySem.W.mg_none_of X G z_tuple, list := PySem.W.mg_none_of X G z_list, str := PySem.W.mg_none_of X G z_str, zip := PySem.W.mg_none_of X G z_zip, all := PySem.W.mg_none_of X G z_all, divmod := PySem.W.mg_none_of X G z_divmod, enumerate := PySem.W.mg_none_of X G z_enumerate, sum := PySem.W.mg_none_of X G z_sum, sorted := PySem.W.mg_none_of X G z_sorted, any := PySem.W.mg_none_of X G z_any, dict := PySem.W.mg_none_of X G z_dict, reversed := PySem.W.mg_none_of X G z_reversed }
  have TLevel : LevC K C1 := ⟨⟨pgC1, hdC1, poC1, saC1⟩, nC1_modulus, nC1_all_symbols, nC1_pair_numbers⟩
  have m_NoLevel := PySem.W.mg_of X G aXNoLevel
  have m_NoSymbol := PySem.W.mg_of X G aXNoSymbol
  have m_NoForm := PySem.W.mg_of X G aXNoForm
  have m_NoDeed := PySem.W.mg_of X G aXNoDeed
  have m_NoPart := PySem.W.mg_of X G aXNoPart
  have mI_LAST_LEVEL := PySem.W.mg_of X G aILAST_LEVEL
  have mI_LEAST_SIZE := PySem.W.mg_of X G aILEAST_SIZE
  have mI_LAST_DEED := PySem.W.mg_of X G aILAST_DEED
  have F1 := fun_mk (st := sWholeP) l1 c1 k1
  have b1 := F1.binds (ps := ["thing"]) fun _ _ _ _ _ _ us hl => by obtain ⟨a0, rfl⟩ := us_1 hl; rfl
  have m1 := PySem.W.mg_of X G a1
  have F2 := fun_mk (st := sIsLevel) l2 c2 k2
  have b2 := F2.binds (ps := ["thing"]) fun _ _ _ _ _ _ us hl => by obtain ⟨a0, rfl⟩ := us_1 hl; rfl
  have m2 := PySem.W.mg_of X G a2
  have F3 := fun_mk (st := sLevelNumber) l3 c3 k3
  have b3 := F3.binds (ps := ["thing"]) fun _ _ _ _ _ _ us hl => by obtain ⟨a0, rfl⟩ := us_1 hl; rfl
  have m3 := PySem.W.mg_of X G a3
  have F4 := fun_mk (st := sDivisor) l4 c4 k4
  have b4 := F4.binds (ps := ["one", "other"]) fun _ _ _ _ _ _ us hl => by obtain ⟨a0, a1, rfl⟩ := us_2 hl; rfl
  have m4 := PySem.W.mg_of X G a4
  have F5 := fun_mk (st := sSymNum) l5 c5 k5
  have b5 := F5.binds (ps := ["n"]) fun _ _ _ _ _ _ us hl => by obtain ⟨a0, rfl⟩ := us_1 hl; rfl
  have m5 := PySem.W.mg_of X G a5
  have F6 := fun_mk (st := sLInit) l6 c6 k6
  have b6 := F6.binds (ps := ["self", "n"]) fun _ _ _ _ _ _ us hl => by obtain ⟨a0, a1, rfl⟩ := us_2 hl; rfl
  have F7 := fun_mk (st := sCell) l7 c7 k7
  have b7 := F7.binds (ps := ["_law_script", "_law_k"]) fun _ _ _ _ _ _ us hl => by obtain ⟨a0, a1, rfl⟩ := us_2 hl; rfl
  have m7 := PySem.W.mg_of X G a7
  have F8 := fun_mk (st := sNumber) l8 c8 k8
  have b8 := F8.binds (ps := ["_law_script", "_law_k"]) fun _ _ _ _ _ _ us hl => by obtain ⟨a0, a1, rfl⟩ := us_2 hl; rfl
  have m8 := PySem.W.mg_of X G a8
  have F9 := fun_mk (st := sLCommon) l9 c9 k9
  have b9 := F9.binds (ps := ["_law_one", "_law_other"]) fun _ _ _ _ _ _ us hl => by obtain ⟨a0, a1, rfl⟩ := us_2 hl; rfl
  have m9 := PySem.W.mg_of X G a9
  have F10 := fun_mk (st := sLNumber) l10 c10 k10
  have b10 := F10.binds (ps := ["self"]) fun _ _ _ _ _ _ us hl => by obtain ⟨a0, rfl⟩ := us_1 hl; rfl
  have F11 := fun_mk (st := sIsDeed) l11 c11 k11
  have b11 := F11.binds (ps := ["thing"]) fun _ _ _ _ _ _ us hl => by obtain ⟨a0, rfl⟩ := us_1 hl; rfl
  have m11 := PySem.W.mg_of X G a11
  have F12 := fun_mk (st := sCheckDeed) l12 c12 k12
  have b12 := F12.binds (ps := ["thing"]) fun _ _ _ _ _ _ us hl => by obtain ⟨a0, rfl⟩ := us_1 hl; rfl
  have m12 := PySem.W.mg_of X G a12
  have F13 := fun_mk (st := sDivisors) l13 c13 k13
  have b13 := F13.binds (ps := ["number"]) fun _ _ _ _ _ _ us hl => by obtain ⟨a0, rfl⟩ := us_1 hl; rfl
  have m13 := PySem.W.mg_of X G a13
  have F14 := fun_mk (st := sPrimesIn) l14 c14 k14
  have b14 := F14.binds (ps := ["number"]) fun _ _ _ _ _ _ us hl => by obtain ⟨a0, rfl⟩ := us_1 hl; rfl
  have m14 := PySem.W.mg_of X G a14
  have F15 := fun_mk (st := sSymCount) l15 c15 k15
  have b15 := F15.binds (ps := ["n"]) fun _ _ _ _ _ _ us hl => by obtain ⟨a0, rfl⟩ := us_1 hl; rfl
  have m15 := PySem.W.mg_of X G a15
  have F16 := fun_mk (st := sSquare) l16 c16 k16
  have b16 := F16.binds (ps := ["n", "m"]) fun _ _ _ _ _ _ us hl => by obtain ⟨a0, a1, rfl⟩ := us_2 hl; rfl
  have m16 := PySem.W.mg_of X G a16
  have F17 := fun_mk (st := sIsSmall) l17 c17 k17
  have b17 := F17.binds (ps := ["form"]) fun _ _ _ _ _ _ us hl => by obtain ⟨a0, rfl⟩ := us_1 hl; rfl
  have m17 := PySem.W.mg_of X G a17
  have F18 := fun_mk (st := sSmall) l18 c18 k18
  have b18 := F18.binds (ps := ["size"]) fun _ _ _ _ _ _ us hl => by obtain ⟨a0, rfl⟩ := us_1 hl; rfl
  have m18 := PySem.W.mg_of X G a18
  have F19 := fun_mk (st := sWeight) l19 c19 k19
  have b19 := F19.binds (ps := ["form"]) fun _ _ _ _ _ _ us hl => by obtain ⟨a0, rfl⟩ := us_1 hl; rfl
  have m19 := PySem.W.mg_of X G a19
  have F20 := fun_mk (st := sLSymbols) l20 c20 k20
  have b20 := F20.binds (ps := ["self"]) fun _ _ _ _ _ _ us hl => by obtain ⟨a0, rfl⟩ := us_1 hl; rfl
  have F21 := fun_mk (st := sLTells) l21 c21 k21
  have b21 := F21.binds (ps := ["self", "u", "v"]) fun _ _ _ _ _ _ us hl => by obtain ⟨a0, a1, a2, rfl⟩ := us_3 hl; rfl
  have F22 := fun_mk (st := sLNumberOf) l22 c22 k22
  have b22 := F22.binds (ps := ["self", "u", "v"]) fun _ _ _ _ _ _ us hl => by obtain ⟨a0, a1, a2, rfl⟩ := us_3 hl; rfl
  have F23 := fun_mk (st := sStays) l23 c23 k23
  have b23 := F23.binds (ps := ["level", "form", "t"]) fun _ _ _ _ _ _ us hl => by obtain ⟨a0, a1, a2, rfl⟩ := us_3 hl; rfl
  have m23 := PySem.W.mg_of X G a23
  have F24 := fun_mk (st := sFormT) l24 c24 k24
  have b24 := F24.binds (ps := ["level", "m"]) fun _ _ _ _ _ _ us hl => by obtain ⟨a0, a1, rfl⟩ := us_2 hl; rfl
  have m24 := PySem.W.mg_of X G a24
  have F25 := fun_mk (st := sEndT) l25 c25 k25
  have b25 := F25.binds (ps := ["n", "m"]) fun _ _ _ _ _ _ us hl => by obtain ⟨a0, a1, rfl⟩ := us_2 hl; rfl
  have m25 := PySem.W.mg_of X G a25
  have F26 := fun_mk (st := sToldBy) l26 c26 k26
  have b26 := F26.binds (ps := ["level", "m"]) fun _ _ _ _ _ _ us hl => by obtain ⟨a0, a1, rfl⟩ := us_2 hl; rfl
  have m26 := PySem.W.mg_of X G a26
  have F27 := fun_mk (st := sLWhole) l27 c27 k27
  have b27 := F27.binds (ps := ["_law_thing"]) fun _ _ _ _ _ _ us hl => by obtain ⟨a0, rfl⟩ := us_1 hl; rfl
  have m27 := PySem.W.mg_of X G a27
  have F28 := fun_mk (st := sLSymNum) l28 c28 k28
  have b28 := F28.binds (ps := ["_law_n"]) fun _ _ _ _ _ _ us hl => by obtain ⟨a0, rfl⟩ := us_1 hl; rfl
  have m28 := PySem.W.mg_of X G a28
  have F29 := fun_mk (st := sLDivs) l29 c29 k29
  have b29 := F29.binds (ps := ["_law_n"]) fun _ _ _ _ _ _ us hl => by obtain ⟨a0, rfl⟩ := us_1 hl; rfl
  have m29 := PySem.W.mg_of X G a29
  have F30 := fun_mk (st := sByDiv) l30 c30 k30
  have b30 := F30.binds (ps := ["_law_n", "_law_m"]) fun _ _ _ _ _ _ us hl => by obtain ⟨a0, a1, rfl⟩ := us_2 hl; rfl
  have m30 := PySem.W.mg_of X G a30
  have F31 := fun_mk (st := sForms) l31 c31 k31
  have b31 := F31.binds (ps := ["_law_size"]) fun _ _ _ _ _ _ us hl => by obtain ⟨a0, rfl⟩ := us_1 hl; rfl
  have m31 := PySem.W.mg_of X G a31
  have F32 := fun_mk (st := sShare) l32 c32 k32
  have b32 := F32.binds (ps := ["_law_form"]) fun _ _ _ _ _ _ us hl => by obtain ⟨a0, rfl⟩ := us_1 hl; rfl
  have m32 := PySem.W.mg_of X G a32
  have F33 := fun_mk (st := sLStays) l33 c33 k33
  have b33 := F33.binds (ps := ["_law_n", "_law_found", "_law_told", "_law_form", "_law_t"]) fun _ _ _ _ _ _ us hl => by obtain ⟨a0, a1, a2, a3, a4, rfl⟩ := us_5 hl; rfl
  have m33 := PySem.W.mg_of X G a33
  have F34 := fun_mk (st := sDue) l34 c34 k34
  have b34 := F34.binds (ps := ["_law_n", "_law_m"]) fun _ _ _ _ _ _ us hl => by obtain ⟨a0, a1, rfl⟩ := us_2 hl; rfl
  have m34 := PySem.W.mg_of X G a34
  have F35 := fun_mk (st := sLaw) l35 c35 k35
  have b35 := F35.binds (ps := ["_law_script"]) fun _ _ _ _ _ _ us hl => by obtain ⟨a0, rfl⟩ := us_1 hl; rfl
  have m35 := PySem.W.mg_of X G a35
  refine ⟨PySem.W.fnOf "law" "law" (defArgs sLaw) (defBody sLaw) (defScope sLaw) .none kV35 dc35 pm35 an35 cd35 ct35, fun s v => .of_eq rfl, fun base hb1 hb2 => ?_⟩
  have O1 : Own3 l.prog w K mg base 1 "is_whole" ["thing"] (spWhole) := ⟨_, _, ok_wholeP F1 T  , m1, k1, b1⟩
  have O2 : Own3 l.prog w K mg base 2 "is_level" ["thing"] (spIsLevel) := ⟨_, _, ok_isLevel F2 T mI_LAST_LEVEL (O1.mono (by decide)), m2, k2, b2⟩
  have O3 : Own3 l.prog w K mg base 3 "level_number" ["thing"] (spLevelNumber gN) := ⟨_, _, ok_levelNumber F3 T m_NoLevel q_NoLevel (O2.mono (by decide)), m3, k3, b3⟩
  have O4 : Own3 l.prog w K mg base 1 "common_divisor" ["one", "other"] (spDivisor) := ⟨_, _, ok_divisor F4 T  , m4, k4, b4⟩
  have O5 : Own3 l.prog w K mg base 2 "symbols_numbered" ["n"] (spSymNum) := ⟨_, _, ok_symNum F5 T  (O4.mono (by decide)), m5, k5, b5⟩
  have O6 : MkOk l.prog w K mg base 4 "Level" C1 ["self", "n"] (spLInit C1 gN) := ⟨⟨_, _, ok_lInit F6 T TLevel (O3.mono (by decide)) (O5.mono (by decide)), ⟨mkC1, a6, i6, kcC1⟩, b6⟩, PySem.W.mg_of X G aCC1⟩
  have O7 : Own3 l.prog w K mg base 1 "_law_cell_at" ["_law_script", "_law_k"] (spCell) := ⟨_, _, ok_cell F7 T  , m7, k7, b7⟩
  have O8 : Own3 l.prog w K mg base 2 "_law_number" ["_law_script", "_law_k"] (spNumber) := ⟨_, _, ok_number F8 T  (O7.mono (by decide)), m8, k8, b8⟩
  have O9 : Own3 l.prog w K mg base 1 "_law_common" ["_law_one", "_law_other"] (spDivisor) := ⟨_, _, ok_lCommon F9 T  , m9, k9, b9⟩
  have O10 : MtOk l.prog w K mg base 1 C1 "number" ["self"] (spLNumber C1) := ⟨TLevel.cl, _, _, ok_lNumber F10 T TLevel , ⟨a10, i10, k10⟩, b10⟩
  have O11 : Own3 l.prog w K mg base 2 "is_deed" ["thing"] (spIsDeed) := ⟨_, _, ok_isDeed F11 T mI_LAST_DEED (O1.mono (by decide)), m11, k11, b11⟩
  have O12 : Own3 l.prog w K mg base 3 "check_deed" ["thing"] (spCheckDeed) := ⟨_, _, ok_checkDeed F12 T m_NoDeed q_NoDeed (O11.mono (by decide)), m12, k12, b12⟩
  have O13 : Own3 l.prog w K mg base 1 "divisors" ["number"] (spDivs) := ⟨_, _, ok_divisors F13 T  , m13, k13, b13⟩
  have O14 : Own3 l.prog w K mg base 2 "primes_in" ["number"] (spPrimes) := ⟨_, _, ok_primesIn F14 T  (O13.mono (by decide)), m14, k14, b14⟩
  have O15 : Own3 l.prog w K mg base 4 "symbols_counted" ["n"] (spSymCount gN) := ⟨_, _, ok_symCount F15 T  (O3.mono (by decide)) (O14.mono (by decide)), m15, k15, b15⟩
  have O16 : Own3 l.prog w K mg base 5 "square_twelfths" ["n", "m"] (spSquare) := ⟨_, _, ok_square F16 T  (O15.mono (by decide)), m16, k16, b16⟩
  have O17 : Own3 l.prog w K mg base 1 "is_small" ["form"] (spIsSmall) := ⟨_, _, ok_isSmall F17 T  , m17, k17, b17⟩
  have O18 : Own3 l.prog w K mg base 2 "small_forms" ["size"] (spSmall) := ⟨_, _, ok_small F18 T mI_LEAST_SIZE m_NoForm q_NoForm (O1.mono (by decide)) (O17.mono (by decide)), m18, k18, b18⟩
  have O19 : Own3 l.prog w K mg base 1 "weight" ["form"] (spWeight) := ⟨_, _, ok_weight F19 T  , m19, k19, b19⟩
  have O20 : MtOk l.prog w K mg base 1 C1 "symbols" ["self"] (spLSymbols C1) := ⟨TLevel.cl, _, _, ok_lSymbols F20 T TLevel , ⟨a20, i20, k20⟩, b20⟩
  have O21 : MtOk l.prog w K mg base 1 C1 "tells" ["self", "u", "v"] (spLTells C1) := ⟨TLevel.cl, _, _, ok_lTells F21 T TLevel , ⟨a21, i21, k21⟩, b21⟩
  have O22 : MtOk l.prog w K mg base 2 C1 "number_of" ["self", "u", "v"] (spLNumberOf C1 gS) := ⟨TLevel.cl, _, _, ok_lNumberOf F22 T TLevel m_NoSymbol q_NoSymbol (O21.mono (by decide)), ⟨a22, i22, k22⟩, b22⟩
  have O23 : Own3 l.prog w K mg base 5 "stays" ["level", "form", "t"] (spStays C1) := ⟨_, _, ok_stays F23 T TLevel (O20.mono (by decide)) (O22.mono (by decide)), m23, k23, b23⟩
  have O24 : Own3 l.prog w K mg base 6 "form_twelfths" ["level", "m"] (spFormT C1) := ⟨_, _, ok_formT F24 T  (O18.mono (by decide)) (O19.mono (by decide)) (O23.mono (by decide)), m24, k24, b24⟩
  have O25 : Own3 l.prog w K mg base 2 "end_twelfths" ["n", "m"] (spEndT) := ⟨_, _, ok_endT F25 T  (O13.mono (by decide)) (O4.mono (by decide)), m25, k25, b25⟩
  have O26 : Own3 l.prog w K mg base 7 "told_by_forms" ["level", "m"] (spToldBy C1) := ⟨_, _, ok_toldBy F26 T TLevel m_NoPart q_NoPart (O10.mono (by decide)) (O12.mono (by decide)) (O4.mono (by decide)) (O16.mono (by decide)) (O24.mono (by decide)) (O25.mono (by decide)) (O13.mono (by decide)), m26, k26, b26⟩
  have O27 : Own3 l.prog w K mg base 1 "_law_whole" ["_law_thing"] (spWhole) := ⟨_, _, ok_lWhole F27 T  , m27, k27, b27⟩
  have O28 : Own3 l.prog w K mg base 2 "_law_symbols" ["_law_n"] (spSymNum) := ⟨_, _, ok_lSymNum F28 T  (O9.mono (by decide)), m28, k28, b28⟩
  have O29 : Own3 l.prog w K mg base 1 "_law_divisors" ["_law_n"] (spDivs) := ⟨_, _, ok_lDivs F29 T  , m29, k29, b29⟩
  have O30 : Own3 l.prog w K mg base 2 "_law_by_divisors" ["_law_n", "_law_m"] (spByDiv) := ⟨_, _, ok_byDiv F30 T  (O29.mono (by decide)) (O9.mono (by decide)), m30, k30, b30⟩
  have O31 : Own3 l.prog w K mg base 1 "_law_forms" ["_law_size"] (spForms) := ⟨_, _, ok_forms F31 T  , m31, k31, b31⟩
  have O32 : Own3 l.prog w K mg base 1 "_law_share" ["_law_form"] (spShare) := ⟨_, _, ok_share F32 T  , m32, k32, b32⟩
  have O33 : Own3 l.prog w K mg base 1 "_law_stays" ["_law_n", "_law_found", "_law_told", "_law_form", "_law_t"] (spLStays) := ⟨_, _, ok_lStays F33 T  , m33, k33, b33⟩
  have O34 : Own3 l.prog w K mg base 3 "_law_due" ["_law_n", "_law_m"] (spDue) := ⟨_, _, ok_due F34 T  (O28.mono (by decide)) (O29.mono (by decide)) (O30.mono (by decide)) (O31.mono (by decide)) (O32.mono (by decide)) (O33.mono (by decide)), m34, k34, b34⟩
  exact law_of (ok_law F35 T TLevel (O6.mono (by decide)) (O8.mono (by decide)) (O9.mono (by decide)) (O26.mono (by decide)) (O27.mono (by decide)) (O34.mono (by decide))) fun ns hn Q q => ⟨hn, q⟩
theorem walk {l : PySem.W.OpenLaw} {q : Program} {loose : List Str} {XP : (Str → Option Value) → Heap → Prop} {YP : World → Heap → Prop} {d : DefRec} {K : Params → PySem.W.Frag} (hn : l.most = some 63) (hdf : d.params.defaults = [])
    (hY : ∀ (w : World) (h : Heap), YP w h → (K w.params).In h) (hT : ∀ w : World, PySem.W.nsIn (K w.params) mainGlobals "is_number_text" = some none)
    (F : ∀ (w : World) (mg : Str → Option Value) (fa : Addr) (h : Heap), (K w.params).In h → h.Ns mainGlobals mg → mg d.name = some (.ref fa) →
      ∃ fd : FuncData, (∀ (s : Shared) (u : Value), BindsTo s fd ⟨[u], []⟩ [("_law_script", u)]) ∧ ∀ base : Heap, (K w.params).In base → base.Ns mainGlobals mg → FnOk l.prog w (K w.params) mg base CX0 8 fa fd ["_law_script"] (L3.spLaw (K w.params))) :
    PySem.W.WalkO q loose XP YP l.row.toRowW d [] (fun f vs => PySem.call f vs) :=
  L2.walk_of (n := 63) (k := 8) (x := "_law_script") (CX := fun _ => CX0) (sp := fun w => L3.spLaw (K w.params)) hn (by decide) hdf ⟨rfl, by decide, by decide⟩ hY F (fun w _ a ns hl _ hS => ⟨a, ns, rfl, hS, hl, Tb.none (hT w), fun _ _ => rfl⟩) fun _ _ _ _ _ z => z
end Fr
namespace Fr
open PySem
def vwAt (i : Nat) : Stmt := PySem.Challenge.pw_fractionroads_k71_told_by_forms.main.body.getD i (.Pass ⟨0, 0, 0, 0⟩)
def vw : Program := { PySem.Challenge.pw_fractionroads_k71_told_by_forms with main := { PySem.Challenge.pw_fractionroads_k71_told_by_forms.main with body := [vwAt 0, vwAt 2, vwAt 3, vwAt 4, vwAt 5, vwAt 6, vwAt 7, vwAt 9, vwAt 10, vwAt 11, vwAt 12, vwAt 14, vwAt 15, vwAt 16, vwAt 17, vwAt 18, vwAt 19, vwAt 21, vwAt 22, vwAt 23, vwAt 25, vwAt 26, vwAt 27, vwAt 28, vwAt 29, vwAt 30, vwAt 31, vwAt 32, vwAt 33, vwAt 35, vwAt 36, vwAt 37, vwAt 38, vwAt 39, vwAt 40, vwAt 41, vwAt 42, vwAt 43, vwAt 44, vwAt 45, vwAt 46] } }
end Fr
open PySem PySem.W PyProof.Rows
local macro_rules | `(tactic| o_head $H) => `(tactic| refine holds_open (q := Fr.vw) (loose := []) (Xt := fun s => xlAt Fr.vw [] s && recOk (RowW.records (OpenRow.toRowW (OpenLaw.row PySem.Challenge.rw_fractionroads_k71_told_by_forms))) s) (XP := XL Fr.vw []) (Yf := Hook.obs $H) (Ya := Hook.val $H) (YP := Hook.says $H) (N := 20100) ?hl (Hook.of $H) (Hook.keeps $H) (fun s e => xl_of s (Bool.and_eq_true_iff.mp e).1) XL.keeps (by rfl) (by rfl) (by rfl) (fun s e => recFacts_of (Bool.and_eq_true_iff.mp e).2) (by rfl) (by assumption) (by decide +kernel) ⟨rfl, rfl, rfl, rfl, rfl, by decide +kernel⟩ ?hw ?hc)
def Fr.topRun (w : World) : Option Shared := openEnds treeTable PySem.Challenge.pw_fractionroads_k71_told_by_forms w 20100
lay_quick Fr.topRun
set_option maxRecDepth 100000 in
set_option maxHeartbeats 0 in
theorem PySem.Challenge.cw_fractionroads_k71_told_by_forms_holds : PySem.Challenge.rw_fractionroads_k71_told_by_forms.Holds := by
  w_on; o_law; k_head
  (case hw => w_witness2)
  (case hl => intro w; refine (congrArg (Option.map _) (congrFun PySem.W.Fast.te1390306406435745066 w)).trans ?_; kernel_rfl)
  k_fill
  refine Fr.walk (l := PySem.Challenge.rw_fractionroads_k71_told_by_forms) rfl rfl (fun w h Y => PySem.W.kIn_of Y) ?T ?F
  case T => intro w; k_is
  case F =>
    intro w mg fa h KX G hmg
    refine' Fr.all_mk KX G hmg ?aCC1 ?pgC1 ?hdC1 ?poC1 ?saC1 ?mkC1 ?kcC1 ?nC1_modulus ?nC1_all_symbols ?nC1_pair_numbers ?a1 ?l1 ?c1 ?k1 ?a2 ?l2 ?c2 ?k2 ?a3 ?l3 ?c3 ?k3 ?a4 ?l4 ?c4 ?k4 ?a5 ?l5 ?c5 ?k5 ?a6 ?i6 ?l6 ?c6 ?k6 ?a7 ?l7 ?c7 ?k7 ?a8 ?l8 ?c8 ?k8 ?a9 ?l9 ?c9 ?k9 ?a10 ?i10 ?l10 ?c10 ?k10 ?a11 ?l11 ?c11 ?k11 ?a12 ?l12 ?c12 ?k12 ?a13 ?l13 ?c13 ?k13 ?a14 ?l14 ?c14 ?k14 ?a15 ?l15 ?c15 ?k15 ?a16 ?l16 ?c16 ?k16 ?a17 ?l17 ?c17 ?k17 ?a18 ?l18 ?c18 ?k18 ?a19 ?l19 ?c19 ?k19 ?a20 ?i20 ?l20 ?c20 ?k20 ?a21 ?i21 ?l21 ?c21 ?k21 ?a22 ?i22 ?l22 ?c22 ?k22 ?a23 ?l23 ?c23 ?k23 ?a24 ?l24 ?c24 ?k24 ?a25 ?l25 ?c25 ?k25 ?a26 ?l26 ?c26 ?k26 ?a27 ?l27 ?c27 ?k27 ?a28 ?l28 ?c28 ?k28 ?a29 ?l29 ?c29 ?k29 ?a30 ?l30 ?c30 ?k30 ?a31 ?l31 ?c31 ?k31 ?a32 ?l32 ?c32 ?k32 ?a33 ?l33 ?c33 ?k33 ?a34 ?l34 ?c34 ?k34 ?a35 ?l35 ?c35 ?k35 ?aXNoLevel ?q_NoLevel ?aXNoSymbol ?q_NoSymbol ?aXNoForm ?q_NoForm ?aXNoDeed ?q_NoDeed ?aXNoPart ?q_NoPart ?aILAST_LEVEL ?aILEAST_SIZE ?aILAST_DEED ?z_len ?z_abs ?z_int ?z_max ?z_min ?z_range ?z_isinstance ?z_bool ?z_tuple ?z_list ?z_str ?z_zip ?z_all ?z_divmod ?z_enumerate ?z_sum ?z_sorted ?z_any ?z_dict ?z_reversed
    (case aCC1 => k_is)
    (case pgC1 => k_is)
    (case hdC1 => k_is)
    (case poC1 => k_is)
    (case saC1 => k_is)
    (case mkC1 => k_is)
    (case kcC1 => k_is)
    (case nC1_modulus => k_is)
    (case nC1_all_symbols => k_is)
    (case nC1_pair_numbers => k_is)
    (case a1 => k_is)
    (case l1 => k_is)
    (case c1 => k_is)
    (case k1 => k_is)
    (case a2 => k_is)
    (case l2 => k_is)
    (case c2 => k_is)
    (case k2 => k_is)
    (case a3 => k_is)
    (case l3 => k_is)
    (case c3 => k_is)
    (case k3 => k_is)
    (case a4 => k_is)
    (case l4 => k_is)
    (case c4 => k_is)
    (case k4 => k_is)
    (case a5 => k_is)
    (case l5 => k_is)
    (case c5 => k_is)
    (case k5 => k_is)
    (case a6 => k_is)
    (case i6 => k_is)
    (case l6 => k_is)
    (case c6 => k_is)
    (case k6 => k_is)
    (case a7 => k_is)
    (case l7 => k_is)
    (case c7 => k_is)
    (case k7 => k_is)
    (case a8 => k_is)
    (case l8 => k_is)
    (case c8 => k_is)
    (case k8 => k_is)
    (case a9 => k_is)
    (case l9 => k_is)
    (case c9 => k_is)
    (case k9 => k_is)
    (case a10 => k_is)
    (case i10 => k_is)
    (case l10 => k_is)
    (case c10 => k_is)
    (case k10 => k_is)
    (case a11 => k_is)
    (case l11 => k_is)
    (case c11 => k_is)
    (case k11 => k_is)
    (case a12 => k_is)
    (case l12 => k_is)
    (case c12 => k_is)
    (case k12 => k_is)
    (case a13 => k_is)
    (case l13 => k_is)
    (case c13 => k_is)
    (case k13 => k_is)
    (case a14 => k_is)
    (case l14 => k_is)
    (case c14 => k_is)
    (case k14 => k_is)
    (case a15 => k_is)
    (case l15 => k_is)
    (case c15 => k_is)
    (case k15 => k_is)
    (case a16 => k_is)
    (case l16 => k_is)
    (case c16 => k_is)
    (case k16 => k_is)
    (case a17 => k_is)
    (case l17 => k_is)
    (case c17 => k_is)
    (case k17 => k_is)
    (case a18 => k_is)
    (case l18 => k_is)
    (case c18 => k_is)
    (case k18 => k_is)
    (case a19 => k_is)
    (case l19 => k_is)
    (case c19 => k_is)
    (case k19 => k_is)
    (case a20 => k_is)
    (case i20 => k_is)
    (case l20 => k_is)
    (case c20 => k_is)
    (case k20 => k_is)
    (case a21 => k_is)
    (case i21 => k_is)
    (case l21 => k_is)
    (case c21 => k_is)
    (case k21 => k_is)
    (case a22 => k_is)
    (case i22 => k_is)
    (case l22 => k_is)
    (case c22 => k_is)
    (case k22 => k_is)
    (case a23 => k_is)
    (case l23 => k_is)
    (case c23 => k_is)
    (case k23 => k_is)
    (case a24 => k_is)
    (case l24 => k_is)
    (case c24 => k_is)
    (case k24 => k_is)
    (case a25 => k_is)
    (case l25 => k_is)
    (case c25 => k_is)
    (case k25 => k_is)
    (case a26 => k_is)
    (case l26 => k_is)
    (case c26 => k_is)
    (case k26 => k_is)
    (case a27 => k_is)
    (case l27 => k_is)
    (case c27 => k_is)
    (case k27 => k_is)
    (case a28 => k_is)
    (case l28 => k_is)
    (case c28 => k_is)
    (case k28 => k_is)
    (case a29 => k_is)
    (case l29 => k_is)
    (case c29 => k_is)
    (case k29 => k_is)
    (case a30 => k_is)
    (case l30 => k_is)
    (case c30 => k_is)
    (case k30 => k_is)
    (case a31 => k_is)
    (case l31 => k_is)
    (case c31 => k_is)
    (case k31 => k_is)
    (case a32 => k_is)
    (case l32 => k_is)
    (case c32 => k_is)
    (case k32 => k_is)
    (case a33 => k_is)
    (case l33 => k_is)
    (case c33 => k_is)
    (case k33 => k_is)
    (case a34 => k_is)
    (case l34 => k_is)
    (case c34 => k_is)
    (case k34 => k_is)
    (case a35 => k_is)
    (case l35 => k_is)
    (case c35 => k_is)
    (case k35 => k_is)
    (case aXNoLevel => k_is)
    (case q_NoLevel => k_exc)
    (case aXNoSymbol => k_is)
    (case q_NoSymbol => k_exc)
    (case aXNoForm => k_is)
    (case q_NoForm => k_exc)
    (case aXNoDeed => k_is)
    (case q_NoDeed => k_exc)
    (case aXNoPart => k_is)
    (case q_NoPart => k_exc)
    (case aILAST_LEVEL => k_is)
    (case aILEAST_SIZE => k_is)
    (case aILAST_DEED => k_is)
    (case z_len => k_is)
    (case z_abs => k_is)
    (case z_int => k_is)
    (case z_max => k_is)
    (case z_min => k_is)
    (case z_range => k_is)
    (case z_isinstance => k_is)
    (case z_bool => k_is)
    (case z_tuple => k_is)
    (case z_list => k_is)
    (case z_str => k_is)
    (case z_zip => k_is)
    (case z_all => k_is)
    (case z_divmod => k_is)
    (case z_enumerate => k_is)
    (case z_sum => k_is)
    (case z_sorted => k_is)
    (case z_any => k_is)
    (case z_dict => k_is)
    (case z_reversed => k_is)
